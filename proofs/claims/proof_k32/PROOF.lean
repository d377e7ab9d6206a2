import PyProof.Rows.All
import Wide.All
import OpenK.AllK
import Wide.FinOn
import PyProof.EqAt
import PyProof.EqKinds
import PyProof.TupleCall
import PyProof.ExcBaseAll.ValueError
import PyProof.ExcArgsOwn
import PyProof.ExcInit
import PyProof.InstStoreFacts
import Lean
import PySem.Challenge.RW_figurewheel_k32_sums
set_option linter.all false
set_option Elab.async false
set_option maxRecDepth 100000
set_option maxHeartbeats 4000000
set_option bootstrap.genMatcherCode false
set_option compiler.extract_closed false
set_option hygiene false
local macro_rules|`('&')=>`(⟨rfl,rfl,rfl,by decide +kernel,rfl,by decide +kernel,by decide +kernel⟩)
local macro_rules|`('#')=>`(Inv X pins σ H s)
local macro_rules|`('%')=>`((Zp (K:=K) rfl J.units))
local macro_rules|`('$')=>`(Cal P w K mg base)
local macro_rules|`('!')=>`(SR K H0 σ ρ)
set_option hygiene true
open List (mem_filterMap mem_map mem_range nodup_nil)
open Option renaming some->aa,isSome_map->ek,map_some->fK,isSome_some->iJ,bind_some->jh,getD_none->mj
open PySem renaming wpAny_bind->ac,wpAny_pure->af,Value->ag,PyData->aj,Addr->ao,Shared->ar,mainGlobals->au,wpAny->aw,model->aH,boot_len->aN,Str->aQ,starEach->aY,wpAny_mono->bx,Program->bC,compareOp->bE,wpAny_holding->bF,rawInt->bJ,mem_of_lookup->bK,Heap->bO,wpAny_truthy_bool->bT,wpAny_newObj_type->bU,World->bV,wpAny_field->bY,cellsFrom->b0,wpAny_setField->cb,wpAny_seqItems->cc,wpAny_call_entry->ci,wpAny_callSpecial?_slot->cn,Around->cG,cLine->cJ,sysModules->cR,wpAny_standAt->cW,Builtin->cZ,binaryOp->c4,codeAny_builtin->db,wpAny_rule->dm,wpAny_pyIter_tuple->dq,wpAny_Call_Name_kw->dt,tupleKind_room_in1->du,eval->dz,backTo->dC,pushCells->dF,sizeLine_eq->dG,ExcBaseFacts->dH,plainId_quiet->dO,Expr->dW,Obj->d9,codeAny_mono->eA,IsPair->eB,wpAny_passesOwn->eJ,wpAny_setState_of->eO,wpAny_isInstance->eV,attributeBase->e8,Scope->e_,wpAny_specialOf->fb,pushCells_keeps->fc,wpAny_setField_rec->ff,wpAny_call->fg,scanBound->fj,atKey->fk,wpAny_loadPart_at->fy,bootBuiltins->fz,SetTable->fA,NameKind->fB,FuncData->fC,pyNext->fU,codeAmong->fV,assignEach->fW,wpAny_attempt->fY,codeAny->fZ,wpAny_letGo->gc,unbindBehindTheSuite->gd,sliceBounds->gf,excClassObj->gg,wpAny_updateSeq->gu,wpAny_ite_split->gv,wpAny_execs_nil->gx,tupleKind->gE,wpAny_tryCatch->gJ,Stmt->gK,wpAny_pyIter_list->gV,wpAny_pyIter_enum->gW,foldedSetIterable->gX,fits_of_scanBound->gY,atKey_none_of_get->gZ,BindsTo->g5,wpAny_forIn_list->ic,IsZip->ie,isInstance->iq,builtinsNs->ir,wpAny_loadPart'->iI,isSubtype_tuple_tuple->iN,codeAny_handlers_test->iO,call->iP,Env->iS,relayAll->i5,newFunctionEnv->i6,firstArgMember->i7,codeAny_call_builtin->i8,Within->i9,pickOrder->jc,wpAny_setEntries_of->jl,wpAny_handleBy_cons->jm,wpAny_onRaise->ju,wpAny_in_heap->jv,behindInMarks->jw,wpAny_tupleItemsOf->jz,call_meets->jA,Paired->jD,IsPart->jE,wpAny_typeOf->jM,wpAny_Call_ofName->jN,valueAt->jO,holding->jQ,getItem->jR,concat_meets->jS,callerA->jT,argBest->jU,ZipApart->jV,wpAny_askSetting->j7,swapsWith->j8,seqItems?->j9,noFill_tuple_add->j_,checkBuiltinCall->ka,wpAny_of_eq->ki,wpAny_alloc->kj,keywordEach->kl,KeyKind->km,letOwnedTupleGo->kA,codeAny_of_tree->kB,storedH->kH,Keyword->kM,wpAny_loadPart->kW,wpAny_letOwnedTupleGo_enum->kX,strKind_is->kY,isSubtype_type->kZ,dictSetDefault->k8,assign->k9,PlainAttrs->lg,GenState->lh,codeAny_handlers_suite_as->lq,seq_tuple_add->lE,call_len_set->lF,updateSeq->lX,storeName->lY,field->lZ,eqIsQuiet->l8,bindL->l9,bindC->l_,TriplesOk->ma,Pos->md,Arguments->mh,tupleKeyHash->mv,setNextDrawn->mw,setItem->my,seqIndex_neg->mz,relabel->mB,pyIter->mC,argsOk->mD,Tok->mI,ElemsOf->mL,wpAny_storeName_local->mQ,codeAny_call_function->mR,builtinLookup_eq_fast->mS,wpAny_updateSeq_pair->mV,wpAny_point->mW,wpAny_letTemporaryGo->mX,subscripted->mY,storedH_new->mZ,seqIndex_of->m3,codeAny_extend_loopS->m4,bindArgs->m5,backToKw->m6,HeapKind->m8,Drawn->m9,wpAny_isSubtype_exc->ny,wpAny_setItem_heap->nI,wpAny_getItem_heap->nJ,wpAny_dictSet_heap->nK,wpAny_Name->nL,typeOf->nM,typeIs_str->nN,typeIs_int->nO,entryOfKey->nQ,wpAny_storeSet_of->nY,wpAny_pyIter_slot->nZ,wpAny_dictEntries->n3,wpAny_assign_Name->n4,setNext->n5,newList->n_,leaving->n',eqIsQuiet_byValue->oa,OwnTail->ol
open PySem.Heap renaming get?_push_of_some->ae,lt_size->ax,get?_push_size->az,get?_update_self->a8,get?_update_other->bd,size_push->bz,SameBut->cN,get?_update_ne->cO,get?_none_of_le->dy,MadeExcOf->j3,IsTuple->kN,ExtBut->lx,get?_push_at->mK
open List renaming length_map->ah,getElem?_eq_getElem->ai,getD_eq_getElem?_getD->am,length_append->ay,replicate->aB,range->aD,size_toArray->aR,getElem_mem->aV,getElem?_map->aW,mem_append_left->a9,mem_append_right->bi,idxOf_lt_length_of_mem->bq,map_map->bu,map_cons->bw,map_congr_left->bG,map_append->bH,append_assoc->bM,length_range->b9,replicate_succ->cf,mem_cons_of_mem->cg,append_nil->ck,lookup_cons->cB,length_cons->cC,find?_cons->dv,getElem_idxOf->dP,getElem?_range->d8,range_succ->eI,getElem?_append_left->eS,getElem?_eq_none->eW,flatten_cons->eX,length->e7,length_pos_of_mem->fe,not_mem_nil->fm,length_replicate->fv,reverse_cons->fF,foldl_append->fG,lookup->fM,length_singleton->fX,zip_cons_cons->f9,mem_singleton->f_,mem_cons_self->gb,mem_cons->gh,all_eq_true->gi,map_inj_right->gr,getElem?_append_right->gs,length_erase_of_mem->gG,getElem_append_left->gH,eq_of_mem_replicate->gI,foldl_cons->gO,filterMap_cons->gP,take_length->hE,length_take->hF,getElem_map->hH,ext_getElem->hJ,getElem_range->h_,getElem?_toArray->ib,mem_of_getElem?->ik,mem_erase_of_ne->im,getElem?_set_ne->ip,take_add_one->iD,nodup_append->iE,map_nil->iF,forIn_cons->iG,getElem_of_mem->iL,sum_cons->jb,idxOf_append->ji,forIn_nil->jj,zipIdx_cons->jx,cons_append->jy,of_mem_zip->jI,length_set->jJ,idxOf_cons->jK,map->j6,getElem?_take_of_lt->ku,filter_cons->kx,take_of_length_le->kS,getElem?_set_self->kT,filterMap_eq_map'->kU,nil_append->lj,length_nil->lk,filterMap_append->ll,length_eraseIdx->ly,length_zipWith->lS,length_reverse->lT,map_singleton->ml,length_zipIdx->mm,foldl->mn,filterMap_map->mo,contains_cons->mq,ext_getElem?->mO,length_drop->mU,zipIdx_nil->nj,length_zip->nk,countP_map->nn,any_cons->nq,nodup_cons->nU,mem_append->nV,zipWith->ow,all_map->oy
open Bool renaming true->ak,false_ne_true->aA,false->aF,and_eq_true->aP,false_eq_true->bn,not_true->dB,eq_iff_iff->eY,not_eq_true'->jk,true_and->ky,and_true->kz,or_eq_false_iff->lC,or_eq_true->nu,not_false->nH,or_false->nW,or_true->oA
open Nat renaming le_refl->aq,ne_of_lt->aE,lt_of_lt_of_le->aM,le_trans->aT,eq_zero_or_pos->aX,lt_succ_of_lt->bp,ne_of_gt->bt,zero_le->bP,le_succ->cz,lt_irrefl->cA,le_of_lt->cP,mul_mod->df,lt_succ_self->dg,lt_trichotomy->dA,pow_add->fN,le_add_right->gU,zero_add->hV,pow_succ->hZ,mul_comm->h7,mod_mod->iC,mul_assoc->i4,lt_of_le_of_lt->ja,mod_lt->kh,add_assoc->kF,lt_add_of_pos_right->kR,one_mul->lQ,not_succ_le_self->lR,gcd->mT,min_le_right->ng,le_of_not_lt->nh,le_of_dvd->ou
open Or renaming inl->aC,inr->de
open PySem.Value renaming ref->aG,none->bI,type->cY,str->eZ,builtin->fx,int->f8,bool->gQ,float->lf,isStrOf->nC,isInt->oi,bytes->oj
open PySem.PyData renaming tuple->aI,int->aZ,str->bc,canLay0->bX,canLayAll0->cw,eqv->cH,list->da,eqvAll->fu,depth->fR,depthAll->gT,strOk->i2,none->jr,bool->kK
open PySem.W renaming Frag->aJ,mg_none_of->ba,kia_one->bv,fnOf->bA,nsIn->bL,kitOne->bW,hideAll_get->cr,findIn->cu,exmOne->cx,InstAt->cy,binds_K->cM,keepIn->cX,mg_of->c9,codeIn->dj,codeHdIn->dD,fnMade->e5,cellsFrom_some->e6,mroIn->fw,excIn->gy,hasDictIn->g0,kitAny->hQ,hideAll_none->hU,tail_of_in->iu,tabObj->iw,of_hideAll->ix,callWith_K->iz,methodObj->iQ,kitx_list->iR,OpenLaw->i_,looks_clsIn->jn,instObj->jo,hideAll->jp,exm_one->jq,lookIn->jB,specialIn->jW,funFrames_hide->kb,any_some->kc,takesIn->kC,kitx_tuple->k_,isNs_of_in->lc,set_plain->lr,kitx_none->lu,kitx_dict->lv,kitx_bool->lw,plainGet->lJ,kitx_str->lK,kitx_int->lM,WalkO->lN,tailIn->mE,nsOkIn->mF,looks_findIn->mG,handedIn->mH,takerIn->m7,fnX->nz,codeHd_of_K->nA,Looks->nB,findObj->og
open Int renaming toNat_natCast->aK,mul_le_mul_of_nonneg_left->bS,emod_lt_of_pos->di,emod_nonneg->er,mul_nonneg->eM,toNat_of_nonneg->eT,mul_le_mul_of_nonneg_right->fH,le_refl->fP,pow_succ->gj,mul_comm->gk,zero_mul->ia,toNat->iM,add_mul->jL,zero_add->ln,pow_zero->lp,mul_ediv_add_emod->lA,ediv_lt_of_lt_mul->lB,one_mul->lU,mul_assoc->oz
open PyProof.Rows renaming boot_isinstance->aO,boot_tuple->a_,boot_list->bQ,boot_set->cq,callWith_type1->cV,sortedS->dE,boot_sum->dL,risingS->dY,envOfC->dZ,StrsAre->d0,boot_sorted->fT,boot_bool->gp,boot_max->gA,boot_int->gB,boot_all->gC,AllBare->g_,wpAny_notIn_heap->ih,slot_tuple_getitem->ii,boot_enumerate->iX,IntsAre->j0,subscriptTail->lP,IsTup->mi,subscriptTail_builtinR->mM
open Option.some renaming inj->aS
open PySem.Spec renaming ltCps->aU
open Array renaming length_toList->bb,getElem?_eq_getElem->cQ,getElem?_eq_none->fa,getElem?_toList->fq,forIn_toList->iZ,toList_append->lD,find?_toList->lV,empty_append->lW,toList_push->mr,toList->nX
open Prod renaming snd->be,fst->gq,ext->j5
open PySem.PassesOwn renaming never->bg
open List.cons renaming injEq->bh,inj->eL
open PySem.Heap.SameBut renaming update->bj,refl->cS
open PySem.Obj renaming data_mapFields->bo,mapFields->bN,isFreed_of_fields->ce,mapSeq->eK,cls_mapFields->fh,putSet->i',data_mapDictKeys->lO
open PySem.F renaming plainAttrs_list->bB,slot_list_append->cD,plain_max_loop->cF,type_list_append->cT,slot_list_count->dU,excBase_ValueError->eD,slot_tuple_iterator_next->eR,type_list_count->eU,args_tuple_add_2->gz,entry_tuple_add->gD,slot_tuple_add->gL,entry_max_loop->gM,slot_zip_next->ij,slot_dict_setdefault->jt,plain_extend_loop->jH,plain_list_iadd->j4,args_tuple_iterator_next_1->ke,slot_set_iter->ko,plain_set_new->kq,entry_tuple_iterator_next->kr,slot_list_reverse->kO,slot_tuple_hash->nF,args_zip_next_1->nG,entry_zip_next->nT,slot_tuple_eq->oo,slot_int_rmul->oq,slot_dict_len->ot
open True renaming intro->bD
open Ne renaming symm->bR
open Subtype renaming val->bZ,ext->gm
open PySem.Builtin.SmallTypes renaming nextOf->b_,ownedTupleIsFree->cU,ownedTupleHandOut->gn
open PySem.PyData.tuple renaming inj->cj
open False renaming elim->cm
open PySem.Around renaming under_plainId->cE,under->kt,frames_deeper->kQ
open Nat.Coprime renaming mul_right->cK
open PySem.PyData.int renaming injEq->c3,inj->je
open Prod.mk renaming injEq->c_,inj->jg
open Classical renaming byContradiction->dh
open PySem.NameKind renaming free->dk,cell->dR
open PySem.Paired renaming length->dw,snoc->js
open PySem.Str renaming ofString->d3,empty->jC
open PySem.Builtin.Slice renaming slicePlaces->d_,sliceAdjust->fE,sliceApplied->iU
open PyProof.Rows.F renaming plain_set_update_loop->eh,entry_set_update_loop->gF
open Pure renaming pure->ej
open PySem.SetTable renaming grown->et,below->fQ,fits->mJ
open PySem.Builtin.Tuple renaming tupleExact->eE,tupleHashOf->fD,tupleItemsOf->iT
open PySem.Builtin.Int renaming intBits->eF
open PySem.Builtin.Str renaming occurrences->eP
open ForInStep renaming yield->eQ
open PySem.SeqAt renaming canLay_of_shaped->e9,shaped->nR,readOf->nS
open Sum renaming inl->fJ,inr->iH
open PySem.Builtin.List renaming listTooLong->fS,listLengthHint->iV,listExtendWith->iW,listSameRef->jf
open PySem.Txt renaming slice->gS
open PySem.Builtin.Builtins renaming bindParams->ig
open PySem.Data renaming cell->iA,fields->jF
open PySem.Calls renaming call_function_entry->iB,Name_function_global->jZ,callWith_builtin->kE,evalArgs_plain->li
open Nat.succ renaming inj->iK
open PUnit renaming unit->iY
open PySem.Code renaming quiet_builtin->i3,isFrame->kP
open PySem.PyData.str renaming inj->jd
open Int.ofNat renaming inj->jG
open PySem.pickOrder renaming go->jP
open PySem.W.Looks renaming here->jX
open PySem.SetTable.below renaming go->jY
open PySem.EntryCells renaming newEntry->kg
open Max renaming max->kG
open PySem.Shared renaming heap->kJ
open PySem.Within renaming cons->lG
open PySem.Walks renaming list->lH
open PySem.P renaming mul_str->mf
open Sum.inl renaming injEq->mP,inj->nw
open PySem.Builtin.Frozenset renaming updateFrom->m_,slot0->nc,newClass->nf
open MonadExcept renaming tryCatch->ni
open ForIn renaming forIn->nt
open Sum.inr renaming inj->nv
open PySem.ItemsOf renaming nil->nD
open PySem.Heap.Ns renaming new->nE
open PySem.W.WShape renaming has->oh
open PySem.Heap.IsSliceOf renaming new->om
namespace PySem
section
variable {prog:bC}{w:bV}{KT:Type}[DecidableEq KT](kd:km prog w KT)
def Yt(h:bO)(z:KT×List KT)(a:ao):Prop :=
 ∃ (ob:d9) (its:Array ag) (c:Nat) (u:ag) (b:ao),h.get? a=aa ob/\ob.cls=.type "tuple" /\ ob.data=.seq its c/\its.toList=[u,.ref b]/\kd.is z.1 u=ak/\IsTupleKey kd h z.2 b
def Sm(z:KT×List KT):Int:=reduceHash (fD [kd.hash z.1,mv kd z.2])
variable {kd}
theorem Yt.tp{s:ar}{z:KT×List KT}{a:ao}(x:Yt kd s.heap z a):s.TypeIs (.ref a) "tuple" :=
 let ⟨j,_,_,_,_,e,Y,_⟩:=x;⟨j,e,Y⟩
theorem Yt.one{h:bO}{a:ao}{y z:KT×List KT}(j:Yt kd h y a)(hz:Yt kd h z a):y=z:=by
 obtain⟨B,L,H,D,R,S,_,O,r,Z,I⟩:=j
 obtain⟨p,F,m,u,l,N,_,C,f,c,P⟩:=hz
 rw[S] at N
 cases N
 rw[O] at C
 cases C
 rw[r] at f
 cases f
 exact j5 (kd.inj _ _ _ Z c) (I.inj P)
theorem Yt.stay{h h':bO}{z:KT×List KT}{a d:ao}{ob:d9}{es ep}(x:Yt kd h z a)(hd:h.get? d=aa ob)(W:ob.data=.dict es ep)(P:cN d h h'):Yt kd h' z a:=by
 obtain⟨B,L,H,D,R,S,k1,O,r,Z,I⟩:=x
 have ne:a≠d:=λq=>by
  subst q
  rw[S] at hd
  cases hd
  rw[O] at W
  cases W
 exact⟨B,L,H,D,R,(P.2 a ne).trans S,k1,O,r,Z,I.keeps hd W P⟩
variable {A:cG}{E:ag->ar->Prop}{s:ar}
theorem LP{z:KT×List KT}{a:ao}{Q:Int->ar->Prop}(N:A.units<cJ/\A.in1.units<cJ)(hz:Yt kd s.heap z a)(q:Q (Sm kd z) { s with toks:=s.toks+(z.2.length+3) }) :
  aw (aH prog w) A (pyHash (.ref a)) Q E s:=by
 have tp:=hz.tp
 obtain⟨j,f,c,u,b,S,_,O,r,Z,I⟩:=hz
 unfold pyHash
 unfold pyHashByItsType
 refine ac (wpAny_cRoomFor_or (.inr N.1) ?_)
 refine ac (fb tp nF.lookup ?_)
 show aw _ A (if (aa (fx "tuple.__hash__") == aa bI)=ak then _ else _) Q E s
 rw[if_neg (by rw[beq_builtin_none];exact aA)]
 refine ac (fb tp nF.lookup ?_)
 show aw _ A (callSpecialIfBoundUnlessNone? (.ref a) "__hash__" _ >>= _) Q E s
 refine ac (wpAny_callSpecialIfBoundUnlessNone?_slot tp nF (ci nF tp F.entry_tuple_hash ?_ (F.args_tuple_hash_1 _)))
 show aw _ _ (iT (.ref a) >>= _) _ _ s
 refine ac (jz S O ?_)
 refine ac ?_
 rw[<- iZ,r]
 refine ic _
  (λrest (C:Array Int) s'=>(rest=[u,.ref b]/\C.toList=[]/\s'=s)\/(rest=[.ref b]/\C.toList=[kd.hash z.1]/\s'={ s with toks:=s.toks+1 })\/(rest=[]/\C.toList=[kd.hash z.1,mv kd z.2]/\s'={ s with toks:=s.toks+(z.2.length+2) }))
  _ ?_ ?_ _ _ (.inl ⟨rfl,rfl,rfl⟩)
 ·rintro x rest C s' (⟨r1,r2,rfl⟩|⟨r1,r2,rfl⟩|⟨r1,_⟩)
  ·cases r1
   refine ac (kd.pyHash Z ?_)
   first
    | exact af (.inr (.inl ⟨rfl,by simp[r2],rfl⟩))
    | exact ac (af (af (.inr (.inl ⟨rfl,by simp[r2],rfl⟩))))
  ·cases r1
   refine ac (wpAny_pyHash_tuple N.2 I ?_)
   first
    | exact af (.inr (.inr ⟨rfl,by simp[r2],by simp;omega⟩))
    | exact ac (af (af (.inr (.inr ⟨rfl,by simp[r2],by simp;omega⟩))))
  ·cases r1
 ·rintro C s' (⟨r1,_⟩|⟨r1,_⟩|⟨_,r2,rfl⟩)
  ·cases r1
  ·cases r1
  show aw _ _ (retInt (fD C.toList)) _ _ _
  rw[r2]
  refine wpAny_ret_mkInt ?_
  unfold Sm reduceHash at q
  generalize fD [kd.hash z.1,mv kd z.2]=W at q
  show aw _ A (if (decide (-(2:Int) ^ 63<=W) && decide (W<2 ^ 63))=ak then _ else _) Q E _
  split at q<;>rename_i hr
  ·rw[if_pos hr]
   exact af (by simpa [kF] using q)
  ·rw[if_neg hr]
   exact ac (dm (af (by simpa [kF] using q)))
theorem LQ{y z:KT×List KT}{a b:ao}{R:Fin->ar->Prop}(hu:A.units<cJ)(j:Yt kd s.heap y a)(hz:Yt kd s.heap z b)(q:R (.done (.ret (.bool (decide (y=z))))) s) :
  aw (aH prog w) A (cZ.«tuple.__eq__» ⟨[.ref a,.ref b],[]⟩) R E s:=by
 have T:=hz.tp
 obtain⟨B,L,H,D,Y,S,k1,O,X,Z,I⟩:=j
 obtain⟨p,F,m,u,l,N,k2,C,f,c,P⟩:=hz
 show aw _ A (iq (.ref b) (.type "tuple") >>= _) _ _ s
 refine ac (eV T iN ?_)
 simp only[dB,bn,if_false]
 refine ac (jz S O ?_)
 refine ac (jz N C ?_)
 have Q:(L.size == F.size)=true:=by
  have U:=congrArg e7 X
  have v:=congrArg e7 f
  rw[bb] at U v
  rw[U,v];rfl
 refine ac ?_
 rw[X,f]
 refine ic _
  (λK r M=>r.1=none/\M=s/\(K=[(D,u),(.ref Y,.ref l)]\/(K=[(.ref Y,.ref l)]/\y.1=z.1)\/(K=[]/\y=z)))
  _ ?_ ?_ _ _ ⟨rfl,rfl,.inl rfl⟩
 ·rintro x K r M ⟨J,rfl,g|⟨g,W⟩|⟨g,_⟩⟩
  ·cases g
   refine ac (kd.eqBool (a:=y.1) (b:=z.1) Z c ?_)
   by_cases h:y.1=z.1
   ·rw[decide_eq_true h]
    simp only[dB,bn,if_false]
    exact af ⟨rfl,rfl,.inr (.inl ⟨by trivial,h⟩)⟩
   ·rw[decide_eq_false h]
    simp only[nH,if_true]
    rw[decide_eq_false (λe=>h (by rw[e]))] at q
    exact ac (af (af (af q)))
  ·cases g
   refine ac (wpAny_eqBool_tuple hu I P ?_)
   by_cases h:y.2=z.2
   ·rw[decide_eq_true h]
    simp only[dB,bn,if_false]
    exact af ⟨rfl,rfl,.inr (.inr ⟨by trivial,j5 W h⟩)⟩
   ·rw[decide_eq_false h]
    simp only[nH,if_true]
    rw[decide_eq_false (λe=>h (by rw[e]))] at q
    exact ac (af (af (af q)))
  ·cases g
 ·rintro⟨g,G⟩ M ⟨J,rfl,i|⟨i,_⟩|⟨_,W⟩⟩
  ·cases i
  ·cases i
  simp only at J
  subst J
  refine af ?_
  show R (.done (.ret (.bool (L.size == F.size)))) M
  rw[Q]
  rw[decide_eq_true W] at q
  exact q
theorem LR{y z:KT×List KT}{a b:ao}{Q:Bool->ar->Prop}(N:A.units<cJ/\A.in1.units<cJ)(j:Yt kd s.heap y a)(hz:Yt kd s.heap z b)(q:Q (decide (y=z)) s) :
  aw (aH prog w) A (eqBool (.ref a) (.ref b)) Q E s:=by
 unfold eqBool
 try with_reducible refine bF ?_
 show aw _ A (if (aG a == aG b)=ak then _ else _) Q E s
 by_cases ab:(aG a == aG b)=ak
 ·rw[if_pos ab]
  have e:a=b:=by have:=eq_of_beq ab;injection this
  subst e
  have c:=j.one hz
  subst c
  exact ac (dm (af (by simpa using q)))
 ·rw[if_neg ab]
  exact ac (wpAny_richCompare_same_room (op:=.Eq) j.tp hz.tp oo (ci oo j.tp F.entry_tuple_eq (LQ N.2 j hz ⟨_,rfl,(λe=>nomatch e),bT q⟩) (F.args_tuple_eq_2 _ _)) N.1)
theorem LS{ks:List KT}{a:ao}{m:Nat}{Q:Bool->ar->Prop}(R:IsTupleKey kd s.heap ks a)(q:Q ak s):aw (aH prog w) A (l8 (m+1) (.ref a)) Q E s:=by
 have tp:=R.typeIs
 obtain⟨B,L,H,S,_,O,I⟩:=R
 unfold l8
 refine ac (fb tp oo.lookup ?_)
 show aw _ A (iq (.ref a) (.type "tuple") >>= _) _ _ s
 refine ac (eV tp iN ?_)
 simp only[dB,bn,if_false]
 refine ac (cc S O ?_)
 refine ac ?_
 show aw _ A (nt L _ _) _ _ s
 rw[<- iZ]
 refine ic _ (λK r M=>r.1=none/\M=s/\∀ v∈K,carriedByValue v=ak) _ ?_ ?_ _ _ ⟨rfl,rfl,I.byValue⟩
 ·rintro x K r M ⟨J,rfl,al⟩
  rw[oa _ (al x (.head _))]
  refine ac (af ?_)
  simp only[dB,bn,if_false]
  exact af ⟨rfl,rfl,λv N=>al v (.tail _ N)⟩
 ·rintro⟨g,G⟩ M ⟨J,rfl,_⟩
  simp only at J
  subst J
  exact af q
theorem LU{z:KT×List KT}{a:ao}{Q:Bool->ar->Prop}(hz:Yt kd s.heap z a)(q:Q ak s):aw (aH prog w) A (l8 8 (.ref a)) Q E s:=by
 have tp:=hz.tp
 obtain⟨B,L,H,D,R,S,_,O,b,Z,I⟩:=hz
 unfold l8
 refine ac (fb tp oo.lookup ?_)
 show aw _ A (iq (.ref a) (.type "tuple") >>= _) _ _ s
 refine ac (eV tp iN ?_)
 simp only[dB,bn,if_false]
 refine ac (cc S O ?_)
 refine ac ?_
 show aw _ A (nt L _ _) _ _ s
 rw[<- iZ,b]
 refine ic _ (λK r M=>r.1=none/\M=s/\(K=[D,.ref R]\/K=[.ref R]\/K=[])) _ ?_ ?_ _ _ ⟨rfl,rfl,.inl rfl⟩
 ·rintro x K r M ⟨J,rfl,g|g|g⟩
  ·cases g
   rw[oa _ (kd.byValue _ _ Z)]
   refine ac (af ?_)
   simp only[dB,bn,if_false]
   refine af ⟨rfl,rfl,?_⟩
   exact .inr (.inl (by trivial))
  ·cases g
   refine ac (LS I ?_)
   simp only[dB,bn,if_false]
   refine af ⟨rfl,rfl,?_⟩
   exact .inr (.inr (by trivial))
  ·cases g
 ·rintro⟨g,G⟩ M ⟨J,rfl,_⟩
  simp only at J
  subst J
  exact af q
end
def Wp{prog:bC}{w:bV}{KT:Type}[DecidableEq KT](kd:km prog w KT):m8 prog w (KT×List KT) where
 is:=Yt kd
 hash:=Sm kd
 draws:=λz=>z.2.length+3
 room:=λA=>A.units<cJ/\A.in1.units<cJ
 inj:=Yt.one
 keeps:=Yt.stay
 pyHash:=LP
 eqBool:=LR
 quiet:=LU
end PySem
namespace HT
open PySem PyProof.Rows
section
variable {prog:bC}{w:bV}{A:cG}{E:ag->ar->Prop}{s:ar}
theorem Kw{t b:ao}{vs ws:List ag}{Q:ag->ar->Prop}(l:mi s.heap t vs.toArray)(hb:mi s.heap b ws.toArray)(N:vs≠[])
  (h1:ws=[]->Q (.ref t) s) (O:ws≠[]->Q (.ref s.heap.objs.size) { s with heap:=s.heap.push { cls:=.type "tuple",data:=.seq (vs++ws).toArray } })
  (hsz:vs.length+ws.length<=sizeLine):aw (aH prog w) A (c4 .Add (.ref t) (.ref b)) Q E s:=by
 obtain⟨⟨cls,dd,data,y⟩,J,Y,n,hd⟩:=id l
 obtain⟨⟨j,h,i,f⟩,a,c,L,g⟩:=id hb
 simp only at Y hd c g
 subst Y hd c g
 have e:vs.toArray++ws.toArray=(vs++ws).toArray:=by simp
 by_cases R:ws=[]
 ·exact jS ⟨_,J,rfl⟩ ⟨_,a,rfl⟩ j_ lE gL gD (gz _ _)
   (tuple_addW1 t b vs.toArray ws.toArray n L dd h y f (by simpa using N) (by simp[R])) ⟨J,a,h1 R⟩
 ·refine jS ⟨_,J,rfl⟩ ⟨_,a,rfl⟩ j_ lE gL gD (gz _ _)
   (tuple_addW2 t b vs.toArray ws.toArray n L dd h y f (by simpa using N) (by simpa using R) (by rw[aR,aR];exact hsz)) ⟨J,a,?_⟩
  rw[e]
  exact O R
def sIx(n d:Nat):Option Int->Nat
 | none=>d
 | some v=>if v<0 then (v+(n:Int)).toNat else min v.toNat n
theorem Kx(n d:Nat)(hd:d<=n)(o:Option Int):sIx n d o<=n:=by
 cases o with
 | none=>exact hd
 | some v =>
  show (if v<0 then (v+(n:Int)).toNat else min v.toNat n)<=n
  by_cases N:v<0
  ·rw[if_pos N];omega
  ·rw[if_neg N];exact ng _ _
theorem Pk(v:Int)(n d:Nat):(if v<0 then kG (v+(n:Int)) 0 else min v (n:Int))=((sIx n d (aa v):Nat):Int):=by
 show (if v<0 then kG (v+(n:Int)) 0 else min v (n:Int))=(((if v<0 then (v+(n:Int)).toNat else min v.toNat n):Nat):Int)
 by_cases N:v<0
 ·simp only[if_pos N];omega
 ·simp only[if_neg N];omega
theorem Ky(lo hi:Option Int)(n:Nat):fE lo hi 1 (n:Int)=(((sIx n 0 lo:Nat):Int),((sIx n n hi:Nat):Int)):=by
 have Z:¬ ((1:Int)<0):=by omega
 unfold fE
 simp only[Z,if_false]
 refine j5 ?_ ?_
 ·cases lo with
  | none=>rfl
  | some v=>exact Pk v n 0
 ·cases hi with
  | none=>rfl
  | some v=>exact Pk v n n
theorem Kz(i j:Nat):d_ (i:Int) (j:Int) 1=j-i:=by
 unfold d_
 have Z:(1:Int) > 0:=by omega
 simp only[Z,if_true,Int.ediv_one]
 split<;>omega
theorem Pl{v:ag}{o:Option Int}{Q:Option Int->ar->Prop}(p:jE v o)(h:Q o s):aw (aH prog w) A (cZ.Slice.slicePartIndex v) Q E s:=by
 cases p with
 | none=>exact slicePart_none h
 | int i t=>exact slicePart_int h
theorem KA{sl:ao}{e c:ag}{lo hi:Option Int}{n:Nat}{Q:Int×Int×Nat->ar->Prop}(P:s.heap.IsSliceOf sl e c .none)(pl:jE e lo)(i:jE c hi)
  (h:Q (((sIx n 0 lo:Nat):Int),1,sIx n n hi-sIx n 0 lo) s):aw (aH prog w) A (iU (.ref sl) (ej (n:Int))) Q E s:=by
 obtain⟨L,b,f,g⟩:=id P
 unfold iU cZ.Slice.sliceFields
 refine ac (ac (bY b g (x:=e) rfl (ac (bY b g (x:=c) rfl (ac (bY b g (x:=.none) rfl (af ?_)))))))
 refine ac (slicePart_none ?_)
 show aw _ _ (if ((1:Int) == 0)=ak then _ else _) _ _ s
 rw[if_neg (by decide)]
 refine ac (Pl pl (ac (Pl i (ac (af ?_)))))
 show aw _ _ (match fE lo hi 1 (n:Int) with|(lo,hi)=>ej (lo,(1:Int),d_ lo hi 1)) _ _ s
 rw[Ky lo hi n]
 show aw _ _ (ej (((sIx n 0 lo:Nat):Int),(1:Int),d_ ((sIx n 0 lo:Nat):Int) ((sIx n n hi:Nat):Int) 1)) _ _ s
 rw[Kz]
 exact af h
theorem KB(xs:Array ag)(i k:Nat):((aD k).filterMap λ(m:Nat)=>xs[((i:Int)+(m:Int)*1).toNat]?).toArray=((xs.toList.drop i).take k).toArray:=by
 have e:(λ(m:Nat)=>xs[((i:Int)+(m:Int)*1).toNat]?)=λm=>xs[i+m]?:=by
  funext m
  have:((i:Int)+(m:Int)*1).toNat=i+m:=by omega
  rw[this]
 rw[e]
 have:=pick_run xs i k
 rw[mo] at this
 have N:((λx=>xs[x]?) ∘ λx=>i+x)=λm=>xs[i+m]?:=rfl
 rw[N] at this
 rw[this]
theorem KC{t sl:ao}{items:Array ag}{e c:ag}{lo hi:Option Int}{Q:ag->ar->Prop}(l:mi s.heap t items)(P:s.heap.IsSliceOf sl e c .none)(pl:jE e lo)(i:jE c hi)
  (hw:¬ (sIx items.size 0 lo=0/\sIx items.size items.size hi=items.size))
  (h:Q (.ref s.heap.objs.size) { s with heap:=s.heap.push { cls:=.type "tuple",data:=.seq ((items.toList.drop (sIx items.size 0 lo)).take (sIx items.size items.size hi-sIx items.size 0 lo)).toArray } })
  (hsz:items.size<=sizeLine):aw (aH prog w) A (jR (.ref t) (.ref sl)) Q E s:=by
 have a:sizeOk (.seq ((items.toList.drop (sIx items.size 0 lo)).take (sIx items.size items.size hi-sIx items.size 0 lo)).toArray):=by
  show ((items.toList.drop (sIx items.size 0 lo)).take (sIx items.size items.size hi-sIx items.size 0 lo)).toArray.size<=sizeLine
  rw[aR,hF,mU,bb]
  omega
 have u:sIx items.size items.size hi<=items.size:=Kx _ _ (aq _) hi
 obtain⟨L,b,f,g⟩:=id P
 have j:s.TypeIs (.ref sl) "slice" := ⟨L,b,f⟩
 unfold jR
 try with_reducible refine bF ?_
 first|refine ac (af ?_)|skip
 refine ac (wpAny_sequenceKey l.typeIs (by decide) ?_)
 refine ac (cn (name:=d3 "__getitem__") l.typeIs ii
  (ci ii l.typeIs entry_tuple_getitem ?_ (args_tuple_getitem _ _)))
 show aw _ _ (iT (.ref t) >>= _) _ _ s
 refine ac (tupleItemsOf_ l ?_)
 refine ac (jM j ?_)
 rw[if_pos (by decide)]
 refine ac (KA P pl i ?_)
 have I:¬ ((((sIx items.size 0 lo:Nat):Int) == 0 && (1:Int) == 1 && (sIx items.size items.size hi-sIx items.size 0 lo) == items.size)=ak):=by
  intro q
  rw[aP,aP] at q
  have r:((sIx items.size 0 lo:Nat):Int)=0:=eq_of_beq q.1.1
  have p:sIx items.size items.size hi-sIx items.size 0 lo=items.size:=eq_of_beq q.2
  exact hw ⟨by omega,by omega⟩
 show aw _ _ (if (((sIx items.size 0 lo:Nat):Int) == 0 && (1:Int) == 1 && (sIx items.size items.size hi-sIx items.size 0 lo) == items.size)=ak then _ else _) _ _ s
 rw[if_neg I,KB]
 first
  | exact ac (m:=eE _) (bU (af ⟨_,rfl,af h⟩) a)
  | exact ac (m:=eE _) (bU (ac (af (af ⟨_,rfl,af h⟩))) a)
  | exact ac (ac (m:=eE _) (bU (af (af ⟨_,rfl,af h⟩)) a))
  | exact ac (ac (m:=eE _) (bU (af ⟨_,rfl,af h⟩) a))
end
end HT
namespace Att
open PySem PySem.W PySem.Calls PyProof.Rows
theorem K7{P:Params}{h:bO}:∀ (ns:List Int) (vs:List ag),WellAll P h vs (ns.map WData.int)->j0 vs ns:=by
 intro ns
 induction ns with
 | nil =>
  intro vs w
  rw[iF] at w
  cases w
  exact .nil
 | cons n ns E =>
  intro vs w
  rw[bw] at w
  cases w with
  | cons a b =>
   cases a
   exact .cons _ _ (E _ b)
theorem K8{l:i_}{n:Nat}(hn:l.most=aa n){P:Params}{h:bO}{args:List WData}{e:List ag}
  (c:l.row.toRowW.claim.pre args=ak) (g:WellAll P h e args) :
  ∃ a vs ns,e=[aG a]/\args=[WData.list (ns.map WData.int)]/\h.get? a=aa { cls:=.type "list",data:=.seq vs.toArray }/\j0 vs ns/\ns.length<=n:=by
 have f:WShape.hasAll [] args [.list .int]=true:=(pre_splitW c).1
 have i:l.pre.holds [] { args:=args }=true:=(pre_splitW c).2
 obtain⟨d,r,rfl,Z,O⟩:=hasAllW_cons f
 obtain rfl:=hasAllW_nil O
 obtain⟨xs,rfl,B⟩:=hasW_list Z
 obtain⟨ns,rfl⟩:=items_int B
 have K:ns.length<=n:=by
  unfold i_.pre at i
  have F:(WTm.not (.lt (.lit (.int (n:Int))) (.len (.arg 0)))).holds [] { args:=[.list (ns.map .int)] }=true:=by
   have F:=(holds_andW i).1
   rw[hn] at F
   exact F
  have Y:=condW_of F (w_not (w_lt w_lit (w_len_list (w_arg rfl))))
  rw[ah] at Y
  refine nh λq=>?_
  have q':(n:Int)<((ns.length:Nat):Int):=by omega
  first
   | (rw[decide_eq_true q'] at Y;exact absurd Y (by decide))
   | (simp at Y;omega)
 cases g with
 | cons b G =>
  cases G
  cases b with
  | list J p=>exact⟨_,_,ns,rfl,rfl,J,K7 ns _ p,K⟩
theorem K9(l:i_)(args:List WData):l.row.toRowW.claim.post args (.bool ak) args=true :=
 postW_of (r:=l.row.toRowW) (X:=(ak == ak))
  (show oh [] (.bool ak) .bool=ak by first|rfl|decide|simp[oh,WShape.arms,WShape.armsAll])
  (show (WTm.eq .res (.lit (.bool ak))).value [] { args:=args,res:=aa (.bool ak),after:=args }=aa (.bool (ak == ak)) from w_eq_bool (w_res rfl) w_lit) rfl
end Att
namespace PySem
section
variable {prog:bC}{w:bV}{K:Type}[DecidableEq K]{knd:m8 prog w K}{A:cG}{E:ag->ar->Prop}{s:ar}
theorem GW{d a:ao}{xs:List (K×ao×ag)}{k:K}{v:ag}{Q:ag->ar->Prop}(i:knd.room A)(l:knd.is s.heap k a)(hm:s.heap.DictOfH knd d xs)
  (h1:∀ p,fk xs k=aa p->Q p.2 { s with toks:=s.toks+knd.draws k })
  (O:fk xs k=none->∀ h',h'.DictOfH knd d (kH xs k a v)->cN d s.heap h'->Q v { s with heap:=h',toks:=s.toks+knd.draws k })
  (hsz:xs.length<=sizeLine):aw (aH prog w) A (k8 d (.ref a) v) Q E s:=by
 obtain⟨o,es,f,J,Y,hd,G,b,g⟩:=hm
 unfold k8
 try with_reducible refine bF ?_
 refine ac (knd.pyHash i l ?_)
 refine ac (wpAny_dictFind_heap (s:={ s with toks:=s.toks+knd.draws k }) i l J hd G b g ?_ ?_)
 ·intro I
  have c:k∉xs.map (·.1):=not_mem_keys_of_get I
  refine ac (dm (ac (wpAny_updateDictKeys (hz:=by have e:=size_of_entries G;omega) (s:={ s with toks:=s.toks+knd.draws k }) J hd (af (O (gZ I) _ ⟨_,_,f+1,a8 _ J (d9.isFreed_of_dict (lO hd _)),
   Y.mapDictKeys _,lO hd _,?_,?_,?_⟩ (bj ..))))))
  ·rw[mZ (gZ I)]
   simp[G,nQ]
  ·rw[mZ (gZ I)]
   intro x W
   rcases nV.mp W with W|W
   ·exact knd.keeps (b x W) J hd (bj ..)
   ·simp only[f_] at W
    subst W
    exact knd.keeps l J hd (bj ..)
  ·rw[mZ (gZ I)]
   rw[bH,iE]
   refine⟨g,by simp,?_⟩
   intro x W y h
   simp only[bw,iF,f_] at h
   subst h
   exact λe=>c (e▸W)
 ·intro j p u
  refine ac (n3 (s:={ s with toks:=s.toks+knd.draws k }) J hd ?_)
  rw[entry_at G j,u]
  exact ac (dm (af (h1 p (atKey_of_get g u))))
theorem GX(knd:m8 prog w K)(d a:ao)(hd:(d == cR)=aF)(v:ag) :
  MeetsIn prog w (cZ.«dict.setdefault» ⟨[.ref d,.ref a,v],[]⟩) (λA R s=>knd.room A.in1/\∃ k xs,knd.is s.heap k a/\s.heap.DictOfH knd d xs/\xs.length<=sizeLine /\
   (∀ p,fk xs k=aa p->R (.ok (.ret p.2)) { s with toks:=s.toks+knd.draws k }) /\
   (fk xs k=none->∀ h',h'.DictOfH knd d (kH xs k a v)->cN d s.heap h'->R (.ok (.ret v)) { s with heap:=h',toks:=s.toks+knd.draws k })) :=
 .of_wp λA R s ⟨hu,k,xs,hkey,hm,hz,h1,h2⟩=>by
  unfold cZ.«dict.setdefault»
  refine ac ?_
  unfold cZ.Dict.keyAndDefault
  refine ac (wpAny_notOrdered_dict hm.typeIs ?_)
  show aw _ _ (ej (d,aG a,aa v)) _ _ s
  refine af ?_
  show aw _ _ (if (d == cR)=ak then _ else (k8 d (.ref a) v >>= _)) _ _ s
  rw[if_neg (by rw[hd];exact aA)]
  exact ac (GW hu hkey hm (λp T=>af ⟨p.2,rfl,h1 p T⟩) (λg h' b y=>af ⟨v,rfl,h2 g h' b y⟩) hz)
theorem GY(knd:m8 prog w K)(d:ao)(hd:(d == cR)=aF) :
  MeetsIn prog w (cZ.«dict.__len__» ⟨[.ref d],[]⟩) (λ_ R s=>∃ xs,s.heap.DictOfH knd d xs/\R (.ok (.ret (.int xs.length s.toks))) { s with toks:=s.toks+1 }) :=
 .of_wp λA R s ⟨xs,hm,h⟩=>by
  obtain⟨o,es,f,J,Y,a,G,b,g⟩:=hm
  have hsz:es.size=xs.length:=size_of_entries G
  show aw _ _ (dictSize d >>= _) _ _ s
  unfold dictSize
  refine ac (ac (n3 J a (af ?_)))
  show aw _ _ (cZ.Dict.pendingCount d >>= _) _ _ s
  refine ac (wpAny_pendingCount_other hd ?_)
  refine wpAny_ret_mkInt ?_
  rw[Nat.add_zero,hsz]
  exact h
theorem GZ{d:ao}{xs:List (K×ao×ag)}{Q:ag->ar->Prop}(hd:(d == cR)=aF)(hm:s.heap.DictOfH knd d xs)(i:(xs.length:Int)<2 ^ 63)
  (h:Q (.int xs.length (s.toks+1)) { s with toks:=s.toks+1+1 }):aw (aH prog w) A (call (.builtin "len") [.ref d]) Q E s:=by
 refine iB kind_len plain_len entry_len (args_len1 _) ?_
 unfold cZ.«len»
 refine ac (m:=oneArg "len" _) (af ?_)
 refine ac (m:=callSpecial? (.ref d) (d3 "__len__")) (cn (name:=d3 "__len__") hm.typeIs ot
  (call_meetsIn ot hm.typeIs F.entry_dict_len (F.args_dict_len_1 _) (GY knd d hd) ⟨xs,hm,?_⟩))
 show aw _ _ _ _ _ { s with toks:=s.toks+1 }
 refine ac (bF (af ?_))
 refine ac (gc ?_)
 show aw _ _ (if ((xs.length:Nat):Int)<0 then _ else _) _ _ _
 rw[if_neg (by omega)]
 show aw _ _ (if ((xs.length:Nat):Int)≥2 ^ 63 then _ else _) _ _ _
 rw[if_neg (by omega)]
 exact ac (wpAny_mkInt (af ⟨_,rfl,h⟩))
end
end PySem
namespace L2
local macro_rules|`(tactic|omega)=>`(tactic|first|assumption|lia|omega (config:={}))
open PySem PySem.Spec PyProof.Rows
abbrev Key:=Sum Int aQ
def WU:Key->ag->Bool
 | .inl k,v=>oi k v
 | .inr x,v=>nC x v
def keyH(w:bV):Key->Int
 | .inl k=>hashInt k
 | .inr x=>hashStr w x
theorem XA:∀ {k:Key} {v:ag},WU k v=ak->(∃ i t,k=fJ i/\v=f8 i t)\/(∃ x t,k=iH x/\v=eZ x t)
 | .inl i,v,h=>by
  obtain⟨t,e⟩:=ag.isInt_shape (k:=i) (v:=v) h
  exact .inl ⟨i,t,rfl,e⟩
 | .inr x,v,h=>by
  obtain⟨t,e⟩:=ag.isStrOf_shape (x:=x) (v:=v) h
  exact .inr ⟨x,t,rfl,e⟩
theorem LH(i:Int)(t:mI):WU (.inl i) (.int i t)=true:=by simp[WU,oi]
theorem LI(x:aQ)(t:mI):WU (.inr x) (.str x t)=true:=by simp[WU,nC]
theorem LJ(a b:Int):decide ((fJ a:Key)=fJ b)=(a == b):=by
 by_cases e:a=b
 ·subst e;simp
 ·have h:¬ (fJ a:Key)=fJ b:=λq=>e (nw q)
  rw[decide_eq_false h]
  exact (beq_eq_false_iff_ne.mpr e).symm
theorem LK(a b:aQ):decide ((iH a:Key)=iH b)=decide (a=b):=by
 by_cases e:a=b
 ·subst e;simp
 ·have h:¬ (iH a:Key)=iH b:=λq=>e (nv q)
  rw[decide_eq_false h,decide_eq_false e]
theorem LL(a:Int)(b:aQ):decide ((fJ a:Key)=iH b)=false:=decide_eq_false (λq=>nomatch q)
theorem LM(a:aQ)(b:Int):decide ((iH a:Key)=fJ b)=false:=decide_eq_false (λq=>nomatch q)
def ZS(prog:bC)(w:bV):km prog w Key where
 is:=WU
 hash:=keyH w
 inj:=λv a b ha hb=>by
  rcases XA ha with⟨i,t,rfl,rfl⟩|⟨x,t,rfl,rfl⟩
  ·rcases XA hb with⟨j,u,rfl,e⟩|⟨y,u,rfl,e⟩
   ·injection e with e1 _;rw[e1]
   ·exact nomatch e
  ·rcases XA hb with⟨j,u,rfl,e⟩|⟨y,u,rfl,e⟩
   ·exact nomatch e
   ·injection e with e1 _;rw[e1]
 byValue:=λk v h=>by
  rcases XA h with⟨i,t,rfl,rfl⟩|⟨x,t,rfl,rfl⟩<;>rfl
 pyHash:=λhv h=>by
  rcases XA hv with⟨i,t,rfl,rfl⟩|⟨x,t,rfl,rfl⟩
  ·exact wpAny_pyHash_int h
  ·exact wpAny_pyHash_str h
 eqBool:=λhu hv h=>by
  rcases XA hu with⟨i,t,rfl,rfl⟩|⟨x,t,rfl,rfl⟩
  ·rcases XA hv with⟨j,u,rfl,rfl⟩|⟨y,u,rfl,rfl⟩
   ·rw[LJ] at h;exact wpAny_eqBool_int h
   ·rw[LL] at h;exact SeqAt.EqAt.int_str i t y u _ _ _ _ h
  ·rcases XA hv with⟨j,u,rfl,rfl⟩|⟨y,u,rfl,rfl⟩
   ·rw[LM] at h;exact SeqAt.EqAt.str_int x t j u _ _ _ _ h
   ·rw[LK] at h;exact wpAny_eqBool_str h
 «strs»:=λk x t v h=>by
  rcases XA h with⟨i,u,rfl,e⟩|⟨y,u,rfl,e⟩
  ·exact nomatch e
  ·injection e with e1 _
   subst e1
   cases v<;>rfl
theorem LN(prog:bC)(w:bV)(i:Int)(t:mI):(ZS prog w).is (.inl i) (.int i t)=true:=LH i t
theorem LO(prog:bC)(w:bV)(x:aQ)(t:mI):(ZS prog w).is (.inr x) (.str x t)=true:=LI x t
inductive V where
 | non|bl (b:Bool)|int (i:Int)|str (x:aQ)|byt (b:Array UInt8)|flt (b:UInt64)|ref (a:ao)|ty (n:String)
 deriving DecidableEq
def Zm:V->ag->Prop
 | .non,u=>u=bI
 | .bl b,u=>u=gQ b
 | .int i,u=>∃ t,u=f8 i t
 | .str x,u=>∃ t,u=eZ x t
 | .byt b,u=>∃ t,u=oj b t
 | .flt b,u=>∃ t,u=lf b t
 | .ref a,u=>u=aG a
 | .ty n,u=>u=cY n
abbrev Zi:List V->List ag->Prop:=jD Zm
theorem Zi.length{xs:List V}{us:List ag}(r:Zi xs us):xs.length=us.length:=dw r
theorem Zi.get:∀ {xs:List V} {us:List ag} {i:Nat} {x:V},Zi xs us->xs[i]?=aa x->∃ u,us[i]?=aa u/\Zm x u
 | _,_,_,_,.nil,e=>by simp at e
 | _,_,0,_,.cons r _,e=>by simp at e;subst e;exact⟨_,rfl,r⟩
 | _,_,i+1,x,.cons _ t,e=>by
  obtain⟨u,Z,O⟩:=Zi.get (i:=i) (x:=x) t (by simpa using e)
  exact⟨u,by simpa using Z,O⟩
theorem Zi.set{x:V}{u:ag}(r:Zm x u):∀ {xs:List V} {us:List ag} (i:Nat),Zi xs us->Zi (xs.set i x) (us.set i u)
 | _,_,_,.nil=>.nil
 | _,_,0,.cons _ t=>.cons r t
 | _,_,i+1,.cons q t=>.cons q (Zi.set r i t)
theorem Zi.append:∀ {xs ys:List V} {us ws:List ag},Zi xs us->Zi ys ws->Zi (xs++ys) (us++ws)
 | _,_,_,_,.nil,s=>s
 | _,_,_,_,.cons r t,s=>.cons r (Zi.append t s)
theorem Zi.take:∀ {xs:List V} {us:List ag} (n:Nat),Zi xs us->Zi (xs.take n) (us.take n)
 | _,_,0,_=>.nil
 | _,_,_+1,.nil=>.nil
 | _,_,n+1,.cons r t=>.cons r (Zi.take n t)
theorem Zi.drop:∀ {xs:List V} {us:List ag} (n:Nat),Zi xs us->Zi (xs.drop n) (us.drop n)
 | _,_,0,r=>r
 | _,_,_+1,.nil=>.nil
 | _,_,n+1,.cons _ t=>Zi.drop n t
def YK:Option V->Option ag->Prop
 | some v,aa u=>Zm v u
 | none,none=>True
 | _,_=>False
variable{κ:Type}
def KV:List (κ×V)->List (κ×ag)->Prop:=jD λ(p:κ×V) (q:κ×ag)=>p.1=q.1/\Zm p.2 q.2
def kV:Key->V
 | .inl i=>.int i
 | .inr x=>.str x
inductive HO where
 | lst (xs:List V)
 | tup (xs:List V)
 | dK (kvs:List (Key×V))|dT (kvs:List (List Key×V))
 | dN (kvs:List ((Key×List Key)×V))
 | set (S:Int->Bool) (n:Nat)
 | ins (C dx:ao) (fs:List (aQ×V))
 | own (x:ao)
 | xd (fs:List (aQ×V))
 | met (f x:ao)
 | rng (lo hi:Int)
 | frz (o:d9) (u:HO)
 | tbl (ps:Array ag)
 | tbq (q:Nat->Nat->aQ)
 | ext (φ:bO->Prop)
abbrev Hp:=ao->Option HO
def WV(o:d9)(q:aQ):Prop:=∃ vs t,o.data=.fields vs/\vs[1]?=aa (.str q t)
def Xb(h:bO)(a:ao)(items:Array ag):Prop:=∃ o,h.get? a=aa o/\o.cls=.type "tuple" /\ (∃ n,o.data=.seq items n)/\o.dict=none
variable{h:bO}{a:ao}
theorem Xb.is{items:Array ag}(x:Xb h a items):mi h a items:=let ⟨o,e,c,d,_⟩:=x;⟨o,e,c,d⟩
instance {h:bO} {a:ao} {items:Array ag}:CoeOut (Xb h a items) (mi h a items):=⟨Xb.is⟩
theorem Xb.new(h:bO)(items:Array ag):Xb (h.push { cls:=.type "tuple",data:=.seq items }) h.objs.size items:=⟨_,az _ rfl,rfl,⟨_,rfl⟩,rfl⟩
def upd(H:Hp)(a:ao)(o:HO):Hp:=λb=>if b=a then aa o else H b
variable{H:Hp}
theorem Zw{o:HO}:upd H a o a=aa o:=by unfold upd;rw[if_pos rfl]
variable{b:ao}
theorem Zg{o:HO}(h:b≠a):upd H a o b=H b:=by unfold upd;rw[if_neg h]
variable{u:HO}
theorem Wq{o:HO}:upd (upd H a o) a u=upd H a u:=by
 funext b;unfold upd;split<;>rfl
theorem Xm{o:HO}(h:H a=aa o)(h':H b=aa u)(d:o≠u):a≠b:=by
 intro e;subst e;rw[h] at h';exact d (aS h')
theorem Z5{o:HO}(h:H a=aa o)(h':H b=none):a≠b:=by
 intro e;subst e;rw[h] at h';cases h'
section
variable (P:bC)(w:bV)
def Zx(H:Hp)(h:bO)(a:ao):HO->Prop
 | .lst xs=>xs.length<=sizeLine/\∃ (its:List ag) (n:Nat),Zi xs its/\h.get? a=aa { cls:=.type "list",data:=.seq its.toArray n }
 | .tup xs=>xs.length<=sizeLine/\∃ its:List ag,Zi xs its/\Xb h a its.toArray
 | .dK kvs=>kvs.length<=sizeLine/\(a == cR)=aF/\∃ vs,KV kvs vs/\h.DictOf (ZS P w) a vs
 | .dT kvs=>kvs.length<=sizeLine/\(a == cR)=aF/\∃ xs:List (List Key×ao×ag),
   jD (λ(p:List Key×V) (q:List Key×ao×ag)=>p.1=q.1/\H q.2.1=aa (.tup (p.1.map kV))/\Zm p.2 q.2.2) kvs xs /\
   ∃ o es ep,h.get? a=aa o/\o.ExactDict/\o.data=.dict es ep/\es.toList=xs.map (nQ (gE (ZS P w)))/\(xs.map (·.1)).Nodup
 | .dN kvs=>kvs.length<=sizeLine/\(a == cR)=aF/\∃ xs:List ((Key×List Key)×ao×ag),
   jD (λ(p:(Key×List Key)×V) (q:(Key×List Key)×ao×ag)=>p.1=q.1/\(∃ b,H q.2.1=aa (.tup [kV p.1.1,.ref b])/\H b=aa (.tup (p.1.2.map kV)))/\Zm p.2 q.2.2) kvs xs /\
   ∃ o es ep,h.get? a=aa o/\o.ExactDict/\o.data=.dict es ep/\es.toList=xs.map (nQ (Wp (ZS P w)))/\(xs.map (·.1)).Nodup
 | .set S n=>h.SetOf (intKind P w) a S n
 | .ins C dx fs=>H dx=aa (.own a)/\fs.length<=1000/\dx≠a/\h.get? a=aa (jo C dx) /\
   ∃ mA,h.Ns1 dx mA/\(∀ f,YK (fs.lookup f) (mA f))/\i9 mA (fs.map (·.1))
 | .own _=>∃ o,h.get? a=aa o
 | .xd fs=>∃ mA,h.Ns1 a mA/\∀ f,YK (fs.lookup f) (mA f)
 | .rng lo hi=>∃ t u v,h.get? a=aa { cls:=.type "range",data:=.fields #[.int lo t,.int hi u,.int 1 v] }
 | .frz o u=>h.get? a=aa o/\Zx H h a u
 | .tbl ps=>h.get? a=aa { cls:=.none,data:=.fields ps }
 | .tbq q=>∃ ps,h.get? a=aa { cls:=.none,data:=.fields ps }/\ma ps.toList/\∀ pos cv,fV pos ps.toList=aa cv->∃ c o,cv=.ref c/\H c=aa (.frz o (.own a))/\WV o (q pos.line pos.col)
 | .met f x=>h.get? a=aa (iQ (.ref f) (.ref x))
 | .ext φ=>φ h/\(∃ o,h.get? a=aa o)/\∀ h1 h2:bO,φ h1->(∀ o,h1.get? a=aa o->h2.get? a=aa o)->φ h2
def HOk(H:Hp)(h:bO):Prop:=∀ a o,H a=aa o->Zx P w H h a o
end
variable{P:bC}{w:bV}{H':Hp}{h':bO}
section
variable{o:HO}
theorem Zx.lt(x:Zx P w H h a o):a<h.objs.size:=by
 cases o with
 | lst xs=>obtain⟨_,_,_,_,e⟩:=x;exact ax e
 | tup xs=>obtain⟨_,_,_,p⟩:=x;exact (Xb.is p).lt
 | dK kvs=>obtain⟨_,_,_,_,o,_,_,e,_⟩:=x;exact ax e
 | dT kvs=>obtain⟨_,_,_,_,o,_,_,e,_⟩:=x;exact ax e
 | dN kvs=>obtain⟨_,_,_,_,o,_,_,e,_⟩:=x;exact ax e
 | set S n=>obtain⟨o,_,_,_,e,_⟩:=x;exact ax e
 | ins C D fs=>obtain⟨_,_,_,e,_⟩:=x;exact ax e
 | own y=>obtain⟨_,e⟩:=x;exact ax e
 | xd fs=>obtain⟨_,⟨_,_,_,e,_⟩,_⟩:=x;exact ax e
 | rng Y b=>obtain⟨_,_,_,e⟩:=x;exact ax e
 | frz j u=>obtain⟨e,_⟩:=x;exact ax e
 | tbl ps=>exact ax (show h.get? a=aa _ from x)
 | tbq q=>obtain⟨_,e,_⟩:=x;exact ax e
 | met f y=>exact ax (show h.get? a=aa _ from x)
 | ext g=>obtain⟨_,⟨_,e⟩,_⟩:=x;exact ax e
theorem Paired.mapP{α β:Type}{F G:α->β->Prop}:∀ {l₁:List α} {l₂:List β},jD F l₁ l₂->(∀ a b,F a b->G a b)->jD G l₁ l₂
 | _,_,.nil,_=>.nil
 | _,_,.cons r t,f=>.cons (f _ _ r) (Paired.mapP t f)
theorem Zx.stay(x:Zx P w H h a o)(k:∀ b u,(b=a\/H b=aa (.own a))->h.get? b=aa u->h'.get? b=aa u)
  (J:∀ b,H b=aa (.own a)->H' b=aa (.own a)) (l:∀ b xs,H b=aa (.tup xs)->H' b=aa (.tup xs))
  (B:∀ b o,H b=aa (.frz o (.own a))->H' b=aa (.frz o (.own a)):=by first|exact λ_ _ q=>q|(intro b o q;rw[Zg (Z5 q (by assumption))];exact q)):Zx P w H' h' a o:=by
 induction o with
 | lst xs=>obtain⟨z,A,n,r,e⟩:=x;exact⟨z,A,n,r,k _ _ (.inl rfl) e⟩
 | tup xs=>obtain⟨z,A,r,j,e,c⟩:=x;exact⟨z,A,r,j,k _ _ (.inl rfl) e,c⟩
 | dK kvs=>obtain⟨z,y,vs,r,j,es,s,e,c⟩:=x;exact⟨z,y,vs,r,j,es,s,k _ _ (.inl rfl) e,c⟩
 | dT kvs =>
  obtain⟨z,y,xs,r,j,es,s,e,c⟩:=x
  exact⟨z,y,xs,Paired.mapP r λp q z=>⟨z.1,l _ _ z.2.1,z.2.2⟩,j,es,s,k _ _ (.inl rfl) e,c⟩
 | dN kvs =>
  obtain⟨z,y,xs,r,j,es,s,e,c⟩:=x
  exact⟨z,y,xs,Paired.mapP r λp q z=>⟨z.1,let ⟨b,i,M⟩:=z.2.1;⟨b,l _ _ i,l _ _ M⟩,z.2.2⟩,j,es,s,k _ _ (.inl rfl) e,c⟩
 | set S n=>obtain⟨j,es,s,t,e,c⟩:=x;exact⟨j,es,s,t,k _ _ (.inl rfl) e,c⟩
 | ins C D fs =>
  obtain⟨d,z,ne,e,K,⟨od,es,s,N,c⟩,r⟩:=x
  exact⟨J _ d,z,ne,k _ _ (.inl rfl) e,K,⟨od,es,s,k _ _ (.inr d) N,c⟩,r⟩
 | own y=>obtain⟨j,e⟩:=x;exact⟨j,k _ _ (.inl rfl) e⟩
 | xd fs=>obtain⟨K,⟨od,es,s,e,c⟩,r⟩:=x;exact⟨K,⟨od,es,s,k _ _ (.inl rfl) e,c⟩,r⟩
 | rng Y G=>obtain⟨t,u,v,e⟩:=x;exact⟨t,u,v,k _ _ (.inl rfl) e⟩
 | frz j u E=>obtain⟨e,q⟩:=x;exact⟨k _ _ (.inl rfl) e,E q⟩
 | tbq q =>
  obtain⟨ps,e,t,r⟩:=x
  exact⟨ps,k _ _ (.inl rfl) e,t,λpos m z=>let ⟨c,o,F,N,L⟩:=r pos m z;⟨c,o,F,B _ _ N,L⟩⟩
 | tbl ps =>
  have e:h.get? a=aa { cls:=.none,data:=.fields ps }:=x
  show h'.get? a=aa { cls:=.none,data:=.fields ps }
  exact k a _ (.inl rfl) e
 | met f y =>
  have e:h.get? a=aa (iQ (.ref f) (.ref y)):=x
  show h'.get? a=aa (iQ (.ref f) (.ref y))
  exact k a _ (.inl rfl) e
 | ext g=>obtain⟨p,⟨o,e⟩,st⟩:=x;exact⟨st _ _ p λo q=>k _ _ (.inl rfl) q,⟨o,k _ _ (.inl rfl) e⟩,st⟩
theorem HOk.lt(x:HOk P w H h)(e:H a=aa o):a<h.objs.size:=(x a o e).lt
theorem HOk.fresh(x:HOk P w H h)(e:h.objs.size<=a):H a=none:=by
 cases q:H a with
 | none=>rfl
 | some u=>exact absurd (aM (x.lt q) e) (cA _)
theorem HOk.kept(x:HOk P w H h)(k:∀ b u,h.get? b=aa u->h'.get? b=aa u):HOk P w H h':=λa o e =>
 (x a o e).stay (λb u _ q=>k b u q) (λ_ q=>q) λ_ _ q=>q
theorem HOk.laid(x:HOk P w H h)(k:∀ b u,h.get? b=aa u->h'.get? b=aa u)(T:h.objs.size<=a)(new:Zx P w (upd H a o) h' a o):HOk P w (upd H a o) h':=λb u e=>by
 have g:=x.fresh T
 by_cases M:b=a
 ·subst M;rw[Zw] at e;cases e;exact new
 ·rw[Zg M] at e
  exact (x b u e).stay (λc v _ q=>k c v q) (λc q=>by rw[Zg (Z5 q g)];exact q) λc xs q=>by rw[Zg (Z5 q g)];exact q
end
def Rd(H:Hp)(a:ao)(u:HO):Prop:=H a=aa u\/∃ o,H a=aa (.frz o u)
theorem Rd.ok(r:Rd H a u)(x:HOk P w H h):Zx P w H h a u:=by
 rcases r with r|⟨o,r⟩
 ·exact x a u r
 ·obtain⟨_,q⟩:=x a _ r
  exact q
def Mut:Option HO->Prop
 | some (.lst _)=>True
 | some (.dK _)=>True
 | some (.dT _)=>True
 | some (.dN _)=>True
 | some (.set _ _)=>True
 | some (.ins _ _ _)=>True
 | some (.ext _)=>True
 | _=>False
variable{x:aQ}{e:dW}
section
variable{x e:ao}{o':HO}
theorem HOk.write(ok:HOk P w H h)(mu:Mut (H x))(G:e=x\/H e=aa (.own x))(k:∀ b u,b≠e->h.get? b=aa u->h'.get? b=aa u)(i:∃ u,h'.get? e=aa u)
  (new:Zx P w (upd H x o') h' x o'):HOk P w (upd H x o') h':=λb u q=>by
 have a:∀ c y,H c=aa (.own y)->c≠x:=λc y r z=>by subst z;rw[r] at mu;exact mu
 have g:∀ c xs,H c=aa (.tup xs)->c≠x:=λc xs r z=>by subst z;rw[r] at mu;exact mu
 by_cases M:b=x
 ·subst M;rw[Zw] at q;cases q;exact new
 ·rw[Zg M] at q
  by_cases f:b=e
  ·have q':H b=aa (.own x):=by
    rcases G with z|z
    ·exact absurd (f.trans z) M
    ·rw[f];exact z
   rw[q] at q';cases q'
   obtain⟨v,N⟩:=i
   exact⟨v,by rw[f];exact N⟩
  ·refine (ok b u q).stay (λc v Y r=>k c v ?_ r) (λc r=>by rw[Zg (a c b r)];exact r) (λc xs r=>by rw[Zg (g c xs r)];exact r) (λc o r=>by rw[Zg (λz=>by subst z;rw[r] at mu;exact mu)];exact r)
   rcases Y with rfl|Y
   ·exact f
   ·rintro rfl
    rcases G with z|z
    ·exact a c b Y z
    ·rw[Y] at z;cases z;exact M rfl
end
structure Un(fs ex:List ao)(H H':Hp)(h h':bO):Prop where
 keep:∀ b o,h.get? b=aa o->H b=none->b∉fs->b∉ex->h'.get? b=aa o
 slot:∀ b o,h.get? b=aa o->H b=none->b∈fs->b∉ex->∃ sl,h'.get? b=aa { o with slots:=sl }
 free:∀ b o,h.get? b=aa o->H b=none->b∉ex->H' b=none
 there:∀ b o,h.get? b=aa o->b∉ex->∃ o',h'.get? b=aa o'
 tups:∀ b xs,H b=aa (.tup xs)->H' b=aa (.tup xs)
 frzs:∀ b o u,H b=aa (.frz o u)->H' b=aa (.frz o u)
 tbls:∀ b ps,H b=aa (.tbl ps)->∃ more,H' b=aa (.tbl (ps++more))
variable{H1:Hp}
section
variable{fs ex:List ao}{h1:bO}{x e:ao}{o:HO}
theorem Un.any(u:Un fs ex H H1 h h1){ob:d9}(q:h.get? b=aa ob)(n:H b=none)(W:b∉ex):∃ sl,h1.get? b=aa { ob with slots:=sl }:=by
 by_cases M:b∈fs
 ·exact u.slot b ob q n M W
 ·exact⟨ob.slots,u.keep b ob q n M W⟩
theorem Un.kept(k:∀ b u,h.get? b=aa u->h'.get? b=aa u):Un fs ex H H h h' :=
 ⟨λb j q _ _ _=>k b j q,λb j q _ _ _=>⟨j.slots,k b j q⟩,λ_ _ _ n _=>n,λb j q _=>⟨j,k b j q⟩,λ_ _ q=>q,λ_ _ _ q=>q,λ_ ps q=>⟨#[],by rw[q];simp⟩⟩
theorem Un.refl:Un fs ex H H h h:=Un.kept λ_ _ q=>q
theorem Un.laid(k:∀ b u,h.get? b=aa u->h'.get? b=aa u)(T:h.objs.size<=a)(hn:H a=none):Un fs ex H (upd H a o) h h' where
 keep:=λb u q _ _ _=>k b u q
 slot:=λb u q _ _ _=>⟨u.slots,k b u q⟩
 free:=λb u q n _=>by rw[Zg (aE (aM (ax q) T))];exact n
 there:=λb u q _=>⟨u,k b u q⟩
 tups:=λb xs q=>by rw[Zg (Z5 q hn)];exact q
 frzs:=λb u xs q=>by rw[Zg (Z5 q hn)];exact q
 tbls:=λb ps q=>⟨#[],by rw[Zg (Z5 q hn),q];simp⟩
theorem Un.write(mu:Mut (H x))(G:e=x\/H e=aa (.own x))(k:∀ b u,b≠e->h.get? b=aa u->h'.get? b=aa u)(i:∃ u,h'.get? e=aa u):Un fs ex H (upd H x o) h h':=by
 have W:∀ b,H b=none->b≠x:=λb n z=>by subst z;rw[n] at mu;exact mu
 have M:∀ b,H b=none->b≠e:=λb n z=>by
  subst z
  rcases G with r|r
  ·exact W b n r
  ·rw[n] at r;cases r
 have S:∀ b u,H b=aa u->¬ Mut (aa u)->b≠x:=λb u q nm z=>by subst z;rw[q] at mu;exact nm mu
 refine⟨λb u q n _ _=>k b u (M b n) q,λb u q n _ _=>⟨u.slots,k b u (M b n) q⟩,λb u q n _=>by rw[Zg (W b n)];exact n,λb u q _=>?_,
  λb xs q=>by rw[Zg (S b _ q λz=>z)];exact q,λb u xs q=>by rw[Zg (S b _ q λz=>z)];exact q,λb ps q=>⟨#[],by rw[Zg (S b _ q λz=>z),q];simp⟩⟩
 by_cases f:b=e
 ·subst f;exact i
 ·exact⟨u,k b u f q⟩
end
def trk(h:bO)(H:Hp):List Addr:=(aD h.objs.size).filter λa=>(H a).isSome
def XB(h:bO)(H:Hp):Heap:=jp h (trk h H)
theorem LV(h:bO)(H:Hp):(XB h H).objs.size=h.objs.size:=PySem.W.hideAll_size _ _
theorem Sn{o:d9}(e:h.get? b=aa o)(n:H b=none):(XB h H).get? b=aa o :=
 cr _ e λS=>by
  have q:(H b).isSome=true:=(List.mem_filter.mp S).2
  rw[n] at q;simp at q
theorem LW{o:d9}(e:(XB h H).get? b=aa o):h.get? b=aa o/\H b=none:=by
 have A:h.get? b=aa o:=ix (trk h H) e
 refine⟨A,?_⟩
 cases q:H b with
 | none=>rfl
 | some x =>
  have S:b∈trk h H:=List.mem_filter.mpr ⟨mem_range.mpr (ax A),by simp[q]⟩
  have z:(XB h H).get? b=none:=hU (trk h H) S
  rw[z] at e;cases e
structure Mod(K:aJ)(mg:aQ->Option ag)(base:bO):Prop where
 kin:K.In base
 glob:base.Ns au mg
 blt:∃ mb,base.Ns ir mb/\∀ x:aQ,x ≠ "__name__" -> mb x=fz x
 nolimit:base.NoLimit
structure Cx where
 prog:bC
 w:bV
 K:aJ
 mg:aQ->Option ag
 base:bO
 A:cG
 N:List aQ
 s₀:ar
 H₀:Hp
 env:iS
 outer:List iS
 stack:List iS
 ex:List ao
 fn:aQ->Bool
 calm:Bool
 pn:List (ao×d9)
 xe:ag->ar->Prop
def frs(l:List iS):List Addr:=l.filterMap (·.frame)
abbrev Cx.fs(X:Cx):List Addr:=frs X.outer
def Vis(sc:e_)(x:aQ):Prop:=sc.names.lookup x=aa .local\/sc.names.lookup x=aa .cell\/sc.names.lookup x=aa .free
def Loc(sc:e_)(x:aQ):Prop:=sc.names.lookup x=aa .local\/sc.names.lookup x=aa .cell
def Look(env:iS)(h:bO)(m:aQ->Option ag)(x:aQ)(u:ag):Prop :=
 (env.kindOf x=aa .local/\m x=aa u)\/((env.kindOf x=aa .cell\/env.kindOf x=aa .free)/\∃ c,env.cells.lookup x=aa c/\h.IsCell c (aa u))
structure Cx.Ok(X:Cx):Prop where
 mod:Mod X.K X.mg X.base
 kind:X.env.scope.kind=.function
 glob:X.env.globals=au
 blt:X.env.builtins=ir
 above:X.s₀.heap.objs.size<=X.env.locals
 inj:∀ x y c,X.env.cells.lookup x=aa c->X.env.cells.lookup y=aa c->x=y
 has:∀ x,(X.env.kindOf x=aa .cell\/X.env.kindOf x=aa .free)->∃ c,X.env.cells.lookup x=aa c
 cab:∀ x c,X.fn x=ak->X.env.cells.lookup x=aa c->X.s₀.heap.objs.size<=c
 hd:X.calm=ak->X.A.handled=none
 frames:X.A.frames=aa X.stack
 stk:X.stack=X.outer\/(X.stack=X.env::X.outer/\X.env.frame=aa X.env.locals)
 exf:∀ b∈X.ex,b≠X.env.locals/\∀ x c,X.env.cells.lookup x=aa c->c≠b
 bs:∀ b o,X.base.get? b=aa o->X.s₀.heap.get? b=aa o/\X.H₀ b=none
 bsz:X.base.objs.size<=X.s₀.heap.objs.size
 noex:∀ b o,X.base.get? b=aa o->b∉X.ex
 exfs:∀ b∈X.ex,b∉X.fs
 funs:X.s₀.heap.FunFrames X.base X.outer
 frf:∀ b∈X.fs,X.H₀ b=none
structure Inv(X:Cx)(pins:List (ao×d9))(σ:List (Option V))(H:Hp)(s:ar):Prop where
 ok:X.Ok
 os:s.os=X.s₀.os
 bare:g_ s.gens
 base:Un X.fs X.ex X.H₀ H X.s₀.heap s.heap
 loc:∃ m,s.heap.Ns X.env.locals m/\∀ (i:Nat) (x:aQ) (v:V),X.N[i]?=aa x->σ[i]?=aa (aa v)->Vis X.env.scope x->∃ u,Zm v u/\Look X.env s.heap m x u
 cell:∀ x c,X.env.cells.lookup x=aa c->∃ v,s.heap.IsCell c v
 free:H X.env.locals=none
 freeC:∀ x c,X.env.cells.lookup x=aa c->H c=none
 pin:∀ p∈X.pn++pins,s.heap.get? p.1=aa p.2/\H p.1=none/\p.1≠X.env.locals/\p.1∉X.fs/\∀ v,p.2.data≠.cell v
 hok:HOk X.prog X.w H s.heap
 len:σ.length=X.N.length
variable{u:ag}{X:Cx}{s s':ar}{t' i j:Nat}{it:ao}{M:Model}{A:cG}{v:V}{ch:List ao}{N:List aQ}{pins pins':List (ao×d9)}{E:ag->ar->Prop}{Q:Unit->ar->Prop}
section
variable{σ:List (Option V)}
theorem Cx.Ok.nofr(ok:X.Ok){o:d9}(e:X.base.get? b=aa o):b∉X.fs:=λM=>by
 have:=(ok.funs.mem M).1
 rw[e] at this;cases this
theorem Inv.bs(I:'#'):∀ b o,X.base.get? b=aa o->s.heap.get? b=aa o/\H b=none:=λb o e =>
 ⟨I.base.keep b o (I.ok.bs b o e).1 (I.ok.bs b o e).2 (I.ok.nofr e) (I.ok.noex b o e),I.base.free b o (I.ok.bs b o e).1 (I.ok.bs b o e).2 (I.ok.noex b o e)⟩
theorem Inv.bk(I:'#'):∀ b o,X.base.get? b=aa o->s.heap.get? b=aa o:=λb o e=>(I.bs b o e).1
theorem Inv.mod(I:'#'):Mod X.K X.mg X.base:=I.ok.mod
theorem Inv.kIn(I:'#'):X.K.In s.heap:=I.ok.mod.kin.keeps I.bk
theorem Inv.nolimit(I:'#'):s.heap.NoLimit:=I.ok.mod.nolimit.keeps I.bk
theorem Inv.lt(I:'#'):X.env.locals<s.heap.objs.size:=let ⟨_,g,_⟩:=I.loc;g.lt
theorem Inv.sz(I:'#'):X.s₀.heap.objs.size<=s.heap.objs.size:=aT I.ok.above (cP I.lt)
theorem Inv.nofs(I:'#')(h:s.heap.objs.size<=a):a∉X.fs:=λM=>by
 obtain⟨_,o,J,_⟩:=I.ok.funs.mem M
 exact absurd (aM (ax J) (aT I.sz h)) (cA _)
theorem Inv.cne(I:'#'):∀ x c,X.env.cells.lookup x=aa c->c≠X.env.locals:=λx c e z=>by
 obtain⟨v,o,J,hd⟩:=I.cell x c e
 obtain⟨m,⟨i,es,f,g,R,_⟩,_⟩:=I.loc
 rw[z,g] at J;cases J;rw[R] at hd;cases hd
theorem Inv.funs(I:'#'):s.heap.FunFrames X.base X.outer:=by
 have all:∀ (l:List iS),(∀ b∈frs l,b∈X.fs)->X.s₀.heap.FunFrames X.base l->s.heap.FunFrames X.base l:=by
  intro l
  induction l with
  | nil=>intro _ _;trivial
  | cons env r E =>
   intro P D
   obtain⟨R,⟨L,o,B,g,a,hd⟩,J⟩:=D
   have U:L∈X.fs:=P L (by unfold frs;rw[gP,B];exact gb)
   obtain⟨y,e⟩:=I.base.slot L o a (I.ok.frf L U) U λz=>I.ok.exfs L z U
   exact⟨R,⟨L,_,B,g,e,hd⟩,E (λb M=>P b (by unfold frs;rw[gP,B];exact cg _ M)) J⟩
 exact all X.outer (λ_ M=>M) I.ok.funs
theorem Inv.stack(I:'#'):s.heap.FunFrames X.base X.stack:=by
 rcases I.ok.stk with e|⟨e,hf⟩
 ·rw[e];exact I.funs
 ·rw[e]
  obtain⟨m,g,_⟩:=I.loc
  refine .cons (by rw[I.ok.kind];decide) hf g ?_ I.funs
  exact dy (aT I.ok.bsz I.ok.above)
theorem Inv.stkSub(I:'#'):∀ b∈frs X.stack,b∈X.env.locals::X.fs:=λb M=>by
 rcases I.ok.stk with e|⟨e,hf⟩
 ·rw[e] at M;exact cg _ M
 ·rw[e] at M
  unfold frs at M
  rw[gP,hf] at M
  exact M
theorem Inv.stkFree(I:'#'):∀ b∈frs X.stack,H b=none:=λb M=>by
 rcases gh.mp (I.stkSub b M) with e|M
 ·rw[e];exact I.free
 ·obtain⟨_,o,J,_⟩:=I.ok.funs.mem M
  exact I.base.free b o J (I.ok.frf b M) λz=>I.ok.exfs b z M
theorem Inv.step{g':Array lh}{t':Nat}{d':m9}{ch:List ao}(I:'#')
  (a:∀ b∈ch,(b∈X.ex\/X.s₀.heap.objs.size<=b)/\b≠X.env.locals/\(∀ x c,X.env.cells.lookup x=aa c->c≠b)/\∀ p∈X.pn++pins,p.1≠b)
  (keep:∀ b o,b≠X.env.locals->b∉X.fs->b∉ch->s.heap.get? b=aa o->H b=none->h'.get? b=aa o)
  (slot:∀ b o,b≠X.env.locals->b∈X.fs->b∉ch->s.heap.get? b=aa o->H b=none->∃ sl,h'.get? b=aa { o with slots:=sl }) (free:∀ b o,b∉ch->s.heap.get? b=aa o->H b=none->H' b=none)
  (there:∀ b o,b∉ch->s.heap.get? b=aa o->∃ o',h'.get? b=aa o')
  (tups:∀ b xs,H b=aa (.tup xs)->H' b=aa (.tup xs)) (frzs:∀ b o u,H b=aa (.frz o u)->H' b=aa (.frz o u)) (tbls:∀ b ps,H b=aa (.tbl ps)->∃ more,H' b=aa (.tbl (ps++more)))
  (ns:∀ m,s.heap.Ns X.env.locals m->h'.Ns X.env.locals m) (hok:HOk X.prog X.w H' h') (A:g_ g') :
  Inv X pins σ H' { s with heap:=h',gens:=g',drawn:=d',toks:=t' }:=by
 have y:∀ b o,X.s₀.heap.get? b=aa o->b≠X.env.locals:=λb o e=>aE (aM (ax e) I.ok.above)
 have j:∀ b o,X.s₀.heap.get? b=aa o->b∉X.ex->b∉ch:=λb o e W M=>by
  rcases (a b M).1 with z|z
  ·exact W z
  ·exact absurd (aM (ax e) z) (cA _)
 have h:∀ x c,X.env.cells.lookup x=aa c->∀ v,s.heap.IsCell c v->h'.IsCell c v:=λx c e v ⟨o,J,hd⟩=>by
  have f:c∉ch:=λz=>(a c z).2.2.1 x c e rfl
  by_cases Y:c∈X.fs
  ·obtain⟨sl,q⟩:=slot c o (I.cne x c e) Y f J (I.freeC x c e)
   exact⟨_,q,hd⟩
  ·exact⟨o,keep c o (I.cne x c e) Y f J (I.freeC x c e),hd⟩
 refine⟨I.ok,I.os,A,⟨λb o e n M W=>?_,λb o e n M W=>?_,λb o e n W=>?_,λb o e W=>?_,λb xs e=>tups b xs (I.base.tups b xs e),λb o xs e=>frzs b o xs (I.base.frzs b o xs e),λb ps e=>?_⟩,?_,λx c e=>?_,?_,λx c e=>?_,λp T=>?_,hok,I.len⟩
 ·exact keep b o (y b o e) M (j b o e W) (I.base.keep b o e n M W) (I.base.free b o e n W)
 ·obtain⟨sl,S⟩:=I.base.slot b o e n M W
  obtain⟨w,N⟩:=slot b _ (y b o e) M (j b o e W) S (I.base.free b o e n W)
  exact⟨w,N⟩
 ·obtain⟨o',S⟩:=I.base.there b o e W
  exact free b o' (j b o e W) S (I.base.free b o e n W)
 ·obtain⟨o',S⟩:=I.base.there b o e W
  exact there b o' (j b o e W) S
 ·obtain⟨B,S⟩:=I.base.tbls b ps e
  obtain⟨C,N⟩:=tbls b _ S
  exact⟨B++C,by rw[N,Array.append_assoc]⟩
 ·obtain⟨m,g,D⟩:=I.loc
  refine⟨m,ns m g,λi x v S N L=>?_⟩
  obtain⟨u,r,l⟩:=D i x v S N L
  refine⟨u,r,?_⟩
  rcases l with l|⟨k,c,e,z⟩
  ·exact .inl l
  ·exact .inr ⟨k,c,e,h x c e _ z⟩
 ·obtain⟨v,z⟩:=I.cell x c e
  exact⟨v,h x c e v z⟩
 ·obtain⟨m,⟨o,_,_,J,_⟩,_⟩:=I.loc
  exact free _ o (λz=>(a _ z).2.1 rfl) J I.free
 ·obtain⟨v,o,J,hd⟩:=I.cell x c e
  exact free c o (λz=>(a c z).2.2.1 x c e rfl) J (I.freeC x c e)
 ·obtain⟨e,n,ne,E,d⟩:=I.pin p T
  have f:p.1∉ch:=λz=>(a p.1 z).2.2.2 p T rfl
  exact⟨keep p.1 p.2 ne E f e n,free p.1 p.2 f e n,ne,E,d⟩
theorem Inv.un(I:'#')(u:Un X.fs [] H H' s.heap h')(hok:HOk X.prog X.w H' h'):Inv X pins σ H' { s with heap:=h',toks:=t' }:=by
 obtain⟨m,⟨o,es,f,J,r⟩,_⟩:=id I.loc
 obtain⟨y,U⟩:=u.any J I.free (by simp)
 exact I.step (g':=s.gens) (d':=s.drawn) (ch:=[]) (λ_ z=>nomatch z) (λb o _ M _ e n=>u.keep b o e n M (by simp)) (λb o _ M _ e n=>u.slot b o e n M (by simp)) (λb o _ e n=>u.free b o e n (by simp)) (λb o _ e=>u.there b o e (by simp)) u.tups u.frzs u.tbls (λB S=>by
  obtain⟨i,j,h,g,C⟩:=S
  rw[J] at g;cases g
  exact⟨_,j,h,U,C⟩) hok I.bare
theorem Inv.call{g':Array lh}{d':m9}(I:'#')(u:Un (frs X.stack) ch H H' s.heap h')(hok:HOk X.prog X.w H' h')(A:g_ g')
  (a:∀ b∈ch,(b∈X.ex\/X.s₀.heap.objs.size<=b)/\b≠X.env.locals/\(∀ x c,X.env.cells.lookup x=aa c->c≠b)/\∀ p∈X.pn++pins,p.1≠b) :
  Inv X pins σ H' { s with heap:=h',gens:=g',drawn:=d',toks:=t' }:=by
 obtain⟨m,⟨o,es,f,J,r⟩,_⟩:=id I.loc
 obtain⟨y,U⟩:=u.any J I.free λz=>(a _ z).2.1 rfl
 exact I.step (ch:=ch) a (λb o U M Y e n=>u.keep b o e n (λz=>(gh.mp (I.stkSub b z)).elim U M) Y) (λb o _ _ Y e n=>u.any e n Y) (λb o Y e n=>u.free b o e n Y) (λb o Y e=>u.there b o e Y) u.tups u.frzs u.tbls (λB S=>by
  obtain⟨i,j,h,g,C⟩:=S
  rw[J] at g;cases g
  exact⟨_,j,h,U,C⟩) hok A
theorem Inv.turned(I:'#')(k:∀ b o,b≠it->s.heap.get? b=aa o->h'.get? b=aa o)(hn:H it=none)(U:it≠X.env.locals)
  (h1:it∈X.ex\/X.s₀.heap.objs.size<=it) (O:∀ x c,X.env.cells.lookup x=aa c->c≠it) (B:∀ p∈X.pn++pins,p.1≠it):Inv X pins σ H { s with heap:=h',toks:=t' }:=by
 have a:∀ b u,H b=aa u->b≠it:=λb u e z=>by rw[z,hn] at e;cases e
 refine I.step (g':=s.gens) (d':=s.drawn) (ch:=[it]) (λb M=>?_) (λb o _ _ Y e _=>k b o (λz=>Y (by simp[z])) e) (λb o _ _ Y e _=>⟨o.slots,k b o (λz=>Y (by simp[z])) e⟩) (λ_ _ _ _ n=>n)
  (λb o Y e=>⟨o,k b o (λz=>Y (by simp[z])) e⟩) (λ_ _ e=>e) (λ_ _ _ e=>e) (λb ps e=>⟨#[],by rw[e];simp⟩) (λm S=>?_) (λb u e=>?_) I.bare
 ·have e:b=it:=by simpa using M
  subst e
  exact⟨h1,U,O,B⟩
 ·obtain⟨o,es,f,J,r⟩:=S
  exact⟨o,es,f,k _ o (bR U) J,r⟩
 ·refine (I.hok b u e).stay (λc v Y q=>k c v ?_ q) (λ_ q=>q) λ_ _ q=>q
  rcases Y with z|z
  ·rw[z];exact a b u e
  ·exact a c _ z
theorem Inv.tok(I:'#')(t:Nat):Inv X pins σ H { s with toks:=t }:=I.un (h':=s.heap) (t':=t) Un.refl I.hok
theorem Inv.kept{t':Nat}(I:'#')(k:∀ b u,s.heap.get? b=aa u->h'.get? b=aa u):Inv X pins σ H { s with heap:=h',toks:=t' }:=I.un (Un.kept k) (I.hok.kept k)
theorem Inv.laid{a:ao}{o:HO}{t':Nat}(I:'#')(k:∀ b u,s.heap.get? b=aa u->h'.get? b=aa u)(T:s.heap.objs.size<=a)(new:Zx X.prog X.w (upd H a o) h' a o) :
  Inv X pins σ (upd H a o) { s with heap:=h',toks:=t' }:=I.un (Un.laid k T (I.hok.fresh T)) (I.hok.laid k T new)
theorem Inv.write{x e:ao}{o:HO}{t':Nat}(I:'#')(mu:Mut (H x))(G:e=x\/H e=aa (.own x))(k:∀ b u,b≠e->s.heap.get? b=aa u->h'.get? b=aa u)(i:∃ u,h'.get? e=aa u)
  (new:Zx X.prog X.w (upd H x o) h' x o):Inv X pins σ (upd H x o) { s with heap:=h',toks:=t' }:=I.un (Un.write mu G k i) (I.hok.write mu G k i new)
theorem Inv.pins_of(I:'#')(h:∀ p∈pins',s.heap.get? p.1=aa p.2/\H p.1=none/\p.1≠X.env.locals/\p.1∉X.fs/\∀ v,p.2.data≠.cell v):Inv X pins' σ H s :=
 ⟨I.ok,I.os,I.bare,I.base,I.loc,I.cell,I.free,I.freeC,λp T=>(nV.mp T).elim (λz=>I.pin p (a9 _ z)) (h p),I.hok,I.len⟩
theorem So(hN:N.Nodup)(a:N[i]?=aa x)(b:N[j]?=aa x):i=j:=by
 obtain⟨Z,S⟩:=List.getElem?_eq_some_iff.mp a
 obtain⟨O,c⟩:=List.getElem?_eq_some_iff.mp b
 exact (List.getElem_inj hN).mp (S.trans c.symm)
theorem Vw(I:'#')(hN:X.N.Nodup)(hi:X.N[i]?=aa x)(W:Loc X.env.scope x)(r:Zm v u)
  (h:∀ s',Inv X pins (σ.set i (aa v)) H s'->(∃ a,cN a s.heap s'.heap/\(a=X.env.locals\/X.env.cells.lookup x=aa a))->Q () s') (B:X.fn x=ak\/X.env.scope.names.lookup x=aa .local:=by first|exact .inl rfl|exact .inr rfl|assumption):aw M A (lY X.env x u) Q E s:=by
 obtain⟨m,g,D⟩:=id I.loc
 have U:(X.env.scope.kind == .class || (X.env.scope.kind == .module && X.env.locals != X.env.globals))=false:=by rw[I.ok.kind];rfl
 have O:i<σ.length:=by rw[I.len];exact (List.getElem?_eq_some_iff.mp hi).1
 have cne:=I.cne
 have K:∀ {a:ao} {h':bO},(∃ o,s.heap.get? a=aa o/\H a=none)->cN a s.heap h'->HOk X.prog X.w H h':=λ{a h'} ha P b ob e=>by
  obtain⟨_,_,G⟩:=ha
  refine (I.hok b ob e).stay (λc F Y q=>(P.2 c ?_).trans q) (λ_ q=>q) λ_ _ q=>q
  rintro rfl
  rcases Y with rfl|Y
  ·rw[G] at e;cases e
  ·rw[G] at Y;cases Y
 rcases W with R|R
 ·refine mQ R g (λh' J P=>?_) U
  obtain⟨oL,_,_,hoL,_⟩:=id g
  refine h _ ⟨I.ok,I.os,I.bare,⟨λb o e n hb W=>?_,λb o e n hb W=>?_,I.base.free,λb o e W=>?_,I.base.tups,I.base.frzs,I.base.tbls⟩,⟨_,J,λj y C S N L=>?_⟩,λy c e=>?_,I.free,I.freeC,λp T=>?_,K ⟨oL,hoL,I.free⟩ P,by simpa using I.len⟩ ⟨_,P,.inl rfl⟩
  ·exact (P.2 b (aE (aM (ax e) I.ok.above))).trans (I.base.keep b o e n hb W)
  ·obtain⟨sl,S⟩:=I.base.slot b o e n hb W
   exact⟨sl,(P.2 b (aE (aM (ax e) I.ok.above))).trans S⟩
  ·obtain⟨o',S⟩:=I.base.there b o e W
   exact⟨o',(P.2 b (aE (aM (ax e) I.ok.above))).trans S⟩
  ·by_cases hj:j=i
   ·subst hj
    rw[hi] at S;cases S
    rw[kT O] at N
    cases N
    exact⟨u,r,.inl ⟨R,by simp⟩⟩
   ·rw[ip (bR hj)] at N
    obtain⟨u',r',q⟩:=D j y C S N L
    refine⟨u',r',?_⟩
    rcases q with⟨k,e⟩|⟨k,c,e,z⟩
    ·refine .inl ⟨k,?_⟩
     have:y≠x:=λe=>hj (So hN S (e▸hi))
     simp[this,e]
    ·exact .inr ⟨k,c,e,z.sameBut P (cne y c e)⟩
  ·obtain⟨F,z⟩:=I.cell y c e
   exact⟨F,z.sameBut P (cne y c e)⟩
  ·obtain⟨e,n,ne,l,d⟩:=I.pin p T
   exact⟨(P.2 p.1 ne).trans e,n,ne,l,d⟩
 ·have f:X.fn x=true:=by
   rcases B with z|z
   ·exact z
   ·rw[z] at R;cases R
  obtain⟨c,Y⟩:=I.ok.has x (.inl R)
  obtain⟨F,z⟩:=I.cell x c Y
  refine wpAny_storeName_cell I.ok.kind R Y z (λh' hc' P=>?_)
  obtain⟨oc,hoc,hocd⟩:=id z
  refine h { s with heap:=h' } ⟨I.ok,I.os,I.bare,⟨λb o e n hb W=>?_,λb o e n hb W=>?_,I.base.free,λb o e W=>?_,I.base.tups,I.base.frzs,I.base.tbls⟩,⟨m,g.sameBut P (bR (cne x c Y)),λj y C S N L=>?_⟩,λy w e=>?_,I.free,I.freeC,λp T=>?_,K ⟨oc,hoc,I.freeC x c Y⟩ P,by simpa using I.len⟩ ⟨c,P,.inr Y⟩
  ·exact (P.2 b (aE (aM (ax e) (I.ok.cab x c f Y)))).trans (I.base.keep b o e n hb W)
  ·obtain⟨sl,S⟩:=I.base.slot b o e n hb W
   exact⟨sl,(P.2 b (aE (aM (ax e) (I.ok.cab x c f Y)))).trans S⟩
  ·obtain⟨o',S⟩:=I.base.there b o e W
   exact⟨o',(P.2 b (aE (aM (ax e) (I.ok.cab x c f Y)))).trans S⟩
  ·by_cases hj:j=i
   ·subst hj
    rw[hi] at S;cases S
    rw[kT O] at N
    cases N
    exact⟨u,r,.inr ⟨.inl R,c,Y,hc'⟩⟩
   ·rw[ip (bR hj)] at N
    obtain⟨u',r',q⟩:=D j y C S N L
    refine⟨u',r',?_⟩
    rcases q with q|⟨k,w,e,z'⟩
    ·exact .inl q
    ·refine .inr ⟨k,w,e,z'.sameBut P ?_⟩
     rintro rfl
     exact hj (So hN S (I.ok.inj _ _ _ e Y▸hi))
  ·by_cases Z:w=c
   ·subst Z;exact⟨_,hc'⟩
   ·obtain⟨w2,z2⟩:=I.cell y w e
    exact⟨w2,z2.sameBut P Z⟩
  ·obtain⟨e,n,ne,l,d⟩:=I.pin p T
   refine⟨(P.2 p.1 ?_).trans e,n,ne,l,d⟩
   intro q
   rw[q,hoc] at e
   have q':oc=p.2:=aS e
   exact d F (by rw[<- q'];exact hocd)
theorem UD(I:'#')(hN:X.N.Nodup)(hi:X.N[i]?=aa x)(W:Loc X.env.scope x)(r:Zm v u)
  (h:∀ s',Inv X pins (σ.set i (aa v)) H s'->Q () s') (B:X.fn x=ak\/X.env.scope.names.lookup x=aa .local:=by first|exact .inl rfl|exact .inr rfl|assumption):aw M A (lY X.env x u) Q E s :=
 Vw I hN hi W r (λs' m _=>h s' m) B
theorem Inv.call'(I:'#')(J:s'.os=s.os)(u:Un (frs X.stack) ch H H' s.heap s'.heap)(hok:HOk X.prog X.w H' s'.heap)(A:g_ s'.gens)
  (a:∀ b∈ch,(b∈X.ex\/X.s₀.heap.objs.size<=b)/\b≠X.env.locals/\(∀ x c,X.env.cells.lookup x=aa c->c≠b)/\∀ p∈X.pn++pins,p.1≠b):Inv X pins σ H' s':=by
 obtain⟨h',g',d',t',i⟩:=s'
 have e:i=s.os:=J
 subst e
 exact I.call (g':=g') (t':=t') (d':=d') u hok A a
end
abbrev XK:=ag->Option ao->Hp->Prop
abbrev St:=List (Option V)
abbrev VK:=V->Hp->Prop
abbrev TE:=St->Hp->VK->Prop
abbrev TT:=St->Hp->(Bool->Hp->Prop)->Prop
abbrev TA:=St->Hp->(List V->Hp->Prop)->Prop
structure Ends where
 nx:St->Hp->Prop
 rt:VK
 bk:St->Hp->Prop:=λ_ _=>False
 ct:St->Hp->Prop:=λ_ _=>False
abbrev TS:=Ends->St->Hp->Prop
def EP(X:Cx)(pins:List (ao×d9))(σ:St)(Q:VK)(u:ag)(s':ar):Prop:=∃ v H',Inv X pins σ H' s'/\Zm v u/\Q v H'
def TP(X:Cx)(pins:List (ao×d9))(σ:St)(Q:Bool->Hp->Prop)(b:Bool)(s':ar):Prop:=∃ H',Inv X pins σ H' s'/\Q b H'
def AP(X:Cx)(pins:List (ao×d9))(σ:St)(Q:List V->Hp->Prop)(us:List ag)(s':ar):Prop:=∃ vs H',Inv X pins σ H' s'/\Zi vs us/\Q vs H'
def SP(X:Cx)(pins:List (ao×d9))(D:Ends)(f:Flow)(s':ar):Prop :=
 match f with
 | .next=>∃ σ' H',Inv X pins σ' H' s'/\D.nx σ' H'
 | .brk=>∃ σ' H',Inv X pins σ' H' s'/\D.bk σ' H'
 | .cont=>∃ σ' H',Inv X pins σ' H' s'/\D.ct σ' H'
 | .ret u=>∃ v σ' H',Inv X pins σ' H' s'/\Zm v u/\D.rt v H'
def PE(X:Cx)(e:dW)(t:TE):Prop :=
 ∀ (pins:List (ao×d9)) (s:ar) (σ:St) (H:Hp) (Q:VK),Inv X pins σ H s->t σ H Q->aw (aH X.prog X.w) X.A (dz e X.env) (EP X pins σ Q) X.xe s
def PT(X:Cx)(e:dW)(t:TT):Prop :=
 ∀ (pins:List (ao×d9)) (s:ar) (σ:St) (H:Hp) (Q:Bool->Hp->Prop),Inv X pins σ H s->t σ H Q->aw (aH X.prog X.w) X.A (isTrue e X.env (dz e X.env)) (TP X pins σ Q) X.xe s
def PW(X:Cx)(e:dW)(t:TT):Prop :=
 ∀ (whole:Sem ag) (pins:List (ao×d9)) (s:ar) (σ:St) (H:Hp) (Q:Bool->Hp->Prop),Inv X pins σ H s->t σ H Q->aw (aH X.prog X.w) X.A (isTrue e X.env whole) (TP X pins σ Q) X.xe s
theorem PW.pt{t:TT}(h:PW X e t):PT X e t:=h _
def PA(X:Cx)(es:List dW)(t:TA):Prop :=
 ∀ (pos:md) (pins:List (ao×d9)) (s:ar) (σ:St) (H:Hp) (Q:List V->Hp->Prop),Inv X pins σ H s->t σ H Q->aw (aH X.prog X.w) X.A (spliced (dC pos (aY es X.env))) (AP X pins σ Q) X.xe s
def PS(X:Cx)(st:gK)(t:TS):Prop :=
 ∀ (pins:List (ao×d9)) (s:ar) (σ:St) (H:Hp) (D:Ends),Inv X pins σ H s->t D σ H->aw (aH X.prog X.w) X.A (exec st X.env) (SP X pins D) X.xe s
def PSs(X:Cx)(st:List gK)(t:TS):Prop :=
 ∀ (pins:List (ao×d9)) (s:ar) (σ:St) (H:Hp) (D:Ends),Inv X pins σ H s->t D σ H->aw (aH X.prog X.w) X.A (execs st X.env) (SP X pins D) X.xe s
variable{α:Type}{Q:ag->ar->Prop}
theorem thn{t:Sem α}{Q S:α->ar->Prop}(h:aw M A t Q E s)(c:∀ a s,Q a s->S a s):aw M A t S E s:=bx h c λ_ _ x=>x
variable{pos:md}{ta tb:TE}{c:dW}{rest:List ag}
section
def ZN(i:Nat):TE:=λσ H Q=>∃ v,σ[i]?=aa (aa v)/\Q v H
def tC(v:V):TE:=λ_ H Q=>Q v H
theorem Q2(hN:X.N[i]?=aa x)(N:Vis X.env.scope x)(hd:(x == ("__debug__" : aQ))=false:=by decide)(b:(x == ("__classdict__" : aQ))=false:=by decide):PE X (.Name x pos) (ZN i):=by
 intro L s U H Q I h
 obtain⟨v,e,h⟩:=h
 obtain⟨m,g,D⟩:=I.loc
 obtain⟨u,r,l⟩:=D i x v hN e N
 have fin:EP X L U Q u s:=⟨v,H,I,r,h⟩
 rcases l with⟨R,S⟩|⟨R,c,Y,a⟩
 ·exact nL (wpAny_loadName_local I.ok.kind R g S fin) hd
 ·rcases R with R|R
  ·exact nL (wpAny_loadName_cell I.ok.kind R Y a fin) hd
  ·exact nL (wpAny_loadName_free I.ok.kind R Y a fin b) hd
theorem Zc{i j pos}:PE X (.Constant (.int i) j pos) (tC (.int i)):=λ_ _ _ H _ I h=>wpAny_Constant_int ⟨.int i,H,I.tok _,⟨_,rfl⟩,h⟩
theorem YR{b j pos}:PE X (.Constant (.bool b) j pos) (tC (.bl b)):=λ_ _ _ H _ I h=>Constant_bool ⟨.bl b,H,I,rfl,h⟩
theorem LX{j pos}:PE X (.Constant .none j pos) (tC .non):=λ_ _ _ H _ I h=>Constant_none ⟨.non,H,I,rfl,h⟩
theorem Yp{x j pos}:PE X (.Constant (.str x) j pos) (tC (.str x)):=λ_ _ _ H _ I h=>Calls.Constant_str ⟨.str x,H,I.tok _,⟨_,rfl⟩,h⟩
def Gl(X:Cx)(x:aQ):Prop:=X.env.kindOf x=aa .globalImplicit
theorem XC{σ:St}(I:'#')(A:Gl X x)(hm:X.mg x=aa u)(h:Q u s)
  (hd:(x == ("__debug__" : aQ))=false:=by decide):aw (aH X.prog X.w) X.A (dz (.Name x pos) X.env) Q E s :=
 jZ I.ok.kind A (Calls.loadGlobal_global (by rw[I.ok.glob];exact I.mod.glob.keeps I.bk) hm h) hd
theorem XW{σ:St}(I:'#')(A:Gl X x)(hm:X.mg x=none)(N:fz x=aa u)(h:Q u s)
  (hn:x ≠ "__name__" := by decide) (hd:(x == ("__debug__" : aQ))=false:=by decide):aw (aH X.prog X.w) X.A (dz (.Name x pos) X.env) Q E s:=by
 obtain⟨a,Z,O⟩:=I.mod.blt
 exact jZ I.ok.kind A (Calls.loadGlobal_builtin (by rw[I.ok.glob];exact I.mod.glob.keeps I.bk) hm (by rw[I.ok.blt];exact Z.keeps I.bk) ((O x hn).trans N) h) hd
theorem Vx(A:Gl X x)(hm:X.mg x=aa u)(r:Zm v u)(hd:(x == ("__debug__" : aQ))=false:=by decide):PE X (.Name x pos) (tC v) :=
 λ_ _ _ H _ I h=>XC I A hm ⟨v,H,I,r,h⟩ hd
theorem YX(A:Gl X x)(hm:X.mg x=none)(N:fz x=aa u)(r:Zm v u)(hn:x ≠ "__name__" := by decide)(hd:(x == ("__debug__" : aQ))=false:=by decide):PE X (.Name x pos) (tC v) :=
 λ_ _ _ H _ I h=>XW I A hm N ⟨v,H,I,r,h⟩ hn hd
variable{a b:dW}
def tB(t:TE):TT:=λσ H Q=>t σ H λx H1=>∃ c,x=.bl c/\Q c H1
theorem Yq{t:TE}(h:PE X e t)(G:∀ a,isTrue e X.env a=(do let v <- a;standAt e.pos;jQ [v] (truthy v)):=by intro _;rfl):PT X e (tB t):=by
 intro L s U H Q I R
 refine isTrue_plain (thn (h L s U H _ I R) λv s1 ⟨x,H1,I1,r1,q1⟩=>?_) (G _)
 obtain⟨d,rfl,q⟩:=q1
 cases r1
 exact bT ⟨H1,I1,q⟩
variable{tA tB':TT}{rest:List dW}
def tOr(t u:TT):TT:=λσ H Q=>t σ H λc H1=>if c=ak then Q ak H1 else u σ H1 Q
def tNot(t:TT):TT:=λσ H Q=>t σ H λc H1=>Q (!c) H1
theorem YL(ha:PT X a tA):PW X (.BoolOp .Or [a] pos) tA:=by
 intro f L s U H Q I h
 refine isTrue_or (thn (ha L s U H Q I h) λc C e=>?_)
 cases c with
 | false=>exact isTrue_or_nil e
 | true=>exact e
theorem Yb(ha:PT X a tA)(hb:PW X (.BoolOp .Or (b::rest) pos) tB'):PW X (.BoolOp .Or (a::b::rest) pos) (tOr tA tB'):=by
 intro f L s U H Q I h
 refine isTrue_or (thn (ha L s U H _ I h) λc s1 ⟨H1,I1,q1⟩=>?_)
 cases c with
 | true=>exact⟨H1,I1,q1⟩
 | false=>exact hb f L s1 U H1 Q I1 q1
theorem Yr(ha:PT X a tA):PT X (.UnaryOp .Not a pos) (tNot tA):=by
 intro L s U H Q I h
 exact isTrue_not (ha L s U H (λc y=>Q (!c) y) I h)
def Q3(ta tb:TE):TE:=λσ H Q=>ta σ H λx H1=>∃ c,x=.bl c/\if c=ak then tb σ H1 Q else Q (.bl aF) H1
def Q4(ta:TE):TE:=λσ H Q=>ta σ H λx H1=>∃ c,x=.bl c/\Q (.bl (!c)) H1
theorem UE{op}{t:TE}(h:PE X a t):PE X (.BoolOp op [a] pos) t:=λL s U H Q I R=>BoolOp_one (h L s U H Q I R)
theorem UF(ha:PE X a ta)(hb:PE X (.BoolOp .And (b::rest) pos) tb):PE X (.BoolOp .And (a::b::rest) pos) (Q3 ta tb):=by
 intro L s U H Q I h
 refine BoolOp_and (thn (ha L s U H _ I h) λv s1 ⟨x,H1,I1,r1,l⟩=>?_)
 obtain⟨c,rfl,l⟩:=l
 cases r1
 refine bT ?_
 cases c with
 | true=>exact hb L s1 U H1 Q I1 l
 | false=>exact⟨.bl aF,H1,I1,rfl,l⟩
theorem LY(ha:PE X a ta):PE X (.UnaryOp .Not a pos) (Q4 ta):=by
 intro L s U H Q I h
 refine UnaryOp_ (thn (ha L s U H _ I h) λv s1 ⟨x,H1,I1,r1,l⟩=>?_)
 obtain⟨c,rfl,l⟩:=l
 cases r1
 exact not_of (bT ⟨.bl (!c),H1,I1,rfl,l⟩)
def tIf(t:TT)(ta tb:TE):TE:=λσ H Q=>t σ H λc H1=>if c=ak then ta σ H1 Q else tb σ H1 Q
theorem Sq(Y:PT X c tA)(ha:PE X a ta)(hb:PE X b tb):PE X (.IfExp c a b pos) (tIf tA ta tb):=by
 intro L s U H Q I h
 refine wpAny_IfExp (thn (Y L s U H _ I h) λd s1 ⟨H1,I1,q1⟩=>?_)
 cases d with
 | true=>exact ha L s1 U H1 Q I1 q1
 | false=>exact hb L s1 U H1 Q I1 q1
end
def SqL(K:aJ)(H:Hp)(a:ao)(xs:List V):Prop :=
 Rd H a (.lst xs) \/
  ∃ (o:d9) (its:Array ag) (n:Nat),K.lookup a=aa o/\o.cls=.type "list" /\ o.dict=none/\o.data=.seq its n/\its.size<=sizeLine/\Zi xs its.toList
def SqT(K:aJ)(H:Hp)(a:ao)(xs:List V):Prop :=
 Rd H a (.tup xs) \/
  ∃ (o:d9) (its:Array ag) (n:Nat),K.lookup a=aa o/\o.cls=.type "tuple" /\ o.data=.seq its n/\its.size<=sizeLine/\Zi xs its.toList
def absV:ag->Option V
 | .none=>aa .non
 | .bool b=>aa (.bl b)
 | .int i _=>aa (.int i)
 | .str x _=>aa (.str x)
 | .bytes b _=>aa (.byt b)
 | .float b _=>aa (.flt b)
 | .ref a=>aa (.ref a)
 | .type n=>aa (.ty n)
 | _=>none
theorem Zm.abs{x:V}(r:Zm x u):absV u=aa x:=by
 cases x with
 | non=>cases r;rfl
 | bl _=>cases r;rfl
 | int _=>obtain⟨t,rfl⟩:=r;rfl
 | str _=>obtain⟨t,rfl⟩:=r;rfl
 | byt _=>obtain⟨t,rfl⟩:=r;rfl
 | flt _=>obtain⟨t,rfl⟩:=r;rfl
 | ref _=>cases r;rfl
 | ty _=>cases r;rfl
theorem Zm.inj{x y:V}{u:ag}(r:Zm x u)(q:Zm y u):x=y:=aS (r.abs.symm.trans q.abs)
theorem Zi.inj:∀ {xs ys:List V} {us:List ag},Zi xs us->Zi ys us->xs=ys
 | _,_,_,.nil,.nil=>rfl
 | _,_,_,.cons r t,.cons r' t'=>by rw[r.inj r',Zi.inj t t']
variable{xs ys:List V}{K:aJ}
section
variable{σ:St}
theorem SqL.of(h:H a=aa (.lst xs)):SqL K H a xs:=.inl (.inl h)
theorem SqT.of(h:H a=aa (.tup xs)):SqT K H a xs:=.inl (.inl h)
theorem Inv.list(I:'#')(h:SqL X.K H a xs):∃ its:List ag,Zi xs its/\PlainL s.heap a its.toArray/\xs.length<=sizeLine:=by
 rcases h with h|⟨o,its,n,hk,hc,hd,hs,hz,r⟩
 ·obtain⟨z,its,n,r,e⟩:=h.ok I.hok
  exact⟨its,r,⟨_,n,e,rfl,rfl,rfl⟩,z⟩
 ·refine⟨its.toList,r,⟨o,n,I.kIn a o hk,hc,hd,by simpa using hs⟩,?_⟩
  have e:=r.length
  simp only[bb] at e
  omega
theorem Inv.tuple(I:'#')(h:SqT X.K H a xs):∃ its:List ag,Zi xs its/\mi s.heap a its.toArray/\xs.length<=sizeLine:=by
 rcases h with h|⟨o,its,n,hk,hc,hs,hz,r⟩
 ·obtain⟨z,its,r,p⟩:=h.ok I.hok
  exact⟨its,r,p,z⟩
 ·refine⟨its.toList,r,⟨o,I.kIn a o hk,hc,n,by simpa using hs⟩,?_⟩
  have e:=r.length
  simp only[bb] at e
  omega
theorem Inv.list_inj(I:'#')(h:SqL X.K H a xs)(h':SqL X.K H a ys):xs=ys:=by
 obtain⟨f,r,⟨o,n,e,_,_,d⟩,_⟩:=I.list h
 obtain⟨its',C,⟨i,c,A,_,_,d'⟩,_⟩:=I.list h'
 rw[e] at A;cases A
 rw[d] at d'
 injection d' with d1 _
 have:f=its':=by simpa using congrArg nX d1
 subst this
 exact r.inj C
theorem Inv.tuple_inj(I:'#')(h:SqT X.K H a xs)(h':SqT X.K H a ys):xs=ys:=by
 obtain⟨f,r,⟨o,e,_,n,d⟩,_⟩:=I.tuple h
 obtain⟨its',C,⟨i,A,_,c,d'⟩,_⟩:=I.tuple h'
 rw[e] at A;cases A
 rw[d] at d'
 injection d' with d1 _
 have:f=its':=by simpa using congrArg nX d1
 subst this
 exact r.inj C
end
abbrev Cx.wish(X:Cx)(E:ag->ar->Prop):Cx:={ X with xe:=E }
abbrev Cx.nox(X:Cx):Cx:=X.wish λ_ _=>False
theorem Cx.Ok.wish{X:Cx}(ok:X.Ok)(E:ag->ar->Prop):(X.wish E).Ok :=
 ⟨ok.mod,ok.kind,ok.glob,ok.blt,ok.above,ok.inj,ok.has,ok.cab,ok.hd,ok.frames,ok.stk,ok.exf,ok.bs,ok.bsz,ok.noex,ok.exfs,ok.funs,ok.frf⟩
theorem Cx.Ok.unwish(ok:(X.wish E).Ok):X.Ok :=
 ⟨ok.mod,ok.kind,ok.glob,ok.blt,ok.above,ok.inj,ok.has,ok.cab,ok.hd,ok.frames,ok.stk,ok.exf,ok.bs,ok.bsz,ok.noex,ok.exfs,ok.funs,ok.frf⟩
section
variable{σ:St}
theorem Inv.wish(I:'#')(E:ag->ar->Prop):Inv (X.wish E) pins σ H s:=⟨I.ok.wish E,I.os,I.bare,I.base,I.loc,I.cell,I.free,I.freeC,I.pin,I.hok,I.len⟩
theorem Inv.unwish(I:Inv (X.wish E) pins σ H s):'#':=⟨I.ok.unwish,I.os,I.bare,I.base,I.loc,I.cell,I.free,I.freeC,I.pin,I.hok,I.len⟩
theorem SP.unwish{D:Ends}{f:Flow}{s':ar}(h:SP (X.wish E) pins D f s'):SP X pins D f s':=by
 cases f with
 | next=>obtain⟨j,H',I,q⟩:=h;exact⟨j,H',I.unwish,q⟩
 | brk=>obtain⟨j,H',I,q⟩:=h;exact⟨j,H',I.unwish,q⟩
 | cont=>obtain⟨j,H',I,q⟩:=h;exact⟨j,H',I.unwish,q⟩
 | ret u=>obtain⟨v,j,H',I,r,q⟩:=h;exact⟨v,j,H',I.unwish,r,q⟩
theorem PSs.nox{st:List gK}{t:TS}(h:PSs X.nox st t):PSs X st t:=λL s U H D I R =>
 bx (h L s U H D (I.wish _) R) (λ_ _ q=>q.unwish) λ_ _ z=>cm z
end
variable{st:gK}{te:TE}{tc:TT}
section
variable{rest:List gK}{t u:TS}
def Sr:TS:=λD σ H=>D.nx σ H
def UG(t u:TS):TS:=λD σ H=>t { D with nx:=u D } σ H
theorem ZO:PSs X [] Sr:=λ_ _ U H _ I h=>gx ⟨U,H,I,h⟩
theorem Zd(h1:PS X st t)(O:PSs X rest u):PSs X (st::rest) (UG t u):=by
 intro L s U H D I h
 refine wpAny_execs_cons (thn (h1 L s U H { D with nx:=u D } I h) λf C q=>?_)
 cases f with
 | next =>
  obtain⟨j,H',m,q⟩:=q
  exact O L C j H' D m q
 | ret v=>exact q
 | brk=>exact q
 | cont=>exact q
theorem Zh(h1:PS X st t):PSs X [st] t:=by
 intro L s U H D I h
 refine wpAny_execs_cons (thn (h1 L s U H D I h) λf C q=>?_)
 cases f with
 | next=>exact gx q
 | ret v=>exact q
 | brk=>exact q
 | cont=>exact q
theorem Inv.quiet{σ:St}(I:'#'):interactive X.env=false:=by simp[interactive,I.ok.kind]
def XD(te:TE):TS:=λD σ H=>te σ H λ_ H1=>D.nx σ H1
theorem YM(G:PE X e te)(P:j8 e none pos.line X.env=ej false:=by rfl):PS X (.Expr e pos) (XD te):=by
 intro L s U H D I h
 exact wpAny_Expr_any (thn (G L s U H _ I h) λv s1 ⟨x,H1,I1,r1,q1⟩=>⟨U,H1,I1,q1⟩) I.quiet P
def Vy(te:TE):TS:=λD σ H=>te σ H D.rt
theorem Zr(G:PE X e te):PS X (.Return (aa e) pos) (Vy te):=by
 intro L s U H D I h
 exact wpAny_Return_some (thn (G L s U H _ I h) λv s1 ⟨x,H1,I1,r1,q1⟩=>⟨x,U,H1,I1,r1,q1⟩)
def UH(c:TT)(t u:TS):TS:=λD σ H=>c σ H λb H1=>if b=ak then t D σ H1 else u D σ H1
theorem Yf{a b:List gK}(Y:PT X c tc)(ha:PSs X a t)(hb:PSs X b u):PS X (.If c a b pos) (UH tc t u):=by
 intro L s U H D I h
 refine wpAny_If (thn (Y L s U H _ I h) λd s1 ⟨H1,I1,q1⟩=>?_)
 cases d with
 | true=>exact ha L s1 U H1 D I1 q1
 | false=>exact hb L s1 U H1 D I1 q1
def LZ:TS:=λ_ _ _=>False
theorem Ss:PS X st LZ:=λ_ _ _ _ _ _ h=>h.elim
end
abbrev TG:=V->St->Hp->(St->Hp->Prop)->Prop
abbrev TGs:=List V->St->Hp->(St->Hp->Prop)->Prop
def PG(X:Cx)(target:dW)(t:TG):Prop :=
 ∀ (pins:List (ao×d9)) (s:ar) (σ:St) (H:Hp) (v:V) (u:ag) (Q:St->Hp->Prop),Inv X pins σ H s->Zm v u->t v σ H Q ->
  aw (aH X.prog X.w) X.A (k9 target X.env u) (λ_ s'=>∃ σ' H',Inv X pins σ' H' s'/\Q σ' H') X.xe s
def PGs(X:Cx)(ts:List dW)(t:TGs):Prop :=
 ∀ (pins:List (ao×d9)) (s:ar) (σ:St) (H:Hp) (vs:List V) (us:List ag) (Q:St->Hp->Prop),Inv X pins σ H s->Zi vs us->t vs σ H Q ->
  aw (aH X.prog X.w) X.A (assignInOrder ((fW ts X.env).map (·.2)) us) (λ_ s'=>∃ σ' H',Inv X pins σ' H' s'/\Q σ' H') X.xe s
abbrev Vz:=V->V->V->Hp->(Hp->Prop)->Prop
def Su(X:Cx)(t:Vz):Prop :=
 ∀ (pins:List (ao×d9)) (s:ar) (σ:St) (H:Hp) (o i v:V) (ov iv u:ag) (Q:Hp->Prop),Inv X pins σ H s->Zm o ov->Zm i iv->Zm v u->t o i v H Q ->
  aw (aH X.prog X.w) X.A (my ov iv u) (λ_ s'=>∃ H',Inv X pins σ H' s'/\Q H') X.xe s
variable{n:Nat}{to ti:TE}{tg:dW}{g:TG}{pos':md}{es:List dW}
def Xn(i:Nat):TG:=λv σ H Q=>Q (σ.set i (aa v)) H
theorem Zv(hN:X.N.Nodup)(hi:X.N[i]?=aa x)(W:Loc X.env.scope x)(B:X.fn x=ak\/X.env.scope.names.lookup x=aa .local:=by first|exact .inl rfl|exact .inr rfl|assumption):PG X (.Name x pos) (Xn i):=by
 intro L s U H v u Q I r h
 exact n4 (UD I hN hi W r (λM m=>⟨_,H,m,h⟩) B)
def gNil:TGs:=λvs σ H Q=>vs=[]/\Q σ H
def Sw(t:TG)(u:TGs):TGs:=λvs σ H Q=>∃ v r,vs=v::r/\t v σ H λσ' H'=>u r σ' H' Q
theorem WW:PGs X [] gNil:=by
 intro L s U H vs us Q I r h
 obtain⟨e,h⟩:=h
 subst e
 cases r
 exact assignInOrder_nil ⟨U,H,I,h⟩
theorem YY{t:TG}{u:TGs}(h1:PG X e t)(O:PGs X es u)
  (P:(fW (e::es) X.env).map (·.2)=k9 e X.env::(fW es X.env).map (·.2):=by rfl):PGs X (e::es) (Sw t u):=by
 intro L s U H vs us Q I r h
 obtain⟨v,a,S,h⟩:=h
 subst S
 cases r with
 | cons r c =>
  rw[P]
  refine assignInOrder_cons (thn (h1 L s U H _ _ _ I r h) λ_ s1 ⟨σ1,H1,I1,q1⟩=>?_)
  exact O L s1 σ1 H1 _ _ Q I1 c q1
def Sx(K:aJ)(n:Nat)(t:TGs):TG:=λv σ H Q=>∃ a xs,v=.ref a/\SqT K H a xs/\xs.length=n/\t xs σ H Q
theorem L4{k:Nat}{t:TGs}(Y:X.calm=ak)(h:PGs X es t)
  (hn:(fW es X.env).length=n:=by rfl) (x:(fW es X.env).findIdx? (·.1)=none:=by rfl):PG X (.Tuple es k pos) (Sx X.K n t):=by
 intro L s U H v u Q I r R
 obtain⟨a,xs,S,m,D,R⟩:=R
 subst S
 cases r
 obtain⟨f,T,l,hz⟩:=I.tuple m
 refine assign_Tuple_tuple (I.ok.hd Y) l (by simp[hn,<- D,T.length]) x λh' W=>?_
 have J:Inv X L U H { s with heap:=h' }:=I.kept (t':=s.toks) λb o e=>W b o (aE (ax e)) e
 exact h L _ U H xs _ Q J (by simpa using T) R
def WX(to ti:TE)(t:Vz):TG:=λv σ H Q=>to σ H λo H1=>ti σ H1 λi H2=>t o i v H2 λH3=>Q σ H3
theorem VA{o i:dW}{t:Vz}(J:PE X o to)(hi:PE X i ti)(P:Su X t)
  (ha:∀ v,k9 (.Subscript o i pos) X.env v=(do
   let ov <- jQ [v] (dz o X.env)
   let iv <- jQ [v,ov] (dz i X.env)
   standAt pos
   jQ [v,ov,iv] (my ov iv v)
   release [v,ov,iv] []):=by intro _;rfl):PG X (.Subscript o i pos) (WX to ti t):=by
 intro L s U H v u Q I r h
 rw[ha]
 refine ac (bF (thn (J L s U H _ I h) λov s1 ⟨x,H1,I1,r1,q1⟩=>?_))
 refine ac (bF (thn (hi L s1 U H1 _ I1 q1) λiv s2 ⟨y,H2,I2,r2,q2⟩=>?_))
 refine ac (cW (ac (bF (thn (P L s2 U H2 x y v ov iv u _ I2 r1 r2 r q2) λ_ s3 ⟨H3,I3,q3⟩=>?_))))
 exact wpAny_release ⟨U,H3,I3,q3⟩
def YZ(te:TE)(g:TG):TS:=λD σ H=>te σ H λx H1=>g x σ H1 D.nx
theorem WY(G:PE X e te)(A:PG X tg g)(P:swapsWithSole [tg] e pos.line X.env=ej false:=by rfl)(hw:swappedStores [tg] e X.env=ej none:=by rfl)
  (h1:(fW [tg] X.env).map (·.2)=[k9 tg X.env]:=by rfl):PS X (.Assign [tg] e pos) (YZ te g):=by
 intro L s U H D I h
 refine wpAny_Assign_stores (thn (G L s U H _ I h) λv s1 ⟨x,H1,I1,r1,q1⟩=>?_) P hw
 rw[h1]
 exact thn (A L s1 U H1 x v _ I1 r1 q1) λ_ T q=>q
theorem Zl(hN:X.N.Nodup)(hi:X.N[i]?=aa x)(W:Loc X.env.scope x)(G:PE X e te)(P:j8 e (aa (.Name x pos')) pos.line X.env=ej false:=by rfl)(B:X.fn x=ak\/X.env.scope.names.lookup x=aa .local:=by first|exact .inl rfl|exact .inr rfl|assumption) :
  PS X (.Assign [.Name x pos'] e pos) (YZ te (Xn i)):=by
 intro L s U H D I h
 refine wpAny_Assign_Name (thn (G L s U H _ I h) λv s1 ⟨y,H1,I1,r1,q1⟩=>?_) P
 exact UD I1 hN hi W r1 (λT E=>⟨_,H1,E,q1⟩) B
variable{body:List gK}
def Sy(c:TT)(tb:TS):TS:=λD σ H=>∃ W:Nat->St->Hp->Prop,(∃ m,W m σ H)/\∀ m σ H,W m σ H ->
 c σ H λb H1=>if b=ak then ∃ N:St->Hp->Prop,(∀ σ' H',N σ' H'->∃ m',m' < m/\W m' σ' H')/\tb { D with nx:=N,ct:=N,bk:=D.nx } σ H1 else D.nx σ H1
theorem VB{tb:TS}(T:PassesOwn (aH X.prog X.w) X.A X.env X.xe)(Y:PT X c tc)(hb:PSs X body tb):PS X (.While c body [] pos) (Sy tc tb):=by
 intro L s U H D I h
 obtain⟨W,⟨a,g⟩,turn⟩:=h
 refine wpAny_While (codeAny_whileLoop (λn M=>∃ j H',Inv X L j H' M/\W n j H') ?_ a ⟨U,H,I,g⟩)
 rintro n s1 ⟨σ1,H1,I1,w1⟩
 refine eJ T (thn (Y L s1 σ1 H1 _ I1 (turn n σ1 H1 w1)) λb s2 ⟨H2,I2,E⟩=>?_)
 cases b with
 | true =>
  obtain⟨N,hN,E⟩:=E
  rw[if_pos rfl]
  refine eJ T (thn (hb L s2 σ1 H2 _ I2 E) λf C m=>?_)
  cases f with
  | next =>
   obtain⟨O,S,P,i⟩:=m
   obtain⟨B,l,e⟩:=hN O S i
   exact⟨B,l,O,S,P,e⟩
  | cont =>
   obtain⟨O,S,P,i⟩:=m
   obtain⟨B,l,e⟩:=hN O S i
   exact⟨B,l,O,S,P,e⟩
  | brk=>exact m
  | ret v=>exact m
 | false =>
  rw[if_neg aA]
  exact gx ⟨σ1,H2,I2,E⟩
structure It where
 go:Nat->Hp->Prop
 yld:Nat->Hp->V->Hp->Prop
 stop:Nat->Hp->Prop
def YE(X:Cx)(pins:List (ao×d9))(H:Hp)(b:ao):Prop :=
 H b=none/\b≠X.env.locals/\b∉X.fs/\(b∈X.ex\/X.s₀.heap.objs.size<=b)/\(∀ x c,X.env.cells.lookup x=aa c->c≠b)/\∀ p∈X.pn++pins,p.1≠b
theorem Inv.fpOk{σ:St}(I:'#')(hb:s.heap.objs.size<=b)(hn:H' b=none):YE X pins H' b:=by
 refine⟨hn,bt (aM I.lt hb),I.nofs hb,.inr (aT I.sz hb),λx c e z=>?_,λp T z=>?_⟩
 ·obtain⟨v,q⟩:=I.cell x c e
  exact absurd (aM q.lt (by rw[z];exact hb)) (cA _)
 ·exact absurd (aM (ax (I.pin p T).1) (by rw[z];exact hb)) (cA _)
structure Turn(P:bC)(w:bV)(K:aJ)(tg:dW)(J:It)(fp:List ao)(it:ao)(tn:Nat->bO->Prop):Prop where
 mem:it∈fp
 obj:∀ i h,tn i h->∀ b∈fp,∃ o,h.get? b=aa o/\∀ v,o.data≠.cell v
 keep:∀ i h h',tn i h->(∀ b∈fp,∀ o,h.get? b=aa o->h'.get? b=aa o)->tn i h'
 item:∀ (X:Cx),X.prog=P->X.w=w->X.K=K->X.calm=ak->∀ (i:Nat) (pins:List (ao×d9)) (s:ar) (σ:St) (H:Hp) (E:ag->ar->Prop),Inv X pins σ H s->(∀ b∈fp,YE X pins H b)->tn i s.heap->J.go i H ->
  aw (aH P w) X.A (fU (.ref it)) (λr s1=>∃ u,r=aa u /\
   aw (aH P w) X.A (kA tg (.ref it) u) (λ_ s2=>∃ x H',Inv X pins σ H' s2/\Zm x u/\J.yld i H x H'/\tn (i+1) s2.heap/\∀ b∈fp,H' b=none) E s1) E s
 done:∀ (X:Cx),X.prog=P->X.w=w->X.K=K->X.calm=ak->∀ (i:Nat) (pins:List (ao×d9)) (s:ar) (σ:St) (H:Hp) (E:ag->ar->Prop),Inv X pins σ H s->(∀ b∈fp,YE X pins H b)->tn i s.heap->J.stop i H ->
  aw (aH P w) X.A (fU (.ref it)) (λr s1=>r=none/\Inv X pins σ H s1) E s
 self:∀ (A:cG) (i:Nat) (s:ar) (Q:ag->ar->Prop) (E:ag->ar->Prop),tn i s.heap->Q (.ref it) s->aw (aH P w) A (mC (.ref it)) Q E s
abbrev TI:=St->Hp->(It->Hp->Prop)->Prop
def PIE(X:Cx)(pins:List (ao×d9))(σ:St)(tg:dW)(R:It->Hp->Prop)(itv:ag)(s2:ar):Prop :=
 ∃ (it:ao) (fp:List ao) (tn:Nat->bO->Prop) (J:It) (H':Hp),itv=.ref it/\Inv X pins σ H' s2/\Turn X.prog X.w X.K tg J fp it tn/\tn 0 s2.heap/\(∀ b∈fp,YE X pins H' b)/\R J H'
def PI(X:Cx)(tg iter:dW)(wi:TI):Prop :=
 ∀ (pins:List (ao×d9)) (s:ar) (σ:St) (H:Hp) (R:It->Hp->Prop),Inv X pins σ H s->wi σ H R ->
  aw (aH X.prog X.w) X.A (dz iter X.env) (λv s1=>aw (aH X.prog X.w) X.A (mC v) (PIE X pins σ tg R) X.xe s1) X.xe s
variable{vs:List V}
theorem Sz{o:d9}{n:String}{vs:Array ag}{Q:Unit->ar->Prop}(J:s.heap.get? it=aa o)(Y:o.cls=.type n)(hd:o.data=.fields vs)
    (hn:["enumerate", "zip", "dict_itemiterator", "dict_reverseitemiterator", "odict_iterator", "itertools.zip_longest", "itertools.pairwise"].contains n=aF) (c:Q () s):aw M A (kA tg (.ref it) u) Q E s:=by
  unfold kA
  cases tg<;>first
    | exact af c
    | (cases u<;>first
        | exact af c
        | (refine ac (wpAny_load J ?_)
           rw[Y,hd]
           show aw M A (if (["enumerate", "zip", "dict_itemiterator", "dict_reverseitemiterator", "odict_iterator", "itertools.zip_longest", "itertools.pairwise"].contains n && vs[0]? == aa (bJ _))=ak then _ else _) Q E s
           rw[if_neg (by intro h;rw[hn,Bool.false_and] at h;cases h)]
           exact af c))
def Itl(K:aJ)(a:ao):It :=
 ⟨λi H=>∃ xs x,SqL K H a xs/\xs[i]?=aa x,λi H x H'=>H'=H/\∀ xs,SqL K H a xs->xs[i]?=aa x,λi H=>∃ xs,SqL K H a xs/\xs.length<=i⟩
def Itt(K:aJ)(a:ao):It :=
 ⟨λi H=>∃ xs x,SqT K H a xs/\xs[i]?=aa x,λi H x H'=>H'=H/\∀ xs,SqT K H a xs->xs[i]?=aa x,λi H=>∃ xs,SqT K H a xs/\xs.length<=i⟩
def Itr(lo:Int)(n:Nat):It:=⟨λi _=>i<n,λi H x H'=>H'=H/\x=.int (lo+i),λi _=>n<=i⟩
theorem L5(a it:ao):Turn P w K tg (Itl K a) [it] it (λi h=>h.IsListIter it a i) where
 mem:=by simp
 obj:=λi h st b M=>by
  have e:b=it:=by simpa using M
  subst e
  obtain⟨o,e,c,d⟩:=st
  exact⟨o,e,λv z=>by rw[d] at z;cases z⟩
 keep:=λi h h' st k=>st.at λo e=>k it (by simp) o e
 item:=by
  intro X y R Q Y i L s U H E I B st A
  subst y R Q
  obtain⟨xs,x,m,W⟩:=A
  obtain⟨f,T,p,hz⟩:=I.list m
  obtain⟨u,G,N⟩:=T.get W
  obtain⟨C,Z,O,F,q,l⟩:=B it (by simp)
  refine wpAny_pyNext_list_item st p.isList (x:=u) (by simpa using G) λh' g r=>?_
  have J:Inv X L U H { s with heap:=h' }:=I.turned (t':=s.toks) (λb o M e=>(r.2 b M).trans e) C Z F q l
  obtain⟨o,e,c,d⟩:=id g
  exact⟨u,rfl,Sz (s:={ s with heap:=h' }) e c d (by decide) ⟨x,H,J,N,⟨rfl,λys j=>by rw[I.list_inj j m];exact W⟩,g,λb M=>(B b M).1⟩⟩
 done:=by
  intro X y R Q Y i L s U H E I B st A
  subst y R Q
  obtain⟨xs,m,W⟩:=A
  obtain⟨f,T,p,hz⟩:=I.list m
  obtain⟨C,Z,O,F,q,l⟩:=B it (by simp)
  have D:=T.length
  exact wpAny_pyNext_list_end (I.ok.hd Y) st p.isList (by simp;omega) λh' S=>⟨rfl,I.turned (t':=s.toks) (λb o M e=>S b o M e) C Z F q l⟩
 self:=λ_ _ _ _ _ st h=>wpAny_pyIter_listiter st h
theorem L6(a it:ao):Turn P w K tg (Itt K a) [it] it (λi h=>h.IsTupleIter it a i) where
 mem:=by simp
 obj:=λi h st b M=>by
  have e:b=it:=by simpa using M
  subst e
  obtain⟨o,e,c,d⟩:=st
  exact⟨o,e,λv z=>by rw[d] at z;cases z⟩
 keep:=λi h h' st k=>st.at λo e=>k it (by simp) o e
 item:=by
  intro X y R Q Y i L s U H E I B st A
  subst y R Q
  obtain⟨xs,x,m,W⟩:=A
  obtain⟨f,T,p,hz⟩:=I.tuple m
  obtain⟨u,G,N⟩:=T.get W
  obtain⟨C,Z,O,F,q,l⟩:=B it (by simp)
  refine wpAny_pyNext_tuple_item st (show s.heap.IsTuple a f.toArray from p) (x:=u) (by simpa using G) λh' g r=>?_
  have J:Inv X L U H { s with heap:=h' }:=I.turned (t':=s.toks) (λb o M e=>(r.2 b M).trans e) C Z F q l
  obtain⟨o,e,c,d⟩:=id g
  exact⟨u,rfl,Sz (s:={ s with heap:=h' }) e c d (by decide) ⟨x,H,J,N,⟨rfl,λys j=>by rw[I.tuple_inj j m];exact W⟩,g,λb M=>(B b M).1⟩⟩
 done:=by
  intro X y R Q Y i L s U H E I B st A
  subst y R Q
  obtain⟨xs,m,W⟩:=A
  obtain⟨f,T,p,hz⟩:=I.tuple m
  obtain⟨C,Z,O,F,q,l⟩:=B it (by simp)
  have D:=T.length
  exact wpAny_pyNext_tuple_end (I.ok.hd Y) st (show s.heap.IsTuple a f.toArray from p) (by simp;omega) λh' S=>⟨rfl,I.turned (t':=s.toks) (λb o M e=>S b o M e) C Z F q l⟩
 self:=λ_ _ _ _ _ st h=>wpAny_pyIter_tupleiter st h
theorem L7(it:ao)(lo:Int)(n:Nat):Turn P w K tg (Itr lo n) [it] it (λi h=>IsRangeIter h it (lo+(i:Nat)*1) ((n:Int)-(i:Nat)) 1) where
 mem:=by simp
 obj:=λi h st b M=>by
  have e:b=it:=by simpa using M
  subst e
  exact⟨_,st,λv z=>by
   have a:jF _=iA v:=z
   cases a⟩
 keep:=λi h h' st k=>k it (by simp) _ st
 item:=by
  intro X y R Q Y i L s U H E I B st A
  subst y R Q
  obtain⟨C,Z,c,f,q,l⟩:=B it (by simp)
  have W:=Walks.range (prog:=X.prog) (w:=X.w) (I.ok.hd Y) it lo 1 n
  refine W.item i s _ _ A st λv h' tk N g j=>?_
  obtain⟨t,rfl⟩:=N
  have J:Inv X L U H { s with heap:=h',toks:=tk }:=I.turned (λb o M e=>j b o (by simpa using M) e) C Z f q l
  refine⟨_,rfl,Sz (s:={ s with heap:=h',toks:=tk }) (n := "range_iterator") g rfl rfl (by decide) ⟨.int (lo+i),H,J,⟨t,?_⟩,⟨rfl,rfl⟩,g,λb M=>(B b M).1⟩⟩
  rw[Int.mul_one]
 done:=by
  intro X y R Q Y i L s U H E I B st A
  subst y R Q
  obtain⟨C,Z,c,f,q,l⟩:=B it (by simp)
  exact wpAny_pyNext_range_end (I.ok.hd Y) st (by have:n<=i:=A;omega) λh' S=>⟨rfl,I.turned (t':=s.toks) (λb o M e=>S b o M e) C Z f q l⟩
 self:=λ_ _ _ _ _ st h=>wpAny_pyIter_rangeiter st h
variable{lo:Int}{tk:mI}{p:md}{pl:ao}{iter:dW}{wi:TI}{fp:List ao}{R:Result->ar->Prop}
theorem L8{σ:St}{R:It->Hp->Prop}{hi:Int}{t u v:mI}{tk:Nat}(I:'#')(h1:-(2 ^ 62)<=lo)(O:lo<2 ^ 62)(B:-(2 ^ 62)<=hi)(F:hi<2 ^ 62)
  (q:R (Itr lo (hi-lo).toNat) H):aw (aH X.prog X.w) X.A (mC (.ref s.heap.objs.size)) (PIE X pins σ tg R) E { s with heap:=s.heap.push { cls:=.type "range",data:=.fields #[.int lo t,.int hi u,.int 1 v] },toks:=tk }:=by
 refine wpAny_pyIter_range (IsRange.new ..) (small_one h1 O B F) ?_
 have J:Inv X pins σ H { s with heap:=s.heap.push { cls:=.type "range",data:=.fields #[.int lo t,.int hi u,.int 1 v] },toks:=tk }:=I.kept λb o e=>ae _ e
 refine⟨(s.heap.push { cls:=.type "range",data:=.fields #[.int lo t,.int hi u,.int 1 v] }).objs.size,[(s.heap.push { cls:=.type "range",data:=.fields #[.int lo t,.int hi u,.int 1 v] }).objs.size],_,_,H,rfl,
  J.kept (t':=tk) λb o e=>ae _ e,L7 _ lo (hi-lo).toNat,?_,λb M=>?_,q⟩
 ·have S:lo+((0:Nat):Int)*1=lo:=by simp
  have N:(((hi-lo).toNat:Nat):Int)-((0:Nat):Int)=cZ.Range.rangeSize lo hi 1:=by rw[rangeSize_one];split<;>omega
  show IsRangeIter _ _ (lo+((0:Nat):Int)*1) ((((hi-lo).toNat:Nat):Int)-((0:Nat):Int)) 1
  rw[S,N]
  exact az _ rfl
 ·have e:b=(s.heap.push { cls:=.type "range",data:=.fields #[.int lo t,.int hi u,.int 1 v] }).objs.size:=by simpa using M
  subst e
  exact J.fpOk (aq _) (J.hok.fresh (aq _))
def UI(ta:TA):TI:=λσ H R=>ta σ H λvs H1=>∃ j:Int,vs=[.int j]/\-(2 ^ 62)<=j/\j<2 ^ 62/\R (Itr 0 j.toNat) H1
theorem XX{a:dW}{ta:TA}(A:Gl X "range")(hm:X.mg "range" = none)(ha:PA X [a] ta)(P:aY [a] X.env=[(aF,dz a X.env)]:=by rfl):PI X tg (.Call (.Name "range" p) [a] [] pos) (UI ta):=by
 intro L s U H R I h
 refine Call_ (XW I A hm boot_range (cV (thn (ha pos L s U H _ I h) λus s1 ⟨vs,H1,I1,r1,l⟩=>?_) P rfl))
 obtain⟨j,e,l,E,q⟩:=l
 subst e
 cases r1 with
 | cons r c =>
  cases c
  obtain⟨t,rfl⟩:=r
  exact call_range_1 (L8 I1 (by omega) (by omega) l E (by simpa using q))
def WZ(wi:TI)(g:TG)(tb:TS):TS:=λD σ H=>wi σ H λJ H1=>∃ W:Nat->Nat->St->Hp->Prop,(∃ m,W 0 m σ H1)/\∀ i m σ H,W i m σ H ->
 (J.stop i H/\D.nx σ H)\/(J.go i H/\∃ N:St->Hp->Prop,(∀ σ' H',N σ' H'->∃ m',m' < m/\W (i+1) m' σ' H')/\∀ x H',J.yld i H x H'->g x σ H' λσ2 H2=>tb { D with nx:=N,ct:=N,bk:=D.nx } σ2 H2)
def VC(fp:List ao)(h:bO):List (ao×d9):=fp.filterMap λb=>(h.get? b).map λo=>(b,o)
theorem UJ{o:d9}(hb:b∈fp)(e:h.get? b=aa o):(b,o)∈VC fp h:=mem_filterMap.mpr ⟨b,hb,by rw[e];rfl⟩
theorem L9{p:ao×d9}(T:p∈VC fp h):p.1∈fp/\h.get? p.1=aa p.2:=by
 obtain⟨b,M,e⟩:=mem_filterMap.mp T
 cases q:h.get? b with
 | none=>rw[q] at e;cases e
 | some o =>
  rw[q] at e
  have A:(b,o)=p:=aS e
  subst A
  exact⟨M,q⟩
theorem Inv.pinned{σ:St}(I:'#')(B:∀ b∈fp,YE X pins H b)(J:∀ b∈fp,∃ o,s.heap.get? b=aa o/\∀ v,o.data≠.cell v):Inv X (pins++VC fp s.heap) σ H s :=
 I.pins_of λp T=>(nV.mp T).elim (λz=>I.pin p (bi _ z)) λz=>by
  obtain⟨M,e⟩:=L9 z
  obtain⟨C,Z,c,_⟩:=B p.1 M
  obtain⟨o,A,d⟩:=J p.1 M
  rw[e] at A;cases A
  exact⟨e,C,Z,c,d⟩
theorem Inv.unpinned{pl:List (ao×d9)}{σ:St}(I:Inv X (pins++pl) σ H s):'#':=I.pins_of λp T=>I.pin p (bi _ (a9 _ T))
theorem YF{tb:TS}(hp:PassesOwn (aH X.prog X.w) X.A X.env X.xe)(Y:X.calm=ak)(hi:PI X tg iter wi)(A:PG X tg g)(hb:PSs X body tb)
  (P:∀ x,gX iter X.env x=ej x:=by intro _;rfl):PS X (.For tg iter body [] pos) (WZ wi g tb):=by
 intro L s U H D I h
 refine wpAny_For (thn (hi L s U H _ I h) λv C Z=>thn Z λitv s2 O=>?_) P
 obtain⟨it,fp,tn,J,w,e,E,T,G,f2,W,⟨m0,w0⟩,turn⟩:=O
 subst e
 have q:∀ {H':Hp},(∀ b∈fp,H' b=none)->∀ b∈fp,YE X L H' b:=λhn b hb=>⟨hn b hb,(f2 b hb).2⟩
 refine codeAny_forLoop_any (λn M=>∃ i j H',Inv X L j H' M/\tn i M.heap/\(∀ b∈fp,H' b=none)/\W i n j H') ?_ m0 ⟨0,U,w,E,G,λb hb=>(f2 b hb).1,w0⟩
 rintro n s3 ⟨i,σ3,H3,I3,st3,fr3,w3⟩
 rcases turn i n σ3 H3 w3 with⟨F,qn⟩|⟨go,N,hN,step⟩
 ·refine eJ hp (thn (T.done X rfl rfl rfl Y i L s3 σ3 H3 X.xe I3 (q fr3) st3 F) λr s4 ⟨hr,I4⟩=>?_)
  subst hr
  exact gx ⟨σ3,H3,I4,qn⟩
 ·refine eJ hp (thn (T.item X rfl rfl rfl Y i L s3 σ3 H3 X.xe I3 (q fr3) st3 go) λr s4 ⟨u,hr,h4⟩=>?_)
  subst hr
  refine eJ hp (thn h4 λ_ s5 ⟨x,H5,I5,r5,y5,st5,fr5⟩=>?_)
  have R:=I5.pinned (q fr5) (T.obj _ _ st5)
  refine eJ hp (thn (A _ s5 σ3 H5 x u _ R r5 (step x H5 y5)) λ_ s6 ⟨σ6,H6,I6,q6⟩=>?_)
  refine eJ hp (thn (hb _ s6 σ6 H6 _ I6 q6) λf l y=>?_)
  have p:∀ {c:St} {K:Hp},Inv X (L++VC fp s5.heap) c K l->N c K->∃ m,m<n/\∃ i j H',Inv X L j H' l/\tn i l.heap/\(∀ b∈fp,H' b=none)/\W i m j H':=λ{c K} Q a=>by
   obtain⟨B,S,w7⟩:=hN c K a
   refine⟨B,S,i+1,c,K,Q.unpinned,T.keep _ _ _ st5 λb hb o e=>(Q.pin (b,o) (bi _ (bi _ (UJ hb e)))).1,λb hb=>?_,w7⟩
   obtain⟨o,e,d⟩:=T.obj _ _ st5 b hb
   exact (Q.pin (b,o) (bi _ (bi _ (UJ hb e)))).2.1
  cases f with
  | next=>obtain⟨c,K,Q,a⟩:=y;exact p Q a
  | cont=>obtain⟨c,K,Q,a⟩:=y;exact p Q a
  | brk=>obtain⟨c,K,Q,y⟩:=y;exact⟨c,K,Q.unpinned,y⟩
  | ret v=>obtain⟨x7,c,K,Q,r7,y⟩:=y;exact⟨x7,c,K,Q.unpinned,r7,y⟩
abbrev R2:=V->V->Hp->VK->Prop
def OpR(X:Cx)(f:ag->ag->Sem ag)(r:R2):Prop :=
 ∀ (pins:List (ao×d9)) (s:ar) (σ:St) (H:Hp) (x y:V) (v u:ag) (Q:VK),Inv X pins σ H s->Zm x v->Zm y u->r x y H Q ->
  aw (aH X.prog X.w) X.A (f v u) (EP X pins σ Q) X.xe s
def UnR(X:Cx)(f:ag->Sem ag)(r:V->Hp->VK->Prop):Prop :=
 ∀ (pins:List (ao×d9)) (s:ar) (σ:St) (H:Hp) (x:V) (v:ag) (Q:VK),Inv X pins σ H s->Zm x v->r x H Q ->
  aw (aH X.prog X.w) X.A (f v) (EP X pins σ Q) X.xe s
def ZD(X:Cx)(f:ag)(r:List V->Hp->VK->Prop):Prop :=
 ∀ (pins:List (ao×d9)) (s:ar) (σ:St) (H:Hp) (xs:List V) (us:List ag) (Q:VK),Inv X pins σ H s->Zi xs us->r xs H Q ->
  aw (aH X.prog X.w) X.A (call f us) (EP X pins σ Q) X.xe s
def tOp(r:R2)(ta tb:TE):TE:=λσ H Q=>ta σ H λx H1=>tb σ H1 λy H2=>r x y H2 Q
def tUn(r:V->Hp->VK->Prop)(ta:TE):TE:=λσ H Q=>ta σ H λx H1=>r x H1 Q
def rI(C:Int->Int->Prop)(g:Int->Int->V):R2:=λx y H Q=>∃ i j,x=.int i/\y=.int j/\C i j/\Q (g i j) H
def rI0(g:Int->Int->V):R2:=λx y H Q=>∃ i j,x=.int i/\y=.int j/\Q (g i j) H
def rU(g:Int->V):V->Hp->VK->Prop:=λx H Q=>∃ i,x=.int i/\Q (g i) H
variable{i:Int}{op:CmpOp}{r:R2}{C:ao}{g:Int->Int->Int}{f:ag->ag->Sem ag}
section
variable{a b:dW}
theorem SA(ha:PE X a ta)(hb:PE X b tb){σ:St}{R:V->V->Hp->Prop}(I:'#')
  (h:ta σ H λx H1=>tb σ H1 λy H2=>R x y H2)  
  (B:∀ v u s2 x y H2,Inv X pins σ H2 s2->Zm x v->Zm y u->R x y H2->aw (aH X.prog X.w) X.A (f v u) Q X.xe s2) :
  aw (aH X.prog X.w) X.A (dz a X.env) (λv s₁=>aw (aH X.prog X.w) X.A (dz b X.env) (λu s₂=>aw (aH X.prog X.w) X.A (f v u) Q X.xe s₂) X.xe s₁) X.xe s:=by
 refine thn (ha pins s σ H _ I h) λv s1 ⟨x,H1,I1,r1,q1⟩=>?_
 refine thn (hb pins s1 σ H1 _ I1 q1) λu s2 ⟨y,H2,I2,r2,q2⟩=>?_
 exact B v u s2 x y H2 I2 r1 r2 q2
theorem Zj{op:Operator}(J:OpR X (c4 op) r)(ha:PE X a ta)(hb:PE X b tb):PE X (.BinOp a op b pos) (tOp r ta tb):=by
 intro L s U H Q I h
 exact wpAny_BinOp (SA ha hb I h λv u T x y w E A R q=>J L T U w x y v u Q E A R q)
theorem VD{op:UnaryOp}{r:V->Hp->VK->Prop}(J:UnR X (unaryOp op) r)(ha:PE X a ta):PE X (.UnaryOp op a pos) (tUn r ta):=by
 intro L s U H Q I h
 exact UnaryOp_ (thn (ha L s U H _ I h) λv s1 ⟨x,H1,I1,r1,q1⟩=>J L s1 U H1 x v Q I1 r1 q1)
theorem opI{C:Int->Int->Prop}
  (a:∀ (i j:Int) (t u:mI) (s:ar) (Q:ag->ar->Prop) (E:ag->ar->Prop),C i j->Q (.int (g i j) s.toks) { s with toks:=s.toks+1 }->aw (aH X.prog X.w) X.A (f (.int i t) (.int j u)) Q E s) :
  OpR X f (rI C λi j=>.int (g i j)):=by
 intro L s U H x y v u Q I A R h
 obtain⟨i,j,rfl,rfl,Y,q⟩:=h
 obtain⟨t,rfl⟩:=A
 obtain⟨t',rfl⟩:=R
 exact a i j t t' s _ _ Y ⟨.int (g i j),H,I.tok _,⟨_,rfl⟩,q⟩
theorem opI0
  (a:∀ (i j:Int) (t u:mI) (s:ar) (Q:ag->ar->Prop) (E:ag->ar->Prop),Q (.int (g i j) s.toks) { s with toks:=s.toks+1 }->aw (aH X.prog X.w) X.A (f (.int i t) (.int j u)) Q E s) :
  OpR X f (rI0 λi j=>.int (g i j)):=by
 intro L s U H x y v u Q I A R h
 obtain⟨i,j,rfl,rfl,q⟩:=h
 obtain⟨t,rfl⟩:=A
 obtain⟨t',rfl⟩:=R
 exact a i j t t' s _ _ ⟨.int (g i j),H,I.tok _,⟨_,rfl⟩,q⟩
theorem UK{g:Int->Int->Bool}
  (a:∀ (i j:Int) (t u:mI) (s:ar) (Q:ag->ar->Prop) (E:ag->ar->Prop),Q (.bool (g i j)) s->aw (aH X.prog X.w) X.A (f (.int i t) (.int j u)) Q E s) :
  OpR X f (rI0 λi j=>.bl (g i j)):=by
 intro L s U H x y v u Q I A R h
 obtain⟨i,j,rfl,rfl,q⟩:=h
 obtain⟨t,rfl⟩:=A
 obtain⟨t',rfl⟩:=R
 exact a i j t t' s _ _ ⟨.bl (g i j),H,I,rfl,q⟩
def CDiv(i j:Int):Prop:=0<j/\j<1073741824
def CPow(i j:Int):Prop:=0<=j/\j<=1000000/\i.natAbs<2 ^ 64
def VE(i j:Int):Prop:=(-(2 ^ 64)<i/\i<2 ^ 64)\/(-(2 ^ 64)<j/\j<2 ^ 64)
theorem VE.ok{j:Int}(h:VE i j):IntMulOk i j:=by
 rcases h with⟨Z,O⟩|⟨Z,O⟩
 ·exact .of_left (intBits_le_64 Z O)
 ·exact .of_right (intBits_le_64 Z O)
theorem Ka:OpR X (c4 .Add) (rI0 λi j=>.int (i+j)):=opI0 λ_ _ _ _ _ _ _ q=>add_int q
theorem VF:OpR X (c4 .Sub) (rI0 λi j=>.int (i-j)):=opI0 λ_ _ _ _ _ _ _ q=>sub_int q
theorem Kb:OpR X (c4 .Mult) (rI VE λi j=>.int (i*j)):=opI λ_ _ _ _ _ _ _ Y q=>mul_int q Y.ok
theorem YS:OpR X (c4 .FloorDiv) (rI CDiv λi j=>.int (i / j)):=opI λi j _ _ _ _ _ Y q=>by
 have Z:(0:Int)<j:=Y.1
 have O:j<1073741824:=Y.2
 exact floordiv_int (by omega) (by rw[Int.fdiv_eq_ediv_of_nonneg i (by omega)];exact q) (.inl (PyProof.noPylong_small (by omega)))
theorem ZZ:OpR X (c4 .Mod) (rI (λ_ j=>0<j) λi j=>.int (i%j)):=opI λi j _ _ _ _ _ Y q=>by
 have Z:(0:Int)<j:=Y
 exact mod_int' (by omega) (by rw[Int.fmod_eq_emod_of_nonneg i (by omega)];exact q)
theorem Q5:OpR X (c4 .Pow) (rI CPow λi j=>.int (i ^ j.toNat)):=opI λ_ _ _ _ _ _ _ Y q=>pow_int_small Y.1 Y.2.1 Y.2.2 q
theorem unI{f:ag->Sem ag}{g:Int->Int}
  (a:∀ (i:Int) (t:mI) (s:ar) (Q:ag->ar->Prop) (E:ag->ar->Prop),Q (.int (g i) s.toks) { s with toks:=s.toks+1 }->aw (aH X.prog X.w) X.A (f (.int i t)) Q E s) :
  UnR X f (rU λi=>.int (g i)):=by
 intro L s U H x v Q I A h
 obtain⟨i,rfl,q⟩:=h
 obtain⟨t,rfl⟩:=A
 exact a i t s _ _ ⟨.int (g i),H,I.tok _,⟨_,rfl⟩,q⟩
theorem VG:UnR X (unaryOp .USub) (rU λi=>.int (-i)):=unI λ_ _ _ _ _ q=>neg_int q
end
def scal:V->V->Bool
 | .non,.non=>ak|.non,.int _=>ak|.int _,.non=>ak|.non,.bl _=>ak|.bl _,.non=>ak|.non,.str _=>ak|.str _,.non=>ak
 | .int _,.int _=>ak|.bl _,.bl _=>ak|.str _,.str _=>ak|.byt _,.byt _=>ak
 | .int _,.str _=>ak|.str _,.int _=>ak|.bl _,.str _=>ak|.str _,.bl _=>ak
 | _,_=>aF
def rEq:R2:=λx y H Q=>scal x y=ak/\Q (.bl (decide (x=y))) H
def rNe:R2:=λx y H Q=>scal x y=ak/\Q (.bl (!decide (x=y))) H
theorem Q6{j:Int}:decide (V.int i=V.int j)=(i == j):=by
 rw[eY]
 simp
theorem Q7{i j:Bool}:decide (V.bl i=V.bl j)=(i == j):=by
 rw[eY]
 simp
theorem Q8{i j:aQ}:decide (V.str i=V.str j)=(i == j):=by
 rw[eY]
 simp
theorem Q9{i j:Array UInt8}:decide (V.byt i=V.byt j)=(i.toList == j.toList):=by
 rw[eY]
 cases i
 cases j
 simp
variable{r':R2}{y:V}{us:List ag}
section
variable{a b:dW}{tc:TE}
theorem ZK{σ:St}{Q:VK}{k k':Bool}(I:'#')(q:Q (.bl k) H)(e:k=k'):EP X pins σ Q (.bool k') s:=by
 subst e
 exact⟨.bl k,H,I,rfl,q⟩
theorem Kc:OpR X (bE .Eq) rEq:=by
 intro L s U H x y v u Q I A R h
 obtain⟨P,q⟩:=h
 cases x with
 | non =>
  cases A
  cases y with
  | non=>cases R;exact PySem.EqNone.eq_none_none (ZK I q (by simp))
  | bl j=>cases R;exact PySem.EqNone.eq_none_bool (ZK I q (by simp))
  | int j=>obtain⟨t',rfl⟩:=R;exact PySem.EqNone.eq_none_int (ZK I q (by simp))
  | str j=>obtain⟨t',rfl⟩:=R;exact PySem.EqNone.eq_none_str (ZK I q (by simp))
  | _=>exact absurd (show aF=ak from P) aA
 | bl i =>
  cases A
  cases y with
  | non=>cases R;exact PySem.EqNone.eq_bool_none (ZK I q (by simp))
  | bl j=>cases R;exact eq_bool (ZK I q Q7)
  | str j=>obtain⟨t',rfl⟩:=R;exact PySem.EqMixed.eq_bool_str (ZK I q (by simp))
  | _=>exact absurd (show aF=ak from P) aA
 | int i =>
  obtain⟨t,rfl⟩:=A
  cases y with
  | non=>cases R;exact PySem.EqNone.eq_int_none (ZK I q (by simp))
  | int j=>obtain⟨t',rfl⟩:=R;exact eq_int (ZK I q Q6)
  | str j=>obtain⟨t',rfl⟩:=R;exact PySem.EqMixed.eq_int_str (ZK I q (by simp))
  | _=>exact absurd (show aF=ak from P) aA
 | str i =>
  obtain⟨t,rfl⟩:=A
  cases y with
  | non=>cases R;exact PySem.EqNone.eq_str_none (ZK I q (by simp))
  | bl j=>cases R;exact PySem.EqMixed.eq_str_bool (ZK I q (by simp))
  | int j=>obtain⟨t',rfl⟩:=R;exact PySem.EqMixed.eq_str_int (ZK I q (by simp))
  | str j=>obtain⟨t',rfl⟩:=R;exact eq_str (ZK I q Q8)
  | _=>exact absurd (show aF=ak from P) aA
 | byt i =>
  obtain⟨t,rfl⟩:=A
  cases y with
  | byt j=>obtain⟨t',rfl⟩:=R;exact PySem.W.eq_bytes (ZK I q Q9)
  | _=>exact absurd (show aF=ak from P) aA
 | _=>cases y<;>exact absurd (show aF=ak from P) aA
theorem Kd:OpR X (bE .NotEq) rNe:=by
 intro L s U H x y v u Q I A R h
 obtain⟨P,q⟩:=h
 cases x with
 | non =>
  cases A
  cases y with
  | non=>cases R;exact PySem.EqNone.ne_none_none (ZK I q (by simp))
  | bl j=>cases R;exact PySem.EqNone.ne_none_bool (ZK I q (by simp))
  | int j=>obtain⟨t',rfl⟩:=R;exact PySem.EqNone.ne_none_int (ZK I q (by simp))
  | str j=>obtain⟨t',rfl⟩:=R;exact PySem.EqNone.ne_none_str (ZK I q (by simp))
  | _=>exact absurd (show aF=ak from P) aA
 | bl i =>
  cases A
  cases y with
  | non=>cases R;exact PySem.EqNone.ne_bool_none (ZK I q (by simp))
  | bl j=>cases R;exact ne_bool (ZK I q (congrArg not Q7))
  | str j=>obtain⟨t',rfl⟩:=R;exact PySem.EqMixed.ne_bool_str (ZK I q (by simp))
  | _=>exact absurd (show aF=ak from P) aA
 | int i =>
  obtain⟨t,rfl⟩:=A
  cases y with
  | non=>cases R;exact PySem.EqNone.ne_int_none (ZK I q (by simp))
  | int j=>obtain⟨t',rfl⟩:=R;exact ne_int (ZK I q (congrArg not Q6))
  | str j=>obtain⟨t',rfl⟩:=R;exact PySem.EqMixed.ne_int_str (ZK I q (by simp))
  | _=>exact absurd (show aF=ak from P) aA
 | str i =>
  obtain⟨t,rfl⟩:=A
  cases y with
  | non=>cases R;exact PySem.EqNone.ne_str_none (ZK I q (by simp))
  | bl j=>cases R;exact PySem.EqMixed.ne_str_bool (ZK I q (by simp))
  | int j=>obtain⟨t',rfl⟩:=R;exact PySem.EqMixed.ne_str_int (ZK I q (by simp))
  | str j=>obtain⟨t',rfl⟩:=R;exact ne_str (ZK I q (congrArg not Q8))
  | _=>exact absurd (show aF=ak from P) aA
 | byt i =>
  obtain⟨t,rfl⟩:=A
  cases y with
  | byt j=>obtain⟨t',rfl⟩:=R;exact PySem.W.ne_bytes (ZK I q (congrArg not Q9))
  | _=>exact absurd (show aF=ak from P) aA
 | _=>cases y<;>exact absurd (show aF=ak from P) aA
theorem Xo:OpR X (bE .Lt) (rI0 λi j=>.bl (decide (i<j))):=UK λ_ _ _ _ _ _ _ q=>lt_int q
theorem SB:OpR X (bE .LtE) (rI0 λi j=>.bl (decide (i<=j))):=UK λ_ _ _ _ _ _ _ q=>le_int q
theorem Xp:OpR X (bE .Gt) (rI0 λi j=>.bl (decide (j<i))):=UK λ_ _ _ _ _ _ _ q=>gt_int q
theorem Pa:OpR X (bE .GtE) (rI0 λi j=>.bl (decide (j<=i))):=UK λ_ _ _ _ _ _ _ q=>ge_int q
theorem Ke:OpR X (bE .In) (λx y H Q=>∃ i j,x=.str i/\y=.str j/\Q (.bl (!(eP j i 0 j.length 1).isEmpty)) H):=by
 intro L s U H x y v u Q I A R h
 obtain⟨i,j,rfl,rfl,q⟩:=h
 obtain⟨t,rfl⟩:=A
 obtain⟨t',rfl⟩:=R
 exact in_str (ZK I q rfl)
theorem OpR.or(h:OpR X f r)(h':OpR X f r'):OpR X f (λx y H Q=>r x y H Q\/r' x y H Q):=by
 intro L s U H x y v u Q I A R q
 rcases q with q|q
 ·exact h L s U H x y v u Q I A R q
 ·exact h' L s U H x y v u Q I A R q
theorem nomark(b:dW)(h:op≠.In:=by decide)(O:op≠.NotIn:=by decide):jw op b=false:=by
 have S:(op == CmpOp.In)=false:=by cases op<;>first|rfl|exact absurd rfl h
 have N:(op == CmpOp.NotIn)=false:=by cases op<;>first|rfl|exact absurd rfl O
 cases b<;>simp[jw,S,N]
theorem Xc(J:OpR X (bE op) r)(ha:PE X a ta)(hb:PE X b tb)(hm:jw op b=aF):PE X (.Compare a [op] [b] pos) (tOp r ta tb):=by
 intro L s U H Q I h
 exact wpAny_Compare1 (SA ha hb I h λv u T x y w E A R q=>J L T U w x y v u Q E A R q) hm
def VH(t:TE):TT:=λσ H Q=>t σ H λx H'=>∃ k,x=.bl k/\Q k H'
theorem ZB(J:OpR X (bE op) r)(ha:PE X a ta)(hb:PE X b tb)(hm:jw op b=aF):PT X (.Compare a [op] [b] pos) (VH (tOp r ta tb)):=by
 intro L s U H Q I h
 refine wpAny_isTrue_Compare1 (thn (ha L s U H _ I h) λv s1 ⟨x,H1,I1,r1,q1⟩=>thn (hb L s1 U H1 _ I1 q1) λu s2 ⟨y,H2,I2,r2,q2⟩ =>
  thn (J L s2 U H2 x y v u _ I2 r1 r2 q2) λc s3 ⟨z,H3,I3,r3,k,e,q3⟩=>?_) hm
 subst e
 cases r3
 exact bT ⟨H3,I3,q3⟩
def Pb(r r':R2)(ta tb tc:TE):TE:=λσ H Q=>ta σ H λx H1=>tb σ H1 λy H2=>r x y H2 λz H3=>∃ k,z=.bl k /\
 (if k=ak then tc σ H3 λw' H4=>r' y w' H4 Q else Q (.bl aF) H3)
theorem Kf{f:CmpOp}(J:OpR X (bE op) r)(g:OpR X (bE f) r')(ha:PE X a ta)(hb:PE X b tb)(Y:PE X c tc)
  (hm:lastMarks [op,f] [b,c]=false:=by with_unfolding_all rfl):PT X (.Compare a [op,f] [b,c] pos) (VH (Pb r r' ta tb tc)):=by
 intro L s U H Q I h
 refine isTrue_chain (thn (ha L s U H _ I h) λv s1 ⟨x,H1,I1,r1,q1⟩=>test_link (thn (hb L s1 U H1 _ I1 q1) λu s2 ⟨y,H2,I2,r2,q2⟩ =>
  thn (J L s2 U H2 x y v u _ I2 r1 r2 q2) λd s3 ⟨z,H3,I3,r3,k,e,q3⟩=>?_)) hm
 subst e
 cases r3
 refine bT ?_
 cases k with
 | false =>
  obtain⟨k',A,q'⟩:=q3
  cases A
  exact ite_ff ⟨H3,I3,q'⟩
 | true =>
  refine ite_tt (test_last (thn (Y L s3 U H3 _ I3 q3) λw' s4 ⟨z',H4,I4,r4,q4⟩=>thn (g L s4 U H4 y z' u w' _ I4 r2 r4 q4) λd' s5 ⟨z2,H5,I5,r5,k2,e2,q5⟩=>?_))
  subst e2
  cases r5
  exact bT ⟨H5,I5,q5⟩
theorem line63:(sizeLine:Nat)<2 ^ 63:=by rw[dG];decide
theorem Kg:OpR X (c4 .Add) (λx y H Q=>∃ i j,x=.str i/\y=.str j/\i.length+j.length<=sizeLine/\Q (.str (i++j)) H):=by
 intro L s U H x y v u Q I A R h
 obtain⟨i,j,rfl,rfl,hz,q⟩:=h
 obtain⟨t,rfl⟩:=A
 obtain⟨t',rfl⟩:=R
 exact add_str (λt' tk=>⟨.str (i++j),H,I.tok _,⟨_,rfl⟩,q⟩) hz
theorem vals1{x:V}(r:Zi [x] us):∃ u,us=[u]/\Zm x u:=by
 cases r with
 | cons g G=>cases G;exact⟨_,rfl,g⟩
theorem vals2{x:V}(r:Zi [x,y] us):∃ u F,us=[u,F]/\Zm x u/\Zm y F:=by
 cases r with
 | cons g G =>
  cases G with
  | cons A c=>cases c;exact⟨_,_,rfl,g,A⟩
theorem Kh(Y:X.calm=ak):ZD X (.builtin "max") (λxs H Q=>∃ i j,xs=[.int i,.int j]/\Q (.int (if j > i then j else i)) H):=by
 intro L s U H xs us Q I r h
 obtain⟨i,j,rfl,q⟩:=h
 obtain⟨u,F,rfl,⟨t,rfl⟩,⟨t',rfl⟩⟩:=vals2 r
 refine max_two_ints (I.ok.hd Y) λh' tk k=>⟨_,H,I.kept k,?_,q⟩
 by_cases a:j > i
 ·rw[if_pos a,if_pos a];exact⟨_,rfl⟩
 ·rw[if_neg a,if_neg a];exact⟨_,rfl⟩
theorem Ki(Y:X.calm=ak):ZD X (.builtin "min") (λxs H Q=>∃ i j,xs=[.int i,.int j]/\Q (.int (if j<i then j else i)) H):=by
 intro L s U H xs us Q I r h
 obtain⟨i,j,rfl,q⟩:=h
 obtain⟨u,F,rfl,⟨t,rfl⟩,⟨t',rfl⟩⟩:=vals2 r
 refine min_two_ints (I.ok.hd Y) λh' tk k=>⟨_,H,I.kept k,?_,q⟩
 by_cases a:j<i
 ·rw[if_pos a,if_pos a];exact⟨_,rfl⟩
 ·rw[if_neg a,if_neg a];exact⟨_,rfl⟩
theorem Pc:ZD X (.type "int") (λxs H Q=>(∃ i,xs=[.int i]/\Q (.int i) H)\/∃ k,xs=[.bl k]/\Q (.int (if k then 1 else 0)) H):=by
 intro L s U H xs us Q I r h
 rcases h with⟨i,rfl,q⟩|⟨k,rfl,q⟩
 ·obtain⟨u,rfl,t,rfl⟩:=vals1 r
  exact call_int_int ⟨.int i,H,I,⟨_,rfl⟩,q⟩
 ·obtain⟨u,rfl,g⟩:=vals1 r
  cases g
  exact call_int_bool ⟨.int (if k then 1 else 0),H,I.tok _,⟨_,rfl⟩,q⟩
end
structure ObjM(h:bO)(x dx C:ao)(mA:aQ->Option ag):Prop where
 obj:h.get? x=aa (jo C dx)
 ns:h.Ns1 dx mA
 ne:dx≠x
variable{dx:ao}{mA:aQ->Option ag}
theorem Pd(n:h.Ns1 dx mA):∃ od,h.get? dx=aa od/\∀ name,jB name od=aa (mA name):=by
 obtain⟨o,es,f,J,hd,R,_,S⟩:=n
 refine⟨o,J,λname=>?_⟩
 have e:=S name
 unfold nsFind findBy at e
 rw[<- lV] at e
 unfold jB
 rw[hd]
 dsimp only
 split
 ·rename_i y q
  rw[q] at e
  exact congrArg aa e
 ·rename_i q
  rw[q] at e
  have a:es.toList.any (·.refKey)=false:=by
   rw[List.any_eq_false]
   intro y j
   obtain⟨z,t,l⟩:=R y (Array.mem_toList_iff.mp j)
   simp[DictEntry.refKey,l]
  have Q:¬ es.toList.any (·.refKey)=true:=by rw[a];exact aA
  rw[if_neg Q]
  exact congrArg aa e
theorem ObjM.look{x:ao}(I:ObjM h x dx C mA):∃ od,cy h x (jo C dx) C (aa od)/\∀ name,jB name od=aa (mA name) :=
 let ⟨od,J,D⟩:=Pd I.ns
 ⟨od,⟨I.obj,rfl,rfl,J⟩,D⟩
def Xq(f:aQ)(v:V):List (aQ×V)->List (aQ×V)
 | []=>[(f,v)]
 | (g,x)::r=>if g=f then (g,v)::r else (g,x)::Xq f v r
theorem Pe(f g:aQ)(v:V):∀ fs:List (aQ×V),(Xq f v fs).lookup g=if g=f then aa v else fs.lookup g
 | []=>by
  show fM g [(f,v)]=_
  by_cases h:g=f
  ·have M:(g == f)=true:=beq_iff_eq.mpr h
   simp only[fM,M,if_pos h]
  ·have M:(g == f)=false:=beq_eq_false_iff_ne.mpr h
   simp only[fM,M,if_neg h]
 | (k,x)::r=>by
  have E:=Pe f g v r
  rw[show Xq f v ((k,x)::r)=(if k=f then (k,v)::r else (k,x)::Xq f v r) from rfl]
  by_cases R:k=f
  ·rw[if_pos R]
   by_cases h:g=k
   ·have M:(g == k)=true:=beq_iff_eq.mpr h
    simp only[fM,M,if_pos (h.trans R)]
   ·have M:(g == k)=false:=beq_eq_false_iff_ne.mpr h
    simp only[fM,M,if_neg (λe:g=f=>h (e.trans R.symm))]
  ·rw[if_neg R]
   by_cases h:g=k
   ·have M:(g == k)=true:=beq_iff_eq.mpr h
    simp only[fM,M,if_neg (λe:g=f=>R (h.symm.trans e))]
   ·have M:(g == k)=false:=beq_eq_false_iff_ne.mpr h
    simp only[fM,M]
    exact E
theorem SC(f:aQ)(v:V):∀ fs:List (aQ×V),f∈(Xq f v fs).map (·.1)/\∀ g,g∈fs.map (·.1)->g∈(Xq f v fs).map (·.1)
 | []=>⟨by simp[Xq],λg h=>by simp at h⟩
 | (k,x)::r=>by
  obtain⟨L,F⟩:=SC f v r
  rw[show Xq f v ((k,x)::r)=(if k=f then (k,v)::r else (k,x)::Xq f v r) from rfl]
  by_cases R:k=f
  ·rw[if_pos R]
   subst R
   exact⟨by simp,λg h=>by simpa using h⟩
  ·rw[if_neg R]
   refine⟨?_,λg h=>?_⟩
   ·rw[bw]
    exact cg _ L
   ·rw[bw] at h ⊢
    rcases gh.mp h with e|e
    ·exact gh.mpr (.inl e)
    ·exact cg _ (F g e)
theorem YK.some_of{o:Option ag}(r:YK (aa v) o):∃ u,o=aa u/\Zm v u:=by
 cases o with
 | none=>exact (show False from r).elim
 | some u=>exact⟨u,rfl,r⟩
theorem Kj(r:Zm v u):mH u=true:=by
 cases v with
 | non=>cases (show u=bI from r);rfl
 | bl b=>cases (show u=gQ b from r);rfl
 | int i=>obtain⟨t,e⟩:=(show ∃ t,u=f8 i t from r);cases e;rfl
 | str x=>obtain⟨t,e⟩:=(show ∃ t,u=eZ x t from r);cases e;rfl
 | byt b=>obtain⟨t,e⟩:=(show ∃ t,u=oj b t from r);cases e;rfl
 | flt b=>obtain⟨t,e⟩:=(show ∃ t,u=lf b t from r);cases e;rfl
 | ref a=>cases (show u=aG a from r);rfl
 | ty n=>cases (show u=cY n from r);rfl
section
variable{fs:List (aQ×V)}
theorem Kk(hok:HOk P w H h)(e:H a=aa (.ins C dx fs)):∃ mA,ObjM h a dx C mA/\(∀ f,YK (fs.lookup f) (mA f))/\i9 mA (fs.map (·.1))/\fs.length<=1000/\H dx=aa (.own a):=by
 obtain⟨d,z,ne,j,mA,n,r,q⟩:=(show Zx P w H h a (.ins C dx fs) from hok a _ e)
 exact⟨mA,⟨j,n,ne⟩,r,q,z,d⟩
end
structure Cls(K:aJ)(C:ao):Prop where
 pg:lJ K C jC=ak
 hd:g0 K C=ak
 po:PySem.W.plainOver K C=ak
 sa:cu K (.ref C) "__setattr__" = aa (aa (.builtin "object.__setattr__"))
theorem Cls.get(c:Cls K C)(f:aQ):lJ K C f=true:=c.pg
variable{f:ao}{prog:bC}{env:iS}
section
variable{f:aQ}
theorem Kl(hb:e8 e f env (dz e env)=dz e env)
  (h:aw (aH prog w) A (dz e env) (λo s₁=>aw (aH prog w) A (getAttr o f ak) Q E s₁) E s):aw (aH prog w) A (dz (.Attribute e f pos) env) Q E s :=
 Attribute_any_ h (by rw[arm_eval_Attribute,hb])
end
section
variable{σ:St}{c:ag}{b:Bool}
inductive TyOf(K:aJ)(H:Hp):V->ag->Prop where
 | non:TyOf K H .non (.type "NoneType")
 | bl (x:Bool):TyOf K H (.bl x) (.type "bool")
 | int (i:Int):TyOf K H (.int i) (.type "int")
 | str (x:aQ):TyOf K H (.str x) (.type "str")
 | flt (x:UInt64):TyOf K H (.flt x) (.type "float")
 | lst {a:ao} {xs:List V} (e:H a=aa (.lst xs)):TyOf K H (.ref a) (.type "list")
 | frz {a:ao} {o:d9} {xs:List V} (e:H a=aa (.frz o (.lst xs))):TyOf K H (.ref a) (.type "list")
 | tup {a:ao} {xs:List V} (e:H a=aa (.tup xs)):TyOf K H (.ref a) (.type "tuple")
 | dK {a:ao} {kvs:List (Key×V)} (e:H a=aa (.dK kvs)):TyOf K H (.ref a) (.type "dict")
 | dT {a:ao} {kvs:List (List Key×V)} (e:H a=aa (.dT kvs)):TyOf K H (.ref a) (.type "dict")
 | ins {a C dx:ao} {fs:List (aQ×V)} (e:H a=aa (.ins C dx fs)) (cl:Cls K C) (ha:cu K (.ref C) "__class__" = aa (aa (.builtin "object.__class__")))
   (hn:jW K (.builtin "object.__class__") "__get__" = aa (aa (.builtin "getset_descriptor.__get__"))) (htk:kC K (.builtin "object.__class__")=aa ak)
   (hm:fw K C (.type "object")=aa ak):TyOf K H (.ref a) (.ref C)
theorem Km{x:V}{t:ag}(I:'#')(r:Zm x u)(ty:TyOf X.K H x t)(e:bW X.K t c=aa b)(h:∀ tk,Q (.bool b) { s with toks:=tk }) :
  aw (aH X.prog X.w) A (call (.builtin "isinstance") [u,c]) Q E s:=by
 cases ty with
 | non=>cases (show u=bI from r);exact bv lu I.kIn bD e (λz=>nomatch z) h
 | bl y=>cases (show u=gQ y from r);exact bv lw I.kIn bD e (λz=>nomatch z) h
 | int i=>obtain⟨t,q⟩:=(show ∃ t,u=f8 i t from r);cases q;exact bv lM I.kIn bD e (λz=>nomatch z) h
 | str y=>obtain⟨t,q⟩:=(show ∃ t,u=eZ y t from r);cases q;exact bv lK I.kIn bD e (λz=>nomatch z) h
 | flt y=>obtain⟨t,q⟩:=(show ∃ t,u=lf y t from r);cases q;exact bv PySem.W.kitx_float I.kIn bD e (λz=>nomatch z) h
 | @lst a xs M =>
  cases (show u=aG a from r)
  obtain⟨_,_,n,_,Z⟩:=(show Zx X.prog X.w H s.heap a (.lst xs) from I.hok a _ M)
  exact bv iR I.kIn ⟨_,Z,rfl⟩ e (λz=>nomatch z) h
 | @frz a j xs M =>
  cases (show u=aG a from r)
  obtain⟨_,_,_,n,_,Z⟩:=(show Zx X.prog X.w H s.heap a (.frz j (.lst xs)) from I.hok a _ M)
  exact bv iR I.kIn ⟨_,Z,rfl⟩ e (λz=>nomatch z) h
 | @tup a xs M =>
  cases (show u=aG a from r)
  obtain⟨_,_,_,p⟩:=(show Zx X.prog X.w H s.heap a (.tup xs) from I.hok a _ M)
  obtain⟨o,Z,v,_⟩:=p
  exact bv k_ I.kIn ⟨o,Z,v⟩ e (λz=>nomatch z) h
 | @dK a kvs M =>
  cases (show u=aG a from r)
  obtain⟨_,_,vs,_,p⟩:=(show Zx X.prog X.w H s.heap a (.dK kvs) from I.hok a _ M)
  obtain⟨o,es,f,Z,v,_⟩:=p
  exact bv lv I.kIn ⟨o,Z,v.1⟩ e (λz=>nomatch z) h
 | @dT a kvs M =>
  cases (show u=aG a from r)
  obtain⟨_,_,xs,_,o,es,f,Z,v,_⟩:=(show Zx X.prog X.w H s.heap a (.dT kvs) from I.hok a _ M)
  exact bv lv I.kIn ⟨o,Z,v.1⟩ e (λz=>nomatch z) h
 | @ins a C D fs M cl m g l S =>
  cases (show u=aG a from r)
  obtain⟨K,O,_⟩:=Kk I.hok M
  obtain⟨od,J,_⟩:=O.look
  exact bv (PySem.W.kitx_own (cl.get _) cl.hd m g l S) I.kIn J e (λz=>nomatch z) h
end
structure Room(k:Nat)(A:cG):Prop where
 hd:A.handled=none
 dp:A.depth+3*k+5<recursionLimit
 un:A.units+16*k+200<cJ
theorem Room.mono{k:Nat}(r:Room k A)(h:j<=k):Room j A:=⟨r.hd,by have:=r.dp;omega,by have:=r.un;omega⟩
theorem Room.deeper{k:Nat}{A:cG}(r:Room (k+1) A)(env:iS):Room k (A.deeper env) :=
 ⟨r.hd,by have:=r.dp;show A.depth+1+3*k+5<_;omega,by have:=r.un;show A.units+3+16*k+200<_;omega⟩
variable{kw:List (aQ×ag)}
theorem Ko:(A.under (.builtin "type.__call__" ⟨.ref C::us,kw⟩)).depth=A.depth+1:=by
 first|rfl|simp[kt,Code.weight,Code.isCreation,Code.isGuard,Code.isCaller,Code.frames,kP,guardIds]
theorem Kq:(A.under (.builtin "type.__call__" ⟨.ref C::us,kw⟩)).units=A.units+1:=by
 first|rfl|simp[kt,Code.cUnits,Code.frames,kP]
theorem Room.make{k:Nat}(r:Room (k+1) A)(C:ao)(us:List ag)(kw:List (aQ×ag)):Room k (A.under (.builtin "type.__call__" ⟨.ref C::us,kw⟩)) :=
 ⟨r.hd,by have:=r.dp;rw[Ko];omega,by have:=r.un;rw[Kq];omega⟩
theorem Room.depth{k:Nat}{A:cG}(r:Room k A):A.depth<recursionLimit:=by have:=r.dp;omega
theorem Room.units{k:Nat}{A:cG}(r:Room k A):A.units+64<cLine:=by have:=r.un;omega
def Y0:TA:=λ_ H Q=>Q [] H
def YG(ta:TE)(tr:TA):TA:=λσ H Q=>ta σ H λx H1=>tr σ H1 λxs H2=>Q (x::xs) H2
section
variable{t:TA}
theorem Zb:PA X [] Y0:=λ_ _ _ _ H Q I h=>Calls.spliced_nil ⟨[],H,I,.nil,h⟩
theorem Za(ha:PE X e te)(J:PA X es t)(P:aY (e::es) X.env=(aF,dz e X.env)::aY es X.env:=by rfl):PA X (e::es) (YG te t):=by
 intro pos L s U H Q I h
 rw[P]
 show aw _ _ (spliced ((aF,dz e X.env)::dC pos (aY es X.env))) _ _ s
 refine Calls.spliced_cons (thn (ha L s U H _ I h) λu s1 ⟨x,H1,I1,r1,q1⟩=>?_)
 exact thn (J pos L s1 U H1 _ I1 q1) λus s2 ⟨xs,H2,I2,r2,q2⟩=>⟨x::xs,H2,I2,.cons r1 r2,q2⟩
def VI(t:TA):TE:=λσ H Q=>t σ H λxs H1=>xs.length<=sizeLine/\∀ p,H1 p=none->Q (.ref p) (upd H1 p (.tup xs))
def SD(t:TA):TE:=λσ H Q=>t σ H λxs H1=>xs.length<=sizeLine/\∀ p,H1 p=none->Q (.ref p) (upd H1 p (.lst xs))
theorem YT{x1}(h:PA X es t):PE X (.Tuple es x1 pos) (VI t):=by
 intro L s U H Q I m
 refine wpAny_Tuple_spliced (thn (h pos L s U H _ I m) λus s1 ⟨xs,H1,I1,r,z,q⟩=>⟨by rw[<- r.length];exact z,?_⟩)
 have B:H1 s1.heap.objs.size=none:=I1.hok.fresh (aq _)
 refine⟨.ref s1.heap.objs.size,upd H1 s1.heap.objs.size (.tup xs),I1.laid (t':=s1.toks) (λb u e=>ae _ e) (aq _) ?_,rfl,q _ B⟩
 exact⟨z,us,r,⟨_,az _ rfl,rfl,⟨_,rfl⟩,rfl⟩⟩
theorem Xd(h:PA X es t):PE X (.List es pos) (SD t):=by
 intro L s U H Q I m
 refine wpAny_List_spliced (thn (h pos L s U H _ I m) λus s1 ⟨xs,H1,I1,r,z,q⟩=>⟨by rw[<- r.length];exact z,?_⟩)
 have B:H1 s1.heap.objs.size=none:=I1.hok.fresh (aq _)
 refine⟨.ref s1.heap.objs.size,upd H1 s1.heap.objs.size (.lst xs),I1.laid (t':=s1.toks) (λb u e=>ae _ e) (aq _) ?_,rfl,q _ B⟩
 exact⟨z,us,0,r,az _ rfl⟩
end
abbrev Sp:=List V->Hp->VK->XK->Prop
abbrev CXT:=List iS->Hp->ar->XK->ag->ar->Prop
structure Env0(P:bC)(w:bV)(K:aJ)(mg:aQ->Option ag)(base:bO)(A:cG)(outer:List iS)(s:ar)(H:Hp):Prop where
 frames:A.frames=aa outer
 mod:Mod K mg base
 bs:∀ b o,base.get? b=aa o->s.heap.get? b=aa o/\H b=none
 bsz:base.objs.size<=s.heap.objs.size
 funs:s.heap.FunFrames base outer
 frf:∀ b∈frs outer,H b=none
 hok:HOk P w H s.heap
 bare:g_ s.gens
def CE(outer:List iS)(P:bC)(w:bV)(H:Hp)(s:ar)(Q:VK)(u:ag)(s':ar):Prop :=
 ∃ v H',s'.os=s.os/\g_ s'.gens/\Un (frs outer) [] H H' s.heap s'.heap/\HOk P w H' s'.heap/\Zm v u/\Q v H'
def CR(CX:CXT)(outer:List iS)(P:bC)(w:bV)(H:Hp)(s:ar)(Q:VK)(E:XK)(r:Result)(s':ar):Prop :=
 match r with
 | .ok (.ret u)=>CE outer P w H s Q u s'
 | .ok _=>False
 | .error e=>CX outer H s E e s'
structure FnOk(P:bC)(w:bV)(K:aJ)(mg:aQ->Option ag)(base:bO)(CX:CXT)(k:Nat)(f:ao)(fd:fC)(ps:List aQ)(sp:Sp):Prop where
 len:∀ vs H Q E,sp vs H Q E->vs.length=ps.length
 run:∀ (A:cG) (outer:List iS) (s:ar) (H:Hp) (args:Args) (us:List ag) (vs:List V) (Q:VK) (E:XK),Room k A->Env0 P w K mg base A outer s H->g5 s fd args (ps.zip us)->Zi vs us->sp vs H Q E ->
  fZ (aH P w) A (.call (.ref f) args) (CR CX outer P w H s Q E) s
theorem FnOk.mono{P:bC}{w:bV}{K:aJ}{mg:aQ->Option ag}{base:bO}{CX:CXT}{j k:Nat}{f:ao}{fd:fC}{ps:List aQ}{sp:Sp}(F:FnOk P w K mg base CX j f fd ps sp)(h:j<=k) :
  FnOk P w K mg base CX k f fd ps sp:=⟨F.len,λA g s H args us vs Q E J=>F.run A g s H args us vs Q E (J.mono h)⟩
variable{base:bO}{CX:CXT}{fd:fC}{sp:Sp}{ps:List aQ}{mg:aQ->Option ag}
theorem FnOk.imp{k:Nat}{a:Sp}(F:FnOk P w K mg base CX k f fd ps sp)
  (h:∀ vs H Q E,a vs H Q E->sp vs H Q E):FnOk P w K mg base CX k f fd ps a :=
 ⟨λvs H Q E q=>F.len vs H Q E (h _ _ _ _ q),λA g s H args us vs Q E J G M N b=>F.run A g s H args us vs Q E J G M N (h _ _ _ _ b)⟩
variable{outer:List iS}
theorem Env0.make(e:Env0 P w K mg base A outer s H)(C:ao)(us:List ag)(kw:List (aQ×ag)) :
  Env0 P w K mg base (A.under (.builtin "type.__call__" ⟨.ref C::us,kw⟩)) outer s H:=⟨by first|exact e.frames|(simpa [kt,Code.envs,kP,pushEnvs] using e.frames),e.mod,e.bs,e.bsz,e.funs,e.frf,e.hok,e.bare⟩
section
variable{σ:St}
theorem Inv.env0(I:'#'):Env0 X.prog X.w X.K X.mg X.base X.A X.stack s H :=
 ⟨I.ok.frames,I.ok.mod,I.bs,aT I.ok.bsz I.sz,I.stack,I.stkFree,I.hok,I.bare⟩
theorem Inv.after{Q:VK}(I:'#')(h:CE X.stack X.prog X.w H s Q u s'):EP X pins σ Q u s':=by
 obtain⟨v,H',L,a,un,c,r,q⟩:=h
 obtain⟨W,g,d,t,e⟩:=s'
 obtain rfl:e=s.os:=L
 exact⟨v,H',I.call (h':=W) (g':=g) (d':=d) (t':=t) (ch:=[]) un c a (λb z=>absurd z (by simp)),r,q⟩
end
def Wr(sp:Sp)(dvs:List V)(E:XK)(t:TA):TE:=λσ H Q=>t σ H λvs H1=>sp (vs++dvs) H1 Q E
def Y1(K:aJ)(fd:fC)(ps:List aQ)(ds:List ag):Prop :=
 ∀ (s:ar) (us:List ag),K.In s.heap->(us++ds).length=ps.length->g5 s fd ⟨us,[]⟩ (ps.zip (us++ds))
theorem Y1.all(h:∀ us:List ag,us.length=ps.length->m5 fd ⟨us,[]⟩=ej (ps.zip us)):Y1 K fd ps []:=λs us _ D=>by
 rw[ck] at D ⊢
 exact .of_eq (h us D)
def Ws(CX:CXT)(X:Cx)(E:XK):Prop:=∀ (pins:List (ao×d9)) (σ:St) (H:Hp) (s:ar) (e:ag) (s':ar),Inv X pins σ H s->CX X.stack H s E e s'->X.xe e s'
variable{dvs:List V}{ds:List aj}
section
variable{k:Nat}{ds:List ag}{E:XK}{t:TA}
theorem Kr{σ:St}{Q:VK}(F:FnOk X.prog X.w X.K X.mg X.base CX k f fd ps sp)(J:Room k X.A)(hb:Y1 X.K fd ps ds)(hd:Zi dvs ds)(W:Ws CX X E)
  (I:'#') (r:Zi vs us) (h:sp (vs++dvs) H Q E):aw (aH X.prog X.w) X.A (call (.ref f) us) (EP X pins σ Q) X.xe s:=by
 have G:Zi (vs++dvs) (us++ds):=r.append hd
 have D:(us++ds).length=ps.length:=by rw[<- G.length];exact F.len _ _ _ _ h
 refine fg (eA (F.run X.A X.stack s H ⟨us,[]⟩ (us++ds) (vs++dvs) Q E J I.env0 (hb s us I.kIn D) G h) λr M m=>?_)
 cases r with
 | error e=>exact W pins σ H s e M I m
 | ok p =>
  cases p with
  | ret u=>exact I.after m
  | next=>exact cm m
  | brk=>exact cm m
  | cont=>exact cm m
theorem Ks(F:FnOk X.prog X.w X.K X.mg X.base CX k f fd ps sp)(J:Room k X.A)(A:Gl X x)(hm:X.mg x=aa (.ref f))(R:cX X.K (.ref f)=ak)(hb:Y1 X.K fd ps ds)(hd:Zi dvs ds)(W:Ws CX X E)
  (ha:PA X (e::es) t) (a:(x == ("__debug__" : aQ))=false:=by decide) (G:aY (e::es) X.env=(aF,dz e X.env)::aY es X.env:=by rfl) (m:(dC pos (aY es X.env)).any (·.1)=false:=by rfl) :
  PE X (.Call (.Name x p) (e::es) [] pos) (Wr sp dvs E t):=by
 intro L s U H Q I h
 refine dt (XC I A hm ?_ a)
 refine iz (h₀:=X.base) I.ok.mod.kin R (thn (ha pos L s U H _ I h) λus s1 ⟨vs,H1,I1,r,q⟩=>⟨I1.kIn,?_⟩) G m
 exact Kr F J hb hd W I1 r q
end
def PK(X:Cx)(kws:List kM)(t:TA):Prop :=
 ∀ (pos:md) (pins:List (ao×d9)) (s:ar) (σ:St) (H:Hp) (Q:List V->Hp->Prop),Inv X pins σ H s->t σ H Q->aw (aH X.prog X.w) X.A (evalAll ((m6 pos (kl kws X.env)).map (·.2))) (AP X pins σ Q) X.xe s
section
variable{kpos:md}{kws:List kM}{t:TA}{nm:Option aQ}
theorem Kt:PK X [] Y0:=λ_ _ _ _ H Q I h=>wpAny_evalAll_nil ⟨[],H,I,.nil,h⟩
theorem Ku(ha:PE X e te)(J:PK X kws t):PK X (⟨nm,e,kpos⟩::kws) (YG te t):=by
 intro pos L s U H Q I h
 show aw _ _ (evalAll ((do let v <- dz e X.env;standAt pos;ej v)::(m6 pos (kl kws X.env)).map (·.2))) _ _ s
 refine wpAny_evalAll_cons (ac (thn (ha L s U H _ I h) λu s1 ⟨x,H1,I1,r1,q1⟩=>ac (cW (af ?_))))
 exact thn (J pos L s1 U H1 _ I1 q1) λus s2 ⟨xs,H2,I2,r2,q2⟩=>⟨x::xs,H2,I2,.cons r1 r2,q2⟩
end
structure FnScope(N P:List aQ)(sc:e_):Prop where
 kind:sc.kind=.function
 co:sc.isCoroutine=aF
 gen:sc.isGenerator=aF
 nd:N.Nodup
 pre:N.take P.length=P
 par:∀ x∈P,sc.names.lookup x=aa .local\/sc.names.lookup x=aa .cell
 nofree:∀ y∈sc.names,y.2≠.free
theorem Pf{a:aQ->Option fB}{x:aQ}:∀ {b:List (aQ×ag)} {m:aQ->Option ag},(∀ v,(x,v)∉b)->l9 a b m x=m x
 | [],_,_=>rfl
 | (n,v)::r,m,h=>by
  unfold l9
  rw[Pf λw R=>h w (cg _ R)]
  split
  ·have:x≠n:=by rintro rfl;exact h v gb
   simp[this]
  ·rfl
theorem Pg{a:aQ->Option fB}{x:aQ}:∀ {b:List (aQ×ag)} {m:aQ->Option ag},(∀ v,(x,v)∉b)->l_ a b m x=m x
 | [],_,_=>rfl
 | (n,v)::r,m,h=>by
  unfold l_
  rw[Pg λw R=>h w (cg _ R)]
  split
  ·rfl
  ·have:x≠n:=by rintro rfl;exact h v gb
   simp[this]
theorem Ph{a:aQ->Option fB}{x:aQ}{v:ag}:∀ {P:List aQ} {vs:List ag} {i:Nat} {m:aQ->Option ag},P.Nodup->P[i]?=aa x->vs[i]?=aa v->a x=aa .local ->
  l9 a (P.zip vs) m x=aa v
 | [],_,_,_,_,h,_,_=>by simp at h
 | _::_,[],_,_,_,_,h,_=>by simp at h
 | p::P,w::vs,0,m,nd,h1,h2,hk=>by
  simp at h1 h2;subst h1;subst h2
  show l9 a ((p,w)::P.zip vs) m p=_
  unfold l9
  rw[Pf λv N=>(nU.mp nd).1 (jI N).1,if_pos hk]
  simp
 | p::P,w::vs,i+1,m,nd,h1,h2,hk=>by
  show l9 a ((p,w)::P.zip vs) m x=_
  unfold l9
  exact Ph (i:=i) (nU.mp nd).2 (by simpa using h1) (by simpa using h2) hk
theorem Pi{a:aQ->Option fB}{x:aQ}{v:ag}:∀ {P:List aQ} {vs:List ag} {i:Nat} {m:aQ->Option ag},P.Nodup->P[i]?=aa x->vs[i]?=aa v->a x≠aa .local ->
  l_ a (P.zip vs) m x=aa v
 | [],_,_,_,_,h,_,_=>by simp at h
 | _::_,[],_,_,_,_,h,_=>by simp at h
 | p::P,w::vs,0,m,nd,h1,h2,hk=>by
  simp at h1 h2;subst h1;subst h2
  show l_ a ((p,w)::P.zip vs) m p=_
  unfold l_
  rw[Pg λv N=>(nU.mp nd).1 (jI N).1,if_neg hk]
  simp
 | p::P,w::vs,i+1,m,nd,h1,h2,hk=>by
  show l_ a ((p,w)::P.zip vs) m x=_
  unfold l_
  exact Pi (i:=i) (nU.mp nd).2 (by simpa using h1) (by simpa using h2) hk
def start(N:List aQ)(vs:List V):St:=vs.map aa++aB (N.length-vs.length) none
def Z6(CX:CXT)(P:bC)(w:bV)(K:aJ)(mg:aQ->Option ag)(base:bO)(N:List aQ)(qual:aQ)(scope:e_)(f:ao)(cd:ag)(A:cG)(outer:List iS)(s:ar)(H:Hp)(E:XK):Cx where
 prog:=P
 w:=w
 K:=K
 mg:=mg
 base:=base
 A:=A.deeper (dZ qual scope s.heap.objs.size f cd)
 N:=N
 s₀:=s
 H₀:=H
 env:=dZ qual scope s.heap.objs.size f cd
 outer:=outer
 stack:=dZ qual scope s.heap.objs.size f cd::outer
 ex:=[]
 calm:=ak
 fn:=λ_=>ak
 pn:=[]
 xe:=λe s'=>aw (aH P w) (A.deeper (dZ qual scope s.heap.objs.size f cd)) (n' (dZ qual scope s.heap.objs.size f cd) e) (λ_ s''=>CX outer H s E e s'') (λe' s''=>CX outer H s E e' s'') s'
theorem Pj{sc:e_}(h:sc.names.lookup x=aa .cell):∃ c,(b0 n sc.names []).lookup x=aa c:=by
 have q:=e6 sc.names n [] (.inl h)
 exact Option.isSome_iff_exists.mp q
variable{qual:aQ}{scope:e_}{cd:ag}
theorem Kv{s1:ar}{E:XK}
  (S:FnScope N ps scope) (hd:A.handled=none) (U:Env0 P w K mg base A outer s H) (D:vs.length=ps.length) (r:Zi vs us)
  (x:InCallC s s.heap.objs.size (l9 (dZ qual scope s.heap.objs.size f cd).kindOf (ps.zip us) λ_=>none) (b0 (s.heap.objs.size+1) scope.names []) (l_ (dZ qual scope s.heap.objs.size f cd).kindOf (ps.zip us) λ_=>none) s1) :
  Inv (Z6 CX P w K mg base N qual scope f cd A outer s H E) [] (start N vs) H s1:=by
 have m:ps.length<=N.length:=by have:=congrArg e7 S.pre;rw[hF] at this;omega
 obtain⟨Z,tk,rfl,R⟩:=x.done
 have M:∀ b:ao,b∉(Z6 CX P w K mg base N qual scope f cd A outer s H E).ex:=λb z=>absurd (show b∈([]:List ao) from z) (by simp)
 refine⟨⟨U.mod,S.kind,rfl,rfl,aq _,λy z c Z O=>?_,λy j=>?_,λy c _ h=>?_,λ_=>hd,kQ U.frames,.inr ⟨rfl,rfl⟩,λb z=>absurd z (M b),U.bs,U.bsz,λb _ _=>M b,λb z=>absurd z (M b),U.funs,U.frf⟩,
  rfl,U.bare,Un.kept R,⟨_,x.toInCall.ns,λi y v Z O B=>?_⟩,λy c h=>⟨_,x.cell y c h⟩,U.hok.fresh (aq _),λy c h=>?_,λp T=>absurd (show p∈([]:List (ao×d9)) from T) (by simp),U.hok.kept R,?_⟩
 ·exact name_of_addr x.apart (bK Z) (bK O)
 ·have j:scope.names.lookup y=aa .cell\/scope.names.lookup y=aa .free:=j
  rcases j with j|j
  ·exact Pj j
  ·exact absurd rfl (S.nofree _ (bK j))
 ·exact cP (x.above y c (bK h))
 ·have C:i<vs.length:=by
   unfold start at O
   by_cases C:i<vs.length
   ·exact C
   ·rw[gs (by simpa using C)] at O
    rw[List.getElem?_replicate] at O
    split at O<;>cases O
  have G:vs[i]?=aa v:=by
   unfold start at O
   rw[eS (by simpa using C),aW] at O
   cases e:vs[i]? with
   | none=>rw[e] at O;cases O
   | some a=>rw[e] at O;cases O;rfl
  obtain⟨u,l,F⟩:=r.get G
  have T:ps[i]?=aa y:=by
   rw[<- S.pre,ku (by omega)];exact Z
  have g:ps.Nodup:=by rw[<- S.pre];exact S.nd.sublist (List.take_sublist _ _)
  refine⟨u,F,?_⟩
  rcases S.par y (ik T) with k|k
  ·exact .inl ⟨k,Ph g T l k⟩
  ·obtain⟨c,e⟩:=Pj (n:=s.heap.objs.size+1) k
   refine .inr ⟨.inl k,c,e,?_⟩
   have q:=x.cell y c e
   rw[Pi g T l (by show scope.names.lookup y≠_;rw[k];decide)] at q
   exact q
 ·exact U.hok.fresh (cP (x.above y c (bK h)))
 ·unfold start
  show _=N.length
  rw[ay,ah,fv]
  omega
variable{name:aQ}{params:mh}{dV doc pm oc:ag}{ct:Sl->Prop}{an od:Option ao}
theorem UL{k:Nat}{kV cdv ct:ag}
  {osl:Array (Option ag)}   (a:K.lookup f=aa ⟨oc,od,.func (bA name qual params body scope dV kV doc pm an cdv ct),osl⟩) (L:dj K cdv qual=ak) (S:FnScope N ps scope)
  (len:∀ vs H Q E,sp vs H Q E->vs.length=ps.length)
  (g:∀ (A:cG) (outer:List iS) (s:ar) (H:Hp) (vs:List V) (Q:VK) (E:XK),Room k (A.deeper (dZ qual scope s.heap.objs.size f cdv))->sp vs H Q E ->
   ∃ t,PSs (Z6 CX P w K mg base N qual scope f cdv A outer s H E) body t/\t { nx:=λ_ H'=>Q .non H',rt:=Q } (start N vs) H) :
  FnOk P w K mg base CX (k+1) f (bA name qual params body scope dV kV doc pm an cdv ct) ps sp:=by
 refine⟨len,λA outer s H args us vs Q E F U X r i=>?_⟩
 have D:=len _ _ _ _ i
 have O:K.In s.heap:=U.mod.kin.keeps λb o e=>(U.bs b o e).1
 have h:s.heap.NoLimit:=U.mod.nolimit.keeps λb o e=>(U.bs b o e).1
 have c:∀ y∈ps.zip us,scope.names.lookup y.1=aa .local\/(scope.names.lookup y.1=aa .cell/\((b0 (s.heap.objs.size+1) scope.names []).lookup y.1).isSome=ak):=λ⟨n,v⟩ R=>by
  rcases S.par n (jI R).1 with q|q
  ·exact .inl q
  ·exact .inr ⟨q,e6 _ _ _ (.inl q)⟩
 refine mR F.depth (O _ _ a) rfl S.co S.gen rfl (PySem.W.codeRec_of O L) (X _ _ _ _ ?_)
 refine wpAny_newFunctionEnv_cells S.kind c λenv G C x=>?_
 subst G
 refine⟨h.keeps x.toInCall.keep,codeAny_func ?_⟩
 obtain⟨t,l,m⟩:=g A outer s H vs Q E (F.deeper _) i
 have I:Inv (Z6 CX P w K mg base N qual scope f cdv A outer s H E) [] (start N vs) H C:=Kv S F.hd U D r x
 refine bx (l [] C (start N vs) H _ I m) (λp M B=>?_) λe M B=>B
 have fin:∀ {j:St} {H':Hp} {v:V} {u:ag},Inv (Z6 CX P w K mg base N qual scope f cdv A outer s H E) [] j H' M->Zm v u->Q v H'->CE outer P w H s Q u M :=
  λ{j H' v u} J T q=>⟨v,H',J.os,J.bare,J.base,J.hok,T,q⟩
 cases p with
 | ret u =>
  obtain⟨v,j,H',J,T,q⟩:=B
  exact fin J T q
 | next =>
  obtain⟨j,H',J,q⟩:=B
  exact fin (v:=V.non) (u:=bI) J rfl q
 | brk =>
  obtain⟨_,_,_,q⟩:=B
  exact cm q
 | cont =>
  obtain⟨_,_,_,q⟩:=B
  exact cm q
variable{T:String}{r:V->Option Int->Option Int->Hp->VK->Prop}
section
variable{t:TA}{id:String}{r:List V->Hp->VK->Prop}
def tCB(r:List V->Hp->VK->Prop)(t:TA):TE:=λσ H Q=>t σ H λvs H1=>r vs H1 Q
theorem Zq(Y:ZD X (.builtin id) r)(A:Gl X x)(hm:X.mg x=none)(N:fz x=aa (.builtin id))(ha:PA X (e::es) t)(hn:x ≠ "__name__" := by decide)(a:(x == ("__debug__" : aQ))=false:=by decide)
  (G:aY (e::es) X.env=(aF,dz e X.env)::aY es X.env:=by rfl) (m:(dC pos (aY es X.env)).any (·.1)=false:=by rfl):PE X (.Call (.Name x p) (e::es) [] pos) (tCB r t):=by
 intro L s U H Q I h
 refine dt (XW I A hm N ?_ hn a)
 exact PyProof.Rows.callWith_builtin1 (thn (ha pos L s U H _ I h) λus s1 ⟨vs,H1,I1,r1,q1⟩=>Y L s1 U H1 vs us Q I1 r1 q1) G m
theorem ZR(Y:ZD X (.type T) r)(A:Gl X x)(hm:X.mg x=none)(N:fz x=aa (.type T))(ha:PA X (e::es) t)(hn:x ≠ "__name__" := by decide)(a:(x == ("__debug__" : aQ))=false:=by decide)
  (G:aY (e::es) X.env=(aF,dz e X.env)::aY es X.env:=by rfl) (m:(dC pos (aY es X.env)).any (·.1)=false:=by rfl):PE X (.Call (.Name x p) (e::es) [] pos) (tCB r t):=by
 intro L s U H Q I h
 refine dt (XW I A hm N ?_ hn a)
 exact cV (thn (ha pos L s U H _ I h) λus s1 ⟨vs,H1,I1,r1,q1⟩=>Y L s1 U H1 vs us Q I1 r1 q1) G m
end
abbrev TO:=St->Hp->(Option Int->Hp->Prop)->Prop
def PO(X:Cx)(e:Option dW)(t:TO):Prop :=
 ∀ (pins:List (ao×d9)) (s:ar) (σ:St) (H:Hp) (Q:Option Int->Hp->Prop),Inv X pins σ H s->t σ H Q ->
  aw (aH X.prog X.w) X.A (evalPart e X.env) (λu s'=>∃ o H',Inv X pins σ H' s'/\jE u o/\Q o H') X.xe s
def Pm:TO:=λ_ H Q=>Q none H
def Pn(t:TE):TO:=λσ H Q=>t σ H λx H1=>∃ i,x=.int i/\Q (aa i) H1
variable{ns:List Int}
theorem KD:∀ {us:List ag},Zi (ns.map V.int) us->j0 us ns:=by
 induction ns with
 | nil=>intro us r;rw[iF] at r;cases r;exact .nil
 | cons n ns E =>
  intro us r
  rw[bw] at r
  cases r with
  | cons g G =>
   obtain⟨t,e⟩:=g
   subst e
   exact .cons n t (E G)
section
variable{lo hi:Option dW}{tl th:TO}{p2:md}
theorem KE:PO X none Pm:=by
 intro L s U H Q I h
 rw[evalPart_none]
 exact af ⟨none,H,I,.none,h⟩
theorem KF(h:PE X e te):PO X (aa e) (Pn te):=by
 intro L s U H Q I R
 rw[evalPart_some]
 refine thn (h L s U H _ I R) λu s1 ⟨x,H1,I1,r1,q1⟩=>?_
 obtain⟨i,rfl,q⟩:=q1
 obtain⟨t,rfl⟩:=r1
 exact⟨aa i,H1,I1,.int i t,q⟩
def SlR(X:Cx)(r:V->Option Int->Option Int->Hp->VK->Prop):Prop :=
 ∀ (pins:List (ao×d9)) (s:ar) (σ:St) (H:Hp) (x:V) (v vl vu:ag) (lo hi:Option Int) (sl:ao) (Q:VK),Inv X pins σ H s->Zm x v->s.heap.IsSliceOf sl vl vu .none->jE vl lo->jE vu hi->r x lo hi H Q ->
  ∃ T id,typeLookup (.type T) "__getitem__" = ej (aa (.builtin id))/\s.TypeIs v T/\aw (aH X.prog X.w) X.A (jR v (.ref sl)) (EP X pins σ Q) X.xe s
theorem SlR.or{r':V->Option Int->Option Int->Hp->VK->Prop}(h:SlR X r)(h':SlR X r'):SlR X (λx lo hi H Q=>r x lo hi H Q\/r' x lo hi H Q):=by
 intro L s U H x v e c lo hi y Q I A P pl i q
 rcases q with q|q
 ·exact h L s U H x v e c lo hi y Q I A P pl i q
 ·exact h' L s U H x v e c lo hi y Q I A P pl i q
def tSl(r:V->Option Int->Option Int->Hp->VK->Prop)(te:TE)(tl th:TO):TE:=λσ H Q=>te σ H λx H1=>tl σ H1 λl H2=>th σ H2 λu H3=>r x l u H3 Q
theorem KG(J:SlR X r)(G:PE X e te)(D:PO X lo tl)(i:PO X hi th):PE X (.Subscript e (.Slice lo hi none p2) pos) (tSl r te tl th):=by
 intro L s U H Q I h
 refine Subscript_ (thn (G L s U H _ I h) λv s1 ⟨x,H1,I1,r1,q1⟩=>?_)
 refine wpAny_Slice (thn (D L s1 U H1 _ I1 q1) λvl s2 ⟨l,H2,I2,pl,q2⟩=>thn (i L s2 U H2 _ I2 q2) λvu s3 ⟨u,H3,I3,pu,q3⟩=>?_)
 rw[evalPart_none]
 refine af ?_
 have a:Inv X L U H3 { s3 with heap:=s3.heap.push { cls:=.type "slice",data:=.fields #[vl,vu,.none] } }:=I3.kept (t':=s3.toks) λb j q=>ae _ q
 obtain⟨T,id,f,c,A⟩:=J L { s3 with heap:=s3.heap.push { cls:=.type "slice",data:=.fields #[vl,vu,.none] } } U H3 x v vl vu l u s3.heap.objs.size Q a r1 (om ..) pl pu q3
 show aw (aH X.prog X.w) X.A (lP e (.Slice lo hi none p2) v (.ref s3.heap.objs.size)) (EP X L U Q) X.xe { s3 with heap:=s3.heap.push { cls:=.type "slice",data:=.fields #[vl,vu,.none] } }
 exact tail_any (ops:=[.ref s3.heap.objs.size,v]) c f A (by with_unfolding_all rfl)
def W0(xs:List V)(lo hi:Option Int):List V:=(xs.drop (HT.sIx xs.length 0 lo)).take (HT.sIx xs.length xs.length hi-HT.sIx xs.length 0 lo)
theorem Po(xs:List V)(lo hi:Option Int):(W0 xs lo hi).length<=xs.length:=by
 unfold W0
 rw[hF,mU]
 omega
def SE(K:aJ):V->Option Int->Option Int->Hp->VK->Prop:=λx lo hi H Q=>∃ a xs,x=.ref a/\SqT K H a xs /\
 ¬ (HT.sIx xs.length 0 lo=0/\HT.sIx xs.length xs.length hi=xs.length)/\∀ p,H p=none->Q (.ref p) (upd H p (.tup (W0 xs lo hi)))
theorem KH:SlR X (SE X.K):=by
 intro L s U H x v e c Y C y Q I A P pl i h
 obtain⟨a,xs,rfl,W,R,q⟩:=h
 cases A
 obtain⟨f,r,l,hz⟩:=I.tuple W
 have K:f.toArray.size=xs.length:=by rw[aR];exact r.length.symm
 refine⟨"tuple",_,ii.lookup,l.typeIs,?_⟩
 refine HT.KC l P pl i (by rw[K];exact R) ?_ (by rw[K];exact hz)
 rw[K]
 refine⟨.ref s.heap.objs.size,_,I.laid (t':=s.toks) (o:=.tup (W0 xs Y C)) (λb j q=>ae _ q) (aq _) ?_,rfl,q _ (I.hok.fresh (aq _))⟩
 exact⟨aT (Po xs Y C) hz,_,(r.drop (HT.sIx xs.length 0 Y)).take (HT.sIx xs.length xs.length C-HT.sIx xs.length 0 Y),Xb.new _ _⟩
def UM(K:aJ):R2:=λx y H Q=>∃ a b xs ys,x=.ref a/\y=.ref b/\SqT K H a xs/\SqT K H b ys/\xs≠[]/\xs.length+ys.length<=sizeLine /\
 (ys=[]->Q (.ref a) H)/\(ys≠[]->∀ p,H p=none->Q (.ref p) (upd H p (.tup (xs++ys))))
theorem Zi.nil_iff(r:Zi xs us):us=[]↔xs=[]:=by
 cases r with
 | nil=>simp
 | cons _ _=>simp
theorem KI:OpR X (c4 .Add) (UM X.K):=by
 intro L s U H x y v u Q I A R h
 obtain⟨a,b,xs,ys,rfl,rfl,m,M,W,hz,l,E⟩:=h
 cases A
 cases R
 obtain⟨f,g,J,_⟩:=I.tuple m
 obtain⟨c,G,Y,_⟩:=I.tuple M
 refine HT.Kw J Y (λz=>W (g.nil_iff.mp z)) (λz=>⟨.ref a,H,I,rfl,l (G.nil_iff.mp z)⟩) (λz=>?_) (by rw[<- g.length,<- G.length];exact hz)
 refine⟨.ref s.heap.objs.size,_,I.laid (t':=s.toks) (o:=.tup (xs++ys)) (λb j q=>ae _ q) (aq _) ?_,rfl,E (λw=>z (G.nil_iff.mpr w)) _ (I.hok.fresh (aq _))⟩
 exact⟨by rw[ay];exact hz,_,g.append G,Xb.new _ _⟩
end
def ixN(n:Nat)(i:Int):Option Nat:=if 0<=i then (if i<n then aa i.toNat else none) else if -(n:Int)<=i then aa (i+n).toNat else none
def atI(xs:List α)(i:Int):Option α:=(ixN xs.length i).bind λj=>xs[j]?
theorem Pp(h:ixN n i=aa j):seqIndex? i n=aa j/\j<n/\-(n:Int)<=i/\i<n:=by
 unfold ixN at h
 by_cases G:0<=i
 ·rw[if_pos G] at h
  by_cases Z:i<n
  ·rw[if_pos Z] at h
   have e:i.toNat=j:=aS h
   exact⟨by rw[m3 G Z,e],by omega,by omega,Z⟩
  ·rw[if_neg Z] at h;cases h
 ·rw[if_neg G] at h
  by_cases Z:-(n:Int)<=i
  ·rw[if_pos Z] at h
   have e:(i+n).toNat=j:=aS h
   exact⟨by rw[mz (by omega) Z,e],by omega,Z,by omega⟩
  ·rw[if_neg Z] at h;cases h
theorem SG{xs:List α}{v:α}(h:atI xs i=aa v):∃ j,seqIndex? i xs.length=aa j/\xs[j]?=aa v/\j<xs.length/\-(xs.length:Int)<=i/\i<xs.length:=by
 unfold atI at h
 cases e:ixN xs.length i with
 | none=>rw[e] at h;cases h
 | some j =>
  rw[e] at h
  obtain⟨Z,O,B,F⟩:=Pp e
  exact⟨j,Z,h,O,B,F⟩
theorem SH{xs:List α}{v:α}(h:xs[j]?=aa v):atI xs (j:Int)=aa v:=by
 have u:j<xs.length:=(List.getElem?_eq_some_iff.mp h).1
 have e:ixN xs.length (j:Int)=aa j:=by
  unfold ixN
  rw[if_pos (by omega),if_pos (by omega)];simp
 unfold atI;rw[e];exact h
def KJ(b:dW):Prop:=∀ o i,mY b aF o i=operate [o,i] (jR o i)
def IxR(X:Cx)(r:R2):Prop :=
 ∀ (value slice:dW) (pins:List (ao×d9)) (s:ar) (σ:St) (H:Hp) (x y:V) (v u:ag) (Q:VK),Inv X pins σ H s->Zm x v->Zm y u->r x y H Q ->
  mY slice aF v u=operate [v,u] (jR v u)->aw (aH X.prog X.w) X.A (lP value slice v u) (EP X pins σ Q) X.xe s
def MtR(X:Cx)(id:String)(r:V->List V->Hp->VK->Prop):Prop :=
 ∀ (pins:List (ao×d9)) (s:ar) (σ:St) (H:Hp) (x:V) (xs:List V) (v:ag) (us:List ag) (Q:VK),Inv X pins σ H s->Zm x v->Zi xs us->r x xs H Q ->
  aw (aH X.prog X.w) X.A (call (.builtin id) (v::us)) (EP X pins σ Q) X.xe s
variable{cpos:md}{its:List ag}{r:List (aj×aj)}
section
variable{a b:dW}
theorem IxR.or{r:R2}(h:IxR X r)(h':IxR X r'):IxR X (λx y H Q=>r x y H Q\/r' x y H Q):=by
 intro C E L s U H x y v u Q I A R q P
 rcases q with q|q
 ·exact h C E L s U H x y v u Q I A R q P
 ·exact h' C E L s U H x y v u Q I A R q P
theorem Zo{r:R2}(J:IxR X r)(ha:PE X a ta)(hb:PE X b tb)(P:KJ b):PE X (.Subscript a b pos) (tOp r ta tb):=by
 intro L s U H Q I h
 exact Subscript_ (SA ha hb I h λv u T x y w E A R q=>J a b L T U w x y v u Q E A R q (P _ _))
def VJ(K:aJ):R2:=λx y H Q=>∃ p xs i v,x=.ref p/\y=.int i/\SqL K H p xs/\atI xs i=aa v/\Q v H
def VM(K:aJ):R2:=λx y H Q=>∃ p xs i v,x=.ref p/\y=.int i/\SqT K H p xs/\atI xs i=aa v/\Q v H
def UN:R2:=λx y H Q=>∃ z i c,x=.str z/\y=.int i/\z.length<=sizeLine/\atI z.cps.toList i=aa c/\Q (.str ⟨#[c]⟩) H
theorem KK:IxR X (VJ X.K):=by
 intro C E L s U H x y v u Q I A R h P
 obtain⟨p,xs,i,z,rfl,rfl,m,c,q⟩:=h
 cases A
 obtain⟨t,rfl⟩:=R
 obtain⟨f,r,pl,hz⟩:=I.list m
 obtain⟨j,Z,O,B,F,Y⟩:=SG c
 obtain⟨w,a,J⟩:=r.get O
 have D:=r.length
 have g:=line63
 have fin:EP X L U Q w s:=⟨z,H,I,J,q⟩
 by_cases G:0<=i
 ·have b:i.toNat=j:=by
   rw[m3 G Y] at Z
   exact aS Z
  exact item_listR pl.isList G (by omega) (by rw[b];simpa using a) fin P
 ·have b:(i+(f.toArray.size:Int)).toNat=j:=by
   rw[mz (by omega) F] at Z
   rw[aR,<- D]
   exact aS Z
  exact mM (x:=w) pl.isList.typeIs slot_list_getitem.lookup
   (wpAny_getItem_list_neg (Q:=λr M=>r=w/\EP X L U Q r M) pl.isList (by omega) (by rw[aR]<;>omega) (by omega) (by rw[b];simpa using a) ⟨rfl,fin⟩) P
theorem KL:IxR X (VM X.K):=by
 intro C E L s U H x y v u Q I A R h P
 obtain⟨p,xs,i,z,rfl,rfl,m,G,q⟩:=h
 cases A
 obtain⟨t,rfl⟩:=R
 obtain⟨f,r,pl,hz⟩:=I.tuple m
 obtain⟨j,Z,O,B,F,Y⟩:=SG G
 obtain⟨w,a,J⟩:=r.get O
 have D:=r.length
 have g:=line63
 have fin:EP X L U Q w s:=⟨z,H,I,J,q⟩
 exact mM (x:=w) pl.typeIs slot_tuple_getitem.lookup
  (getItem_tuple (j:=j) (Q:=λr M=>r=w/\EP X L U Q r M) pl (by omega) (by omega) (by rw[aR,<- D];exact Z) (by simpa using a) ⟨rfl,fin⟩) P
theorem KM:IxR X UN:=by
 intro C E L s U H x y v u Q I A R h P
 obtain⟨z,i,c,rfl,rfl,hz,G,q⟩:=h
 obtain⟨t,rfl⟩:=A
 obtain⟨t',rfl⟩:=R
 obtain⟨j,Z,O,B,F,Y⟩:=SG G
 have D:z.cps.toList.length=z.length:=by simp[aQ.length]
 rw[D] at Z F Y
 have g:=line63
 exact tail_any (nN s z t) slot_str_getitem.lookup (getItem_str (c:=c) (by
  have S:decide (i < -(2 ^ 63:Int))=false:=decide_eq_false (by omega)
  have N:decide (i≥2 ^ 63)=false:=decide_eq_false (by omega)
  rw[S,N,nW]) (by rw[Z];simpa using O) ⟨.str ⟨#[c]⟩,H,I.tok _,⟨_,rfl⟩,q⟩) P
theorem KO(its:List ag)(n j:Nat)(u:ag):eK (·.setIfInBounds j u) { cls:=.type "list",data:=.seq its.toArray n }={ cls:=.type "list",data:=.seq (its.set j u).toArray n }:=by
 simp[eK]
theorem Inv.lst{pins:List (ao×d9)}{σ:St}{H:Hp}{s:ar}{p:ao}{xs:List V}(I:'#')(h:H p=aa (.lst xs)) :
  ∃ (its:List ag) (n:Nat),Zi xs its/\s.heap.get? p=aa { cls:=.type "list",data:=.seq its.toArray n }/\xs.length<=sizeLine:=by
 obtain⟨z,its,n,r,e⟩:=I.hok p _ h
 exact⟨its,n,r,e,z⟩
theorem Inv.lstUpd{σ:St}{p:ao}{its':List ag}{c:Nat}{f:d9->d9}(I:'#')(h:H p=aa (.lst xs))
  (J:s.heap.get? p=aa { cls:=.type "list",data:=.seq its.toArray n }) (B:f { cls:=.type "list",data:=.seq its.toArray n }={ cls:=.type "list",data:=.seq its'.toArray c }) (r:Zi ys its') (hz:ys.length<=sizeLine) (t:Nat) :
  Inv X pins σ (upd H p (.lst ys)) { s with heap:=s.heap.update p f,toks:=t }:=by
 have e:(s.heap.update p f).get? p=aa { cls:=.type "list",data:=.seq its'.toArray c }:=by
  rw[a8 f J (by rw[B]<;>rfl),B]
 refine I.write (x:=p) (e:=p) (by rw[h];trivial) (.inl rfl) (λb u M q=>(bd _ _ (bR M)).trans q) ⟨_,e⟩ ?_
 exact⟨hz,its',c,r,e⟩
def Pq:V->V->V->Hp->(Hp->Prop)->Prop:=λo i v H Q=>∃ p xs k j,o=.ref p/\i=.int k/\H p=aa (.lst xs)/\ixN xs.length k=aa j/\Q (upd H p (.lst (xs.set j v)))
theorem KP:Su X Pq:=by
 intro L s U H o i v c e u Q I b w a h
 obtain⟨p,xs,k,j,rfl,rfl,T,l,q⟩:=h
 cases b
 obtain⟨t,rfl⟩:=w
 obtain⟨f,n,r,J,hz⟩:=I.lst T
 obtain⟨Z,O,B,F⟩:=Pp l
 have D:=r.length
 have g:=line63
 have m:Inv X L U (upd H p (.lst (xs.set j v))) { s with heap:=s.heap.update p (eK (·.setIfInBounds j u)) } :=
  I.lstUpd T J (KO f n j u) (r.set a j) (by rw[jJ];exact hz) s.toks
 by_cases G:0<=k
 ·have R:k.toNat=j:=by
   rw[m3 G F] at Z
   exact aS Z
  exact PySem.W.ki_setAt J G (by omega) (by rw[aR,<- D];exact F) (by rw[R];exact⟨_,m,q⟩)
 ·have R:(k+(f.toArray.size:Int)).toNat=j:=by
   rw[mz (by omega) B] at Z
   rw[aR,<- D]
   exact aS Z
  exact PySem.W.ki_setBack J (by omega) (by rw[aR,<- D];exact B) (by omega) (by rw[R];exact⟨_,m,q⟩)
theorem KQ(lo hi:Option Int)(n:Nat):(gf lo hi none n).1=((HT.sIx n 0 lo:Nat):Int)/\(gf lo hi none n).2.1=((HT.sIx n n hi:Nat):Int)/\(gf lo hi none n).2.2=1:=by
 refine⟨?_,?_,rfl⟩
 ·cases lo with
  | none=>simp[gf,HT.sIx]
  | some i =>
   simp only[gf,HT.sIx,mj,show (1:Int) > 0 by decide,if_true]
   by_cases h:i<0
   ·simp only[h,if_true]<;>omega
   ·simp only[h,if_false]<;>omega
 ·cases hi with
  | none=>simp[gf,HT.sIx]
  | some i =>
   simp only[gf,HT.sIx,mj,show (1:Int) > 0 by decide,if_true]
   by_cases h:i<0
   ·simp only[h,if_true]<;>omega
   ·simp only[h,if_false]<;>omega
theorem KR(its:List ag)(lo hi:Option Int):slicePick its.toArray lo hi none=((its.drop (HT.sIx its.length 0 lo)).take (HT.sIx its.length its.length hi-HT.sIx its.length 0 lo)).toArray:=by
 obtain⟨Z,O,B⟩:=KQ lo hi its.toArray.size
 unfold slicePick
 rw[Z,O,B]
 simp only[sliceRange_one,pick_run,aR]<;>rfl
def SI(K:aJ):V->Option Int->Option Int->Hp->VK->Prop:=λx lo hi H Q=>∃ a xs,x=.ref a/\SqL K H a xs/\∀ p,H p=none->Q (.ref p) (upd H p (.lst (W0 xs lo hi)))
theorem KS:SlR X (SI X.K):=by
 intro L s U H x v e c Y C y Q I A P pl i h
 obtain⟨a,xs,rfl,W,q⟩:=h
 cases A
 obtain⟨f,r,l,hz⟩:=I.list W
 have K:=r.length
 refine⟨"list",_,slot_list_getitem.lookup,l.isList.typeIs,?_⟩
 refine wpAny_getItem_list_slice l.isList P pl i .none (by simp) ?_ (by rw[aR]<;>omega)
 rw[KR,<- K]
 refine⟨.ref s.heap.objs.size,_,I.laid (t':=s.toks) (o:=.lst (W0 xs Y C)) (λb j q=>ae _ q) (aq _) ?_,rfl,q _ (I.hok.fresh (aq _))⟩
 exact⟨aT (Po xs Y C) hz,_,0,(r.drop (HT.sIx xs.length 0 Y)).take (HT.sIx xs.length xs.length C-HT.sIx xs.length 0 Y),az _ rfl⟩
theorem KU:OpR X (bE .NotIn) (λx y H Q=>∃ i j,x=.str i/\y=.str j/\Q (.bl (!(!(eP j i 0 j.length 1).isEmpty))) H):=by
 intro L s U H x y v u Q I A R h
 obtain⟨i,j,rfl,rfl,q⟩:=h
 obtain⟨t,rfl⟩:=A
 obtain⟨t',rfl⟩:=R
 exact notIn_str ⟨.bl _,H,I,rfl,q⟩
theorem KW:ZD X (.builtin "len") (λxs H Q=>∃ p ys,xs=[.ref p]/\(SqL X.K H p ys\/SqT X.K H p ys)/\Q (.int ys.length) H):=by
 intro L s U H xs us Q I r h
 obtain⟨p,ys,rfl,m,q⟩:=h
 obtain⟨u,rfl,A⟩:=vals1 r
 cases A
 have g:=line63
 rcases m with m|m
 ·obtain⟨f,C,pl,hz⟩:=I.list m
  have K:=C.length
  exact Calls.call_len_list pl.isList (by simp only[aR]<;>omega) ⟨.int ys.length,H,I.tok _,⟨s.toks+1,by rw[aR,K]⟩,q⟩
 ·obtain⟨f,C,pl,hz⟩:=I.tuple m
  have K:=C.length
  exact len_tuple pl (by simp only[aR]<;>omega) ⟨.int ys.length,H,I.tok _,⟨s.toks+1,by rw[aR,K]⟩,q⟩
theorem KY:ZD X (.builtin "len") (λxs H Q=>∃ z,xs=[.str z]/\z.length<=sizeLine/\Q (.int z.length) H):=by
 intro L s U H xs us Q I r h
 obtain⟨z,rfl,hz,q⟩:=h
 obtain⟨u,rfl,t,rfl⟩:=vals1 r
 have g:=line63
 exact len_str (by omega) ⟨.int z.length,H,I.tok _,⟨_,rfl⟩,q⟩
theorem ZD.or{f:ag}{r r':List V->Hp->VK->Prop}(h:ZD X f r)(h':ZD X f r'):ZD X f (λxs H Q=>r xs H Q\/r' xs H Q):=by
 intro L s U H xs us Q I rs q
 rcases q with q|q
 ·exact h L s U H xs us Q I rs q
 ·exact h' L s U H xs us Q I rs q
theorem KZ:ZD X (.type "list") (λxs H Q=>∃ p ys,xs=[.ref p]/\(SqL X.K H p ys\/SqT X.K H p ys)/\∀ l,H l=none->Q (.ref l) (upd H l (.lst ys))):=by
 intro L s U H xs us Q I r h
 obtain⟨p,ys,rfl,m,q⟩:=h
 obtain⟨u,rfl,A⟩:=vals1 r
 cases A
 have fin:∀ (f:List ag),Zi ys f->ys.length<=sizeLine->∀ (h':bO) (w:Nat),(∀ b i,s.heap.get? b=aa i->h'.get? b=aa i) ->
   h'.get? s.heap.objs.size=aa { cls:=.type "list",dict:=none,data:=.seq f.toArray w,slots:=#[] }->EP X L U Q (.ref s.heap.objs.size) { s with heap:=h' }:=λf C hz h' w j e =>
  ⟨.ref s.heap.objs.size,_,I.laid (t':=s.toks) j (aq _) (show Zx X.prog X.w _ h' _ (.lst ys) from ⟨hz,f,w,C,e⟩),rfl,q _ (I.hok.fresh (aq _))⟩
 rcases m with m|m
 ·obtain⟨f,C,pl,hz⟩:=I.list m
  have K:=C.length
  obtain⟨o,J,Y,n,hd⟩:=pl.isList
  exact call_list_seq p (.inl rfl) J Y hd (λh' w j e=>fin f C hz h' w j e) (by simp only[aR]<;>omega)
 ·obtain⟨f,C,pl,hz⟩:=I.tuple m
  have K:=C.length
  obtain⟨o,J,Y,n,hd⟩:=pl
  exact call_list_seq p (.inr rfl) J Y hd (λh' w j e=>fin f C hz h' w j e) (by simp only[aR]<;>omega)
theorem K0:ZD X (.type "tuple") (λxs H Q=>∃ p ys,xs=[.ref p]/\((SqL X.K H p ys/\∀ l,H l=none->Q (.ref l) (upd H l (.tup ys)))\/(SqT X.K H p ys/\Q (.ref p) H))):=by
 intro L s U H xs us Q I r h
 obtain⟨p,ys,rfl,h⟩:=h
 obtain⟨u,rfl,A⟩:=vals1 r
 cases A
 rcases h with⟨m,q⟩|⟨m,q⟩
 ·obtain⟨f,C,pl,hz⟩:=I.list m
  have K:=C.length
  refine call_tuple_list pl.isList (λh' j=>?_) (by simp only[aR]<;>omega)
  have J:Inv X L U H { s with heap:=h' }:=I.kept (t':=s.toks) j
  have E:Inv X L U (upd H h'.objs.size (.tup ys)) { s with heap:=h'.push { cls:=.type "tuple",data:=.seq f.toArray } } :=
   J.laid (t':=s.toks) (λb o e=>ae _ e) (aq _) (show Zx X.prog X.w _ _ _ (.tup ys) from ⟨hz,f,C,Xb.new _ _⟩)
  exact⟨.ref h'.objs.size,_,E,rfl,q _ (J.hok.fresh (aq _))⟩
 ·obtain⟨f,C,pl,hz⟩:=I.tuple m
  exact call_tuple_same pl ⟨.ref p,H,I,rfl,q⟩
def tyV(K:aJ)(T:String)(x:V)(H:Hp):Prop:=match x with
 | .str _=>T = "str"
 | .int _=>T = "int"
 | .ref p=>(T = "list" /\ ∃ xs,SqL K H p xs)\/(T = "tuple" /\ ∃ o,K.lookup p=aa o/\o.cls=.type "tuple" /\ o.dict=none) \/
   (T = "dict" /\ ((∃ kvs,H p=aa (.dK kvs))\/∃ kvs,H p=aa (.dT kvs)))\/(T = "set" /\ ∃ S n,H p=aa (.set S n))
 | _=>False
theorem Pr{σ:St}{x:V}{v:ag}(I:'#')(r:Zm x v)(ty:tyV X.K T x H) :
  s.TypeIs v T/\∀ a,v=.ref a->∃ ob,s.heap.get? a=aa ob/\ob.dict=none:=by
 cases x with
 | str z =>
  obtain⟨t,rfl⟩:=r
  cases (show T = "str" from ty)
  exact⟨nN s z t,λ_ e=>nomatch e⟩
 | int i =>
  obtain⟨t,rfl⟩:=r
  cases (show T = "int" from ty)
  exact⟨nO s i t,λ_ e=>nomatch e⟩
 | ref p =>
  cases r
  rcases ty with⟨rfl,xs,m⟩|⟨rfl,o,R,Y,hd⟩|⟨rfl,R⟩|⟨rfl,S,n,R⟩
  ·obtain⟨f,_,pl,_⟩:=I.list m
   refine⟨pl.isList.typeIs,λa e=>?_⟩
   cases e
   obtain⟨o,n,e,c,hd,_⟩:=pl
   exact⟨o,e,hd⟩
  ·refine⟨⟨o,I.kIn p o R,Y⟩,λa e=>?_⟩
   cases e
   exact⟨o,I.kIn _ o R,hd⟩
  ·have z:∃ o,s.heap.get? p=aa o/\o.ExactDict:=by
    rcases R with⟨kvs,R⟩|⟨kvs,R⟩
    ·obtain⟨_,_,_,_,o,_,_,e,ex,_⟩:=I.hok p _ R
     exact⟨o,e,ex⟩
    ·obtain⟨_,_,_,_,o,_,_,e,ex,_⟩:=I.hok p _ R
     exact⟨o,e,ex⟩
   obtain⟨o,e,ex⟩:=z
   refine⟨⟨o,e,ex.1⟩,λa N=>?_⟩
   cases N
   exact⟨o,e,ex.2.1⟩
  ·obtain⟨o,_,_,_,e,ex,_⟩:=I.hok p _ R
   refine⟨⟨o,e,ex.1⟩,λa N=>?_⟩
   cases N
   exact⟨o,e,ex.2.1⟩
 | _=>exact cm ty
def UO(K:aJ)(T:String)(r:V->List V->Hp->VK->Prop)(to:TE):TE:=λσ H Q=>to σ H λx H1=>tyV K T x H1/\r x [] H1 Q
def tBM(K:aJ)(T:String)(r:V->List V->Hp->VK->Prop)(to:TE)(t:TA):TE:=λσ H Q=>to σ H λx H1=>tyV K T x H1/\t σ H1 λxs H2=>r x xs H2 Q
variable{o:dW}{t:TA}{apos:md}{id:String}{r:V->List V->Hp->VK->Prop}
theorem K1(f:lg T)(slot:Slot T name id)(g:nM (.builtin id)=ej (.type "method_descriptor"))(hm:MtR X id r)(J:PE X o to)
  (b:e8 o name X.env (dz o X.env)=dz o X.env:=by rfl) (a:(apos.endLine == cpos.line)=true:=by rfl):PE X (.Call (.Attribute o name apos) [] [] cpos) (UO X.K T r to):=by
 intro L s U H Q I h
 refine wpAny_Call_method0_late b a (thn (J L s U H _ I h) λv s1 ⟨x,H1,I1,r1,ty,q1⟩=>?_)
 obtain⟨Z,O⟩:=Pr I1 r1 ty
 exact⟨T,id,f,slot,g,Z,O,kE rfl (PySem.evalArgs_none (hm L s1 U H1 x [] v [] Q I1 r1 .nil q1))⟩
theorem K2(f:lg T)(slot:Slot T name id)(g:nM (.builtin id)=ej (.type "method_descriptor"))(hm:MtR X id r)(J:PE X o to)(ha:PA X (e::es) t)
  (b:e8 o name X.env (dz o X.env)=dz o X.env:=by rfl)
  (i:((dC cpos (aY (e::es) X.env)).all (λx=>!x.1) && (m6 cpos (kl [] X.env)).all (λx=>x.1.isSome)
   && decide ((e::es).length+([]:List kM).length+(if ([]:List kM).isEmpty then 0 else 1)<30))=true:=by rfl)
  (a:(apos.endLine == cpos.line)=true:=by rfl) (P:aY (e::es) X.env=(aF,dz e X.env)::aY es X.env:=by rfl) (c:(dC cpos (aY es X.env)).any (·.1)=false:=by rfl) :
  PE X (.Call (.Attribute o name apos) (e::es) [] cpos) (tBM X.K T r to t):=by
 intro L s U H Q I h
 refine wpAny_Call_method_late b i a rfl (thn (J L s U H _ I h) λv s1 ⟨x,H1,I1,r1,ty,q1⟩=>?_)
 obtain⟨Z,O⟩:=Pr I1 r1 ty
 refine⟨T,id,f,slot,g,Z,O,?_⟩
 have p:=ha cpos L s1 U H1 _ I1 q1
 rw[P] at p ⊢
 refine kE (by show (aF || (dC cpos (aY es X.env)).any (·.1))=aF;rw[c]<;>rfl) (li ?_)
 exact thn p λus s2 ⟨vs,H2,I2,r2,q2⟩=>hm L s2 U H2 x vs v us Q I2 r1 r2 q2
end
def MtM(X:Cx)(id:String)(r:V->List V->Hp->VK->Prop):Prop :=
 ∀ (pins:List (ao×d9)) (s:ar) (σ:St) (H:Hp) (x:V) (xs:List V) (v:ag) (us:List ag) (Q:VK),Inv X pins σ H s->Zm x v->Zi xs us->r x xs H Q ->
  aw (aH X.prog X.w) X.A (call (.builtin id) (v::us)) (EP X pins σ Q) X.xe s
theorem Zi.one:∀ {x:V} {us:List ag},Zi [x] us->∃ u,us=[u]/\Zm x u
 | _,_,.cons r .nil=>⟨_,rfl,r⟩
theorem Zi.two:∀ {x y:V} {us:List ag},Zi [x,y] us->∃ u v,us=[u,v]/\Zm x u/\Zm y v
 | _,_,_,.cons r (.cons q .nil)=>⟨_,_,rfl,r,q⟩
theorem Zi.zero:∀ {us:List ag},Zi [] us->us=[]
 | _,.nil=>rfl
theorem Zi.reverse{xs:List V}{us:List ag}(h:Zi xs us):Zi xs.reverse us.reverse:=by
 induction h with
 | nil=>exact .nil
 | cons r t E=>rw[fF,fF];exact Zi.append E (.cons r .nil)
theorem Zi.rep{xs:List V}{us:List ag}(h:Zi xs us):∀ k:Nat,Zi (aB k xs).flatten (aB k us).flatten
 | 0=>.nil
 | k+1=>by
  rw[cf,cf,eX,eX]
  exact Zi.append h (Zi.rep h k)
theorem Ps(its:List ag):∀ (k:Nat) (C:List ag),
  mn (λG b=>G++b) C.toArray (aB k its.toArray)=(C++(aB k its).flatten).toArray
 | 0,C=>by simp
 | k+1,C=>by
  have e:C.toArray++its.toArray=(C++its).toArray:=by simp
  have N:(C++its)++(aB k its).flatten=C++(aB (k+1) its).flatten:=by
   rw[cf,eX,bM]
  rw[<- N,<- Ps its k (C++its),<- e,cf,gO]
variable{l:ao}
section
variable{σ:St}
theorem Inv.lset{its':List ag}{f:Array ag->Array ag}(I:'#')(c:H l=aa (.lst xs))
  (e:s.heap.get? l=aa { cls:=.type "list",data:=.seq its.toArray n }) (B:f its.toArray=its'.toArray) (N:Zi ys its') (hz:ys.length<=sizeLine) :
  Inv X pins σ (upd H l (.lst ys)) { s with heap:=s.heap.update l (eK f),toks:=t' }:=by
 have q:=PySem.IsL.update e f
 rw[B] at q
 refine I.write (x:=l) (e:=l) (by rw[c];exact trivial) (.inl rfl) (λm u M i=>(bd s.heap (eK f) (bR M)).trans i) ⟨_,q⟩ ?_
 exact⟨hz,its',_,N,q⟩
theorem Inv.lnew(I:'#')(N:Zi ys its)(hz:ys.length<=sizeLine) :
  Inv X pins σ (upd H s.heap.objs.size (.lst ys)) { s with heap:=s.heap.push { cls:=.type "list",data:=.seq its.toArray },toks:=t' } :=
 I.laid (λ_ _ q=>ae _ q) (aq _) ⟨hz,its,0,N,az _ rfl⟩
theorem Inv.fresh(I:'#'):H s.heap.objs.size=none:=I.hok.fresh (aq _)
theorem Inv.lstM(I:'#')(c:H l=aa (.lst xs)):xs.length<=sizeLine/\∃ (its:List ag) (n:Nat),Zi xs its/\xs.length=its.length/\s.heap.get? l=aa { cls:=.type "list",data:=.seq its.toArray n }:=by
 obtain⟨z,its,n,r,e⟩:=I.hok l _ c
 exact⟨z,its,n,r,r.length,e⟩
theorem K3(h:n<=sizeLine):fS n=false:=by
 unfold fS
 exact decide_eq_false (by omega)
end
def SJ:V->List V->Hp->VK->Prop:=λx vs H Q=>∃ l xs y,x=.ref l/\vs=[y]/\H l=aa (.lst xs)/\xs.length<sizeLine/\Q .non (upd H l (.lst (xs++[y])))
theorem Wt:MtM X "list.append" SJ:=by
 intro L s U H x vs v us Q I A T h
 obtain⟨l,xs,y,rfl,rfl,c,hz,q⟩:=h
 cases A
 obtain⟨u,rfl,N⟩:=T.one
 obtain⟨z,f,n,r,D,e⟩:=I.lstM c
 refine jA cD ⟨_,e,rfl⟩ F.entry_list_append (F.args_list_append_2 _ _) (PySem.list_append l f.toArray n u (by rw[aR];omega)) ⟨e,?_⟩
 refine⟨.non,_,I.lset (its':=f++[u]) c e (by simp) (r.append (.cons N .nil)) ?_,rfl,q⟩
 rw[ay,fX]
 omega
def SK:V->List V->Hp->VK->Prop:=λx vs H Q=>∃ l xs,x=.ref l/\vs=[]/\H l=aa (.lst xs)/\Q .non (upd H l (.lst xs.reverse))
theorem K4:MtM X "list.reverse" SK:=by
 intro L s U H x vs v us Q I A T h
 obtain⟨l,xs,rfl,rfl,c,q⟩:=h
 cases A
 have a:=T.zero
 subst a
 obtain⟨z,f,n,r,D,e⟩:=I.lstM c
 refine jA kO ⟨_,e,rfl⟩ F.entry_list_reverse (F.args_list_reverse_1 _) (AutoSeq1.list_reverse_list_0 l f.toArray n (by rw[aR];omega)) ⟨e,?_⟩
 refine⟨.non,_,I.lset (its':=f.reverse) c e (by simp) r.reverse ?_,rfl,q⟩
 rw[lT]
 omega
def UP:R2:=λx y H Q=>∃ l k xs,x=.ref l/\y=.int k/\H l=aa (.lst xs)/\-(2 ^ 63)<=k/\k<2 ^ 63/\xs.length*k.toNat<=sizeLine /\
 ∀ p,H p=none->Q (.ref p) (upd H p (.lst (aB k.toNat xs).flatten))
theorem K5(xs:List α)(k:Nat):(aB k xs).flatten.length=k*xs.length:=by
 induction k with
 | zero=>simp
 | succ k E=>rw[cf,eX,ay,E,Nat.succ_mul,Nat.add_comm]
theorem K6:OpR X (c4 .Mult) UP:=by
 intro L s w H x y v u Q I A R h
 obtain⟨l,k,xs,rfl,rfl,c,Z,O,hz,q⟩:=h
 cases A
 obtain⟨t,rfl⟩:=R
 obtain⟨z,f,n,r,D,e⟩:=I.lstM c
 have K:f.toArray.size*k.toNat<=sizeLine:=by rw[aR,<- D];exact hz
 have p:¬ f.toArray.size*k.toNat > (2 ^ 63-1) / 8:=by
  have:(sizeLine:Nat)<=(2 ^ 63-1) / 8:=by decide
  omega
 have i:¬ (!Builtin.List.listFitsIndex k)=true:=by
  rw[fitsIndex_both Z O]
  exact aA
 have j:¬ fS (f.toArray.size*k.toNat)=true:=by
  rw[K3 K]
  exact aA
 have g:mn (λG b=>G++b) #[] (aB (if f.toArray.isEmpty=ak then 0 else k.toNat) f.toArray)=(aB k.toNat f).flatten.toArray:=by
  have C:∀ m:Nat,mn (λG b=>G++b) #[] (aB m f.toArray)=(aB m f).flatten.toArray:=λm=>by
   have:=Ps f m []
   rw[lj] at this
   exact this
  rw[C]
  cases f with
  | nil=>simp
  | cons a B=>rw[if_neg (by simp)]
 refine wpAny_binaryOp_repeat_ref (T := "list") (U := "int") (by decide) ⟨_,e,rfl⟩ (λM=>nO M k t) noFill_list_mul F.fills_int_mul oq repeat_list F.slot_int_index.lookup
  (jA oq (nO s k t) F.entry_int_rmul (F.args_int_rmul_2 _ _) (int___rmul___int_list k t l f.toArray n)
   ⟨e,rfl,⟨_,e,rfl⟩,jA F.slot_list_mul ⟨_,e,rfl⟩ F.entry_list_mul (F.args_list_mul_2 _ _) (AutoListH.list___mul___list_int_3 l f.toArray n k t i p j) ⟨e,?_⟩⟩)
 rw[g]
 exact⟨.ref _,_,I.lnew (t':=s.toks) (r.rep k.toNat) (by rw[K5,h7];exact hz),rfl,q _ I.fresh⟩
theorem Pu:∀ {vs:List ag} {ns:List Int},j0 vs ns->Zi (ns.map V.int) vs
 | _,_,.nil=>.nil
 | _,_,.cons n t h=>.cons ⟨t,rfl⟩ (Pu h)
def Z1(s:gK):Arguments:=match s with
 | .FunctionDef _ a _ _ _ _ _ _ _ _=>a
 | _=>{ posonlyargs:=[],args:=[],vararg:=none,kwonlyargs:=[],kw_defaults:=[],kwarg:=none,defaults:=[] }
def ZC(s:gK):List Stmt:=match s with
 | .FunctionDef _ _ b _ _ _ _ _ _ _=>b
 | _=>[]
def Ze(s:gK):Scope:=match s with
 | .FunctionDef _ _ _ _ _ _ sc _ _ _=>sc
 | _=>{ kind:=.function,names:=[],isGenerator:=aF,isCoroutine:=aF }
abbrev E0:XK:=λ_ _ _=>False
theorem small1000(h:n<=1000):n<sizeLine:=ja h (by decide)
theorem pv(i:Nat)(hN:X.N[i]?=aa x:=by rfl)(N:Vis X.env.scope x:=by first|exact aC rfl|exact de (aC rfl)|exact de (de rfl))(hd:(x == ("__debug__" : aQ))=false:=by decide)
  (b:(x == ("__classdict__" : aQ))=false:=by decide):PE X (.Name x pos) (ZN i):=Q2 hN N hd b
variable{B:Prop}
theorem SL{A:Prop}(h:B):if aF=ak then A else B:=by
 rw[if_neg aA]
 exact h
theorem iteT{A:Prop}(h:A):if ak=ak then A else B:=by
 rw[if_pos rfl]
 exact h
theorem ite2{c A:Prop}[Decidable c](h1:c->A)(O:¬ c->B):if c then A else B:=by
 by_cases h:c
 ·rw[if_pos h]
  exact h1 h
 ·rw[if_neg h]
  exact O h
theorem UQ{c A:Prop}[Decidable c](Y:c)(h:B):if (!decide c)=ak then A else B:=by
 rw[decide_eq_true Y]
 exact SL h
def Zf(H H':Hp):Prop:=∀ b o,H b=aa o->H' b=aa o
theorem Zf.refl(H:Hp):Zf H H:=λ_ _ h=>h
variable{H2:Hp}
theorem Zf.trans(a:Zf H H1)(b:Zf H1 H2):Zf H H2:=λc o h=>b c o (a c o h)
theorem Zf.free(e:Zf H H')(h:H' l=Option.none):H l=Option.none:=by
 cases q:H l with
 | none=>rfl
 | some o =>
  rw[e l o q] at h
  cases h
theorem Zf.seq(e:Zf H H')(h:SqL K H a xs):SqL K H' a xs:=by
 rcases h with (h|⟨o,h⟩)|h
 ·exact .inl (.inl (e _ _ h))
 ·exact .inl (.inr ⟨o,e _ _ h⟩)
 ·exact .inr h
variable{kvs:List (List Key×V)}
section
variable [DecidableEq κ]
def Z2(kvs:List (κ×V))(k:κ):Option V:=(kvs.find? λkv=>decide (kv.1=k)).map (·.2)
def ZJ(kvs:List (κ×V))(k:κ)(v:V):List (κ×V) :=
 if (kvs.any λkv=>decide (kv.1=k))=ak then kvs.map (λkv=>if kv.1=k then (kv.1,v) else kv) else kvs++[(k,v)]
theorem VN{p:κ×V}{r:List (κ×V)}{k:κ}(e:p.1=k):Z2 (p::r) k=aa p.2:=by simp[Z2,dv,e]
theorem VO{p:κ×V}{r:List (κ×V)}{k:κ}(e:¬ p.1=k):Z2 (p::r) k=Z2 r k:=by simp[Z2,dv,e]
theorem UR(k:κ):∀ kvs:List (κ×V),(kvs.any λa=>decide (a.1=k))=(Z2 kvs k).isSome
 | []=>rfl
 | p::r=>by
  rw[nq]
  by_cases e:p.1=k
  ·simp only[VN e,decide_eq_true e,Bool.true_or,iJ]
  ·rw[VO e,decide_eq_false e,Bool.false_or];exact UR k r
theorem Wu(kvs:List (κ×V))(k:κ)(v:V):(ZJ kvs k v).length<=kvs.length+1:=by
 unfold ZJ
 split
 ·rw[ah];omega
 ·rw[ay,cC,lk];omega
theorem YK.isSome_eq{o:Option V}{u:Option ag}(r:YK o u):o.isSome=u.isSome:=by
 cases o with
 | none=>cases u with
  | none=>rfl
  | some _=>exact (show False from r).elim
 | some _=>cases u with
  | none=>exact (show False from r).elim
  | some _=>rfl
theorem KV.val{kvs:List (κ×V)}{vs:List (κ×ag)}(r:KV kvs vs)(k:κ):YK (Z2 kvs k) (jO vs k):=by
 unfold KV at r
 induction r with
 | nil=>exact bD
 | @cons p q ps j h t E =>
  obtain⟨Z,O⟩:=h
  by_cases e:p.1=k
  ·have A:q.1=k:=Z.symm.trans e
   have b:jO (q::j) k=aa q.2:=by simp[jO,dv,A]
   rw[VN e,b];exact O
  ·have A:¬ q.1=k:=λz=>e (Z.trans z)
   have b:jO (q::j) k=jO j k:=by simp[jO,dv,A]
   rw[VO e,b];exact E
theorem KV.any{kvs:List (κ×V)}{vs:List (κ×ag)}(r:KV kvs vs)(k:κ):(kvs.any λa=>decide (a.1=k))=vs.any λa=>decide (a.1=k):=by
 unfold KV at r
 induction r with
 | nil=>rfl
 | cons h t E=>rw[nq,nq,E,h.1]
theorem KV.repl{kvs:List (κ×V)}{vs:List (κ×ag)}(r:KV kvs vs)(k:κ)(R:Zm y u) :
  KV (kvs.map λa=>if a.1=k then (a.1,y) else a) (vs.map λa=>if a.1=k then (a.1,u) else a):=by
 unfold KV at r ⊢
 induction r with
 | nil=>exact .nil
 | @cons p q ps j h t E =>
  rw[bw,bw]
  refine .cons ?_ E
  obtain⟨Z,O⟩:=h
  by_cases e:p.1=k
  ·rw[if_pos e,if_pos (Z.symm.trans e)];exact⟨Z,R⟩
  ·rw[if_neg e,if_neg (λz=>e (Z.trans z))];exact⟨Z,O⟩
theorem KV.put{kvs:List (κ×V)}{vs:List (κ×ag)}(r:KV kvs vs)(k:κ)(R:Zm y u):KV (ZJ kvs k y) (stored vs k u):=by
 unfold ZJ stored
 rw[r.any k]
 by_cases e:(vs.any λa=>decide (a.1=k))=ak
 ·rw[if_pos e,if_pos e];exact r.repl k R
 ·rw[if_neg e,if_neg e];exact js r ⟨rfl,R⟩
theorem KV.length{kvs:List (κ×V)}{vs:List (κ×ag)}(r:KV kvs vs):kvs.length=vs.length:=dw r
end
theorem XF{k:Key}(r:Zm (kV k) u):(ZS P w).is k u=true:=by
 cases k with
 | inl i=>obtain⟨t,e⟩:=(show ∃ t,u=f8 i t from r);subst e;exact LN P w i t
 | inr x=>obtain⟨t,e⟩:=(show ∃ t,u=eZ x t from r);subst e;exact LO P w x t
theorem Pw{P:bC}{w:bV}:∀ {ks:List Key} {us:List ag},Zi (ks.map kV) us->ItemsAre (ZS P w) ks us
 | [],_,r=>by rw[iF] at r;cases r;exact .nil
 | k::ks,_,r=>by
  rw[bw] at r
  cases r with
  | cons h t=>exact .cons (XF h) (Pw t)
abbrev KT(H:Hp):List (List Key×V)->List (List Key×ao×ag)->Prop:=jD λp q=>p.1=q.1/\H q.2.1=aa (.tup (p.1.map kV))/\Zm p.2 q.2.2
variable{xs:List (List Key×ao×ag)}
theorem KT.val(r:KT H kvs xs)(k:List Key):YK (Z2 kvs k) ((fk xs k).map (·.2)):=by
 induction r with
 | nil=>exact bD
 | @cons p q ps j h t E =>
  obtain⟨Z,_,O⟩:=h
  by_cases e:p.1=k
  ·have A:q.1=k:=Z.symm.trans e
   have b:fk (q::j) k=aa q.2:=by simp[fk,dv,A]
   rw[VN e,b];exact O
  ·have A:¬ q.1=k:=λz=>e (Z.trans z)
   have b:fk (q::j) k=fk j k:=by simp[fk,dv,A]
   rw[VO e,b];exact E
theorem KT.repl(r:KT H kvs xs)(k:List Key)(R:Zm y u) :
  KT H (kvs.map λa=>if a.1=k then (a.1,y) else a) (xs.map (putAt k u)):=by
 induction r with
 | nil=>exact .nil
 | @cons p q ps j h t E =>
  rw[bw,bw]
  refine .cons ?_ E
  obtain⟨Z,O,B⟩:=h
  unfold putAt
  by_cases e:p.1=k
  ·rw[if_pos e,if_pos (Z.symm.trans e)];exact⟨Z,O,R⟩
  ·rw[if_neg e,if_neg (λz=>e (Z.trans z))];exact⟨Z,O,B⟩
theorem KT.put(r:KT H kvs xs)(k:List Key)(hb:H b=aa (.tup (k.map kV)))(R:Zm y u) :
  KT H (ZJ kvs k y) (kH xs k b u):=by
 have e:(kvs.any λa=>decide (a.1=k))=(fk xs k).isSome:=by
  rw[UR,(r.val k).isSome_eq,ek]
 unfold ZJ kH
 rw[e]
 by_cases q:(fk xs k).isSome=ak
 ·rw[if_pos q,if_pos q];exact r.repl k R
 ·rw[if_neg q,if_neg q];exact js r ⟨rfl,hb,R⟩
theorem KT.keeps(r:KT H kvs xs)(l:∀ b ys,H b=aa (.tup ys)->H' b=aa (.tup ys)):KT H' kvs xs :=
 Paired.mapP r λ_ _ z=>⟨z.1,l _ _ z.2.1,z.2.2⟩
variable{ks:List (Key×V)}
theorem SM{u:HO}(ok:HOk P w H h)(e:Rd H a u):Zx P w H h a u:=e.ok ok
theorem Xr{kvs:List (Key×V)}(ok:HOk P w H h)(e:Rd H a (.dK kvs)):kvs.length<=sizeLine/\(a == cR)=aF/\∃ vs,KV kvs vs/\h.DictOf (ZS P w) a vs :=
 show Zx P w H h a (.dK kvs) from SM ok e
theorem Px{kvs:List (Key×V)}(ok:HOk P w H h)(e:H a=aa (.dK kvs)):kvs.length<=sizeLine/\(a == cR)=aF/\∃ vs,KV kvs vs/\h.DictOf (ZS P w) a vs:=Xr ok (.inl e)
theorem Xs{ks:List Key}(ok:HOk P w H h)(e:H a=aa (.tup (ks.map kV))):(gE (ZS P w)).is h ks a:=by
 obtain⟨_,f,r,o,Z,O,⟨n,B⟩,_⟩:=(show Zx P w H h a (.tup (ks.map kV)) from ok a _ e)
 exact⟨o,f.toArray,n,Z,O,B,by simpa using Pw r⟩
theorem XG(ok:HOk P w H h)(e:Rd H a (.dT kvs)):kvs.length<=sizeLine/\(a == cR)=aF /\
  ∃ xs,KT H kvs xs/\h.DictOfH (gE (ZS P w)) a xs:=by
 obtain⟨z,y,xs,r,o,es,f,Z,O,B,F,Y⟩:=(show Zx P w H h a (.dT kvs) from SM ok e)
 refine⟨z,y,xs,r,o,es,f,Z,O,B,F,λx W=>?_,Y⟩
 have all:∀ {l:List (List Key×V)} {m:List (List Key×ao×ag)},KT H l m->∀ x∈m,(gE (ZS P w)).is h x.1 x.2.1:=by
  intro l m q
  induction q with
  | nil=>intro x W;exact nomatch W
  | @cons p q ps j b t E =>
   intro x W
   rcases gh.mp W with e|W
   ·subst e
    exact Xs ok (by rw[<- b.1];exact b.2.1)
   ·exact E x W
 exact all r x W
theorem SN(ok:HOk P w H h)(e:H a=aa (.dT kvs)):kvs.length<=sizeLine/\(a == cR)=aF /\
  ∃ xs,KT H kvs xs/\h.DictOfH (gE (ZS P w)) a xs:=XG ok (.inl e)
def W1(H:Hp)(a:ao)(y:V)(r:Option V):Prop :=
 (∃ kvs k,Rd H a (.dK kvs)/\y=kV k/\r=Z2 kvs k)\/∃ kvs k b,Rd H a (.dT kvs)/\y=.ref b/\H b=aa (.tup (k.map kV))/\r=Z2 kvs k
def YU(H:Hp)(a:ao)(y v:V)(H':Hp):Prop :=
 (∃ kvs k,H a=aa (.dK kvs)/\y=kV k/\kvs.length<sizeLine/\H'=upd H a (.dK (ZJ kvs k v))) \/
 ∃ kvs k b,H a=aa (.dT kvs)/\y=.ref b/\H b=aa (.tup (k.map kV))/\kvs.length<sizeLine/\H'=upd H a (.dT (ZJ kvs k v))
theorem YU.k{kvs:List (Key×V)}{k:Key}(e:H a=aa (.dK kvs))(D:kvs.length<sizeLine):YU H a (kV k) v (upd H a (.dK (ZJ kvs k v))):=.inl ⟨kvs,k,e,rfl,D,rfl⟩
theorem YU.t{k:List Key}(e:H a=aa (.dT kvs))(S:H b=aa (.tup (k.map kV)))(D:kvs.length<sizeLine) :
  YU H a (.ref b) v (upd H a (.dT (ZJ kvs k v))):=.inr ⟨kvs,k,b,e,rfl,S,D,rfl⟩
variable{kvs:List (Key×V)}
section
variable{σ:St}{r:ag}{o:Option V}
theorem Inv.big(I:'#'):cR<s.heap.objs.size:=by
 have h:au<s.heap.objs.size:=(I.mod.glob.keeps I.bk).lt
 exact Nat.lt_trans (by decide) h
theorem Ja(i:A.units+1<cJ)(I:'#')(g:W1 H a y (aa v))(c:Zm y u)(h:∀ F s',Inv X pins σ H s'->Zm v F->Q F s') :
  aw (aH X.prog X.w) A (jR (.ref a) u) Q E s:=by
 rcases g with⟨kvs,k,e,W,l⟩|⟨kvs,k,b,e,W,S,l⟩
 ·subst W
  obtain⟨z,hd,vs,rel,dd⟩:=Xr I.hok e
  obtain⟨F,R,J⟩:=YK.some_of (v:=v) (o:=jO vs k) (by rw[l];exact rel.val k)
  exact wpAny_getItem_of (XF c) dd.mapOf R (h F _ (I.tok _) J)
 ·subst W
  cases (show u=aG b from c)
  obtain⟨z,hd,xs,rel,dd⟩:=XG I.hok e
  obtain⟨F,R,J⟩:=YK.some_of (v:=v) (o:=(fk xs k).map (·.2)) (by rw[l];exact rel.val k)
  obtain⟨p,T,f⟩:=Option.map_eq_some_iff.mp R
  refine nJ (du i) (Xs I.hok S) dd T ?_
  rw[f]
  exact h F _ (I.tok _) J
theorem d_in(i:A.units+1<cJ)(I:'#')(g:W1 H a y o)(R:Zm y u)(h:∀ s',Inv X pins σ H s'->Q (.bool o.isSome) s') :
  aw (aH X.prog X.w) A (bE .In u (.ref a)) Q E s:=by
 rcases g with⟨kvs,k,e,W,l⟩|⟨kvs,k,b,e,W,S,l⟩
 ·subst W
  obtain⟨z,hd,vs,rel,dd⟩:=Xr I.hok e
  refine wpAny_in_of (XF R) hd dd.mapOf ?_
  rw[<- (rel.val k).isSome_eq,<- l]
  exact h _ (I.tok _)
 ·subst W
  cases (show u=aG b from R)
  obtain⟨z,hd,xs,rel,dd⟩:=XG I.hok e
  refine jv (du i) (Xs I.hok S) hd dd ?_
  have q:=(rel.val k).isSome_eq
  rw[ek] at q
  rw[<- q,<- l]
  exact h _ (I.tok _)
theorem Jb(i:A.units+1<cJ)(I:'#')(g:W1 H a y o)(R:Zm y u)(h:∀ s',Inv X pins σ H s'->Q (.bool (!o.isSome)) s') :
  aw (aH X.prog X.w) A (bE .NotIn u (.ref a)) Q E s:=by
 rcases g with⟨kvs,k,e,W,l⟩|⟨kvs,k,b,e,W,S,l⟩
 ·subst W
  obtain⟨z,hd,vs,rel,dd⟩:=Xr I.hok e
  refine wpAny_notIn_of (XF R) hd dd.mapOf ?_
  rw[<- (rel.val k).isSome_eq,<- l]
  exact h _ (I.tok _)
 ·subst W
  cases (show u=aG b from R)
  obtain⟨z,hd,xs,rel,dd⟩:=XG I.hok e
  refine ih (du i) (Xs I.hok S) hd dd ?_
  have q:=(rel.val k).isSome_eq
  rw[ek] at q
  rw[<- q,<- l]
  exact h _ (I.tok _)
theorem YN{ob:HO}(I:'#')(mu:Mut (H a))(P:cN a s.heap h')(G:∃ q,h'.get? a=aa q)(new:Zx X.prog X.w (upd H a ob) h' a ob) :
  Inv X pins σ (upd H a ob) { s with heap:=h',toks:=t' } :=
 I.write (x:=a) (e:=a) mu (.inl rfl) (λb q M z=>(P.2 b M).trans z) G new
theorem SO{vs:List (Key×ag)}(z:kvs.length<=sizeLine)(hd:(a == cR)=aF)(rel:KV kvs vs)(dd:h'.DictOf (ZS P w) a vs) :
  Zx P w H' h' a (.dK kvs):=⟨z,hd,vs,rel,dd⟩
theorem SQ{Q:Unit->ar->Prop}(i:A.units+1<cJ)(I:'#')(g:YU H a y v H')(R:Zm y u)(T:Zm v r)(h:∀ s',Inv X pins σ H' s'->Q () s') :
  aw (aH X.prog X.w) A (my (.ref a) u r) Q E s:=by
 rcases g with⟨kvs,k,e,W,l,p⟩|⟨kvs,k,b,e,W,S,l,p⟩
 ·subst W p
  obtain⟨z,hd,vs,rel,dd⟩:=Px I.hok e
  have hz:vs.length<=sizeLine:=by rw[<- rel.length];exact z
  have D:(ZJ kvs k v).length<=sizeLine:=by have:=Wu kvs k v;omega
  refine wpAny_setItem_pairs (hsz:=hz) (XF R) dd λh' j P=>h _ ?_
  have G:∃ q,h'.get? a=aa q:=let ⟨q,_,_,m,_⟩:=j;⟨q,m⟩
  exact YN I (by rw[e];exact bD) P G (SO D hd (rel.put k T) j)
 ·subst W p
  cases (show u=aG b from R)
  obtain⟨z,hd,xs,rel,dd⟩:=SN I.hok e
  have hz:xs.length<=sizeLine:=by rw[<- dw rel];exact z
  have D:(ZJ kvs k v).length<=sizeLine:=by have:=Wu kvs k v;omega
  refine nI (hsz:=hz) (du i) (Xs I.hok S) dd λh' j P=>h _ ?_
  obtain⟨q,es,f,m,O,B,F,_,Y⟩:=j
  refine YN I (by rw[e];exact bD) P ⟨q,m⟩ ⟨D,hd,_,(rel.put k S T).keeps λc ys C=>?_,q,es,f,m,O,B,F,Y⟩
  rw[Zg (Xm C e (λz=>nomatch z))]
  exact C
end
section
variable{σ:St}
theorem Jc(I:'#')(e:Rd H a (.dK kvs))(h:∀ t s',Inv X pins σ H s'->Q (.int kvs.length t) s'):aw (aH X.prog X.w) A (call (.builtin "len") [.ref a]) Q E s:=by
 obtain⟨z,hd,vs,rel,dd⟩:=Xr I.hok e
 refine call_len_dict hd dd (by rw[<- rel.length];rw[dG] at z;omega) ?_
 rw[<- rel.length]
 exact h _ _ (I.tok _)
end
theorem Jd{σ:St}{o:Option V}(I:'#')(g:W1 H a y o):s.TypeIs (.ref a) "dict" := by
 rcases g with⟨kvs,k,e,_,_⟩|⟨kvs,k,b,e,_,_,_⟩
 ·obtain⟨_,_,vs,_,dd⟩:=Xr I.hok e
  exact dd.typeIs
 ·obtain⟨_,_,xs,_,dd⟩:=XG I.hok e
  exact dd.typeIs
theorem Py(h:bO)(hb:cR<h.objs.size):Zx P w H (h.push { cls:=.type "dict",data:=.dict #[] }) h.objs.size (.dK []) :=
 ⟨bP _,beq_eq_false_iff_ne.mpr (bR (aE hb)),[],.nil,bO.DictOf.new h⟩
def Pz:TE:=λ_ H Q=>∀ p,H p=none->Q (.ref p) (upd H p (.dK []))
theorem US:PE X (.Dict [] [] pos) Pz:=λL s U H Q I h =>
 wpAny_Dict_empty ⟨.ref s.heap.objs.size,_,I.laid (a:=s.heap.objs.size) (o:=.dK []) (t':=s.toks) (λ_ _ q=>ae _ q) (aq _) (Py s.heap I.big),rfl,h _ (I.hok.fresh (aq _))⟩
section
variable{σ:St}
theorem Je(I:'#')(e:Rd H a (.dK kvs))(h:∀ p s',H p=none->Inv X pins σ (upd H p (.dK kvs)) s'->Q (.ref p) s'):aw (aH X.prog X.w) A (call (.type "dict") [.ref a]) Q E s:=by
 obtain⟨z,hd,vs,rel,dd⟩:=Xr I.hok e
 refine kt_call_dict hd dd (by rw[<- rel.length];exact z) λh' j P=>?_
 refine h _ _ (I.hok.fresh (aq _)) (I.laid (a:=s.heap.objs.size) (o:=.dK kvs) (t':=s.toks) (λb q m=>?_) (aq _) (SO z (beq_eq_false_iff_ne.mpr (bR (aE I.big))) rel j))
 exact (P.2 b (aE (ax m))).trans (ae _ m)
end
theorem UT:∀ (names:List (aQ×fB)) (n:Nat) (C:List (aQ×ao)),
  (∀ x y c,C.lookup x=aa c->C.lookup y=aa c->x=y)->(∀ x c,C.lookup x=aa c->c<n) ->
  ∀ x y c,(b0 n names C).lookup x=aa c->(b0 n names C).lookup y=aa c->x=y
 | [],_,_,h,_=>h
 | (z,k)::r,n,C,h,hb=>by
  unfold b0
  split
  ·refine UT r (n+1) ((z,n)::C) ?_ ?_
   ·intro x y c W j
    rw[cB] at W j
    cases ex:x == z with
    | true =>
     rw[ex] at W
     have S:n=c:=aS W
     cases ey:y == z with
     | true=>rw[beq_iff_eq.mp ex,beq_iff_eq.mp ey]
     | false =>
      rw[ey] at j
      have:=hb y c j
      rw[<- S] at this
      exact absurd this (cA _)
    | false =>
     rw[ex] at W
     cases ey:y == z with
     | true =>
      rw[ey] at j
      have S:n=c:=aS j
      have:=hb x c W
      rw[<- S] at this
      exact absurd this (cA _)
     | false =>
      rw[ey] at j
      exact h x y c W j
   ·intro x c W
    rw[cB] at W
    cases ex:x == z with
    | true =>
     rw[ex] at W
     have S:n=c:=aS W
     rw[<- S]
     exact dg n
    | false =>
     rw[ex] at W
     exact bp (hb x c W)
  ·exact UT r n C h hb
theorem UU(x:aQ)(lo:Nat):∀ (names:List (aQ×fB)) (n:Nat) (C:List (aQ×ao)),lo<=n ->
  ((x,dR)∈names\/∀ c,C.lookup x=aa c->lo<=c)->∀ c,(b0 n names C).lookup x=aa c->lo<=c
 | [],_,_,_,h=>h.elim (λz=>nomatch z) id
 | (z,k)::r,n,C,hl,h=>by
  unfold b0
  split
  ·refine UU x lo r (n+1) ((z,n)::C) (by omega) ?_
   by_cases ex:x=z
   ·refine .inr λc Y=>?_
    rw[cB,ex,beq_self_eq_true] at Y
    have:n=c:=aS Y
    omega
   ·rcases h with h|h
    ·rcases gh.mp h with e|h
     ·exact absurd (jg e).1 ex
     ·exact .inl h
    ·refine .inr λc Y=>h c ?_
     rw[cB,beq_false_of_ne ex] at Y
     exact Y
  ·rename_i hk
   refine UU x lo r n C hl ?_
   rcases h with h|h
   ·rcases gh.mp h with e|h
    ·rw[<- (jg e).2] at hk
     exact absurd rfl hk
    ·exact .inl h
   ·exact .inr h
theorem UV{x:aQ}:∀ (names:List (aQ×fB)) (n:Nat) (C:List (aQ×ao)),(∀ y∈names,y.1=x->y.2≠.cell)->(b0 n names C).lookup x=C.lookup x
 | [],_,_,_=>rfl
 | (z,k)::r,n,C,h=>by
  unfold b0
  split
  ·rename_i hk
   rw[UV r (n+1) ((z,n)::C) λy j=>h y (cg _ j),cB]
   have:x≠z:=λe=>h (z,k) gb e.symm (by simpa using hk)
   rw[beq_false_of_ne this]
  ·exact UV r n C λy j=>h y (cg _ j)
theorem UW(x:aQ):∀ (names:List (aQ×fB)) (n:Nat) (C:List (aQ×ao)) (c:ao),(b0 n names C).lookup x=aa c->n<=c\/C.lookup x=aa c
 | [],_,_,_,h=>.inr h
 | (z,k)::r,n,C,c,h=>by
  unfold b0 at h
  split at h
  ·rcases UW x r (n+1) ((z,n)::C) c h with q|q
   ·exact .inl (by omega)
   ·rw[cB] at q
    cases ex:x == z with
    | true=>rw[ex] at q;have:n=c:=aS q;exact .inl (by omega)
    | false=>rw[ex] at q;exact .inr q
  ·exact UW x r n C c h
theorem UX:∀ (names:List (aQ×fB)) (h:bO) (C:List (aQ×ao)),(∀ x c,C.lookup x=aa c->∃ v,h.IsCell c v) ->
  ∀ x c,(b0 h.objs.size names C).lookup x=aa c->∃ v,(dF h names).IsCell c v
 | [],_,_,h=>h
 | (z,k)::r,h,C,ha=>by
  unfold b0 dF
  split
  ·have:=UX r (h.push { cls:=.type "cell",data:=.cell none }) ((z,h.objs.size)::C) (λx c W=>by
    rw[cB] at W
    cases ex:x == z with
    | true =>
     rw[ex] at W
     cases W
     exact⟨none,_,az _ rfl,rfl⟩
    | false =>
     rw[ex] at W
     obtain⟨v,q⟩:=ha x c W
     exact⟨v,q.keeps λb o e=>ae _ e⟩)
   rwa [bz] at this
  ·exact UX r h C ha
theorem Jf{globals:ao}{cl:List (aQ×ao)}{Q:iS->ar->Prop}
  (c:Q (newEnv scope s.heap.objs.size globals (b0 (s.heap.objs.size+1) scope.names cl) qual none .none (aa env) ir)
   { s with heap:=dF (s.heap.push { cls:=.type "dict",data:=.dict #[] }) scope.names }) :
  aw M A (i6 scope globals cl [] qual none .none (aa env)) Q E s:=by
 simp only[i6,iJ,if_true]
 refine ac (kj ?_)
 refine ac (wpAny_layCells _ (λname kind cells=>by cases hkc:kind == dR<;>simp[hkc]) _ _ _ _ ?_)
 rw[show ({ s with heap:=s.heap.push { cls:=.type "dict",data:=.dict #[] } }:ar).heap.objs.size=s.heap.objs.size+1 from bz ..]
 rw[jj]
 exact ac (af (af c))
theorem SS{env:iS}:∀ (l:List (aQ×fB)) (C:List (aQ×ao)),(∀ y∈l,y.2=.free->∃ c,env.cells.lookup y.1=aa c) ->
  (∀ x c,C.lookup x=aa c->env.cells.lookup x=aa c) ->
  ∃ cl,(nt l C λ(x:aQ×fB) r=>if (x.2 == .free)=ak then (do let a <- cellOf env x.1;ej (eQ ((x.1,a)::r))) else ej (eQ r):Sem (List (aQ×ao)))=ej cl /\
   (∀ x c,cl.lookup x=aa c->env.cells.lookup x=aa c)/\(∀ x,((∃ c,C.lookup x=aa c)\/(x,dk)∈l)->∃ c,cl.lookup x=aa c)
 | [],C,_,ha=>⟨C,by rw[jj],ha,λx W=>W.elim id λz=>nomatch z⟩
 | (z,k)::r,C,hl,ha=>by
  by_cases R:k=.free
  ·subst R
   obtain⟨c,Y⟩:=hl (z,.free) gb rfl
   obtain⟨cl,Z,O,B⟩:=SS r ((z,c)::C) (λy j=>hl y (cg _ j)) (λx w W=>by
    rw[cB] at W
    cases ex:x == z with
    | true=>rw[ex] at W;cases W;rw[beq_iff_eq.mp ex];exact Y
    | false=>rw[ex] at W;exact ha x w W)
   refine⟨cl,?_,O,λx W=>B x ?_⟩
   ·rw[iG]
    have e:cellOf env z=ej c:=by unfold cellOf;rw[show env.cells.lookup z=aa c from Y]
    simp only[beq_self_eq_true,if_true,e]
    exact Z
   ·rcases W with⟨w,W⟩|W
    ·refine .inl ?_
     rw[cB]
     cases ex:x == z with
     | true=>exact⟨c,rfl⟩
     | false=>exact⟨w,W⟩
    ·rcases gh.mp W with e|W
     ·refine .inl ⟨c,?_⟩
      rw[(jg e).1,cB,beq_self_eq_true]
     ·exact .inr W
  ·obtain⟨cl,Z,O,B⟩:=SS r C (λy j=>hl y (cg _ j)) ha
   refine⟨cl,?_,O,λx W=>B x ?_⟩
   ·rw[iG]
    have e:(k == dk)=false:=by simpa using R
    simp only[e,bn,if_false]
    exact Z
   ·rcases W with W|W
    ·exact .inl W
    ·rcases gh.mp W with e|W
     ·exact absurd (jg e).2.symm R
     ·exact .inr W
theorem PB(h:∀ y∈scope.names,y.2=.free->∃ c,env.cells.lookup y.1=aa c) :
  ∃ cl,closureFor scope env=ej cl/\(∀ x c,cl.lookup x=aa c->env.cells.lookup x=aa c)/\(∀ x,(x,dk)∈scope.names->∃ c,cl.lookup x=aa c):=by
 obtain⟨cl,Z,O,B⟩:=SS scope.names [] h (λx c e=>by simp at e)
 refine⟨cl,?_,O,λx W=>B x (.inr W)⟩
 unfold closureFor
 simp only[bind_pure]
 exact Z
def UY(scope sc:e_):Scope :=
 { scope with names:=scope.names.map λ(n,k)=>if (k == .free && sc.kind == .function && sc.names.lookup n == aa .cell) then (n,.cell) else (n,k) }
theorem PC(scope:e_)(env:iS):mB scope env=UY scope env.scope:=rfl
theorem PD{α β:Type}(g:aQ->α->β)(x:aQ):∀ l:List (aQ×α),(l.map λ(n,k)=>(n,g n k)).lookup x=(l.lookup x).map (g x)
 | []=>rfl
 | (n,k)::r=>by
  rw[bw,cB,cB]
  cases e:x == n with
  | true=>rw[beq_iff_eq.mp e];rfl
  | false=>exact PD g x r
theorem PF(scope sc:e_)(x:aQ):(UY scope sc).names.lookup x=(scope.names.lookup x).map λk=>if (k == .free && sc.kind == .function && sc.names.lookup x == aa .cell) then dR else k:=by
 have e:(UY scope sc).names=scope.names.map λ(n,k)=>(n,if (k == .free && sc.kind == .function && sc.names.lookup n == aa .cell) then dR else k):=by
  unfold UY
  refine bG λy _=>?_
  obtain⟨n,k⟩:=y
  show (if _ then _ else _)=(n,if _ then _ else _)
  split<;>rfl
 rw[e]
 exact PD (λn k=>if (k == .free && sc.kind == .function && sc.names.lookup n == aa .cell) then dR else k) x scope.names
def Yu(N0:List aQ)(sc0 scope:e_):List aQ->List (Option Nat)->Bool
 | [],[]=>ak
 | x::N,none::c=>Yu N0 sc0 scope N c
 | x::N,aa j::c=>(N0[j]? == aa x) && (sc0.names.lookup x == aa .cell || sc0.names.lookup x == aa .free) && (scope.names.lookup x == aa .free) && (scope.names.all λy=>y.1 != x || y.2 != .cell) && Yu N0 sc0 scope N c
 | _,_=>aF
def W2(N0:List aQ)(sc0 scope:e_)(N:List aQ)(cap:List (Option Nat)):Bool :=
 (scope.kind == .function) && (scope.names.all λy=>y.2 != .local || scope.names.lookup y.1 == aa .local) && (scope.names.all λy=>y.2 != .free || (sc0.names.lookup y.1 == aa .cell || sc0.names.lookup y.1 == aa .free)) &&
 (scope.names.all λy=>y.2 != .cell || scope.names.lookup y.1 == aa .cell) && Yu N0 sc0 scope N cap
def Yg(cap:List (Option Nat))(σ:St):St:=cap.map λo=>match o with
 | none=>none
 | some j=>(σ[j]?).join
theorem VP{N0:List aQ}{sc0 scope:e_}:∀ {N:List aQ} {cap:List (Option Nat)},Yu N0 sc0 scope N cap=ak->cap.length=N.length
 | [],[],_=>rfl
 | x::N,none::c,h=>by
  have:=VP (N:=N) (cap:=c) h
  simp[this]
 | x::N,aa j::c,h=>by
  simp only[Yu,aP] at h
  have:=VP (N:=N) (cap:=c) h.2
  simp[this]
 | [],_::_,h=>by simp[Yu] at h
 | _::_,[],h=>by simp[Yu] at h
theorem UZ{N0:List aQ}{sc0 scope:e_}:∀ {N:List aQ} {cap:List (Option Nat)} {i j:Nat} {x:aQ},Yu N0 sc0 scope N cap=ak->N[i]?=aa x->cap[i]?=aa (aa j) ->
  N0[j]?=aa x/\(sc0.names.lookup x=aa .cell\/sc0.names.lookup x=aa .free)/\scope.names.lookup x=aa .free/\∀ y∈scope.names,y.1=x->y.2≠.cell
 | [],[],i,j,x,_,h,_=>by simp at h
 | y::N,none::c,0,j,x,_,_,h=>by simp at h
 | y::N,none::c,i+1,j,x,h,h1,h2=>UZ (N:=N) (cap:=c) (i:=i) h (by simpa using h1) (by simpa using h2)
 | y::N,aa j'::c,0,j,x,h,h1,h2=>by
  simp at h1 h2
  subst h1 h2
  simp only[Yu,aP,nu,beq_iff_eq,gi,bne_iff_ne] at h
  exact⟨h.1.1.1.1,h.1.1.1.2,h.1.1.2,λz hz e=>(h.1.2 z hz).elim (λq=>absurd e q) id⟩
 | y::N,aa j'::c,i+1,j,x,h,h1,h2=>by
  simp only[Yu,aP] at h
  exact UZ (N:=N) (cap:=c) (i:=i) h.2 (by simpa using h1) (by simpa using h2)
 | [],_::_,_,_,_,h,_,_=>by simp[Yu] at h
 | _::_,[],_,_,_,h,_,_=>by simp[Yu] at h
def cxC(X:Cx)(scope:e_)(cl:List (aQ×ao))(N:List aQ)(s:ar)(H:Hp)(fp:List ao):Cx where
 prog:=X.prog
 w:=X.w
 K:=X.K
 mg:=X.mg
 base:=X.base
 A:=X.A
 N:=N
 s₀:=s
 H₀:=H
 env:=compEnvC scope (b0 (s.heap.objs.size+1+1) scope.names cl) (s.heap.objs.size+1) X.env
 outer:=X.stack
 stack:=X.stack
 ex:=fp
 fn:=λx=>scope.names.lookup x == aa .cell
 calm:=X.calm
 pn:=[]
 xe:=λ_ _=>False
variable{sc0:e_}{N0:List aQ}
theorem Jg{σ:St}{cl:List (aQ×ao)}{cap:List (Option Nat)}
  (I:'#') (B:∀ b∈fp,YE X pins H b) (J:∀ b∈fp,∃ o,s.heap.get? b=aa o/\∀ v,o.data≠.cell v)
  (K:X.env.scope=sc0) (hN:X.N=N0) (ok:W2 N0 sc0 scope N cap=ak)
  (L:∀ x c,cl.lookup x=aa c->X.env.cells.lookup x=aa c) (a:∀ x,(x,dk)∈scope.names->∃ c,cl.lookup x=aa c) :
  Inv (cxC X scope cl N s H fp) [] (Yg cap σ) (upd H s.heap.objs.size (.lst [])) { s with heap:=dF ((s.heap.push { cls:=.type "list",data:=.seq ([]:List ag).toArray }).push { cls:=.type "dict",data:=.dict #[] }) scope.names }:=by
 simp only[W2,aP,beq_iff_eq] at ok
 obtain⟨⟨⟨⟨R,hloc⟩,G⟩,hcell⟩,U⟩:=ok
 have S:(s.heap.push { cls:=.type "list",data:=.seq ([]:List ag).toArray }).objs.size=s.heap.objs.size+1:=bz ..
 have e2:((s.heap.push { cls:=.type "list",data:=.seq ([]:List ag).toArray }).push { cls:=.type "dict",data:=.dict #[] }).objs.size=s.heap.objs.size+1+1:=by rw[bz,S]
 have k1:∀ b o,s.heap.get? b=aa o->(dF ((s.heap.push { cls:=.type "list",data:=.seq ([]:List ag).toArray }).push { cls:=.type "dict",data:=.dict #[] }) scope.names).get? b=aa o :=
  λb o e=>fc _ _ b o (ae _ (ae _ e))
 have kD:(dF ((s.heap.push { cls:=.type "list",data:=.seq ([]:List ag).toArray }).push { cls:=.type "dict",data:=.dict #[] }) scope.names).get? s.heap.objs.size=aa { cls:=.type "list",data:=.seq ([]:List ag).toArray } :=
  fc _ _ _ _ (ae _ (az _ rfl))
 have D:(dF ((s.heap.push { cls:=.type "list",data:=.seq ([]:List ag).toArray }).push { cls:=.type "dict",data:=.dict #[] }) scope.names).Ns (s.heap.objs.size+1) λ_=>none:=by
  have q:=(nE (s.heap.push { cls:=.type "list",data:=.seq ([]:List ag).toArray }) (.type "dict")).keeps (fc scope.names _)
  rw[S] at q
  exact q
 have P:H s.heap.objs.size=none:=I.hok.fresh (aq _)
 have Q:∀ x c,cl.lookup x=aa c->c<s.heap.objs.size:=λx c e=>by
  obtain⟨v,q⟩:=I.cell x c (L x c e)
  exact q.lt
 have cells:∀ x c,(b0 (s.heap.objs.size+1+1) scope.names cl).lookup x=aa c->s.heap.objs.size+1+1<=c\/cl.lookup x=aa c:=λx c e=>UW x _ _ _ c e
 have fpLt:∀ b∈fp,b<s.heap.objs.size:=λb M=>by
  obtain⟨o,e,_⟩:=J b M
  exact ax e
 refine⟨⟨I.ok.mod,R,I.ok.glob,I.ok.blt,cz _,?_,?_,?_,I.ok.hd,I.ok.frames,.inl rfl,?_,I.bs,aT I.ok.bsz I.sz,?_,?_,I.stack,I.stkFree⟩,
  rfl,I.bare,?_,?_,?_,?_,?_,λp T=>absurd (show p∈([]:List (ao×d9)) from T) (by simp),?_,?_⟩
 ·-- inj
  refine UT scope.names _ cl (λx y c Z O=>I.ok.inj x y c (L x c Z) (L y c O)) λx c h=>?_
  exact bp (bp (Q x c h))
 ·-- has
  intro x W
  have W:(mB scope X.env).names.lookup x=aa .cell\/(mB scope X.env).names.lookup x=aa .free:=W
  rw[PC,PF] at W
  have:scope.names.lookup x=aa .cell\/scope.names.lookup x=aa .free:=by
   cases e:scope.names.lookup x with
   | none=>rw[e] at W;simp at W
   | some k =>
    rw[e] at W
    cases k<;>simp at W<;>simp
  refine Option.isSome_iff_exists.mp (e6 scope.names _ cl ?_)
  rcases this with h|h
  ·exact .inl h
  ·exact .inr (Option.isSome_iff_exists.mpr (a x (bK h)))
 ·-- cab
  intro x c W Y
  have W:scope.names.lookup x=aa .cell:=by simpa [cxC] using W
  have:=UU x (s.heap.objs.size+1+1) scope.names (s.heap.objs.size+1+1) cl (aq _) (.inl (bK W)) c Y
  exact aT (cz _) (aT (cz _) this)
 ·-- exf
  intro b M
  have F:=fpLt b M
  refine⟨aE (bp F),λx c e=>?_⟩
  rcases cells x c e with q|q
  ·exact bt (aM (bp (bp F)) q)
  ·exact (B b M).2.2.2.2.1 x c (L x c q)
 ·-- noex
  intro b o e M
  rcases (B b M).2.2.2.1 with q|q
  ·exact I.ok.noex b o e q
  ·exact absurd (aM (ax (I.ok.bs b o e).1) q) (cA _)
 ·-- exfs
  intro b M z
  rcases gh.mp (I.stkSub b z) with q|q
  ·exact (B b M).2.1 q
  ·exact (B b M).2.2.1 q
 ·-- base
  exact Un.laid k1 (aq _) P
 ·-- loc
  refine⟨_,D,λi x v Z O h3=>?_⟩
  have O:(Yg cap σ)[i]?=aa (aa v):=O
  unfold Yg at O
  rw[aW] at O
  cases e:cap[i]? with
  | none=>rw[e] at O;cases O
  | some o =>
   rw[e] at O
   cases o with
   | none=>cases O
   | some j =>
    have O:aa ((σ[j]?).join)=aa (aa v):=O
    have O:(σ[j]?).join=aa v:=aS O
    obtain⟨q1,E,q3,q4⟩:=UZ U Z e
    have C:σ[j]?=aa (aa v):=by
     cases es:σ[j]? with
     | none=>rw[es] at O;cases O
     | some w'=>rw[es] at O;cases w' with
      | none=>cases O
      | some w''=>have:aa w''=aa v:=O;rw[this]
    obtain⟨m,g,hl⟩:=I.loc
    have A:X.env.kindOf x=aa .cell\/X.env.kindOf x=aa .free:=by
     show X.env.scope.names.lookup x=_\/X.env.scope.names.lookup x=_
     rw[K];exact E
    obtain⟨u,r,l⟩:=hl j x v (by rw[hN];exact q1) C (A.elim (λz=>.inr (.inl z)) λz=>.inr (.inr z))
    refine⟨u,r,?_⟩
    rcases l with⟨z,_⟩|⟨_,c,S,z⟩
    ·rcases A with y|y<;>(rw[y] at z;cases z)
    ·obtain⟨w,f⟩:=a x (bK q3)
     have ec:w=c:=by
      have:=L x w f
      rw[S] at this
      exact (aS this).symm
     subst ec
     refine .inr ⟨?_,w,?_,z.keeps k1⟩
     ·show (mB scope X.env).names.lookup x=_\/(mB scope X.env).names.lookup x=_
      rw[PC,PF,q3]
      by_cases hz:(dk == dk && X.env.scope.kind == ScopeKind.function && X.env.scope.names.lookup x == aa dR)=ak
      ·left;show aa (if _ then _ else _)=_;rw[if_pos hz]
      ·right;show aa (if _ then _ else _)=_;rw[if_neg hz]
     ·show (b0 (s.heap.objs.size+1+1) scope.names cl).lookup x=aa w
      rw[UV _ _ _ q4]
      exact f
 ·-- cell
  intro x c e
  have e:(b0 (s.heap.objs.size+1+1) scope.names cl).lookup x=aa c:=e
  rw[<- e2] at e
  exact UX scope.names _ cl (λy d hy=>by
   obtain⟨v,q⟩:=I.cell y d (L y d hy)
   exact⟨v,q.keeps λb o z=>ae _ (ae _ z)⟩) x c e
 ·-- free
  show upd H s.heap.objs.size (.lst []) (s.heap.objs.size+1)=none
  rw[Zg (bt (dg _))]
  exact I.hok.fresh (cz _)
 ·-- freeC
  intro x c e
  rcases cells x c e with q|q
  ·have E:s.heap.objs.size<c:=aM (bp (dg _)) q
   rw[Zg (bt E)]
   exact I.hok.fresh (cP E)
  ·have:=Q x c q
   rw[Zg (aE this)]
   exact I.freeC x c (L x c q)
 ·-- hok
  refine I.hok.laid k1 (aq _) ⟨bP _,[],0,.nil,kD⟩
 ·show (Yg cap σ).length=N.length
  unfold Yg
  rw[ah,VP U]
def W3(X:Cx)(ifs:List dW)(t:TT):Prop:=∀ (pins:List (ao×d9)) (s:ar) (σ:St) (H:Hp) (Q:Bool->Hp->Prop),Inv X pins σ H s->t σ H Q ->
 aw (aH X.prog X.w) X.A (nt ifs ak λc r=>if r=ak then do let ok <- isTrue c X.env (dz c X.env);ej (eQ ok) else ej (eQ r)) (TP X pins σ Q) X.xe s
def Wv:TT:=λ_ H Q=>Q ak H
theorem Z7:W3 X [] Wv:=λ_ _ _ H _ I h=>wpAny_tests_nil ⟨H,I,h⟩
theorem PH{t:TT}(h:PT X c t):W3 X [c] t:=λL s U H Q I q=>wpAny_tests_one (h L s U H Q I q)
def PJ(J:It)(g:TG)(tt:TT)(te:TE)(D:ao)(σ:St)(H:Hp)(Qe:Hp->Prop):Prop :=
 ∃ W:Nat->Nat->St->Hp->Prop,(∃ m,W 0 m σ H)/\∀ i m σ H,W i m σ H ->
  (J.stop i H/\Qe H)\/(J.go i H/\∃ N:St->Hp->Prop,(∀ σ' H',N σ' H'->∃ m',m' < m/\W (i+1) m' σ' H') /\
   ∀ x H',J.yld i H x H'->g x σ H' λσ2 H2=>tt σ2 H2 λb H3=>if b=ak then te σ2 H3 λy H4=>∃ xs,H4 D=aa (.lst xs)/\xs.length<sizeLine/\N σ2 (upd H4 D (.lst (xs++[y]))) else N σ2 H3)
variable{elt:dW}{D:ao}{J:It}{tt:TT}{ifs:List dW}
theorem Jh{tn:Nat->bO->Prop}{g:TG}{σ:St}{Qe:Hp->Prop}
  (Y:X.calm=ak) (a:∀ e s,X.xe e s->False) (A:PG X tg g) (ht:W3 X ifs tt) (he:PE X elt te) (T:Turn X.prog X.w X.K tg J fp it tn)
  (fpk:∀ H',(∀ b∈fp,H' b=none)->∀ b∈fp,YE X [] H' b) (I:Inv X [] σ H s) (st:tn 0 s.heap) (fr:∀ b∈fp,H b=none)
  (h:PJ J g tt te D σ H Qe) (hR:∀ j H' s',Inv X [] j H' s'->Qe H'->R (.ok .next) s') :
  fZ (aH X.prog X.w) X.A (.compLoop (.ListComp elt [⟨tg,iter,ifs,0⟩] scope pos) 0 (.ref it) (.ref D) X.env) R s:=by
 obtain⟨W,⟨m0,w0⟩,turn⟩:=h
 refine codeAny_loop rfl (λn s'=>∃ i j H',Inv X [] j H' s'/\tn i s'.heap/\(∀ b∈fp,H' b=none)/\W i n j H') (λn C hI=>?_) m0 ⟨0,σ,H,I,st,fr,w0⟩
 obtain⟨i,O,S,P,B,fr3,w3⟩:=hI
 show aw _ X.A ((compTurn (.ListComp elt [⟨tg,iter,ifs,0⟩] scope pos) 0 (.ref it) (.ref D) X.env).onRaise (λx=>do noteFrame x X.env;theTreesLotGoes x)) _ _ C
 refine wpAny_noted ?_
 rw[compTurn_list]
 refine ac (cW (ac ?_))
 rcases turn i n O S w3 with⟨F,qn⟩|⟨go,N,hN,step⟩
 ·refine bx (T.done X rfl rfl rfl Y i [] C O S (λ_ _=>False) P (fpk S fr3) B F) (λr s4 hr=>?_) (λ_ _ f=>f.elim)
  obtain⟨hr,I4⟩:=hr
  subst hr
  exact af (hR O S s4 I4 qn)
 ·refine bx (T.item X rfl rfl rfl Y i [] C O S (λ_ _=>False) P (fpk S fr3) B go) (λr s4 hr=>?_) (λ_ _ f=>f.elim)
  obtain⟨u,hr,h4⟩:=hr
  subst hr
  refine ac (bx h4 (λ_ v h5=>?_) λ_ _ f=>f.elim)
  obtain⟨x,G,I5,r5,Z,st5,fr5⟩:=h5
  have I5':=I5.pinned (fpk G fr5) (T.obj _ _ st5)
  refine ac (bx (A _ v O G x u _ I5' r5 (step x G Z)) (λ_ w L=>?_) λe s f=>(a e s f).elim)
  obtain⟨U,H6,I6,q6⟩:=L
  refine ac (bx (ht _ w U H6 _ I6 q6) (λok l q=>?_) λe s f=>(a e s f).elim)
  obtain⟨K,Q,q7⟩:=q
  have p:∀ {l:ar} {c:St} {K:Hp},Inv X ([]++VC fp v.heap) c K l->N c K->∃ m,m<n/\∃ i j H',Inv X [] j H' l/\tn i l.heap/\(∀ b∈fp,H' b=none)/\W i m j H':=λ{l c K} Q n7=>by
   obtain⟨m',hm,w7⟩:=hN c K n7
   refine⟨m',hm,i+1,c,K,Q.unpinned,T.keep _ _ _ st5 λb M o e=>(Q.pin (b,o) (bi _ (bi _ (UJ M e)))).1,λb M=>?_,w7⟩
   obtain⟨o,e,d⟩:=T.obj _ _ st5 b M
   exact (Q.pin (b,o) (bi _ (bi _ (UJ M e)))).2.1
  cases ok with
  | false=>exact af ⟨rfl,p Q q7⟩
  | true =>
   refine ac (ac (bx (he _ l U K _ Q q7) (λy s8 h8=>ac ?_) λe s f=>(a e s f).elim))
   obtain⟨v8,H8,I8,r8,xs,hD,hz,n8⟩:=h8
   refine bx (Wt (X:=X) _ s8 U H8 (.ref D) [v8] (.ref D) [y] (λ_ E=>N U E) I8 rfl (.cons r8 .nil) ⟨D,xs,v8,rfl,rfl,hD,hz,n8⟩) (λ_ s9 h9=>?_) λe s f=>(a e s f).elim
   obtain⟨_,E,I9,_,n9⟩:=h9
   exact af (af ⟨rfl,p I9 n9⟩)
theorem Ji{σ j:St}{cl:List (aQ×ao)}(I:'#')(B:∀ b∈fp,YE X pins H b)
  (J:Inv (cxC X scope cl N s H fp) pins' j H' s'):Inv X pins σ H' s' :=
 I.call' (ch:=fp) J.os J.base J.hok J.bare λb M=>⟨(B b M).2.2.2.1,(B b M).2.1,(B b M).2.2.2.2.1,(B b M).2.2.2.2.2⟩
def Xe(cap:List (Option Nat))(wi:TI)(g:TG)(tt:TT)(te:TE):TE:=λσ H Q=>wi σ H λJ H1=>∀ D,H1 D=none->PJ J g tt te D (Yg cap σ) (upd H1 D (.lst [])) λH2=>Q (.ref D) H2
variable{Qv:VK}
theorem PL{cap:List (Option Nat)}{g:TG}{use:Option (ag->Sem Unit)}{Qv:ag->ar->Prop}
    {σ:St}  {Q:VK}
  (Y:X.calm=ak) (K:X.env.scope=sc0) (hN:X.N=N0) (ok:W2 N0 sc0 scope N cap=ak) (hi:PI X tg iter wi)
  (A:∀ cl s H fp,PG (cxC X scope cl N s H fp) tg g) (l:∀ cl s H fp,W3 (cxC X scope cl N s H fp) ifs tt) (he:∀ cl s H fp,PE (cxC X scope cl N s H fp) elt te) (F:∀ x,gX iter X.env x=ej x)
  (I:'#') (h:Xe cap wi g tt te σ H Q)
  (i:∀ (D C:ao) (m:aQ->Option ag) (H':Hp) (s':ar),Inv X pins σ H' s'->s'.heap.Ns C m->H' C=none->C≠X.env.locals->X.s₀.heap.objs.size<=C->(∀ x c,X.env.cells.lookup x=aa c->c≠C)->(∀ p∈X.pn++pins,p.1≠C)->Q (.ref D) H' ->
   compPost (aH X.prog X.w) X.A X.xe use Qv (.ref D) C (.ok .next) s') :
  aw (aH X.prog X.w) X.A (comprehension (.ListComp elt [⟨tg,iter,ifs,0⟩] scope pos) scope X.env pos' (n_ []) aF (dz iter X.env) use) Qv X.xe s:=by
 have a:=ok
 simp only[W2,aP,beq_iff_eq,gi,nu,bne_iff_ne] at a
 obtain⟨⟨⟨⟨hk,L⟩,hfree⟩,hcell⟩,U⟩:=a
 obtain⟨cl,hcl1,hcl2,hcl3⟩:=PB (scope:=scope) (env:=X.env) (λy j e=>I.ok.has y.1 (by
  show X.env.scope.names.lookup y.1=_\/X.env.scope.names.lookup y.1=_
  rw[K]
  rcases hfree y j with z|z
  ·exact absurd e z
  ·exact z))
 refine wpAny_comprehension_free rfl F hcl1 hk (λy j e=>by
  rcases L y j with z|z
  ·exact absurd e z
  ·exact z) (bx (hi pins s σ H _ I h) (λv s1 Z=>bx Z (λitv s2 O=>?_) λ_ _ e=>e) λ_ _ e=>e)
 obtain⟨it,fp,tn,J,w,e,E,T,G,f2,q2⟩:=O
 subst e
 refine bU (Jf ?_)
 have P:=Jg E f2 (T.obj _ _ G) K hN ok hcl2 hcl3
 have eC:(s2.heap.push { cls:=.type "list",data:=.seq ([]:List ag).toArray }).objs.size=s2.heap.objs.size+1:=bz ..
 show fZ _ _ (.compStart (.ListComp elt [⟨tg,iter,ifs,0⟩] scope pos) 0 (.ref it) (.ref s2.heap.objs.size)
  (compEnvC scope (b0 ((s2.heap.push { cls:=.type "list",data:=.seq ([]:List ag).toArray }).objs.size+1) scope.names cl) ((s2.heap.push { cls:=.type "list",data:=.seq ([]:List ag).toArray }).objs.size) X.env))
  (compPost _ _ _ use Qv (.ref s2.heap.objs.size) ((s2.heap.push { cls:=.type "list",data:=.seq ([]:List ag).toArray }).objs.size)) _
 rw[eC]
 have u:∀ H',(∀ b∈fp,H' b=none)->∀ b∈fp,YE (cxC X scope cl N s2 w fp) [] H' b:=λH' hn b M =>
  ⟨hn b M,(P.ok.exf b M).1,P.ok.exfs b M,.inl M,(P.ok.exf b M).2,λp hp=>absurd (show p∈([]:List (ao×d9)) from hp) (by simp)⟩
 have r:∀ b∈fp,b<s2.heap.objs.size:=λb M=>by
  obtain⟨o,e,_⟩:=T.obj _ _ G b M
  exact ax e
 have k1:∀ b o,s2.heap.get? b=aa o->(dF ((s2.heap.push { cls:=.type "list",data:=.seq ([]:List ag).toArray }).push { cls:=.type "dict",data:=.dict #[] }) scope.names).get? b=aa o :=
  λb o e=>fc _ _ b o (ae _ (ae _ e))
 have B:=T.keep 0 s2.heap (dF ((s2.heap.push { cls:=.type "list",data:=.seq ([]:List ag).toArray }).push { cls:=.type "dict",data:=.dict #[] }) scope.names) G λb _ o e=>k1 b o e
 have W:=Jh (X:=cxC X scope cl N s2 w fp) (iter:=iter) (scope:=scope) (pos:=pos) (it:=it) (D:=s2.heap.objs.size) (R:=compPost (aH X.prog X.w) X.A X.xe use Qv (.ref s2.heap.objs.size) (s2.heap.objs.size+1)) Y (λ_ _ f=>f) (A cl s2 w fp) (l cl s2 w fp) (he cl s2 w fp) T u P B
  (λb M=>by rw[Zg (aE (r b M))];exact (f2 b M).1) (q2 _ (E.hok.fresh (aq _))) (λσ' H' s' J' q=>by
   obtain⟨m,S,_⟩:=id J'.loc
   refine i _ _ m H' s' (Ji E f2 J') S J'.free ?_ ?_ ?_ ?_ q
   ·exact bt (bp E.lt)
   ·exact Nat.le_succ_of_le E.sz
   ·intro x c e
    obtain⟨v,q⟩:=E.cell x c e
    exact aE (bp q.lt)
   ·intro p hp
    exact aE (bp (ax (E.pin p hp).1)))
 exact codeAny_compStart_list W (T.self X.A 0 _ _ _ B W)
theorem Yc{cap:List (Option Nat)}{g:TG}
  (Y:X.calm=ak) (K:X.env.scope=sc0) (hN:X.N=N0) (ok:W2 N0 sc0 scope N cap=ak) (hi:PI X tg iter wi)
  (A:∀ cl s H fp,PG (cxC X scope cl N s H fp) tg g) (l:∀ cl s H fp,W3 (cxC X scope cl N s H fp) ifs tt) (G:∀ cl s H fp,PE (cxC X scope cl N s H fp) elt te) (F:∀ x,gX iter X.env x=ej x:=by intro _;rfl) :
  PE X (.ListComp elt [⟨tg,iter,ifs,0⟩] scope pos) (Xe cap wi g tt te):=by
 intro L s U H Q I h
 rw[eval_ListComp]
 refine PL Y K hN ok hi A l G F I h λD C m H' M J S w f u c p q=>⟨m,S,λh' P=>?_⟩
 exact⟨.ref D,H',J.turned (t':=M.toks) (λb o a e=>(P.2 b a).trans e) w f (.inr u) c p,rfl,q⟩
theorem U0{cap:List (Option Nat)}{j:md}{g:TG}{i:Nat}
  (E:X.N.Nodup) (B:X.N[i]?=aa x) (W:X.env.scope.names.lookup x=aa .local)
  (Y:X.calm=ak) (K:X.env.scope=sc0) (hN:X.N=N0) (ok:W2 N0 sc0 scope N cap=ak) (hi:PI X tg iter wi)
  (Z:∀ cl s H fp,PG (cxC X scope cl N s H fp) tg g) (l:∀ cl s H fp,W3 (cxC X scope cl N s H fp) ifs tt) (G:∀ cl s H fp,PE (cxC X scope cl N s H fp) elt te) (F:∀ x,gX iter X.env x=ej x:=by intro _;rfl)
  (y:j8 (.ListComp elt [⟨tg,iter,ifs,0⟩] scope pos) (aa (.Name x pos')) j.line X.env=ej true:=by rfl) :
  PS X (.Assign [.Name x pos'] (.ListComp elt [⟨tg,iter,ifs,0⟩] scope pos) j) (YZ (Xe cap wi g tt te) (Xn i)):=by
 intro L s U H D I h
 rw[exec_Assign_Name_used _ _ _ _ y]
 refine ac (cW (ac ?_))
 show aw _ X.A (do let _ <- comprehension (.ListComp elt [⟨tg,iter,ifs,0⟩] scope pos) scope X.env _ (n_ []) aF (dz iter X.env) (aa (k9 (.Name x pos') X.env))) _ _ s
 refine ac (bx (PL (use:=aa (k9 (.Name x pos') X.env)) (Qv:=λ_ M=>SP X L D .next M) Y K hN ok hi Z l G F I h λA C m H' M J S w f u c p q=>?_) (λ_ M R=>af (af R)) λ_ _ e=>e)
 show aw _ X.A (k9 (.Name x pos') X.env (.ref A)) _ _ M
 refine n4 (Vw (v:=.ref A) J E B (.inl W) rfl (λT Q r=>?_) (.inr W))
 obtain⟨a,r,ha⟩:=r
 have O:C≠a:=by
  rcases ha with z|z
  ·rw[z];exact f
  ·exact λe=>c _ _ z e.symm
 refine⟨m,S.sameBut r O,λh' P=>?_⟩
 exact⟨_,H',Q.turned (t':=T.toks) (λb o hb e=>(P.2 b hb).trans e) w f (.inr u) c p,q⟩
structure FunD(K:aJ)(x qual:aQ)(st:gK)(dV:ag)(f:ao)(fd:fC):Prop where
 ex:∃ (oc:ag) (od:Option ao) (kV doc pm:ag) (an:Option ao) (cdv ct:ag) (osl:Array (Option ag)),
  fd=bA x qual (Z1 st) (ZC st) (Ze st) dV kV doc pm an cdv ct/\K.lookup f=aa ⟨oc,od,.func fd,osl⟩/\dj K cdv qual=ak
 kp:cX K (.ref f)=ak
theorem FunD.ok{k:Nat}(F:FunD K x qual st dV f fd)(S:FnScope N ps (Ze st))(len:∀ vs H Q E,sp vs H Q E->vs.length=ps.length)
  (g:∀ (cdv:ag) (A:cG) (outer:List iS) (s:ar) (H:Hp) (vs:List V) (Q:VK) (E:XK),Room k (A.deeper (dZ qual (Ze st) s.heap.objs.size f cdv))->sp vs H Q E ->
   ∃ t,PSs (Z6 CX P w K mg base N qual (Ze st) f cdv A outer s H E).nox (ZC st) t/\t { nx:=λ_ H'=>Q .non H',rt:=Q } (start N vs) H):FnOk P w K mg base CX (k+1) f fd ps sp:=by
 obtain⟨c,od,kV,r,pm,l,cdv,ct,j,rfl,a,b⟩:=F.ex
 refine UL a b S len λA outer s H vs Q E J i=>?_
 obtain⟨t,h,q⟩:=g cdv A outer s H vs Q E J i
 exact⟨t,h.nox,q⟩
structure Cal(P:bC)(w:bV)(K:aJ)(mg:aQ->Option ag)(base:bO)(CX:CXT)(k:Nat)(x:aQ)(ps:List aQ)(dvs:List V)(sp:Sp):Prop where
 ex:∃ (f:ao) (fd:fC) (ds:List ag),FnOk P w K mg base CX k f fd ps sp/\mg x=aa (.ref f)/\cX K (.ref f)=ak/\Y1 K fd ps ds/\Zi dvs ds
structure Tx(K:aJ)(mg:aQ->Option ag)(x:aQ)(st:gK)(ps:List aQ)(dvss:List (List V)):Prop where
 ex:∃ (dV:ag) (f:ao) (fd:fC),FunD K x x st dV f fd/\mg x=aa (.ref f)/\∀ dvs∈dvss,∃ ds,Y1 K fd ps ds/\Zi dvs ds
theorem Cal.mono{P:bC}{w:bV}{K:aJ}{mg:aQ->Option ag}{base:bO}{CX:CXT}{j k:Nat}{x:aQ}{ps:List aQ}{dvs:List V}{sp:Sp}(c:'$' CX j x ps dvs sp)(h:j<=k):'$' CX k x ps dvs sp :=
 let ⟨f,D,ds,Z,O⟩:=c.ex
 ⟨f,D,ds,Z.mono h,O⟩
variable{dvss:List (List V)}
theorem Tx.cal{k:Nat}(T:Tx K mg x st ps dvss)(S:FnScope N ps (Ze st))
  (len:∀ vs H Q E,sp vs H Q E->vs.length=ps.length)
  (g:∀ (f:ao) (cdv:ag) (A:cG) (outer:List iS) (s:ar) (H:Hp) (vs:List V) (Q:VK) (E:XK),Room k (A.deeper (dZ x (Ze st) s.heap.objs.size f cdv))->sp vs H Q E ->
   ∃ t,PSs (Z6 CX P w K mg base N x (Ze st) f cdv A outer s H E).nox (ZC st) t/\t { nx:=λ_ H'=>Q .non H',rt:=Q } (start N vs) H) :
  ∀ dvs∈dvss,'$' CX (k+1) x ps dvs sp:=by
 obtain⟨i,f,D,F,m,b⟩:=T.ex
 intro dvs hd
 obtain⟨ds,R,l⟩:=b dvs hd
 exact⟨f,D,ds,F.ok S len (λcdv A outer s H vs Q E J h=>g f cdv A outer s H vs Q E J h),m,F.kp,R,l⟩
section
variable{k:Nat}{E:XK}{t:TA}
theorem Zt(c:Cal X.prog X.w X.K X.mg X.base CX k x ps dvs sp)(J:Room k X.A)(A:Gl X x)(W:Ws CX X E)(ha:PA X (e::es) t)(a:(x == ("__debug__" : aQ))=false:=by decide)
  (G:aY (e::es) X.env=(aF,dz e X.env)::aY es X.env:=by rfl) (m:(dC pos (aY es X.env)).any (·.1)=false:=by rfl) :
  PE X (.Call (.Name x p) (e::es) [] pos) (Wr sp dvs E t):=by
 obtain⟨f,D,ds,Z,O,B,F,Y⟩:=c.ex
 exact Ks Z J A O B F Y W ha a G m
end
variable{c:AV}{cv:ag}
def XY:V->Option ag
 | .ty n=>aa (.type n)
 | .ref a=>aa (.ref a)
 | _=>none
theorem U1{c:V}(h:XY c=aa cv)(r:Zm c u):u=cv:=by
 cases c<;>simp[XY] at h
 ·subst h;exact r
 ·subst h;exact r
def rIsi(K:aJ):List V->Hp->VK->Prop:=λxs H Q=>∃ x c t cv b,xs=[x,c]/\XY c=aa cv/\TyOf K H x t/\bW K t cv=aa b/\Q (.bl b) H
def XZ(K:aJ):List V->Hp->VK->Prop:=λxs H Q=>∃ p ys,xs=[.ref p]/\(SqL K H p ys\/SqT K H p ys)/\Q (.int ys.length) H
def U2(K:aJ):List V->Hp->VK->Prop:=λxs H Q=>∃ p ys,xs=[.ref p]/\(SqL K H p ys\/SqT K H p ys)/\∀ l,H l=none->Q (.ref l) (upd H l (.lst ys))
def ST(K:aJ):List V->Hp->VK->Prop:=λxs H Q=>∃ p ys,xs=[.ref p]/\((SqL K H p ys/\∀ l,H l=none->Q (.ref l) (upd H l (.tup ys)))\/(SqT K H p ys/\Q (.ref p) H))
theorem Jj:ZD X (.builtin "len") (XZ X.K):=KW
theorem Jk:ZD X (.type "list") (U2 X.K):=KZ
theorem Jl:ZD X (.type "tuple") (ST X.K):=K0
theorem Jm:ZD X (.builtin "isinstance") (rIsi X.K):=by
 intro L s U H xs us Q I r h
 obtain⟨x,c,t,m,b,rfl,Y,B,e,q⟩:=h
 obtain⟨u,F,rfl,g,G⟩:=vals2 r
 rw[U1 Y G]
 exact Km I g B e λtk=>⟨.bl b,H,I.tok tk,rfl,q⟩
def XObj(ea:ao)(c:ag)(d:Option ao):bO->Prop:=λh=>∃ o vs,h.get? ea=aa o/\o.cls=c/\o.dict=d/\o.data=.fields vs
def hX(ea:ao)(c:ag)(d:Option ao):HO:=.ext (XObj ea c d)
def XDct(d:ao)(fs:List (aQ×V)):bO->Prop:=λh=>∃ mA,h.Ns1 d mA/\(∀ f,YK (fs.lookup f) (mA f))/\i9 mA (fs.map (·.1))
def hXD(d:ao)(fs:List (aQ×V)):HO:=.ext (XDct d fs)
def Zn:Key->aj
 | .inl i=>.int i
 | .inr x=>.str x
abbrev dJ:PyData:=.dict [(.none,.none)]
mutual
inductive Rep(K:aJ)(H:Hp):V->aj->Prop
 | non:Rep K H .non .none
 | bl (b:Bool):Rep K H (.bl b) (.bool b)
 | int (i:Int):Rep K H (.int i) (.int i)
 | str (x:aQ):Rep K H (.str x) (.str x)
 | lst {a:ao} {xs:List V} {ds:List aj}:SqL K H a xs->Reps K H xs ds->Rep K H (.ref a) (.list ds)
 | tup {a:ao} {xs:List V} {ds:List aj}:H a=aa (.tup xs)->Reps K H xs ds->Rep K H (.ref a) (.tuple ds)
 | exc {ea C:ao} {kvs:List (aj×aj)}:H ea=aa (hX ea (.ref C) none)->kvs=[(.none,.int C)]->Rep K H (.ref ea) (.dict kvs)
 | excF {ea C a:ao} {vs:List (aQ×V)} {ds:List aj} {kvs:List (aj×aj)}:H ea=aa (hX ea (.ref C) (aa a))->H a=aa (hXD a vs)->Reps K H (vs.map be) ds->kvs=(.none,.int C)::(vs.map λp=>bc p.1).zip ds->Rep K H (.ref ea) (.dict kvs)
 | dK {a:ao} {ks:List (Key×V)} {ds:List aj} {kvs:List (aj×aj)}:Rd H a (.dK ks)->Reps K H (ks.map be) ds->kvs=(ks.map λp=>Zn p.1).zip ds->Rep K H (.ref a) (.dict kvs)
 | dT {a:ao} {ks:List (List Key×V)} {ds:List aj} {kvs:List (aj×aj)}:Rd H a (.dT ks)->Reps K H (ks.map be) ds->kvs=(ks.map λp=>aI (p.1.map Zn)).zip ds->Rep K H (.ref a) (.dict kvs)
 | dN {a:ao} {ks:List ((Key×List Key)×V)} {ds:List aj} {kvs:List (aj×aj)}:ks≠[]->Rd H a (.dN ks)->Reps K H (ks.map be) ds->kvs=(ks.map λp=>aI [Zn p.1.1,.tuple (p.1.2.map Zn)]).zip ds->Rep K H (.ref a) (.dict kvs)
 | junk {v:V}:Rep K H v dJ
inductive Reps(K:aJ)(H:Hp):List V->List aj->Prop
 | nil:Reps K H [] []
 | cons {x:V} {d:aj} {xs:List V} {ds:List aj}:Rep K H x d->Reps K H xs ds->Reps K H (x::xs) (d::ds)
end
variable{y:aj}
theorem PM:(.none,y)::r≠(ks.map λp=>Zn p.1).zip ds:=by
 cases ks with
 | nil=>simp
 | cons k ks=>cases ds with
  | nil=>simp
  | cons d ds =>
   intro z
   have:=congrArg gq (eL z).1
   obtain⟨k|k,v⟩:=k<;>cases this
theorem PN{ks:List (List Key×V)}:(.none,y)::r≠(ks.map λp=>aI (p.1.map Zn)).zip ds:=by
 cases ks with
 | nil=>simp
 | cons k ks=>cases ds with
  | nil=>simp
  | cons d ds =>
   intro z
   have:=congrArg gq (eL z).1
   cases this
theorem PP{ks:List ((Key×List Key)×V)}:(.none,y)::r≠(ks.map λp=>aI [Zn p.1.1,.tuple (p.1.2.map Zn)]).zip ds:=by
 cases ks with
 | nil=>simp
 | cons k ks=>cases ds with
  | nil=>simp
  | cons d ds =>
   intro z
   have:=congrArg gq (eL z).1
   cases this
variable{xs:List V}
section
variable{σ:St}
theorem Rep.indF{M:V->aj->Prop}{N:List V->List aj->Prop}(h1:M .non .none)(O:∀ b,M (.bl b) (.bool b))(B:∀ i,M (.int i) (.int i))(F:∀ x,M (.str x) (.str x))
  (Y:∀ {a xs ds},SqL K H a xs->N xs ds->M (.ref a) (.list ds)) (L:∀ {a xs ds},H a=aa (.tup xs)->N xs ds->M (.ref a) (.tuple ds)) (q:∀ v l,M v (.dict l)) (n:N [] []) (c:∀ {x d xs ds},M x d->N xs ds->N (x::xs) (d::ds)):(∀ {v d},Rep K H v d->M v d)/\∀ {vs ds},Reps K H vs ds->N vs ds :=
 ⟨λh=>Rep.rec (motive_1:=λv d _=>M v d) (motive_2:=λv d _=>N v d) h1 O B F (λh _=>Y h) (λh _=>L h) (λ_ _=>q _ _) (λ_ _ _ _ _=>q _ _) (λ_ _ _ _=>q _ _) (λ_ _ _ _=>q _ _) (λ_ _ _ _ _=>q _ _) (q _ _) n (λ_ _=>c) h,
  λh=>Reps.rec (motive_1:=λv d _=>M v d) (motive_2:=λv d _=>N v d) h1 O B F (λh _=>Y h) (λh _=>L h) (λ_ _=>q _ _) (λ_ _ _ _ _=>q _ _) (λ_ _ _ _=>q _ _) (λ_ _ _ _=>q _ _) (λ_ _ _ _ _=>q _ _) (q _ _) n (λ_ _=>c) h⟩
theorem Rep.reads(I:'#'){d:aj}(hn:d.canLay0=ak)(h:Rep X.K H v d)(r:Zm v u):∃ as,Reads s.heap u d as:=by
 refine (Rep.indF (M:=λv d=>∀ u,d.canLay0=ak->Zm v u->∃ as,Reads s.heap u d as) (N:=λvs ds=>∀ us,cw ds=ak->Zi vs us->∃ as,ReadsAll s.heap us ds as) ?_ ?_ ?_ ?_ ?_ ?_ ?_ ?_ ?_).1 h u hn r
 ·intro u _ r;cases (show u=bI from r);exact⟨_,Reads.none⟩
 ·intro b u _ r;cases (show u=gQ b from r);exact⟨_,Reads.bool b⟩
 ·intro i u _ r;obtain⟨t,q⟩:=(show ∃ t,u=f8 i t from r);cases q;exact⟨_,Reads.int i t⟩
 ·intro x u _ r;obtain⟨t,q⟩:=(show ∃ t,u=eZ x t from r);cases q;exact⟨_,Reads.str x t⟩
 ·intro a xs ds h E u hn r
  cases (show u=aG a from r)
  obtain⟨f,T,p,_⟩:=I.list h
  obtain⟨as,q⟩:=E _ (by simpa [bX] using hn) T
  obtain⟨o,Z,O,n,B⟩:=p.isList
  exact⟨_,Reads.list Z O B (by simpa using q)⟩
 ·intro a xs ds h E u hn r
  cases (show u=aG a from r)
  obtain⟨f,T,p,_⟩:=I.tuple (SqT.of h)
  obtain⟨as,q⟩:=E _ (by simpa [bX] using hn) T
  obtain⟨o,Z,O,n,B⟩:=p
  exact⟨_,Reads.tuple Z O B (by simpa using q)⟩
 ·intro v l u hn;simp[bX] at hn
 ·intro us _ q;cases q;exact⟨_,ReadsAll.nil⟩
 ·intro x d xs ds L F us hn q
  simp only[cw,aP] at hn
  cases q with
  | cons q j =>
   obtain⟨as,Z⟩:=L _ hn.1 q
   obtain⟨bs,O⟩:=F _ hn.2 j
   exact⟨_,ReadsAll.cons Z O⟩
theorem Zf.rd(e:Zf H H'){u:HO}(h:Rd H a u):Rd H' a u:=h.imp (λh=>e _ _ h) λ⟨o,h⟩=>⟨o,e _ _ h⟩
theorem Zf.tupS(e:Zf H H')(h:SqT K H a xs):SqT K H' a xs:=by
 rcases h with (h|⟨o,h⟩)|h
 ·exact .inl (.inl (e _ _ h))
 ·exact .inl (.inr ⟨o,e _ _ h⟩)
 ·exact .inr h
def Low(G G':Hp):Prop:=∀ b o,G b=aa o->(∀ ob c,o≠.frz ob (.own c))->G' b=aa o
theorem Low.rd(e:Low H H'){u:HO}(n:∀ ob c,u≠.frz ob (.own c))(L:∀ c,u≠.own c)(h:Rd H a u):Rd H' a u:=h.imp (λh=>e _ _ h n) λ⟨o,h⟩=>⟨o,e _ _ h λob c z=>by cases z;exact L _ rfl⟩
theorem Low.seq(e:Low H H')(h:SqL K H a xs):SqL K H' a xs:=by
 rcases h with (h|⟨o,h⟩)|h
 ·exact .inl (.inl (e _ _ h λ_ _ z=>by cases z))
 ·exact .inl (.inr ⟨o,e _ _ h λ_ _ z=>by cases z⟩)
 ·exact .inr h
theorem Rep.low(e:Low H H'){d:aj}(h:Rep K H v d):Rep K H' v d :=
 Rep.rec (motive_1:=λv d _=>Rep K H' v d) (motive_2:=λv d _=>Reps K H' v d) .non .bl .int .str (λh _ i=>.lst (e.seq h) i) (λh _ i=>.tup (e _ _ h (by intro _ _ z;cases z)) i) (λh z=>.exc (e _ _ h (by intro _ _ z;cases z)) z) (λh k _ z i=>.excF (e _ _ h (by intro _ _ z;cases z)) (e _ _ k (by intro _ _ z;cases z)) i z)
  (λh _ z i=>.dK (e.rd (by intro _ _ z;cases z) (by intro _ z;cases z) h) i z) (λh _ z i=>.dT (e.rd (by intro _ _ z;cases z) (by intro _ z;cases z) h) i z) (λn h _ z i=>.dN n (e.rd (by intro _ _ z;cases z) (by intro _ z;cases z) h) i z) .junk .nil (λ_ _=>.cons) h
theorem Reps.imp(f:∀ {v d},Rep K H v d->Rep K H' v d):∀ {vs:List V} {ds:List aj},Reps K H vs ds->Reps K H' vs ds
 | _,_,.nil=>.nil
 | _,_,.cons r rs=>.cons (f r) (Reps.imp f rs)
theorem Reps.low(e:Low H H'){vs:List V}{ds:List aj}(h:Reps K H vs ds):Reps K H' vs ds:=Reps.imp (λr=>r.low e) h
theorem Rep.same(e:Zf H H'){d:aj}(h:Rep K H v d):Rep K H' v d:=h.low λb o z _=>e b o z
theorem Reps.same(e:Zf H H'){vs:List V}{ds:List aj}(h:Reps K H vs ds):Reps K H' vs ds:=Reps.imp (λr=>r.same e) h
theorem Reps.length:∀ {vs:List V} {ds:List aj},Reps K H vs ds->vs.length=ds.length
 | _,_,.nil=>rfl
 | _,_,.cons _ rs=>by rw[cC,cC,Reps.length rs]
theorem Reps.get:∀ {vs:List V} {ds:List aj} {i:Nat} {d:aj},Reps K H vs ds->ds[i]?=aa d->∃ v,vs[i]?=aa v/\Rep K H v d
 | _,_,i,d,.nil,e=>by simp at e
 | _,_,0,d,.cons r _,e=>by simp at e;subst e;exact⟨_,rfl,r⟩
 | _,_,i+1,d,.cons _ rs,e=>by
  obtain⟨v,Z,O⟩:=Reps.get (i:=i) rs (by simpa using e)
  exact⟨v,by simpa using Z,O⟩
theorem Reps.append:∀ {vs ws:List V} {ds es:List aj},Reps K H vs ds->Reps K H ws es->Reps K H (vs++ws) (ds++es)
 | _,_,_,_,.nil,h=>h
 | _,_,_,_,.cons r rs,h=>.cons r (Reps.append rs h)
theorem Reps.ints(ns:List Int):Reps K H (ns.map V.int) (ns.map aZ):=by
 induction ns with
 | nil=>exact .nil
 | cons n ns E=>exact .cons (.int n) E
theorem Yk{p:ao}{o:HO}(h:H p=none):Zf H (upd H p o):=λb u e=>by rw[Zg (Z5 e h)];exact e
def dOk(d:aj):Prop:=nR d=ak
def W4(K:aJ):R2:=λx y H Q=>∃ d e,Rep K H x d/\Rep K H y e/\dOk d/\dOk e/\Q (.bl (cH d e)) H
def Ww(K:aJ):R2:=λx y H Q=>∃ d e,Rep K H x d/\Rep K H y e/\dOk d/\dOk e/\Q (.bl (!PyData.eqv d e)) H
theorem Jn(i:X.A.units+64<cJ):OpR X (bE .Eq) (W4 X.K):=by
 intro L s U H x y v u Q I A R h
 obtain⟨d,e,Z,O,B,F,q⟩:=h
 obtain⟨as,k1⟩:=Rep.reads I (e9 B) Z A
 obtain⟨bs,k2⟩:=Rep.reads I (e9 F) O R
 exact eq_dataH k1 k2 B F i ⟨.bl _,H,I,rfl,q⟩
theorem Jo(i:X.A.units+64<cJ):OpR X (bE .NotEq) (Ww X.K):=by
 intro L s U H x y v u Q I A R h
 obtain⟨d,e,Z,O,B,F,q⟩:=h
 obtain⟨as,k1⟩:=Rep.reads I (e9 B) Z A
 obtain⟨bs,k2⟩:=Rep.reads I (e9 F) O R
 exact ne_dataH k1 k2 B F i ⟨.bl _,H,I,rfl,q⟩
end
structure Enc{α:Type}(f:α->aj)(n:Nat):Prop where
 eqv:∀ a b,cH (f a) (f b)=ak↔a=b
 lay:∀ a,(f a).canLay0=ak
 dep:∀ a,(f a).depth<=n
variable{f:α->aj}
theorem Enc.ok(E:Enc f n)(hn:n<=32)(a:α):dOk (f a):=by
 unfold dOk nR
 rw[E.lay a,ky]
 exact decide_eq_true (aT (E.dep a) (aT hn (by decide)))
theorem Enc.int:Enc aZ 0:=⟨λa b=>by simp[cH],λ_=>by simp[bX],λ_=>by simp[fR]⟩
theorem SU{α:Type}{f:α->aj}(h:∀ a b,cH (f a) (f b)=ak↔a=b):∀ xs ys:List α,fu (xs.map f) (ys.map f)=ak↔xs=ys
 | [],[]=>by simp[fu]
 | [],_::_=>by simp[fu]
 | _::_,[]=>by simp[fu]
 | x::xs,y::ys=>by simp[fu,h x y,SU h xs ys]
theorem SV{α:Type}{f:α->aj}(h:∀ a,(f a).canLay0=ak):∀ xs:List α,cw (xs.map f)=ak
 | []=>rfl
 | x::xs=>by simp[cw,h x,SV h xs]
theorem SW{α:Type}{f:α->aj}{n:Nat}(h:∀ a,(f a).depth<=n):∀ xs:List α,gT (xs.map f)<=n
 | []=>bP _
 | x::xs=>by
  have Z:=h x
  have O:=SW h xs
  simp only[bw,gT]
  omega
theorem Enc.list{α:Type}{f:α->aj}{n:Nat}(E:Enc f n):Enc (λxs:List α=>da (xs.map f)) (n+1) :=
 ⟨λa b=>by simp only[cH];exact SU E.eqv a b,λa=>by simp only[bX];exact SV E.lay a,λa=>by simp only[fR];have:=SW E.dep a;omega⟩
theorem Enc.tuple{α:Type}{f:α->aj}{n:Nat}(E:Enc f n):Enc (λxs:List α=>aI (xs.map f)) (n+1) :=
 ⟨λa b=>by simp only[cH];exact SU E.eqv a b,λa=>by simp only[bX];exact SV E.lay a,λa=>by simp only[fR];have:=SW E.dep a;omega⟩
variable{β:Type}
theorem Enc.pair{g:β->aj}(E:Enc f n)(G:Enc g n):Enc (λp:α×β=>aI [f p.1,g p.2]) (n+1) :=
 ⟨λa b=>by
  obtain⟨U,v⟩:=a
  obtain⟨R,l⟩:=b
  simp[cH,fu,E.eqv,G.eqv],λa=>by simp[bX,cw,E.lay,G.lay],λa=>by
  have Z:=E.dep a.1
  have O:=G.dep a.2
  simp only[fR,gT]
  omega⟩
theorem Enc.dec[DecidableEq α](E:Enc f n)(a b:α):cH (f a) (f b)=decide (a=b):=by
 by_cases h:a=b
 ·rw[decide_eq_true h];exact (E.eqv a b).mpr h
 ·rw[decide_eq_false h];exact Bool.eq_false_iff.mpr λz=>h ((E.eqv a b).mp z)
theorem W5(hm:∃ t,X.mg x=aa (.int i t))(A:Gl X x)(hd:(x == ("__debug__" : aQ))=false:=by decide):PE X (.Name x pos) (tC (.int i)):=by
 obtain⟨t,h⟩:=hm
 exact Vx A h ⟨t,rfl⟩ hd
variable{j:Int}
section
variable{Q:VK}
theorem Jp(h:Q (.bl (decide (i=j))) H):rEq (.int i) (.int j) H Q:=⟨rfl,by have e:decide (V.int i=V.int j)=decide (i=j):=by { by_cases z:i=j<;>simp[z] };rw[e];exact h⟩
theorem Jq(h:Q (.bl (!decide (i=j))) H):rNe (.int i) (.int j) H Q:=⟨rfl,by have e:decide (V.int i=V.int j)=decide (i=j):=by { by_cases z:i=j<;>simp[z] };rw[e];exact h⟩
theorem Jr{a b:Bool}(h:Q (.bl (decide (a=b))) H):rEq (.bl a) (.bl b) H Q:=⟨rfl,by have e:decide (V.bl a=V.bl b)=decide (a=b):=by { by_cases z:a=b<;>simp[z] };rw[e];exact h⟩
theorem PQ{P:Prop}(h:H a=aa (.lst xs))(q:P):tyV K "list" (.ref a) H/\P:=⟨.inl ⟨rfl,xs,SqL.of h⟩,q⟩
end
variable{sl:Array (Option ag)}
theorem Js{f:ao}{kV ct:ag}(X:K.In h)(G:h.Ns au mg)
  (a:bL K au x=aa (aa (.ref f))) (l:K.lookup f=aa ⟨oc,od,.func (bA x x (Z1 st) (ZC st) (Ze st) .none kV doc pm an cd ct),sl⟩)
  (c:dj K cd x=ak) (k:cX K (.ref f)=ak)
  (hb:∀ (us:List ag),us.length=ps.length->m5 (bA x x (Z1 st) (ZC st) (Ze st) .none kV doc pm an cd ct) ⟨us,[]⟩=ej (ps.zip us)):Tx K mg x st ps [[]] :=
 ⟨.none,f,_,⟨⟨oc,od,kV,doc,pm,an,cd,ct,sl,rfl,l,c⟩,k⟩,c9 X G a,λb hd=>by
  have e:b=[]:=by simpa using hd
  subst e
  exact⟨[],.all hb,.nil⟩⟩
theorem VQ{f m:ao}{kV ct q:ag}{p:Option ao}{w:Array (Option ag)}(X:K.In h)(G:h.Ns au mg)
  (a:bL K au x=aa (aa (.ref f))) (l:K.lookup f=aa ⟨oc,od,.func (bA x x (Z1 st) (ZC st) (Ze st) (.ref m) kV doc pm an cd ct),sl⟩)
  (d:K.lookup m=aa ⟨q,p,.seq #[.int i tk] n,w⟩) (c:dj K cd x=ak) (k:cX K (.ref f)=ak)
  (hb:∀ (s:ar) (us:List ag),K.In s.heap->us.length=ps.length->g5 s (bA x x (Z1 st) (ZC st) (Ze st) (.ref m) kV doc pm an cd ct) ⟨us,[]⟩ (ps.zip us))
  (j:∀ (s:ar) (us:List ag),K.In s.heap->us.length+1=ps.length->g5 s (bA x x (Z1 st) (ZC st) (Ze st) (.ref m) kV doc pm an cd ct) ⟨us,[]⟩ (ps.zip (us++[.int i tk]))):Tx K mg x st ps [[],[.int i]] :=
 ⟨.ref m,f,_,⟨⟨oc,od,kV,doc,pm,an,cd,ct,sl,rfl,l,c⟩,k⟩,c9 X G a,λb hd=>by
  rcases gh.mp hd with e|hd
  ·subst e
   exact⟨[],λs us g D=>by rw[ck] at D ⊢;exact hb s us g D,.nil⟩
  ·have e:b=[.int i]:=by simpa using hd
   subst e
   exact⟨[.int i tk],λs us g D=>j s us g (by simpa using D),.cons ⟨tk,rfl⟩ .nil⟩⟩
theorem U3{t:mI}(X:K.In h)(G:h.Ns au mg)(a:bL K au x=aa (aa (.int i t))):∃ t,mg x=aa (.int i t):=⟨t,c9 X G a⟩
theorem Jt:bW K (.type "int") (.type "bool")=aa false :=
 (by decide +kernel:(if (cY "int" == cY "bool")=ak then aa ak else if PySem.W.kitMeta "bool" = ak then (fastBuiltinMro "int").map (·.contains (cY "bool")) else none)=aa aF)
variable{x:V}
theorem Ju[DecidableEq α]{y:V}{a b:α}{Q:VK}(E:Enc f n)(h1:Rep K H x (f a))(O:Rep K H y (f b))(q:Q (.bl (decide (a=b))) H)(hn:n<=32:=by decide):W4 K x y H Q :=
 ⟨_,_,h1,O,E.ok hn a,E.ok hn b,by rw[E.dec];exact q⟩
theorem Jv[DecidableEq α]{y:V}{a b:α}{Q:VK}(E:Enc f n)(h1:Rep K H x (f a))(O:Rep K H y (f b))(q:Q (.bl (!decide (a=b))) H)(hn:n<=32:=by decide):Ww K x y H Q :=
 ⟨_,_,h1,O,E.ok hn a,E.ok hn b,by rw[E.dec];exact q⟩
theorem SY{c A:Prop}[Decidable c](Y:¬ c)(h:B):if decide c=ak then A else B:=by
 rw[decide_eq_false Y]
 exact SL h
theorem Rep.ints{K:aJ}{H:Hp}{a:ao}{ns:List Int}(h:SqL K H a (ns.map V.int)):Rep K H (.ref a) (da (ns.map aZ)):=.lst h (Reps.ints ns)
section
variable{Q:VK}{k:Int}{d:aj}
theorem Rep.int_inv(h:Rep K H v (.int i)):v=.int i:=by cases h;rfl
theorem Rep.list_inv(h:Rep K H v (.list ds)):∃ a xs,v=.ref a/\SqL K H a xs/\Reps K H xs ds:=by
 cases h with
 | lst h r=>exact⟨_,_,rfl,h,r⟩
theorem Rep.tuple_inv(h:Rep K H v (.tuple ds)):∃ a xs,v=.ref a/\SqT K H a xs/\Reps K H xs ds:=by
 cases h with
 | tup h r=>exact⟨_,_,rfl,SqT.of h,r⟩
theorem Rep.tuple_at(h:Rep K H v (.tuple ds)):∃ a xs,v=.ref a/\H a=aa (.tup xs)/\Reps K H xs ds:=by
 cases h with
 | tup h r=>exact⟨_,_,rfl,h,r⟩
theorem Reps.ints_inv:∀ {ns:List Int} {xs:List V},Reps K H xs (ns.map aZ)->xs=ns.map V.int
 | [],_,.nil=>rfl
 | n::ns,_,.cons r rs=>by rw[r.int_inv,Reps.ints_inv rs];rfl
theorem W6{xs:List α}{y:α}(G:0<=k)(h:xs[k.toNat]?=aa y):atI xs k=aa y:=by
 obtain⟨j,rfl⟩:∃ j:Nat,k=j:=⟨k.toNat,by omega⟩
 exact SH (by simpa using h)
theorem Jw(h:Rep K H x (.list ds))(q:Q (.int ds.length) H):XZ K [x] H Q:=by
 obtain⟨a,xs,rfl,Z,O⟩:=h.list_inv
 exact⟨a,xs,rfl,.inl Z,by rw[O.length];exact q⟩
theorem Jx(h:Rep K H x (.tuple ds))(q:Q (.int ds.length) H):XZ K [x] H Q:=by
 obtain⟨a,xs,rfl,Z,O⟩:=h.tuple_inv
 exact⟨a,xs,rfl,.inr Z,by rw[O.length];exact q⟩
mutual
def ZH:aj->Bool
 | .none=>ak
 | .bool _=>ak
 | .int _=>ak
 | .str _=>ak
 | .list _=>aF
 | .tuple ds=>noLsts ds
 | .dict _=>aF
def noLsts:List aj->Bool
 | []=>ak
 | d::ds=>ZH d && noLsts ds
end
theorem Y2:∀ ns:List Int,noLsts (ns.map aZ)=ak
 | []=>rfl
 | n::ns=>by simp[noLsts,ZH,Y2 ns]
theorem X0{α:Type}{f:α->aj}(h:∀ a,ZH (f a)=ak):∀ xs:List α,noLsts (xs.map f)=ak
 | []=>rfl
 | x::xs=>by simp[noLsts,h x,X0 h xs]
theorem Zf.updF{o:HO}(s:Zf H H')(P:H D=none):Zf H (upd H' D o):=λb u e=>by rw[Zg (Z5 e P)];exact s b u e
def dI(ns:List Int):PyData:=.list (ns.map .int)
def tI(ns:List Int):PyData:=.tuple (ns.map .int)
def VR(rows:List (List Int)):PyData:=.list (rows.map dI)
end
def lig(b:Int):Nat->Int->List Int
 | 0,_=>[]
 | f+1,n=>if 0<n then (n%b)::lig b f (n / b) else []
theorem VS{b n:Int}(hb:2<=b)(a:b<=5)(hn:0<n):0<=n / b/\n / b<n/\2*(n / b)<=n:=by
 have:b=2\/b=3\/b=4\/b=5:=by omega
 rcases this with rfl|rfl|rfl|rfl<;>omega
theorem PU{b:Int}(hb:2<=b)(a:b<=5):∀ (f g:Nat) (n:Int),n.toNat<=f->n.toNat<=g->lig b f n=lig b g n
 | 0,0,_,_,_=>rfl
 | 0,g+1,n,h,_=>by
  have:¬ 0<n:=by omega
  simp only[lig,if_neg this]
 | f+1,0,n,_,h=>by
  have:¬ 0<n:=by omega
  simp only[lig,if_neg this]
 | f+1,g+1,n,h1,h2=>by
  by_cases h:0<n
  ·simp only[lig,if_pos h]
   have:=VS hb a h
   rw[PU hb a f g (n / b) (by omega) (by omega)]
  ·simp only[lig,if_neg h]
def dig(b n:Int):List Int:=lig b n.toNat n
theorem VT{b n:Int}(hb:2<=b)(a:b<=5)(h:0<n):dig b n=n%b::dig b (n / b):=by
 unfold dig
 obtain⟨k,R⟩:∃ k,n.toNat=k+1:=⟨n.toNat-1,by omega⟩
 have:=VS hb a h
 rw[R,lig,if_pos h,PU hb a k (n / b).toNat (n / b) (by omega) (aq _)]
theorem XH{b n:Int}(h:¬ 0<n):dig b n=[]:=by
 unfold dig
 have:n.toNat=0:=by omega
 rw[this,lig]
def figs(b n:Int):List Int:=(dig b n).reverse
def num(b:Int)(ds:List Int):Int:=ds.foldl (λa d=>a*b+d) 0
theorem Wx(b:Int)(ds:List Int)(d:Int):num b (ds++[d])=num b ds*b+d:=by
 unfold num
 rw[fG]
 rfl
theorem PV{b:Int}(hb:2<=b)(a:b<=5):∀ (f:Nat) (n:Int),0<=n->n.toNat<=f->num b (figs b n)=n
 | f,n,h0,hf=>by
  by_cases h:0<n
  ·match f,hf with
   | 0,hf=>omega
   | f+1,hf =>
    have:=VS hb a h
    unfold figs
    rw[VT hb a h,fF,Wx]
    have E:=PV hb a f (n / b) (by omega) (by omega)
    unfold figs at E
    rw[E]
    exact gk (n / b) b▸lA n b
  ·unfold figs
   rw[XH h]
   show (0:Int)=n
   omega
theorem Jy{b n:Int}(hb:2<=b)(a:b<=5)(G:0<=n):num b (figs b n)=n:=PV hb a _ n G (aq _)
def Lig(b n:Int)(ds:List Int)(r:Int):Prop:=0<=r/\ds++dig b r=dig b n/\∃ k,r.toNat<2 ^ k/\ds.length+k=900
theorem Lig.start{b n:Int}(G:0<=n)(h1:n.toNat<2 ^ 900):Lig b n [] n:=⟨G,rfl,900,h1,rfl⟩
theorem Lig.step{b n r:Int}{ds:List Int}(hb:2<=b)(a:b<=5)(L:Lig b n ds r)(h:0<r):Lig b n (ds++[r%b]) (r / b)/\ds.length<900/\(r / b).toNat<r.toNat:=by
 obtain⟨G,Z,k,O,B⟩:=L
 have hd:=VS hb a h
 match k,O,B with
 | 0,O,_=>simp at O;omega
 | k+1,O,B =>
  rw[hZ] at O
  refine⟨⟨hd.1,?_,k,by omega,by simp;omega⟩,by omega,by omega⟩
  rw[bM,<- Z,VT hb a h]
  rfl
theorem Lig.done{b n r:Int}{ds:List Int}(L:Lig b n ds r)(h:¬ 0<r):ds=dig b n/\ds.length<=900:=by
 obtain⟨G,Z,k,O,B⟩:=L
 rw[XH h,ck] at Z
 exact⟨Z,by omega⟩
theorem PY{b n:Int}(hb:2<=b)(a:b<=5):∀ (k:Nat) (n:Int),n.toNat<2 ^ k->(dig b n).length<=k
 | 0,n,h=>by
  rw[XH (by simp at h;omega)]
  exact aq _
 | k+1,n,h=>by
  by_cases g:0<n
  ·rw[VT hb a g,cC]
   have hd:=VS hb a g
   rw[hZ] at h
   have:=PY (n:=n) hb a k (n / b) (by omega)
   omega
  ·rw[XH g]
   exact bP _
variable{r:Fp}
section
theorem XI(h:X.K=K):ZD X (.type "list") (U2 K):=h▸Jk
theorem X1(h:X.K=K):ZD X (.type "tuple") (ST K):=h▸Jl
theorem Jz(h:X.K=K):OpR X (c4 .Add) (UM K):=h▸KI
theorem JA(h:X.K=K)(i:X.A.units+64<cJ):OpR X (bE .Eq) (W4 K):=h▸Jn i
theorem JB(h:X.K=K)(i:X.A.units+64<cJ):OpR X (bE .NotEq) (Ww K):=h▸Jo i
theorem W7{k:Nat}{t:TGs}(h:X.K=K)(Y:X.calm=ak)(A:PGs X es t)(hn:(fW es X.env).length=n:=by rfl)(x:(fW es X.env).findIdx? (·.1)=none:=by rfl):PG X (.Tuple es k pos) (Sx K n t):=h▸L4 Y A hn x
variable{o:dW}{t:TA}{apos:md}{id:String}{r:V->List V->Hp->VK->Prop}
theorem JC(h:X.K=K)(f:lg T)(slot:Slot T name id)(g:nM (.builtin id)=ej (.type "method_descriptor"))(hm:MtR X id r)(J:PE X o to)
  (b:e8 o name X.env (dz o X.env)=dz o X.env:=by rfl) (a:(apos.endLine == cpos.line)=true:=by rfl):PE X (.Call (.Attribute o name apos) [] [] cpos) (UO K T r to):=h▸K1 f slot g hm J b a
theorem Xf(h:X.K=K)(f:lg T)(slot:Slot T name id)(g:nM (.builtin id)=ej (.type "method_descriptor"))(hm:MtR X id r)(J:PE X o to)(ha:PA X (e::es) t)
  (b:e8 o name X.env (dz o X.env)=dz o X.env:=by rfl)
  (i:((dC cpos (aY (e::es) X.env)).all (λx=>!x.1) && (m6 cpos (kl [] X.env)).all (λx=>x.1.isSome)
   && decide ((e::es).length+([]:List kM).length+(if ([]:List kM).isEmpty then 0 else 1)<30))=true:=by rfl)
  (a:(apos.endLine == cpos.line)=true:=by rfl) (P:aY (e::es) X.env=(aF,dz e X.env)::aY es X.env:=by rfl) (c:(dC cpos (aY es X.env)).any (·.1)=false:=by rfl) :
  PE X (.Call (.Attribute o name apos) (e::es) [] cpos) (tBM K T r to t):=h▸K2 f slot g hm J ha b i a P c
end
def Ite(K:aJ)(a:ao):It :=
  ⟨λi H=>∃ xs x,SqL K H a xs/\xs[i]?=aa x,
   λi H v H'=>∃ p x,H p=none/\v=.ref p/\H'=upd H p (.tup [.int i,x])/\∀ xs,SqL K H a xs->xs[i]?=aa x,
   λi H=>∃ xs,SqL K H a xs/\xs.length<=i⟩
theorem Inv.enumed{σ:St}{e:ao}(I:'#')
  (g:YE X pins H e) (j:YE X pins H it) (k:∀ b o,b≠e->b≠it->s.heap.get? b=aa o->h'.get? b=aa o)
  (l:h'.get? s.heap.objs.size=aa { cls:=.type "tuple",data:=.seq us.toArray }) (N:Zi xs us) (hz:xs.length<=sizeLine) :
  Inv X pins σ (upd H s.heap.objs.size (.tup xs)) { s with heap:=h',toks:=t' }:=by
 have T:H s.heap.objs.size=none:=I.hok.fresh (aq _)
 have ne:∀ b o,s.heap.get? b=aa o->b≠s.heap.objs.size:=λb o q=>aE (ax q)
 have p:∀ b u,H b=aa u->b≠e/\b≠it:=λb u q=>⟨(Z5 q g.1),(Z5 q j.1)⟩
 have np:∀ b u,H b=aa u->b≠s.heap.objs.size:=λb u q=>Z5 q T
 refine I.step (g':=s.gens) (d':=s.drawn) (ch:=[e,it]) (λb M=>?_) (λb o _ _ Y q _=>k b o (λz=>Y (by simp[z])) (λz=>Y (by simp[z])) q)
  (λb o _ _ Y q _=>⟨o.slots,k b o (λz=>Y (by simp[z])) (λz=>Y (by simp[z])) q⟩) (λb o _ q n=>by rw[Zg (ne b o q)];exact n)
  (λb o Y q=>⟨o,k b o (λz=>Y (by simp[z])) (λz=>Y (by simp[z])) q⟩) (λb ys q=>by rw[Zg (np b _ q)];exact q) (λb o u q=>by rw[Zg (np b _ q)];exact q)
  (λb ps q=>⟨#[],by rw[Zg (np b _ q),q];simp⟩) (λm S=>?_) (λb u q=>?_) I.bare
 ·have M:b=e\/b=it:=by simpa using M
  rcases M with rfl|rfl
  ·exact⟨g.2.2.2.1,g.2.1,g.2.2.2.2.1,g.2.2.2.2.2⟩
  ·exact⟨j.2.2.2.1,j.2.1,j.2.2.2.2.1,j.2.2.2.2.2⟩
 ·obtain⟨o,es,f,J,r⟩:=S
  exact⟨o,es,f,k _ o (bR g.2.1) (bR j.2.1) J,r⟩
 ·by_cases M:b=s.heap.objs.size
  ·subst M
   rw[Zw] at q
   cases q
   exact⟨hz,us,N,⟨_,l,rfl,⟨_,rfl⟩,rfl⟩⟩
  ·rw[Zg M] at q
   refine (I.hok b u q).stay (λc v Y r=>?_) (λc r=>by rw[Zg (np c _ r)];exact r) λc ys r=>by rw[Zg (np c _ r)];exact r
   rcases Y with z|z
   ·rw[z] at r ⊢;exact k _ _ (p b u q).1 (p b u q).2 r
   ·exact k _ _ (p c _ z).1 (p c _ z).2 r
variable{tp:md}
theorem JD{x1}(a e it:ao)(F:e≠it):Turn P w K (.Tuple es x1 tp) (Ite K a) [e,it] e (λi h=>(∃ old,IsEnum h e it i old)/\h.IsListIter it a i) where
 mem:=by simp
 obj:=λi h st b M=>by
  obtain⟨⟨old,G⟩,o,C,Y,hd⟩:=st
  have M:b=e\/b=it:=by simpa using M
  rcases M with rfl|rfl
  ·exact⟨_,G,λv z=>by cases (show jF _=iA v from z)⟩
  ·exact⟨o,C,λv z=>by rw[hd] at z;cases z⟩
 keep:=λi h h' st k=>by
  obtain⟨⟨old,G⟩,C⟩:=st
  exact⟨⟨old,k e (by simp) _ G⟩,C.at λo q=>k it (by simp) o q⟩
 item:=by
  intro X y R Q Y i L s U H E I B st A
  subst y R Q
  obtain⟨xs,x,m,W⟩:=A
  obtain⟨⟨old,G⟩,C⟩:=st
  obtain⟨f,T,p,hz⟩:=I.list m
  obtain⟨u,hu,N⟩:=T.get W
  refine wpAny_pyNext_enum_item G C p.isList (x:=u) (by simpa using hu) F λh' J hi' l hsz k=>?_
  refine⟨_,rfl,kX J λO he2 r=>?_⟩
  have g:=B e (by simp)
  have j:=B it (by simp)
  have I1:Inv X L U (upd H s.heap.objs.size (.tup [.int i,x])) { s with heap:=h',toks:=s.toks+1 }:=I.enumed g j k l (.cons ⟨_,rfl⟩ (.cons N .nil)) (by show 2<=sizeLine;decide)
  have he1:e≠s.heap.objs.size:=aE (ax G)
  have hi1:it≠s.heap.objs.size:=by obtain⟨_,q,_⟩:=C;exact aE (ax q)
  have I2:=I1.turned (h':=O) (t':=s.toks+1) (it:=e) (λb o M q=>(r.2 b M).trans q) (by rw[Zg he1];exact g.1) g.2.1 g.2.2.2.1 g.2.2.2.2.1 g.2.2.2.2.2
  refine⟨.ref s.heap.objs.size,_,I2,rfl,⟨s.heap.objs.size,x,I.hok.fresh (aq _),rfl,rfl,λys hy=>by rw[I.list_inj hy m];exact W⟩,⟨⟨u,by simpa using he2⟩,hi'.at λo q=>(r.2 it F.symm).trans q⟩,λb M=>?_⟩
  have M:b=e\/b=it:=by simpa using M
  rcases M with rfl|rfl
  ·rw[Zg he1];exact g.1
  ·rw[Zg hi1];exact j.1
 done:=by
  intro X y R Q Y i L s U H E I B st A
  subst y R Q
  obtain⟨xs,m,W⟩:=A
  obtain⟨⟨old,G⟩,C⟩:=st
  obtain⟨f,T,p,hz⟩:=I.list m
  obtain⟨f0,Z,c,f3,f4,f5⟩:=B it (by simp)
  have D:=T.length
  exact wpAny_pyNext_enum_end (I.ok.hd Y) G C p.isList (by simp;omega) λh' S=>⟨rfl,I.turned (t':=s.toks) (λb o M e=>S b o M e) f0 Z f3 f4 f5⟩
 self:=λ_ _ _ _ _ st h=>by
  obtain⟨⟨old,G⟩,_⟩:=st
  exact gW G h
def SZ(K:aJ)(ta:TA):TI:=λσ H R=>ta σ H λvs H1=>∃ a,vs=[.ref a]/\(∃ xs,SqL K H1 a xs)/\R (Ite K a) H1
theorem PZ{a:dW}{ta:TA}{x1}(hK:X.K=K)(A:Gl X "enumerate")(hm:X.mg "enumerate" = none)(ha:PA X [a] ta)(P:aY [a] X.env=[(aF,dz a X.env)]:=by rfl) :
  PI X (.Tuple es x1 tp) (.Call (.Name "enumerate" p) [a] [] pos) (SZ K ta):=by
 subst hK
 intro L s U H R I h
 refine Call_ (XW I A hm iX (cV (thn (ha pos L s U H _ I h) λus C Z=>?_) P rfl))
 obtain⟨vs,y,J,g,a,e,⟨xs,m⟩,q⟩:=Z
 subst e
 cases g with
 | cons r c =>
  cases c
  cases (show _=aG a from r)
  obtain⟨f,T,p,hz⟩:=J.list m
  refine call_enumerate_list p.isList λh' G i hsz k=>?_
  refine gW G ?_
  have E:Inv X L U y { C with heap:=h' }:=J.kept (t':=C.toks) k
  refine⟨_,[C.heap.objs.size+1,C.heap.objs.size],_,Ite X.K a,y,rfl,E,JD a _ _ (bt (dg _)),⟨⟨_,G⟩,i⟩,λb M=>?_,q⟩
  have M:b=C.heap.objs.size+1\/b=C.heap.objs.size:=by simpa using M
  rcases M with rfl|rfl
  ·exact J.fpOk (cz _) (J.hok.fresh (cz _))
  ·exact J.fpOk (aq _) (J.hok.fresh (aq _))
def tyD:aj->String
 | .none => "NoneType"
 | .bool _ => "bool"
 | .int _ => "int"
 | .str _ => "str"
 | .list _ => "list"
 | .tuple _ => "tuple"
 | .dict _ => "dict"
def isD:aj->Bool
 | .dict _=>ak
 | _=>aF
def P0(K:aJ):List V->Hp->VK->Prop:=λxs H Q=>∃ x c d cv b,xs=[x,c]/\XY c=aa cv/\isD d=aF/\Rep K H x d/\bW K (.type (tyD d)) cv=aa b/\Q (.bl b) H
theorem JE:ZD X (.builtin "isinstance") (P0 X.K):=by
 intro L s U H xs us Q I r h
 obtain⟨x,c,d,m,b,rfl,Y,J,hd,e,q⟩:=h
 obtain⟨u,F,rfl,A,G⟩:=vals2 r
 rw[U1 Y G]
 have fin:∀ tk,EP X L U Q (.bool b) { s with toks:=tk }:=λtk=>⟨.bl b,H,I.tok tk,rfl,q⟩
 cases hd with
 | non=>cases (show u=bI from A);exact bv lu I.kIn bD e (λz=>nomatch z) fin
 | bl y=>cases (show u=gQ y from A);exact bv lw I.kIn bD e (λz=>nomatch z) fin
 | int i=>obtain⟨t,q'⟩:=(show ∃ t,u=f8 i t from A);cases q';exact bv lM I.kIn bD e (λz=>nomatch z) fin
 | str y=>obtain⟨t,q'⟩:=(show ∃ t,u=eZ y t from A);cases q';exact bv lK I.kIn bD e (λz=>nomatch z) fin
 | @lst a ys ds Z O =>
  cases (show u=aG a from A)
  obtain⟨f,T,p,_⟩:=I.list Z
  obtain⟨o,k1,k2,_⟩:=p.isList
  exact bv iR I.kIn ⟨o,k1,k2⟩ e (λz=>nomatch z) fin
 | @tup a ys ds Z O =>
  cases (show u=aG a from A)
  obtain⟨f,T,p,_⟩:=I.tuple (SqT.of Z)
  obtain⟨o,k1,k2,_⟩:=p
  exact bv k_ I.kIn ⟨o,k1,k2⟩ e (λz=>nomatch z) fin
 | exc _ _=>cases J
 | excF _ _ _ _=>cases J
 | dK _ _ _=>cases J
 | dT _ _ _=>cases J
 | dN _ _ _ _=>cases J
 | junk=>cases J
def XJ(K:aJ):List V->Hp->VK->Prop:=λxs H Q=>rIsi K xs H Q\/P0 K xs H Q
theorem Y3(h:X.K=K):ZD X (.builtin "isinstance") (XJ K):=h▸ZD.or Jm JE
theorem JF{Q:VK}{c:V}{d:aj}{b:Bool}(hd:Rep K H x d)(nd:isD d=aF)(Y:XY c=aa cv)(e:bW K (.type (tyD d)) cv=aa b)(q:Q (.bl b) H):XJ K [x,c] H Q:=.inr ⟨x,c,d,cv,b,rfl,Y,nd,hd,e,q⟩
variable{m:Nat}
theorem Enc.mono(E:Enc f n)(h:n<=m):Enc f m:=⟨E.eqv,E.lay,λa=>aT (E.dep a) h⟩
abbrev FK:=ag->Option ao->St->Hp->Prop
def toF(E:XK):FK:=λc d _ H=>E c d H
theorem S0(x:h.DictOf (ZS P w) a []):h.DictOfH (gE (ZS P w)) a []:=by
 obtain⟨o,es,f,B,F,Y,L,q,b⟩:=x
 refine⟨o,es,f,B,F,Y,?_,⟨λx z=>absurd z (by simp),nodup_nil⟩⟩
 generalize es.toList=l at q
 cases q
 rfl
theorem U4(x:h.DictOfH (gE (ZS P w)) a []):h.DictOf (ZS P w) a []:=by
 obtain⟨o,es,f,B,F,Y,L,q,b⟩:=x
 have e:es.toList=[]:=by simpa using L
 refine⟨o,es,f,B,F,Y,λk R=>?_,by rw[e];exact .nil,nodup_nil⟩
 have:k∈es.toList:=by simpa using R
 rw[e] at this
 exact nomatch this
theorem S1(x:Zx P w H h a (.dK [])):Zx P w H' h a (.dT []):=by
 obtain⟨Z,O,vs,rel,dd⟩:=x
 cases rel
 obtain⟨o,es,f,B,F,Y,L,_,q⟩:=S0 dd
 exact⟨Z,O,[],.nil,o,es,f,B,F,Y,L,q⟩
theorem U5(x:Zx P w H h a (.dT [])):Zx P w H' h a (.dK []):=by
 obtain⟨Z,O,xs,rel,o,es,f,B,F,Y,L,q⟩:=x
 cases rel
 exact⟨Z,O,[],.nil,U4 ⟨o,es,f,B,F,Y,L,⟨λx z=>absurd z (by simp),q⟩⟩⟩
def Xt(H:Hp)(b:ao)(k:Key×List Key):Prop:=∃ c,H b=aa (.tup [kV k.1,.ref c])/\H c=aa (.tup (k.2.map kV))
theorem X2{k:Key×List Key}(ok:HOk P w H h)(e:Xt H b k):(Wp (ZS P w)).is h k b:=by
 obtain⟨c,S,N⟩:=e
 obtain⟨_,f,r,o,Z,O,⟨n,B⟩,_⟩:=(show Zx P w H h b (.tup [kV k.1,.ref c]) from ok b _ S)
 cases r with
 | cons g r =>
  cases r with
  | cons G r =>
   cases r
   have G:_=aG c:=G
   subst G
   exact⟨o,_,n,_,c,Z,O,B,rfl,XF g,Xs ok N⟩
abbrev KN(H:Hp):List ((Key×List Key)×V)->List ((Key×List Key)×ao×ag)->Prop:=jD λp q=>p.1=q.1/\(∃ b,H q.2.1=aa (.tup [kV p.1.1,.ref b])/\H b=aa (.tup (p.1.2.map kV)))/\Zm p.2 q.2.2
variable{kvs:List ((Key×List Key)×V)}{xs:List ((Key×List Key)×ao×ag)}
theorem KN.val(r:KN H kvs xs)(k:Key×List Key):YK (Z2 kvs k) ((fk xs k).map (·.2)):=by
 induction r with
 | nil=>exact bD
 | @cons p q ps j h t E =>
  by_cases e:p.1=k
  ·have b:fk (q::j) k=aa q.2:=by simp[fk,dv,h.1.symm.trans e]
   rw[VN e,b];exact h.2.2
  ·have A:¬ q.1=k:=λz=>e (h.1.trans z)
   have b:fk (q::j) k=fk j k:=by simp[fk,dv,A]
   rw[VO e,b];exact E
theorem KN.put(r:KN H kvs xs)(k:Key×List Key){y:V}(hb:Xt H b k)(R:Zm y u):KN H (ZJ kvs k y) (kH xs k b u):=by
 have e:(kvs.any λa=>decide (a.1=k))=(fk xs k).isSome:=by
  rw[UR,(r.val k).isSome_eq,ek]
 unfold ZJ kH
 rw[e]
 by_cases q:(fk xs k).isSome=ak
 ·rw[if_pos q,if_pos q]
  clear e q
  induction r with
  | nil=>exact .nil
  | @cons p q ps j h t E =>
   rw[bw,bw]
   refine .cons ?_ E
   unfold putAt
   by_cases e:p.1=k
   ·rw[if_pos e,if_pos (h.1.symm.trans e)];exact⟨h.1,h.2.1,R⟩
   ·rw[if_neg e,if_neg (λz=>e (h.1.trans z))];exact h
 ·rw[if_neg q,if_neg q]
  exact js r ⟨rfl,hb,R⟩
theorem KN.keeps(r:KN H kvs xs)(l:∀ b ys,H b=aa (.tup ys)->H' b=aa (.tup ys)):KN H' kvs xs :=
 Paired.mapP r λ_ _ z=>⟨z.1,let ⟨b,i,M⟩:=z.2.1;⟨b,l _ _ i,l _ _ M⟩,z.2.2⟩
theorem W8(ok:HOk P w H h)(e:Rd H a (.dN kvs)):kvs.length<=sizeLine/\(a == cR)=aF/\∃ xs,KN H kvs xs/\h.DictOfH (Wp (ZS P w)) a xs:=by
 obtain⟨z,y,xs,r,o,es,f,Z,O,B,F,Y⟩:=(show Zx P w H h a (.dN kvs) from SM ok e)
 refine⟨z,y,xs,r,o,es,f,Z,O,B,F,λx W=>?_,Y⟩
 have all:∀ {l:List ((Key×List Key)×V)} {m:List ((Key×List Key)×ao×ag)},KN H l m->∀ x∈m,(Wp (ZS P w)).is h x.1 x.2.1:=by
  intro l m q
  induction q with
  | nil=>intro x W;exact nomatch W
  | @cons p q ps j b t E =>
   intro x W
   rcases gh.mp W with e|W
   ·subst e
    exact X2 ok (by rw[<- b.1];exact b.2.1)
   ·exact E x W
 exact all r x W
theorem S2(x:h.DictOf (ZS P w) a []):h.DictOfH (Wp (ZS P w)) a []:=by
 obtain⟨o,es,f,B,F,Y,L,q,b⟩:=x
 refine⟨o,es,f,B,F,Y,?_,⟨λx z=>absurd z (by simp),nodup_nil⟩⟩
 generalize es.toList=l at q
 cases q
 rfl
theorem P1(x:Zx P w H h a (.dK [])):Zx P w H' h a (.dN []):=by
 obtain⟨Z,O,vs,rel,dd⟩:=x
 cases rel
 obtain⟨o,es,f,B,F,Y,L,_,q⟩:=S2 dd
 exact⟨Z,O,[],.nil,o,es,f,B,F,Y,L,q⟩
theorem P2(ok:HOk P w H h)(e:Rd H a (.dK [])\/Rd H a (.dT [])):(a == cR)=aF/\h.DictOf (ZS P w) a []:=by
 rcases e with e|e
 ·obtain⟨z,hd,vs,rel,dd⟩:=Xr ok e
  cases rel
  exact⟨hd,dd⟩
 ·obtain⟨z,hd,vs,rel,dd⟩:=XG ok e
  cases rel
  exact⟨hd,U4 dd⟩
theorem W9(i:A.units+2<cJ):(Wp (ZS P w)).room A.in1:=⟨by show A.units+1<cJ;omega,by show A.units+1+1<cJ;omega⟩
def P3(H:Hp)(a:ao)(y:V)(r:Option V):Prop:=∃ kvs k b,Rd H a (.dN kvs)/\y=.ref b/\Xt H b k/\r=Z2 kvs k
def S3(H:Hp)(a:ao)(y:V)(r:Option V):Prop:=W1 H a y r\/P3 H a y r
def U6(H:Hp)(a:ao)(y:V)(r:Option V):Prop:=W1 H a y r\/(r=none/\(∃ k,y=kV k)/\Rd H a (.dT []))\/(r=none/\(∃ (k:List Key) (b:ao),y=.ref b/\H b=aa (.tup (k.map kV)))/\Rd H a (.dK []))\/P3 H a y r\/(r=none/\(∃ (k:Key×List Key) (b:ao),y=.ref b/\Xt H b k)/\(Rd H a (.dK [])\/Rd H a (.dT [])))
def Va(H:Hp)(a:ao)(y v:V)(H':Hp):Prop:=YU H a y v H'\/(∃ k,y=kV k/\H a=aa (.dT [])/\H'=upd H a (.dK [(k,v)]))\/(∃ (k:List Key) (b:ao),y=.ref b/\H b=aa (.tup (k.map kV))/\H a=aa (.dK [])/\H'=upd H a (.dT [(k,v)]))\/(∃ kvs k b,H a=aa (.dN kvs)/\y=.ref b/\Xt H b k/\kvs.length<sizeLine/\H'=upd H a (.dN (ZJ kvs k v)))\/(∃ (k:Key×List Key) (b:ao),y=.ref b/\Xt H b k/\(H a=aa (.dK [])\/H a=aa (.dT []))/\H'=upd H a (.dN [(k,v)]))
section
variable{σ:St}{y:V}{r:ag}{o:Option V}
theorem P4{k:Key×List Key}{Q:Unit->ar->Prop}(i:A.units+2<cJ)(I:'#')(e:H a=aa (.dN kvs))(S:Xt H b k)(l:kvs.length<sizeLine)(R:Zm (.ref b) u)(T:Zm v r)(h:∀ s',Inv X pins σ (upd H a (.dN (ZJ kvs k v))) s'->Q () s') :
  aw (aH X.prog X.w) A (my (.ref a) u r) Q E s:=by
 cases (show u=aG b from R)
 obtain⟨z,hd,xs,rel,dd⟩:=W8 I.hok (.inl e)
 have hz:xs.length<=sizeLine:=by rw[<- dw rel];exact z
 have D:(ZJ kvs k v).length<=sizeLine:=by have:=Wu kvs k v;omega
 refine nI (hsz:=hz) (W9 i) (X2 I.hok S) dd λh' j P=>h _ ?_
 obtain⟨q,es,f,m,O,B,F,_,Y⟩:=j
 refine YN I (by rw[e];exact bD) P ⟨q,m⟩ ⟨D,hd,_,(rel.put k S T).keeps λc ys C=>?_,q,es,f,m,O,B,F,Y⟩
 rw[Zg (Xm C e (λz=>nomatch z))]
 exact C
theorem JG{k:Key×List Key}(i:A.units+2<cJ)(I:'#')(e:Rd H a (.dN kvs))(S:Xt H b k)(l:aa v=Z2 kvs k)(R:Zm (.ref b) u)(h:∀ F s',Inv X pins σ H s'->Zm v F->Q F s') :
  aw (aH X.prog X.w) A (jR (.ref a) u) Q E s:=by
 cases (show u=aG b from R)
 obtain⟨z,hd,xs,rel,dd⟩:=W8 I.hok e
 obtain⟨F,c,J⟩:=YK.some_of (v:=v) (o:=(fk xs k).map (·.2)) (by rw[l];exact rel.val k)
 obtain⟨p,T,f⟩:=Option.map_eq_some_iff.mp c
 refine nJ (W9 i) (X2 I.hok S) dd T ?_
 rw[f]
 exact h F _ (I.tok _) J
theorem JH(i:A.units+2<cJ)(I:'#')(g:U6 H a y o)(R:Zm y u)(h:∀ s',Inv X pins σ H s'->Q (.bool o.isSome) s') :
  aw (aH X.prog X.w) A (bE .In u (.ref a)) Q E s:=by
 rcases g with g|⟨rfl,⟨k,rfl⟩,e⟩|⟨rfl,⟨k,b,rfl,eb⟩,e⟩|⟨kvs,k,b,e,rfl,eb,rfl⟩|⟨rfl,⟨k,b,rfl,eb⟩,e⟩
 ·exact d_in (by omega) I g R h
 ·obtain⟨z,hd,vs,rel,dd⟩:=XG I.hok e
  cases rel
  exact wpAny_in_of (XF R) hd (U4 dd).mapOf (h _ (I.tok _))
 ·obtain⟨z,hd,vs,rel,dd⟩:=Xr I.hok e
  cases rel
  cases (show u=aG b from R)
  exact jv (du (by omega)) (Xs I.hok eb) hd (S0 dd) (h _ (I.tok _))
 ·obtain⟨z,hd,xs,rel,dd⟩:=W8 I.hok e
  cases (show u=aG b from R)
  refine jv (W9 i) (X2 I.hok eb) hd dd ?_
  have q:=(rel.val k).isSome_eq
  rw[ek] at q
  rw[<- q]
  exact h _ (I.tok _)
 ·obtain⟨hd,dd⟩:=P2 I.hok e
  cases (show u=aG b from R)
  exact jv (W9 i) (X2 I.hok eb) hd (S2 dd) (h _ (I.tok _))
theorem JI(i:A.units+2<cJ)(I:'#')(g:U6 H a y o)(R:Zm y u)(h:∀ s',Inv X pins σ H s'->Q (.bool (!o.isSome)) s') :
  aw (aH X.prog X.w) A (bE .NotIn u (.ref a)) Q E s:=by
 rcases g with g|⟨rfl,⟨k,rfl⟩,e⟩|⟨rfl,⟨k,b,rfl,eb⟩,e⟩|⟨kvs,k,b,e,rfl,eb,rfl⟩|⟨rfl,⟨k,b,rfl,eb⟩,e⟩
 ·exact Jb (by omega) I g R h
 ·obtain⟨z,hd,vs,rel,dd⟩:=XG I.hok e
  cases rel
  exact wpAny_notIn_of (XF R) hd (U4 dd).mapOf (h _ (I.tok _))
 ·obtain⟨z,hd,vs,rel,dd⟩:=Xr I.hok e
  cases rel
  cases (show u=aG b from R)
  exact ih (du (by omega)) (Xs I.hok eb) hd (S0 dd) (h _ (I.tok _))
 ·obtain⟨z,hd,xs,rel,dd⟩:=W8 I.hok e
  cases (show u=aG b from R)
  refine ih (W9 i) (X2 I.hok eb) hd dd ?_
  have q:=(rel.val k).isSome_eq
  rw[ek] at q
  rw[<- q]
  exact h _ (I.tok _)
 ·obtain⟨hd,dd⟩:=P2 I.hok e
  cases (show u=aG b from R)
  exact ih (W9 i) (X2 I.hok eb) hd (S2 dd) (h _ (I.tok _))
theorem JJ{Q:Unit->ar->Prop}(i:A.units+2<cJ)(I:'#')(g:Va H a y v H')(R:Zm y u)(T:Zm v r)(h:∀ s',Inv X pins σ H' s'->Q () s') :
  aw (aH X.prog X.w) A (my (.ref a) u r) Q E s:=by
 have big:([]:List (Key×V)).length<sizeLine:=by decide
 have f:([]:List (List Key×V)).length<sizeLine:=by decide
 rcases g with g|⟨k,rfl,e,rfl⟩|⟨k,b,rfl,eb,e,rfl⟩|⟨kvs,k,b,e,rfl,eb,l,rfl⟩|⟨k,b,rfl,eb,e,rfl⟩
 ·exact SQ (by omega) I g R T h
 ·have x:=I.hok a _ e
  obtain⟨q,m⟩:∃ q,s.heap.get? a=aa q:=by obtain⟨_,_,_,_,q,_,_,m,_⟩:=x;exact⟨q,m⟩
  have J:Inv X pins σ (upd H a (.dK [])) s:=YN (t':=s.toks) I (by rw[e];exact bD) (cS a s.heap) ⟨q,m⟩ (U5 x)
  refine SQ (by omega) J (YU.k (k:=k) (v:=v) Zw big) R T λs' P=>h s' ?_
  rw[Wq] at P
  exact P
 ·have x:=I.hok a _ e
  obtain⟨q,m⟩:∃ q,s.heap.get? a=aa q:=by obtain⟨_,_,_,_,q,_,_,m,_⟩:=x;exact⟨q,m⟩
  have J:Inv X pins σ (upd H a (.dT [])) s:=YN (t':=s.toks) I (by rw[e];exact bD) (cS a s.heap) ⟨q,m⟩ (S1 x)
  refine SQ (by omega) J (YU.t (k:=k) (v:=v) Zw (by rw[Zg (Xm eb e (λz=>nomatch z))];exact eb) f) R T λs' P=>h s' ?_
  rw[Wq] at P
  exact P
 ·exact P4 i I e eb l R T h
 ·have x:Zx X.prog X.w H s.heap a (.dK []):=by
   rcases e with e|e
   ·exact I.hok a _ e
   ·exact U5 (I.hok a _ e)
  obtain⟨q,m⟩:∃ q,s.heap.get? a=aa q:=by obtain⟨_,_,_,_,q,_,_,m,_⟩:=x;exact⟨q,m⟩
  have mu:Mut (H a):=by rcases e with e|e<;>rw[e]<;>exact bD
  have J:Inv X pins σ (upd H a (.dN [])) s:=YN (t':=s.toks) I mu (cS a s.heap) ⟨q,m⟩ (P1 x)
  have p:∀ c ys,H c=aa (.tup ys)->upd H a (.dN []) c=aa (.tup ys):=λc ys C=>by
   rw[Zg (by rcases e with e|e<;>exact Xm C e (λz=>nomatch z))];exact C
  refine P4 i J Zw (let ⟨c,S,N⟩:=eb;⟨c,p _ _ S,p _ _ N⟩) (by decide) R T λs' P=>h s' ?_
  rw[Wq] at P
  exact P
end
def S4(neg:Bool):R2:=λx y H Q=>∃ a r,y=.ref a/\U6 H a x r/\Q (.bl (if neg then !r.isSome else r.isSome)) H
theorem JK(i:X.A.units+64<cJ):OpR X (bE .In) (S4 aF):=by
 intro L s U H x y v u Q I A R h
 obtain⟨a,r,rfl,g,q⟩:=h
 cases R
 exact JH (by omega) I g A λM J=>⟨.bl _,H,J,rfl,q⟩
theorem JL(i:X.A.units+64<cJ):OpR X (bE .NotIn) (S4 ak):=by
 intro L s U H x y v u Q I A R h
 obtain⟨a,r,rfl,g,q⟩:=h
 cases R
 exact JI (by omega) I g A λM J=>⟨.bl _,H,J,rfl,q⟩
def U7:R2:=λx y H Q=>∃ a v,x=.ref a/\S3 H a y (aa v)/\Q v H
theorem JM(i:X.A.units+64<cJ):IxR X U7:=by
 intro C E L s U H x y v u Q I A R h P
 obtain⟨a,F,rfl,g,q⟩:=h
 cases A
 have j:s.TypeIs (.ref a) "dict" := by
  rcases g with g|⟨kvs,k,b,e,_⟩
  ·exact Jd I g
  ·obtain⟨_,_,xs,_,o,es,f,Z,O,_⟩:=W8 I.hok e
   exact⟨o,Z,O.1⟩
 unfold lP
 refine ac ?_
 rw[getitemInPython_of_ne j.not_modules]
 refine ac (fb j PySem.F.slot_dict_getitem.lookup ?_)
 have fin:aw (aH X.prog X.w) X.A (mY E aF (.ref a) u) (λr s₃=>aw (aH X.prog X.w) X.A (letTemporaryGo C (.ref a) r >>= λ_=>ej r) (EP X L U Q) X.xe s₃) X.xe s:=by
  rw[P]
  rcases g with g|⟨kvs,k,b,e,rfl,eb,l⟩
  ·exact wpAny_operating (Ja (by omega) I g R λr M J c=>ac (mX (af ⟨F,H,J,c,q⟩)))
  ·exact wpAny_operating (JG (by omega) I e eb l R λr M J c=>ac (mX (af ⟨F,H,J,c,q⟩)))
 first
  | exact af (ac fin)
  | exact ac (af (ac fin))
  | exact ac fin
def JN:Vz:=λo i v H Q=>∃ a H',o=.ref a/\Va H a i v H'/\Q H'
def Vb:Vz:=λo i v H Q=>Pq o i v H Q\/JN o i v H Q
theorem VU(f:X.A.units+64<cJ):Su X Vb:=by
 intro L s U H o i v c e u Q I b w T h
 rcases h with h|⟨a,H',rfl,g,q⟩
 ·exact KP L s U H o i v c e u Q I b w T h
 ·cases b
  exact JJ (by omega) I g w T λM J=>⟨H',J,q⟩
section
variable [DecidableEq κ][DecidableEq α]
def ZA(kvs:List (α×β))(k:α):Option β:=(kvs.find? λkv=>decide (kv.1=k)).map (·.2)
def Z3(kvs:List (α×β))(k:α)(v:β):List (α×β):=if (ZA kvs k).isSome then kvs.map λkv=>if kv.1=k then (kv.1,v) else kv else kvs++[(k,v)]
end
def VV(d:aj)(es:List aj):Bool:=es.any λe=>cH e d
def S5(K:aJ)(neg:Bool):R2:=λx y H Q=>∃ d es,Rep K H x d/\(Rep K H y (.list es)\/Rep K H y (.tuple es))/\d.canLay0=ak/\cw es=ak/\d.depth<=32/\Q (.bl (if neg then !VV d es else VV d es)) H
theorem JO(hK:X.K=K)(i:X.A.units+64<cJ):OpR X (bE .In) (S5 K aF):=by
 subst hK
 intro L s U H x y v u Q I A R h
 obtain⟨d,es,Z,O,B,F,Y,q⟩:=h
 obtain⟨as,k1⟩:=Rep.reads I B Z A
 rcases O with O|O
 ·obtain⟨bs,k2⟩:=Rep.reads I (by simpa [bX] using F) O R
  exact SeqAt.in_list_reads k2 k1 F B (by omega) ⟨.bl _,H,I,rfl,q⟩
 ·obtain⟨bs,k2⟩:=Rep.reads I (by simpa [bX] using F) O R
  exact SeqAt.in_tuple_reads k2 k1 F B (by omega) ⟨.bl _,H,I,rfl,q⟩
theorem JP(hK:X.K=K)(i:X.A.units+64<cJ):OpR X (bE .NotIn) (S5 K ak):=by
 subst hK
 intro L s U H x y v u Q I A R h
 obtain⟨d,es,Z,O,B,F,Y,q⟩:=h
 obtain⟨as,k1⟩:=Rep.reads I B Z A
 rcases O with O|O
 ·obtain⟨bs,k2⟩:=Rep.reads I (by simpa [bX] using F) O R
  exact SeqAt.notIn_list_reads k2 k1 F B (by omega) ⟨.bl _,H,I,rfl,q⟩
 ·obtain⟨bs,k2⟩:=Rep.reads I (by simpa [bX] using F) O R
  exact SeqAt.notIn_tuple_reads k2 k1 F B (by omega) ⟨.bl _,H,I,rfl,q⟩
theorem S6{α:Type}[DecidableEq α]{f:α->aj}{m:Nat}(F:Enc f m)(c:α):∀ xs:List α,VV (f c) (xs.map f)=decide (c∈xs)
 | []=>by simp[VV]
 | x::xs=>by
  have E:=S6 F c xs
  unfold VV at E ⊢
  rw[bw,nq,E,F.dec]
  by_cases e:x=c
  ·subst e;simp
  ·have A:¬ c=x:=λz=>e z.symm
   simp[e,A]
theorem U8{α:Type}{f:α->aj}{m:Nat}(F:Enc f m):∀ xs:List α,cw (xs.map f)=ak
 | []=>by simp[cw]
 | x::xs=>by simp[cw,F.lay x,U8 F xs]
def rInS(neg:Bool):R2:=λx y H Q=>∃ i j,x=.str i/\y=.str j/\Q (.bl (if neg then !(!(eP j i 0 j.length 1).isEmpty) else !(eP j i 0 j.length 1).isEmpty)) H
def VW(K:aJ)(neg:Bool):R2:=λx y H Q=>S5 K neg x y H Q\/S4 neg x y H Q\/rInS neg x y H Q
theorem JQ(hK:X.K=K)(i:X.A.units+64<cJ):OpR X (bE .In) (VW K aF):=(JO hK i).or ((JK i).or Ke)
theorem VX(hK:X.K=K)(i:X.A.units+64<cJ):OpR X (bE .NotIn) (VW K ak):=(JP hK i).or ((JL i).or KU)
inductive AV where
 | d (x:aj)
 | own (xs:List AV)
 | tup (xs:List AV)
 | dic (kvs:List (aj×aj))
 | obj (φ:V->Hp->Prop)
inductive TV where
 | av (a:AV)
 | bor (x:aj)
 | raw (v:V)
abbrev Sl:=List (Option AV)
abbrev Fp:=ao->Nat
mutual
def AV.data:AV->aj
 | .d x=>x
 | .own xs=>.list (AV.datas xs)
 | .tup xs=>.tuple (AV.datas xs)
 | .dic kvs=>.dict kvs
 | .obj _=>dJ
def AV.datas:List AV->List aj
 | []=>[]
 | x::xs=>x.data::AV.datas xs
end
theorem AV.datas_map:∀ xs:List AV,AV.datas xs=xs.map AV.data
 | []=>rfl
 | x::xs=>by rw[AV.datas,AV.datas_map xs];rfl
def Yl(K:aJ)(G:Hp)(o:HO)(kvs:List (aj×aj)):Prop :=
 (∃ (ks:List (Key×V)) (ds:List aj),o=.dK ks/\Reps K G (ks.map be) ds/\kvs=(ks.map λp=>Zn p.1).zip ds) \/
 (∃ (ks:List (List Key×V)) (ds:List aj),o=.dT ks/\Reps K G (ks.map be) ds/\kvs=(ks.map λp=>aI (p.1.map Zn)).zip ds) \/
 ∃ (ks:List ((Key×List Key)×V)) (ds:List aj),ks≠[]/\o=.dN ks/\Reps K G (ks.map be) ds/\kvs=(ks.map λp=>aI [Zn p.1.1,.tuple (p.1.2.map Zn)]).zip ds
variable{G G':Hp}{kvs:List (aj×aj)}
theorem Yl.mono{o:HO}(h:Yl K G o kvs)(m:Zf G G'):Yl K G' o kvs:=by
 rcases h with⟨ks,ds,e,r,z⟩|⟨ks,ds,e,r,z⟩|⟨ks,ds,n,e,r,z⟩
 ·exact .inl ⟨ks,ds,e,r.same m,z⟩
 ·exact .inr (.inl ⟨ks,ds,e,r.same m,z⟩)
 ·exact .inr (.inr ⟨ks,ds,n,e,r.same m,z⟩)
theorem Yl.rep{o:HO}(h:Yl K G o kvs)(e:G a=aa o):Rep K G (.ref a) (.dict kvs):=by
 rcases h with⟨ks,ds,rfl,r,z⟩|⟨ks,ds,rfl,r,z⟩|⟨ks,ds,n,rfl,r,z⟩
 ·exact .dK (.inl e) r z
 ·exact .dT (.inl e) r z
 ·exact .dN n (.inl e) r z
def Mu:HO->Prop
 | .lst _=>True
 | .dK _=>True
 | .dT _=>True
 | .dN _=>True
 | _=>False
theorem Yl.mu{o:HO}(h:Yl K G o kvs):Mu o:=by
 rcases h with⟨ks,ds,rfl,_⟩|⟨ks,ds,rfl,_⟩|⟨ks,ds,_,rfl,_⟩<;>trivial
mutual
inductive RA(K:aJ)(G H:Hp):V->AV->Fp->Prop
 | d {v:V} {x:aj} {p:Fp}:Rep K G v x->(∀ b,p b=0)->RA K G H v (.d x) p
 | own {a:ao} {vs:List V} {xs:List AV} {p q:Fp}:H a=aa (.lst vs)->RAs K G H vs xs p->(∀ b,q b=(if b=a then 1 else 0)+p b)->RA K G H (.ref a) (.own xs) q
 | tup {a:ao} {vs:List V} {xs:List AV} {p:Fp}:G a=aa (.tup vs)->RAs K G H vs xs p->RA K G H (.ref a) (.tup xs) p
 | dic {a:ao} {o:HO} {kvs:List (aj×aj)} {q:Fp}:H a=aa o->Yl K G o kvs->(∀ b,q b=if b=a then 1 else 0)->RA K G H (.ref a) (.dic kvs) q
 | obj {v:V} {φ:V->Hp->Prop} {p:Fp}:φ v G->(∀ G1 G2:Hp,Zf G1 G2->φ v G1->φ v G2)->(∀ b,p b=0)->RA K G H v (.obj φ) p
inductive RAs(K:aJ)(G H:Hp):List V->List AV->Fp->Prop
 | nil {p:Fp}:(∀ b,p b=0)->RAs K G H [] [] p
 | cons {v:V} {x:AV} {vs:List V} {xs:List AV} {p q r:Fp}:RA K G H v x p->RAs K G H vs xs q->(∀ b,r b=p b+q b)->RAs K G H (v::vs) (x::xs) r
end
theorem RA.ind{M:V->AV->Fp->Prop}{N:List V->List AV->Fp->Prop}(h1:∀ {v x p},Rep K G v x->(∀ b,p b=0)->M v (.d x) p)(O:∀ {a vs xs p q},H a=aa (.lst vs)->N vs xs p->(∀ b,q b=(if b=a then 1 else 0)+p b)->M (.ref a) (.own xs) q)
  (B:∀ {a vs xs p},G a=aa (.tup vs)->N vs xs p->M (.ref a) (.tup xs) p) (F:∀ {a o kvs q},H a=aa o->Yl K G o kvs->(∀ b,q b=if b=a then 1 else 0)->M (.ref a) (.dic kvs) q) (Y:∀ {v φ p},φ v G->(∀ G1 G2:Hp,Zf G1 G2->φ v G1->φ v G2)->(∀ b,p b=0)->M v (.obj φ) p)
  (n:∀ {p},(∀ b,p b=0)->N [] [] p) (c:∀ {v x vs xs p q r},M v x p->N vs xs q->(∀ b,r b=p b+q b)->N (v::vs) (x::xs) r):(∀ {v a p},RA K G H v a p->M v a p)/\∀ {vs xs p},RAs K G H vs xs p->N vs xs p :=
 ⟨λh=>RA.rec (motive_1:=λv a p _=>M v a p) (motive_2:=λv a p _=>N v a p) h1 (λh _ e i=>O h i e) (λh _ i=>B h i) F Y n (λ_ _ e i j=>c i j e) h,λh=>RAs.rec (motive_1:=λv a p _=>M v a p) (motive_2:=λv a p _=>N v a p) h1 (λh _ e i=>O h i e) (λh _ i=>B h i) F Y n (λ_ _ e i j=>c i j e) h⟩
inductive RSl(K:aJ)(G H:Hp):St->Sl->Fp->Prop
 | nil {p:Fp}:(∀ b,p b=0)->RSl K G H [] [] p
 | no {o:Option V} {σ:St} {ρ:Sl} {p:Fp}:RSl K G H σ ρ p->RSl K G H (o::σ) (none::ρ) p
 | so {v:V} {a:AV} {σ:St} {ρ:Sl} {p q r:Fp}:RA K G H v a p->RSl K G H σ ρ q->(∀ b,r b=p b+q b)->RSl K G H (aa v::σ) (aa a::ρ) r
inductive RT(K:aJ)(G H:Hp):V->TV->Fp->Prop
 | av {v:V} {a:AV} {p:Fp}:RA K G H v a p->RT K G H v (.av a) p
 | bor {v:V} {x:aj} {p:Fp}:Rep K H v x->(∀ b,p b=0)->RT K G H v (.bor x) p
 | raw {v:V} {p:Fp}:(∀ b,p b=0)->RT K G H v (.raw v) p
inductive RTs(K:aJ)(G H:Hp):List V->List TV->Fp->Prop
 | nil {p:Fp}:(∀ b,p b=0)->RTs K G H [] [] p
 | cons {v:V} {x:TV} {vs:List V} {xs:List TV} {p q r:Fp}:RT K G H v x p->RTs K G H vs xs q->(∀ b,r b=p b+q b)->RTs K G H (v::vs) (x::xs) r
def hid(H:Hp)(p q:Fp):Hp:=λb=>if p b+q b=0 then H b else none
structure SR(K:aJ)(H0:Hp)(σ:St)(ρ:Sl)(ts:List V)(as:List TV)(H:Hp):Prop where
 ex:∃ p q,RSl K (hid H p q) H σ ρ p/\RTs K (hid H p q) H ts as q/\(∀ b,p b+q b<=1)/\∀ b,0<p b+q b->H0 b=none
 same:Zf H0 H
variable{p q p' q':Fp}{H0:Hp}{ρ:Sl}{xs:List AV}{ts:List V}{as:List TV}
section
variable{σ:St}
theorem RA.monoB(O:Zf G G'):(∀ {v:V} {a:AV} {p:Fp},RA K G H v a p->(∀ b o,0<p b->H b=aa o->H' b=aa o)->RA K G' H' v a p)/\∀ {vs:List V} {xs:List AV} {p:Fp},RAs K G H vs xs p->(∀ b o,0<p b->H b=aa o->H' b=aa o)->RAs K G' H' vs xs p :=
 RA.ind (M:=λv a p=>(∀ b o,0<p b->H b=aa o->H' b=aa o)->RA K G' H' v a p) (N:=λvs xs p=>(∀ b o,0<p b->H b=aa o->H' b=aa o)->RAs K G' H' vs xs p) (λr e _=>.d (r.same O) e) (λ{a _ _ _ _} h i e c=>.own (c a _ (by have:=e a;simp at this;omega) h) (i λb o z=>c b o (by have:=e b;omega)) e)
  (λh i c=>.tup (O _ _ h) (i c)) (λ{a _ _ _} h d e c=>.dic (c a _ (by have:=e a;simp at this;omega) h) (d.mono O) e) (λh m e _=>.obj (m _ _ O h) m e) (λe _=>.nil e) λi j e c=>.cons (i λb o z=>c b o (by have:=e b;omega)) (j λb o z=>c b o (by have:=e b;omega)) e
theorem RA.mono(O:Zf G G'){a:AV}(c:∀ b o,0<p b->H b=aa o->H' b=aa o)(h:RA K G H v a p):RA K G' H' v a p:=(RA.monoB O).1 h c
theorem RAs.mono(O:Zf G G')(c:∀ b o,0<p b->H b=aa o->H' b=aa o)(h:RAs K G H vs xs p):RAs K G' H' vs xs p:=(RA.monoB O).2 h c
theorem RA.lstB:(∀ {v:V} {a:AV} {p:Fp},RA K G H v a p->∀ b,0<p b->∃ o,H b=aa o/\Mu o)/\∀ {vs:List V} {xs:List AV} {p:Fp},RAs K G H vs xs p->∀ b,0<p b->∃ o,H b=aa o/\Mu o:=by
 refine RA.ind (M:=λv a p=>∀ b,0<p b->∃ o,H b=aa o/\Mu o) (N:=λvs xs p=>∀ b,0<p b->∃ o,H b=aa o/\Mu o) (λr e b z=>absurd (e b) (bt z)) (λ{a vs xs p q} h i e b z=>?_) (λh i b z=>i b z) (λ{a o kvs q} h d e b z=>?_) (λ_ _ e b z=>absurd (e b) (bt z)) (λe b z=>absurd (e b) (bt z)) λ{v x vs xs p q r} i j e b z=>?_
 ·by_cases c:b=a
  ·subst c;exact⟨_,h,trivial⟩
  ·exact i b (by have:=e b;simp[c] at this;omega)
 ·by_cases c:b=a
  ·subst c;exact⟨_,h,d.mu⟩
  ·have:=e b;simp[c] at this;omega
 ·have:=e b
  rcases aX (p b) with h|h
  ·exact j b (by omega)
  ·exact i b h
theorem RA.lst{v:V}{a:AV}{p:Fp}(h:RA K G H v a p):∀ b,0<p b->∃ o,H b=aa o/\Mu o:=RA.lstB.1 h
theorem RAs.lst{vs:List V}{xs:List AV}{p:Fp}(h:RAs K G H vs xs p):∀ b,0<p b->∃ o,H b=aa o/\Mu o:=RA.lstB.2 h
theorem RSl.mono(O:Zf G G'){p:Fp}(r:RSl K G H σ ρ p):(∀ b o,0<p b->H b=aa o->H' b=aa o)->RSl K G' H' σ ρ p:=by
 induction r with
 | nil e=>exact λ_=>.nil e
 | no _ E=>exact λh=>.no (E h)
 | so r _ e E=>exact λh=>.so (r.mono O (λb o z=>h b o (by have:=e b;omega))) (E λb o z=>h b o (by have:=e b;omega)) e
theorem RSl.lst{p:Fp}(r:RSl K G H σ ρ p):∀ b,0<p b->∃ o,H b=aa o/\Mu o:=by
 induction r with
 | nil e=>intro b z;have:=e b;omega
 | no _ E=>exact E
 | @so v a σ ρ J l g r _ e E =>
  intro b z
  have:=e b
  rcases aX (J b) with h|h
  ·exact E b (by omega)
  ·exact r.lst b h
theorem RT.mono{v:V}{a:TV}{p:Fp}(O:Zf G G')(c:Zf H H')(r:RT K G H v a p):RT K G' H' v a p:=by
 cases r with
 | av r=>exact .av (r.mono O λb o _=>c b o)
 | bor r e=>exact .bor (r.same c) e
 | raw e=>exact .raw e
theorem RT.lst{v:V}{a:TV}{p:Fp}(r:RT K G H v a p):∀ b,0<p b->∃ o,H b=aa o/\Mu o:=by
 cases r with
 | av r=>exact r.lst
 | bor r e=>intro b z;have:=e b;omega
 | raw e=>intro b z;have:=e b;omega
theorem RTs.mono{p:Fp}(O:Zf G G')(c:Zf H H')(r:RTs K G H ts as p):RTs K G' H' ts as p:=by
 induction r with
 | nil e=>exact .nil e
 | cons r _ e E=>exact .cons (r.mono O c) E e
theorem RTs.lst{p:Fp}(r:RTs K G H ts as p):∀ b,0<p b->∃ o,H b=aa o/\Mu o:=by
 induction r with
 | nil e=>intro b z;have:=e b;omega
 | @cons v x vs xs J l g r _ e E =>
  intro b z
  have:=e b
  rcases aX (J b) with h|h
  ·exact E b (by omega)
  ·exact r.lst b h
def Stb(as:List TV):Prop:=∀ a∈as,∃ x,a=.av (.d x)
theorem Stb.nil:Stb []:=λ_ h=>nomatch h
theorem Stb.cons{x:aj}(h:Stb as):Stb (.av (.d x)::as):=λb M=>by
 rcases gh.mp M with e|e
 ·exact⟨x,e⟩
 ·exact h b e
theorem RTs.monoS(O:Zf G G')(r:RTs K G H ts as p):Stb as->(∀ b o,0<p b->H b=aa o->H' b=aa o)->RTs K G' H' ts as p:=by
 induction r with
 | nil e=>exact λ_ _=>.nil e
 | cons r _ e E =>
  intro C c
  refine .cons ?_ (E (λa m=>C a (.tail _ m)) λb o z=>c b o (by have:=e b;omega)) e
  cases r with
  | av r=>exact .av (r.mono O λb o z=>c b o (by have:=e b;omega))
  | bor _ _=>obtain⟨x,e⟩:=C _ (.head _);cases e
  | raw e=>exact .raw e
theorem Wy(h:Zf H H'):Zf (hid H p q) (hid H' p q):=λb o e=>by
 unfold hid at e ⊢
 split at e
 ·rename_i z;rw[if_pos z];exact h b o e
 ·cases e
theorem Yh:Zf (hid H p q) H:=λb o e=>by
 unfold hid at e
 split at e
 ·exact e
 ·cases e
theorem hid_more(h:∀ b,p b+q b=0->p' b+q' b=0):Zf (hid H p q) (hid H p' q'):=λb o e=>by
 unfold hid at e ⊢
 split at e
 ·rename_i z;rw[if_pos (h b z)];exact e
 ·cases e
theorem JR(h:∀ b,p b+q b=p' b+q' b):hid H p q=hid H p' q':=by
 funext b;unfold hid;rw[h b]
theorem SR.ext(h:'!' ts as H)(e:Zf H H'):'!' ts as H':=by
 obtain⟨⟨p,q,Z,O,B,F⟩,s⟩:=h
 exact⟨⟨p,q,Z.mono (Wy e) (λb o _=>e b o),O.mono (Wy e) e,B,F⟩,s.trans e⟩
theorem P5{xs:List V}(D:∀ b,0<p b+q b->∃ o,H b=aa o/\Mu o)(h:H a=aa (.tup xs)):L2.hid H p q a=aa (.tup xs):=by
 unfold L2.hid
 rw[if_pos]
 ·exact h
 ·rcases aX (p a+q a) with z|z
  ·exact z
  ·obtain⟨vs,e,mu⟩:=D a z;rw[h] at e;cases e;exact mu.elim
theorem Rep.hidB(D:∀ b,0<p b+q b->∃ o,H b=aa o/\Mu o):(∀ {v:V} {x:aj},Rep K H v x->ZH x=ak->Rep K (L2.hid H p q) v x)/\∀ {vs:List V} {xs:List aj},Reps K H vs xs->noLsts xs=ak->Reps K (L2.hid H p q) vs xs :=
 Rep.indF (M:=λv x=>ZH x=ak->Rep K (L2.hid H p q) v x) (N:=λvs xs=>noLsts xs=ak->Reps K (L2.hid H p q) vs xs) (λ_=>.non) (λb _=>.bl b) (λi _=>.int i) (λx _=>.str x) (λ_ _ g=>by simp[ZH] at g) (λh i g=>.tup (P5 D h) (i (by simpa [ZH] using g))) (λ_ _ g=>by simp[ZH] at g) (λ_=>.nil) λi j g=>by
  simp only[noLsts,aP] at g
  exact .cons (i g.1) (j g.2)
theorem Rep.hid{p q:Fp}(D:∀ b,0<p b+q b->∃ o,H b=aa o/\Mu o){v:V}{x:aj}(hn:ZH x=ak)(h:Rep K H v x):Rep K (L2.hid H p q) v x:=(Rep.hidB D).1 h hn
theorem Reps.hid{p q:Fp}(D:∀ b,0<p b+q b->∃ o,H b=aa o/\Mu o){vs:List V}{xs:List aj}(hn:noLsts xs=ak)(h:Reps K H vs xs):Reps K (L2.hid H p q) vs xs:=(Rep.hidB D).2 h hn
theorem RA.frzB(O:Zf G G'):(∀ {v:V} {a:AV} {p:Fp},RA K G H v a p->(∀ b o,0<p b->H b=aa o->G' b=aa o)->Rep K G' v a.data)/\∀ {vs:List V} {xs:List AV} {p:Fp},RAs K G H vs xs p->(∀ b o,0<p b->H b=aa o->G' b=aa o)->Reps K G' vs (AV.datas xs) :=
 RA.ind (M:=λv a p=>(∀ b o,0<p b->H b=aa o->G' b=aa o)->Rep K G' v a.data) (N:=λvs xs p=>(∀ b o,0<p b->H b=aa o->G' b=aa o)->Reps K G' vs (AV.datas xs)) (λr _ _=>r.same O) (λ{a _ _ _ _} e i z h=>.lst (SqL.of (h a _ (by have:=z a;simp at this;omega) e)) (i λb o y=>h b o (by have:=z b;omega)))
  (λe i h=>.tup (O _ _ e) (i h)) (λ{a _ _ _} e d z h=>(d.mono O).rep (h a _ (by have:=z a;simp at this;omega) e)) (λ_ _ _ _=>.junk) (λ_ _=>.nil) λi j z h=>.cons (i λb o y=>h b o (by have:=z b;omega)) (j λb o y=>h b o (by have:=z b;omega))
theorem RA.frz(O:Zf G G'){v:V}{a:AV}{p:Fp}(c:∀ b o,0<p b->H b=aa o->G' b=aa o)(h:RA K G H v a p):Rep K G' v a.data:=(RA.frzB O).1 h c
theorem RAs.frz(O:Zf G G'){vs:List V}{xs:List AV}{p:Fp}(c:∀ b o,0<p b->H b=aa o->G' b=aa o)(h:RAs K G H vs xs p):Reps K G' vs (AV.datas xs):=(RA.frzB O).2 h c
theorem RA.rep(O:Zf G H){a:AV}(h:RA K G H v a p):Rep K H v a.data:=h.frz O λ_ _ _ z=>z
theorem RAs.rep(O:Zf G H)(h:RAs K G H vs xs p):Reps K H vs (AV.datas xs):=h.frz O λ_ _ _ z=>z
def TV.data:TV->aj
 | .av a=>a.data
 | .bor x=>x
 | .raw _=>.none
theorem RT.rep{v:V}{a:TV}{p:Fp}(O:Zf G H)(J:∀ v,a≠.raw v)(r:RT K G H v a p):Rep K H v a.data:=by
 cases r with
 | av r=>exact r.rep O
 | bor r _=>exact r
 | raw _=>exact absurd rfl (J _)
end
structure Exc where
 cls:ao
 fs:List (aQ×aj):=[]
def U9(K:aJ)(H:Hp)(e:Exc)(c:ag)(d:Option ao):Prop :=
 c=.ref e.cls/\((e.fs=[]/\d=none)\/∃ a vs,d=aa a/\H a=aa (hXD a vs)/\vs.map gq=e.fs.map gq/\Reps K H (vs.map be) (e.fs.map be))
class Tabs where
 ts:List (ao×(Nat->Nat->aQ))
variable [Tabs]
def XL(H:Hp):Prop:=∀ p∈Tabs.ts,H p.1=aa (.tbq p.2)
theorem XL.same(t:XL H)(s:Zf H H'):XL H':=λp T=>s _ _ (t p T)
structure XOk(K:aJ)(E:FK)(X:Exc->Sl->Prop)(H0:Hp):Prop where
 x:∀ e ρ,X e ρ->∀ c d σ H','!' [] [] H'->U9 K H' e c d->E c d σ H'
 t:XL H0
def NE:Exc->Sl->Prop:=λ_ _=>False
theorem XOk.ne{E:FK}(t:XL H0):XOk K E NE H0:=⟨λ_ _ z=>z.elim,t⟩
structure VEnds where
 nx:Sl->Prop
 rt:TV->Prop
 bk:Sl->Prop:=λ_=>False
 ct:Sl->Prop:=λ_=>False
structure Fit(K:aJ)(H0:Hp)(ts:List V)(as:List TV)(DV:VEnds)(D:Ends):Prop where
 nx:∀ ρ,DV.nx ρ->∀ σ H,'!' ts as H->D.nx σ H
 bk:∀ ρ,DV.bk ρ->∀ σ H,'!' ts as H->D.bk σ H
 ct:∀ ρ,DV.ct ρ->∀ σ H,'!' ts as H->D.ct σ H
 rt:∀ a,DV.rt a->∀ v σ ρ H,'!' (v::ts) (a::as) H->D.rt v H
def TV.sto:TV->Option AV
 | .av a=>aa a
 | .bor x=>if ZH x=ak then aa (.d x) else none
 | .raw _=>none
section
variable (K:aJ)(E:FK)(X:Exc->Sl->Prop)
def Ev(t:TE)(ρ:Sl)(Q:TV->Prop):Prop :=
 ∀ (H0:Hp) (σ:St) (ts:List V) (as:List TV) (H:Hp) (QV:VK),'!' ts as H->XOk K E X H0->(∀ a,Q a->∀ v H','!' (v::ts) (a::as) H'->QV v H')->t σ H QV
def Tv(t:TT)(ρ:Sl)(Q:Bool->Prop):Prop :=
 ∀ (H0:Hp) (σ:St) (ts:List V) (as:List TV) (H:Hp) (QV:Bool->Hp->Prop),'!' ts as H->XOk K E X H0->(∀ b,Q b->∀ H','!' ts as H'->QV b H')->t σ H QV
def Ea(t:TA)(ρ:Sl)(Q:List TV->Prop):Prop :=
 ∀ (H0:Hp) (σ:St) (ts:List V) (as:List TV) (H:Hp) (QV:List V->Hp->Prop),'!' ts as H->XOk K E X H0->(∀ bs,Q bs->∀ vs H','!' (vs++ts) (bs++as) H'->vs.length=bs.length->QV vs H')->t σ H QV
def Op(r:R2)(a b:TV)(Q:TV->Prop):Prop :=
 ∀ (H0:Hp) (σ:St) (ρ:Sl) (ts:List V) (as:List TV) (H:Hp) (x y:V) (QV:VK),'!' (y::x::ts) (b::a::as) H->XOk K E X H0->(∀ c,Q c->∀ v H','!' (v::ts) (c::as) H'->QV v H')->r x y H QV
def Un1(r:V->Hp->VK->Prop)(a:TV)(Q:TV->Prop):Prop :=
 ∀ (H0:Hp) (σ:St) (ρ:Sl) (ts:List V) (as:List TV) (H:Hp) (x:V) (QV:VK),'!' (x::ts) (a::as) H->XOk K E X H0->(∀ c,Q c->∀ v H','!' (v::ts) (c::as) H'->QV v H')->r x H QV
def Bi(r:List V->Hp->VK->Prop)(bs:List TV)(Q:TV->Prop):Prop :=
 ∀ (H0:Hp) (σ:St) (ρ:Sl) (ts:List V) (as:List TV) (H:Hp) (vs:List V) (QV:VK),'!' (vs++ts) (bs++as) H->vs.length=bs.length->XOk K E X H0->(∀ c,Q c->∀ v H','!' (v::ts) (c::as) H'->QV v H')->r vs H QV
def Sv(t:TS)(ρ:Sl)(DV:VEnds):Prop :=
 ∀ (H0:Hp) (σ:St) (ts:List V) (as:List TV) (H:Hp) (D:Ends),Stb as->'!' ts as H->XOk K E X H0->Fit K H0 ts as DV D->t D σ H
end
variable{a b:TV}{u:TS}{i:Nat}
section
variable{σ:St}{y:V}
theorem SR.top(h:'!' (v::ts) (a::as) H)(J:∀ v,a≠.raw v):Rep K H v a.data:=by
 obtain⟨⟨p,q,_,O,_⟩,_⟩:=h
 cases O with
 | cons r _ _=>exact r.rep Yh J
theorem SR.top_d{x:aj}(h:'!' (v::ts) (.av (.d x)::as) H):Rep K H v x:=h.top (a:=.av (.d x)) (λ_ z=>nomatch z)
theorem SR.raw{u:V}(h:'!' (v::ts) (.raw u::as) H):v=u:=by
 obtain⟨⟨p,q,_,O,_⟩,_⟩:=h
 cases O with
 | cons r _ _=>cases r;rfl
theorem SR.pop(h:'!' (v::ts) (a::as) H):'!' ts as H:=by
 obtain⟨⟨p,q,Z,O,B,F⟩,s⟩:=h
 cases O with
 | @cons _ _ _ _ J l _ r rs e =>
  refine⟨⟨p,l,Z.mono (hid_more λb z=>by have:=e b;omega) (λ_ _ _ z=>z),rs.mono (hid_more λb z=>by have:=e b;omega) (λ_ _ z=>z),λb=>by have:=e b;have:=B b;omega,λb z=>F b (by have:=e b;omega)⟩,s⟩
theorem SR.push(h:'!' ts as H){x:aj}(r:∀ G,Rep K G v x):'!' (v::ts) (.av (.d x)::as) H:=by
 obtain⟨⟨p,q,Z,O,B,F⟩,s⟩:=h
 exact⟨⟨p,q,Z,.cons (.av (.d (p:=λ_=>0) (r _) λ_=>rfl)) O (λb=>by simp),B,F⟩,s⟩
theorem SR.pushB(h:'!' ts as H){x:aj}(r:Rep K H v x):'!' (v::ts) (.bor x::as) H:=by
 obtain⟨⟨p,q,Z,O,B,F⟩,s⟩:=h
 exact⟨⟨p,q,Z,.cons (.bor (p:=λ_=>0) r λ_=>rfl) O (λb=>by simp),B,F⟩,s⟩
theorem SR.pushR(h:'!' ts as H):'!' (v::ts) (.raw v::as) H:=by
 obtain⟨⟨p,q,Z,O,B,F⟩,s⟩:=h
 exact⟨⟨p,q,Z,.cons (.raw (p:=λ_=>0) λ_=>rfl) O (λb=>by simp),B,F⟩,s⟩
theorem SR.lsts(h1:RSl K G H σ ρ p)(O:RTs K G H ts as q):∀ b,0<p b+q b->∃ o,H b=aa o/\Mu o:=λb z=>by
 rcases aX (p b) with e|e
 ·exact O.lst b (by omega)
 ·exact h1.lst b e
theorem SR.pushF(h:'!' ts as H){x:aj}(W:ZH x=ak)(r:Rep K H v x):'!' (v::ts) (.av (.d x)::as) H:=by
 obtain⟨⟨p,q,Z,O,B,F⟩,s⟩:=h
 exact⟨⟨p,q,Z,.cons (.av (.d (p:=λ_=>0) (Rep.hid (SR.lsts Z O) W r) λ_=>rfl)) O (λb=>by simp),B,F⟩,s⟩
theorem SR.int(h:'!' ts as H)(i:Int):'!' (.int i::ts) (.av (.d (.int i))::as) H:=h.push λ_=>.int i
theorem SR.bl(h:'!' ts as H)(i:Bool):'!' (.bl i::ts) (.av (.d (.bool i))::as) H:=h.push λ_=>.bl i
theorem SR.sto{Q:AV}(h:'!' (v::ts) (a::as) H)(e:a.sto=aa Q):'!' (v::ts) (.av Q::as) H:=by
 cases a with
 | av a=>cases e;exact h
 | raw u=>cases e
 | bor x =>
  unfold TV.sto at e
  by_cases z:ZH x=ak
  ·simp only[z,if_true,Option.some.injEq] at e
   subst e
   exact h.pop.pushF z (h.top (a:=.bor x) λ_ z=>nomatch z)
  ·simp[z] at e
theorem SR.frzT{a:AV}(h:'!' (v::ts) (.av a::as) H):'!' (v::ts) (.av (.d a.data)::as) H:=by
 obtain⟨⟨p,q,Z,O,B,F⟩,s⟩:=h
 cases O with
 | @cons _ _ _ _ J l _ r rs e =>
  cases r with
  | av r =>
   have m:Zf (hid H p q) (hid H p l):=hid_more λb z=>by have:=e b;omega
   refine⟨⟨p,l,Z.mono m (λ_ _ _ z=>z),.cons (.av (.d (p:=λ_=>0) (r.frz m λb o y z=>?_) λ_=>rfl)) (rs.mono m λ_ _ z=>z) (λb=>by simp),λb=>by have:=e b;have:=B b;omega,λb z=>F b (by have:=e b;omega)⟩,s⟩
   unfold hid
   rw[if_pos (by have:=e b;have:=B b;omega)]
   exact z
theorem RSl.frz{i:Nat}{a:AV}{p:Fp}{ρ:Sl}{σ:St}(r:RSl K G H σ ρ p)(hi:ρ[i]?=aa (aa a))(T:∀ b o,0<p b->H b=aa o->True) :
  ∃ (p1 p2:Fp) (v:V),(∀ b,p b=p1 b+p2 b)/\σ[i]?=aa (aa v)/\RA K G H v a p1/\∀ (G' H':Hp) (C:V) (Q:AV) (c r':Fp),Zf G G'->(∀ b o,0<p2 b->H b=aa o->H' b=aa o)->RA K G' H' C Q c->(∀ b,r' b=c b+p2 b)->RSl K G' H' (σ.set i (aa C)) (ρ.set i (aa Q)) r':=by
 induction r generalizing i with
 | nil _=>simp at hi
 | @no o σ ρ p r E =>
  cases i with
  | zero=>simp at hi
  | succ i =>
   obtain⟨p1,p2,v,S,N,L,A⟩:=E (by simpa using hi) (λ_ _ _ _=>trivial)
   exact⟨p1,p2,v,S,by simpa using N,L,λG' H' C Q c r' m n l z=>.no (A G' H' C Q c r' m n l z)⟩
 | @so v j σ ρ f h q l r e E =>
  cases i with
  | zero =>
   have:j=a:=by simpa using hi
   subst this
   exact⟨f,h,v,e,rfl,l,λG' H' C Q c r' m n g z=>.so g (r.mono m n) z⟩
  | succ i =>
   obtain⟨p1,p2,w,S,N,L,A⟩:=E (by simpa using hi) (λ_ _ _ _=>trivial)
   refine⟨p1,λb=>f b+p2 b,w,λb=>by have:=e b;have:=S b;dsimp only;omega,by simpa using N,L,λG' H' C Q c r' m n g z=>?_⟩
   exact .so (l.mono m λb o y=>n b o (by dsimp only;omega)) (A G' H' C Q c (λb=>c b+p2 b) m (λb o y=>n b o (by dsimp only;omega)) g λ_=>rfl) (λb=>by have:=z b;dsimp only at this ⊢;omega)
theorem VY{α:Type}:∀ {l:List α} {i:Nat} {x:α},l[i]?=aa x->l.set i x=l
 | [],_,_,h=>by simp at h
 | y::l,0,x,h=>by simp at h;simp[h]
 | y::l,i+1,x,h=>by simp at h;simp[VY h]
theorem SR.frz{i:Nat}{a:AV}(h:'!' ts as H)(hi:ρ[i]?=aa (aa a)):SR K H0 σ (ρ.set i (aa (.d a.data))) ts as H:=by
 obtain⟨⟨p,q,Z,O,B,F⟩,s⟩:=h
 obtain⟨J,Y,w,S,N,L,A⟩:=Z.frz hi λ_ _ _ _=>trivial
 have m:Zf (hid H p q) (hid H Y q):=hid_more λb z=>by have:=S b;omega
 have z:=A (hid H Y q) H w (.d a.data) (λ_=>0) Y m (λ_ _ _ z=>z) (.d (L.frz m λb o y z=>by
  unfold hid
  rw[if_pos (by have:=S b;have:=B b;omega)]
  exact z) λ_=>rfl) (λb=>by simp)
 rw[VY N] at z
 exact⟨⟨Y,q,z,O.mono m (λ_ _ z=>z),λb=>by have:=S b;have:=B b;omega,λb z=>F b (by have:=S b;omega)⟩,s⟩
theorem RSl.len(r:RSl K G H σ ρ p):σ.length=ρ.length:=by
 induction r with
 | nil _=>rfl
 | no _ E=>simp[E]
 | so _ _ _ E=>simp[E]
theorem RSl.set{i:Nat}{w:V}{a:AV}{p p1:Fp}(r:RSl K G H σ ρ p)(hi:i<ρ.length)(l:RA K G H w a p1):∃ p2:Fp,(∀ b,p2 b<=p b)/\RSl K G H (σ.set i (aa w)) (ρ.set i (aa a)) (λb=>p1 b+p2 b):=by
 induction r generalizing i with
 | nil _=>simp at hi
 | @no o σ ρ p r E =>
  cases i with
  | zero=>exact⟨p,λ_=>aq _,.so l r λ_=>rfl⟩
  | succ i =>
   obtain⟨p2,S,N⟩:=E (by simpa using hi)
   exact⟨p2,S,.no N⟩
 | @so v j σ ρ f h q c r e E =>
  cases i with
  | zero=>exact⟨h,λb=>by have:=e b;omega,.so l r λ_=>rfl⟩
  | succ i =>
   obtain⟨p2,S,N⟩:=E (by simpa using hi)
   exact⟨λb=>f b+p2 b,λb=>by have:=e b;have:=S b;dsimp only;omega,.so c N λb=>by dsimp only;omega⟩
theorem SR.of_le(s:Zf H0 H)(B:∀ b,p b+q b<=1)(F:∀ b,0<p b+q b->H0 b=none)(T:∀ b,p' b+q' b<=p b+q b)(h1:RSl K (hid H p q) H σ ρ p')(O:RTs K (hid H p q) H ts as q'):'!' ts as H :=
 ⟨⟨p',q',h1.mono (hid_more λb z=>by have:=T b;omega) (λ_ _ _ z=>z),O.mono (hid_more λb z=>by have:=T b;omega) (λ_ _ z=>z),λb=>by have:=T b;have:=B b;omega,λb z=>F b (by have:=T b;omega)⟩,s⟩
theorem SR.store{a:AV}(h:'!' (v::ts) (.av a::as) H)(hi:i<ρ.length):SR K H0 (σ.set i (aa v)) (ρ.set i (aa a)) ts as H:=by
 obtain⟨⟨p,q,Z,O,B,F⟩,s⟩:=h
 cases O with
 | @cons _ _ _ _ J l _ r rs e =>
  cases r with
  | av r =>
   obtain⟨Y,S,N⟩:=Z.set hi r
   refine SR.of_le (p:=p) (q:=q) (p':=λb=>J b+Y b) (q':=l) s B F (λb=>?_) N rs
   have:=e b;have:=S b;omega
theorem RSl.drop{o:Option V}(r:RSl K G H σ ρ p):∃ p2:Fp,(∀ b,p2 b<=p b)/\RSl K G H (σ.set i o) (ρ.set i none) p2:=by
 induction r generalizing i with
 | nil e=>exact⟨_,λ_=>aq _,by simpa using .nil e⟩
 | @no o σ ρ p r E =>
  cases i with
  | zero=>exact⟨p,λ_=>aq _,.no r⟩
  | succ i=>obtain⟨p2,S,N⟩:=E (i:=i);exact⟨p2,S,.no N⟩
 | @so v j σ ρ f h q c r e E =>
  cases i with
  | zero=>exact⟨h,λb=>by have:=e b;omega,.no r⟩
  | succ i =>
   obtain⟨p2,S,N⟩:=E (i:=i)
   exact⟨λb=>f b+p2 b,λb=>by have:=e b;have:=S b;dsimp only;omega,.so c N λb=>rfl⟩
theorem SR.drop{i:Nat}(h:'!' ts as H):SR K H0 σ (ρ.set i none) ts as H:=by
 obtain⟨⟨p,q,Z,O,B,F⟩,s⟩:=h
 by_cases C:i<σ.length
 ·obtain⟨Y,S,N⟩:=Z.drop (i:=i) (o:=σ[i])
  rw[VY (ai C)] at N
  exact SR.of_le (p:=p) (q:=q) (p':=Y) (q':=q) s B F (λb=>by have:=S b;omega) N O
 ·have:ρ.set i none=ρ:=List.set_eq_of_length_le (by rw[<- Z.len];omega)
  rw[this]
  exact⟨⟨p,q,Z,O,B,F⟩,s⟩
theorem RTs.swap{u w:V}(r:RTs K G H (u::w::ts) (a::b::as) p):RTs K G H (w::u::ts) (b::a::as) p:=by
 cases r with
 | cons g rs S=>cases rs with
  | cons e rs N=>exact .cons e (.cons g rs λ_=>rfl) (λc=>by have:=S c;have:=N c;omega)
theorem RTs.rot{u:V}:∀ {vs:List V} {bs:List TV} {p:Fp},vs.length=bs.length->RTs K G H (vs++u::ts) (bs++a::as) p->RTs K G H (u::(vs++ts)) (a::(bs++as)) p
 | [],[],_,_,r=>r
 | w::vs,b::bs,p,e,r=>by
  cases r with
  | cons g rs S=>exact RTs.swap (.cons g (RTs.rot (by simpa using e) rs) S)
theorem SR.rot{u:V}{vs:List V}{bs:List TV}(e:vs.length=bs.length)(h:'!' (vs++u::ts) (bs++a::as) H):'!' (u::(vs++ts)) (a::(bs++as)) H :=
 let ⟨⟨p,q,Z,O,B,F⟩,s⟩:=h
 ⟨⟨p,q,Z,O.rot e,B,F⟩,s⟩
theorem SR.swap{u w:V}(h:'!' (u::w::ts) (a::b::as) H):'!' (w::u::ts) (b::a::as) H :=
 let ⟨⟨p,q,Z,O,B,F⟩,s⟩:=h
 ⟨⟨p,q,Z,O.swap,B,F⟩,s⟩
theorem RTs.back{u:V}:∀ {vs:List V} {bs:List TV} {p:Fp},vs.length=bs.length->RTs K G H (u::(vs++ts)) (a::(bs++as)) p->RTs K G H (vs++u::ts) (bs++a::as) p
 | [],[],_,_,r=>r
 | w::vs,b::bs,p,e,r=>by
  have C:=RTs.swap r
  cases C with
  | cons g rs S=>exact .cons g (RTs.back (by simpa using e) rs) S
theorem SR.back{u:V}{vs:List V}{bs:List TV}(e:vs.length=bs.length)(h:'!' (u::(vs++ts)) (a::(bs++as)) H):'!' (vs++u::ts) (bs++a::as) H :=
 let ⟨⟨p,q,Z,O,B,F⟩,s⟩:=h
 ⟨⟨p,q,Z,O.back e,B,F⟩,s⟩
inductive Stos:List TV->List AV->Prop
 | nil:Stos [] []
 | cons {a:TV} {x:AV} {as:List TV} {xs:List AV}:a.sto=aa x->Stos as xs->Stos (a::as) (x::xs)
theorem SR.stos:∀ {vs:List V} {bs:List TV} {xs:List AV},Stos bs xs->vs.length=bs.length->∀ {us:List V} {cs:List TV},us.length=cs.length->'!' (us++(vs++ts)) (cs++(bs++as)) H->'!' (us++(vs++ts)) (cs++(xs.map TV.av++as)) H
 | [],_,_,.nil,_,_,_,_,h=>h
 | [],_,_,.cons _ _,e,_,_,_,_=>by simp at e
 | w::vs,_,_,.nil,e,_,_,_,_=>by simp at e
 | w::vs,b::bs,x::xs,.cons e1 es,e,us,cs,e2,h=>by
  have Z:'!' (us++w::(vs++ts)) (cs++b::(bs++as)) H:=h
  have O:=(Z.rot e2).sto e1
  have B:'!' ((w::us)++(vs++ts)) ((.av x::cs)++(bs++as)) H:=O
  have F:=SR.stos (us:=w::us) (cs:=.av x::cs) es (by simpa using e) (by simp[e2]) B
  exact SR.back e2 F
theorem RTs.avs{xs:List AV}:∀ {vs:List V} {bs:List AV} {p:Fp},vs.length=bs.length->RTs K G H (vs++ts) (bs.map TV.av++as) p->∃ p1 p2:Fp,(∀ b,p b=p1 b+p2 b)/\RAs K G H vs bs p1/\RTs K G H ts as p2
 | [],[],p,_,r=>⟨λ_=>0,p,λb=>by simp,.nil λ_=>rfl,r⟩
 | w::vs,b::bs,p,e,r=>by
  cases r with
  | @cons _ _ _ _ f h _ g rs S =>
   obtain⟨p1,p2,N,L,A⟩:=RTs.avs (xs:=xs) (by simpa using e) rs
   cases g with
   | av g=>exact⟨λc=>f c+p1 c,p2,λc=>by have:=S c;have:=N c;dsimp only;omega,.cons g L (λ_=>rfl),A⟩
theorem Wz{o:HO}(h:∀ b u,p b+q b=0->H b=aa u->p' b+q' b=0/\b≠l):Zf (hid H p q) (hid (upd H l o) p' q'):=λb u e=>by
 unfold hid at e ⊢
 split at e
 ·rename_i z
  obtain⟨Z,O⟩:=h b u z e
  rw[if_pos Z,Zg O]
  exact e
 ·cases e
theorem SR.new(h:'!' (vs++ts) (xs.map TV.av++as) H)(e:vs.length=xs.length)(D:H l=none):'!' (.ref l::ts) (.av (.own xs)::as) (upd H l (.lst vs)):=by
 obtain⟨⟨p,q,Z,O,B,F⟩,s⟩:=h
 have U:=SR.lsts Z O
 obtain⟨J,Y,N,L,A⟩:=RTs.avs (xs:=xs) e O
 have z:∀ b u,H b=aa u->b≠l:=λb u y w=>by subst w;rw[D] at y;cases y
 have a:p l+q l=0:=by
  rcases aX (p l+q l) with w|w
  ·exact w
  ·obtain⟨_,w,_⟩:=U l w;rw[D] at w;cases w
 have m:Zf (hid H p q) (hid (upd H l (.lst vs)) p (λb=>((if b=l then 1 else 0)+J b)+Y b)):=Wz λb u y w=>by
  have:=z b u w
  refine⟨?_,this⟩
  have:=N b
  simp[*] at *
  omega
 have c:∀ b u,H b=aa u->upd H l (.lst vs) b=aa u:=λb u y=>by rw[Zg (z b u y)];exact y
 have T:Zf H (upd H l (.lst vs)):=Yk D
 refine⟨⟨p,λb=>((if b=l then 1 else 0)+J b)+Y b,Z.mono m (λb o _=>c b o),.cons (.av (.own Zw (L.mono m λb o _=>c b o) λ_=>rfl)) (A.mono m T) (λ_=>rfl),λb=>?_,λb w=>?_⟩,s.trans T⟩
 ·have:=N b;have:=B b
  by_cases M:b=l
  ·subst M;simp;omega
  ·simp[M];omega
 ·by_cases M:b=l
  ·subst M;exact s.free D
  ·refine F b ?_;have:=N b;simp[M] at w;omega
end
mutual
def AV.clean:AV->Bool
 | .d x=>ZH x
 | .own xs=>AV.cleans xs
 | .tup xs=>AV.cleans xs
 | .dic kvs=>noLsts (kvs.map be)
 | .obj _=>aF
def AV.cleans:List AV->Bool
 | []=>ak
 | x::xs=>x.clean && AV.cleans xs
end
def Rs(K:aJ)(H H':Hp)(v:V)(a:AV):Prop:=Zf H H'/\∃ p:Fp,(∀ b,p b<=1)/\(∀ b,0<p b->H b=none)/\RA K (hid H' p λ_=>0) H' v a p
variable{φ:V->Hp->Prop}
section
variable{σ:St}{y:V}
theorem RA.clB(D:∀ b,0<p' b+q' b->∃ o,H b=aa o/\Mu o):(∀ {v:V} {a:AV} {r:Fp},RA K (hid H p q) H v a r->a.clean=ak->RA K (hid H p' q') H v a r)/\∀ {vs:List V} {xs:List AV} {r:Fp},RAs K (hid H p q) H vs xs r->AV.cleans xs=ak->RAs K (hid H p' q') H vs xs r:=by
 refine RA.ind (M:=λv a r=>a.clean=ak->RA K (hid H p' q') H v a r) (N:=λvs xs r=>AV.cleans xs=ak->RAs K (hid H p' q') H vs xs r) (λr e Y=>.d (Rep.hid D (by simpa [AV.clean] using Y) (r.same Yh)) e) (λh i e Y=>.own h (i (by simpa [AV.clean] using Y)) e) (λh i Y=>.tup (P5 D (Yh _ _ h)) (i (by simpa [AV.clean] using Y))) (λ{a o kvs qq} h d e Y=>.dic h ?_ e) (λ_ _ _ Y=>by simp[AV.clean] at Y) (λe _=>.nil e) λi j e Y=>?_
 ·have g:noLsts (kvs.map be)=true:=by simpa [AV.clean] using Y
  have w:∀ {c:Type} {ks:List (c×V)} {ds:List aj} {en:c->aj},Reps K (hid H p q) (ks.map be) ds->kvs=(ks.map λp=>en p.1).zip ds->Reps K (hid H p' q') (ks.map be) ds:=λr z=>by
   rw[z,List.map_snd_zip (by rw[ah,<- r.length,ah];exact aq _)] at g
   exact Reps.hid D g (r.same Yh)
  rcases d with⟨ks,ds,S,r,z⟩|⟨ks,ds,S,r,z⟩|⟨ks,ds,n,S,r,z⟩
  ·exact .inl ⟨ks,ds,S,w r z,z⟩
  ·exact .inr (.inl ⟨ks,ds,S,w (en:=λk=>aI (k.map Zn)) r z,z⟩)
  ·exact .inr (.inr ⟨ks,ds,n,S,w (en:=λk=>aI [Zn k.1,.tuple (k.2.map Zn)]) r z,z⟩)
 ·simp only[AV.cleans,aP] at Y
  exact .cons (i Y.1) (j Y.2) e
theorem RA.cl(D:∀ b,0<p' b+q' b->∃ o,H b=aa o/\Mu o){a:AV}(Y:a.clean=ak)(h:RA K (hid H p q) H v a r):RA K (hid H p' q') H v a r:=(RA.clB D).1 h Y
theorem RAs.cl(D:∀ b,0<p' b+q' b->∃ o,H b=aa o/\Mu o)(Y:AV.cleans xs=ak)(h:RAs K (hid H p q) H vs xs r):RAs K (hid H p' q') H vs xs r:=(RA.clB D).2 h Y
theorem SR.got(h:'!' ts as H)(r:Rs K H H' v c)(Y:c.clean=ak):'!' (v::ts) (.av c::as) H':=by
 obtain⟨e,g,a,L,l⟩:=r
 obtain⟨⟨p,q,Z,O,B,f⟩,s⟩:=h
 have U:=SR.lsts Z O
 have z:∀ b,0<p b+q b->g b=0:=λb w=>by
  obtain⟨vs,y,_⟩:=U b w
  rcases aX (g b) with u|u
  ·exact u
  ·rw[L b u] at y;cases y
 have m:Zf (hid H p q) (hid H' p (λb=>g b+q b)):=λb o w=>by
  unfold hid at w ⊢
  split at w
  ·rename_i y
   have:g b=0:=by
    rcases aX (g b) with u|u
    ·exact u
    ·rw[L b u] at w;cases w
   rw[if_pos (show p b+(g b+q b)=0 by omega)]
   exact e b o w
  ·cases w
 refine⟨⟨p,λb=>g b+q b,Z.mono m (λb o _=>e b o),.cons (.av (RA.cl (p':=p) (q':=λb=>g b+q b) (λb w=>?_) Y l)) (O.mono m e) (λ_=>rfl),λb=>?_,λb w=>?_⟩,s.trans e⟩
 ·rcases aX (g b) with u|u
  ·have F:0<p b+(g b+q b):=w
   obtain⟨vs,y,mu⟩:=U b (by omega);exact⟨vs,e _ _ y,mu⟩
  ·exact l.lst b u
 ·have:=B b;have:=a b;have:=z b
  show p b+(g b+q b)<=1
  omega
 ·rcases aX (g b) with u|u
  ·have F:0<p b+(g b+q b):=w
   exact f b (by omega)
  ·exact s.free (L b u)
theorem SR.gotB(h:'!' ts as H)(r:Rs K H H' v c):'!' (v::ts) (.bor c.data::as) H':=by
 obtain⟨e,g,_,_,l⟩:=r
 exact (h.ext e).pushB (l.rep Yh)
def ZT(ρ:Sl):Prop:=∀ a∈ρ,∀ x,a=aa x->(∃ d,x=.d d)\/∃ φ,x=.obj φ
theorem ZT.nil:ZT []:=λ_ h=>nomatch h
theorem ZT.no(h:ZT ρ):ZT (none::ρ):=λb M x z=>by
 rcases gh.mp M with e|e
 ·subst e;cases z
 ·exact h b e x z
theorem ZT.d{d:aj}(h:ZT ρ):ZT (aa (.d d)::ρ):=λb M x z=>by
 rcases gh.mp M with e|e
 ·subst e;cases z;exact .inl ⟨d,rfl⟩
 ·exact h b e x z
theorem ZT.o(h:ZT ρ):ZT (aa (.obj φ)::ρ):=λb M x z=>by
 rcases gh.mp M with e|e
 ·subst e;cases z;exact .inr ⟨φ,rfl⟩
 ·exact h b e x z
theorem RSl.noOwn(r:RSl K G H σ ρ p)(h:ZT ρ):∀ b,p b=0:=by
 induction r with
 | nil e=>exact e
 | no _ E=>exact E λa m=>h a (.tail _ m)
 | so l _ e E =>
  rcases h _ (.head _) _ rfl with⟨d,rfl⟩|⟨g,rfl⟩
  ·intro b
   have:=E (λa m=>h a (.tail _ m)) b
   cases l with
   | d _ N=>have:=e b;have:=N b;omega
  ·intro b
   have:=E (λa m=>h a (.tail _ m)) b
   cases l with
   | obj _ _ N=>have:=e b;have:=N b;omega
theorem RTs.stb(r:RTs K G H ts as p)(h:Stb as):∀ b,p b=0:=by
 induction r with
 | nil e=>exact e
 | cons r _ e E =>
  obtain⟨d,rfl⟩:=h _ (.head _)
  intro b
  have:=E (λa m=>h a (.tail _ m)) b
  cases r with
  | av l=>cases l with
   | d _ N=>have:=e b;have:=N b;omega
def Sto(ρ:Sl)(a:TV)(a':AV):Prop:=a.sto=aa a'\/(∃ c,a=.av c/\a'=.d c.data)\/(ZT ρ/\(∃ x,a=.bor x)/\a'=.d a.data)
theorem SR.stoS{Q:AV}(h:'!' (v::ts) (a::as) H)(C:Stb as)(e:Sto ρ a Q):'!' (v::ts) (.av Q::as) H:=by
 rcases e with e|⟨c,rfl,rfl⟩|⟨n,⟨x,rfl⟩,rfl⟩
 ·exact h.sto e
 ·exact h.frzT
 ·have t:=h.top (a:=.bor x) λ_ z=>nomatch z
  obtain⟨⟨p,q,Z,O,B,F⟩,s⟩:=h.pop
  have i:=Z.noOwn n
  have M:=O.stb C
  refine⟨⟨p,q,Z,.cons (.av (.d (p:=λ_=>0) (t.same λb o w=>?_) λ_=>rfl)) O (λb=>by simp),B,F⟩,s⟩
  unfold hid
  rw[if_pos (by have:=i b;have:=M b;omega)]
  exact w
end
def X3(K:aJ)(J:It)(u:V)(z:aj)(n:Nat)(f:Nat->aj):Prop :=
 ∀ G H,Zf G H->Rep K G u z->(∀ i,i<n->J.go i H/\∀ x H',J.yld i H x H'->Zf H H'/\∀ G',Zf G G'->(∀ b o,H' b=aa o->H b=none->G' b=aa o)->Rep K G' x (f i))/\∀ i,n<=i->J.stop i H
def TV.frz:TV->TV
 | .av a=>.av (.d a.data)
 | .bor x=>.bor x
 | .raw v=>.raw v
section
variable (K:aJ)(E:FK)(X:Exc->Sl->Prop)
def Iv(wi:TI)(ρ:Sl)(Q:Nat->(Nat->aj)->TV->Prop):Prop :=
 ∀ (H0:Hp) (σ:St) (ts:List V) (as:List TV) (H:Hp) (R:It->Hp->Prop),'!' ts as H->XOk K E X H0 ->
  (∀ n f h,Q n f h->∀ u J H',(∀ v,h≠.raw v)->'!' (u::ts) (h::as) H'->X3 K J u h.data n f->R J H')->wi σ H R
def Gv(g:TG)(x:aj)(ρ:Sl)(P:Sl->Prop):Prop :=
 ∀ (H0:Hp) (σ:St) (ts:List V) (as:List TV) (H:Hp) (v:V) (Qg:St->Hp->Prop),'!' (v::ts) (.av (.d x)::as) H->(∀ ρ',P ρ'->∀ σ' H',SR K H0 σ' ρ' ts as H'->Qg σ' H')->g v σ H Qg
end
def Wk(ρ ρ':Sl):Prop:=∀ (K:aJ) (H0:Hp) (σ:St) (ts:List V) (as:List TV) (H:Hp),'!' ts as H->SR K H0 σ ρ' ts as H
variable{x:aj}{A:TA}{r:R2}{DV:VEnds}{P:Bool->Prop}{Q:TV->Prop}{X:Exc->Sl->Prop}
section
variable{E:FK}{i:Int}{t:TS}
theorem X4{S:TV->Prop}(h:Ev K E X te ρ Q)(m:∀ a,Q a->S a):Ev K E X te ρ S:=λI U ts as H QV s x q=>h I U ts as H QV s x λa g=>q a (m a g)
theorem SR.var{σ:St}{i:Nat}{a:AV}(s:'!' ts as H)(h:ρ[i]?=aa (aa a)):∃ v,σ[i]?=aa (aa v)/\(∀ x,a=.d x->'!' (v::ts) (.av (.d x)::as) H)/\'!' (v::ts) (.bor a.data::as) H:=by
 obtain⟨⟨p,q,Z,O,B,F⟩,e⟩:=s
 obtain⟨J,Y,v,S,N,L,A⟩:=Z.frz h λ_ _ _ _=>trivial
 refine⟨v,N,λx z=>?_,SR.pushB ⟨⟨p,q,Z,O,B,F⟩,e⟩ (L.rep Yh)⟩
 subst z
 cases L with
 | d W z=>exact⟨⟨p,q,Z,.cons (.av (.d (p:=λ_=>0) W λ_=>rfl)) O (λb=>by simp),B,F⟩,e⟩
theorem S7(h:ρ[n]?=aa (aa (.d x)))(q:Q (.av (.d x))):Ev K E X (ZN n) ρ Q:=λI U ts as H QV s _ k=>by
 obtain⟨v,S,N,_⟩:=s.var h
 exact⟨v,S,k _ q v H (N x rfl)⟩
theorem P6{a:AV}(h:ρ[n]?=aa (aa a))(q:Q (.bor a.data)):Ev K E X (ZN n) ρ Q:=λI U ts as H QV s _ k=>by
 obtain⟨v,S,_,N⟩:=s.var h
 exact⟨v,S,k _ q v H N⟩
theorem JS(q:Q (.av (.d (.int i)))):Ev K E X (tC (.int i)) ρ Q:=λI U ts as H QV s _ k=>k _ q _ H (s.int i)
theorem JT{c:Bool}(q:Q (.av (.d (.bool c)))):Ev K E X (tC (.bl c)) ρ Q:=λI U ts as H QV s _ k=>k _ q _ H (s.bl c)
theorem JU{c:aQ}(q:Q (.av (.d (.str c)))):Ev K E X (tC (.str c)) ρ Q:=λI U ts as H QV s _ k=>k _ q _ H (s.push λ_=>.str c)
theorem JV(q:Q (.av (.d .none))):Ev K E X (tC .non) ρ Q:=λI U ts as H QV s _ k=>k _ q _ H (s.push λ_=>.non)
theorem JW{c:String}(q:Q (.raw (.ty c))):Ev K E X (tC (.ty c)) ρ Q:=λI U ts as H QV s _ k=>k _ q _ H s.pushR
theorem P7{c:ao}(q:Q (.raw (.ref c))):Ev K E X (tC (.ref c)) ρ Q:=λI U ts as H QV s _ k=>k _ q _ H s.pushR
theorem JX(h:Ev K E X ta ρ λa=>Ev K E X tb ρ λb=>Op K E X r a b Q):Ev K E X (tOp r ta tb) ρ Q:=λI U ts as H QV s x k =>
 h I U ts as H _ s x λa g v H' M=>g I U _ _ H' _ M x λb N w c T=>N I U ρ ts as c v w QV T x k
theorem JY{r:V->Hp->VK->Prop}(h:Ev K E X ta ρ λa=>Un1 K E X r a Q):Ev K E X (tUn r ta) ρ Q:=λI U ts as H QV s x k =>
 h I U ts as H _ s x λa g v H' M=>g I U ρ ts as H' v QV M x k
theorem un_i{g:Int->Int}(q:Q (.av (.d (.int (g i))))):Un1 K E X (rU λi=>.int (g i)) (.av (.d (.int i))) Q:=λI U Y ts as H x QV s _ k=>by
 have e:=s.top_d.int_inv
 subst e
 exact⟨i,rfl,k _ q _ H (s.pop.int _)⟩
theorem ints2{σ:St}{x y:V}(s:'!' (y::x::ts) (.av (.d (.int j))::.av (.d (.int i))::as) H):x=.int i/\y=.int j/\'!' ts as H :=
 ⟨s.pop.top_d.int_inv,s.top_d.int_inv,s.pop.pop⟩
theorem P8(q:Q (.av (.d (.int (g i j))))):Op K E X (rI0 λi j=>.int (g i j)) (.av (.d (.int i))) (.av (.d (.int j))) Q:=λI U Y ts as H x y QV s _ k=>by
 obtain⟨rfl,rfl,M⟩:=ints2 s
 exact⟨i,j,rfl,rfl,k _ q _ H (M.int _)⟩
theorem JZ{g:Int->Int->Bool}(q:Q (.av (.d (.bool (g i j))))):Op K E X (rI0 λi j=>.bl (g i j)) (.av (.d (.int i))) (.av (.d (.int j))) Q:=λI U Y ts as H x y QV s _ k=>by
 obtain⟨rfl,rfl,M⟩:=ints2 s
 exact⟨i,j,rfl,rfl,k _ q _ H (M.bl _)⟩
theorem Ta{C:Int->Int->Prop}(c:C i j)(q:Q (.av (.d (.int (g i j))))):Op K E X (rI C λi j=>.int (g i j)) (.av (.d (.int i))) (.av (.d (.int j))) Q:=λI U Y ts as H x y QV s _ k=>by
 obtain⟨rfl,rfl,M⟩:=ints2 s
 exact⟨i,j,rfl,rfl,c,k _ q _ H (M.int _)⟩
theorem J0(q:Q (.av (.d (.bool (decide (i=j)))))):Op K E X rEq (.av (.d (.int i))) (.av (.d (.int j))) Q:=λI U Y ts as H x y QV s _ k=>by
 obtain⟨rfl,rfl,M⟩:=ints2 s
 exact Jp (k _ q _ H (M.bl _))
theorem J9(q:Q (.av (.d (.bool (!decide (i=j)))))):Op K E X rNe (.av (.d (.int i))) (.av (.d (.int j))) Q:=λI U Y ts as H x y QV s _ k=>by
 obtain⟨rfl,rfl,M⟩:=ints2 s
 exact Jq (k _ q _ H (M.bl _))
theorem Rep.bl_inv{c:Bool}(h:Rep K H v (.bool c)):v=.bl c:=by cases h;rfl
theorem Ia{c d:Bool}(q:Q (.av (.d (.bool (decide (c=d)))))):Op K E X rEq (.av (.d (.bool c))) (.av (.d (.bool d))) Q:=λI U Y ts as H x y QV s _ k=>by
 have S:=Rep.bl_inv s.pop.top_d
 have N:=Rep.bl_inv s.top_d
 subst S N
 exact Jr (k _ q _ H (s.pop.pop.bl _))
def NR(a:TV):Prop:=∀ v,a≠.raw v
theorem NR.av{c:AV}:NR (.av c):=λ_ z=>nomatch z
theorem NR.bor{c:aj}:NR (.bor c):=λ_ z=>nomatch z
theorem Ib[DecidableEq α]{c d:α}(F:Enc f m)(ha:a.data=f c)(hb:b.data=f d)(q:Q (.av (.d (.bool (decide (c=d))))))(na:NR a:=by first|exact NR.av|exact NR.bor)(h:NR b:=by first|exact NR.av|exact NR.bor)(hm:m<=32:=by decide):Op K E X (W4 K) a b Q:=λI U Y ts as H x y QV s _ k =>
 Ju F (ha▸s.pop.top na) (hb▸s.top h) (k _ q _ H (s.pop.pop.bl _)) hm
theorem Ic[DecidableEq α]{c d:α}(F:Enc f m)(ha:a.data=f c)(hb:b.data=f d)(q:Q (.av (.d (.bool (!decide (c=d))))))(na:NR a:=by first|exact NR.av|exact NR.bor)(h:NR b:=by first|exact NR.av|exact NR.bor)(hm:m<=32:=by decide):Op K E X (Ww K) a b Q:=λI U Y ts as H x y QV s _ k =>
 Jv F (ha▸s.pop.top na) (hb▸s.top h) (k _ q _ H (s.pop.pop.bl _)) hm
theorem Reps.atI{H:Hp}{vs:List V}{ds:List aj}{k:Int}{y:aj}(h:Reps K H vs ds)(e:atI ds k=aa y):∃ v,L2.atI vs k=aa v/\Rep K H v y:=by
 unfold L2.atI at e ⊢
 rw[h.length]
 cases z:ixN ds.length k with
 | none=>rw[z] at e;cases e
 | some j =>
  rw[z] at e
  obtain⟨v,S,N⟩:=h.get (i:=j) (d:=y) e
  exact⟨v,S,N⟩
def Zu(a:TV)(y:aj)(c:TV):Prop:=(a=.av (.d a.data)/\c=.av (.d y))\/(ZH y=ak/\c=.av (.d y))\/c=.bor y
theorem SR.item{σ:St}{x:V}{c:TV}(s:'!' (x::ts) (a::as) H)(na:NR a)(it:Zu a y c)(P:V->Prop)(h:∀ G,Rep K G x a.data->Zf G H->∃ v,P v/\Rep K G v y):∃ v,P v/\'!' (v::ts) (c::as) H:=by
 rcases it with⟨e,rfl⟩|⟨j,rfl⟩|rfl
 ·rw[e] at s
  obtain⟨⟨p,q,Z,O,B,F⟩,A⟩:=s
  cases O with
  | cons r rs z=>cases r with
   | av r=>cases r with
    | d W w =>
     obtain⟨v,S,N⟩:=h _ W Yh
     exact⟨v,S,⟨p,q,Z,.cons (.av (.d N w)) rs z,B,F⟩,A⟩
 ·obtain⟨v,S,N⟩:=h _ (s.top na) (.refl H)
  exact⟨v,S,s.pop.pushF j N⟩
 ·obtain⟨v,S,N⟩:=h _ (s.top na) (.refl H)
  exact⟨v,S,s.pop.pushB N⟩
theorem Zu.d{x y:aj}:Zu (.av (.d x)) y (.av (.d y)):=.inl ⟨rfl,rfl⟩
theorem Zu.flat(h:ZH y=ak):Zu a y (.av (.d y)):=.inr (.inl ⟨h,rfl⟩)
theorem Id{c:TV}{k:Int}(ha:a.data=.list ds)(e:atI ds k=aa y)(it:Zu a y c)(q:Q c)(na:NR a:=by first|exact NR.av|exact NR.bor):Op K E X (VJ K) a (.av (.d (.int k))) Q:=λI U Y ts as H x w QV s _ j=>by
 have N:=s.top_d.int_inv
 subst N
 obtain⟨v,⟨p,xs,L,A,R⟩,M⟩:=s.pop.item na it (λv=>∃ p xs,x=.ref p/\SqL K H p xs/\L2.atI xs k=aa v) λG W P=>by
  rw[ha] at W
  obtain⟨p,xs,rfl,Z,O⟩:=W.list_inv
  obtain⟨v,B,F⟩:=Reps.atI O e
  exact⟨v,⟨p,xs,rfl,P.seq Z,B⟩,F⟩
 exact⟨p,xs,k,v,L,rfl,A,R,j _ q _ H M⟩
theorem Ie{c:TV}{k:Int}(ha:a.data=.tuple ds)(e:atI ds k=aa y)(it:Zu a y c)(q:Q c)(na:NR a:=by first|exact NR.av|exact NR.bor):Op K E X (VM K) a (.av (.d (.int k))) Q:=λI U Y ts as H x w QV s _ j=>by
 have N:=s.top_d.int_inv
 subst N
 obtain⟨v,⟨p,xs,L,A,R⟩,M⟩:=s.pop.item na it (λv=>∃ p xs,x=.ref p/\SqT K H p xs/\L2.atI xs k=aa v) λG W P=>by
  rw[ha] at W
  obtain⟨p,xs,rfl,Z,O⟩:=W.tuple_inv
  obtain⟨v,B,F⟩:=Reps.atI O e
  exact⟨v,⟨p,xs,rfl,P.tupS Z,B⟩,F⟩
 exact⟨p,xs,k,v,L,rfl,A,R,j _ q _ H M⟩
theorem P9{P:List TV->Prop}(q:P []):Ea K E X Y0 ρ P:=λI U ts as H QV s _ k=>k [] q [] H s rfl
theorem Ig{P:List TV->Prop}(h:Ev K E X ta ρ λa=>Ea K E X A ρ λbs=>P (a::bs)):Ea K E X (YG ta A) ρ P:=λI U ts as H QV s x k =>
 h I U ts as H _ s x λa g v H' M=>g I U _ _ H' _ M x λbs N vs w T D=>k (a::bs) N (v::vs) w (T.rot D) (by simp[D])
theorem Ih{r:List V->Hp->VK->Prop}(h:Ea K E X A ρ λbs=>Bi K E X r bs Q):Ev K E X (tCB r A) ρ Q:=λI U ts as H QV s x k =>
 h I U ts as H _ s x λbs N vs w T D=>N I U ρ ts as w vs QV T D x k
theorem Stos.len{bs:List TV}(h:Stos bs xs):bs.length=xs.length:=by
 induction h with
 | nil=>rfl
 | cons _ _ E=>simp[E]
theorem WA(h:Ea K E X A ρ λbs=>∃ xs,Stos bs xs/\bs.length<=1000/\Q (.av (.own xs))):Ev K E X (SD A) ρ Q:=λI U ts as H QV s x k =>
 h I U ts as H _ s x λbs ⟨xs,hs,hz,q⟩ vs H2 s2 hl=>⟨cP (small1000 (by omega)),λp T=>k _ q _ _ (SR.new (SR.stos (us:=[]) (cs:=[]) hs hl rfl s2) (by rw[hl,hs.len]) T)⟩
theorem SR.newT{σ:St}(h:'!' (vs++ts) (xs.map TV.av++as) H)(e:vs.length=xs.length)(D:H l=none):'!' (.ref l::ts) (.av (.d (.tuple (AV.datas xs)))::as) (upd H l (.tup vs)):=by
 obtain⟨⟨p,q,Z,O,B,F⟩,s⟩:=h
 have U:=SR.lsts Z O
 obtain⟨J,Y,N,L,A⟩:=RTs.avs (xs:=xs) e O
 have T:Zf H (upd H l (.tup vs)):=Yk D
 have a:p l+q l=0:=by
  rcases aX (p l+q l) with w|w
  ·exact w
  ·obtain⟨_,w,_⟩:=U l w;rw[D] at w;cases w
 have m:Zf (hid H p q) (hid (upd H l (.tup vs)) p Y):=(hid_more (p':=p) (q':=Y) λb z=>by have:=N b;omega).trans (Wy T)
 refine⟨⟨p,Y,Z.mono m (λb o _=>T b o),.cons (.av (.d (p:=λ_=>0) (.tup ?_ (L.frz m λb o y z=>?_)) λ_=>rfl)) (A.mono m T) (λb=>by simp),λb=>by have:=N b;have:=B b;omega,λb z=>F b (by have:=N b;omega)⟩,s.trans T⟩
 ·unfold hid;rw[if_pos (by have:=N l;omega)];exact Zw
 ·unfold hid;rw[if_pos (by have:=N b;have:=B b;omega)];exact T b o z
theorem Xu(h:Ea K E X A ρ λbs=>∃ xs,Stos bs xs/\bs.length<=1000/\Q (.av (.d (.tuple (AV.datas xs))))):Ev K E X (VI A) ρ Q:=λI U ts as H QV s x k =>
 h I U ts as H _ s x λbs ⟨xs,hs,hz,q⟩ vs H2 s2 hl=>⟨cP (small1000 (by omega)),λp T=>k _ q _ _ (SR.newT (SR.stos (us:=[]) (cs:=[]) hs hl rfl s2) (by rw[hl,hs.len]) T)⟩
theorem Oa(h:Ev K E X te ρ λa=>∃ c,a=.av (.d (.bool c))/\P c):Tv K E X (VH te) ρ P:=λI U ts as H QV s x k =>
 h I U ts as H _ s x λa ⟨c,e,p⟩ v H' s'=>by subst e;exact⟨c,Rep.bl_inv s'.top_d,k c p H' s'.pop⟩
theorem tv_b(h:Ev K E X te ρ λa=>∃ c,a=.av (.d (.bool c))/\P c):Tv K E X (tB te) ρ P:=Oa h
theorem Ii{a b:TT}(h:Tv K E X a ρ λc=>if c=ak then P ak else Tv K E X b ρ P):Tv K E X (tOr a b) ρ P:=λI U ts as H QV s x k =>
 h I U ts as H _ s x λc e H' M=>by
  cases c with
  | true=>rw[if_pos rfl] at e ⊢;exact k _ e H' M
  | false=>rw[if_neg aA] at e ⊢;exact e I U ts as H' QV M x k
theorem Ij{a:TT}(h:Tv K E X a ρ λc=>P (!c)):Tv K E X (tNot a) ρ P:=λI U ts as H QV s x k =>
 h I U ts as H _ s x λc e H' M=>k _ e H' M
theorem Tb(q:P ak):Tv K E X Wv ρ P:=λI U ts as H QV s x k=>k _ q H s
theorem Ik(h:Ev K E X ta ρ λa=>∃ c,a=.av (.d (.bool c))/\if c=ak then Ev K E X tb ρ Q else Q (.av (.d (.bool aF)))):Ev K E X (Q3 ta tb) ρ Q:=λI U ts as H QV s x k =>
 h I U ts as H _ s x λa ⟨c,e,p⟩ v H' s'=>by
  subst e
  refine⟨c,Rep.bl_inv s'.top_d,?_⟩
  cases c with
  | true=>rw[if_pos rfl] at p ⊢;exact p I U ts as H' QV s'.pop x k
  | false=>rw[if_neg aA] at p ⊢;exact k _ p _ H' (s'.pop.bl aF)
theorem Il(h:Ev K E X ta ρ λa=>∃ c,a=.av (.d (.bool c))/\Q (.av (.d (.bool (!c))))):Ev K E X (Q4 ta) ρ Q:=λI U ts as H QV s x k =>
 h I U ts as H _ s x λa ⟨c,e,p⟩ v H' s'=>by
  subst e
  exact⟨c,Rep.bl_inv s'.top_d,k _ p _ H' (s'.pop.bl _)⟩
theorem Io{c:TT}(h:Tv K E X c ρ λb=>if b=ak then Ev K E X ta ρ Q else Ev K E X tb ρ Q):Ev K E X (tIf c ta tb) ρ Q:=λI U ts as H QV s x k =>
 h I U ts as H _ s x λc e H' M=>by
  cases c with
  | true=>rw[if_pos rfl] at e ⊢;exact e I U ts as H' QV M x k
  | false=>rw[if_neg aA] at e ⊢;exact e I U ts as H' QV M x k
theorem Ip(h:Sv K E X t ρ { DV with nx:=λL=>Sv K E X u L DV }):Sv K E X (UG t u) ρ DV:=λI U ts as H D st s x f =>
 h I U ts as H { D with nx:=u D } st s x ⟨λL q j H' M=>q I j ts as H' D st M x f,f.bk,f.ct,f.rt⟩
theorem Iq(h:DV.nx ρ):Sv K E X Sr ρ DV:=λI U ts as H D st s x f=>f.nx ρ h U H s
theorem Ir(h:Ev K E X te ρ λ_=>DV.nx ρ):Sv K E X (XD te) ρ DV:=λI U ts as H D st s x f =>
 h I U ts as H _ s x λa q v H' M=>f.nx ρ q U H' M.pop
theorem Is(h:Ev K E X te ρ DV.rt):Sv K E X (Vy te) ρ DV:=λI U ts as H D st s x f =>
 h I U ts as H _ s x λa q v H' M=>f.rt a q v U ρ H' M
theorem Ob{c:TT}(h:Tv K E X c ρ λb=>if b=ak then Sv K E X t ρ DV else Sv K E X u ρ DV):Sv K E X (UH c t u) ρ DV:=λI U ts as H D st s x f =>
 h I U ts as H _ s x λc e H' M=>by
  cases c with
  | true=>rw[if_pos rfl] at e ⊢;exact e I U ts as H' D st M x f
  | false=>rw[if_neg aA] at e ⊢;exact e I U ts as H' D st M x f
theorem Oc{a:AV}(i:Nat)(hi:ρ[i]?=aa (aa a))(h:Sv K E X t (ρ.set i (aa (.d a.data))) DV):Sv K E X t ρ DV:=λI U ts as H D st s x f=>h I U ts as H D st (s.frz hi) x f
theorem Iu(h:Ev K E X te ρ λa=>∃ Q,Sto ρ a Q/\DV.nx (ρ.set n (aa Q)))(hn:n<ρ.length:=by simp):Sv K E X (YZ te (Xn n)) ρ DV:=λI U ts as H D st s x f =>
 h I U ts as H _ s x λa ⟨Q,e,q⟩ v H' s'=>f.nx _ q _ H' ((s'.stoS st e).store hn)
theorem Od{P:Sl->Prop}(h:P (ρ.set n (aa (.d x))))(hn:n<ρ.length:=by simp):Gv K (Xn n) x ρ P:=λI U ts as H v f s k=>k _ h _ H (s.store hn)
end
theorem small6(h:n<=1000000):n<sizeLine:=ja h (by decide)
section
variable{σ:St}{y:V}
theorem RAs.len:∀ {vs:List V} {xs:List AV} {p:Fp},RAs K G H vs xs p->vs.length=xs.length
 | _,_,_,.nil _=>rfl
 | _,_,_,.cons _ rs _=>by simp[RAs.len rs]
theorem RAs.snoc{w:V}{c:AV}{q:Fp}(r:RA K G H w c q):∀ {vs:List V} {xs:List AV} {p:Fp},RAs K G H vs xs p->RAs K G H (vs++[w]) (xs++[c]) (λb=>p b+q b)
 | _,_,_,.nil e=>.cons r (.nil (p:=λ_=>0) λ_=>rfl) (λb=>by have:=e b;simp;omega)
 | _,_,_,.cons (p:=p1) (q:=q1) r1 rs e=>.cons r1 (RAs.snoc r rs) (λb=>by have:=e b;show _+q b=p1 b+(q1 b+q b);omega)
theorem RAs.rev:∀ {vs:List V} {xs:List AV} {p:Fp},RAs K G H vs xs p->∃ p':Fp,(∀ b,p' b=p b)/\RAs K G H vs.reverse xs.reverse p'
 | _,_,p,.nil e=>⟨p,λ_=>rfl,.nil e⟩
 | _,_,_,.cons (p:=p1) r1 rs e=>by
  obtain⟨p',Z,O⟩:=RAs.rev rs
  refine⟨λb=>p' b+p1 b,λb=>by have:=e b;have:=Z b;dsimp only;omega,?_⟩
  rw[fF,fF]
  exact RAs.snoc r1 O
theorem SR.writeE{xs':List AV}(h:'!' (v::ts) (.av c::as) H)(C:Stb as)(hi:ρ[i]?=aa (aa (.own xs))) :
  ∃ l vs,σ[i]?=aa (aa (.ref l))/\H l=aa (.lst vs)/\vs.length=xs.length/\∀ j,(∀ G H' p q,(∀ b o,0<q b->H b=aa o->H' b=aa o)->RAs K G H' vs xs p->RA K G H' v c q->∃ p':Fp,(∀ b,p' b<=p b+q b)/\RAs K G H' j xs' p')->SR K H0 σ (ρ.set i (aa (.own xs'))) ts as (upd H l (.lst j)):=by
 obtain⟨⟨p,q,Z,O,B,F⟩,s⟩:=h
 obtain⟨e,Y,w,S,N,L,A⟩:=Z.frz hi λ_ _ _ _=>trivial
 cases O with
 | @cons _ _ _ _ I E _ r rs Q =>
  cases r with
  | av r =>
  cases L with
  | @own l vs _ M _ D J f =>
   refine⟨l,vs,N,D,J.len,λj R=>?_⟩
   have m:e l=1+M l:=by have:=f l;simpa using this
   have ne:∀ b u,p b+q b=0->H b=aa u->b≠l:=λb u z _ y=>by subst y;have:=S b;omega
   have a:Zf (hid H p q) (hid (upd H l (.lst j)) p q):=Wz λb u z w=>⟨z,ne b u z w⟩
   have k1:∀ b o,0<M b->H b=aa o->upd H l (.lst j) b=aa o:=λb o z w=>by
    rw[Zg (λy=>by subst y;have:=B b;have:=S b;omega)];exact w
   have k2:∀ b o,0<q b->H b=aa o->upd H l (.lst j) b=aa o:=λb o z w=>by
    rw[Zg (λy=>by subst y;have:=B b;have:=S b;omega)];exact w
   have k3:∀ b o,0<Y b->H b=aa o->upd H l (.lst j) b=aa o:=λb o z w=>by
    rw[Zg (λy=>by subst y;have:=B b;have:=S b;omega)];exact w
   obtain⟨p',x,g⟩:=R _ _ _ _ (λb o z=>k2 b o (by have:=Q b;omega)) (J.mono a k1) (r.mono a λb o z=>k2 b o (by have:=Q b;omega))
   have z:=A (hid (upd H l (.lst j)) p q) (upd H l (.lst j)) (.ref l) (.own xs') (λb=>(if b=l then 1 else 0)+p' b) (λb=>((if b=l then 1 else 0)+p' b)+Y b) a k3 (.own Zw g λ_=>rfl) (λ_=>rfl)
   rw[VY N] at z
   have T:Zf H0 (upd H l (.lst j)):=s.updF (F l (by have:=S l;omega))
   refine SR.of_le (p:=p) (q:=q) (p':=λb=>((if b=l then 1 else 0)+p' b)+Y b) (q':=E) T B F (λb=>?_) z (rs.monoS a C λb o y=>k2 b o (by have:=Q b;omega))
   have:=x b;have:=f b;have:=S b;have:=Q b
   show ((if b=l then 1 else 0)+p' b)+Y b+E b<=p b+q b
   omega
theorem SR.write{xs':List AV}(h:'!' (v::ts) (.av c::as) H)(C:Stb as)(hi:ρ[i]?=aa (aa (.own xs))) :
  ∃ l vs,σ[i]?=aa (aa (.ref l))/\H l=aa (.lst vs)/\vs.length=xs.length/\∀ j,(∀ G H p q,RAs K G H vs xs p->RA K G H v c q->∃ p':Fp,(∀ b,p' b<=p b+q b)/\RAs K G H j xs' p')->SR K H0 σ (ρ.set i (aa (.own xs'))) ts as (upd H l (.lst j)):=by
 obtain⟨l,vs,S,N,L,A⟩:=h.writeE (xs':=xs') C hi
 exact⟨l,vs,S,N,L,λj R=>A j λG H' p q _=>R G H' p q⟩
theorem RSl.take(r:RSl K G H σ ρ p)(hm:ρ[m]?=aa (aa c)):∃ (p1 p2:Fp) (w:V),(∀ b,p b=p1 b+p2 b)/\σ[m]?=aa (aa w)/\RA K G H w c p1/\RSl K G H σ (ρ.set m none) p2:=by
 induction r generalizing m with
 | nil _=>simp at hm
 | @no o σ ρ p r E =>
  cases m with
  | zero=>simp at hm
  | succ m =>
   obtain⟨p1,p2,w,S,N,L,A⟩:=E (by simpa using hm)
   exact⟨p1,p2,w,S,by simpa using N,L,.no A⟩
 | @so v j σ ρ f h q l r e E =>
  cases m with
  | zero =>
   have:j=c:=by simpa using hm
   subst this
   exact⟨f,h,v,e,rfl,l,.no r⟩
  | succ m =>
   obtain⟨p1,p2,w,S,N,L,A⟩:=E (by simpa using hm)
   exact⟨p1,λb=>f b+p2 b,w,λb=>by have:=e b;have:=S b;dsimp only;omega,by simpa using N,L,.so l A λ_=>rfl⟩
theorem SR.take{m:Nat}{c:AV}(h:'!' ts as H)(hm:ρ[m]?=aa (aa c)):∃ w,σ[m]?=aa (aa w)/\SR K H0 σ (ρ.set m none) (w::ts) (.av c::as) H:=by
 obtain⟨⟨p,q,Z,O,B,F⟩,s⟩:=h
 obtain⟨J,Y,w,S,N,L,A⟩:=Z.take hm
 refine⟨w,N,SR.of_le (p:=p) (q:=q) (p':=Y) (q':=λb=>J b+q b) s B F (λb=>?_) A (.cons (.av L) O λ_=>rfl)⟩
 have:=S b
 show Y b+(J b+q b)<=_
 omega
theorem SR.snocT{ys:List AV}(h:'!' (v::.ref D::ts) (.av c::.av (.own ys)::as) H)(C:Stb as):∃ vs,H D=aa (.lst vs)/\vs.length=ys.length/\'!' (.ref D::ts) (.av (.own (ys++[c]))::as) (upd H D (.lst (vs++[v]))):=by
 obtain⟨⟨p,q,Z,O,B,F⟩,s⟩:=h
 cases O with
 | @cons _ _ _ _ g N _ r rs Q =>
 cases r with
 | av r =>
 cases rs with
 | @cons _ _ _ _ e j _ G rs i =>
 cases G with
 | av G =>
 cases G with
 | @own l vs _ M _ I J f =>
  refine⟨vs,I,J.len,?_⟩
  have m:e D=1+M D:=by have:=f D;simpa using this
  have ne:∀ b u,p b+q b=0->H b=aa u->b≠D:=λb u z _ y=>by subst y;have:=Q b;have:=i b;omega
  have a:Zf (hid H p q) (hid (upd H D (.lst (vs++[v]))) p q):=Wz λb u z w=>⟨z,ne b u z w⟩
  have k1:∀ b o,0<p b+g b+j b+M b->H b=aa o->upd H D (.lst (vs++[v])) b=aa o:=λb o z w=>by
   rw[Zg (λy=>by subst y;have:=B b;have:=Q b;have:=i b;omega)];exact w
  have T:Zf H0 (upd H D (.lst (vs++[v]))):=s.updF (F D (by have:=Q D;have:=i D;omega))
  refine⟨⟨p,λb=>((if b=D then 1 else 0)+(M b+g b))+j b,?_,.cons (.av (.own Zw (RAs.snoc (r.mono ?_ λb o z=>k1 b o (by omega)) (J.mono ?_ λb o z=>k1 b o (by omega))) λ_=>rfl)) (rs.monoS ?_ C λb o z=>k1 b o (by omega)) (λ_=>rfl),?_,?_⟩,T⟩
  all_goals first
   | (refine Z.mono (a.trans (hid_more λb z=>?_)) λb o z=>k1 b o (by omega))
   | (refine a.trans (hid_more λb z=>?_))
   | intro b
  all_goals (try (intro z))
  all_goals (have R:=Q b;have E:=i b;have A:=f b;have x:=B b)
  all_goals first
   | (show p b+(((if b=D then 1 else 0)+(M b+g b))+j b)=0;omega)
   | (show p b+(((if b=D then 1 else 0)+(M b+g b))+j b)<=1;omega)
   | (refine F b ?_;have Y:0<p b+(((if b=D then 1 else 0)+(M b+g b))+j b):=z;omega)
end
section
variable{E:FK}
theorem Ix(hi:ρ[n]?=aa (aa (.own xs)))(h:Ev K E X te ρ λa=>∃ Q,a.sto=aa Q/\xs.length<=1000000/\DV.nx (ρ.set n (aa (.own (xs++[Q]))))):Sv K E X (XD (tBM K "list" SJ (ZN n) (YG te Y0))) ρ DV:=λI U ts as H D st s x f=>by
 obtain⟨l,vs,S,N,L,_⟩:=(s.push (x:=.none) λ_=>.non).write (xs':=xs) st hi
 refine⟨.ref l,S,PQ N (h I U ts as H _ s x λa ⟨Q,e,hz,q⟩ v H' s'=>?_)⟩
 obtain⟨Z,j,y,B,w,b⟩:=(s'.sto e).write (xs':=xs++[Q]) st hi
 rw[S] at y
 cases y
 refine⟨l,j,v,rfl,rfl,B,small6 (by omega),f.nx _ q _ _ (b _ λG H p q g c=>⟨_,λ_=>aq _,RAs.snoc c g⟩)⟩
theorem Iy(hi:ρ[n]?=aa (aa (.own xs)))(h:DV.nx (ρ.set n (aa (.own xs.reverse)))):Sv K E X (XD (UO K "list" SK (ZN n))) ρ DV:=λI U ts as H D st s x f=>by
 obtain⟨l,vs,S,N,L,A⟩:=(s.push (x:=.none) λ_=>.non).write (xs':=xs.reverse) st hi
 refine⟨.ref l,S,PQ N ⟨l,vs,rfl,rfl,N,f.nx _ h _ _ (A _ λG H p q g a=>?_)⟩⟩
 obtain⟨p',Z,O⟩:=g.rev
 exact⟨p',λb=>by have:=Z b;omega,O⟩
theorem Iz(hm:ρ[n]?=aa (aa (.own xs)))(q:DV.rt (.av (.own xs))):Sv K E X (Vy (ZN n)) ρ DV:=λa U ts as H D st s x f=>by
 obtain⟨w,I,M⟩:=s.take hm
 exact⟨w,I,f.rt _ q _ _ _ _ M⟩
end
variable {z:aj}
section
variable{σ:St}{x y:V}
theorem SR.turn{u:V}{f:Nat->aj}(s:'!' (u::ts) (.av (.d z)::as) H)(ok:X3 K J u z n f)(hi:i<n):J.go i H/\∀ x H',J.yld i H x H'->'!' (x::u::ts) (.av (.d (f i))::.av (.d z)::as) H':=by
 have a:=s
 obtain⟨⟨p,q,Z,O,B,F⟩,e⟩:=s
 have U:=SR.lsts Z O
 cases O with
 | @cons _ _ _ _ l E _ r rs Q =>
 cases r with
 | av r =>
 cases r with
 | d W w =>
  obtain⟨I,_⟩:=ok _ H Yh W
  obtain⟨P,R⟩:=I i hi
  refine⟨P,λx H' y=>?_⟩
  obtain⟨S,N⟩:=R x H' y
  have C:=a.ext S
  obtain⟨⟨p',q',k1,k2,k3,T⟩,A⟩:=C
  have m:Zf (hid H p q) (hid H' p q):=Wy S
  refine⟨⟨p,q,Z.mono m (λb o _=>S b o),.cons (.av (.d (p:=λ_=>0) (N (hid H' p q) m λb o M g=>?_) λ_=>rfl)) (.cons (.av (.d (W.same m) w)) (rs.mono m S) Q) (λb=>by simp),B,F⟩,A⟩
  unfold hid
  rw[if_pos]
  ·exact M
  ·rcases aX (p b+q b) with c|c
   ·exact c
   ·obtain⟨vs,y,mu⟩:=U b c;rw[g] at y;cases y
theorem SR.halt{u:V}{f:Nat->aj}(s:'!' (u::ts) (a::as) H)(na:NR a)(b:a.data=z)(ok:X3 K J u z n f)(hi:n<=i):J.stop i H:=(ok H H (.refl H) (b▸s.top na)).2 i hi
end
variable{g:TG}{S:List aj->AV->Prop}{SX:List aj->Exc->Prop}{P:Nat->(Nat->aj)->TV->Prop}
section
variable{E:FK}{i:Int}{t:TS}
theorem SR.frzV{σ:St}(s:'!' (v::ts) (a::as) H):'!' (v::ts) (a.frz::as) H:=by
 cases a with
 | av a=>exact s.frzT
 | bor x=>exact s
 | raw v=>exact s
theorem TV.frz_data(a:TV):a.frz.data=a.data:=by cases a<;>rfl
theorem TV.frz_nr(h:NR a):NR a.frz:=by
 cases a with
 | av a=>exact NR.av
 | bor x=>exact NR.bor
 | raw v=>exact absurd rfl (h v)
theorem IA:X3 K (Itr lo m) .non .none m λi=>.int (lo+i):=λG H P W =>
 ⟨λi C=>⟨C,λx H' ⟨e1,e2⟩=>by subst e1 e2;exact⟨.refl _,λ_ _ _=>.int _⟩⟩,λi C=>C⟩
theorem IB{σ:St}(s:'!' (vs++ts) ([.av (.d (.int i))]++as) H)(D:vs.length=1):vs=[.int i]/\'!' ts as H:=by
 match vs,D with
 | [v],_ =>
  have e:=SR.top_d (v:=v) s
  rw[e.int_inv]
  exact⟨rfl,SR.pop (v:=v) s⟩
theorem Oe{σ:St}(s:'!' (vs++ts) ([.av (.d (.int i)),.av (.d (.int j))]++as) H)(D:vs.length=2):vs=[.int i,.int j]/\'!' ts as H:=by
 match vs,D with
 | [v,w],_ =>
  have M:'!' (v::w::ts) (.av (.d (.int i))::.av (.d (.int j))::as) H:=s
  have S:=M.top_d.int_inv
  have N:=M.pop.top_d.int_inv
  subst S N
  exact⟨rfl,M.pop.pop⟩
theorem Of(h:Ea K E X A ρ λbs=>∃ j,bs=[.av (.d (.int j))]/\(-(2 ^ 62)<=j/\j<2 ^ 62)/\P j.toNat (λi=>.int (0+(i:Int))) (.av (.d .none))):Iv K E X (UI A) ρ P:=λI U ts as H R s x k =>
 h I U ts as H _ s x λbs ⟨j,e,hj,q⟩ vs H' s' hl=>by
  subst e
  obtain⟨rfl,T⟩:=IB s' hl
  exact⟨j,rfl,hj.1,hj.2,k _ _ _ q .non _ H' (λ_ z=>nomatch z) (T.push λ_=>.non) IA⟩
theorem Tc{tb:TS}(h:Iv K E X wi ρ λn f hd=>(∃ z,hd=.av (.d z))/\∃ Iv:Nat->Sl->Prop,Iv 0 ρ/\(∀ i L,i<n->Iv i L->Gv K g (f i) L λl=>Sv K E X tb l { nx:=Iv (i+1),ct:=Iv (i+1),bk:=DV.nx,rt:=DV.rt })/\∀ L,Iv n L->DV.nx L):Sv K E X (WZ wi g tb) ρ DV:=λI U ts as H D st s x f =>
 h I U ts as H _ s x λn ft hd ⟨⟨z,ez⟩,Iw,i0,turn,fin⟩ u J H' _ s' ok=>by
  subst ez
  refine⟨λi m j H'=>m=n-i/\i<=n/\∃ L,Iw i L/\SR K I j L (u::ts) (.av (.d z)::as) H',⟨n,by simp,bP _,ρ,i0,s'⟩,?_⟩
  rintro i m σ1 H1 ⟨rfl,hi,ρ1,i1,s1⟩
  by_cases F:i<n
  ·obtain⟨M,P⟩:=s1.turn ok F
   refine .inr ⟨M,λN w=>∃ L,Iw (i+1) L/\SR K I N L (u::ts) (.av (.d z)::as) w,λN w p=>⟨n-(i+1),by omega,rfl,F,p⟩,λy w B=>?_⟩
   refine turn i ρ1 F i1 I σ1 _ _ w y _ (P y w B) λr b O S C=>?_
   exact b I O _ _ S _ (Stb.cons st) C x ⟨λc q A G R=>⟨c,q,R⟩,λc q A G R=>f.nx c q A G R.pop,λc q A G R=>⟨c,q,R⟩,λa q v A c G R=>f.rt a q v A c G R.swap.pop⟩
  ·have e:i=n:=by omega
   subst e
   exact .inl ⟨s1.halt NR.av rfl ok (aq _),f.nx _ (fin _ i1) _ _ s1.pop⟩
theorem IC{tb:TS}(Iv:Nat->Sl->Prop)(a:Nat)(v:Iv a ρ)
  (h:∀ m L,Iv m L->Tv K E X tc L λb=>if b=ak then Sv K E X tb L { nx:=λr=>∃ B,B < m/\Iv B r,ct:=λr=>∃ B,B < m/\Iv B r,bk:=DV.nx,rt:=DV.rt } else DV.nx L):Sv K E X (Sy tc tb) ρ DV:=λI U ts as H D st s x f=>by
 refine⟨λm j H'=>∃ L,Iv m L/\SR K I j L ts as H',⟨a,ρ,v,s⟩,?_⟩
 rintro m σ1 H1 ⟨ρ1,i1,s1⟩
 refine h m ρ1 i1 I σ1 ts as H1 _ s1 x λb q w T=>?_
 cases b with
 | true =>
  rw[if_pos rfl] at q ⊢
  exact⟨λj H'=>∃ B,B < m/\∃ L,Iv B L/\SR K I j L ts as H',λj H' ⟨B,l,z⟩=>⟨B,l,z⟩,q I σ1 ts as w _ st T x ⟨λc ⟨B,l,z⟩ A G R=>⟨B,l,c,z,R⟩,λc q A G R=>f.nx c q A G R,λc ⟨B,l,z⟩ A G R=>⟨B,l,c,z,R⟩,f.rt⟩⟩
 | false =>
  rw[if_neg aA] at q ⊢
  exact f.nx _ q _ _ T
def AV.sh:AV->AV
 | .obj φ=>.obj φ
 | .d x=>.d x
 | .own xs=>.d (.list (AV.datas xs))
 | .tup xs=>.d (.tuple (AV.datas xs))
 | .dic kvs=>.d (.dict kvs)
def ZG(cap:List (Option Nat))(ρ:Sl):Sl:=cap.map λo=>match o with
 | none=>none
 | some j=>(ρ[j]?).join.map AV.sh
theorem SR.at{σ:St}{j:Nat}(s:'!' ts as H)(h:ρ[j]?=aa (aa c)):∃ v,σ[j]?=aa (aa v)/\Rep K H v c.data:=by
 obtain⟨v,e,_,M⟩:=s.var h
 exact⟨v,e,M.top (a:=.bor c.data) NR.bor⟩
theorem SR.atO{σ:St}{j:Nat}(s:'!' ts as H)(h:ρ[j]?=aa (aa (.obj φ))):∃ v,σ[j]?=aa (aa v)/\φ v H/\∀ G1 G2:Hp,Zf G1 G2->φ v G1->φ v G2:=by
 obtain⟨⟨p,q,Z,O,B,F⟩,e⟩:=s
 obtain⟨J,Y,v,S,N,L,A⟩:=Z.frz h λ_ _ _ _=>trivial
 cases L with
 | obj f m z=>exact⟨v,N,m _ _ Yh f,m⟩
theorem RSl.cap{H0 H G H2:Hp}{σ:St}{ts:List V}{as:List TV}(s:'!' ts as H)(m:Zf H G):∀ cap:List (Option Nat),RSl K G H2 (Yg cap σ) (ZG cap ρ) λ_=>0
 | []=>.nil λ_=>rfl
 | none::cap=>.no (RSl.cap s m cap)
 | some j::cap=>by
  cases e:(ρ[j]?).join with
  | none =>
   have:ZG (aa j::cap) ρ=none::ZG cap ρ:=by simp[ZG,e]
   rw[this]
   exact .no (RSl.cap s m cap)
  | some c =>
   have a:ρ[j]?=aa (aa c):=by
    cases z:ρ[j]? with
    | none=>rw[z] at e;cases e
    | some o=>rw[z] at e;cases o with
     | none=>cases e
     | some w=>cases e;rfl
   have C:ZG (aa j::cap) ρ=aa c.sh::ZG cap ρ:=by simp[ZG,e]
   rw[C]
   cases c with
   | obj g =>
    obtain⟨v,S,N,L⟩:=s.atO a
    have:Yg (aa j::cap) σ=aa v::Yg cap σ:=by simp[Yg,S]
    rw[this]
    exact .so (.obj (L _ _ m N) L λ_=>rfl) (RSl.cap s m cap) λ_=>rfl
   | _ =>
    obtain⟨v,S,N⟩:=s.at a
    have:Yg (aa j::cap) σ=aa v::Yg cap σ:=by simp[Yg,S]
    rw[this]
    exact .so (.d (N.same m) λ_=>rfl) (RSl.cap s m cap) λ_=>rfl
def Got(c:AV)(a:TV):Prop:=(c.clean=ak/\a=.av c)\/a=.bor c.data
theorem Got.own{c:AV}(h:c.clean=ak):Got c (.av c):=.inl ⟨h,rfl⟩
theorem Got.br:Got c (.bor c.data):=.inr rfl
theorem SR.gotG{σ:St}(h:'!' ts as H)(r:Rs K H H' v c)(g:Got c a):'!' (v::ts) (a::as) H':=by
 rcases g with⟨Y,rfl⟩|rfl
 ·exact h.got r Y
 ·exact h.gotB r
theorem SR.rs{σ:St}(h:'!' (v::ts) (.av c::as) H):Rs K H0 H v c:=by
 obtain⟨⟨p,q,Z,O,B,F⟩,e⟩:=h
 cases O with
 | @cons _ _ _ _ l E _ r rs Q =>
 cases r with
 | av r=>exact⟨e,l,λb=>by have:=Q b;have:=B b;omega,λb z=>F b (by have:=Q b;omega),r.mono (hid_more λb z=>by have:=Q b;simp;omega) λ_ _ _ z=>z⟩
theorem Og{cap:List (Option Nat)}(h:Iv K E X wi ρ λn f _=>n<=1000000/\∃ y:Nat->Option AV,(∀ i,i<n->Gv K g (f i) (ZG cap ρ) λL=>Wk L (ZG cap ρ)/\Tv K E NE tt L λb=>if b=ak then Ev K E NE te L λa=>∃ c,y i=aa c/\a.sto=aa c else y i=none) /\
  ∃ a,Got (.own ((aD n).filterMap y)) a/\Q a):Ev K E X (Xe cap wi g tt te) ρ Q:=λH0 U ts as H QV s x k =>
 h H0 U ts as H _ s x λn f hd ⟨hn,y,turn,a,hg,q⟩ u J H1 nr s1 ok D hD=>by
  have W:XOk K E NE H1:=XOk.ne (x.t.same s1.same)
  have A:Zf H1 (upd H1 D (.lst [])):=Yk hD
  have st:Stb [TV.av (.d hd.data)]:=Stb.cons Stb.nil
  have start:SR K H1 (Yg cap U) (ZG cap ρ) [.ref D,u] [.av (.own []),.av (.d hd.data)] (upd H1 D (.lst [])):=by
   have m:Zf H1 (hid (upd H1 D (.lst [])) (λ_=>0) λb=>if b=D then 1 else 0):=λb o e=>by
    have M:b≠D:=Z5 e hD
    unfold hid
    simp[M]
    rw[Zg M]
    exact e
   refine⟨⟨λ_=>0,λb=>if b=D then 1 else 0,RSl.cap s1 m cap,.cons (.av (.own Zw (.nil (p:=λ_=>0) λ_=>rfl) (q:=λb=>if b=D then 1 else 0) λb=>by simp)) (.cons (.av (.d (p:=λ_=>0) ((s1.top nr).same m) λ_=>rfl)) (.nil (p:=λ_=>0) λ_=>rfl) (r:=λ_=>0) λb=>by simp) (λb=>by simp),λb=>by simp;split<;>omega,λb z=>?_⟩,A⟩
   by_cases M:b=D
   ·rw[M];exact hD
   ·simp[M] at z
  refine⟨λi m j H'=>m=n-i/\i<=n/\SR K H1 j (ZG cap ρ) [.ref D,u] [.av (.own ((aD i).filterMap y)),.av (.d hd.data)] H',⟨n,by simp,bP _,start⟩,?_⟩
  rintro i m σ2 H2 ⟨rfl,hi,s2⟩
  by_cases F:i<n
  ·obtain⟨I,P⟩:=s2.swap.turn ok F
   refine .inr ⟨I,λj H'=>SR K H1 j (ZG cap ρ) [.ref D,u] [.av (.own ((aD (i+1)).filterMap y)),.av (.d hd.data)] H',λj H' p=>⟨n-(i+1),by omega,rfl,F,p⟩,λw S R=>?_⟩
   have C:=P w S R
   refine turn i F H1 σ2 _ _ S w _ C λρ4 ⟨wk,tv⟩ σ4 H4 s4=>?_
   refine tv H1 σ4 _ _ H4 _ s4 W λb N G v=>?_
   cases b with
   | true =>
    rw[if_pos rfl] at N ⊢
    refine N H1 σ4 _ _ G _ v W λa ⟨c,e1,e2⟩ z H6 s6=>?_
    have l:=(s6.sto e2)
    have Y:SR K H1 σ4 ρ4 [z,.ref D,u] [.av c,.av (.own ((aD i).filterMap y)),.av (.d hd.data)] H6:=by
     obtain⟨⟨p,q,k1,k2,k3,T⟩,e⟩:=l
     refine⟨⟨p,q,k1,?_,k3,T⟩,e⟩
     cases k2 with
     | cons r rs eq=>exact .cons r rs.swap eq
    obtain⟨vs,Z,O,B⟩:=Y.snocT st
    refine⟨vs,Z,small6 ?_,?_⟩
    ·rw[O]
     exact aT (List.length_filterMap_le _ _) (by rw[b9];omega)
    ·have:=wk _ _ _ _ _ _ B
     rw[eI,ll]
     simpa [e1] using this
   | false =>
    rw[if_neg aA] at N ⊢
    have:=wk _ _ _ _ _ _ v.swap
    rw[eI,ll]
    simpa [N] using this
  ·have e:i=n:=by omega
   subst e
   exact .inl ⟨s2.swap.halt NR.av rfl ok (aq _),k _ q _ _ (s1.pop.gotG s2.rs hg)⟩
def spV(K:aJ)(S:List aj->AV->Prop)(SX:List aj->Exc->Prop):Sp:=λvs H Q E=>XL H/\∃ ds,Reps K H vs ds /\
 ((∃ c,S ds c/\∀ v H',Rs K H H' v c->Q v H')\/∃ e,SX ds e/\∀ c d H',Zf H H'->U9 K H' e c d->E c d H')
theorem SR.reps{H0 H:Hp}{σ:St}:∀ {vs:List V} {bs:List TV} {ts:List V} {as:List TV},(∀ b∈bs,NR b)->vs.length=bs.length->'!' (vs++ts) (bs++as) H->Reps K H vs (bs.map TV.data)/\'!' ts as H
 | [],[],_,_,_,_,s=>⟨.nil,s⟩
 | v::vs,b::bs,ts,as,hb,e,s=>by
  have M:'!' (v::(vs++ts)) (b::(bs++as)) H:=s
  obtain⟨Z,O⟩:=SR.reps (λc Y=>hb c (.tail _ Y)) (by simpa using e) M.pop
  exact⟨.cons (M.top (hb b (.head _))) Z,O⟩
inductive NRs:List TV->Prop
 | nil:NRs []
 | cons {b:TV} {bs:List TV}:NR b->NRs bs->NRs (b::bs)
theorem NRs.all{bs:List TV}(h:NRs bs):∀ b∈bs,NR b:=by
 induction h with
 | nil=>exact λ_ z=>nomatch z
 | cons h _ E=>intro b M;rcases gh.mp M with e|e;exact e▸h;exact E b e
def dvD:V->Option aj
 | .int i=>aa (.int i)
 | .bl b=>aa (.bool b)
 | .str x=>aa (.str x)
 | .non=>aa .none
 | _=>none
theorem ID{d:aj}(h:dvD v=aa d):Rep K H v d:=by
 cases v<;>simp[dvD] at h<;>subst h<;>constructor
inductive DvDs:List V->List aj->Prop
 | nil:DvDs [] []
 | cons {v:V} {d:aj} {vs:List V} {ds:List aj}:dvD v=aa d->DvDs vs ds->DvDs (v::vs) (d::ds)
theorem DvDs.reps(h:DvDs vs ds):Reps K H vs ds:=by
 induction h with
 | nil=>exact .nil
 | cons h _ E=>exact .cons (ID h) E
def Res(a:TV)(c:AV):Prop:=a=.av c\/(NR a/\c=.d a.data)
theorem SR.start{N:List aQ}{vs:List V}{ds:List aj}{H:Hp}(h:Reps K H vs ds):SR K H (start N vs) (ds.map (λd=>aa (.d d))++aB (N.length-ds.length) none) [] [] H:=by
 have D:=h.length
 refine⟨⟨λ_=>0,λ_=>0,?_,.nil λ_=>rfl,λ_=>by simp,λb z=>by simp at z⟩,.refl H⟩
 have X:hid H (λ_=>0) (λ_=>0)=H:=by funext b;simp[hid]
 rw[X]
 unfold L2.start
 rw[D]
 clear D
 generalize N.length-ds.length=m
 induction h using Reps.rec (motive_1:=λ_ _ _=>True) with
 | nil =>
  simp only[iF,lj]
  induction m with
  | zero=>exact .nil λ_=>rfl
  | succ m E=>exact .no E
 | cons r rs _ E=>exact .so (.d r λ_=>rfl) E λ_=>rfl
 | _=>trivial
theorem IE{E:XK}(sp:spV K S SX vs H Qv E)
  (h:∀ ds,(∀ c,S ds c->Sv K (toF E) NE t (ds.map (λd=>aa (.d d))++aB (N.length-ds.length) none) { nx:=λ_=>c=.d .none,rt:=λa=>Res a c }) /\
   ∀ e,SX ds e->Sv K (toF E) (λA _=>A=e) t (ds.map (λd=>aa (.d d))++aB (N.length-ds.length) none) { nx:=λ_=>False,rt:=λ_=>False }) :
  t { nx:=λ_ H'=>Qv .non H',rt:=Qv } (L2.start N vs) H:=by
 obtain⟨T,ds,W,q⟩:=sp
 rcases q with⟨c,Z,O⟩|⟨e,Z,O⟩
 ·refine (h ds).1 c Z H _ [] [] H _ Stb.nil (SR.start W) (XOk.ne T) ⟨λY q j H' M=>?_,λ_ z=>z.elim,λ_ z=>z.elim,λa q v j L H' M=>?_⟩
  ·rw[show c=.d .none from q] at O
   exact O _ _ (SR.rs (v:=.non) (M.push λ_=>.non))
  ·rcases q with rfl|⟨nr,rfl⟩
   ·exact O _ _ M.rs
   ·refine O _ _ ⟨M.same,λ_=>0,λ_=>by simp,λb z=>by simp at z,.d ?_ λ_=>rfl⟩
    have X:hid H' (λ_=>0) (λ_=>0)=H':=by funext b;simp[hid]
    rw[X]
    exact M.top nr
 ·exact (h ds).2 e Z H _ [] [] H _ Stb.nil (SR.start W) ⟨λA L z c d j w P l=>by subst z;exact O c d w P.same l,T⟩ ⟨λ_ z=>z.elim,λ_ z=>z.elim,λ_ z=>z.elim,λ_ z=>z.elim⟩
end
variable{A:cG}{cs:List Bool}{zs:List aQ}{ws:List ag}{Pv:Nat->ag->Prop}
section
variable{X:Cx}
def Td(K:aJ):R2:=λx y H Q=>∃ l b xs zs,x=.ref l/\y=.ref b/\SqL K H l xs/\SqL K H b zs/\xs.length+zs.length<=sizeLine/\∀ p,H p=none->Q (.ref p) (upd H p (.lst (xs++zs)))
theorem IF(hK:X.K=K):OpR X (c4 .Add) (Td K):=by
 subst hK
 intro a s U H x y v u Q I A R h
 obtain⟨l,b,xs,zs,rfl,rfl,W,j,hz,q⟩:=h
 cases A
 cases R
 obtain⟨L,g,J,_⟩:=I.list W
 obtain⟨F,G,Y,_⟩:=I.list j
 obtain⟨⟨D,O,p,C⟩,w,e,S,Z,k1⟩:=J
 obtain⟨⟨m,B,t2,T⟩,i,P,N,c,k2⟩:=Y
 cases S;cases Z;cases k1;cases N;cases c;cases k2
 have r:=g.length
 have f:=G.length
 have M:L.toArray++F.toArray=(L++F).toArray:=by simp
 refine jS ⟨_,e,rfl⟩ ⟨_,P,rfl⟩ noFill_list_add seq_list_add PySem.F.slot_list_add PySem.F.entry_list_add (PySem.F.args_list_add_2 _ _) (list_addW l b L.toArray F.toArray w i _ _ C T (by rw[aR,aR];omega)) ⟨e,P,?_⟩
 rw[M]
 exact⟨.ref _,_,I.lnew (t':=s.toks) (g.append G) (by rw[ay];exact hz),rfl,q _ I.fresh⟩
def Oh(K:aJ):List V->Hp->VK->Prop:=λvs H Q=>∃ (p:ao) (cs:List Bool),vs=[.ref p]/\SqL K H p (cs.map V.bl)/\Q (.bl (cs.all id)) H
theorem Oi:∀ {cs:List Bool} {us:List ag} {i:Nat} {v:ag},Zi (cs.map V.bl) us->us[i]?=aa v->v=.bool (cs.getD i aF)
 | [],_,_,_,.nil,e=>by simp at e
 | c::cs,_,0,v,.cons r _,e=>by simp at e;subst e;exact r
 | c::cs,_,i+1,v,.cons _ t,e=>by simpa using Oi (i:=i) t (by simpa using e)
theorem IG(cs:List Bool):(aD cs.length).all (λi=>cs.getD i aF)=cs.all id:=by
 rw[eY,gi,gi]
 constructor
 ·intro h c Y
  obtain⟨i,C,e⟩:=iL Y
  have:=h i (mem_range.mpr C)
  rw[am,ai C] at this
  simpa [e] using this
 ·intro h i C
  have C:=mem_range.mp C
  rw[am,ai C]
  exact h _ (aV C)
theorem IH{P:bC}(r:Zi (cs.map V.bl) us):TruthOf P w A (λi v=>us.toArray[i]?=aa v) (λi=>cs.getD i aF):=λi v s Q E N q=>by
 have:=Oi (i:=i) (v:=v) r (by simpa using N)
 subst this
 exact bT q
theorem S8(hK:X.K=K)(Y:X.calm=ak):ZD X (.builtin "all") (Oh K):=by
 subst hK
 intro L s U H vs us Q I r h
 obtain⟨p,cs,rfl,T,q⟩:=h
 obtain⟨u,rfl,N⟩:=vals1 r
 cases N
 obtain⟨f,rs,pl,_⟩:=I.list T
 have D:=pl.isList
 have F:p<s.heap.objs.size:=by obtain⟨_,e,_⟩:=D;exact ax e
 refine call_all_walk (gV D ?_)
 refine⟨s.heap.objs.size,_,_,_,_,_,λi=>cs.getD i aF,rfl,lH (A:=X.A.in1) (I.ok.hd Y) _ p (aE F) f.toArray,⟨⟨_,az _ rfl,rfl,rfl⟩,D.push _⟩,IH rs,λh' tk R=>?_⟩
 have e:f.toArray.size=cs.length:=by rw[aR,<- rs.length,ah]
 rw[e,IG]
 exact⟨.bl _,H,I.kept (t':=tk) (λb o z=>R b o (by simp;exact aE (ax z)) (ae _ z)),rfl,q⟩
section
variable{P:bC}{J S:ao}{f1 f2:List ao}{Sv:Nat->bO->Prop}{dn:List (aQ×ag)}
theorem Te:(toString "max" ++ toString ".loop" : String) = "max.loop" := by decide
theorem II(W:Walks P w A.in1 J f1 f2 m Pv Sv)(f:Nat->Nat->Bool)(hb:CmpOf P w A.in1 .Gt Pv f)(C:S∉f1):∀ (left j:Nat) (s:ar) (top:ag) (cap:Nat),m-(j+1)=left->j+1<=m->Sv (j+1) s.heap->Pv (jU f j) top ->
  s.heap.get? S=aa { cls:=.type "list",dict:=none,data:=.seq #[top,top] cap,slots:=#[] } ->
  (∀ v h' tk,Pv (jU f (m-1)) v->(∀ b o,b∉f2->b≠S->s.heap.get? b=aa o->h'.get? b=aa o)->R (.ok (.ret v)) { s with heap:=h',toks:=tk }) ->
  fZ (aH P w) A (.builtin "max.loop" ⟨[.ref J,.none,.ref S],dn⟩) R s:=by
 have l:S∉f2:=λz=>C (W.sub _ z)
 intro left
 induction left with
 | zero =>
  intro j s top cap q N st pt K H
  have a:j+1=m:=by omega
  refine db gM ?_
  rw[cE cF _]
  show aw _ A.in1 (j9 (.ref S) >>= _) _ _ s
  refine ac (cc K rfl ?_)
  show aw _ A.in1 (ni (fU (.ref J)) _ >>= _) _ _ s
  refine ac (gJ (W.done s _ _ (by rw[<- a];exact st) λZ p k1=>?_))
  have e:=k1 S _ l K
  show aw _ A.in1 (lX S (λ_=>#[]) >>= _) _ _ _
  refine ac ?_
  refine gu e rfl (ac (gc (af (H top _ p (by rw[<- a];exact pt) λb o i M u=>?_))))
  rw[bd _ _ (bR M)]
  exact k1 b o i u
 | succ left E =>
  intro j s top cap q N st pt K H
  have a:j+1<m:=by omega
  refine db gM ?_
  rw[cE cF _]
  show aw _ A.in1 (j9 (.ref S) >>= _) _ _ s
  refine ac (cc K rfl ?_)
  show aw _ A.in1 (ni (fU (.ref J)) _ >>= _) _ _ s
  refine ac (gJ (W.item (j+1) s _ _ a st λv Z p pv x k1=>?_))
  have e:=k1 S _ l K
  show aw _ A.in1 (ni (jQ [v,v] (richCompare .Gt v top >>= _)) _ >>= _) _ _ _
  refine ac (gJ (bF (ac (hb (j+1) (jU f j) v top _ _ _ pv pt (ac (bF (bT (ac (gc (af ?_))))))))))
  cases c:f (j+1) (jU f j) with
  | true =>
   simp only[if_true]
   refine ac ?_
   refine gu e rfl (ac (gc ?_))
   rw[Te]
   refine af ⟨dO cF _,E (j+1) _ v _ (by omega) a (W.frame _ _ _ x λb h o z=>?_) (by simp only[jU,c,if_true];exact pv) (a8 _ e rfl) λg O t2 Y k2=>H g O t2 Y λb o i M u=>k2 b o i M ?_⟩
   ·rw[bd _ _ (λy:S=b=>C (y▸h))];exact z
   ·rw[bd _ _ (bR M)];exact k1 b o i u
  | false =>
   simp only[bn,if_false]
   refine ac (gc ?_)
   rw[Te]
   exact af ⟨dO cF _,E (j+1) _ top cap (by omega) a x (by simp only[jU,c,bn,if_false];exact pt) e λg O t2 Y k2=>H g O t2 Y λb o i M u=>k2 b o i M (k1 b o i u)⟩
end
def S9(K:aJ):List V->List V->Hp->VK->Prop:=λvs zs H Q=>∃ (p:ao) (ns:List Int) (d:Int),vs=[.ref p]/\zs=[.int d]/\SqL K H p (ns.map V.int)/\∀ M:Int,((ns=[]/\M=d)\/(M∈ns/\∀ c∈ns,c<=M))->Q (.int M) H
theorem Oj:∀ {ns:List Int} {us:List ag} {i:Nat} {v:ag},Zi (ns.map V.int) us->us[i]?=aa v->∃ t,v=.int (ns.getD i 0) t
 | [],_,_,_,.nil,e=>by simp at e
 | c::cs,_,0,v,.cons r _,e=>by simp at e;subst e;exact r
 | c::cs,_,i+1,v,.cons _ t,e=>by simpa using Oj (i:=i) t (by simpa using e)
theorem IJ(a v:ag):mD "max" ⟨[a],[("default",v)]⟩:=by unfold mD;kernel_rfl
theorem IK{σ:St}{zs:List V}{Q:VK}(Y:X.calm=ak)(I:'#')(r:Zi vs us)(rz:Zi zs ws)(h:S9 X.K vs zs H Q) :
  aw (aH X.prog X.w) X.A (iP (.builtin "max") us ((["default"]:List aQ).zip ws)) (EP X pins σ Q) X.xe s:=by
 obtain⟨p,ns,d,rfl,rfl,T,q⟩:=h
 obtain⟨u,rfl,N⟩:=vals1 r
 cases N
 obtain⟨z,rfl,t,rfl⟩:=vals1 rz
 obtain⟨f,rs,pl,hz⟩:=I.list T
 have D:=pl.isList
 have F:p<s.heap.objs.size:=by obtain⟨_,e,_⟩:=D;exact ax e
 have e:f.length=ns.length:=by rw[<- rs.length,ah]
 have W:=lH (prog:=X.prog) (w:=X.w) (A:=X.A.in1) (I.ok.hd Y) s.heap.objs.size p (aE F) f.toArray
 refine kmk_tree PySem.F.kind_max PySem.F.plain_max PySem.F.entry_max (IJ _ _) ?_
 show aw _ X.A.in1 (ig "max" ["key", "default"] 0 ⟨[],[("default",.int d t)]⟩ >>= _) _ _ s
 refine ac (ki (show ig "max" ["key", "default"] 0 ⟨[],[("default",.int d t)]⟩=ej [none,aa (.int d t)] from rfl) (ac (af (ac (gV D (ac (wpAny_newList ?_ (bP _))))))))
 rw[Te]
 have P:(s.heap.push { cls:=.type "list_iterator",data:=.fields #[.ref p,.int 0 0] }).IsListIter s.heap.objs.size p 0:=⟨_,az _ rfl,rfl,rfl⟩
 have E:(s.heap.push { cls:=.type "list_iterator",data:=.fields #[.ref p,.int 0 0] }).objs.size=s.heap.objs.size+1:=by rw[bz]
 generalize J:s.heap.push { cls:=.type "list_iterator",data:=.fields #[.ref p,.int 0 0] }=Z at P E
 have k1:∀ b o,s.heap.get? b=aa o->Z.get? b=aa o:=λb o z=>by rw[<- J];exact ae _ z
 have hl1:Z.IsList p f.toArray:=by rw[<- J];exact D.push _
 have x:(Z.push { cls:=.type "list",data:=.seq #[] }).IsListIter s.heap.objs.size p 0/\(Z.push { cls:=.type "list",data:=.seq #[] }).IsList p f.toArray:=⟨let ⟨o,g,r⟩:=P;⟨o,ae _ g,r⟩,hl1.push _⟩
 have K:(Z.push { cls:=.type "list",data:=.seq #[] }).get? Z.objs.size=aa { cls:=.type "list",dict:=none,data:=.seq #[] 0,slots:=#[] }:=az _ rfl
 have U:Z.objs.size∉[s.heap.objs.size,p]:=λz=>by
  rcases gh.mp z with z|z
  ·rw[E] at z;exact Nat.succ_ne_self _ z
  ·rw[E] at z;exact cA _ (Nat.lt_trans (dg _) ((f_.mp z)▸F))
 have k2:∀ h':bO,(∀ b o,b∉[s.heap.objs.size]->b≠Z.objs.size->(Z.push { cls:=.type "list",data:=.seq #[] }).get? b=aa o->h'.get? b=aa o)->∀ b o,s.heap.get? b=aa o->h'.get? b=aa o:=λh' k b o z=>by
  have:=ax z
  exact k b o (by simp;exact aE this) (by rw[E];exact aE (bp this)) (ae _ (k1 b o z))
 refine af ⟨dO cF _,?_⟩
 refine db gM ?_
 rw[cE cF _]
 show aw _ X.A.in1 (j9 (.ref Z.objs.size) >>= _) _ _ _
 refine ac (cc K rfl ?_)
 show aw _ X.A.in1 (ni (fU (.ref s.heap.objs.size)) _ >>= _) _ _ _
 by_cases hn:ns=[]
 ·have z0:f.toArray.size=0:=by rw[aR,e,hn];rfl
  rw[z0] at W
  refine ac (gJ (W.done _ _ _ x λO t2 kk=>?_))
  refine ac (dm (af ?_))
  exact⟨.int d,H,I.kept (t':=t2) (k2 O λb o z1 M z3=>kk b o z1 z3),⟨t,rfl⟩,q d (.inl ⟨hn,rfl⟩)⟩
 ·have L:0<f.toArray.size:=by rw[aR,e];exact List.length_pos_iff.mpr hn
  refine ac (gJ (W.item 0 _ _ _ L x λv O t2 pv G kk=>?_))
  have a:=kk Z.objs.size _ (by rw[E];simp) K
  show aw _ X.A.in1 (lX Z.objs.size (λ_=>#[v,v]) >>= _) _ _ _
  refine ac ?_
  refine gu a rfl ?_
  rw[Te]
  have m:∀ (i:Nat) (v:ag),f.toArray[i]?=aa v->∃ t,v=f8 (ns.getD i 0) t:=λi v z=>Oj (i:=i) (v:=v) rs (by simpa using z)
  refine af ⟨dO cF _,II (S:=Z.objs.size) W _ (CmpOf.ints_gt (λi=>ns.getD i 0) m) U _ 0 _ v _ rfl L (W.frame _ _ _ G λb zb o z=>?_) pv (a8 _ a rfl) λv3 B t3 p3 k3=>?_⟩
  ·rw[bd _ _ (λy:Z.objs.size=b=>U (y▸zb))];exact z
  ·obtain⟨t4,rfl⟩:=m _ _ p3
   obtain⟨b1,l⟩:=argBest_gt (λi=>ns.getD i 0) (f.toArray.size-1)
   have R:f.toArray.size=ns.length:=by rw[aR,e]
   refine⟨.int _,H,I.kept (t':=t3) (k2 B λb o z1 M z3=>k3 b o z1 M ?_),⟨t4,rfl⟩,q _ (.inr ⟨?_,λc Y=>?_⟩)⟩
   ·rw[bd _ _ (bR M)];exact kk b o z1 z3
   ·have C:jU (λi j=>decide (ns.getD i 0 > ns.getD j 0)) (f.toArray.size-1)<ns.length:=by omega
    rw[am,ai C]
    exact aV C
   ·obtain⟨i,C,ei⟩:=iL Y
    have:=l i (by omega)
    rw[am (i:=i),ai C] at this
    simpa [ei] using this
def tCBK(r:List V->List V->Hp->VK->Prop)(t tk:TA):TE:=λσ H Q=>t σ H λvs H1=>tk σ H1 λzs H2=>r vs zs H2 Q
theorem IL{d:dW}{p kpos:md}{t tk:TA}(hK:X.K=K)(Y:X.calm=ak)(A:Gl X "max")(hm:X.mg "max" = none)(ha:PA X [e] t)(R:PK X [⟨aa "default",d,kpos⟩] tk)
  (G:dC pos (aY [e] X.env)=(aF,dz e X.env)::dC pos (aY [] X.env):=by rfl)
  (m:(dC pos (aY [e] X.env)).any (·.1)=false:=by rfl) :
  PE X (.Call (.Name "max" p) [e] [⟨aa "default",d,kpos⟩] pos) (tCBK (S9 K) t tk):=by
 subst hK
 intro L s U H Q I h
 refine dt (XW I A hm gA ?_ (by decide) (by decide))
 refine callWith_kw (thn (ha pos L s U H _ I h) λus s1 ⟨vs,H1,I1,r,q⟩=>?_) G m rfl rfl
 exact thn (R pos L s1 U H1 _ I1 q) λws s2 ⟨zs,H2,I2,rz,q2⟩=>IK Y I2 r rz q2
end
theorem len1{vs:List α}(h:vs.length=1):∃ v,vs=[v]:=List.length_eq_one_iff.mp h
theorem len2{vs:List α}(h:vs.length=2):∃ v w,vs=[v,w]:=by
 cases vs with
 | nil=>cases h
 | cons v vs =>
  obtain⟨w,e⟩:=len1 (iK h)
  exact⟨v,w,by rw[e]⟩
variable{es:List aj}
section
variable{E:FK}{i:Int}{t:TS}{σ:St}
theorem Ym(s:'!' (vs++ts) ([a]++as) H)(D:vs.length=1):∃ v,vs=[v]/\'!' (v::ts) (a::as) H:=by
 obtain⟨v,rfl⟩:=len1 D
 exact⟨v,rfl,s⟩
theorem Ra(s:'!' (vs++ts) ([a,b]++as) H)(D:vs.length=2):∃ v w,vs=[v,w]/\'!' (v::w::ts) (a::b::as) H:=by
 obtain⟨v,w,rfl⟩:=len2 D
 exact⟨v,w,rfl,s⟩
theorem IM(ha:a.data=.list ds)(q:Q (.av (.d (.int ds.length))))(na:NR a:=by first|exact NR.av|exact NR.bor):Bi K E X (XZ K) [a] Q:=λI U Y ts as H vs QV s D _ k=>by
 obtain⟨v,rfl,s⟩:=Ym s D
 exact Jw (ha▸s.top na) (k _ q _ H (s.pop.int _))
theorem IN(ha:a.data=.tuple ds)(q:Q (.av (.d (.int ds.length))))(na:NR a:=by first|exact NR.av|exact NR.bor):Bi K E X (XZ K) [a] Q:=λI U Y ts as H vs QV s D _ k=>by
 obtain⟨v,rfl,s⟩:=Ym s D
 exact Jx (ha▸s.top na) (k _ q _ H (s.pop.int _))
theorem Ol(ds:List aj):AV.datas (ds.map AV.d)=ds:=by
 induction ds with
 | nil=>rfl
 | cons d ds E=>rw[bw,AV.datas,E];rfl
theorem IO(h:noLsts ds=ak):∀ d∈ds,ZH d=true:=by
 induction ds with
 | nil=>exact λ_ z=>nomatch z
 | cons x ds E =>
  simp only[noLsts,aP] at h
  intro d hd
  rcases gh.mp hd with e|e
  ·exact e▸h.1
  ·exact E h.2 d e
theorem IP(h:∀ d∈ds,ZH d=ak):noLsts ds=true:=by
 induction ds with
 | nil=>rfl
 | cons x ds E=>simp only[noLsts,aP];exact⟨h x (.head _),E λd hd=>h d (.tail _ hd)⟩
theorem SR.items(s:'!' (v::ts) (a::as) H)(h:a=.av (.d a.data)\/noLsts es=ak)(P:List V->Prop)(W:∀ G,Rep K G v a.data->Zf G H->∃ xs,P xs/\Reps K G xs es)(na:NR a):∃ xs,P xs/\xs.length=es.length/\'!' (xs++ts) ((es.map AV.d).map TV.av++as) H:=by
 have fin:∀ {p q:Fp} {xs:List V} {es:List aj},Reps K (hid H p q) xs es->RTs K (hid H p q) H ts as q->RTs K (hid H p q) H (xs++ts) ((es.map AV.d).map TV.av++as) q:=by
  intro p q xs es r rt
  induction r using Reps.rec (motive_1:=λ_ _ _=>True) with
  | nil=>exact rt
  | cons r rs _ j=>exact .cons (.av (.d (p:=λ_=>0) r λ_=>rfl)) j λb=>by simp
  | _=>trivial
 rcases h with e|g
 ·rw[e] at s
  obtain⟨⟨p,q,Z,O,B,F⟩,A⟩:=s
  cases O with
  | @cons _ _ _ _ l E _ r rs z=>cases r with
   | av r=>cases r with
    | d i w =>
     obtain⟨xs,c,this⟩:=W _ i Yh
     have f:hid H p q=hid H p E:=JR λb=>by have:=z b;have:=w b;omega
     rw[f] at this Z rs
     exact⟨xs,c,this.length,⟨p,E,Z,fin this rs,λb=>by have:=B b;have:=z b;omega,λb y=>F b (by have:=z b;omega)⟩,A⟩
 ·obtain⟨xs,c,this⟩:=W H (s.top na) (.refl H)
  obtain⟨⟨p,q,Z,O,B,F⟩,A⟩:=s.pop
  exact⟨xs,c,this.length,⟨p,q,Z,fin (Reps.hid (SR.lsts Z O) g this) O,B,F⟩,A⟩
def Kp(a:TV)(es:List aj):Prop:=a=.av (.d a.data)\/noLsts es=ak
theorem Kp.d{x:aj}{es:List aj}:Kp (.av (.d x)) es:=.inl rfl
theorem Kp.flat(h:noLsts es=ak):Kp a es:=.inr h
theorem WB(ha:a.data=.list ds)(h:Kp a ds)(q:Q (.av (.own (ds.map AV.d))))(na:NR a:=by first|exact NR.av|exact NR.bor):Bi K E X (U2 K) [a] Q:=λI U Y ts as H vs QV s D _ k=>by
 obtain⟨v,rfl,s⟩:=Ym s D
 obtain⟨xs,⟨l,e,Z⟩,O,M⟩:=s.items h (λxs=>∃ l,v=.ref l/\SqL K H l xs) (λG W P=>by
  rw[ha] at W
  obtain⟨l,xs,e,B,F⟩:=W.list_inv
  exact⟨xs,⟨l,e,P.seq B⟩,F⟩) na
 exact⟨l,xs,by rw[e],.inl Z,λp T=>k _ q _ _ (SR.new M (by rw[ah,O]) T)⟩
theorem Om(ha:a.data=.tuple ds)(h:Kp a ds)(q:Q (.av (.own (ds.map AV.d))))(na:NR a:=by first|exact NR.av|exact NR.bor):Bi K E X (U2 K) [a] Q:=λI U Y ts as H vs QV s D _ k=>by
 obtain⟨v,rfl,s⟩:=Ym s D
 obtain⟨xs,⟨l,e,Z⟩,O,M⟩:=s.items h (λxs=>∃ l,v=.ref l/\SqT K H l xs) (λG W P=>by
  rw[ha] at W
  obtain⟨l,xs,e,B,F⟩:=W.tuple_inv
  exact⟨xs,⟨l,e,P.tupS B⟩,F⟩) na
 exact⟨l,xs,by rw[e],.inr Z,λp T=>k _ q _ _ (SR.new M (by rw[ah,O]) T)⟩
theorem X5(ha:a.data=.list ds)(h:Kp a.frz ds)(q:Q (.av (.d (.tuple ds))))(na:NR a:=by first|exact NR.av|exact NR.bor):Bi K E X (ST K) [a] Q:=λI U Y ts as H vs QV s D _ k=>by
 obtain⟨v,rfl,s⟩:=Ym s D
 obtain⟨xs,⟨l,e,Z⟩,O,M⟩:=s.frzV.items h (λxs=>∃ l,v=.ref l/\SqL K H l xs) (λG W P=>by
  rw[TV.frz_data,ha] at W
  obtain⟨l,xs,e,B,F⟩:=W.list_inv
  exact⟨xs,⟨l,e,P.seq B⟩,F⟩) (TV.frz_nr na)
 refine⟨l,xs,by rw[e],.inl ⟨Z,λp T=>k _ q _ _ ?_⟩⟩
 have:=SR.newT M (by rw[ah,O]) T
 rw[Ol] at this
 exact this
theorem VZ{c:String}{b:Bool}(na:NR a)(nd:isD a.data=aF)(e:bW K (.type (tyD a.data)) (.type c)=aa b)(q:Q (.av (.d (.bool b)))):Bi K E X (XJ K) [a,.raw (.ty c)] Q:=λI U Y ts as H vs QV s D _ k=>by
 obtain⟨v,w,rfl,s⟩:=Ra s D
 have:=s.pop.raw
 subst this
 exact JF (s.top na) nd rfl e (k _ q _ H (s.pop.pop.bl _))
theorem IQ(q:Q (.av (.d (.bool ak)))):Bi K E X (XJ K) [.av (.d (.int i)),.raw (.ty "int")] Q:=VZ NR.av rfl rfl q
theorem IR(q:Q (.av (.d (.bool aF)))):Bi K E X (XJ K) [.av (.d (.int i)),.raw (.ty "bool")] Q:=VZ NR.av rfl Jt q
theorem Vc(ha:a.data=.tuple ds)(q:Q (.av (.d (.bool ak))))(na:NR a:=by first|exact NR.av|exact NR.bor):Bi K E X (XJ K) [a,.raw (.ty "tuple")] Q:=VZ na (by rw[ha];rfl) (by rw[ha];rfl) q
theorem IS{c:aQ}(ha:a.data=.str c)(q:Q (.av (.d (.bool ak))))(na:NR a:=by first|exact NR.av|exact NR.bor):Bi K E X (XJ K) [a,.raw (.ty "str")] Q:=VZ na (by rw[ha];rfl) (by rw[ha];rfl) q
theorem On{G:Hp}:∀ {cs:List Bool} {xs:List V},Reps K G xs (cs.map kK)->xs=cs.map V.bl
 | [],_,.nil=>rfl
 | c::cs,_,.cons r rs=>by rw[Rep.bl_inv r,On rs];rfl
theorem Rc(ha:a.data=.list (cs.map .bool))(q:Q (.av (.d (.bool (cs.all id)))))(na:NR a:=by first|exact NR.av|exact NR.bor):Bi K E X (Oh K) [a] Q:=λI U Y ts as H vs QV s D _ k=>by
 obtain⟨v,rfl,s⟩:=Ym s D
 have W:=s.top na
 rw[ha] at W
 obtain⟨l,xs,rfl,Z,O⟩:=W.list_inv
 have:=On O
 subst this
 exact⟨l,cs,rfl,Z,k _ q _ H (s.pop.bl _)⟩
theorem IT{A B:TA}(h:Ea K E X A ρ λbs=>Ea K E X B ρ λcs=>∃ a ns d,bs=[a]/\NR a/\cs=[.av (.d (.int d))]/\a.data=dI ns/\∀ M:Int,((ns=[]/\M=d)\/(M∈ns/\∀ c∈ns,c<=M))->Q (.av (.d (.int M)))):Ev K E X (tCBK (S9 K) A B) ρ Q:=λI U ts as H QV s x k =>
 h I U ts as H _ s x λbs N vs y i r=>N I U _ _ y _ i x λcs ⟨a,ns,d,e1,na,e2,ha,q⟩ zs H2 s2 l2=>by
  subst e1 e2
  obtain⟨z,f,R⟩:=Ym s2 l2
  have b:=R.top_d.int_inv
  subst b
  subst f
  have g:SR K I U ρ (vs++ts) ([a]++as) H2:=R.pop
  obtain⟨v,e,C⟩:=Ym g r
  subst e
  have W:=C.top na
  rw[ha] at W
  obtain⟨l,xs,rfl,Z,O⟩:=W.list_inv
  have:=O.ints_inv
  subst this
  exact⟨l,ns,d,rfl,rfl,Z,λM j=>k _ (q M j) _ H2 (C.pop.int _)⟩
theorem IU(ha:a.data=.list ds)(hb:b.data=.list es)(D:Kp a.frz ds)(c:Kp b.frz es)(hz:ds.length+es.length<=1000000)(q:Q (.av (.own ((ds++es).map AV.d))))(na:NR a:=by first|exact NR.av|exact NR.bor)(h:NR b:=by first|exact NR.av|exact NR.bor):Op K E X (Td K) a b Q:=λI U Y ts as H x y QV s _ k=>by
 obtain⟨ys,⟨f,N,O⟩,M,T⟩:=s.frzV.items c (λys=>∃ l,y=.ref l/\SqL K H l ys) (λG W P=>by
  rw[TV.frz_data,hb] at W
  obtain⟨l,xs,e,B,F⟩:=W.list_inv
  exact⟨xs,⟨l,e,P.seq B⟩,F⟩) (TV.frz_nr h)
 have C:SR K I U Y (x::(ys++ts)) (a::((es.map AV.d).map TV.av++as)) H:=SR.rot (by rw[ah,ah,M]) T
 obtain⟨xs,⟨r,S,Z⟩,g,R⟩:=C.frzV.items D (λys=>∃ l,x=.ref l/\SqL K H l ys) (λG W P=>by
  rw[TV.frz_data,ha] at W
  obtain⟨l,xs,e,B,F⟩:=W.list_inv
  exact⟨xs,⟨l,e,P.seq B⟩,F⟩) (TV.frz_nr na)
 refine⟨r,f,xs,ys,S,N,Z,O,cP (small6 (by omega)),λp i=>k _ q _ _ (SR.new (xs:=(ds++es).map AV.d) ?_ (by rw[ay,ah,ay,g,M]) i)⟩
 rw[bM,bH,bH,bM]
 exact R
theorem IV{k:Int}(hn:noLsts ds=ak)(R:-(2 ^ 63)<=k/\k<2 ^ 63)(hz:ds.length*k.toNat<=1000000)(q:Q (.av (.own ((aB k.toNat ds).flatten.map AV.d)))):Op K E X UP (.av (.own (ds.map AV.d))) (.av (.d (.int k))) Q:=λI U v ts as H x y QV s _ j=>by
 have u:=s.top_d.int_inv
 subst u
 have C:=s.pop
 have w:=C.top (a:=.av (.own (ds.map AV.d))) NR.av
 have h:=C.pop
 obtain⟨⟨p,q',Z,O,B,F⟩,A⟩:=C
 cases O with
 | cons r rs z=>cases r with
  | av r=>cases r with
   | @own l vs _ M _ D J f =>
    have N:Reps K H vs ds:=by have:=J.rep Yh;rwa [Ol] at this
    have e:∀ m:Nat,Reps K H (aB m vs).flatten (aB m ds).flatten:=λm=>by
     induction m with
     | zero=>exact .nil
     | succ m i=>rw[cf,cf,eX,eX];exact N.append i
    have c:∀ m:Nat,noLsts (aB m ds).flatten=true:=λm=>IP λd hd=>by
     obtain⟨l,Y,L⟩:=List.mem_flatten.mp hd
     rw[gI Y] at L
     exact IO hn d L
    refine⟨l,k,vs,rfl,rfl,D,R.1,R.2,cP (small6 (by rw[N.length];exact hz)),λg T=>j _ q _ _ (SR.new (xs:=(aB k.toNat ds).flatten.map AV.d) ?_ (by rw[ah,(e _).length]) T)⟩
    obtain⟨⟨p,q',Z,O,B,F⟩,A⟩:=h
    refine⟨⟨p,q',Z,?_,B,F⟩,A⟩
    have W:=Reps.hid (p:=p) (q:=q') (SR.lsts Z O) (c k.toNat) (e k.toNat)
    generalize (aB k.toNat vs).flatten=S at W
    generalize (aB k.toNat ds).flatten=es at W
    clear q
    induction W using Reps.rec (motive_1:=λ_ _ _=>True) with
    | nil=>exact O
    | cons r rs _ i=>exact .cons (.av (.d (p:=λ_=>0) r λ_=>rfl)) i λb=>by simp
    | _=>trivial
def To(t:TO)(ρ:Sl)(K:aJ)(E:FK)(X:Exc->Sl->Prop)(Q:Option Int->Prop):Prop :=
 ∀ (H0:Hp) (σ:St) (ts:List V) (as:List TV) (H:Hp) (QV:Option Int->Hp->Prop),'!' ts as H->XOk K E X H0->(∀ o,Q o->∀ H','!' ts as H'->QV o H')->t σ H QV
theorem IW{P:Option Int->Prop}(q:P none):To Pm ρ K E X P:=λI U ts as H QV s x k=>k _ q H s
theorem IX{P:Option Int->Prop}(h:Ev K E X te ρ λa=>∃ i,a=.av (.d (.int i))/\P (aa i)):To (Pn te) ρ K E X P:=λI U ts as H QV s x k =>
 h I U ts as H _ s x λa ⟨i,e,q⟩ v H' s'=>by subst e;exact⟨i,s'.top_d.int_inv,k _ q H' s'.pop⟩
end
variable {nx:Sl->Prop}{rt:TV->Prop}{s0:Option AV}
section
variable{E:FK}{bk:Sl->Prop}{r:Sl}
theorem Z8{o:Option AV}:Wk (o::r) (none::r):=λ_ _ _ _ _ _ s=>s.drop (i:=0)
theorem wk_1{o:Option AV}:Wk (s0::o::r) (s0::none::r):=λ_ _ _ _ _ _ s=>s.drop (i:=1)
theorem gv_6{s1 s2 C R v:Option AV}{o:Option AV}{P:Sl->Prop}(h:P (s0::s1::s2::C::R::v::aa (.d x)::r)):Gv K (Xn 6) x (s0::s1::s2::C::R::v::o::r) P:=Od (n:=6) h (by simp only[cC];omega)
theorem IY{t:TS}(h:Sv K E X t ρ ⟨λL=>Sv K E X u L ⟨nx,rt,bk,ct⟩,rt,bk,ct⟩):Sv K E X (UG t u) ρ ⟨nx,rt,bk,ct⟩:=Ip h
theorem IZ(h:nx ρ):Sv K E X Sr ρ ⟨nx,rt,bk,ct⟩:=Iq h
theorem Oo(h:Ev K E X te ρ λ_=>nx ρ):Sv K E X (XD te) ρ ⟨nx,rt,bk,ct⟩:=Ir h
theorem Oq(h:Ev K E X te ρ rt):Sv K E X (Vy te) ρ ⟨nx,rt,bk,ct⟩:=Is h
theorem Re{c:TT}{t:TS}(h:Tv K E X c ρ λb=>if b=ak then Sv K E X t ρ ⟨nx,rt,bk,ct⟩ else Sv K E X u ρ ⟨nx,rt,bk,ct⟩):Sv K E X (UH c t u) ρ ⟨nx,rt,bk,ct⟩:=Ob h
theorem V0{tb:TS}(Iv:Nat->Sl->Prop)(a:Nat)(v:Iv a ρ)
  (h:∀ m L,Iv m L->Tv K E X tc L λb=>if b=ak then Sv K E X tb L ⟨λr=>∃ B,B < m/\Iv B r,rt,nx,λr=>∃ B,B < m/\Iv B r⟩ else nx L):Sv K E X (Sy tc tb) ρ ⟨nx,rt,bk,ct⟩:=IC Iv a v h
end
section
variable{X:Cx}
def rOr(r r':R2):R2:=λx y H Q=>r x y H Q\/r' x y H Q
def Os:R2:=λx y H Q=>∃ i j,x=.str i/\y=.str j/\i.length+j.length<=sizeLine/\Q (.str (i++j)) H
def Rf:R2:=rI0 λi j=>.int (i+j)
def Rg:R2:=rI VE λi j=>.int (i*j)
def Rh(K:aJ):R2:=λx y H Q=>∃ a b ys,x=.ref a/\y=.ref b/\SqT K H a []/\SqT K H b ys/\Q (.ref b) H
theorem Ha{t b:ao}{Q:ag->ar->Prop}(l:mi s.heap t ([]:List ag).toArray)(hb:mi s.heap b ws.toArray)
  (h1:Q (.ref b) s):aw (aH prog w) A (c4 .Add (.ref t) (.ref b)) Q E s:=by
 obtain⟨⟨cls,dd,data,y⟩,J,Y,n,hd⟩:=id l
 obtain⟨⟨j,h,i,f⟩,a,c,L,g⟩:=id hb
 simp only at Y hd c g
 subst Y hd c g
 exact jS ⟨_,J,rfl⟩ ⟨_,a,rfl⟩ j_ lE gL gD (gz _ _)
   (tuple_addW0 t b #[] ws.toArray n L dd h y f rfl) ⟨J,a,h1⟩
theorem Hb(hK:X.K=K):OpR X (c4 .Add) (Rh K):=by
 subst hK
 intro L s U H x y v u Q I A R h
 obtain⟨a,b,ys,rfl,rfl,m,M,q⟩:=h
 cases A
 cases R
 obtain⟨f,g,J,_⟩:=I.tuple m
 obtain⟨c,G,Y,_⟩:=I.tuple M
 cases g
 exact Ha J Y ⟨.ref b,H,I,rfl,q⟩
theorem ZP(hK:X.K=K):OpR X (c4 .Add) (rOr Rf (rOr (Td K) (rOr (UM K) (rOr Os (Rh K))))):=Ka.or ((IF hK).or ((Jz hK).or (Kg.or (Hb hK))))
theorem Yv:OpR X (c4 .Mult) (rOr Rg UP):=Kb.or K6
theorem YO(hK:X.K=K)(i:X.A.units+64<cJ):OpR X (bE .Eq) (rOr rEq (W4 K)):=Kc.or (JA hK i)
theorem Xg(hK:X.K=K)(i:X.A.units+64<cJ):OpR X (bE .NotEq) (rOr rNe (Ww K)):=Kd.or (JB hK i)
theorem Zp(hK:X.K=K)(i:X.A.units+64<cJ):IxR X (rOr (VJ K) (rOr (VM K) (rOr UN U7))):=by subst hK;exact KK.or (KL.or (KM.or (JM i)))
def Tf(r r':V->Option Int->Option Int->Hp->VK->Prop):V->Option Int->Option Int->Hp->VK->Prop:=λx lo hi H Q=>r x lo hi H Q\/r' x lo hi H Q
theorem Hc(hK:X.K=K):SlR X (Tf (SI K) (SE K)):=by subst hK;exact KS.or KH
def cOr(r r':List V->Hp->VK->Prop):List V->Hp->VK->Prop:=λxs H Q=>r xs H Q\/r' xs H Q
def Ri:List V->Hp->VK->Prop:=λxs H Q=>∃ z,xs=[.str z]/\z.length<=sizeLine/\Q (.int z.length) H
theorem ZX(hK:X.K=K):ZD X (.builtin "len") (cOr (XZ K) Ri):=by subst hK;exact Jj.or KY
def WC(K:aJ)(tl:TE):TI:=λσ H R=>tl σ H λx H1=>∃ a,x=.ref a/\(((∃ xs,SqL K H1 a xs)/\R (Itl K a) H1)\/((∃ xs,SqT K H1 a xs)/\R (Itt K a) H1))
theorem ZU{l:dW}{tl:TE}(hK:X.K=K)(D:PE X l tl):PI X tg l (WC K tl):=by
 subst hK
 intro L s U H R I h
 refine thn (D L s U H _ I h) λv s1 ⟨x,H1,I1,r1,q1⟩=>?_
 obtain⟨a,e,q⟩:=q1
 subst e
 cases r1
 have c:∀ b∈[s1.heap.objs.size],YE X L H1 b:=λb M=>by
  rw[f_.mp M]
  exact I1.fpOk (aq _) (I1.hok.fresh (aq _))
 rcases q with⟨⟨xs,m⟩,q⟩|⟨⟨xs,m⟩,q⟩
 ·obtain⟨f,_,p,_⟩:=I1.list m
  exact gV p.isList ⟨s1.heap.objs.size,_,_,_,H1,rfl,I1.kept (t':=s1.toks) λb o e=>ae _ e,L5 a _,⟨_,az _ rfl,rfl,rfl⟩,c,q⟩
 ·obtain⟨f,_,p,_⟩:=I1.tuple m
  exact dq (show s1.heap.IsTuple a f.toArray from p) ⟨s1.heap.objs.size,_,_,_,H1,rfl,I1.kept (t':=s1.toks) λb o e=>ae _ e,L6 a _,⟨_,az _ rfl,rfl,rfl⟩,c,q⟩
end
section
variable{E:FK}{i:Int}
theorem Xv(h:Op K E X r a b Q):Op K E X (rOr r r') a b Q:=λI U Y ts as H x y QV s i k=>.inl (h I U Y ts as H x y QV s i k)
theorem Xw(h:Op K E X r' a b Q):Op K E X (rOr r r') a b Q:=λI U Y ts as H x y QV s i k=>.inr (h I U Y ts as H x y QV s i k)
abbrev Tg(K:aJ):R2:=rOr Rf (rOr (Td K) (rOr (UM K) (rOr Os (Rh K))))
theorem He(q:Q (.av (.d (.int (i+j))))):Op K E X (rOr Rf r') (.av (.d (.int i))) (.av (.d (.int j))) Q:=Xv (P8 q)
theorem Ot(c:VE i j)(q:Q (.av (.d (.int (i*j))))):Op K E X (rOr Rg r') (.av (.d (.int i))) (.av (.d (.int j))) Q:=Xv (Ta c q)
theorem eq_i(q:Q (.av (.d (.bool (decide (i=j)))))):Op K E X (rOr rEq r') (.av (.d (.int i))) (.av (.d (.int j))) Q:=Xv (J0 q)
theorem ne_i(q:Q (.av (.d (.bool (!decide (i=j)))))):Op K E X (rOr rNe r') (.av (.d (.int i))) (.av (.d (.int j))) Q:=Xv (J9 q)
theorem eq_b{c d:Bool}(q:Q (.av (.d (.bool (decide (c=d)))))):Op K E X (rOr rEq r') (.av (.d (.bool c))) (.av (.d (.bool d))) Q:=Xv (Ia q)
theorem V1[DecidableEq α]{c d:α}(F:Enc f m)(ha:a.data=f c)(hb:b.data=f d)(q:Q (.av (.d (.bool (decide (c=d))))))(na:NR a:=by first|exact NR.av|exact NR.bor)(h:NR b:=by first|exact NR.av|exact NR.bor)(hm:m<=32:=by decide):Op K E X (rOr rEq (W4 K)) a b Q:=Xw (Ib F ha hb q na h hm)
theorem Vd[DecidableEq α]{c d:α}(F:Enc f m)(ha:a.data=f c)(hb:b.data=f d)(q:Q (.av (.d (.bool (!decide (c=d))))))(na:NR a:=by first|exact NR.av|exact NR.bor)(h:NR b:=by first|exact NR.av|exact NR.bor)(hm:m<=32:=by decide):Op K E X (rOr rNe (Ww K)) a b Q:=Xw (Ic F ha hb q na h hm)
abbrev Ti(K:aJ):R2:=rOr (VJ K) (rOr (VM K) (rOr UN U7))
theorem YV{c:TV}{k:Int}(ha:a.data=.list ds)(e:atI ds k=aa y)(it:Zu a y c)(q:Q c)(na:NR a:=by first|exact NR.av|exact NR.bor):Op K E X (Ti K) a (.av (.d (.int k))) Q:=Xv (Id ha e it q na)
theorem Ys{c:TV}{k:Int}(ha:a.data=.tuple ds)(e:atI ds k=aa y)(it:Zu a y c)(q:Q c)(na:NR a:=by first|exact NR.av|exact NR.bor):Op K E X (Ti K) a (.av (.d (.int k))) Q:=Xw (Xv (Ie ha e it q na))
theorem V2(ha:a.data=.list ds)(hb:b.data=.list es)(D:Kp a.frz ds)(c:Kp b.frz es)(hz:ds.length+es.length<=1000000)(q:Q (.av (.own ((ds++es).map AV.d))))(na:NR a:=by first|exact NR.av|exact NR.bor)(h:NR b:=by first|exact NR.av|exact NR.bor):Op K E X (Tg K) a b Q:=Xw (Xv (IU ha hb D c hz q na h))
theorem Hf{k:Int}(hn:noLsts ds=ak)(R:-(2 ^ 63)<=k/\k<2 ^ 63)(hz:ds.length*k.toNat<=1000000)(q:Q (.av (.own ((aB k.toNat ds).flatten.map AV.d)))):Op K E X (rOr Rg UP) (.av (.own (ds.map AV.d))) (.av (.d (.int k))) Q:=Xw (IV hn R hz q)
theorem bi_l{c w:List V->Hp->VK->Prop}{bs:List TV}(h:Bi K E X c bs Q):Bi K E X (cOr c w) bs Q:=λI U Y ts as H vs QV s D x k=>.inl (h I U Y ts as H vs QV s D x k)
theorem Xh(ha:a.data=.list ds)(q:Q (.av (.d (.int ds.length))))(na:NR a:=by first|exact NR.av|exact NR.bor):Bi K E X (cOr (XZ K) Ri) [a] Q:=bi_l (IM ha q na)
theorem YH(ha:a.data=.tuple ds)(q:Q (.av (.d (.int ds.length))))(na:NR a:=by first|exact NR.av|exact NR.bor):Bi K E X (cOr (XZ K) Ri) [a] Q:=bi_l (IN ha q na)
theorem Hg:X3 K (Itl K l) (.ref l) (.list ds) ds.length λi=>ds.getD i .none:=by
 intro G H P W
 obtain⟨Z,ys,A,B,F⟩:=W.list_inv
 cases A
 have Y:=P.seq B
 refine⟨λi C=>?_,λi C=>⟨ys,Y,by rw[F.length];exact C⟩⟩
 obtain⟨w,L,q⟩:=F.get (i:=i) (d:=ds.getD i .none) (by rw[am,ai C];rfl)
 refine⟨⟨ys,w,Y,L⟩,λx H' ⟨e1,e2⟩=>?_⟩
 subst e1
 have:=e2 ys Y
 rw[L] at this
 cases this
 exact⟨.refl _,λa m _=>q.same m⟩
theorem Hh:X3 K (Itt K l) (.ref l) (.tuple ds) ds.length λi=>ds.getD i .none:=by
 intro G H P W
 obtain⟨Z,ys,A,B,F⟩:=W.tuple_inv
 cases A
 have Y:=P.tupS B
 refine⟨λi C=>?_,λi C=>⟨ys,Y,by rw[F.length];exact C⟩⟩
 obtain⟨w,L,q⟩:=F.get (i:=i) (d:=ds.getD i .none) (by rw[am,ai C];rfl)
 refine⟨⟨ys,w,Y,L⟩,λx H' ⟨e1,e2⟩=>?_⟩
 subst e1
 have:=e2 ys Y
 rw[L] at this
 cases this
 exact⟨.refl _,λa m _=>q.same m⟩
theorem Rj(h:Ev K E X te ρ λa=>∃ ds,(a.data=.list ds\/a.data=.tuple ds)/\NR a/\P ds.length (λi=>ds.getD i .none) a.frz):Iv K E X (WC K te) ρ P:=λI U ts as H R s x k =>
 h I U ts as H _ s x λa ⟨ds,e,na,q⟩ v H' s'=>by
  have W:=s'.top na
  rcases e with e|e
  ·rw[e] at W
   obtain⟨l,xs,rfl,Z,O⟩:=W.list_inv
   refine⟨l,rfl,.inl ⟨⟨xs,Z⟩,k _ _ _ q (.ref l) _ H' (TV.frz_nr na) s'.frzV ?_⟩⟩
   rw[TV.frz_data,e]
   exact Hg
  ·rw[e] at W
   obtain⟨l,xs,rfl,Z,O⟩:=W.tuple_inv
   refine⟨l,rfl,.inr ⟨⟨xs,Z⟩,k _ _ _ q (.ref l) _ H' (TV.frz_nr na) s'.frzV ?_⟩⟩
   rw[TV.frz_data,e]
   exact Hh
theorem Ve{xs:List α}{e:α->aj}{i:Nat}(hi:i<xs.length):(xs.map e).getD i .none=e xs[i]:=by
 rw[am,aW,ai hi];rfl
theorem WD{bk:Sl->Prop}{tb:TS}(h:Ev K E X te ρ λa=>∃ (xs:List α) (e:α->aj),(a.data=.list (xs.map e)\/a.data=.tuple (xs.map e))/\(∃ c,a=.av c)/\∃ b:Nat->Sl->Prop,b 0 ρ/\(∀ i L (hi:i<xs.length),b i L->Gv K g (e xs[i]) L λl=>Sv K E X tb l ⟨b (i+1),rt,nx,b (i+1)⟩)/\∀ L,b xs.length L->nx L):Sv K E X (WZ (WC K te) g tb) ρ ⟨nx,rt,bk,ct⟩ :=
 Tc (Rj (X4 h (λa W=>by
  obtain⟨xs,e,m,⟨c,Y⟩,b,v,turn,fin⟩:=W
  exact⟨xs.map e,m,by subst Y;exact NR.av,⟨c.data,by rw[Y];rfl⟩,b,v,λi L hi w=>by
  rw[ah] at hi
  show Gv K g ((xs.map e).getD i .none) L _
  rw[Ve hi]
  exact turn i L hi w,λL w=>fin L (by rw[ah] at w;exact w)⟩)))
theorem V3{bk:Sl->Prop}{A:TA}{tb:TS}(h:Ea K E X A ρ λbs=>∃ j,bs=[.av (.d (.int j))]/\(-(2 ^ 62)<=j/\j<2 ^ 62)/\∃ b:Nat->Sl->Prop,b 0 ρ/\(∀ (i:Nat) L,i<j.toNat->b i L->Gv K g (.int i) L λl=>Sv K E X tb l ⟨b (i+1),rt,nx,b (i+1)⟩)/\∀ L,b j.toNat L->nx L):Sv K E X (WZ (UI A) g tb) ρ ⟨nx,rt,bk,ct⟩ :=
 Tc (Of λI U ts as H QV s x k=>h I U ts as H QV s x (λbs W=>by
  obtain⟨j,e,u,b,v,turn,fin⟩:=W
  exact k bs ⟨j,e,u,⟨_,rfl⟩,b,v,λi L C w=>by
  show Gv K g (.int (0+(i:Int))) L _
  rw[ln]
  exact turn i L C w,fin⟩))
theorem Hi(xs:List α)(f:α->Option AV):(aD xs.length).filterMap (λi=>(xs[i]?).bind f)=xs.filterMap f:=by
 induction xs with
 | nil=>rfl
 | cons x xs E =>
  rw[cC,List.range_succ_eq_map,gP,mo]
  have:(λi=>((x::xs)[i]?).bind f) ∘ Nat.succ=λi=>(xs[i]?).bind f:=by funext i;simp
  rw[this,E]
  simp[gP]
theorem Hj{cap:List (Option Nat)}(h:Ev K E X ti ρ λa=>∃ (xs:List α) (e:α->aj) (y:α->Option AV),(a.data=.list (xs.map e)\/a.data=.tuple (xs.map e))/\NR a/\xs.length<=1000000 /\
  (∀ i (hi:i<xs.length),Gv K g (e xs[i]) (ZG cap ρ) λL=>Wk L (ZG cap ρ)/\Tv K E NE tt L λb=>if b=ak then Ev K E NE te L λa=>∃ c,y xs[i]=aa c/\a.sto=aa c else y xs[i]=none) /\
  ∃ a,Got (.own (xs.filterMap y)) a/\Q a):Ev K E X (Xe cap (WC K ti) g tt te) ρ Q :=
 Og (Rj (X4 h (λa W=>by
  obtain⟨xs,e,y,m,na,D,turn,c,A,q⟩:=W
  exact⟨xs.map e,m,na,by rw[ah];exact D,λi=>(xs[i]?).bind y,λi hi=>by
  rw[ah] at hi
  show Gv K g ((xs.map e).getD i .none) _ λL=>_/\Tv K E _ tt L λb=>if b=ak then Ev K E _ te L λa=>∃ c,(xs[i]?).bind y=aa c/\_ else (xs[i]?).bind y=none
  rw[Ve hi,ai hi]
  exact turn i hi,c,by rw[ah,Hi];exact A,q⟩)))
theorem Yw{cap:List (Option Nat)}(h:Ev K E X ti ρ λa=>∃ (xs:List α) (e:α->aj) (y:α->AV),(a.data=.list (xs.map e)\/a.data=.tuple (xs.map e))/\NR a/\xs.length<=1000000 /\
  (∀ i (hi:i<xs.length),Gv K g (e xs[i]) (ZG cap ρ) λL=>Wk L (ZG cap ρ)/\Ev K E NE te L λa=>a.sto=aa (y xs[i])) /\
  ∃ a,Got (.own (xs.map y)) a/\Q a):Ev K E X (Xe cap (WC K ti) g Wv te) ρ Q :=
 Hj (α:=α) (X4 h (λa W=>by
  obtain⟨xs,e,y,m,na,D,turn,c,A,q⟩:=W
  exact⟨xs,e,λx=>aa (y x),m,na,D,λi hi I U ts as H v f s k=>turn i hi I U ts as H v f s λL ⟨w,ev⟩=>k L ⟨w,Tb (by
  rw[if_pos rfl]
  exact X4 ev λa z=>⟨_,rfl,z⟩)⟩,c,by rw[kU];exact A,q⟩))
theorem Rk{cap:List (Option Nat)}{A:TA}(h:Ea K E X A ρ λbs=>∃ (j:Int) (y:Nat->AV),bs=[.av (.d (.int j))]/\(-(2 ^ 62)<=j/\j<=1000000) /\
  (∀ i:Nat,i<j.toNat->Gv K g (.int i) (ZG cap ρ) λL=>Wk L (ZG cap ρ)/\Ev K E NE te L λa=>a.sto=aa (y i)) /\
  ∃ a,Got (.own ((aD j.toNat).map y)) a/\Q a):Ev K E X (Xe cap (UI A) g Wv te) ρ Q :=
 Og (Of λI U ts as H QV s x k=>h I U ts as H QV s x (λbs W=>by
  obtain⟨j,y,e,u,turn,c,b,q⟩:=W
  exact k bs ⟨j,e,⟨u.1,by omega⟩,by omega,λi=>aa (y i),λi C I U ts as H v f s k=>by
  have s:SR K I U (ZG cap ρ) (v::ts) (.av (.d (.int (0+(i:Int))))::as) H:=s
  rw[ln] at s
  exact turn i C I U ts as H v f s λL ⟨w,ev⟩=>k L ⟨w,Tb (by
   rw[if_pos rfl]
   exact X4 ev λa z=>⟨_,rfl,z⟩)⟩,c,by rw[kU];exact b,q⟩))
theorem Y4(xs:List α)(y:α->AV):(AV.own (xs.map y)).data=.list (xs.map λx=>(y x).data):=by
 rw[AV.data,AV.datas_map,bu];rfl
theorem Z4(xs:List α)(y:α->aj):AV.datas (xs.map λx=>.d (y x))=xs.map y:=by
 rw[AV.datas_map,bu];rfl
theorem Hk(h:∀ x∈xs,x.clean=ak):AV.cleans xs=true:=by
 induction xs with
 | nil=>rfl
 | cons x xs E=>simp only[AV.cleans,aP];exact⟨h x (.head _),E λy j=>h y (.tail _ j)⟩
theorem ZW{xs:List α}{y:α->AV}(h:∀ x,(y x).clean=ak):(AV.own (xs.map y)).clean=true:=by
 rw[AV.clean]
 exact Hk λz hz=>by obtain⟨x,_,rfl⟩:=mem_map.mp hz;exact h x
end
def tIfJ(c:TT)(t u:TS):TS:=UH c t u
theorem Xx{X:Cx}{c:dW}{a b:List gK}{t:TS}(Y:PT X c tc)(ha:PSs X a t)(hb:PSs X b u):PS X (.If c a b pos) (tIfJ tc t u):=Yf Y ha hb
def NX:List aj->Exc->Prop:=λ_ _=>False
def ini(N:List aQ)(ds:List aj):Sl:=ds.map (λd=>aa (.d d))++aB (N.length-ds.length) none
abbrev fin(c:AV):VEnds:=⟨λ_=>c=.d .none,λa=>Res a c,λ_=>False,λ_=>False⟩
variable{P:AV->Prop}
section
variable{P:bC}{x:aQ}{k:Nat}
theorem Ou{t:TS}{E:XK}(sp:spV K S NX vs H Qv E)(h:∀ ds c,S ds c->Sv K (toF E) NE t (ini N ds) (fin c)):t { nx:=λ_ H'=>Qv .non H',rt:=Qv } (L2.start N vs) H :=
 IE (N:=N) sp λds=>⟨λc Y=>h ds c Y,λe G=>G.elim⟩
theorem Hl{Q:VK}{E:XK}(h:spV K S NX vs H Q E)(C:∀ ds c,S ds c->ds.length=n):vs.length=n:=by
 obtain⟨_,ds,r,⟨c,Y,_⟩|⟨e,G,_⟩⟩:=h
 ·rw[r.length];exact C ds c Y
 ·exact G.elim
theorem val(T:Tx K mg x st ps dvss)(i:FnScope N ps (Ze st))(C:∀ ds c,S ds c->ds.length=ps.length)
  (g:∀ (f:ao) (cdv:ag) (A:cG) (outer:List iS) (s:ar) (H:Hp) (E:XK),Room k (A.deeper (dZ x (Ze st) s.heap.objs.size f cdv)) ->
   ∃ t,PSs (Z6 CX P w K mg base N x (Ze st) f cdv A outer s H E).nox (ZC st) t/\∀ ds c,S ds c->Sv K (toF E) NE t (ini N ds) (fin c)) :
  ∀ dvs∈dvss,'$' CX (k+1) x ps dvs (spV K S NX) :=
 T.cal (k:=k) i (λvs H Q E h=>Hl h C) λf cdv A outer s H vs Q E J h =>
  let ⟨t,Z,O⟩:=g f cdv A outer s H E J
  ⟨t,Z,Ou h O⟩
end
variable{E':XK}{dds:List aj}
section
variable{E:FK}{i:Int}{t:TS}
theorem v_b{c:Bool}{P:Bool->Prop}(h:P c):∃ w,TV.av (.d (.bool c))=.av (.d (.bool w))/\P w:=⟨c,rfl,h⟩
theorem v_i{P:Int->Prop}(h:P i):∃ w,TV.av (.d (.int i))=.av (.d (.int w))/\P w:=⟨i,rfl,h⟩
theorem v_s(h:P c):∃ Q,Sto ρ (.av c) Q/\P Q:=⟨c,.inl rfl,h⟩
theorem v_sB(hn:ZT ρ)(h:P (.d x)):∃ Q,Sto ρ (.bor x) Q/\P Q:=⟨.d x,.inr (.inr ⟨hn,⟨x,rfl⟩,rfl⟩),h⟩
theorem XM(e:c.data=x)(h:P (.d x)):∃ Q,Sto ρ (.av c) Q/\P Q:=⟨.d x,.inr (.inl ⟨c,rfl,by rw[e]⟩),h⟩
theorem Vf(hz:xs.length<=1000000)(h:P c):∃ Q,(TV.av c).sto=aa Q/\xs.length<=1000000/\P Q:=⟨c,rfl,hz,h⟩
def Cl(S:List aj->AV->Prop)(dds:List aj)(Q:TV->Prop)(bs:List TV):Prop:=NRs bs/\∃ c a,S (bs.map TV.data++dds) c/\Got c a/\Q a
theorem ZY{bs:List TV}(f:NRs bs)(C:S (bs.map TV.data++dds) c)(g:Got c a)(q:Q a):Cl S dds Q bs:=⟨f,c,a,C,g,q⟩
theorem Hm{A:TA}(hd:DvDs dvs dds)(h:Ea K E X A ρ (Cl S dds Q)):Ev K E X (Wr (spV K S SX) dvs E' A) ρ Q:=λI U ts as H QV s x k =>
 h I U ts as H _ s x λbs ⟨nr,c,a,h1,h2,h3⟩ vs H' s' hl=>by
  obtain⟨W,T⟩:=SR.reps nr.all hl s'
  exact⟨x.t.same T.same,bs.map TV.data++dds,W.append hd.reps,.inl ⟨c,h1,λv w r=>k a h3 v w (T.gotG r h2)⟩⟩
theorem Hn{A:TA}(h:Ea K E X A ρ (Cl S [] Q)):Ev K E X (Wr (spV K S SX) [] E' A) ρ Q:=Hm .nil h
theorem ZL(h:c=.d x):Res (.av (.d x)) c:=.inl (by rw[h])
theorem Xi(h:c=.own xs):Res (.av (.own xs)) c:=.inl (by rw[h])
theorem Ho{a bk:Sl->Prop}(h:Sv K E X t ρ ⟨a,rt,bk,ct⟩)(m:∀ L,a L->nx L):Sv K E X t ρ ⟨nx,rt,bk,ct⟩:=λI U ts as H D st s x f=>h I U ts as H D st s x ⟨λL q=>f.nx L (m L q),f.bk,f.ct,f.rt⟩
theorem Xy{bk:Sl->Prop}{c:TT}(J:Sl->Prop)(a:∀ L,J L->nx L)(h:Tv K E X c ρ λb=>if b=ak then Sv K E X t ρ ⟨J,rt,bk,ct⟩ else Sv K E X u ρ ⟨J,rt,bk,ct⟩):Sv K E X (tIfJ c t u) ρ ⟨nx,rt,bk,ct⟩:=Ho (Ob h) a
theorem Tj{A:Prop}(h:B):if (!true)=ak then A else B:=h
theorem Tk{A:Prop}(h:A):if (!false)=ak then A else B:=h
theorem Hq(q:Q (.av (.own []))):Ev K E X (SD Y0) ρ Q:=WA (P9 ⟨[],.nil,bP _,q⟩)
end
structure Exn(tb:Bool)(B:bO)(l:List iS)(e:ao)(cls:ag)(d:Option ao)(h:bO):Prop where
 stays:B.StaysIn h
 new:B.get? e=none
 frs:h.FunFrames B l
 ob:∃ (oe:d9) (vs:Array ag),h.get? e=aa oe/\oe.cls=cls/\oe.dict=d/\oe.data=.fields vs/\1<vs.size /\
  (if tb=ak then ∃ T oT ts,vs[1]?=aa (.ref T)/\B.get? T=none/\T≠e/\h.get? T=aa oT/\oT.data=.fields ts/\3<ts.size else vs[1]?=aa .none)
variable{b:ao}{v cls:ag}{tb:Bool}{B:bO}{oe fo:d9}{vs:Array ag}{Q:Unit->ar->Prop}
section
variable{l:List iS}{L e:ao}{d:Option ao}
theorem V4{o:d9}(hb:h.get? b=aa o)(hn:∀ ws,o.data≠.fields ws)(G:h.get? e=aa oe)(hd:oe.data=.fields vs):b≠e:=λq=>by
 subst q
 rw[hb] at G
 cases G
 exact hn vs hd
theorem Ov{h:ag}{v:Bool}(x:A.frames=aa (env::outer))(H:env.frame=aa L)(st:B.StaysIn s.heap)(ne:B.get? e=none)(c:s.heap.FunFrames B (env::outer))
  (G:s.heap.get? e=aa oe) (Y:oe.cls=cls) (D:oe.dict=d) (hd:oe.data=.fields vs) (hz:1<vs.size)
  (q:∀ h',Exn ak B (env::outer) e cls d h'->s.heap.UpToSlots h'->Q () { s with heap:=h' }) :
  aw M A (do let a <- frameOf env;let pl <- entryPlaceOf L v;let b <- kg h a .none (bJ L) .none pl;setField (.ref e) 1 b) Q E s:=by
 have l:e∉(env::outer).filterMap (·.frame):=λS=>by
  obtain⟨_,o,J,g⟩:=c.mem S
  exact V4 J g G hd rfl
 refine ac (wpAny_frameOf_fun x c H λZ j=>ac (wpAny_entryPlaceOf λpl m=>?_))
 unfold kg newFields
 refine ac (bU ?_ (m.sizeOk5 _ _ _ _ _))
 have F:Z.get? e=aa oe:=by rw[j.2.1 e l];exact G
 have C:B.StaysIn Z:=λb o z=>by rw[j.2.1 b λS=>by rw[(c.mem S).1] at z;cases z];exact st b o z
 generalize i:({ cls:=.type "traceback",dict:=none,data:=.fields ([h,.ref L,.none,bJ L,.none]++(if pl.isEmpty then aB 6 bI else pl)).toArray }:d9)=f
 have N:(Z.push f).get? e=aa oe:=ae _ F
 have X:(Z.push f).get? Z.objs.size=aa f:=az _ (by rw[<- i];rfl)
 have r:Z.objs.size≠e:=bt (ax F)
 refine cb N hd hz (q _ ⟨λb o z=>?_,ne,c.of_keeps λb o u g=>?_,?_⟩ λb o u g=>?_)
 ·rw[bd _ _ (λy:e=b=>by rw[<- y,ne] at z;cases z)]
  exact ae _ (C b o z)
 ·obtain⟨w,P⟩:=j.2.2 b o u
  exact⟨{ o with slots:=w },by rw[bd _ _ (bR (V4 u g G hd))];exact ae _ P,rfl⟩
 ·have K:=bo hd (·.setIfInBounds 1 (aG Z.objs.size))
  refine⟨_,_,a8 _ N (ce K),?_,?_,K,by simpa using hz,?_⟩
  ·rw[fh];exact Y
  ·rw[<- D];obtain⟨_,_,p,_⟩:=oe;cases p<;>rfl
  ·rw[if_pos rfl]
   refine⟨Z.objs.size,f,_,by simp[hz],C.fresh,r,by rw[bd _ _ (bR r)];exact X,by rw[<- i],?_⟩
   simp only[aR,ay,cC,lk]
   omega
 ·obtain⟨w,P⟩:=j.2.2 b o u
  exact⟨w,by rw[bd _ _ (bR (V4 u g G hd))];exact ae _ P⟩
theorem Ow{T:ao}{oT:d9}{ts:Array ag}(x:Exn ak B l e cls d s.heap)(X:∃ oe vs,s.heap.get? e=aa oe/\oe.data=.fields vs/\vs[1]?=aa (.ref T))(r:B.get? T=none)(J:s.heap.get? T=aa oT)(hd:oT.data=.fields ts) :
  Exn ak B l e cls d (s.heap.update T (bN (·.setIfInBounds 3 v)))/\s.heap.UpToSlots (s.heap.update T (bN (·.setIfInBounds 3 v))):=by
 obtain⟨st,ne,c,oe,vs,G,Y,D,m,hz,E⟩:=x
 rw[if_pos rfl] at E
 obtain⟨C,A,q,Z,w,h,I,O,i⟩:=E
 obtain⟨u,j,a,R,p⟩:=X
 rw[G] at a
 cases a
 rw[m] at R
 cases R
 rw[Z] at p
 cases p
 rw[J] at I
 cases I
 rw[hd] at O
 cases O
 have f:∀ b,b≠T->(s.heap.update T (bN (·.setIfInBounds 3 v))).get? b=s.heap.get? b:=λb M=>bd _ _ (bR M)
 have K:=bo hd (·.setIfInBounds 3 v)
 refine⟨⟨λb o z=>?_,ne,c.of_keeps λb o M g=>⟨o,by rw[f b (V4 M g J hd)];exact M,rfl⟩,oe,vs,by rw[f e (bR h)];exact G,Y,D,m,hz,?_⟩,λb o M g=>⟨o.slots,by rw[f b (V4 M g J hd)];exact M⟩⟩
 ·rw[f b (λy=>by rw[y,r] at z;cases z)]
  exact st b o z
 ·rw[if_pos rfl]
  exact⟨T,_,_,Z,r,h,a8 _ J (ce K),K,by simpa using i⟩
theorem Ox(a:A.frames=aa (env::outer))(F:env.frame=aa L)(x:Exn tb B (env::outer) e cls d s.heap)
  (q:∀ h',Exn ak B (env::outer) e cls d h'->s.heap.UpToSlots h'->Q () { s with heap:=h' }):aw M A (noteFrame (.ref e) env) Q E s:=by
 obtain⟨oe,vs,G,Y,D,hd,hz,l⟩:=x.ob
 unfold noteFrame
 simp only[F]
 cases tb with
 | false =>
  rw[if_neg aA] at l
  refine ac (bY G hd l ?_)
  rw[if_neg (by decide)]
  exact Ov a F x.stays x.new x.frs G Y D hd hz q
 | true =>
  rw[if_pos rfl] at l
  obtain⟨T,oT,ts,Z,w,h,I,O,i⟩:=l
  refine ac (bY G hd Z ?_)
  rw[if_pos (show (aG T != bI)=ak from by simp)]
  refine ac (bY I O (cQ i) ?_)
  by_cases H:(ts[3] == bJ L)=ak
  ·rw[if_pos H]
   exact af (q s.heap x (.refl _))
  ·rw[if_neg H]
   refine ac (cb I O i ?_)
   obtain⟨b,u⟩:=Ow (v:=.none) x ⟨oe,vs,G,hd,Z⟩ w I O
   obtain⟨p,C,f,c,m,g,r,_⟩:=b.ob
   exact Ov (s:={ s with heap:=s.heap.update T (bN (·.setIfInBounds 3 .none)) }) a F b.stays b.new b.frs f c m g r λh' j y=>q h' j (u.trans y)
theorem Tl{fo:Option ao}(x:Exn ak B l e cls d s.heap)(q:∀ h',Exn ak B l e cls d h'->s.heap.UpToSlots h'->Q () { s with heap:=h' }):aw M A (setFlight (.ref e) fo) Q E s:=by
 obtain⟨oe,vs,G,Y,D,hd,hz,a⟩:=x.ob
 rw[if_pos rfl] at a
 obtain⟨T,oT,ts,Z,w,h,I,O,i⟩:=a
 unfold setFlight
 refine ac (bY G hd Z ?_)
 rw[if_pos (show (aG T != bI)=ak from by simp)]
 obtain⟨b,u⟩:=Ow (v:=fo.elim bI λf=>bJ f) x ⟨oe,vs,G,hd,Z⟩ w I O
 exact cb I O i (q _ b u)
theorem Hr(a:A.frames=aa (env::outer))(c:env.frame=aa L)(x:Exn tb B (env::outer) e cls d s.heap)
  (q:∀ h',Exn ak B outer e cls d h'->s.heap.UpToSlots h'->Q () { s with heap:=h' }):aw M A (n' env (.ref e)) Q E s:=by
 unfold n'
 refine ac (Ox a c x λZ G D=>Tl (s:={ s with heap:=Z }) G λO b u=>q O ⟨b.stays,b.new,b.frs.2.2,b.ob⟩ (D.trans u))
end
structure Grd(X:Cx)(B:bO):Prop where
 keep:∀ b o,X.s₀.heap.get? b=aa o->X.H₀ b=none->b∉frs X.stack->b∉X.ex->B.get? b=aa o
 there:∀ b o,X.s₀.heap.get? b=aa o->b∉frs X.stack->b∉X.ex->∃ o',B.get? b=aa o'
 pn:∀ p∈X.pn,B.get? p.1=aa p.2
def XE(X:Cx)(F:FK)(e:ag)(s:ar):Prop:=∃ (ea:ao) (cls:ag) (d:Option ao) (tb:Bool) (B:bO) (H:Hp) (σ:St),
 e=.ref ea/\Exn tb B X.stack ea cls d s.heap/\Inv X [] σ H s/\HOk X.prog X.w H B/\Grd X B/\F cls d σ H
def CXE(P:bC)(w:bV):CXT:=λouter H s E e s'=>∃ (ea:ao) (cls:ag) (d:Option ao) (B:bO) (H':Hp),
 e=.ref ea/\Exn ak B outer ea cls d s'.heap/\s'.os=s.os/\g_ s'.gens/\Un (frs outer) [] H H' s.heap s'.heap/\HOk P w H' B /\
  (∀ b o,s.heap.get? b=aa o->H b=none->b∉frs outer->B.get? b=aa o)/\(∀ b o,s.heap.get? b=aa o->b∉frs outer->∃ o',B.get? b=aa o')/\E cls d H'
variable{X:Cx}{c:α}{F:FK}{ea:ao}
section
variable{σ:St}
theorem Tm{l:List iS}(h:b∈frs (env::l)):env.frame=aa b\/b∈frs l:=by
 obtain⟨x,W,e⟩:=mem_filterMap.mp h
 rcases gh.mp W with z|z
 ·exact .inl (z▸e)
 ·exact .inr (mem_filterMap.mpr ⟨x,z,e⟩)
theorem Inv.entry_frs(I:'#'){o:d9}(hb:X.s₀.heap.get? b=aa o)(B:b∈frs X.stack):b∈X.fs:=by
 rcases I.ok.stk with e|⟨e,ef⟩
 ·rw[e] at B;exact B
 ·rw[e] at B
  rcases Tm B with z|z
  ·rw[ef] at z
   cases z
   exact absurd (aM (ax hb) I.ok.above) (cA _)
  ·exact z
theorem Tn(I:'#')(h:b∈X.fs):b∈frs X.stack:=by
 rcases I.ok.stk with e|⟨e,_⟩
 ·rw[e];exact h
 ·rw[e]
  obtain⟨x,W,a⟩:=mem_filterMap.mp h
  exact mem_filterMap.mpr ⟨x,.tail _ W,a⟩
theorem Oy{c:ao}{v:Option ag}(u:h.UpToSlots h')(x:h.IsCell c v):h'.IsCell c v:=by
 obtain⟨o,e,hd⟩:=x
 obtain⟨y,N⟩:=u c o e λvs z=>by rw[hd] at z;cases z
 exact⟨_,N,hd⟩
theorem Oz{d:Option ao}(I:'#')(x:Exn tb B X.stack ea cls d s.heap)(st:B.StaysIn h')(u:s.heap.UpToSlots h')(g:Grd X B):Un X.fs X.ex X.H₀ H X.s₀.heap h' where
 keep:=λb o e n l ne=>st b o (g.keep b o e n (λz=>l (I.entry_frs e z)) ne)
 slot:=λb o e n a ne=>by
  obtain⟨y,S⟩:=I.base.slot b o e n a ne
  obtain⟨_,p,N,c⟩:=x.frs.mem (Tn I a)
  rw[S] at N
  cases N
  obtain⟨f,L⟩:=u b _ S c
  exact⟨f,L⟩
 free:=I.base.free
 there:=λb o e ne=>by
  by_cases a:b∈frs X.stack
  ·obtain⟨_,p,N,c⟩:=x.frs.mem a
   obtain⟨y,L⟩:=u b p N c
   exact⟨_,L⟩
  ·obtain⟨i,S⟩:=g.there b o e a ne
   exact⟨i,st b i S⟩
 tups:=I.base.tups
 frzs:=I.base.frzs
 tbls:=I.base.tbls
theorem Inv.fly{d:Option ao}(I:Inv X [] σ H s)(x:Exn tb B X.stack ea cls d s.heap)(st:B.StaysIn h')(u:s.heap.UpToSlots h')(Q:HOk X.prog X.w H B)(g:Grd X B):Inv X [] σ H { s with heap:=h' } where
 ok:=I.ok
 os:=I.os
 bare:=I.bare
 base:=Oz I x st u g
 loc:=by
  obtain⟨m,a,D⟩:=I.loc
  refine⟨m,u.ns a,λi x v Z O f=>?_⟩
  obtain⟨w,r,l⟩:=D i x v Z O f
  refine⟨w,r,?_⟩
  rcases l with l|⟨k,c,e,Y⟩
  ·exact .inl l
  ·exact .inr ⟨k,c,e,Oy u Y⟩
 cell:=λx c e=>by
  obtain⟨v,Y⟩:=I.cell x c e
  exact⟨v,Oy u Y⟩
 free:=I.free
 freeC:=I.freeC
 pin:=λp T=>by
  obtain⟨_,b,c,d,e⟩:=I.pin p T
  have N:p∈X.pn:=by simpa using T
  exact⟨st _ _ (g.pn p N),b,c,d,e⟩
 hok:=Q.kept st
 len:=I.len
theorem Hs{e:ag}(I:'#')(h:CXE X.prog X.w X.stack H s (λc d H'=>F c d σ H') e s'):XE X F e s':=by
 obtain⟨M,cls,d,B,H',rfl,x,L,a,un,Q,g,j,f⟩:=h
 have m:Inv X pins σ H' s':=I.call' (ch:=[]) L un (Q.kept x.stays) a (λb z=>nomatch z)
 refine⟨M,cls,d,ak,B,H',σ,rfl,x,m.pins_of λp T=>m.pin p (by simpa using a9 _ (by simpa using T)),Q,⟨λb o e n l ne=>?_,λb o e l ne=>?_,λp T=>?_⟩,f⟩
 ·exact g b o (I.base.keep b o e n (λz=>l (Tn I z)) ne) (I.base.free b o e n ne) l
 ·obtain⟨i,A⟩:=I.base.there b o e ne
  exact j b i A l
 ·obtain⟨S,w,r,Z,_⟩:=I.pin p (a9 _ T)
  refine g _ _ S w λz=>?_
  rcases I.ok.stk with e|⟨e,ef⟩
  ·rw[e] at z;exact Z z
  ·rw[e] at z
   rcases Tm z with y|y
   ·rw[ef] at y;exact r (aS y).symm
   ·exact Z y
theorem Ht(I:'#')(m:Inv X pins σ H' { s with heap:=h' })(k:∀ b o,s.heap.get? b=aa o->b∉frs X.stack->H b=none->h'.get? b=aa o)
  (G:h'.get? ea=aa oe) (hd:oe.data=.fields vs) (hz:1<vs.size) (h1:vs[1]?=aa .none) (hn:H' ea=none) (g:s.heap.get? ea=none) (th:∀ b o,s.heap.get? b=aa o->∃ o',h'.get? b=aa o') (f:F oe.cls oe.dict σ H'):XE X F (.ref ea) { s with heap:=h' }:=by
 have l:ea∉frs X.stack:=λi=>by
  obtain⟨_,o,J,j⟩:=m.stack.mem i
  rw[G] at J
  cases J
  exact j vs hd
 have K:∀ env∈X.stack,∀ a,env.frame=aa a->a∈ea::frs X.stack:=λenv h1 a O=>.tail _ (mem_filterMap.mpr ⟨env,h1,O⟩)
 refine⟨ea,oe.cls,oe.dict,aF,jp h' (ea::frs X.stack),H',σ,rfl,⟨λb o e=>ix _ e,hU _ (.head _),kb m.stack K,oe,vs,G,rfl,rfl,hd,hz,by rw[if_neg aA];exact h1⟩,
  m.pins_of λp T=>m.pin p (by simpa using a9 _ (by simpa using T)),λa o e=>?_,⟨λb o e n c ne=>?_,λb o e c ne=>?_,λp T=>?_⟩,f⟩
 ·refine (m.hok a o e).stay (λb u M q=>cr _ q λi=>?_) (λ_ z=>z) λ_ _ z=>z
  have h:H' b=none:=by
   rcases gh.mp i with z|z
   ·rw[z];exact hn
   ·exact m.stkFree b z
  rcases M with z|z
  ·rw[z,e] at h;cases h
  ·rw[z] at h;cases h
 ·have S:=I.base.keep b o e n (λz=>c (Tn I z)) ne
  exact cr _ (k b o S c (I.base.free b o e n ne)) λi=>by
   rcases gh.mp i with z|z
   ·rw[z,g] at S;cases S
   ·exact c z
 ·obtain⟨B,S⟩:=I.base.there b o e ne
  obtain⟨o',A⟩:=th b B S
  exact⟨o',cr _ A λi=>by
   rcases gh.mp i with z|z
   ·rw[z,g] at S;cases S
   ·exact c z⟩
 ·obtain⟨S,w,r,Z,_⟩:=m.pin p (a9 _ T)
  obtain⟨U,N,v,C,_⟩:=I.pin p (a9 _ T)
  refine cr _ S λz=>?_
  rcases gh.mp z with z|z
  ·rw[z,g] at U;cases U
  rcases I.ok.stk with e|⟨e,ef⟩
  ·rw[e] at z;exact Z z
  ·rw[e] at z
   rcases Tm z with y|y
   ·rw[ef] at y;exact r (aS y).symm
   ·exact Z y
end
theorem PSs.xmono{E':ag->ar->Prop}{st:List gK}{t:TS}(h:PSs (X.wish E') st t)(m:∀ e s,E' e s->X.xe e s):PSs X st t:=λL s U H D I R =>
 bx (h L s U H D (I.wish _) R) (λ_ _ q=>q.unwish) λe s z=>m e s z
variable{P:bC}{f:ao}
theorem OA{s₀:ar}{H₀:Hp}{E:XK}{e:ag}
  (h:XE (Z6 (CXE P w) P w K mg base N qual scope f cd A outer s₀ H₀ E) (λc d _ H'=>E c d H') e s):(Z6 (CXE P w) P w K mg base N qual scope f cd A outer s₀ H₀ E).xe e s:=by
 obtain⟨M,cls,d,T,B,H,U,rfl,x,I,Q,g,q⟩:=h
 have a:=I.ok.frames
 refine Hr a rfl x λh' i u=>⟨M,cls,d,B,H,rfl,i,I.os,I.bare,Oz I x i.stays u g,Q,λb o e n l=>?_,λb o e l=>?_,q⟩
 ·exact g.keep b o e n (λz=>l (I.entry_frs e z)) (λz=>nomatch z)
 ·exact g.there b o e (λz=>l (I.entry_frs e z)) (λz=>nomatch z)
variable{newId:String}{bmB:List ag}
theorem Hu(X:K.In h)(q:gy K C bmB newId=ak):∃ tl N nm qn bs hdct sn sub ab col dd k0 k1 k2 k3 k5 mN,
  h.get? C=aa (gg nm qn C N bs tl hdct sn sub ab col dd k0 k1 k2 k3 k5 newId)/\h.Ns N mN/\mN "__init__" = none/\ol h bmB tl:=by
 unfold gy at q
 split at q
 ·rename_i dd cd sl ho
  split at q
  ·rename_i C' bm k0 k1 k2 k3 n k5 hm hs
   simp only[aP,beq_iff_eq,jk] at q
   obtain⟨⟨⟨⟨⟨i,M⟩,a⟩,b⟩,c⟩,j⟩:=q
   subst i M
   obtain⟨nm,bs,g,ns,qn,hd,sn,sub,ab,col,del⟩:=cd
   dsimp only at hm a c j
   subst hm a
   have m:sl=#[k0,k1,k2,k3,aa (.builtin n),k5]:=by
    obtain⟨l⟩:=sl
    simp only at hs
    rw[hs]
   subst m
   exact⟨bm,ns,nm,qn,bs,hd,sn,sub,ab,col,dd,k0,k1,k2,k3,k5,_,X _ _ ho,.of_isNs (lc X c),PySem.W.nsMap_none_of_in X c j,iu X b⟩
  ·cases q
 ·cases q
theorem Rm{a:ao}{o:HO}(x:Zx P w H h a o):∃ u,h.get? a=aa u:=by
 induction o with
 | lst xs=>obtain⟨_,_,_,_,e⟩:=x;exact⟨_,e⟩
 | tup xs=>obtain⟨_,_,_,_,e,_⟩:=x;exact⟨_,e⟩
 | dK kvs=>obtain⟨_,_,_,_,_,_,_,e,_⟩:=x;exact⟨_,e⟩
 | dT kvs=>obtain⟨_,_,_,_,_,_,_,e,_⟩:=x;exact⟨_,e⟩
 | dN kvs=>obtain⟨_,_,_,_,_,_,_,e,_⟩:=x;exact⟨_,e⟩
 | set S n=>obtain⟨_,_,_,_,e,_⟩:=x;exact⟨_,e⟩
 | ins C D fs=>obtain⟨_,_,_,e,_⟩:=x;exact⟨_,e⟩
 | own y=>exact x
 | xd fs=>obtain⟨_,⟨_,_,_,e,_⟩,_⟩:=x;exact⟨_,e⟩
 | rng Y b=>obtain⟨_,_,_,e⟩:=x;exact⟨_,e⟩
 | frz j u E=>exact⟨_,x.1⟩
 | tbl ps=>exact⟨_,x⟩
 | tbq q=>obtain⟨_,e,_⟩:=x;exact⟨_,e⟩
 | met f y=>exact⟨_,x⟩
 | ext g=>exact x.2.1
variable{x:aQ}{np:md}{Bn nid initId inN:String}{bm bmN:List ag}
section
variable{B:String}
def OB(C:ao)(F:FK):TS:=λ_ σ H=>F (.ref C) none σ H
theorem Hv(y:dH Bn newId inN bmN)(p:bm.contains (.type Bn)=ak)(c:dH B nid initId bm)(W:gy X.K C bm newId=ak)(Y:X.calm=ak)(A:Gl X x)(hm:X.mg x=aa (.ref C))(hd:(x == ("__debug__" : aQ))=false:=by decide) :
  PS (X.wish (XE X F)) (.Raise (aa (.Call (.Name x np) [] [] cpos)) none pos) (OB C F):=by
 intro L s U H D I f
 have Q:Inv X L U H s:=I.unwish
 obtain⟨tl,N,nm,q,bs,hdct,sn,sub,ab,col,dd,k0,k1,k2,k3,k5,mN,R,hN,j,T⟩:=Hu Q.kIn W
 refine wpAny_Raise_call_subU (C:=C) (nm:=nm) (q:=q) (N:=N) (bs:=bs) (bm:=tl) (hdct:=hdct) (sn:=sn) (sub:=sub) (ab:=ab) (col:=col) (dd:=dd) (k0:=k0) (k1:=k1) (k2:=k2) (k3:=k3) (k5:=k5) (mN:=mN)
  y p c (T.hasType c.hasBase) (Q.ok.hd Y) rfl j (XC (X:=X.wish (XE X F)) I A hm ⟨rfl,evalArgs_empty ⟨rfl,bP _,R,hN,T,λh' e a=>?_⟩⟩ hd)
 obtain⟨t,G,l,_⟩:=a.there
 have m:Inv X L U H { s with heap:=h' }:=Q.kept (t':=s.toks) a.keeps
 have g:H e=none:=by
  cases z:H e with
  | none=>rfl
  | some o =>
   obtain⟨u,i⟩:=Rm (Q.hok e o z)
   rw[a.new] at i
   cases i
 exact Ht Q m (λb o z _ _=>a.keeps b o z) G rfl (by simp) rfl g a.new (λb o z=>⟨o,a.keeps b o z⟩) f
end
def Rn(sp:Sp)(dvs:List V)(F:FK)(t:TA):TE:=λσ H Q=>t σ H λvs H1=>sp (vs++dvs) H1 Q λc d H'=>F c d σ H'
variable{es:List dW}
section
variable{k:Nat}{ds:List ag}{p:md}{t:TA}
theorem Hw{σ:St}{Q:VK}{vs:List V}(a:FnOk X.prog X.w X.K X.mg X.base (CXE X.prog X.w) k f fd ps sp)(J:Room k X.A)(hb:Y1 X.K fd ps ds)(hd:Zi dvs ds)
  (I:'#') (r:Zi vs us) (h:sp (vs++dvs) H Q λc d H'=>F c d σ H'):aw (aH X.prog X.w) X.A (iP (.ref f) us) (EP X pins σ Q) (XE X F) s:=by
 have G:Zi (vs++dvs) (us++ds):=r.append hd
 have D:(us++ds).length=ps.length:=by rw[<- G.length];exact a.len _ _ _ _ h
 refine fg (eA (a.run X.A X.stack s H ⟨us,[]⟩ (us++ds) (vs++dvs) Q _ J I.env0 (hb s us I.kIn D) G h) λz M m=>?_)
 cases z with
 | error e=>exact Hs I m
 | ok p =>
  cases p with
  | ret u=>exact I.after m
  | next=>exact m.elim
  | brk=>exact m.elim
  | cont=>exact m.elim
theorem EP.wish{pins:List (ao×d9)}{σ:St}{Q:VK}{u:ag}{s:ar}{E:ag->ar->Prop}(h:EP X pins σ Q u s):EP (X.wish E) pins σ Q u s:=let ⟨v,H,I,r,q⟩:=h;⟨v,H,I.wish E,r,q⟩
theorem Ro(c:Cal X.prog X.w X.K X.mg X.base (CXE X.prog X.w) k x ps dvs sp)(J:Room k X.A)(A:Gl X x)(ha:PA (X.wish (XE X F)) (e::es) t)(a:(x == ("__debug__" : aQ))=false:=by decide)
  (G:aY (e::es) X.env=(aF,dz e X.env)::aY es X.env:=by rfl) (m:(dC pos (aY es X.env)).any (·.1)=false:=by rfl) :
  PE (X.wish (XE X F)) (.Call (.Name x p) (e::es) [] pos) (Rn sp dvs F t):=by
 obtain⟨f,D,ds,Z,S,R,M,N⟩:=c.ex
 intro L s U H Q I h
 refine dt (XC (X:=X.wish (XE X F)) I A S ?_ a)
 refine iz (h₀:=X.base) I.ok.mod.kin R (thn (ha pos L s U H _ I h) λus s1 ⟨vs,H1,I1,r,q⟩=>⟨I1.kIn,?_⟩) G m
 exact thn (Hw Z J M N I1.unwish r q) λ_ _ z=>z.wish
end
theorem Inv.gone{σ:St}{m B:aQ->Option ag}{tk:Nat}(I:'#')(hN:X.N.Nodup)(hi:X.N[i]?=aa x)(hn:s.heap.Ns X.env.locals m)(D:∀ (j:Nat) (y:aQ) (v:V),X.N[j]?=aa y->σ[j]?=aa (aa v)->Vis X.env.scope y->∃ u,Zm v u/\Look X.env s.heap m y u)
  (J:h'.Ns X.env.locals B) (hm:∀ y,y≠x->B y=m y) (P:cN X.env.locals s.heap h'):Inv X pins (σ.set i none) H { s with heap:=h',toks:=tk } where
 ok:=I.ok
 os:=I.os
 bare:=I.bare
 base:=⟨λb o e n M W=>(P.2 b (aE (aM (ax e) I.ok.above))).trans (I.base.keep b o e n M W),
  λb o e n M W=>by
   obtain⟨f,S⟩:=I.base.slot b o e n M W
   exact⟨f,(P.2 b (aE (aM (ax e) I.ok.above))).trans S⟩,I.base.free,
  λb o e W=>by
   obtain⟨h,S⟩:=I.base.there b o e W
   exact⟨h,(P.2 b (aE (aM (ax e) I.ok.above))).trans S⟩,I.base.tups,I.base.frzs,I.base.tbls⟩
 loc:=⟨B,J,λj y v S N L=>by
  by_cases a:j=i
  ·subst a
   rw[List.getElem?_set] at N
   simp only[if_true] at N
   split at N<;>simp at N
  ·rw[ip (bR a)] at N
   obtain⟨u,r,q⟩:=D j y v S N L
   refine⟨u,r,?_⟩
   rcases q with⟨k,e⟩|⟨k,c,e,z⟩
   ·exact .inl ⟨k,by rw[hm y λw=>a (So hN S (w▸hi))];exact e⟩
   ·exact .inr ⟨k,c,e,z.sameBut P (I.cne y c e)⟩⟩
 cell:=λy c e=>by
  obtain⟨w,z⟩:=I.cell y c e
  exact⟨w,z.sameBut P (I.cne y c e)⟩
 free:=I.free
 freeC:=I.freeC
 pin:=λp T=>by
  obtain⟨e,n,ne,l,d⟩:=I.pin p T
  exact⟨(P.2 p.1 ne).trans e,n,ne,l,d⟩
 hok:=λb g e=>(I.hok b g e).stay (λc w Y q=>(P.2 c (by
  rintro rfl
  rcases Y with z|Y
  ·rw[<- z,I.free] at e;cases e
  ·rw[I.free] at Y;cases Y)).trans q) (λ_ q=>q) λ_ _ q=>q
 len:=by rw[jJ];exact I.len
theorem OC{σ:St}(I:'#')(hN:X.N.Nodup)(hi:X.N[i]?=aa x)(W:X.env.scope.names.lookup x=aa .local)
  (q:∀ s',Inv X pins (σ.set i none) H s'->Q () s'):aw M A (do bindName X.env x .none;gd X.env x pos) Q E s:=by
 have U:(X.env.scope.kind == .class || (X.env.scope.kind == .module && X.env.locals != X.env.globals))=false:=by rw[I.ok.kind];rfl
 obtain⟨m,g,D⟩:=I.loc
 refine ac (wpAny_bindName (mQ W g (λZ w C=>?_) U))
 unfold gd
 refine ju ?_
 unfold unbindName
 refine ac (mW (ac ?_))
 unfold deleteName
 have R:X.env.kindOf x=aa .local:=W
 simp only[R,U]
 rw[if_neg (by decide)]
 refine ac (wpAny_nsDel_keeps w λO v L T=>?_)
 simp only[if_true,iJ,dB,bn,if_false]
 refine af (mW (q _ (I.gone (tk:=s.toks+1) hN hi g D L (λy j=>by simp[j]) (C.trans T))))
abbrev Cx.inX(X:Cx)(ea:ao):Cx:={ X with A:=X.A.mark (aa (.ref ea)),calm:=aF }
abbrev Cx.pinned(X:Cx)(pins:List (ao×d9)):Cx:={ X with pn:=X.pn++pins }
section
variable{σ:St}
theorem Inv.toPin(I:'#'):Inv (X.pinned pins) [] σ H s :=
 ⟨⟨I.ok.mod,I.ok.kind,I.ok.glob,I.ok.blt,I.ok.above,I.ok.inj,I.ok.has,I.ok.cab,I.ok.hd,I.ok.frames,I.ok.stk,I.ok.exf,I.ok.bs,I.ok.bsz,I.ok.noex,I.ok.exfs,I.ok.funs,I.ok.frf⟩,I.os,I.bare,I.base,I.loc,I.cell,I.free,I.freeC,λp T=>I.pin p (by simpa using T),I.hok,I.len⟩
theorem Inv.unPin{xe:ag->ar->Prop}(ok:X.Ok)(I:Inv ((X.pinned pins).wish xe) [] σ H s):Inv X pins σ H s :=
 ⟨ok,I.os,I.bare,I.base,I.loc,I.cell,I.free,I.freeC,λp T=>I.pin p (by simpa using T),I.hok,I.len⟩
theorem Inv.toX(I:'#')(ea:ao)(B:(X.A.mark (aa (.ref ea))).frames=X.A.frames):Inv (X.inX ea) pins σ H s :=
 ⟨⟨I.ok.mod,I.ok.kind,I.ok.glob,I.ok.blt,I.ok.above,I.ok.inj,I.ok.has,I.ok.cab,(λz=>(nomatch z)),B.trans I.ok.frames,I.ok.stk,I.ok.exf,I.ok.bs,I.ok.bsz,I.ok.noex,I.ok.exfs,I.ok.funs,I.ok.frf⟩,I.os,I.bare,I.base,I.loc,I.cell,I.free,I.freeC,I.pin,I.hok,I.len⟩
theorem Inv.see{d:Option ao}(I:Inv X [] σ H s)(x:Exn tb B X.stack ea cls d s.heap)(Q:HOk X.prog X.w H B)(g:Grd X B):H ea=none/\Inv X [] σ (upd H ea (hX ea cls d)) s:=by
 obtain⟨oe,vs,G,Y,D,hd,_⟩:=x.ob
 have K:H ea=none:=by
  cases z:H ea with
  | none=>rfl
  | some o =>
   obtain⟨u,i⟩:=Rm (Q ea o z)
   rw[x.new] at i
   cases i
 have l:ea∉frs X.stack:=λP=>by
  obtain⟨_,o,J,j⟩:=x.frs.mem P
  rw[G] at J
  cases J
  exact j vs hd
 have ne:∀ b,H b≠none->b≠ea:=λb h z=>h (z▸K)
 have F:X.env.locals≠ea:=λz=>by
  obtain⟨m,⟨o,es,f,e,C,_⟩,_⟩:=I.loc
  rw[z,G] at e
  cases e
  rw[hd] at C
  cases C
 refine⟨K,⟨I.ok,I.os,I.bare,⟨I.base.keep,I.base.slot,λb o e n W=>?_,I.base.there,λb xs e=>?_,λb o u e=>?_,λb ps e=>?_⟩,I.loc,I.cell,by rw[Zg F];exact I.free,λy c e=>?_,λp T=>?_,λa o e=>?_,I.len⟩⟩
 ·have M:b≠ea:=λz=>by
   subst z
   have:=g.keep b o e n l W
   rw[x.new] at this
   cases this
  rw[Zg M]
  exact I.base.free b o e n W
 ·have:=I.base.tups b xs e
  rw[Zg (ne b (by rw[this];simp))];exact this
 ·have:=I.base.frzs b o u e
  rw[Zg (ne b (by rw[this];simp))];exact this
 ·obtain⟨E,this⟩:=I.base.tbls b ps e
  exact⟨E,by rw[Zg (ne b (by rw[this];simp))];exact this⟩
 ·have Z:c≠ea:=λz=>by
   obtain⟨v,o,S,O⟩:=I.cell y c e
   rw[z,G] at S
   cases S
   rw[hd] at O
   cases O
  rw[Zg Z]
  exact I.freeC y c e
 ·obtain⟨S,w,r⟩:=I.pin p T
  have N:p∈X.pn:=by simpa using T
  have A:p.1≠ea:=λz=>by
   have:=g.pn p N
   rw[z,x.new] at this
   cases this
  exact⟨S,by rw[Zg A];exact w,r⟩
 ·by_cases L:a=ea
  ·subst L
   rw[Zw] at e
   cases e
   exact⟨⟨oe,vs,G,Y,D,hd⟩,⟨oe,G⟩,λh1 h2 ⟨o,ws,z,r⟩ k=>⟨o,ws,k o z,r⟩⟩
  ·rw[Zg L] at e
   refine (I.hok a o e).stay (λ_ _ _ q=>q) (λb q=>?_) (λb xs q=>?_) (λb o q=>?_)
   ·rw[Zg (ne b (by rw[q];simp))];exact q
   ·rw[Zg (ne b (by rw[q];simp))];exact q
   ·rw[Zg (ne b (by rw[q];simp))];exact q
end
variable{ox:d9}{expr:Bool}{od:Option d9}{Q:ag->ar->Prop}
section
open PySem.W
structure ExcGet(K:aJ)(C:ao):Prop where
 ga:cu K (.ref C) "__getattribute__" = aa (aa (.builtin "BaseException.__getattribute__"))
 hook:cu K (.ref C) "__getattr__" = aa none
 base:fw K C (.type "BaseException")=aa ak
 obj:fw K C (.type "object")=aa ak
section
variable{x:ao}
theorem Hx{a:ag}{Q:Unit->ar->Prop}(X:K.In s.heap)(I:cy s.heap x ox C od)(g:ExcGet K C)(h:Q () s):aw M A (ka "BaseException.__getattribute__" ⟨[.ref x,a],[]⟩) Q E s:=by
 have R:builtinKind "BaseException.__getattribute__" = aa .slot:=by decide +kernel
 have b:splitId "BaseException.__getattribute__" = aa ("BaseException", "__getattribute__"):=by decide +kernel
 have m:=F.args_bexc_ga (.ref x) a
 have e:=I.type (M:=M)
 have c:=looks_mroIn (M:=M) X g.base
 obtain⟨W,g',d,t,L⟩:=s
 simp only[ka,R,b]
 refine ac ?_
 unfold iq
 refine ac (e.at (c.at ?_))
 repeat (first|assumption|wp_step)
theorem OD{a:Bool}(X:K.In s.heap)(I:cy s.heap x ox C od)(g:ExcGet K C)
  (h:∀ b R,(∀ v s',aw (aH prog w) A (handedOut v) Q E s'->R (.done (.ret v)) s')->aw (aH prog w) b (cZ.«object.__getattribute__» ⟨[.ref x,.str name tk],[]⟩) R (λ_ _=>False) s) :
  aw (aH prog w) A (getAttrBy (.ref x) (.str name tk) a expr) Q E s:=by
 have e:=I.type (M:=aH prog w)
 have c:=mG (M:=aH prog w) X g.ga
 have l:=mG (M:=aH prog w) X g.hook
 have f:=F.excAttr_ValueError.ga.bind (.ref x)
 have j:(expr && onTheHeap (fx "BaseException.__getattribute__"))=false:=by cases expr<;>rfl
 have i:(fx "BaseException.__getattribute__" == fx "object.__getattribute__")=false:=by decide +kernel
 unfold getAttrBy
 refine bF (ac (e.at (ac (c.at ?_))))
 show aw _ _ (if (onTheHeap (aG C) && fx "BaseException.__getattribute__" == fx "object.__getattribute__")=ak then _ else _) _ _ _
 rw[i]
 unfold getAttrByItsOwn hookBefore
 refine ac (l.at ?_)
 unfold callGetattribute
 rw[j]
 unfold boundAndCalled
 rw[f]
 refine ac (fY (bF (ac (af (fg (i8 F.excAttr_ValueError.ga.plain F.entry_bexc_ga (Hx X I g (bx (h _ (λfin s'=>match fin with|.done (.ret v)=>aw (aH prog w) A (handedOut v) Q E s'|_=>False) λv s' z=>z) (λfin s' z=>?_) λ_ _ z=>z.elim))))))))
 rcases fin with (_|_|_|_)|_<;>first|exact z|exact z.elim
theorem Hy{a:Bool}(X:K.In s.heap)(I:cy s.heap x ox C od)(g:ExcGet K C)(B:og K C od name=aa (.value v))(W:mH v=ak)(h:Q v s) :
  aw (aH prog w) A (getAttrBy (.ref x) (.str name tk) a expr) Q E s:=by
 refine OD X I g λb R k=>?_
 have e:=I.type (M:=aH prog w)
 have c:=looks_find (M:=aH prog w) X I B
 obtain⟨D,f,d,t,L⟩:=s
 unfold cZ.«object.__getattribute__»
 refine ac (af (ac (af (ac (e.at (ac (c.at ?_)))))))
 exact af (k _ _ (by rw[handedOut_of W];exact af h))
theorem Hz(X:K.In s.heap)(I:cy s.heap x ox C od)(g:ExcGet K C)(B:og K C od name=aa (.value v))(W:mH v=ak)(h:Q v { s with toks:=s.toks+1 }) :
  aw (aH prog w) A (getAttr (.ref x) name expr) Q E s:=by
 unfold getAttr
 exact ac (wpAny_mkText (Hy (s:={ s with toks:=s.toks+1 }) X I g B W h))
theorem HA{Q:Option ag->ar->Prop}(X:K.In s.heap)(I:cy s.heap x ox C od)(g:ExcGet K C)(B:og K C od "__class__" = aa (.bind (.builtin "getset_descriptor.__get__") (.builtin "object.__class__")))(h:Q (aa (.ref C)) { s with toks:=s.toks+1 }) :
  aw (aH prog w) A (getAttr? (.ref x) "__class__") Q E s:=by
 unfold getAttr? getAttrBy?
 refine ac (wpAny_mkText (ac (fY (OD (s:={ s with toks:=s.toks+1 }) X I g λb R k=>?_))))
 have e:=I.type (M:=aH prog w)
 have c:=looks_find (M:=aH prog w) X I B
 obtain⟨D,f,d,t,L⟩:=s
 unfold cZ.«object.__getattribute__»
 refine ac (af (ac (af (ac (e.at (ac (c.at ?_)))))))
 refine ac (bF (fg (class_get (s:=⟨D,f,d,t+1,L⟩) (ox:=ox) (od:=od) X I g.obj ?_)))
 exact af (k _ _ (handed_on rfl (af h)))
structure ExcCls(K:aJ)(C:ao):Prop extends ExcGet K C where
 cls:cu K (.ref C) "__class__" = aa (aa (.builtin "object.__class__"))
 get:jW K (.builtin "object.__class__") "__get__" = aa (aa (.builtin "getset_descriptor.__get__"))
 tks:kC K (.builtin "object.__class__")=aa ak
theorem ExcCls.isCls(g:ExcCls K C):∃ o cd,K.lookup C=aa o/\o.data=.cls cd/\clsIn K C=aa cd:=by
 obtain⟨cd,Y,_⟩:=Option.bind_eq_some_iff.mp g.obj
 have f:=Y
 unfold clsIn at Y
 split at Y
 ·rename_i c' d' cd' sl' ho
  cases Y
  exact⟨_,_,ho,rfl,f⟩
 ·cases Y
theorem OE(g:ExcCls K C):KitX K (.ref x) (.ref C) (λh=>∃ ox od,cy h x ox C od) where
 ty:=λ_ _ _ ⟨_,_,I⟩=>I.type
 it:=λ_ _ X _=>by
  obtain⟨o,cd,J,hd,_⟩:=g.isCls
  intro b S c M k q
  unfold isType loadHead
  obtain⟨H,m,B,N⟩:=o
  cases hd
  exact ac (kW (k _ _ (X _ _ J)) (af q))
 ne:=λh tp dd f n y X a=>by
  obtain⟨o,cd,J,hd,_⟩:=g.isCls
  refine Bool.eq_false_iff.mpr λq=>?_
  have e:C=tp:=aG.inj (beq_iff_eq.mp q)
  subst e
  have z:=(X _ _ J).symm.trans a
  cases z
  cases hd
 ca:=λX ⟨_,_,I⟩ k=>by
  obtain⟨o,cd,J,hd,Y⟩:=g.isCls
  refine HA X I g.toExcGet ?_ k
  unfold og
  rw[Y,jh,g.cls,jh]
  simp[g.get,g.tks]
end
end
def dX(e:Exc):PyData:=.dict ((.none,.int e.cls)::e.fs.map λp=>(.str p.1,p.2))
variable{e:Exc}
section
variable{X:Exc->Sl->Prop}{σ:L2.St}
theorem SR.pops(s:'!' ts as H):'!' [] [] H:=by
 obtain⟨⟨p,q,Z,O,B,F⟩,P⟩:=s
 exact SR.of_le (p:=p) (q:=q) (p':=p) (q':=λ_=>0) P B F (λb=>by omega) Z (.nil λ_=>rfl)
theorem SR.aside(st:Stb as)(s:'!' ts as H):∃ H1,SR K H1 σ ρ [] [] H/\(∀ j L H',SR K H1 j L [] [] H'->SR K H0 j L ts as H')/\(∀ j L H' v a,SR K H1 j L [v] [a] H'->SR K H0 j L (v::ts) (a::as) H')/\Zf H0 H1:=by
 obtain⟨⟨p,q,Z,O,B,F⟩,P⟩:=s
 have W:=O.stb st
 have c:∀ b,0<p b->L2.hid H p q b=none:=λb z=>by
  unfold L2.hid
  rw[if_neg (by omega)]
 have S:∀ b o,H0 b=aa o->L2.hid H p q b=aa o:=λb o e=>by
  unfold L2.hid
  rw[if_pos]
  ·exact P b o e
  ·rcases aX (p b+q b) with z|z
   ·exact z
   ·rw[F b z] at e;cases e
 have back:∀ {p' q':Fp} {H':Hp},(∀ b,0<p' b+q' b->L2.hid H p q b=none)->Zf (L2.hid H p q) H'->RTs K (L2.hid H' p' q') H' ts as q:=λ{p' q' H'} k4 m=>by
  refine RTs.monoS (λb o e=>?_) O st λb o z=>by have:=W b;omega
  unfold L2.hid
  rw[if_pos]
  ·exact m b o e
  ·rcases aX (p' b+q' b) with z|z
   ·exact z
   ·rw[k4 b z] at e;cases e
 have f:∀ {p' q':Fp},(∀ b,0<p' b+q' b->L2.hid H p q b=none)->∀ b,0<p' b+q' b->H0 b=none:=λ{p' q'} k4 b z=>by
  cases e:H0 b with
  | none=>rfl
  | some o=>have:=S b o e;rw[k4 b z] at this;cases this
 refine⟨L2.hid H p q,⟨⟨p,λ_=>0,Z.mono (hid_more λb z=>by show p b+0=0;omega) (λ_ _ _ z=>z),.nil λ_=>rfl,λb=>by have:=B b;show p b+0<=1;omega,λb z=>c b (by have Y:0<p b+0:=z;omega)⟩,Yh⟩,λj L H' ⟨⟨p',q',k1,k2,k3,k4⟩,m⟩=>?_,λj L H' v a ⟨⟨p',q',k1,k2,k3,k4⟩,m⟩=>?_,S⟩
 ·cases k2 with
  | nil e=>exact⟨⟨p',q',k1,by
    have:=back k4 m
    have N:q=q':=by funext b;rw[W b,e b]
    exact N▸this,k3,f k4⟩,λb o e=>m b o (S b o e)⟩
 ·cases k2 with
  | @cons _ _ _ _ l E _ r rs e =>
   cases rs with
   | nil N=>exact⟨⟨p',q',k1,.cons r (back k4 m) λb=>by have:=e b;have:=N b;have:=W b;omega,k3,f k4⟩,λb o e=>m b o (S b o e)⟩
theorem XOk.aside(x:XOk K F X H0)(m:Zf H0 H1)(b:∀ j L H',SR K H1 j L [] [] H'->SR K H0 j L ts as H'):XOk K F X H1:=⟨λe Y z c d U H' s r=>x.x e Y z c d U H' (b U Y H' s).pops r,x.t.same m⟩
theorem OF(h:X ⟨C,[]⟩ ρ):Sv K F X (OB C F) ρ DV:=λI U ts as H D _ s x _=>x.x ⟨C,[]⟩ ρ h _ _ U H s.pops ⟨rfl,.inl ⟨rfl,rfl⟩⟩
theorem Fit.aside{D:Ends}(f:Fit K H0 ts as DV D)(b:∀ j L H',SR K H1 j L [] [] H'->SR K H0 j L ts as H')(R:∀ j L H' v a,SR K H1 j L [v] [a] H'->SR K H0 j L (v::ts) (a::as) H'):Fit K H1 [] [] DV D :=
 ⟨λY q U H s=>f.nx Y q U H (b _ _ _ s),λY q U H s=>f.bk Y q U H (b _ _ _ s),λY q U H s=>f.ct Y q U H (b _ _ _ s),λa q v U Y H s=>f.rt a q v U Y H (R _ _ _ _ _ s)⟩
theorem SR.dropS{o:Option V}(h:'!' ts as H):SR K H0 (σ.set i o) (ρ.set i none) ts as H:=by
 obtain⟨⟨p,q,Z,O,B,F⟩,s⟩:=h
 obtain⟨Y,S,N⟩:=Z.drop (i:=i) (o:=o)
 exact SR.of_le (p:=p) (q:=q) (p':=Y) (q':=q) s B F (λb=>by have:=S b;omega) N O
theorem SR.pushG{v:V}{x:aj}(h:'!' ts as H)(r:∀ p q:Fp,(∀ b,0<p b+q b->∃ o,H b=aa o/\Mu o)->Rep K (L2.hid H p q) v x):'!' (v::ts) (.av (.d x)::as) H:=by
 obtain⟨⟨p,q,Z,O,B,F⟩,s⟩:=h
 exact⟨⟨p,q,Z,.cons (.av (.d (p:=λ_=>0) (r p q (SR.lsts Z O)) λ_=>rfl)) O (λb=>by simp),B,F⟩,s⟩
theorem Rp(D:∀ b,0<p b+q b->∃ o,H b=aa o/\Mu o){a:ao}{o:HO}(e:H a=aa o)(n:¬ Mu o):L2.hid H p q a=aa o:=by
 unfold L2.hid
 rw[if_pos]
 ·exact e
 ·rcases aX (p a+q a) with z|z
  ·exact z
  ·obtain⟨vs,z,mu⟩:=D a z;rw[e] at z;cases z;exact absurd mu n
theorem SR.caught{c:ag}{d:Option ao}(s:'!' ts as H)(hn:H ea=none)(l:U9 K H e c d)(g:noLsts (e.fs.map be)=ak):'!' (.ref ea::ts) (.av (.d (dX e))::as) (upd H ea (hX ea c d)):=by
 have P:Zf H (upd H ea (hX ea c d)):=Yk hn
 refine (s.ext P).pushG λp q D=>?_
 have Z:=Rp D (a:=ea) (o:=hX ea c d) (Zw ..) λz=>(show False from z)
 obtain⟨rfl,⟨O,rfl⟩|⟨a,vs,rfl,O,B,F⟩⟩:=l
 ·exact .exc Z (by rw[O];rfl)
 ·refine .excF Z (Rp D (P _ _ O) λz=>(show False from z)) (Reps.hid D g (F.same P)) ?_
  have:(vs.map λp=>bc p.1)=e.fs.map λp=>bc p.1:=by
   have:=congrArg (j6 bc) B
   rw[bu,bu] at this
   exact this
  rw[this,List.zip_map']
end
theorem HB:fz "ValueError" = aa (.type "ValueError"):=by kernel_rfl
theorem Zs:Ws (CXE P w) X E0:=by
 intro _ _ _ _ _ _ _ h
 obtain⟨_,_,_,_,_,_,_,_,_,_,_,_,_,z⟩:=h
 exact z.elim
theorem FunD.okX{k:Nat}(F:FunD K x qual st dV f fd)(S:FnScope N ps (Ze st))(len:∀ vs H Q E,sp vs H Q E->vs.length=ps.length)
  (g:∀ (cdv:ag) (A:cG) (outer:List iS) (s:ar) (H:Hp) (vs:List V) (Q:VK) (E:XK),Room k (A.deeper (dZ qual (Ze st) s.heap.objs.size f cdv))->sp vs H Q E ->
   ∃ t,PSs ((Z6 (CXE P w) P w K mg base N qual (Ze st) f cdv A outer s H E).wish (XE (Z6 (CXE P w) P w K mg base N qual (Ze st) f cdv A outer s H E) (toF E))) (ZC st) t/\t { nx:=λ_ H'=>Q .non H',rt:=Q } (start N vs) H):FnOk P w K mg base (CXE P w) (k+1) f fd ps sp:=by
 obtain⟨c,od,kV,r,pm,l,cdv,ct,j,rfl,a,b⟩:=F.ex
 refine UL a b S len λA outer s H vs Q E J i=>?_
 obtain⟨t,h,q⟩:=g cdv A outer s H vs Q E J i
 exact⟨t,h.xmono λe s z=>OA z,q⟩
theorem Tx.calX{k:Nat}(T:Tx K mg x st ps dvss)(S:FnScope N ps (Ze st))
  (len:∀ vs H Q E,sp vs H Q E->vs.length=ps.length)
  (g:∀ (f:ao) (cdv:ag) (A:cG) (outer:List iS) (s:ar) (H:Hp) (vs:List V) (Q:VK) (E:XK),Room k (A.deeper (dZ x (Ze st) s.heap.objs.size f cdv))->sp vs H Q E ->
   ∃ t,PSs ((Z6 (CXE P w) P w K mg base N x (Ze st) f cdv A outer s H E).wish (XE (Z6 (CXE P w) P w K mg base N x (Ze st) f cdv A outer s H E) (toF E))) (ZC st) t/\t { nx:=λ_ H'=>Q .non H',rt:=Q } (start N vs) H) :
  ∀ dvs∈dvss,'$' (CXE P w) (k+1) x ps dvs sp:=by
 obtain⟨i,f,D,F,m,b⟩:=T.ex
 intro dvs hd
 obtain⟨ds,R,l⟩:=b dvs hd
 exact⟨f,D,ds,F.okX S len (λcdv A outer s H vs Q E J h=>g f cdv A outer s H vs Q E J h),m,F.kp,R,l⟩
variable{cs:List V}{cvs:List ag}
section
variable{σ:St}
theorem OG{x:V}(I:'#')(h:Rep X.K H x (.dict ((.none,.int (C:Nat))::kvs))):∃ ea ox od,x=.ref ea/\cy s.heap ea ox C od:=by
 cases h with
 | @exc ea j _ h z =>
  have e:C=j:=by
   have:=(eL z).1
   simp only[c_,c3,true_and] at this
   exact jG this
  subst e
  obtain⟨o,vs,Z,O,B,F⟩:=(I.hok _ _ h).1
  exact⟨ea,o,none,rfl,Z,O,by obtain⟨c,d,i,y⟩:=o;cases F;rfl,by rw[B];trivial⟩
 | @excF ea j a vs ds _ h k _ z =>
  have e:C=j:=by
   have:=(eL z).1
   simp only[c_,c3,true_and] at this
   exact jG this
  subst e
  obtain⟨o,vs,Z,O,B,F⟩:=(I.hok _ _ h).1
  obtain⟨K,⟨od,es,f,S,_⟩,_⟩:=(I.hok _ _ k).1
  exact⟨ea,o,aa od,rfl,Z,O,by obtain⟨c,d,i,y⟩:=o;cases F;rfl,by rw[B];exact S⟩
 | dK _ _ z=>exact absurd z PM
 | dT _ _ z=>exact absurd z PN
 | dN _ _ _ z=>exact absurd z PP
def OH(K:aJ):List V->Hp->VK->Prop:=λxs H Q=>∃ x c C kvs cv b,xs=[x,c]/\XY c=aa cv/\ExcCls K C/\Rep K H x (.dict ((.none,.int (C:Nat))::kvs))/\bW K (.ref C) cv=aa b/\Q (.bl b) H
theorem HC:ZD X (.builtin "isinstance") (OH X.K):=by
 intro L s U H xs us Q I r h
 obtain⟨x,c,C,kvs,m,b,rfl,Y,g,W,e,q⟩:=h
 obtain⟨M,ox,od,rfl,J⟩:=OG I W
 obtain⟨u,F,rfl,A,G⟩:=vals2 r
 rw[U1 Y G]
 cases (show u=aG M from A)
 exact bv (OE g) I.kIn ⟨ox,od,J⟩ e (λz=>nomatch z) λtk=>⟨.bl b,H,I.tok tk,rfl,q⟩
inductive ClsVs:List V->List ag->Prop
 | nil:ClsVs [] []
 | cons {c:V} {cv:ag} {cs:List V} {cvs:List ag}:XY c=aa cv->ClsVs cs cvs->ClsVs (c::cs) (cv::cvs)
theorem ClsVs.rel(h:ClsVs cs cvs)(r:Zi cs us):us=cvs:=by
 induction h generalizing us with
 | nil=>cases r;rfl
 | cons e _ E=>cases r with|cons g G=>rw[U1 e g,E G]
def OI(K:aJ):List V->Hp->VK->Prop:=λxs H Q=>∃ x t cs cvs C kvs b,xs=[x,.ref t]/\H t=aa (.tup cs)/\ClsVs cs cvs/\ExcCls K C/\Rep K H x (.dict ((.none,.int (C:Nat))::kvs))/\hQ K (.ref C) cvs=aa b/\Q (.bl b) H
theorem HD:ZD X (.builtin "isinstance") (OI X.K):=by
 intro L s U H xs us Q I r h
 obtain⟨x,t,cs,cvs,C,kvs,b,rfl,l,Y,g,W,e,q⟩:=h
 obtain⟨M,ox,od,rfl,J⟩:=OG I W
 obtain⟨u,F,rfl,A,G⟩:=vals2 r
 cases (show u=aG M from A)
 cases (show F=aG t from G)
 obtain⟨_,f,T,⟨⟨N,D,c,a⟩,Z,O,⟨n,B⟩,_⟩⟩:=I.hok _ _ l
 cases O
 cases B
 cases Y.rel T
 exact PySem.W.kia_tup (OE g) I.kIn ⟨ox,od,J⟩ Z e (λz=>nomatch z) λtk=>⟨.bl b,H,I.tok tk,rfl,q⟩
def Rq(K:aJ):List V->Hp->VK->Prop:=λxs H Q=>XJ K xs H Q\/(OH K xs H Q\/OI K xs H Q)
theorem Tp(h:X.K=K):ZD X (.builtin "isinstance") (Rq K):=h▸ZD.or (Y3 rfl) (ZD.or HC HD)
end
section
variable{E:FK}{X:Exc->Sl->Prop}{Q:TV->Prop}
theorem Rr{c:V}{b:Bool}(g:ExcCls K e.cls)(Y:XY c=aa cv)(k:bW K (.ref e.cls) cv=aa b)(q:Q (.av (.d (.bool b)))):Bi K E X (Rq K) [.av (.d (dX e)),.raw c] Q:=λI U a ts as H vs QV s D _ j=>by
 obtain⟨v,w,rfl,s⟩:=Ra s D
 have:=s.pop.raw
 subst this
 exact .inr (.inl ⟨v,w,e.cls,_,cv,b,rfl,Y,g,s.top_d,k,j _ q _ H (s.pop.pop.bl _)⟩)
inductive TCs:TA->List V->Prop
 | nil:TCs Y0 []
 | cons {c:V} {t:TA} {cs:List V}:TCs t cs->TCs (YG (tC c) t) (c::cs)
theorem TCs.run{t:TA}(h:TCs t cs){σ:L2.St}{QV:List V->Hp->Prop}(q:QV cs H):t σ H QV:=by
 induction h generalizing QV with
 | nil=>exact q
 | cons _ E=>exact E (QV:=λxs w=>QV (_::xs) w) q
theorem HE{t:TA}{b:Bool}(hi:ρ[i]?=aa (aa (.d (dX e))))(l:TCs t cs)(Y:ClsVs cs cvs)(hz:cs.length<=100)(g:ExcCls K e.cls)(k:hQ K (.ref e.cls) cvs=aa b)(q:Q (.av (.d (.bool b)))) :
  Ev K E X (tCB (Rq K) (YG (ZN i) (YG (VI t) Y0))) ρ Q:=λI U ts as H QV s x j=>by
 unfold tCB YG
 refine S7 hi (Q:=λa=>a=.av (.d (dX e))) rfl I U ts as H _ s x λa m v y C=>?_
 subst m
 unfold VI
 refine l.run ⟨aT hz (by decide),λp T=>.inr (.inr ⟨v,p,cs,cvs,e.cls,_,b,rfl,Zw ..,Y,g,(C.ext (Yk T)).top_d,k,?_⟩)⟩
 exact j _ q _ _ ((C.ext (Yk T)).pop.bl _)
end
variable{hdct ab:Bool}{fI:ao}{oI:d9}{sn:List aQ}{sub:List ag}{col:Option Bool}{dd:Option ao}{q:Nat->Nat->aQ}{mN:aQ->Option ag}
section
variable{g:Array lh}{d:m9}{t:Nat}{os:OsState}{nm q:aQ}{N:ao}{bs:List ag}{k0 k1 k2 k3 k5:Option ag}{B:String}
theorem HF(y:dH Bn newId inN bmN)(p:bmB.contains (.type Bn)=ak)(F:dH B nid initId bmB)(T:ol h bmB bm){Q:Fin->ar->Prop}
  (R:h.get? C=aa (gg nm q C N bs bm hdct sn sub ab col dd k0 k1 k2 k3 k5 newId)) (hn:h.Ns N mN) (hi:mN "__init__" = aa (.ref fI))
  (l:h.get? fI=aa oI) (j:oI.cls=.type "function")
  (m:∀ h' e,j3 h h' e (.ref C) rest ->
   aw (aH prog w) A (call (.ref fI) (.ref e::rest)) (λr s'=>r=.none/\Q (.done (.ret (.ref e))) s') E ⟨h',g,d,t,os⟩) (hrest:rest.length<=sizeLine) :
  aw (aH prog w) A (cZ.«type.__call__» ⟨.ref C::rest,[]⟩) Q E ⟨h,g,d,t,os⟩:=by
 repeat (first|with_reducible refine fy R ?_|with_reducible refine wpAny_madeBy_exc R ?_|wp_step)
 refine codeAny_call_builtin_code (i3 _ y.quiet) (wpAny_check_new_subU y p T R ?_)
 refine codeAny_exc_new_subU y p F T R ?_ hrest
 show aw _ _ _ _ _ _
 have hC₁:=ae { cls:=.ref C,data:=.fields #[.ref h.objs.size,.none,.none,.none,.bool aF,.none] }
  (ae { cls:=.type "tuple",data:=.seq rest.toArray } R)
 have hfI₁:=ae { cls:=.ref C,data:=.fields #[.ref h.objs.size,.none,.none,.none,.bool aF,.none] }
  (ae { cls:=.type "tuple",data:=.seq rest.toArray } l)
 have hn₁:((h.push { cls:=.type "tuple",data:=.seq rest.toArray }).push { cls:=.ref C,data:=.fields #[.ref h.objs.size,.none,.none,.none,.bool aF,.none] }).Ns N mN :=
  let ⟨o,es,f,e,r⟩:=hn;⟨o,es,f,ae _ (ae _ e),r⟩
 have s:((h.push { cls:=.type "tuple",data:=.seq rest.toArray }).push
   { cls:=.ref C,data:=.fields #[.ref h.objs.size,.none,.none,.none,.bool aF,.none] }).get? (h.objs.size+1)=aa
   { cls:=.ref C,data:=.fields #[.ref h.objs.size,.none,.none,.none,.bool aF,.none] }:=by heap_get
 have a:(aG C::bm).contains (.ref C)=true:=by simp
 have T₁:=T.keeps (h':=(h.push { cls:=.type "tuple",data:=.seq rest.toArray }).push { cls:=.ref C,data:=.fields #[.ref h.objs.size,.none,.none,.none,.bool aF,.none] })
  λb o e=>ae _ (ae _ e)
 unfold iq
 repeat (first|with_reducible refine fy s ?_|(with_reducible refine ny hC₁ ?_;rw[a])|wp_step)
 show aw _ _ (typeLookup (.ref C) _) _ _ _
 refine wpAny_typeLookup_tail hC₁ hn₁ T₁ F.mroIs F.init.lookup ?_
 rw[hi]
 refine bF (ac ?_)
 unfold bindSpecial
 refine ac (jM (T := "function") ⟨_,hfI₁,j⟩ ?_)
 rw[if_pos (by decide)]
 refine af (ac (bx (m _ (h.objs.size+1) ⟨λb o M=>ae _ (ae _ M),dy (cz _),h.objs.size,s,dy (aq _),?_⟩) (λr s' J=>?_) λ_ _ x=>x))
 ·exact ae _ (mK rfl rfl)
 ·obtain⟨rfl,c⟩:=J
  wp_walk
  exact c
theorem HG(y:dH Bn newId inN bmN)(p:bmB.contains (.type Bn)=ak)(F:dH B nid initId bmB)(T:ol h bmB bm)
  (R:h.get? C=aa (gg nm q C N bs bm hdct sn sub ab col dd k0 k1 k2 k3 k5 newId)) (hn:h.Ns N mN) (hi:mN "__init__" = aa (.ref fI))
  (l:h.get? fI=aa oI) (j:oI.cls=.type "function")
  (m:∀ h' e,j3 h h' e (.ref C) rest ->
   aw (aH prog w) (A.under (.builtin "type.__call__" ⟨.ref C::rest,[]⟩)) (call (.ref fI) (.ref e::rest)) (λr s'=>r=.none/\Q (.ref e) s') E ⟨h',g,d,t,os⟩) (hrest:rest.length<=sizeLine) :
  aw (aH prog w) A (call (.ref C) rest) Q E ⟨h,g,d,t,os⟩:=by
 have Z:=tc_lookup
 have c:=tc_bind (.ref C)
 have X:(⟨h,g,d,t,os⟩:ar).TypeIs (.ref C) "type" := ⟨_,R,rfl⟩
 refine fg (kB ?_)
 show aw _ _ (callAny (.ref C) _) _ _ _
 repeat (any_goals (first|assumption|with_reducible refine fy R ?_|wp_step))
 refine⟨rfl,?_⟩
 refine codeAny_call_builtin_at (i3 _ (by decide +kernel)) entry_typeCall (wpAny_check_type_call_sub R (HF (hrest:=hrest) y p F T R hn hi l j λh' e S=>?_))
 exact m h' e S
end
variable{Q:Flow->ar->Prop}
section
variable{nm q:aQ}{N:ao}{bs:List ag}{k0 k1 k2 k3 k5:Option ag}{B:String}
theorem Rt{x:Sem ag}(b:bm.contains (.type "BaseException")=ak)(W:A.handled=none)
  (h:aw M A x (λv s₁=>∃ e t dx,v=.ref e/\s₁.heap.get? C=aa (gg nm q C N bs bm hdct sn sub ab col dd k0 k1 k2 k3 k5 newId) /\
   s₁.heap.get? e=aa { cls:=.ref C,dict:=dx,data:=.fields #[.ref t,.none,.none,.none,.bool aF,.none] }/\E (.ref e) s₁) E s) :
  aw M A (raiseStmt env (aa x) none) Q E s:=by
 have a:(aG C::bm).contains (.type "BaseException")=true:=by rw[mq,b,oA]
 unfold raiseStmt
 refine ac (bx h (λv s₁ h₁=>?_) λ_ _ x=>x)
 obtain⟨e,t,dx,rfl,R,G,f⟩:=h₁
 obtain⟨T,g,d,tk,L⟩:=s₁
 repeat (first|with_reducible refine fy G ?_|with_reducible refine fy R ?_|(with_reducible refine ny R ?_;rw[a])|wp_step)
 exact wpAny_raiseNew_none W f
theorem HH(y:dH Bn newId inN bmN)(p:bmB.contains (.type Bn)=ak)(F:dH B nid initId bmB){args:List dW}
  (b:bm.contains (.type "BaseException")=ak) (W:A.handled=none) (c:(dC cpos (aY args env)).any (·.1)=aF) (hi:mN "__init__" = aa (.ref fI))
  (h:aw (aH prog w) A (dz (.Name x np) env) (λf s₁=>f=.ref C/\aw (aH prog w) A (evalArgs (.ref C) ak (dC cpos (aY args env)) [])
   (λa s₂=>a.kw=[]/\a.pos.length<=sizeLine/\s₂.heap.get? C=aa (gg nm q C N bs bm hdct sn sub ab col dd k0 k1 k2 k3 k5 newId)/\s₂.heap.Ns N mN/\ol s₂.heap bmB bm/\(∃ oI,s₂.heap.get? fI=aa oI/\oI.cls=.type "function") /\
    ∀ h' e,j3 s₂.heap h' e (.ref C) a.pos->aw (aH prog w) (A.under (.builtin "type.__call__" ⟨.ref C::a.pos,[]⟩)) (call (.ref fI) (.ref e::a.pos)) (λr s'=>r=.none /\
     s'.heap.get? C=aa (gg nm q C N bs bm hdct sn sub ab col dd k0 k1 k2 k3 k5 newId)/\(∃ t dx,s'.heap.get? e=aa { cls:=.ref C,dict:=dx,data:=.fields #[.ref t,.none,.none,.none,.bool aF,.none] })/\E (.ref e) s') E { s₂ with heap:=h' }) E s₁) E s) :
  aw (aH prog w) A (exec (.Raise (aa (.Call (.Name x np) args [] cpos)) none pos) env) Q E s:=by
 rw[arm_exec_Raise]
 first
  | refine ac (cW (Rt (C:=C) (nm:=nm) (q:=q) (N:=N) (bs:=bs) (bm:=bm) (hdct:=hdct) (sn:=sn) (sub:=sub) (ab:=ab) (col:=col) (dd:=dd) (k0:=k0) (k1:=k1) (k2:=k2) (k3:=k3) (k5:=k5) (newId:=newId) b W (ac (bx (jN (bx h (λf s₁ h₁=>?_) λ_ _ x=>x)) (λv s₃ h₃=>ac (cW (af h₃))) λ_ _ x=>x))))
  | (simp only[evalOpt,Option.map];refine ac (cW (Rt (C:=C) (nm:=nm) (q:=q) (N:=N) (bs:=bs) (bm:=bm) (hdct:=hdct) (sn:=sn) (sub:=sub) (ab:=ab) (col:=col) (dd:=dd) (k0:=k0) (k1:=k1) (k2:=k2) (k3:=k3) (k5:=k5) (newId:=newId) b W (ac (bx (jN (bx h (λf s₁ h₁=>?_) λ_ _ x=>x)) (λv s₃ h₃=>ac (cW (af h₃))) λ_ _ x=>x)))))
  | (refine ac (cW (Rt (C:=C) (nm:=nm) (q:=q) (N:=N) (bs:=bs) (bm:=bm) (hdct:=hdct) (sn:=sn) (sub:=sub) (ab:=ab) (col:=col) (dd:=dd) (k0:=k0) (k1:=k1) (k2:=k2) (k3:=k3) (k5:=k5) (newId:=newId) b W ?_));refine ac (bx (jN (bx h (λf s₁ h₁=>?_) λ_ _ x=>x)) (λv s₃ h₃=>ac (cW (af h₃))) λ_ _ x=>x))
 obtain⟨rfl,h₁⟩:=h₁
 unfold callWith
 refine ac (bF (bx h₁ (λa s₂ h₂=>ac (cW ?_)) λ_ _ x=>x))
 obtain⟨G,D⟩:=a
 obtain⟨m,K,R,H,T,⟨oI,l,j⟩,h₂⟩:=h₂
 obtain rfl:D=[]:=m
 obtain⟨I,g,d,tk,L⟩:=s₂
 simp only[c]
 refine ac (wpAny_keeperOf_exc R ?_)
 refine ac (HG (hrest:=K) y p F T R H hi l j λh' e S=>bx (h₂ h' e S) (λr s' z=>⟨z.1,ac (bF (mW (af ?_)))⟩) λ_ _ z=>z)
 obtain⟨_,i,⟨t,dx,M⟩,u⟩:=z
 exact⟨e,t,dx,rfl,i,M,u⟩
end
variable{Q:Unit->ar->Prop}
section
open PySem.W PySem.Builtin.ObjectAttr
def WE:List ag->Bool
 | [.type a,.type b,.type c,.type d]=>a == "ValueError" && b == "Exception" && c == "BaseException" && d == "object"
 | .ref _::r=>WE r
 | _=>aF
theorem OJ{l:List ag}(h:WE l=ak):(∃ c r,l=.ref c::r/\WE r=ak)\/l=[.type "ValueError",.type "Exception",.type "BaseException",.type "object"]:=by
 unfold WE at h
 split at h
 ·rename_i a b c d
  simp only[aP,beq_iff_eq] at h
  obtain⟨⟨⟨rfl,rfl⟩,rfl⟩,rfl⟩:=h
  exact .inr rfl
 ·exact .inl ⟨_,_,rfl,h⟩
 ·cases h
theorem HI(self:ag)(l:List ag)(h:WE l=ak):refuseLoop self "__setattr__" l=ej ():=by
 induction l with
 | nil=>cases h
 | cons v r E =>
  rcases OJ h with⟨c,C,e,h'⟩|e
  ·cases e;rw[refuseLoop_ref];exact E h'
  ·rw[e];exact PySem.F.store_ValueError.passes self
theorem HJ(l:List ag)(h:WE l=ak):l.contains (.type "object")=true:=by
 induction l with
 | nil=>cases h
 | cons v r E =>
  rcases OJ h with⟨c,C,e,h'⟩|e
  ·cases e;rw[mq,E h',oA]
  ·rw[e];decide +kernel
def Ru(K:aJ)(C:ao):Bool:=(clsIn K C).any λcd=>WE cd.mro
structure ExcSet(K:aJ)(C:ao)(name:aQ):Prop where
 sa:cu K (.ref C) "__setattr__" = aa (aa (.builtin "object.__setattr__"))
 ov:Ru K C=ak
 tk:m7 K C name=aa none
 hd:g0 K C=ak
section
variable{x:ao}
theorem OK(X:K.In s.heap)(I:cy s.heap x ox C od)(T:Ru K C=ak)(l:m7 K C name=aa none)
  (h:∀ b,aw (aH prog w) A.in1 (storeInOwnDict (.ref x) (.ref C) (.str name tk) name v b)
   (λfin s'=>match fin with|.done f=>R (.ok f) s'|.again p=>p.quiet=ak/\fZ (aH prog w) A p R s') (λe s'=>R (.error e) s') s) :
  fZ (aH prog w) A (.call (.builtin "object.__setattr__") ⟨[.ref x,.str name tk,v],[]⟩) R s:=by
 have i:=PySem.F.store_object
 obtain⟨cd,Y,J⟩:=kc T
 have ne:cd.mro.isEmpty=false:=by cases q:cd.mro with|nil=>rw[q] at J;cases J|cons _ _=>rfl
 have sub:nB (aH prog w) s.heap (iq (.ref x) (.type "object")) true:=I.type.andThen (looks_mroIn X (by unfold fw;rw[Y,jh,if_neg (by rw[ne];decide),HJ _ J]))
 refine i8 i.slot.plain i.entry (@check_slot (aH prog w) _ _ s "object.__setattr__" "object" "__setattr__" (.ref x) [.str name tk,v] [] _ i.kind i.split sub (i.args (.ref x) (.str name tk) v) ?_)
 obtain⟨c,m,r⟩:=Option.bind_eq_some_iff.mp l
 have S:nB (aH prog w) s.heap (mroOf (.ref C)) cd.mro:=(jn X Y).andThen .now
 have j:nB (aH prog w) s.heap (storeTaker? c) none:=by
  cases c with
  | none=>exact .now
  | some a =>
   obtain⟨b,M,g⟩:=Option.map_eq_some_iff.mp r
   refine (looks_takesIn X M).andThen ?_
   cases b with
   | false=>exact .now
   | true=>cases g
 rw[osa_eq,refuse_eq]
 refine ac (ac (I.type.here (ac (S.here ?_))))
 rw[HI _ _ J]
 refine af (ac (I.type.here (ac ((mG X m).here (ac (j.here ?_))))))
 exact h _
theorem HK(X:K.In s.heap)(g:ExcSet K C name)(W:s.heap.get? x=aa ⟨.ref C,none,.fields vs,sl⟩)
  (h:∀ h',h'.get? x=aa ⟨.ref C,aa s.heap.objs.size,.fields vs,sl⟩->h'.Ns1 s.heap.objs.size (λy=>if y=name then aa v else none)->(∀ b o,b≠x->s.heap.get? b=aa o->h'.get? b=aa o)->Q () { s with heap:=h',toks:=s.toks+2 }) :
  aw (aH prog w) A (setAttr (.ref x) name v) Q E s:=by
 have I:cy s.heap x ⟨.ref C,none,.fields vs,sl⟩ C none:=⟨W,rfl,rfl,trivial⟩
 refine lr X I g.sa (OK (s:={ s with toks:=s.toks+1 }) X I g.ov g.tk λb=>?_)
 obtain⟨cd,Y,R⟩:=kc g.hd
 have a:x≠s.heap.objs.size:=aE (ax W)
 refine ac (af (ac (ac (kW W (ac (jX (s:={ s with toks:=s.toks+1 }) (jn X Y) ?_))))))
 rw[R]
 have hx₁:(s.heap.push { cls:=.type "dict",data:=.dict #[] }).get? x=aa ⟨.ref C,none,.fields vs,sl⟩:=ae _ W
 refine ac (kj ?_)
 refine ac (wpAny_update hx₁ ?_)
 refine af (ac (af (ac ?_)))
 have f:((s.heap.push { cls:=.type "dict",data:=.dict #[] }).update x λo=>{ o with dict:=aa s.heap.objs.size }).get? s.heap.objs.size=aa { cls:=.type "dict",data:=.dict #[] } :=
  (cO _ _ _ _ a.symm).trans (mK rfl rfl)
 have r:((s.heap.push { cls:=.type "dict",data:=.dict #[] }).update x λo=>{ o with dict:=aa s.heap.objs.size }).Ns s.heap.objs.size (λ_=>none) :=
  ⟨_,#[],_,f,rfl,λe G=>absurd G (by simp),λ_=>rfl⟩
 refine wpAny_nsSet1 (bO.Ns1.of_empty r) λh' J P=>?_
 obtain⟨p,l,m,c,i,j⟩:=J.count (lG name v Within.nil)
 refine ac (wpAny_lookBehind c (by rw[i];exact pastItsLine_dict (aT j (by rw[cC,lk,dG];omega))) ?_)
 refine af (h h' ?_ J λb o M e=>?_)
 ·exact (P.2 x a).trans (a8 _ hx₁ rfl)
 ·exact (P.2 b (aE (ax e))).trans ((cO _ _ _ _ M).trans (ae _ e))
theorem HL{ns:List aQ}(X:K.In s.heap)(g:ExcSet K C name)(W:s.heap.get? x=aa ⟨.ref C,aa dx,.fields vs,sl⟩)(F:dx≠x)
  (hn:s.heap.Ns1 dx mA) (hw:i9 mA ns) (hsz:ns.length<1000)
  (h:∀ h',h'.Ns1 dx (λy=>if y=name then aa v else mA y)->cN dx s.heap h'->Q () { s with heap:=h',toks:=s.toks+2 }) :
  aw (aH prog w) A (setAttr (.ref x) name v) Q E s:=by
 obtain⟨od,es,f,S,N⟩:=id hn
 have I:cy s.heap x ⟨.ref C,aa dx,.fields vs,sl⟩ C (aa od):=⟨W,rfl,rfl,S⟩
 refine lr X I g.sa (OK (s:={ s with toks:=s.toks+1 }) X I g.ov g.tk λb=>?_)
 obtain⟨cd,Y,R⟩:=kc g.hd
 refine ac (af (ac (ac (kW W (ac (jX (s:={ s with toks:=s.toks+1 }) (jn X Y) ?_))))))
 rw[R]
 refine af (a:=aa dx) (ac (af (ac ?_)))
 refine wpAny_nsSet1 (s:={ s with toks:=s.toks+1 }) hn λh' U r=>?_
 obtain⟨p,l,m,c,i,j⟩:=U.count (lG name v hw)
 refine ac (wpAny_lookBehind c (by rw[i];exact pastItsLine_dict (aT j (by rw[cC,dG];omega))) ?_)
 exact af (h _ U r)
end
end
variable{e:ao}{f:aQ}{tv:TE}
section
open PySem.W
def YObj(e C:ao)(d:Option ao):bO->Prop:=λh=>∃ t,h.get? e=aa ⟨.ref C,d,.fields #[.ref t,.none,.none,.none,.bool aF,.none],#[]⟩
def hY(e C:ao)(d:Option ao):HO:=.ext (YObj e C d)
theorem OL{d:Option ao}(x:YObj e C d h):Zx P w H h e (hY e C d) :=
 ⟨x,let ⟨t,q⟩:=x;⟨_,q⟩,λh1 h2 ⟨t,q⟩ k=>⟨t,k _ q⟩⟩
theorem OM{d:ao}{fs:List (aQ×V)}(x:XDct d fs h):Zx P w H h d (hXD d fs) :=
 ⟨x,let ⟨_,⟨_,_,_,q,_⟩,_⟩:=x;⟨_,q⟩,λh1 h2 ⟨mA,n,r⟩ k=>⟨mA,n.at k,r⟩⟩
def Rv(K:aJ)(C:ao)(ta tv:TE)(f:aQ):TS:=λD σ H=>tv σ H λy H1=>ta σ H1 λx H2=>∃ e,x=.ref e /\
  ((H2 e=aa (hY e C none)/\∀ d,H2 d=none->d≠e->D.nx σ (upd (upd H2 e (hY e C (aa d))) d (hXD d [(f,y)]))) \/
   ∃ d fs,H2 e=aa (hY e C (aa d))/\H2 d=aa (hXD d fs)/\d≠e/\fs.length<900/\D.nx σ (upd H2 d (hXD d (Xq f y fs))))
section
variable{σ:St}{o value:dW}
theorem Inv.excd{d:ao}{φ:bO->Prop}{B p:HO}(I:'#')(G:H e=aa (.ext φ))(hd:H d=none)(g:s.heap.get? d=none)(k:∀ b u,b≠e->s.heap.get? b=aa u->h'.get? b=aa u)(i:∃ u,h'.get? e=aa u)
  (n1:Zx X.prog X.w (upd (upd H e B) d p) h' e B) (L:Zx X.prog X.w (upd (upd H e B) d p) h' d p):Inv X pins σ (upd (upd H e B) d p) { s with heap:=h',toks:=t' }:=by
 have O:d≠e:=λz=>by rw[z,G] at hd;cases hd
 have ne:∀ b,H b=none->b≠e:=λb n z=>by rw[z,G] at n;cases n
 have J:∀ b u,s.heap.get? b=aa u->b≠d:=λb u q z=>by rw[z,g] at q;cases q
 have c:∀ b u,H b=aa u->(∀ l,u≠.ext l)->upd (upd H e B) d p b=aa u:=λb u q n=>by
  rw[Zg (λz=>by rw[z,hd] at q;cases q),Zg (λz=>by rw[z,G] at q;cases q;exact n _ rfl)];exact q
 refine I.un ⟨λb u q n _ _=>k b u (ne b n) q,λb u q n _ _=>⟨u.slots,k b u (ne b n) q⟩,λb u q n _=>by rw[Zg (J b u q),Zg (ne b n)];exact n,λb u q _=>?_,λb xs q=>c b _ q (by intro _ z;cases z),λb u xs q=>c b _ q (by intro _ z;cases z),λb ps q=>⟨#[],by simpa using c b _ q (by intro _ z;cases z)⟩⟩ λa u q=>?_
 ·by_cases f:b=e
  ·subst f;exact i
  ·exact⟨u,k b u f q⟩
 ·by_cases v:a=d
  ·subst v;rw[Zw] at q;cases q;exact L
  ·rw[Zg v] at q
   by_cases j:a=e
   ·subst j;rw[Zw] at q;cases q;exact n1
   ·rw[Zg j] at q
    refine (I.hok a u q).stay (λb h M z=>k b h (λy=>?_) z) (λb z=>c b _ z (by intro _ y;cases y)) (λb xs z=>c b _ z (by intro _ y;cases y)) λb o z=>c b _ z (by intro _ w;cases w)
    rcases M with r|r
    ·exact j (r▸y)
    ·rw[y,G] at r;cases r
theorem HM(g:ExcSet X.K C f)(ha:PE X o ta)(N:PE X value tv)(P:j8 value (aa (.Attribute o f pos')) pos.line X.env=ej aF):PS X (.Assign [.Attribute o f pos'] value pos) (Rv X.K C ta tv f):=by
 intro L s U H D I h
 refine plainObj_wpAny_Assign_Attribute (thn (N L s U H _ I h) λu s1 ⟨y,H1,I1,ry,q⟩=>thn (ha L s1 U H1 _ I1 q) λov s2 ⟨x,H2,I2,rx,e,ex,E⟩=>?_) P
 subst ex
 obtain rfl:ov=aG e:=rx
 rcases E with⟨G,E⟩|⟨d,fs,G,hd,O,c,E⟩
 ·obtain⟨t,l⟩:=(I2.hok _ _ G).1
  have B:H2 s2.heap.objs.size=none:=I2.hok.fresh (aq _)
  have O:s2.heap.objs.size≠e:=bt (ax l)
  refine HK I2.kIn g l λh' k1 k2 k3=>⟨U,_,I2.excd (t':=s2.toks+2) G B (dy (aq _)) k3 ⟨_,k1⟩ (OL ⟨t,k1⟩) (OM ⟨_,k2,λg=>?_,λg A=>?_⟩),E _ B O⟩
  ·by_cases z:g=f
   ·subst z;simp only[List.lookup_cons_self,if_true];exact ry
   ·have:([(f,y)]:List (aQ×V)).lookup g=none:=by
     rw[cB]
     have:(g == f)=false:=beq_false_of_ne z
     rw[this];rfl
    rw[this,if_neg z];trivial
  ·by_cases z:g=f
   ·subst z;exact .head _
   ·exact absurd (if_neg z) A
 ·obtain⟨t,l⟩:=(I2.hok _ _ G).1
  obtain⟨K,a,J,R⟩:=(I2.hok _ _ hd).1
  refine HL I2.kIn g l O a R (by rw[ah];omega) λh' k1 k2=>⟨U,_,I2.write (t':=s2.toks+2) (x:=d) (e:=d) (by rw[hd];exact bD) (.inl rfl) (λb u M z=>(k2.2 b M).trans z) (let ⟨o,_,_,q,_⟩:=k1;⟨o,q⟩) (OM ⟨_,k1,λg=>?_,λg A=>?_⟩),E⟩
  ·rw[Pe]
   by_cases z:g=f
   ·rw[if_pos z,if_pos z];exact ry
   ·rw[if_neg z,if_neg z];exact J g
  ·by_cases z:g=f
   ·rw[z];exact (SC f y fs).1
   ·exact (SC f y fs).2 g (R g λq=>A ((if_neg z).trans q))
end
end
structure ExcI(K:aJ)(C:ao)(bmB:List ag)(newId:String)(fI:ao):Prop where
 ex:∃ tl N nm qn bs hdct sn sub ab col dd k0 k1 k2 k3 k5,K.lookup C=aa (gg nm qn C N bs tl hdct sn sub ab col dd k0 k1 k2 k3 k5 newId)/\mF K N=ak/\bL K N "__init__" = aa (aa (.ref fI))/\mE K bmB tl=ak/\∃ oN,K.lookup N=aa oN
 fn:∃ oI,K.lookup fI=aa oI/\oI.cls=.type "function"
theorem HN{N:ao}{m:aQ->Option ag}{n:aQ}(X:K.In h)(G:h.Ns N m)(e:bL K N n=aa (aa v)):m n=aa v:=by
 obtain⟨o,es,f,J,hd,_,B⟩:=G
 have a:=B n
 unfold bL at e
 split at e
 case h_2=>cases e
 rename_i q
 have S:=(X _ _ q).symm.trans J
 cases S
 cases hd
 split at e
 case h_2=>split at e<;>cases e
 rename_i en he
 cases e
 rw[<- a]
 unfold nsFind findBy
 rw[<- lV,he]
 rfl
section
variable{σ:St}
theorem Inv.born{o:HO}(I:'#')(hn:H e=none)(c:s.heap.get? e=none)(k:∀ b u,s.heap.get? b=aa u->h'.get? b=aa u)(n1:Zx X.prog X.w (upd H e o) h' e o):Inv X pins σ (upd H e o) { s with heap:=h',toks:=t' }:=by
 have ne:∀ b u,s.heap.get? b=aa u->b≠e:=λb u q z=>by rw[z,c] at q;cases q
 refine I.un ⟨λb u q n _ _=>k b u q,λb u q n _ _=>⟨u.slots,k b u q⟩,λb u q n _=>by rw[Zg (ne b u q)];exact n,λb u q _=>⟨u,k b u q⟩,λb xs q=>by rw[Zg (Z5 q hn)];exact q,λb u xs q=>by rw[Zg (Z5 q hn)];exact q,λb ps q=>⟨#[],by rw[Zg (Z5 q hn)];simpa using q⟩⟩ λa u q=>?_
 by_cases m:a=e
 ·subst m;rw[Zw] at q;cases q;exact n1
 ·rw[Zg m] at q
  refine (I.hok a u q).stay (λb h _ z=>k b h z) (λb z=>by rw[Zg (Z5 z hn)];exact z) λb xs z=>by rw[Zg (Z5 z hn)];exact z
def del(H:Hp)(e:ao):Hp:=λb=>if b=e then none else H b
theorem Rw(h:b≠e):del H e b=H b:=if_neg h
theorem Inv.forget{φ:bO->Prop}(I:'#')(G:H e=aa (.ext φ)):Inv X pins σ (del H e) s:=by
 have c:∀ b u,H b=aa u->(∀ l,u≠.ext l)->del H e b=aa u:=λb u q n=>by
  rw[Rw (λz=>by rw[z,G] at q;cases q;exact n _ rfl)];exact q
 have:=I.un (t':=s.toks) (H':=del H e) (h':=s.heap) ⟨λb u q n _ _=>q,λb u q n _ _=>⟨u.slots,q⟩,λb u q n _=>by unfold del;split;rfl;exact n,λb u q _=>⟨u,q⟩,λb xs q=>c b _ q (by intro _ z;cases z),λb u xs q=>c b _ q (by intro _ z;cases z),λb ps q=>⟨#[],by simpa using c b _ q (by intro _ z;cases z)⟩⟩ λa u q=>?_
 ·exact this
 ·have m:a≠e:=λz=>by rw[z] at q;unfold del at q;rw[if_pos rfl] at q;cases q
  rw[Rw m] at q
  exact (I.hok a u q).stay (λb h _ z=>z) (λb z=>c b _ z (by intro _ y;cases y)) (λb xs z=>c b _ z (by intro _ y;cases y)) λb o z=>c b _ z (by intro _ w;cases w)
theorem HP(I:'#')(m:Inv X pins σ H' s')(k:∀ b o,s.heap.get? b=aa o->b∉frs X.stack->H b=none->s'.heap.get? b=aa o)
  (G:s'.heap.get? ea=aa oe) (hd:oe.data=.fields vs) (hz:1<vs.size) (h1:vs[1]?=aa .none) (hn:H' ea=none) (g:s.heap.get? ea=none) (th:∀ b o,s.heap.get? b=aa o->∃ o',s'.heap.get? b=aa o') (f:F oe.cls oe.dict σ H'):XE X F (.ref ea) s':=by
 have l:ea∉frs X.stack:=λi=>by
  obtain⟨_,o,J,j⟩:=m.stack.mem i
  rw[G] at J
  cases J
  exact j vs hd
 have K:∀ env∈X.stack,∀ a,env.frame=aa a->a∈ea::frs X.stack:=λenv h1 a O=>.tail _ (mem_filterMap.mpr ⟨env,h1,O⟩)
 refine⟨ea,oe.cls,oe.dict,aF,jp s'.heap (ea::frs X.stack),H',σ,rfl,⟨λb o e=>ix _ e,hU _ (.head _),kb m.stack K,oe,vs,G,rfl,rfl,hd,hz,by rw[if_neg aA];exact h1⟩,
  m.pins_of λp T=>m.pin p (by simpa using a9 _ (by simpa using T)),λa o e=>?_,⟨λb o e n c ne=>?_,λb o e c ne=>?_,λp T=>?_⟩,f⟩
 ·refine (m.hok a o e).stay (λb u M q=>cr _ q λi=>?_) (λ_ z=>z) λ_ _ z=>z
  have h:H' b=none:=by
   rcases gh.mp i with z|z
   ·rw[z];exact hn
   ·exact m.stkFree b z
  rcases M with z|z
  ·rw[z,e] at h;cases h
  ·rw[z] at h;cases h
 ·have S:=I.base.keep b o e n (λz=>c (Tn I z)) ne
  exact cr _ (k b o S c (I.base.free b o e n ne)) λi=>by
   rcases gh.mp i with z|z
   ·rw[z,g] at S;cases S
   ·exact c z
 ·obtain⟨B,S⟩:=I.base.there b o e ne
  obtain⟨o',A⟩:=th b B S
  exact⟨o',cr _ A λi=>by
   rcases gh.mp i with z|z
   ·rw[z,g] at S;cases S
   ·exact c z⟩
 ·obtain⟨S,w,r,Z,_⟩:=m.pin p (a9 _ T)
  obtain⟨U,N,v,C,_⟩:=I.pin p (a9 _ T)
  refine cr _ S λz=>?_
  rcases gh.mp z with z|z
  ·rw[z,g] at U;cases U
  rcases I.ok.stk with e|⟨e,ef⟩
  ·rw[e] at z;exact Z z
  ·rw[e] at z
   rcases Tm z with y|y
   ·rw[ef] at y;exact r (aS y).symm
   ·exact Z y
def Tq(C:ao)(ks:List aQ):Sp:=λvs H Q _=>∃ e ws,vs=.ref e::ws/\ws.length=ks.length/\H e=aa (hY e C none)/\∀ d,H d=none->d≠e->Q .non (upd (upd H e (hY e C (aa d))) d (hXD d (ks.zip ws)))
def ON(C:ao)(ks:List aQ)(F:FK)(t:TA):TS:=λ_ σ H=>t σ H λvs H1=>vs.length=ks.length/\vs.length<=1000/\∀ d,H1 d=none->F (.ref C) (aa d) σ (upd H1 d (hXD d (ks.zip vs)))
theorem HQ{B:String}{k:Nat}{ks:List aQ}{t:TA}{e:dW}(Fn:dH Bn newId inN bmN)(p:bm.contains (.type Bn)=ak)(FB:dH B nid initId bm)(W:ExcI X.K C bm newId fI)(Y:X.calm=ak)(A:Gl X x)(hm:X.mg x=aa (.ref C))
  (Fk:FnOk X.prog X.w X.K X.mg X.base (CXE X.prog X.w) k fI fd ps (Tq C ks)) (hr:Room (k+1) X.A) (hb:Y1 X.K fd ps []) (ha:PA (X.wish (XE X F)) (e::es) t) (hd:(x == ("__debug__" : aQ))=false:=by decide)
  (he:aY (e::es) X.env=(aF,dz e X.env)::aY es X.env:=by rfl) (m:(dC cpos (aY es X.env)).any (·.1)=false:=by rfl) :
  PS (X.wish (XE X F)) (.Raise (aa (.Call (.Name x np) (e::es) [] cpos)) none pos) (ON C ks F t):=by
 intro L s U H D I f
 have Q:Inv X L U H s:=I.unwish
 obtain⟨tl,N,nm,q,bs,hdct,sn,sub,ab,col,dd,k0,k1,k2,k3,k5,R,hN,hi,hT,oN,hoN⟩:=W.ex
 obtain⟨oI,hoI,j⟩:=W.fn
 have G:s.heap.Ns N (s.heap.nsMap N):=.of_isNs (lc Q.kIn hN)
 have c:(dC cpos (aY (e::es) X.env)).any (·.1)=false:=by rw[he];show (aF || (dC cpos (aY es X.env)).any (·.1))=aF;rw[m];rfl
 refine HH (C:=C) (nm:=nm) (q:=q) (N:=N) (bs:=bs) (bm:=tl) (hdct:=hdct) (sn:=sn) (sub:=sub) (ab:=ab) (col:=col) (dd:=dd) (k0:=k0) (k1:=k1) (k2:=k2) (k3:=k3) (k5:=k5) (mN:=s.heap.nsMap N) (fI:=fI)
  Fn p FB ((iu Q.kIn hT).hasType FB.hasBase) (Q.ok.hd Y) c (HN Q.kIn G hi) (XC (X:=X.wish (XE X F)) I A hm ⟨rfl,?_⟩ hd)
 have ha1:=ha cpos L s U H _ I f
 rw[he] at ha1 ⊢
 refine li (thn ha1 λus s1 ⟨vs,H1,I1w,r,hl1,hl2,hq⟩=>?_)
 have J:Inv X L U H1 s1:=I1w.unwish
 refine⟨rfl,by rw[<- r.length,dG];omega,J.kIn _ _ R,?_,iu J.kIn hT,⟨oI,J.kIn _ _ hoI,j⟩,λh' M a=>?_⟩
 ·obtain⟨o,es',ep,S,g⟩:=G
  have:=(Q.kIn _ _ hoN).symm.trans S
  cases this
  exact⟨_,es',ep,J.kIn _ _ hoN,g⟩
 have hne:H1 M=none:=by
  cases z:H1 M with
  | none=>rfl
  | some o =>
   obtain⟨u,hu⟩:=Rm (J.hok M o z)
   rw[a.new] at hu
   cases hu
 obtain⟨tt,he0,ht0,_⟩:=a.there
 have E:Inv X L U (upd H1 M (hY M C none)) { s1 with heap:=h',toks:=s1.toks }:=J.born hne a.new a.keeps (OL ⟨tt,he0⟩)
 have r2:Zi (V.ref M::vs) (aG M::us):=.cons rfl r
 have i:Tq C ks (V.ref M::vs) (upd H1 M (hY M C none)) (λv w=>v=.non/\∃ d,H1 d=none/\d≠M/\w=upd (upd (upd H1 M (hY M C none)) M (hY M C (aa d))) d (hXD d (ks.zip vs))) E0 :=
  ⟨M,vs,rfl,hl1,Zw ..,λd hd O=>⟨rfl,d,by rw[Zg O] at hd;exact hd,O,rfl⟩⟩
 have K:(aG M::us++[]).length=ps.length:=by
  rw[ck,<- Fk.len _ _ _ _ i];exact r2.length.symm
 have hbb:=hb _ (aG M::us) E.kIn K
 rw[ck] at hbb
 refine fg (eA (Fk.run _ X.stack _ _ ⟨aG M::us,[]⟩ (aG M::us) _ _ E0 (hr.make C us []) (E.env0.make C us []) hbb r2 i) λz s' Z=>?_)
 cases z with
 | error e=>obtain⟨_,_,_,_,_,_,_,_,_,_,_,_,_,y⟩:=Z;exact y.elim
 | ok fl =>
  cases fl with
  | ret u =>
   have hq2:=Z
   obtain⟨_,H',_,_,un,_,_,_,_⟩:=hq2
   obtain⟨v,H',P,T,ev,d,hd1,O,rfl⟩:=E.after Z
   subst ev
   have hY3:upd (upd (upd H1 M (hY M C none)) M (hY M C (aa d))) d (hXD d (ks.zip vs)) M=aa (hY M C (aa d)):=by rw[Zg (bR O),Zw]
   obtain⟨t3,g3⟩:=(P.hok _ _ hY3).1
   have eH:del (upd (upd (upd H1 M (hY M C none)) M (hY M C (aa d))) d (hXD d (ks.zip vs))) M=upd H1 d (hXD d (ks.zip vs)):=by
    funext b
    by_cases z:b=M
    ·subst z;rw[Zg (bR O)];unfold del;rw[if_pos rfl];exact hne.symm
    ·rw[Rw z]
     by_cases y:b=d
     ·subst y;rw[Zw,Zw]
     ·rw[Zg y,Zg y,Zg z,Zg z]
   have I4:=P.forget hY3
   rw[eH] at I4
   have hu:u=Value.none:=T
   have h:∀ b o,s1.heap.get? b=aa o->b≠M:=λb o q z=>by rw[z,a.new] at q;cases q
   refine⟨hu,P.kIn _ _ R,⟨t3,aa d,g3⟩,HP (oe:=⟨.ref C,aa d,.fields #[.ref t3,.none,.none,.none,.bool aF,.none],#[]⟩) J I4 (λb o q l n=>?_) g3 rfl (by simp) rfl (by rw[Zg (bR O)];exact hne) a.new (λb o q=>un.there b o (a.keeps b o q) (by simp)) (hq d hd1)⟩
   exact un.keep b o (a.keeps b o q) (by rw[Zg (h b o q)];exact n) l (by simp)
  | next=>exact Z.elim
  | brk=>exact Z.elim
  | cont=>exact Z.elim
end
structure ExcFld(K:aJ)(C:ao)(f:aQ):Prop where
 get:ExcGet K C
 hd:g0 K C=ak
 no:cu K (.ref C) f=aa none
def Rx(K:aJ)(ta:TE)(f:aQ):TE:=λσ H Q=>ta σ H λx H1=>∃ ea C a vs v,x=.ref ea/\H1 ea=aa (hX ea (.ref C) (aa a))/\H1 a=aa (hXD a vs)/\ExcFld K C f/\vs.lookup f=aa v/\Q v H1
variable{e:dW}
theorem HR(G:PE X e ta)(hb:e8 e f X.env (dz e X.env)=dz e X.env:=by rfl):PE X (.Attribute e f pos) (Rx X.K ta f):=by
 intro L s U H Q I h
 refine Kl hb (thn (G L s U H _ I h) λu s1 ⟨x,H1,I1,rx,ea,C,a,vs,v,ex,h1,h2,g,l,q⟩=>?_)
 subst ex
 obtain rfl:u=aG ea:=rx
 obtain⟨o,S,k1,k2,k3,T⟩:=(I1.hok _ _ h1).1
 obtain⟨K,n,r,_⟩:=(I1.hok _ _ h2).1
 obtain⟨od,j,D⟩:=Pd n
 have b:=r f
 rw[l] at b
 cases hv:K f with
 | none=>rw[hv] at b;exact b.elim
 | some u =>
  rw[hv] at b
  have N:Zm v u:=b
  have J:cy s1.heap ea o C (aa od):=⟨k1,k2,by obtain⟨c,d,i,y⟩:=o;cases T;rfl,by rw[k3];exact j⟩
  exact Hz I1.kIn J g.get (PySem.W.findObj_own g.hd g.no rfl (by rw[D,hv])) (Kj N) ⟨v,H1,I1.tok _,N,q⟩
theorem HS(h:X.K=K)(G:PE X e ta)(hb:e8 e f X.env (dz e X.env)=dz e X.env:=by rfl):PE X (.Attribute e f pos) (Rx K ta f):=h▸HR G hb
variable{Q:TV->Prop}
theorem HU{e:ao}{k1:aQ}{Q:VK}{b:V}(G:H e=aa (hY e C none))(q:∀ d,H d=none->d≠e->Q .non (upd (upd H e (hY e C (aa d))) d (hXD d [(k1,b)]))) :
  Rv K C (ZN 0) (ZN 1) k1 { nx:=λ_ H'=>Q .non H',rt:=Q } [aa (.ref e),aa b] H :=
 ⟨b,rfl,.ref e,rfl,e,rfl,.inl ⟨G,q⟩⟩
section
variable{p1 k1 self:aQ}{f:ao}{k:Nat}
theorem init1(F:FunD K "__init__" qual st dV f fd)(i:FnScope [self,p1] [self,p1] (Ze st))
  (g:∀ (cdv:ag) (A:cG) (outer:List iS) (s:ar) (H:Hp) (E:XK),PSs (Z6 CX P w K mg base [self,p1] qual (Ze st) f cdv A outer s H E).nox (ZC st) (Rv K C (ZN 0) (ZN 1) k1)) :
  FnOk P w K mg base CX (k+1) f fd [self,p1] (Tq C [k1]):=by
 refine F.ok i (λvs H Q E ⟨e,S,z,l,_⟩=>by rw[z,cC,l];rfl) λcdv A outer s H vs Q E _ h=>⟨_,g cdv A outer s H E,?_⟩
 obtain⟨e,S,rfl,l,G,q⟩:=h
 match S,l with
 | [w1],_=>exact HU G q
end
variable {A:TA}{X:Exc->Sl->Prop}
theorem Ry{α β:Type}:∀ {as:List α} {bs:List β},as.length=bs.length->(as.zip bs).map gq=as
 | [],[],_=>rfl
 | a::as,b::bs,h=>by rw[f9,bw,Ry (by simpa using h)]
theorem Rz{α β:Type}:∀ {as:List α} {bs:List β},as.length=bs.length->(as.zip bs).map be=bs
 | [],[],_=>rfl
 | a::as,b::bs,h=>by rw[f9,bw,Rz (by simpa using h)]
theorem OO{ks:List aQ}(h:Ea K F X A ρ λbs=>NRs bs/\bs.length=ks.length/\bs.length<=1000/\X ⟨C,ks.zip (bs.map TV.data)⟩ ρ):Sv K F X (ON C ks F A) ρ DV:=λI U ts as H D _ s x _ =>
 h I U ts as H _ s x λbs ⟨nr,hl,hz,q⟩ vs H' s' hv=>by
  obtain⟨W,T⟩:=SR.reps nr.all hv s'
  have r:ks.length=vs.length:=by omega
  have f:ks.length=(bs.map TV.data).length:=by rw[ah];omega
  refine⟨by omega,by omega,λd hd=>x.x _ ρ q _ _ U _ (T.ext (Yk hd)).pops ⟨rfl,.inr ⟨d,ks.zip vs,rfl,Zw ..,?_,?_⟩⟩⟩
  ·rw[Ry r,Ry f]
  ·rw[Rz r,Rz f]
   exact W.same (Yk hd)
theorem OP{G:Hp}{f:aQ}{y:aj}:∀ {fs:List (aQ×aj)} {vs:List (aQ×V)} {ds:List aj},fs.map (λp=>(bc p.1,p.2))=(vs.map λp=>bc p.1).zip ds->Reps K G (vs.map be) ds->fs.lookup f=aa y->∃ v,vs.lookup f=aa v/\Rep K G v y
 | [],_,_,_,_,l=>by cases l
 | (g,x)::fs,[],_,e,_,_=>by simp at e
 | (g,x)::fs,(g',v)::vs,[],e,_,_=>by simp at e
 | (g,x)::fs,(g',v)::vs,d::ds,e,r,l=>by
  simp only[bw,f9,bh,c_,bc.injEq] at e
  obtain⟨⟨rfl,rfl⟩,e⟩:=e
  cases r with
  | cons r rs =>
   rw[cB] at l ⊢
   cases z:f == g with
   | true=>rw[z] at l;cases l;exact⟨v,rfl,r⟩
   | false=>rw[z] at l;exact OP e rs l
theorem HV(h:Ev K F X te ρ λa=>∃ (e:Exc) (y:aj),a=.av (.d (dX e))/\ExcFld K e.cls f/\e.fs.lookup f=aa y/\Q (.av (.d y))):Ev K F X (Rx K te f) ρ Q:=λI U ts as H QV s x k =>
 h I U ts as H _ s x λa ⟨e,y,ea,g,l,q⟩ v H' s'=>by
  subst ea
  obtain⟨w,⟨b,c,vs,rfl,Z,O,B⟩,T⟩:=s'.item (c:=.av (.d y)) (y:=y) NR.av Zu.d (λw=>∃ b c vs,v=.ref b/\H' b=aa (hX b (.ref e.cls) (aa c))/\H' c=aa (hXD c vs)/\vs.lookup f=aa w) λG r P=>by
   have C:Rep K G v (.dict ((.none,.int e.cls)::e.fs.map λp=>(.str p.1,p.2))):=r
   cases C with
   | exc _ z => 
    have:=(eL z).2
    cases hf:e.fs with
    | nil=>rw[hf] at l;cases l
    | cons _ _=>rw[hf] at this;cases this
   | @excF b j c vs ds _ Z O rs z =>
    obtain⟨i,M⟩:=eL z
    simp only[c_,c3,true_and] at i
    have u:e.cls=j:=jG i
    subst u
    obtain⟨w,R,J⟩:=OP M rs l
    exact⟨w,⟨b,c,vs,rfl,P _ _ Z,P _ _ O,R⟩,J⟩
   | dK _ _ z=>exact absurd z PM
   | dT _ _ z=>exact absurd z PN
   | dN _ _ _ z=>exact absurd z PP
  exact⟨b,e.cls,c,vs,w,rfl,Z,O,g,B,k _ q _ _ T⟩
variable {f:α->aj}
section
variable{E:FK}{b:TV}
theorem in_d[DecidableEq α]{xs:List α}(F:Enc f m)(ha:a.data=f c)(hb:b.data=.list (xs.map f)\/b.data=.tuple (xs.map f))(q:Q (.av (.d (.bool (decide (c∈xs))))))(na:NR a:=by first|exact NR.av|exact NR.bor)(h:NR b:=by first|exact NR.av|exact NR.bor)(hm:m<=32:=by decide):Op K E X (VW K aF) a b Q:=λI U Y ts as H x y QV s _ k=>by
 have Z:=s.pop.top na
 have O:=s.top h
 rw[ha] at Z
 refine .inl ⟨f c,xs.map f,Z,(show _\/_ by rcases hb with e|e;exact .inl (e▸O);exact .inr (e▸O)),F.lay c,U8 F xs,aT (F.dep c) hm,?_⟩
 rw[if_neg aA,S6 F]
 exact k _ q _ H (s.pop.pop.bl _)
theorem HW[DecidableEq α]{xs:List α}(F:Enc f m)(ha:a.data=f c)(hb:b.data=.list (xs.map f)\/b.data=.tuple (xs.map f))(q:Q (.av (.d (.bool (!decide (c∈xs))))))(na:NR a:=by first|exact NR.av|exact NR.bor)(h:NR b:=by first|exact NR.av|exact NR.bor)(hm:m<=32:=by decide):Op K E X (VW K ak) a b Q:=λI U Y ts as H x y QV s _ k=>by
 have Z:=s.pop.top na
 have O:=s.top h
 rw[ha] at Z
 refine .inl ⟨f c,xs.map f,Z,(show _\/_ by rcases hb with e|e;exact .inl (e▸O);exact .inr (e▸O)),F.lay c,U8 F xs,aT (F.dep c) hm,?_⟩
 rw[if_pos rfl,S6 F]
 exact k _ q _ H (s.pop.pop.bl _)
end
section
variable [DecidableEq α]
structure KEnc(f:α->aj):Prop where
 ex:(∃ g:α->Key,(∀ a b,g a=g b->a=b)/\∀ a,f a=Zn (g a))\/(∃ g:α->List Key,(∀ a b,g a=g b->a=b)/\∀ a,f a=.tuple ((g a).map Zn))\/∃ g:α->Key×List Key,(∀ a b,g a=g b->a=b)/\∀ a,f a=.tuple [Zn (g a).1,.tuple ((g a).2.map Zn)]
abbrev Zk(f:α->aj)(kvs:List (α×aj)):List (aj×aj):=kvs.map λp=>(f p.1,p.2)
theorem KEnc.int:KEnc PyData.int:=⟨.inl ⟨fJ,λ_ _ e=>nw e,λ_=>rfl⟩⟩
theorem KEnc.str:KEnc PyData.str:=⟨.inl ⟨iH,λ_ _ e=>nv e,λ_=>rfl⟩⟩
theorem Tr:∀ {a b:List Int},(a.map fJ:List Key)=b.map fJ->a=b
 | [],[],_=>rfl
 | [],_::_,e=>by simp at e
 | _::_,[],e=>by simp at e
 | x::a,y::b,e=>by
  simp only[bw,bh,mP] at e
  rw[e.1,Tr e.2]
theorem KEnc.ints:KEnc (λns:List Int=>aI (ns.map .int)):=⟨.inr (.inl ⟨λns=>ns.map .inl,λa b e=>Tr e,λns=>by rw[bu];rfl⟩)⟩
abbrev dQ(p:Int×List Int):PyData:=.tuple [.int p.1,.tuple (p.2.map .int)]
theorem KEnc.nest:KEnc dQ:=⟨.inr (.inr ⟨λp=>(.inl p.1,p.2.map .inl),λa b e=>by
 simp only[c_,mP] at e
 exact j5 e.1 (Tr e.2),λp=>by rw[bu];rfl⟩)⟩
theorem V5:∀ {a b:Key},Zn a=Zn b->a=b
 | .inl _,.inl _,e=>by cases e;rfl
 | .inr _,.inr _,e=>by cases e;rfl
theorem Xj{k:Key}{l:List aj}:Zn k≠.tuple l:=by cases k<;>exact λe=>nomatch e
theorem WF{k:List Key}{x:aj}{l:List aj}:k.map Zn≠[x,.tuple l]:=λe=>by
 cases k with
 | nil=>simp at e
 | cons a k =>
  cases k with
  | nil=>simp at e
  | cons b k =>
   simp only[bw,bh] at e
   exact Xj e.2.1
theorem V6:∀ {a b:List Key},a.map Zn=b.map Zn->a=b
 | [],[],_=>rfl
 | [],_::_,e=>by simp at e
 | _::_,[],e=>by simp at e
 | x::a,y::b,e=>by
  simp only[bw,bh] at e
  rw[V5 e.1,V6 e.2]
end
variable{v:V}{kvs:List (α×aj)}
section
variable [DecidableEq α][DecidableEq κ]{g:α->κ}{en:κ->aj}
abbrev PR(K:aJ)(H:Hp)(g:α->κ):List (κ×V)->List (α×aj)->Prop:=jD λp q=>p.1=g q.1/\Rep K H p.2 q.2
theorem Y5(G:∀ a b,en a=en b->a=b):∀ {ks:List (κ×V)} {ds:List aj} {kvs:List (α×aj)},Zk (λa=>en (g a)) kvs=(ks.map λp=>en p.1).zip ds->Reps K H (ks.map be) ds->PR K H g ks kvs
 | [],_,[],_,_=>.nil
 | [],_,_::_,e,_=>by simp at e
 | _::_,_,[],e,.cons _ _=>by simp at e
 | p::ks,d::ds,q::kvs,e,.cons r rs=>by
  simp only[Zk,bw,f9,bh,c_] at e
  refine .cons ⟨(G _ _ e.1.1).symm,?_⟩ (Y5 G e.2 rs)
  rw[e.1.2]
  exact r
theorem V7:∀ {ks:List (κ×V)} {kvs:List (α×aj)},PR K H g ks kvs->Reps K H (ks.map be) (kvs.map be)
 | _,_,.nil=>.nil
 | _,_,.cons h t=>.cons h.2 (V7 t)
theorem V8:∀ {ks:List (κ×V)} {kvs:List (α×aj)},PR K H g ks kvs->Zk (λa=>en (g a)) kvs=(ks.map λp=>en p.1).zip (kvs.map be)
 | _,_,.nil=>rfl
 | p::ks,q::kvs,.cons h t=>by
  have E:=V8 t
  simp only[Zk,bw,f9] at E ⊢
  rw[E,h.1]
theorem Vg(c:∀ a b,g a=g b->a=b){k:α}:∀ {ks:List (κ×V)} {kvs:List (α×aj)},PR K H g ks kvs->(Z2 ks (g k)).isSome=(ZA kvs k).isSome/\∀ y,ZA kvs k=aa y->∃ v,Z2 ks (g k)=aa v/\Rep K H v y
 | _,_,.nil=>⟨rfl,λ_ z=>nomatch z⟩
 | p::ks,q::kvs,.cons h t=>by
  obtain⟨L,F⟩:=Vg c (k:=k) t
  by_cases e:q.1=k
  ·have A:p.1=g k:=by rw[h.1,e]
   rw[VN A]
   have:ZA (q::kvs) k=aa q.2:=by simp[ZA,dv,e]
   rw[this]
   exact⟨rfl,λy z=>by cases z;exact⟨_,rfl,h.2⟩⟩
  ·have A:¬ p.1=g k:=λz=>e (c _ _ (h.1.symm.trans z))
   rw[VO A]
   have:ZA (q::kvs) k=ZA kvs k:=by simp[ZA,dv,e]
   rw[this]
   exact⟨L,F⟩
theorem Ts(A:∀ a b,g a=g b->a=b){k:α}(T:Rep K H v y){ks:List (κ×V)}(h:PR K H g ks kvs):PR K H g (ZJ ks (g k) v) (Z3 kvs k y):=by
 have e:=(Vg A (k:=k) h).1
 unfold ZJ Z3
 rw[UR,e]
 by_cases c:(ZA kvs k).isSome=ak
 ·rw[if_pos c,if_pos c]
  clear e c
  induction h with
  | nil=>exact .nil
  | @cons p q ps j W t E =>
   refine .cons ?_ E
   dsimp only
   by_cases e:q.1=k
   ·rw[if_pos e,if_pos (show p.1=g k by rw[W.1,e])];exact⟨W.1,T⟩
   ·rw[if_neg e,if_neg (λz=>e (A _ _ (W.1.symm.trans z)))];exact W
 ·rw[if_neg c,if_neg c]
  exact js h ⟨rfl,T⟩
theorem Rep.kV{k:Key}{x:V}(h:Rep K H x (Zn k)):x=L2.kV k:=by
 cases k with
 | inl i=>exact h.int_inv
 | inr z=>cases (show Rep K H x (.str z) from h);rfl
theorem Reps.kVs:∀ {ks:List Key} {xs:List V},Reps K H xs (ks.map Zn)->xs=ks.map L2.kV
 | [],_,.nil=>rfl
 | k::ks,_,.cons r rs=>by rw[Rep.kV r,Reps.kVs rs];rfl
abbrev en3(k:Key×List Key):PyData:=.tuple [Zn k.1,.tuple (k.2.map Zn)]
theorem RB{a b:Key×List Key}(e:en3 a=en3 b):a=b:=by
 simp only[en3,aI.injEq,bh,and_true] at e
 exact j5 (V5 e.1) (V6 e.2)
theorem Rep.keyN{k:Key×List Key}{x:V}(h:Rep K H x (en3 k)):∃ b,x=.ref b/\Xt H b k:=by
 obtain⟨b,xs,rfl,M,J⟩:=h.tuple_at
 cases J with
 | cons g J =>
  cases J with
  | cons G J =>
   cases J
   have S:=Rep.kV g
   subst S
   obtain⟨c,ys,rfl,Y,P⟩:=G.tuple_at
   have N:=Reps.kVs P
   subst N
   exact⟨b,rfl,c,M,Y⟩
theorem Tu{ks:List (κ×V)}(h:PR K H g ks kvs):ks.length=kvs.length:=dw h
theorem Yn{ks:List (κ×V)}(rs:Reps K H (ks.map be) ds)(z:Zk f kvs=(ks.map λp=>en p.1).zip ds)(F:∀ a k,f a≠en k):kvs=[]/\ks=[]:=by
 have D:(Zk f kvs).length=ks.length:=by
  have:=rs.length
  rw[ah] at this
  rw[z,nk,ah]
  omega
 cases kvs with
 | nil=>exact⟨rfl,List.eq_nil_of_length_eq_zero D.symm⟩
 | cons q kvs =>
  cases ks with
  | nil=>cases D
  | cons k ks =>
   cases ds with
   | nil=>cases z
   | cons d ds=>exact absurd (congrArg (λl=>(l.headD (jr,jr)).1) z) (F q.1 k.1)
theorem HX{k:Key}:Zn k≠.none:=by cases k<;>exact λe=>nomatch e
theorem XN(F:KEnc f){l:List (aj×aj)}:Zk f kvs≠(.none,z)::l:=λe=>by
 cases kvs with
 | nil=>cases e
 | cons q kvs =>
  have e:=congrArg (λl=>(l.headD (jr,jr)).1) e
  have e:f q.1=.none:=e
  rcases F.ex with⟨g,_,B⟩|⟨g,_,B⟩|⟨g,_,B⟩
  ·exact HX ((B _).symm.trans e)
  ·exact nomatch (B _).symm.trans e
  ·exact nomatch (B _).symm.trans e
theorem OQ(F:KEnc f){x y:V}(P:Zf G H)(j:Rep K G y (.dict (Zk f kvs)))(W:Rep K H x (f c)) :
  ∃ a r,y=.ref a/\U6 H a x r/\r.isSome=(ZA kvs c).isSome/\∀ z,ZA kvs c=aa z->∃ v,r=aa v/\S3 H a x r/\Rep K G v z:=by
 generalize R:Zk f kvs=l at j
 cases j with
 | exc _ z=>exact absurd (R.trans z) (XN F)
 | excF _ _ _ z=>exact absurd (R.trans z) (XN F)
 | junk=>exact absurd R (XN F)
 | @dK a ks ds _ hd rs z =>
  have z:=R.trans z
  clear R
  rcases F.ex with⟨g,A,B⟩|⟨g,A,B⟩|⟨g,A,B⟩
  ·cases show f=λa=>Zn (g a) from funext B
   cases Rep.kV W
   obtain⟨Z,O⟩:=Vg A (k:=c) (Y5 (λ_ _=>V5) z rs)
   exact⟨a,Z2 ks (g c),rfl,.inl (.inl ⟨ks,g c,P.rd hd,rfl,rfl⟩),Z,λz hz=>let ⟨v,S,N⟩:=O z hz;⟨v,S,.inl (.inl ⟨ks,g c,P.rd hd,rfl,rfl⟩),N⟩⟩
  ·cases show f=λa=>.tuple ((g a).map Zn) from funext B
   obtain⟨b,xs,rfl,M,J⟩:=W.tuple_at
   cases Reps.kVs J
   obtain⟨rfl,rfl⟩:=Yn rs z λ_ _=>bR Xj
   exact⟨a,none,rfl,.inr (.inr (.inl ⟨rfl,⟨g c,b,rfl,M⟩,P.rd hd⟩)),rfl,λ_ z=>nomatch z⟩
  ·cases show f=λa=>en3 (g a) from funext B
   obtain⟨b,rfl,h⟩:=Rep.keyN W
   obtain⟨rfl,rfl⟩:=Yn rs z λ_ _=>bR Xj
   exact⟨a,none,rfl,.inr (.inr (.inr (.inr ⟨rfl,⟨g c,b,rfl,h⟩,.inl (P.rd hd)⟩))),rfl,λ_ z=>nomatch z⟩
 | @dT a ks ds _ hd rs z =>
  have z:=R.trans z
  clear R
  rcases F.ex with⟨g,A,B⟩|⟨g,A,B⟩|⟨g,A,B⟩
  ·cases show f=λa=>Zn (g a) from funext B
   cases Rep.kV W
   obtain⟨rfl,rfl⟩:=Yn (en:=λk=>aI (k.map Zn)) rs z λ_ _=>Xj
   exact⟨a,none,rfl,.inr (.inl ⟨rfl,⟨g c,rfl⟩,P.rd hd⟩),rfl,λ_ z=>nomatch z⟩
  ·cases show f=λa=>.tuple ((g a).map Zn) from funext B
   obtain⟨b,xs,rfl,M,J⟩:=W.tuple_at
   cases Reps.kVs J
   obtain⟨Z,O⟩:=Vg A (k:=c) (Y5 (en:=λk=>aI (k.map Zn)) (λ_ _ e=>V6 (cj e)) z rs)
   exact⟨a,Z2 ks (g c),rfl,.inl (.inr ⟨ks,g c,b,P.rd hd,rfl,M,rfl⟩),Z,λz hz=>let ⟨v,S,N⟩:=O z hz;⟨v,S,.inl (.inr ⟨ks,g c,b,P.rd hd,rfl,M,rfl⟩),N⟩⟩
  ·cases show f=λa=>en3 (g a) from funext B
   obtain⟨b,rfl,h⟩:=Rep.keyN W
   obtain⟨rfl,rfl⟩:=Yn (en:=λk=>aI (k.map Zn)) rs z λ_ _ e=>WF (cj e).symm
   exact⟨a,none,rfl,.inr (.inr (.inr (.inr ⟨rfl,⟨g c,b,rfl,h⟩,.inr (P.rd hd)⟩))),rfl,λ_ z=>nomatch z⟩
 | @dN a ks ds _ ne hd rs z =>
  have z:=R.trans z
  clear R
  rcases F.ex with⟨g,A,B⟩|⟨g,A,B⟩|⟨g,A,B⟩
  ·cases show f=λa=>Zn (g a) from funext B
   exact absurd (Yn (en:=en3) rs z λ_ _=>Xj).2 ne
  ·cases show f=λa=>.tuple ((g a).map Zn) from funext B
   exact absurd (Yn (en:=en3) rs z λ_ _ e=>WF (cj e)).2 ne
  ·cases show f=λa=>en3 (g a) from funext B
   obtain⟨b,rfl,h⟩:=Rep.keyN W
   obtain⟨Z,O⟩:=Vg A (k:=c) (Y5 (en:=en3) (λ_ _=>RB) z rs)
   exact⟨a,Z2 ks (g c),rfl,.inr (.inr (.inr (.inl ⟨_,g c,b,P.rd hd,rfl,h,rfl⟩))),Z,λz hz=>let ⟨v,S,N⟩:=O z hz;⟨v,S,.inr ⟨_,g c,b,P.rd hd,rfl,h,rfl⟩,N⟩⟩
theorem OR(F:KEnc f){o:HO}{x:V}(hd:Yl K H o (Zk f kvs))(W:Rep K H x (f c))(D:kvs.length<=1000000) :
  ∃ o',(∀ a,H a=aa o->Va H a x v (upd H a o'))/\Mu o'/\∀ G y,Yl K G o (Zk f kvs)->Rep K G v y->Yl K G o' (Zk f (Z3 kvs c y)):=by
 rcases F.ex with⟨g,A,B⟩|⟨g,A,B⟩|⟨g,A,B⟩
 ·cases show f=λa=>Zn (g a) from funext B
  cases Rep.kV W
  rcases hd with⟨ks,ds,rfl,rs,z⟩|⟨ks,ds,rfl,rs,z⟩|⟨ks,ds,ne,rfl,rs,z⟩
  ·have p:=Y5 (λ_ _=>V5) z rs
   refine⟨.dK (ZJ ks (g c) v),λa m=>.inl (YU.k m (small6 (by rw[Tu p];exact D))),trivial,λG y R T=>?_⟩
   clear z rs W
   rcases R with⟨r,u,e,q,Y⟩|⟨r,u,e,q,Y⟩|⟨r,u,_,e,q,Y⟩
   ·cases HO.dK.inj e
    have p':=Ts A (k:=c) T (Y5 (λ_ _=>V5) Y q)
    exact .inl ⟨_,_,rfl,V7 p',V8 p'⟩
   ·exact nomatch e
   ·exact nomatch e
  ·obtain⟨rfl,rfl⟩:=Yn (en:=λk=>aI (k.map Zn)) rs z λ_ _=>Xj
   exact⟨.dK [(g c,v)],λa m=>.inr (.inl ⟨g c,rfl,m,rfl⟩),trivial,λG y _ T=>.inl ⟨[(g c,v)],[y],rfl,.cons T .nil,rfl⟩⟩
  ·exact absurd (Yn (en:=en3) rs z λ_ _=>Xj).2 ne
 ·cases show f=λa=>.tuple ((g a).map Zn) from funext B
  obtain⟨b,xs,rfl,M,J⟩:=W.tuple_at
  cases Reps.kVs J
  clear W J
  rcases hd with⟨ks,ds,rfl,rs,z⟩|⟨ks,ds,rfl,rs,z⟩|⟨ks,ds,ne,rfl,rs,z⟩
  ·obtain⟨rfl,rfl⟩:=Yn rs z λ_ _=>bR Xj
   exact⟨.dT [(g c,v)],λa m=>.inr (.inr (.inl ⟨g c,b,rfl,M,m,rfl⟩)),trivial,λG y _ T=>.inr (.inl ⟨[(g c,v)],[y],rfl,.cons T .nil,rfl⟩)⟩
  ·have P:∀ a b:List Key,aI (a.map Zn)=.tuple (b.map Zn)->a=b:=λ_ _ e=>V6 (cj e)
   have p:=Y5 (en:=λk=>aI (k.map Zn)) P z rs
   refine⟨.dT (ZJ ks (g c) v),λa m=>.inl (YU.t m M (small6 (by rw[Tu p];exact D))),trivial,λG y R T=>?_⟩
   clear z rs
   rcases R with⟨r,u,e,q,Y⟩|⟨r,u,e,q,Y⟩|⟨r,u,_,e,q,Y⟩
   ·exact nomatch e
   ·cases HO.dT.inj e
    have p':=Ts A (k:=c) T (Y5 (en:=λk=>aI (k.map Zn)) P Y q)
    exact .inr (.inl ⟨_,_,rfl,V7 p',V8 (en:=λk=>aI (k.map Zn)) p'⟩)
   ·exact nomatch e
  ·exact absurd (Yn (en:=en3) rs z λ_ _ e=>WF (cj e)).2 ne
 ·cases show f=λa=>en3 (g a) from funext B
  obtain⟨b,rfl,h⟩:=Rep.keyN W
  clear W
  rcases hd with⟨ks,ds,rfl,rs,z⟩|⟨ks,ds,rfl,rs,z⟩|⟨ks,ds,ne,rfl,rs,z⟩
  ·obtain⟨rfl,rfl⟩:=Yn rs z λ_ _=>bR Xj
   exact⟨.dN [(g c,v)],λa m=>.inr (.inr (.inr (.inr ⟨g c,b,rfl,h,.inl m,rfl⟩))),trivial,λG y _ T=>.inr (.inr ⟨[(g c,v)],[y],(λz=>nomatch z),rfl,.cons T .nil,rfl⟩)⟩
  ·obtain⟨rfl,rfl⟩:=Yn (en:=λk=>aI (k.map Zn)) rs z λ_ _ e=>WF (cj e).symm
   exact⟨.dN [(g c,v)],λa m=>.inr (.inr (.inr (.inr ⟨g c,b,rfl,h,.inr m,rfl⟩))),trivial,λG y _ T=>.inr (.inr ⟨[(g c,v)],[y],(λz=>nomatch z),rfl,.cons T .nil,rfl⟩)⟩
  ·have p:=Y5 (en:=en3) (λ_ _=>RB) z rs
   refine⟨.dN (ZJ ks (g c) v),λa m=>.inr (.inr (.inr (.inl ⟨ks,g c,b,m,rfl,h,small6 (by rw[Tu p];exact D),rfl⟩))),trivial,λG y R T=>?_⟩
   rcases R with⟨r,u,e,q,Y⟩|⟨r,u,e,q,Y⟩|⟨r,u,i,e,q,Y⟩
   ·cases e
   ·cases e
   ·cases e
    have p':=Ts A (k:=c) T (Y5 (en:=en3) (λ_ _=>RB) Y q)
    refine .inr (.inr ⟨_,_,λw=>ne ?_,rfl,V7 p',V8 (en:=en3) p'⟩)
    have:=congrArg e7 w
    unfold ZJ at this
    split at this
    ·rw[ah] at this;exact List.length_eq_zero_iff.mp this
    ·simp at this
end
section
variable{σ:St}{y:V}{b:TV}
theorem SR.writeD{kvs kvs':List (aj×aj)}(h:'!' (v::ts) (.av (.d z)::as) H)(C:Stb as)(hi:ρ[i]?=aa (aa (.dic kvs))) :
  ∃ l o,σ[i]?=aa (aa (.ref l))/\H l=aa o/\Yl K H o kvs/\∀ o',Mu o'->(∀ G,Yl K G o kvs->Rep K G v z->Yl K G o' kvs')->SR K H0 σ (ρ.set i (aa (.dic kvs'))) ts as (upd H l o'):=by
 obtain⟨⟨p,q,Z,O,B,F⟩,s⟩:=h
 obtain⟨J,Y,w,S,N,L,A⟩:=Z.frz hi λ_ _ _ _=>trivial
 cases O with
 | @cons _ _ _ _ c E _ r rs Q =>
  cases r with
  | av r =>
  cases r with
  | d W I =>
  cases L with
  | @dic l o _ _ D hd f =>
   refine⟨l,o,N,D,hd.mono Yh,λo' mu R=>?_⟩
   have m:J l=1:=by have:=f l;simpa using this
   have ne:∀ b u,p b+q b=0->H b=aa u->b≠l:=λb u z _ y=>by subst y;have:=S b;omega
   have a:Zf (hid H p q) (hid (upd H l o') p q):=Wz λb u z w=>⟨z,ne b u z w⟩
   have k2:∀ b u,0<q b+Y b->H b=aa u->upd H l o' b=aa u:=λb u z w=>by
    rw[Zg (λy=>by subst y;have:=B b;have:=S b;omega)];exact w
   have z:=A (hid (upd H l o') p q) (upd H l o') (.ref l) (.dic kvs') (λb=>if b=l then 1 else 0) (λb=>(if b=l then 1 else 0)+Y b) a (λb u y=>k2 b u (by omega)) (.dic Zw (R _ (hd.mono a) (W.same a)) λ_=>rfl) (λ_=>rfl)
   rw[VY N] at z
   have T:Zf H0 (upd H l o'):=s.updF (F l (by have:=S l;omega))
   refine SR.of_le (p:=p) (q:=q) (p':=λb=>(if b=l then 1 else 0)+Y b) (q':=E) T B F (λb=>?_) z (rs.monoS a C λb o y=>k2 b o (by have:=Q b;omega))
   have:=f b;have:=S b;have:=Q b
   show (if b=l then 1 else 0)+Y b+E b<=p b+q b
   omega
theorem SR.newD(h:'!' ts as H)(D:H l=none):'!' (.ref l::ts) (.av (.dic [])::as) (upd H l (.dK [])):=by
 obtain⟨⟨p,q,Z,O,B,F⟩,s⟩:=h
 have U:=SR.lsts Z O
 have z:∀ b u,H b=aa u->b≠l:=λb u y w=>by subst w;rw[D] at y;cases y
 have a:p l+q l=0:=by
  rcases aX (p l+q l) with w|w
  ·exact w
  ·obtain⟨_,w,_⟩:=U l w;rw[D] at w;cases w
 have m:Zf (hid H p q) (hid (upd H l (.dK [])) p (λb=>(if b=l then 1 else 0)+q b)):=Wz λb u y w=>by
  have:=z b u w
  refine⟨?_,this⟩
  show p b+((if b=l then 1 else 0)+q b)=0
  rw[if_neg this]
  omega
 have c:∀ b u,H b=aa u->upd H l (.dK []) b=aa u:=λb u y=>by rw[Zg (z b u y)];exact y
 have T:Zf H (upd H l (.dK [])):=Yk D
 refine⟨⟨p,λb=>(if b=l then 1 else 0)+q b,Z.mono m (λb o _=>c b o),.cons (.av (.dic Zw (.inl ⟨[],[],rfl,.nil,rfl⟩) λ_=>rfl)) (O.mono m T) (λ_=>rfl),λb=>?_,λb w=>?_⟩,s.trans T⟩
 ·have:=B b
  by_cases M:b=l
  ·subst M;simp;omega
  ·simp[M];omega
 ·by_cases M:b=l
  ·subst M;exact s.free D
  ·refine F b ?_;simp[M] at w;omega
end
section
variable{E:FK}{b:TV}
theorem HY(q:Q (.av (.dic []))):Ev K E X Pz ρ Q:=λI U ts as H QV s x k=>λp T=>k _ q _ _ (s.newD T)
theorem Tw[DecidableEq α](F:KEnc f)(ha:a.data=f c)(hb:b.data=.dict (Zk f kvs))(q:Q (.av (.d (.bool (!(ZA kvs c).isSome)))))(na:NR a:=by first|exact NR.av|exact NR.bor)(h:NR b:=by first|exact NR.av|exact NR.bor):Op K E X (VW K ak) a b Q:=λI U Y ts as H x y QV s _ k=>by
 have Z:=s.pop.top na
 have O:=s.top h
 rw[ha] at Z
 rw[hb] at O
 obtain⟨l,r,rfl,g,e,_⟩:=OQ F (.refl H) O Z
 refine .inr (.inl ⟨l,r,rfl,g,?_⟩)
 rw[if_pos rfl,e]
 exact k _ q _ H (s.pop.pop.bl _)
theorem XO[DecidableEq α]{d:TV}(F:KEnc f)(ha:a.data=.dict (Zk f kvs))(hb:b.data=f c)(e:ZA kvs c=aa z)(it:Zu a z d)(q:Q d)(na:NR a:=by first|exact NR.av|exact NR.bor)(h:NR b:=by first|exact NR.av|exact NR.bor):Op K E X (Ti K) a b Q:=λI U Y ts as H x y QV s _ k=>by
 have Z:=s.top h
 rw[hb] at Z
 obtain⟨v,⟨l,S,N⟩,M⟩:=s.pop.item na it (λv=>∃ l,x=.ref l/\S3 H l y (aa v)) λG W P=>by
  rw[ha] at W
  obtain⟨l,r,S,_,_,g⟩:=OQ F P W Z
  obtain⟨v,N,L,A⟩:=g z e
  subst N
  exact⟨v,⟨l,S,L⟩,A⟩
 exact .inr (.inr (.inr ⟨l,v,S,N,k _ q _ H M⟩))
theorem Ty[DecidableEq α](F:KEnc f)(hi:ρ[n]?=aa (aa (.dic (Zk f kvs))))(hz:kvs.length<=1000000)(h:Ev K E X te ρ λa=>Ev K E X ti ρ λb=>∃ z c,a.sto=aa (.d z)/\b.data=f c/\NR b/\DV.nx (ρ.set n (aa (.dic (Zk f (Z3 kvs c z)))))) :
  Sv K E X (YZ te (WX (ZN n) ti Vb)) ρ DV:=λI U ts as H D st s x j=>by
 refine h I U ts as H _ s x λa O v y C=>?_
 obtain⟨l,o,S,N,L,_⟩:=(s.push (x:=.none) λ_=>.non).writeD (kvs':=Zk f kvs) st hi
 refine⟨.ref l,S,O I U _ _ y _ C x λb ⟨z,c,ea,eb,nb,q⟩ w H2 s2=>.inr ?_⟩
 have W:=s2.top nb
 rw[eb] at W
 obtain⟨Z,i,k1,k2,k3,e⟩:=(s2.pop.sto ea).writeD (kvs':=Zk f (Z3 kvs c z)) st hi
 rw[S] at k1
 cases k1
 obtain⟨p,J,Y,M⟩:=OR (v:=v) F k3 W hz
 exact⟨l,_,rfl,J l k2,j.nx _ q _ _ (e p Y λG hd T=>M G z hd T)⟩
end
def Z0:Fp:=λ_=>0
def spR(K:aJ)(Pre:List AV->Prop)(Post:List AV->AV->Prop)(PX:List AV->Exc->Prop):Sp:=λvs H Q E=>XL H /\
 ∃ as,RAs K H H vs as Z0/\Pre as/\(∀ c,Post as c->∀ v H',Rs K H H' v c->Q v H')/\∀ e,PX as e->∀ c d H',Zf H H'->U9 K H' e c d->E c d H'
def NP:List AV->Exc->Prop:=λ_ _=>False
abbrev inA(N:List aQ)(as:List AV):Sl:=as.map aa++aB (N.length-as.length) none
abbrev WG(Post:AV->Prop):VEnds:=⟨λ_=>Post (.d .none),λa=>∃ c,Res a c/\Post c,λ_=>False,λ_=>False⟩
variable{vs:List V}{cs:List AV}{Pre:List AV->Prop}{Post:List AV->AV->Prop}{PX:List AV->Exc->Prop}
section
variable{σ:L2.St}
theorem SR.startA(h:RAs K H H vs cs Z0):SR K H (L2.start N vs) (inA N cs) [] [] H:=by
 have D:=h.len
 have X:hid H (λ_=>0) (λ_=>0)=H:=by funext b;simp[hid]
 refine⟨⟨λ_=>0,λ_=>0,?_,.nil λ_=>rfl,λ_=>by simp,λb z=>by simp at z⟩,.refl H⟩
 rw[X]
 unfold L2.start inA
 rw[D]
 clear D
 generalize N.length-cs.length=m
 have a:∀ {vs:List V} {cs:List AV} {p:Fp},RAs K H H vs cs p->(∀ b,p b=0)->RSl K H H (vs.map aa++aB m none) (cs.map aa++aB m none) λ_=>0:=by
  intro vs cs
  induction vs generalizing cs with
  | nil =>
   intro p r _
   cases r
   simp only[iF,lj]
   clear h
   induction m with
   | zero=>exact .nil λ_=>rfl
   | succ m E=>exact .no E
  | cons v vs E =>
   intro p r z
   cases r with
   | @cons _ _ _ _ J l _ r rs e =>
    have i:∀ b,J b=0:=λb=>by have:=e b;have:=z b;omega
    have M:∀ b,l b=0:=λb=>by have:=e b;have:=z b;omega
    exact .so r (E rs M) λb=>by simp[i b]
 exact a h λ_=>rfl
theorem V9{t:TS}{E:XK}(sp:spR K Pre Post PX vs H Qv E)
  (h:∀ cs,Pre cs->Sv K (toF E) (λe _=>PX cs e) t (inA N cs) (WG (Post cs))):t { nx:=λ_ H'=>Qv .non H',rt:=Qv } (L2.start N vs) H:=by
 obtain⟨T,cs,W,pre,q,f⟩:=sp
 refine h cs pre H _ [] [] H _ Stb.nil (SR.startA W) ⟨λe Y z c d U H' s l=>f e z c d H' s.same l,T⟩ ⟨λY z j H' M=>?_,λ_ z=>z.elim,λ_ z=>z.elim,λa ⟨c,r,z⟩ v j ρ' H' M=>?_⟩
 ·exact q _ z _ _ (SR.rs (v:=.non) (M.push λ_=>.non))
 ·rcases r with rfl|⟨nr,rfl⟩
  ·exact q _ z _ _ M.rs
  ·refine q _ z _ _ ⟨M.same,λ_=>0,λ_=>by simp,λb z=>by simp at z,.d ?_ λ_=>rfl⟩
   have X:hid H' (λ_=>0) (λ_=>0)=H':=by funext b;simp[hid]
   rw[X]
   exact M.top nr
inductive Sh:TV->AV->Prop
 | d {b:TV} {x:aj}:NR b->b.data=x->Sh b (.d x)
 | o {φ:V->Hp->Prop}:Sh (.av (.obj φ)) (.obj φ)
inductive Shs:List TV->List AV->Prop
 | nil:Shs [] []
 | cons {b:TV} {c:AV} {bs:List TV} {cs:List AV}:Sh b c->Shs bs cs->Shs (b::bs) (c::cs)
theorem SR.lent:∀ {vs:List V} {bs:List TV} {cs:List AV},Shs bs cs->vs.length=bs.length->'!' (vs++ts) (bs++as) H->RAs K H H vs cs Z0/\'!' ts as H
 | [],_,_,.nil,_,s=>⟨.nil λ_=>rfl,s⟩
 | [],_,_,.cons _ _,e,_=>by simp at e
 | v::vs,_,_,.nil,e,_=>by simp at e
 | v::vs,b::bs,c::cs,.cons h t,e,s=>by
  have M:'!' (v::(vs++ts)) (b::(bs++as)) H:=s
  obtain⟨r,T⟩:=SR.lent t (by simpa using e) M.pop
  refine⟨.cons (p:=Z0) (q:=Z0) ?_ r λ_=>rfl,T⟩
  cases h with
  | d f x=>exact .d (x▸M.top f) λ_=>rfl
  | o =>
   obtain⟨⟨p,q,Z,O,B,F⟩,P⟩:=M
   cases O with
   | cons r rs e=>cases r with
    | av r=>cases r with
     | obj h m z=>exact .obj (m _ _ Yh h) m λ_=>rfl
end
section
variable{k:Nat}
theorem Vh{Q:VK}{E:XK}(h:spR K Pre Post PX vs H Q E)(C:∀ cs,Pre cs->cs.length=n):vs.length=n:=by
 obtain⟨_,cs,r,pre,_⟩:=h
 rw[r.len];exact C cs pre
theorem Xk(T:Tx K mg x st ps dvss)(i:FnScope N ps (Ze st))(C:∀ cs,Pre cs->cs.length=ps.length)
  (g:∀ (f:ao) (cdv:ag) (A:cG) (outer:List iS) (s:ar) (H:Hp) (E:XK),Room k (A.deeper (dZ x (Ze st) s.heap.objs.size f cdv)) ->
   ∃ t,PSs (Z6 CX P w K mg base N x (Ze st) f cdv A outer s H E).nox (ZC st) t/\∀ cs,Pre cs->Sv K (toF E) NE t (inA N cs) (WG (Post cs))) :
  ∀ dvs∈dvss,'$' CX (k+1) x ps dvs (spR K Pre Post NP) :=
 T.cal (k:=k) i (λvs H Q E h=>Vh h C) λf cdv A outer s H vs Q E J h =>
  let ⟨t,Z,O⟩:=g f cdv A outer s H E J
  ⟨t,Z,V9 h λcs pre=>O cs pre⟩
theorem OS(T:Tx K mg x st ps dvss)(i:FnScope N ps (Ze st))(C:∀ cs,Pre cs->cs.length=ps.length)
  (g:∀ (f:ao) (cdv:ag) (A:cG) (outer:List iS) (s:ar) (H:Hp) (E:XK),Room k (A.deeper (dZ x (Ze st) s.heap.objs.size f cdv)) ->
   ∃ t,PSs ((Z6 (CXE P w) P w K mg base N x (Ze st) f cdv A outer s H E).wish (XE (Z6 (CXE P w) P w K mg base N x (Ze st) f cdv A outer s H E) (toF E))) (ZC st) t/\∀ cs,Pre cs->Sv K (toF E) (λe _=>PX cs e) t (inA N cs) (WG (Post cs))) :
  ∀ dvs∈dvss,'$' (CXE P w) (k+1) x ps dvs (spR K Pre Post PX) :=
 T.calX (k:=k) i (λvs H Q E h=>Vh h C) λf cdv A outer s H vs Q E J h =>
  let ⟨t,Z,O⟩:=g f cdv A outer s H E J
  ⟨t,Z,V9 h λcs pre=>O cs pre⟩
end
variable{dds:List AV}
section
variable{E:FK}
def ClR(Pre:List AV->Prop)(Post:List AV->AV->Prop)(PX:List AV->Exc->Prop)(dds:List AV)(Q:TV->Prop)(X:Exc->Prop)(bs:List TV):Prop :=
 ∃ cs,Shs bs cs/\Pre (cs++dds)/\(∀ c,Post (cs++dds) c->∃ a,Got c a/\Q a)/\∀ e,PX (cs++dds) e->X e
theorem RAs.app:∀ {vs ws:List V} {xs ys:List AV},RAs K H H vs xs Z0->RAs K H H ws ys Z0->RAs K H H (vs++ws) (xs++ys) Z0:=by
 intro vs ws xs ys h g
 have a:∀ {vs:List V} {xs:List AV} {p:Fp},RAs K H H vs xs p->(∀ b,p b=0)->RAs K H H (vs++ws) (xs++ys) Z0:=by
  intro vs
  induction vs with
  | nil=>intro xs p r _;cases r;exact g
  | cons v vs E =>
   intro xs p r z
   cases r with
   | @cons _ _ _ _ J l _ r rs e =>
    have i:∀ b,J b=0:=λb=>by have:=e b;have:=z b;omega
    have M:∀ b,l b=0:=λb=>by have:=e b;have:=z b;omega
    exact .cons r (E rs M) λb=>by simp[Z0,i b]
 exact a h λ_=>rfl
theorem Tz:RAs K H H [] [] Z0:=.nil λ_=>rfl
theorem HZ(hd:∀ H,RAs K H H dvs dds Z0)(h:Ea K E X A ρ (ClR Pre Post NP dds Q λ_=>True)):Ev K E X (Wr (spR K Pre Post NP) dvs E' A) ρ Q:=λI U ts as H QV s x k =>
 h I U ts as H _ s x λbs ⟨cs,sh,pre,q,_⟩ vs H' s' hl=>by
  obtain⟨W,T⟩:=SR.lent sh hl s'
  exact⟨x.t.same T.same,cs++dds,W.app (hd H'),pre,λc Y v w r=>let ⟨a,g,z⟩:=q c Y;k a z v w (T.gotG r g),λe z=>z.elim⟩
theorem Ga(h:Ea K E X A ρ (ClR Pre Post NP [] Q λ_=>True)):Ev K E X (Wr (spR K Pre Post NP) [] E' A) ρ Q:=HZ (λ_=>Tz) h
theorem Gb(hd:∀ H,RAs K H H dvs dds Z0)(h:Ea K E X A ρ (ClR Pre Post PX dds Q λe=>X e ρ)):Ev K E X (Rn (spR K Pre Post PX) dvs E A) ρ Q:=λI U ts as H QV s x k =>
 h I U ts as H _ s x λbs ⟨cs,sh,pre,q,qx⟩ vs H' s' hl=>by
  obtain⟨W,T⟩:=SR.lent sh hl s'
  exact⟨x.t.same T.same,cs++dds,W.app (hd H'),pre,λc Y v w r=>let ⟨a,g,z⟩:=q c Y;k a z v w (T.gotG r g),λe z c d w P l=>x.x e ρ (qx e z) c d U w (T.ext P).pops l⟩
theorem Gc(h:Ea K E X A ρ (ClR Pre Post PX [] Q λe=>X e ρ)):Ev K E X (Rn (spR K Pre Post PX) [] E A) ρ Q:=Gb (λ_=>Tz) h
end
section
variable{E:FK}{bk:Sl->Prop}{r:Sl}{a:AV}
theorem Gd(h:ρ[n]?=aa (aa (.obj φ)))(q:Q (.av (.obj φ))):Ev K E X (ZN n) ρ Q:=λI U ts as H QV s _ k=>by
 have a:=s
 obtain⟨⟨p,q',Z,O,B,F⟩,e⟩:=s
 obtain⟨J,Y,v,S,N,L,A⟩:=Z.frz h λ_ _ _ _=>trivial
 refine⟨v,N,k _ q v H ⟨⟨p,q',Z,?_,B,F⟩,e⟩⟩
 cases L with
 | obj g m z=>exact .cons (.av (.obj (p:=λ_=>0) g m λ_=>rfl)) O λb=>by simp
theorem OT[DecidableEq α](F:KEnc f)(hz:kvs.length<=1000000)(h:Ev K E X te (s0::aa (.dic (Zk f kvs))::r) λa=>Ev K E X ti (s0::aa (.dic (Zk f kvs))::r) λb=>∃ z c,a.sto=aa (.d z)/\b.data=f c/\NR b/\nx (s0::aa (.dic (Zk f (Z3 kvs c z)))::r)):Sv K E X (YZ te (WX (ZN 1) ti Vb)) (s0::aa (.dic (Zk f kvs))::r) ⟨nx,rt,bk,ct⟩:=Ty (n:=1) F rfl hz h
theorem Ge{s1 s2 C R:Option AV}[DecidableEq α](F:KEnc f)(hz:kvs.length<=1000000)(h:Ev K E X te (s0::s1::s2::C::R::aa (.dic (Zk f kvs))::r) λa=>Ev K E X ti (s0::s1::s2::C::R::aa (.dic (Zk f kvs))::r) λb=>∃ z c,a.sto=aa (.d z)/\b.data=f c/\NR b/\nx (s0::s1::s2::C::R::aa (.dic (Zk f (Z3 kvs c z)))::r)):Sv K E X (YZ te (WX (ZN 5) ti Vb)) (s0::s1::s2::C::R::aa (.dic (Zk f kvs))::r) ⟨nx,rt,bk,ct⟩:=Ty (n:=5) F rfl hz h
theorem Gf{s1 s2 C R v w:Option AV}[DecidableEq α](F:KEnc f)(hz:kvs.length<=1000000)(h:Ev K E X te (s0::s1::s2::C::R::v::w::aa (.dic (Zk f kvs))::r) λa=>Ev K E X ti (s0::s1::s2::C::R::v::w::aa (.dic (Zk f kvs))::r) λb=>∃ z c,a.sto=aa (.d z)/\b.data=f c/\NR b/\nx (s0::s1::s2::C::R::v::w::aa (.dic (Zk f (Z3 kvs c z)))::r)):Sv K E X (YZ te (WX (ZN 7) ti Vb)) (s0::s1::s2::C::R::v::w::aa (.dic (Zk f kvs))::r) ⟨nx,rt,bk,ct⟩:=Ty (n:=7) F rfl hz h
theorem Gg{s1 s2 C R v w l Y m i g J e:Option AV}[DecidableEq α](F:KEnc f)(hz:kvs.length<=1000000)(h:Ev K E X te (s0::s1::s2::C::R::v::w::l::Y::m::i::g::J::e::aa (.dic (Zk f kvs))::r) λa=>Ev K E X ti (s0::s1::s2::C::R::v::w::l::Y::m::i::g::J::e::aa (.dic (Zk f kvs))::r) λb=>∃ z c,a.sto=aa (.d z)/\b.data=f c/\NR b/\nx (s0::s1::s2::C::R::v::w::l::Y::m::i::g::J::e::aa (.dic (Zk f (Z3 kvs c z)))::r)):Sv K E X (YZ te (WX (ZN 14) ti Vb)) (s0::s1::s2::C::R::v::w::l::Y::m::i::g::J::e::aa (.dic (Zk f kvs))::r) ⟨nx,rt,bk,ct⟩:=Ty (n:=14) F rfl hz h
end
section
variable [DecidableEq α]
theorem X6{p:α×β}{r:List (α×β)}{k:α}(e:p.1=k):ZA (p::r) k=aa p.2:=by simp[ZA,dv,e]
theorem X7{p:α×β}{r:List (α×β)}{k:α}(e:¬ p.1=k):ZA (p::r) k=ZA r k:=by simp[ZA,dv,e]
theorem OU{k j:α}{y:β}:∀ kvs:List (α×β),ZA (kvs.map λa=>if a.1=k then (a.1,y) else a) j=(ZA kvs j).map λx=>if j=k then y else x
 | []=>rfl
 | p::r=>by
  have E:=OU (k:=k) (j:=j) (y:=y) r
  rw[bw]
  by_cases h:p.1=k
  ·rw[if_pos h]
   by_cases e:p.1=j
   ·rw[X6 (p:=(p.1,y)) e,X6 e,fK,if_pos (e.symm.trans h)]
   ·rw[X7 (p:=(p.1,y)) e,X7 e,E]
  ·rw[if_neg h]
   by_cases e:p.1=j
   ·rw[X6 (p:=p) e,X6 e,fK,if_neg (λz=>h (e.trans z))]
   ·rw[X7 (p:=p) e,X7 e,E]
theorem OV{k j:α}{y:β}:∀ kvs:List (α×β),ZA kvs k=none->ZA (kvs++[(k,y)]) j=if j=k then aa y else ZA kvs j
 | [],_=>by
  by_cases e:k=j
  ·rw[if_pos e.symm];exact X6 (p:=(k,y)) e
  ·rw[if_neg (λz=>e z.symm)];exact X7 (p:=(k,y)) e
 | p::r,hn=>by
  rw[jy]
  have R:¬ p.1=k:=λz=>by rw[X6 z] at hn;cases hn
  rw[X7 R] at hn
  have E:=OV (k:=k) (j:=j) (y:=y) r hn
  by_cases e:p.1=j
  ·rw[X6 e,X6 e,if_neg (λz=>R (e.trans z))]
  ·rw[X7 e,X7 e,E]
theorem Ua(kvs:List (α×β))(k j:α)(y:β):ZA (Z3 kvs k y) j=if j=k then aa y else ZA kvs j:=by
 unfold Z3
 by_cases a:(ZA kvs k).isSome=ak
 ·rw[if_pos a,OU]
  by_cases e:j=k
  ·obtain⟨x,W⟩:=Option.isSome_iff_exists.mp a
   rw[if_pos e,e,W,fK,if_pos rfl]
  ·rw[if_neg e]
   cases ZA kvs j with
   | none=>rfl
   | some x=>rw[fK,if_neg e]
 ·rw[if_neg a]
  refine OV kvs ?_
  cases q:ZA kvs k with
  | none=>rfl
  | some x=>rw[q] at a;exact (a rfl).elim
theorem OW(kvs:List (α×β))(k:α)(v:β):(Z3 kvs k v).length<=kvs.length+1:=by
 unfold Z3
 split
 ·rw[ah];omega
 ·rw[ay];simp
end
section
variable{P:Sl->Prop}{g1 g2:TG}{x:aj}
theorem Vi(h:Gv K g1 x ρ λL=>Gv K g2 y L P):Gv K (Sx K 2 (Sw g1 (Sw g2 gNil))) (.tuple [x,y]) ρ P:=λI U ts as H v f s k=>by
 obtain⟨xs,⟨l,e,Z⟩,O,M⟩:=s.items (es:=[x,y]) Kp.d (λxs=>∃ l,v=.ref l/\SqT K H l xs) (λG W c=>by
  obtain⟨l,xs,e,B,F⟩:=Rep.tuple_inv (ds:=[x,y]) W
  exact⟨xs,⟨l,e,c.tupS B⟩,F⟩) NR.av
 obtain⟨a,b,rfl⟩:=len2 O
 refine⟨l,[a,b],e,Z,rfl,a,[b],rfl,h I U (b::ts) (.av (.d y)::as) H a _ M λL A j H' T=>?_⟩
 exact⟨b,[],rfl,A I j ts as H' b _ T λr p N w C=>⟨rfl,k r p N w C⟩⟩
end
section
variable{E:FK}
theorem OX{cap:List (Option Nat)}(h:Iv K E X wi ρ λn f _=>n<=1000000/\∃ I:Nat->List AV->Prop,I 0 []/\(∀ i ys,i<n->I i ys->Gv K g (f i) (ZG cap ρ) λL=>Wk L (ZG cap ρ)/\Tv K E NE tt L λb=>if b=ak then Ev K E NE te L λa=>∃ c,a.sto=aa c/\I (i+1) (ys++[c]) else I (i+1) ys) /\
  ∀ ys,I n ys->∃ a,Got (.own ys) a/\Q a):Ev K E X (Xe cap wi g tt te) ρ Q:=λH0 U ts as H QV s x k =>
 h H0 U ts as H _ s x λn f hd ⟨hn,I,i0,turn,fin⟩ u J H1 nr s1 ok D hD=>by
  have W:XOk K E NE H1:=XOk.ne (x.t.same s1.same)
  have y:Zf H1 (upd H1 D (.lst [])):=Yk hD
  have st:Stb [TV.av (.d hd.data)]:=Stb.cons Stb.nil
  have start:SR K H1 (Yg cap U) (ZG cap ρ) [.ref D,u] [.av (.own []),.av (.d hd.data)] (upd H1 D (.lst [])):=by
   have m:Zf H1 (hid (upd H1 D (.lst [])) (λ_=>0) λb=>if b=D then 1 else 0):=λb o e=>by
    have M:b≠D:=Z5 e hD
    unfold hid
    simp[M]
    rw[Zg M]
    exact e
   refine⟨⟨λ_=>0,λb=>if b=D then 1 else 0,RSl.cap s1 m cap,.cons (.av (.own Zw (.nil (p:=λ_=>0) λ_=>rfl) (q:=λb=>if b=D then 1 else 0) λb=>by simp)) (.cons (.av (.d (p:=λ_=>0) ((s1.top nr).same m) λ_=>rfl)) (.nil (p:=λ_=>0) λ_=>rfl) (r:=λ_=>0) λb=>by simp) (λb=>by simp),λb=>by simp;split<;>omega,λb z=>?_⟩,y⟩
   by_cases M:b=D
   ·rw[M];exact hD
   ·simp[M] at z
  refine⟨λi m j H'=>m=n-i/\i<=n/\∃ ys,I i ys/\ys.length<=i/\SR K H1 j (ZG cap ρ) [.ref D,u] [.av (.own ys),.av (.d hd.data)] H',⟨n,by simp,bP _,[],i0,aq _,start⟩,?_⟩
  rintro i m σ2 H2 ⟨rfl,hi,ys,iy,hly,s2⟩
  by_cases F:i<n
  ·obtain⟨g1,P⟩:=s2.swap.turn ok F
   refine .inr ⟨g1,λj H'=>∃ ys,I (i+1) ys/\ys.length<=i+1/\SR K H1 j (ZG cap ρ) [.ref D,u] [.av (.own ys),.av (.d hd.data)] H',λj H' p=>⟨n-(i+1),by omega,rfl,F,p⟩,λw S R=>?_⟩
   have C:=P w S R
   refine turn i ys F iy H1 σ2 _ _ S w _ C λρ4 ⟨wk,tv⟩ σ4 H4 s4=>?_
   refine tv H1 σ4 _ _ H4 _ s4 W λb N G v=>?_
   cases b with
   | true =>
    rw[if_pos rfl] at N ⊢
    refine N H1 σ4 _ _ G _ v W λa ⟨c,e2,e1⟩ z H6 s6=>?_
    have l:=(s6.sto e2)
    have Y:SR K H1 σ4 ρ4 [z,.ref D,u] [.av c,.av (.own ys),.av (.d hd.data)] H6:=by
     obtain⟨⟨p,q,k1,k2,k3,T⟩,e⟩:=l
     refine⟨⟨p,q,k1,?_,k3,T⟩,e⟩
     cases k2 with
     | cons r rs eq=>exact .cons r rs.swap eq
    obtain⟨vs,Z,O,B⟩:=Y.snocT st
    refine⟨vs,Z,small6 ?_,ys++[c],e1,by rw[ay];simp;omega,wk _ _ _ _ _ _ B⟩
    rw[O]
    omega
   | false =>
    rw[if_neg aA] at N ⊢
    exact⟨ys,N,by omega,wk _ _ _ _ _ _ v.swap⟩
  ·have e:i=n:=by omega
   subst e
   obtain⟨a,A,q⟩:=fin ys iy
   exact .inl ⟨s2.swap.halt NR.av rfl ok (aq _),k _ q _ _ (s1.pop.gotG s2.rs A)⟩
theorem OY{cap:List (Option Nat)}(h:Ev K E X ti ρ λa=>∃ (xs:List α) (e:α->aj) (I:Nat->List AV->Prop),(a.data=.list (xs.map e)\/a.data=.tuple (xs.map e))/\NR a/\xs.length<=1000000/\I 0 [] /\
  (∀ i ys (hi:i<xs.length),I i ys->Gv K g (e xs[i]) (ZG cap ρ) λL=>Wk L (ZG cap ρ)/\Tv K E NE tt L λb=>if b=ak then Ev K E NE te L λa=>∃ c,a.sto=aa c/\I (i+1) (ys++[c]) else I (i+1) ys) /\
  ∀ ys,I xs.length ys->∃ a,Got (.own ys) a/\Q a):Ev K E X (Xe cap (WC K ti) g tt te) ρ Q :=
 OX (Rj (X4 h (λa W=>by
  obtain⟨xs,e,I,m,na,D,v,turn,fin⟩:=W
  exact⟨xs.map e,m,na,by rw[ah];exact D,I,v,λi ys hi p=>by
  rw[ah] at hi
  show Gv K g ((xs.map e).getD i .none) _ _
  rw[Ve hi]
  exact turn i ys hi p,λys p=>fin ys (by rw[ah] at p;exact p)⟩)))
theorem OZ{B C:Prop}(h:B):Tv K E NE Wv ρ λb=>if b=ak then B else C:=Tb (by rw[if_pos rfl];exact h)
end
variable {tb:TS}
section
variable{E:FK}
theorem Gh:X3 K (Ite K l) (.ref l) (.list ds) ds.length λi=>.tuple [.int i,ds.getD i .none]:=by
 intro G H P W
 obtain⟨Z,ys,A,B,F⟩:=W.list_inv
 cases A
 have Y:=P.seq B
 refine⟨λi C=>?_,λi C=>⟨ys,Y,by rw[F.length];exact C⟩⟩
 obtain⟨w,L,q⟩:=F.get (i:=i) (d:=ds.getD i .none) (by rw[am,ai C];rfl)
 refine⟨⟨ys,w,Y,L⟩,λx H' ⟨p,x0,hp,e1,e2,e3⟩=>?_⟩
 subst e1 e2
 have:=e3 ys Y
 rw[L] at this
 cases this
 exact⟨Yk hp,λa m k=>.tup (k p _ Zw hp) (.cons (.int i) (.cons (q.same m) .nil))⟩
theorem Gi{P:Nat->(Nat->aj)->TV->Prop}(h:Ea K E X A ρ λbs=>∃ a ds,bs=[a]/\a.data=.list ds/\NR a/\P ds.length (λi=>.tuple [.int i,ds.getD i .none]) a.frz):Iv K E X (SZ K A) ρ P:=λI U ts as H R s x k =>
 h I U ts as H _ s x λbs ⟨a,ds,eb,e,na,q⟩ vs H' M hl=>by
  subst eb
  obtain⟨v,rfl,M⟩:=Ym M hl
  have W:=M.top na
  rw[e] at W
  obtain⟨l,xs,rfl,Z,O⟩:=W.list_inv
  refine⟨l,rfl,⟨xs,Z⟩,k _ _ _ q (.ref l) _ H' (TV.frz_nr na) M.frzV ?_⟩
  rw[TV.frz_data,e]
  exact Gh
theorem O0{bk:Sl->Prop}(h:Ea K E X A ρ λbs=>∃ (a:TV) (xs:List α) (e:α->aj),bs=[a]/\a.data=.list (xs.map e)/\(∃ c,a=.av c)/\∃ b:Nat->Sl->Prop,b 0 ρ/\(∀ i L (hi:i<xs.length),b i L->Gv K g (.tuple [.int i,e xs[i]]) L λl=>Sv K E X tb l ⟨b (i+1),rt,nx,b (i+1)⟩)/\∀ L,b xs.length L->nx L):Sv K E X (WZ (SZ K A) g tb) ρ ⟨nx,rt,bk,ct⟩ :=
 Tc (Gi λI U ts as H QV s x k=>h I U ts as H QV s x λbs ⟨a,xs,e,eb,ha,⟨c,hc⟩,b,i0,turn,fin⟩=>k bs ⟨a,xs.map e,eb,ha,by subst hc;exact NR.av,⟨c.data,by rw[hc];rfl⟩,b,i0,λi L hi w=>by
  rw[ah] at hi
  show Gv K g (.tuple [.int i,(xs.map e).getD i .none]) L _
  rw[Ve hi]
  exact turn i L hi w,λL w=>fin L (by rw[ah] at w;exact w)⟩)
end
variable{A:cG}{Q:ag->ar->Prop}
theorem RC{items:Array ag}{x:ag}(H:s.heap.IsTupleIter it l i)(D:s.heap.IsTuple l items)(W:items[i]?=aa x)
  (c:∀ h',h'.IsTupleIter it l (i+1)->cN it s.heap h'->Q x { s with heap:=h' }):aw (aH prog w) A (b_ (.ref it)) Q E s:=by
 obtain⟨o,J,Y,hd⟩:=id H
 obtain⟨h,T,_,g,b⟩:=D
 unfold b_
 refine ac (cn (name:=d3 "__next__") H.typeIs eR
  (ci eR H.typeIs kr ?_ (ke _)))
 show aw _ _ (lZ (.ref it) 0 >>= _) _ _ s
 refine ac (bY J hd (x:=.ref l) rfl ?_)
 show aw _ _ (if (aG l == bI)=ak then _ else _) _ _ s
 rw[if_neg (show ¬ ((aG l == bI)=ak) from aA)]
 show aw _ _ (lZ (.ref it) 1 >>= _) _ _ s
 refine ac (bY J hd (x:=.int i 0) rfl ?_)
 show aw _ _ (j9 (.ref l) >>= _) _ _ s
 refine ac (cc T b ?_)
 simp only[aK,W]
 refine ac (cb J hd (by simp) (af ⟨x,rfl,af (c _ ?_ (bj ..))⟩))
 exact⟨_,a8 _ J (ce (bo hd _)),(fh ..).trans Y,by
  rw[bo hd];simp[bJ]⟩
theorem O1{items:Array ag}(W:A.handled=none)(H:s.heap.IsTupleIter it l i)(D:s.heap.IsTuple l items)(c:items[i]?=none)
  (f:∀ h' e,lx it s.heap h'->(∃ o,h'.get? e=aa o/\o.cls=.type "StopIteration")->E (.ref e) { s with heap:=h' }):aw (aH prog w) A (b_ (.ref it)) Q E s:=by
 obtain⟨o,J,Y,hd⟩:=id H
 obtain⟨h,T,_,g,b⟩:=D
 unfold b_
 refine ac (cn (name:=d3 "__next__") H.typeIs eR
  (ci eR H.typeIs kr ?_ (ke _)))
 show aw _ _ (lZ (.ref it) 0 >>= _) _ _ s
 refine ac (bY J hd (x:=.ref l) rfl ?_)
 show aw _ _ (if (aG l == bI)=ak then _ else _) _ _ s
 rw[if_neg (show ¬ ((aG l == bI)=ak) from aA)]
 show aw _ _ (lZ (.ref it) 1 >>= _) _ _ s
 refine ac (bY J hd (x:=.int i 0) rfl ?_)
 show aw _ _ (j9 (.ref l) >>= _) _ _ s
 refine ac (cc T b ?_)
 simp only[aK,c]
 refine ac (dm (ac (cb J hd (by simp) ?_)))
 show aw _ _ (newExc (.type "StopIteration") [] >>= _) _ _ _
 refine ac ?_
 simp only[newExc,newTuple]
 refine ac (bU ?_ (by size_fits))
 refine ac (m:=i7 _ _) (ki (a:=bI) (by first|rfl|(simp only[i7];rfl)) ?_)
 refine bU ?_ (by size_fits)
 simp only[raiseNew]
 refine ac (wpAny_handled ?_)
 first|rw[show A.in1.handled=none from W]|rw[W]
 refine ac (af (wpAny_throw ?_))
 exact f _ _ (((bj ..).extBut.push _).push _) ⟨_,az _ rfl,rfl⟩
theorem O2(W:A.handled=none)(it l:ao)(F:l≠it)(items:Array ag) :
  Draws prog w A it [it,l] items.size (λi v=>items[i]?=aa v) (λi h=>h.IsTupleIter it l i/\h.IsTuple l items) where
 live:=λ_ _ st=>let ⟨o,J,_⟩:=st.1;⟨o,J⟩
 frame:=λ_ _ _ st R=>⟨st.1.at λo e=>R it (by simp) o e,let ⟨o,e,r⟩:=st.2;⟨o,R l (by simp) o e,r⟩⟩
 item:=λi s Q E C st c=>by
  refine RC st.1 st.2 (x:=items[i]) (by simp[C]) λh' a y=>?_
  exact c _ h' s.toks (by simp[C]) ⟨a,st.2.extBut y.extBut F⟩ y
 done:=λs Q E st f=>O1 W st.1 st.2 (by simp) f
theorem Gj(l:ao)(items:Array ag)(n:Nat)(e:Option ao)(sl:Array (Option ag)) :
  Meets (cZ.«enumerate.__new__» ⟨[.type "enumerate",.ref l],[]⟩) (λ_ R s=>s.heap.get? l=aa { cls:=.type "tuple",dict:=e,data:=.seq items n,slots:=sl } /\
   R (.ok (.ret (.ref (s.heap.push { cls:=.type "tuple_iterator",data:=.fields #[.ref l,.int 0 0] }).objs.size)))
    { s with heap:=(s.heap.push { cls:=.type "tuple_iterator",data:=.fields #[.ref l,.int 0 0] }).push { cls:=.type "enumerate",data:=.fields #[.none,.bool aF,.ref s.heap.objs.size,bJ 0,.none,.none] } }) :=
 .of_wp λprog w A R s h=>by
  obtain⟨T,g,d,tk,L⟩:=s;obtain⟨D,h⟩:=h
  have f:=sub_enumerate
  have U:kN (kJ ⟨T,g,d,tk,L⟩) l items:=⟨_,D,rfl,n,rfl⟩
  wp_walk using iI D
  refine wpAny_stack_any λst=>af ?_
  split
  ·rename_i c _ _ _ _ _
   cases (c == cY "enumerate")
   ·wp_walk using iI D,dq U
    exact⟨_,rfl,h⟩
   ·wp_walk using iI D,dq U
    exact⟨_,rfl,h⟩
  ·wp_walk using iI D,dq U
   exact⟨_,rfl,h⟩
theorem Gk{items:Array ag}(U:s.heap.IsTuple l items)
  (h:∀ h',IsEnum h' (s.heap.objs.size+1) s.heap.objs.size 0 .none->h'.IsTupleIter s.heap.objs.size l 0->h'.objs.size=s.heap.objs.size+2 ->
   (∀ b o,s.heap.get? b=aa o->h'.get? b=aa o)->Q (.ref (s.heap.objs.size+1)) { s with heap:=h' }) :
  aw (aH prog w) A (call (.type "enumerate") [.ref l]) Q E s:=by
 obtain⟨⟨c,e,p,y⟩,D,Y,n,hd⟩:=U
 replace Y:c=.type "tuple" := Y
 replace hd:p=.seq items n:=hd
 subst Y hd
 refine callType_new F.called_enumerate (by decide) (F.typeCall_enumerate_1 _) (F.newCall_enumerate_1 _) (λa=>F.args_object_init_2 a _) F.entry_enumerate_new
  (Gj l items n e y) ⟨D,?_⟩
 have hz:(s.heap.push { cls:=.type "tuple_iterator",data:=.fields #[.ref l,.int 0 0] }).objs.size=s.heap.objs.size+1:=bz ..
 show _/\_
 rw[hz]
 have G:IsEnum ((s.heap.push { cls:=.type "tuple_iterator",data:=.fields #[.ref l,.int 0 0] }).push
   { cls:=.type "enumerate",data:=.fields #[.none,.bool aF,.ref s.heap.objs.size,bJ 0,.none,.none] }) (s.heap.objs.size+1) s.heap.objs.size 0 .none:=by
  have:=az (s.heap.push { cls:=.type "tuple_iterator",data:=.fields #[.ref l,.int 0 0] })
   (o:={ cls:=.type "enumerate",data:=.fields #[.none,.bool aF,.ref s.heap.objs.size,bJ 0,.none,.none] }) rfl
  rw[hz] at this;exact this
 refine⟨⟨_,G,rfl⟩,h _ G ⟨_,ae _ (az _ rfl),rfl,rfl⟩ (by rw[bz,hz]) λb o x=>ae _ (ae _ x)⟩
def TB(K:aJ)(a:ao)(n:Nat):It :=
  ⟨λi H=>∃ xs x,SqT K H a xs/\xs.length=n/\xs[i]?=aa x,
   λi H v H'=>∃ p x,H p=none/\v=.ref p/\H'=upd H p (.tup [.int i,x])/\∀ xs,SqT K H a xs->xs[i]?=aa x,
   λi H=>∃ xs,SqT K H a xs/\xs.length=n/\n<=i⟩
theorem Gm{x1}(a e it:ao)(n:Nat)(F:e≠it)(hai:a≠it)(j:a≠e):Turn P w K (.Tuple es x1 tp) (TB K a n) [e,it] e (λi h=>(i<=n/\∃ old,IsEnum h e it i old)/\h.IsTupleIter it a i) where
 mem:=by simp
 obj:=λi h st b M=>by
  obtain⟨⟨_,old,G⟩,o,C,Y,hd⟩:=st
  have M:b=e\/b=it:=by simpa using M
  rcases M with rfl|rfl
  ·exact⟨_,G,λv z=>by cases (show jF _=iA v from z)⟩
  ·exact⟨o,C,λv z=>by rw[hd] at z;cases z⟩
 keep:=λi h h' st k=>by
  obtain⟨⟨D,old,G⟩,C⟩:=st
  exact⟨⟨D,old,k e (by simp) _ G⟩,C.at λo q=>k it (by simp) o q⟩
 item:=by
  intro X y R Q Y i L s U H E I B st hg
  subst y R Q
  obtain⟨xs,x,m,hn,W⟩:=hg
  obtain⟨⟨D,old,G⟩,C⟩:=st
  obtain⟨is,T,p,hz⟩:=I.tuple m
  have hsz0:is.toArray.size=n:=by rw[aR,<- T.length];exact hn
  have hi':i<is.toArray.size:=by rw[hsz0,<- hn];exact (List.getElem?_eq_some_iff.mp W).1
  refine wpAny_pyNext_enum_itemD (O2 (A:=X.A.in1) (I.ok.hd Y) it a hai is.toArray) G ⟨C,p⟩ hi' F (by simp[F,j.symm]) λu h' tk y J hi2 l hsz k=>?_
  refine⟨_,rfl,kX J λO f r=>?_⟩
  have g:=B e (by simp)
  have fi:=B it (by simp)
  obtain⟨u',hu,N⟩:=T.get W
  have eu:u=u':=by
   have:=y
   simp only[ib] at this
   rw[hu] at this
   exact (aS this).symm
  subst eu
  have I1:Inv X L U (upd H s.heap.objs.size (.tup [.int i,x])) { s with heap:=h',toks:=tk+1 }:=I.enumed g fi k l (.cons ⟨_,rfl⟩ (.cons N .nil)) (by show 2<=sizeLine;decide)
  have he1:e≠s.heap.objs.size:=aE (ax G)
  have hi1:it≠s.heap.objs.size:=by obtain⟨_,q,_⟩:=C;exact aE (ax q)
  have I2:=I1.turned (h':=O) (t':=tk+1) (it:=e) (λb o M q=>(r.2 b M).trans q) (by rw[Zg he1];exact g.1) g.2.1 g.2.2.2.1 g.2.2.2.2.1 g.2.2.2.2.2
  refine⟨.ref s.heap.objs.size,_,I2,rfl,⟨s.heap.objs.size,x,I.hok.fresh (aq _),rfl,rfl,λys hy=>by rw[I.tuple_inj hy m];exact W⟩,⟨⟨by rw[<- hsz0];exact hi',u,by simpa using f⟩,hi2.1.at λo q=>(r.2 it F.symm).trans q⟩,λb M=>?_⟩
  have M:b=e\/b=it:=by simpa using M
  rcases M with rfl|rfl
  ·rw[Zg he1];exact g.1
  ·rw[Zg hi1];exact fi.1
 done:=by
  intro X y R Q Y i L s U H E I B st hg
  subst y R Q
  obtain⟨xs,m,hn,W⟩:=hg
  obtain⟨⟨D,old,G⟩,C⟩:=st
  obtain⟨is,T,p,hz⟩:=I.tuple m
  have hsz0:is.toArray.size=n:=by rw[aR,<- T.length];exact hn
  obtain⟨f0,Z,c,f3,f4,f5⟩:=B it (by simp)
  have e1:i=is.toArray.size:=by rw[hsz0];exact Nat.le_antisymm D W
  rw[e1] at C
  exact wpAny_pyNext_enum_endD (O2 (A:=X.A.in1) (I.ok.hd Y) it a hai is.toArray) G ⟨C,p⟩ λh' S=>⟨rfl,I.turned (t':=s.toks) (λb o M e=>S b o M e) f0 Z f3 f4 f5⟩
 self:=λ_ _ _ _ _ st h=>by
  obtain⟨⟨_,old,G⟩,_⟩:=st
  exact gW G h
def RD(K:aJ)(ta:TA):TI:=λσ H R=>ta σ H λvs H1=>∃ a xs,vs=[.ref a]/\SqT K H1 a xs/\R (TB K a xs.length) H1
theorem O3{X:Cx}{a:dW}{ta:TA}{x1}{p:md}(hK:X.K=K)(A:Gl X "enumerate")(hm:X.mg "enumerate" = none)(ha:PA X [a] ta)(P:aY [a] X.env=[(aF,dz a X.env)]:=by rfl) :
  PI X (.Tuple es x1 tp) (.Call (.Name "enumerate" p) [a] [] pos) (RD K ta):=by
 subst hK
 intro L s U H R I h
 refine Call_ (XW I A hm iX (cV (thn (ha pos L s U H _ I h) λus C Z=>?_) P rfl))
 obtain⟨vs,y,J,g,a,xs,e,m,q⟩:=Z
 subst e
 cases g with
 | cons r c =>
  cases c
  cases (show _=aG a from r)
  obtain⟨f,T,p,hz⟩:=J.tuple m
  have ha:a<C.heap.objs.size:=by obtain⟨o,e,_⟩:=id p;exact ax e
  refine Gk p λh' G i hsz k=>?_
  refine gW G ?_
  have E:Inv X L U y { C with heap:=h' }:=J.kept (t':=C.toks) k
  refine⟨_,[C.heap.objs.size+1,C.heap.objs.size],_,TB X.K a xs.length,y,rfl,E,Gm a _ _ xs.length (bt (dg _)) (aE ha) (aE (bp ha)),⟨⟨bP _,_,G⟩,i⟩,λb M=>?_,q⟩
  have M:b=C.heap.objs.size+1\/b=C.heap.objs.size:=by simpa using M
  rcases M with rfl|rfl
  ·exact J.fpOk (cz _) (J.hok.fresh (cz _))
  ·exact J.fpOk (aq _) (J.hok.fresh (aq _))
section
variable{E:FK}
theorem Gn:X3 K (TB K l ds.length) (.ref l) (.tuple ds) ds.length λi=>.tuple [.int i,ds.getD i .none]:=by
 intro G H P W
 obtain⟨Z,ys,A,B,F⟩:=W.tuple_inv
 cases A
 have Y:=P.tupS B
 refine⟨λi C=>?_,λi C=>⟨ys,Y,F.length,C⟩⟩
 obtain⟨w,L,q⟩:=F.get (i:=i) (d:=ds.getD i .none) (by rw[am,ai C];rfl)
 refine⟨⟨ys,w,Y,F.length,L⟩,λx H' ⟨p,x0,hp,e1,e2,e3⟩=>?_⟩
 subst e1 e2
 have:=e3 ys Y
 rw[L] at this
 cases this
 exact⟨Yk hp,λa m k=>.tup (k p _ Zw hp) (.cons (.int i) (.cons (q.same m) .nil))⟩
theorem O4{A:TA}{P:Nat->(Nat->aj)->TV->Prop}(h:Ea K E X A ρ λbs=>∃ a ds,bs=[a]/\a.data=.tuple ds/\NR a/\P ds.length (λi=>.tuple [.int i,ds.getD i .none]) a.frz):Iv K E X (RD K A) ρ P:=λI U ts as H R s x k =>
 h I U ts as H _ s x λbs ⟨a,ds,eb,e,na,q⟩ vs H' M hl=>by
  subst eb
  obtain⟨v,rfl,M⟩:=Ym M hl
  have W:=M.top na
  rw[e] at W
  obtain⟨l,xs,rfl,Z,O⟩:=W.tuple_inv
  refine⟨l,xs,rfl,Z,k _ _ _ q (.ref l) _ H' (TV.frz_nr na) M.frzV ?_⟩
  rw[TV.frz_data,e,O.length]
  exact Gn
theorem Go{bk:Sl->Prop}{A:TA}(h:Ea K E X A ρ λbs=>∃ (a:TV) (xs:List α) (e:α->aj),bs=[a]/\a.data=.tuple (xs.map e)/\NR a/\(∃ d,a.frz=.av (.d d))/\∃ b:Nat->Sl->Prop,b 0 ρ/\(∀ i L (hi:i<xs.length),b i L->Gv K g (.tuple [.int i,e xs[i]]) L λl=>Sv K E X tb l ⟨b (i+1),rt,nx,b (i+1)⟩)/\∀ L,b xs.length L->nx L):Sv K E X (WZ (RD K A) g tb) ρ ⟨nx,rt,bk,ct⟩ :=
 Tc (O4 λI U ts as H QV s x k=>h I U ts as H QV s x (λbs W=>by
  obtain⟨a,xs,e,S,m,na,Y,b,v,turn,fin⟩:=W
  exact k bs ⟨a,xs.map e,S,m,na,Y,b,v,λi L hi w=>by
  rw[ah] at hi
  show Gv K g (.tuple [.int i,(xs.map e).getD i .none]) L _
  rw[Ve hi]
  exact turn i L hi w,λL w=>fin L (by rw[ah] at w;exact w)⟩))
end
variable{loose:List aQ}{YP:bV->bO->Prop}{XP:(aQ->Option ag)->bO->Prop}
section
open PySem.Calls PySem.W
theorem Gp{l:i_}{q:bC}{d:DefRec}
  (hn:l.most=aa n) (L:d.params.defaults=[])
  (call:∀ (w:bV) (s₀ s₁:ar) (mg mb:aQ->Option ag) (E:ao) (o:d9) (pm cd doc:ag) (a:ao) (vs:List ag) (ns:List Int),
   Ground q loose [] XP w s₀ mg mb s₁.heap->YP w s₁.heap ->
   s₁.heap.get? E=aa o->o.data=.func (docDef d.name d.params d.body d.scope pm cd doc)->s₁.heap.CodeRec cd d.name->mg d.name=aa (.ref E) ->
   s₁.heap.get? a=aa { cls:=.type "list",data:=.seq vs.toArray }->j0 vs ns->ns.length<=n->s₁.gens=#[]->(∀ x∈ns,eF x<=2 ^ 20) ->
   fZ (aH l.prog w) jT (.call (.ref E) ⟨[.ref a],[]⟩) (λr s'=>r=.ok (.ret (.bool ak))/\OldK s₁.heap s'.heap/\s'.os=s₁.os/\g_ s'.gens) s₁) :
  lN q loose XP YP l.row.toRowW d [] (λf vs=>iP f vs):=by
 intro w s₀ s₁ mg mb G Y E o pm cd doc i kV J hd b P I A args e as c h j g p
 obtain rfl:i=.none:=Dflts.none P L
 obtain rfl:kV=.none:=Dflts.noKw P
 obtain⟨a,vs,ns,rfl,rfl,y,D,K⟩:=Att.K8 hn c g
 refine enter_call (eA (call w s₀ s₁ mg mb E o pm cd doc a vs ns G Y J (fd_plain hd) b I y D K A ?_) λr s' m=>?_)
 ·intro x W
  have Z:=(layW_cons h).1
  have O:=layableW_item Z (.int x) (mem_map.mpr ⟨x,W,rfl⟩)
  exact aj.bits_of_layable (aj.layable0_of (λ_=>rfl) (layable_int O))
 obtain⟨rfl,O,B,F⟩:=m
 exact⟨.inl ⟨.bool ak,.bool ak,[],rfl,λ_=>rfl,.bool ak,Att.K9 l _,λ_=>⟨List.Pairwise.nil,λ_ S=>(nomatch S)⟩⟩,O,B,F⟩
end
variable{Q:VK}{f:ao}
section
open Classical
noncomputable def lend(C:ao->Prop)(h:bO)(H:Hp):Hp:=λb=>if C b then (h.get? b).map (λo=>HO.frz o (.own b)) else H b
noncomputable def unl(C:ao->Prop)(H:Hp):Hp:=λb=>if C b then none else H b
noncomputable def rel(C:ao->Prop)(H H':Hp):Hp:=λb=>if C b then H b else H' b
structure LendOk(C:ao->Prop)(h:bO)(H:Hp):Prop where
 no:∀ b,C b->H b=none
 obj:∀ b,C b->∃ o,h.get? b=aa o
section
variable{C:ao->Prop}{fs ex:List ao}
theorem X8(hb:¬ C b):lend C h H b=H b:=if_neg hb
theorem TC(L:LendOk C h H)(hb:C b):∃ o,h.get? b=aa o/\lend C h H b=aa (.frz o (.own b)):=by
 obtain⟨o,e⟩:=L.obj b hb
 exact⟨o,e,by unfold lend;rw[if_pos hb,e];rfl⟩
theorem WH{o:HO}(L:LendOk C h H)(e:H b=aa o):lend C h H b=aa o:=by
 have M:¬ C b:=λz=>by rw[L.no b z] at e;cases e
 rw[X8 M];exact e
theorem Gq(L:LendOk C h H):Zf H (lend C h H):=λb o e=>WH L e
theorem Gr(L:LendOk C h H)(ok:HOk P w H h):HOk P w (lend C h H) h:=λa o e=>by
 by_cases m:C a
 ·obtain⟨j,S,N⟩:=TC L m
  rw[N] at e
  cases e
  exact⟨S,j,S⟩
 ·rw[X8 m] at e
  exact (ok a o e).stay (λ_ _ _ q=>q) (λ_ q=>WH L q) (λ_ _ q=>WH L q) λ_ _ q=>WH L q
theorem Ya(hb:¬ C b):unl C H b=H b:=if_neg hb
theorem WI(hb:C b):unl C H b=none:=if_pos hb
theorem RE(L:LendOk C h H)(un:Un fs ex (lend C h H) H' h h')(hb:C b):∃ o,h.get? b=aa o/\H' b=aa (.frz o (.own b)):=by
 obtain⟨o,S,N⟩:=TC L hb
 exact⟨o,S,un.frzs b o _ N⟩
theorem Gs(L:LendOk C h H)(un:Un fs ex (lend C h H) H' h h')(hok:HOk P w H' h')(F:∀ b,C b->b∉fs):Un fs ex H (unl C H') h h' where
 keep:=λb o e n M W=>by
  by_cases Y:C b
  ·obtain⟨i,S,N⟩:=RE L un Y
   rw[e] at S;cases S
   exact (hok b _ N).1
  ·exact un.keep b o e (by rw[X8 Y];exact n) M W
 slot:=λb o e n M W=>un.slot b o e (by rw[X8 λY=>F b Y M];exact n) M W
 free:=λb o e n W=>by
  by_cases Y:C b
  ·exact WI Y
  ·rw[Ya Y]
   exact un.free b o e (by rw[X8 Y];exact n) W
 there:=un.there
 tups:=λb xs e=>by
  have Y:¬ C b:=λz=>by rw[L.no b z] at e;cases e
  rw[Ya Y]
  exact un.tups b xs (WH L e)
 frzs:=λb o u e=>by
  have Y:¬ C b:=λz=>by rw[L.no b z] at e;cases e
  rw[Ya Y]
  exact un.frzs b o u (WH L e)
 tbls:=λb ps e=>by
  have Y:¬ C b:=λz=>by rw[L.no b z] at e;cases e
  rw[Ya Y]
  exact un.tbls b ps (WH L e)
theorem Gu(L:LendOk C h H)(un:Un fs ex (lend C h H) H' h h')(hok:HOk P w H' h'):HOk P w (unl C H') h':=λa o e=>by
 have m:¬ C a:=λz=>by rw[WI z] at e;cases e
 rw[Ya m] at e
 have f:∀ {b:ao} {u:HO},H' b=aa u->(∀ o,u≠.frz o (.own b))->unl C H' b=aa u:=λ{b u} q n=>by
  have Y:¬ C b:=λz=>by
   obtain⟨i,_,N⟩:=RE L un z
   rw[q] at N
   cases N
   exact n _ rfl
  rw[Ya Y];exact q
 refine (hok a o e).stay (λ_ _ _ q=>q) (λb q=>f q λo z=>by cases z) (λb xs q=>f q λo z=>by cases z) λb j q=>?_
 have Y:¬ C b:=λz=>by
  obtain⟨i,_,N⟩:=RE L un z
  rw[q] at N
  cases N
  exact m z
 rw[Ya Y];exact q
theorem TD(hb:C b):rel C H H' b=H b:=if_pos hb
theorem X9(hb:¬ C b):rel C H H' b=H' b:=if_neg hb
theorem TF(R:∀ b,C b->∃ o,H b=aa (.frz o (.own b))){o:HO}(e:H b=aa o)(n:∀ ob,o≠.frz ob (.own b)):unl C H b=aa o:=by
 have Y:¬ C b:=λz=>by obtain⟨i,N⟩:=R b z;rw[e] at N;cases N;exact n _ rfl
 rw[Ya Y];exact e
theorem Gw(R:∀ b,C b->∃ o,H b=aa (.frz o (.own b)))(hok:HOk P w H h):HOk P w (unl C H) h:=λa o e=>by
 have m:¬ C a:=λz=>by rw[WI z] at e;cases e
 rw[Ya m] at e
 refine (hok a o e).stay (λ_ _ _ q=>q) (λb q=>TF R q λo z=>by cases z) (λb xs q=>TF R q λo z=>by cases z) λb j q=>?_
 have Y:¬ C b:=λz=>by
  obtain⟨i,N⟩:=R b z
  rw[q] at N
  cases N
  exact m z
 rw[Ya Y];exact q
theorem Gx(R:∀ b,C b->∃ o,H b=aa (.frz o (.own b)))(c:HOk P w H h)(un:Un fs ex (unl C H) H' h h')(F:∀ b,C b->b∉fs/\b∉ex):Un fs ex H (rel C H H') h h' where
 keep:=λb o e n M W=>by
  have Y:¬ C b:=λz=>by obtain⟨i,N⟩:=R b z;rw[n] at N;cases N
  exact un.keep b o e (by rw[Ya Y];exact n) M W
 slot:=λb o e n M W=>un.slot b o e (by rw[Ya λY=>(F b Y).1 M];exact n) M W
 free:=λb o e n W=>by
  have Y:¬ C b:=λz=>by obtain⟨i,N⟩:=R b z;rw[n] at N;cases N
  rw[X9 Y]
  exact un.free b o e (by rw[Ya Y];exact n) W
 there:=un.there
 tups:=λb xs e=>by
  by_cases Y:C b
  ·rw[TD Y];exact e
  ·rw[X9 Y];exact un.tups b xs (by rw[Ya Y];exact e)
 frzs:=λb o u e=>by
  by_cases Y:C b
  ·rw[TD Y];exact e
  ·rw[X9 Y];exact un.frzs b o u (by rw[Ya Y];exact e)
 tbls:=λb ps e=>by
  have Y:¬ C b:=λz=>by obtain⟨i,N⟩:=R b z;rw[e] at N;cases N
  rw[X9 Y];exact un.tbls b ps (by rw[Ya Y];exact e)
theorem O5(R:∀ b,C b->∃ o,H b=aa (.frz o (.own b)))(c:HOk P w H h)(un:Un fs ex (unl C H) H' h h')(F:∀ b,C b->b∉fs/\b∉ex)(hb:C b):H' b=none:=by
 obtain⟨o,e⟩:=R b hb
 exact un.free b o (c b _ e).1 (WI hb) (F b hb).2
theorem Gy(R:∀ b,C b->∃ o,H b=aa (.frz o (.own b)))(c:HOk P w H h)(un:Un fs ex (unl C H) H' h h')(F:∀ b,C b->b∉fs/\b∉ex)(hok:HOk P w H' h'):HOk P w (rel C H H') h':=λa o e=>by
 by_cases m:C a
 ·rw[TD m] at e
  obtain⟨j,N⟩:=R a m
  rw[N] at e
  cases e
  have:=un.keep a j (c a _ N).1 (WI m) (F a m).1 (F a m).2
  exact⟨this,j,this⟩
 ·rw[X9 m] at e
  have f:∀ {b:ao} {u:HO},H' b=aa u->rel C H H' b=aa u:=λ{b u} q=>by
   have Y:¬ C b:=λz=>by rw[O5 R c un F z] at q;cases q
   rw[X9 Y];exact q
  exact (hok a o e).stay (λ_ _ _ q=>q) (λb q=>f q) (λb xs q=>f q) λb j q=>f q
end
structure CloOk(P:bC)(w:bV)(K:aJ)(mg:aQ->Option ag)(base:bO)(CX:CXT)(k:Nat)(sp:Sp)(v:V)(G:Hp):Prop where
 at':∃ f fo fd,v=.ref f/\G f=aa (.frz fo (.own f))/\fo.data=.func fd
 run:∀ f,v=.ref f->∀ (A:cG) (outer:List iS) (s:ar) (H:Hp) (us:List ag) (vs:List V) (Q:VK) (E:XK),Room k A->Env0 P w K mg base A outer s H->Zf G H->Zi vs us->sp vs H Q E ->
  fZ (aH P w) A (.call (.ref f) ⟨us,[]⟩) (CR CX outer P w H s Q E) s
theorem CloOk.same{k:Nat}(c:CloOk P w K mg base CX k sp v G)(m:Zf G G'):CloOk P w K mg base CX k sp v G' :=
 ⟨let ⟨f,fo,D,e,h,d⟩:=c.at';⟨f,fo,D,e,m _ _ h,d⟩,λf e A g s H us vs Q E J U l=>c.run f e A g s H us vs Q E J U (m.trans l)⟩
section
variable{X:Cx}{k:Nat}{E:XK}{p:md}{t:TA}
theorem Gz{σ:St}(c:CloOk X.prog X.w X.K X.mg X.base CX k sp (.ref f) H)(J:Room k X.A)(W:Ws CX X E)
  (I:'#') (r:Zi vs us) (h:sp vs H Q E):aw (aH X.prog X.w) X.A (call (.ref f) us) (EP X pins σ Q) X.xe s:=by
 refine fg (eA (c.run f rfl X.A X.stack s H us vs Q E J I.env0 (.refl H) r h) λr M m=>?_)
 cases r with
 | error e=>exact W pins σ H s e M I m
 | ok p =>
  cases p with
  | ret u=>exact I.after m
  | next=>exact cm m
  | brk=>exact cm m
  | cont=>exact cm m
def RF(P:bC)(w:bV)(K:aJ)(mg:aQ->Option ag)(base:bO)(CX:CXT)(k:Nat)(i:Nat)(E:XK)(t:TA):TE:=λσ H Q =>
 ∃ v sp,σ[i]?=aa (aa v)/\CloOk P w K mg base CX k sp v H/\t σ H λvs H1=>CloOk P w K mg base CX k sp v H1/\sp vs H1 Q E
theorem O6{σ:St}(I:'#')(h:H f=aa (.frz fo (.own f)))(d:fo.data=.func fd):PySem.W.FnAt f s.heap:=by
 have e:=(I.hok f _ h).1
 obtain⟨c,od,p,y⟩:=fo
 cases (show p=_ from d)
 exact⟨c,od,fd,y,e⟩
theorem GA(J:Room k X.A)(W:Ws CX X E)(ha:PA X (e::es) t)(hN:X.N[i]?=aa x:=by rfl)(N:Vis X.env.scope x:=by first|exact aC rfl|exact de (aC rfl)|exact de (de rfl))
  (hd:(x == ("__debug__" : aQ))=false:=by decide) (b:(x == ("__classdict__" : aQ))=false:=by decide)
  (G:aY (e::es) X.env=(aF,dz e X.env)::aY es X.env:=by rfl) (m:(dC pos (aY es X.env)).any (·.1)=false:=by rfl) :
  PE X (.Call (.Name x p) (e::es) [] pos) (RF X.prog X.w X.K X.mg X.base CX k i E t):=by
 intro L s U H Q I ⟨v,sp,hσ,c,h⟩
 refine dt (thn (Q2 (pos:=p) hN N hd b L s U H (λC H'=>C=v/\H'=H) I ⟨v,hσ,rfl,rfl⟩) λu s0 ⟨C,H',I0,r0,ev,eH⟩=>?_)
 subst ev eH
 obtain⟨f,fo,D,S,l,j⟩:=c.at'
 subst S
 obtain rfl:u=aG f:=r0
 refine PySem.W.callWith_F (O6 I0 l j) (thn (ha pos L s0 U H' _ I0 h) λus s1 ⟨vs,H1,I1,r,c1,q⟩=>?_) G m
 obtain⟨A,a,g,y,B,w⟩:=c1.at'
 cases y
 exact⟨O6 I1 B w,Gz c1 J W I1 r q⟩
end
def Own(X:Cx)(b:ao):Prop:=∃ x,X.fn x=ak/\X.env.cells.lookup x=aa b
structure Lent(X:Cx)(σ:St)(H H2:Hp):Prop where
 same:Zf H H2
 cell:∀ (i:Nat) (x:aQ) (c:ao) (v:V),X.N[i]?=aa x->X.fn x=ak->X.env.scope.names.lookup x=aa .cell->X.env.cells.lookup x=aa c->σ[i]?=aa (aa v)->∃ o u,H2 c=aa (.frz o (.own c))/\o.data=.cell (aa u)/\Zm v u
 out:∀ b,¬ Own X b->H2 b=H b
 own:∀ b,Own X b->H b=none/\∃ o v,H2 b=aa (.frz o (.own b))/\o.data=.cell v
section
variable{X:Cx}{σ:St}
theorem Inv.lendOk(I:'#'):LendOk (Own X) s.heap H :=
 ⟨λb ⟨x,_,e⟩=>I.freeC x b e,λb ⟨x,_,e⟩=>let ⟨_,o,h,_⟩:=I.cell x b e;⟨o,h⟩⟩
theorem Inv.own_low(I:'#')(h:Own X b):X.s₀.heap.objs.size<=b:=let ⟨x,B,e⟩:=h;I.ok.cab x b B e
theorem Inv.own_fs(I:'#')(h:Own X b):b∉frs X.stack:=λM=>by
 rcases gh.mp (I.stkSub b M) with e|M
 ·obtain⟨x,_,q⟩:=h
  exact I.cne x b q e
 ·obtain⟨_,o,J,_⟩:=I.ok.funs.mem M
  exact absurd (aM (ax J) (I.own_low h)) (cA _)
theorem Inv.env0L(I:'#'):Env0 X.prog X.w X.K X.mg X.base X.A X.stack s (lend (Own X) s.heap H):=by
 have e:=I.env0
 refine⟨e.frames,e.mod,λb o q=>⟨(e.bs b o q).1,?_⟩,e.bsz,e.funs,λb M=>?_,Gr I.lendOk e.hok,e.bare⟩
 ·rw[X8]
  ·exact (e.bs b o q).2
  ·intro h
   exact absurd (aM (ax q) (aT I.ok.bsz (I.own_low h))) (cA _)
 ·rw[X8 λh=>I.own_fs h M]
  exact e.frf b M
theorem Inv.lent(I:'#'):Lent X σ H (lend (Own X) s.heap H):=by
 refine⟨Gq I.lendOk,λi x c v hN B R Y a=>?_,λb h=>X8 h,λb h=>⟨I.lendOk.no b h,?_⟩⟩
 ·obtain⟨m,g,D⟩:=I.loc
  obtain⟨u,r,l⟩:=D i x v hN a (.inr (.inl R))
  obtain⟨o,S,N⟩:=TC I.lendOk (b:=c) ⟨x,B,Y⟩
  rcases l with⟨D,_⟩|⟨_,w,f,j,L,A⟩
  ·have D:X.env.scope.names.lookup x=aa .local:=D
   rw[R] at D
   cases D
  ·rw[Y] at f
   cases f
   rw[S] at L
   cases L
   exact⟨o,u,N,A,r⟩
 ·obtain⟨o,S,N⟩:=TC I.lendOk h
  obtain⟨x,_,Y⟩:=h
  obtain⟨v,j,L,A⟩:=I.cell x b Y
  rw[S] at L
  cases L
  exact⟨o,v,N,A⟩
end
def O7(X:Cx)(sp:Sp)(dvs:List V)(E:XK)(t:TA):TE:=λσ H Q=>t σ H λvs H1=>∀ H2,Lent X σ H1 H2->sp (vs++dvs) H2 (λv H3=>Q v (unl (Own X) H3)) E
def RG(CX:CXT)(X:Cx)(E:XK):Prop:=∀ (pins:List (ao×d9)) (σ:St) (H:Hp) (s:ar) (e:ag) (s':ar),Inv X pins σ H s->CX X.stack (lend (Own X) s.heap H) s E e s'->X.xe e s'
section
variable{X:Cx}{k:Nat}{ds:List ag}{E:XK}{p:md}{t:TA}
theorem GB{σ:St}(F:FnOk X.prog X.w X.K X.mg X.base CX k f fd ps sp)(J:Room k X.A)(hb:Y1 X.K fd ps ds)(hd:Zi dvs ds)(W:RG CX X E)
  (I:'#') (r:Zi vs us) (h:∀ H2,Lent X σ H H2->sp (vs++dvs) H2 (λv S=>Q v (unl (Own X) S)) E):aw (aH X.prog X.w) X.A (call (.ref f) us) (EP X pins σ Q) X.xe s:=by
 have G:Zi (vs++dvs) (us++ds):=r.append hd
 have h:=h _ I.lent
 have D:(us++ds).length=ps.length:=by rw[<- G.length];exact F.len _ _ _ _ h
 refine fg (eA (F.run X.A X.stack s _ ⟨us,[]⟩ (us++ds) (vs++dvs) _ E J I.env0L (hb s us I.kIn D) G h) λr M m=>?_)
 cases r with
 | error e=>exact W pins σ H s e M I m
 | ok p =>
  cases p with
  | ret u =>
   obtain⟨v,H',L,a,un,c,r,q⟩:=m
   exact I.after ⟨v,unl (Own X) H',L,a,Gs I.lendOk un c λb hb=>I.own_fs hb,Gu I.lendOk un c,r,q⟩
  | next=>exact cm m
  | brk=>exact cm m
  | cont=>exact cm m
theorem O8(c:Cal X.prog X.w X.K X.mg X.base CX k x ps dvs sp)(J:Room k X.A)(A:Gl X x)(W:RG CX X E)(ha:PA X (e::es) t)(a:(x == ("__debug__" : aQ))=false:=by decide)
  (G:aY (e::es) X.env=(aF,dz e X.env)::aY es X.env:=by rfl) (m:(dC pos (aY es X.env)).any (·.1)=false:=by rfl) :
  PE X (.Call (.Name x p) (e::es) [] pos) (O7 X sp dvs E t):=by
 obtain⟨f,D,ds,Z,O,B,F,Y⟩:=c.ex
 intro L s U H Q I h
 refine dt (XC I A O ?_ a)
 refine iz (h₀:=X.base) I.ok.mod.kin B (thn (ha pos L s U H _ I h) λus s1 ⟨vs,H1,I1,r,q⟩=>⟨I1.kIn,?_⟩) G m
 exact GB Z J F Y W I1 r q
end
end
variable{c:ao}
theorem GC{a b:Nat}{c:ag}(l:List ag)(h:ma l)(Y:fV pos (l++[bJ a,bJ b,c])=aa cv):fV pos l=aa cv\/(pos.line=a/\pos.col=b/\cv=c):=by
 fun_induction ma l with
 | case1 =>
  simp only[lj,bJ,fV] at Y
  split at Y
  ·rename_i hq
   simp only[aP,beq_iff_eq] at hq
   exact .inr ⟨by omega,by omega,(aS Y).symm⟩
  ·cases Y
 | case2 Q t m u x K E =>
  simp only[jy,fV] at Y ⊢
  split at Y
  ·rename_i hq;rw[if_pos hq];exact .inl Y
  ·rename_i hq;rw[if_neg hq];exact E h Y
 | case3 l Z O=>exact h.elim
def RH(name qual:aQ)(params:mh)(body:List gK)(scope:e_)(cl:List (aQ×ao))(P:ao)(H H':Hp)(f:ao):Prop :=
 ∃ (c:ao) (co:d9) (doc pm ctv:ag),WV co qual/\(H c=none\/H c=aa (.frz co (.own P)))/\c≠f/\H f=none/\H'=upd (upd H c (.frz co (.own P))) f (.frz (e5 name qual params body scope cl doc pm c ctv) (.own f))
theorem GD{o:HO}(h:H c=aa o):upd H c o=H:=by
 funext b
 by_cases e:b=c
 ·rw[e,Zw,h]
 ·rw[Zg e]
theorem RH.same{cl:List (aQ×ao)}{P:ao}(m:RH name qual params body scope cl P H H' f):Zf H H':=by
 obtain⟨c,co,r,pm,g,_,Y,F,B,rfl⟩:=m
 intro b o e
 rw[Zg (Z5 e B)]
 by_cases M:b=c
 ·subst M
  rcases Y with z|z
  ·rw[z] at e;cases e
  ·rw[Zw,<- z,e]
 ·rw[Zg M];exact e
structure Clos(X:Cx)(scope:e_)(cl:List (aQ×ao)):Prop where
 le:∀ x c,cl.lookup x=aa c->X.env.cells.lookup x=aa c
 has:∀ x,(x,dk)∈scope.names->∃ c,cl.lookup x=aa c
 inj:∀ x y c,cl.lookup x=aa c->cl.lookup y=aa c->x=y
def tDef(X:Cx)(name qual:aQ)(params:mh)(body:List gK)(scope:e_)(P:ao)(pos:md)(i:Nat):TS:=λD σ H =>
 ∃ q,H P=aa (.tbq q)/\q pos.line pos.col=qual/\∀ cl f H',Clos X scope cl->RH name qual params body scope cl P H H' f->D.nx (σ.set i (aa (.ref f))) H'
variable{co:d9}{c0:ao}
section
variable{X:Cx}{σ:St}
theorem Inv.fnMade{P:ao}{ps:Array ag}(I:'#')(y:H P=aa (.tbq q))(x:s.heap.get? P=aa (iw ps))(l:ma ps.toList)
  (p:∀ pos cv,fV pos ps.toList=aa cv->∃ c o,cv=.ref c/\H c=aa (.frz o (.own P))/\WV o (q pos.line pos.col))
  (W:lx P s.heap h') (Q:s.heap.objs.size<=c) (F:c<h'.objs.size) (Z:h'.get? c=aa co) (m:WV co (q pos.line pos.col)) (f:h'.get? P=aa (iw (ps++#[bJ pos.line,bJ pos.col,.ref c]))) (v:fo.isFreed=aF) :
  Inv X pins σ (upd (upd H c (.frz co (.own P))) h'.objs.size (.frz fo (.own h'.objs.size))) { s with heap:=h'.push fo,toks:=t' }:=by
 have C:H c=none:=I.hok.fresh Q
 have hsz:s.heap.objs.size<=h'.objs.size:=aT Q (cP F)
 have K:H h'.objs.size=none:=I.hok.fresh hsz
 have R:c≠P:=λz=>by rw[z,y] at C;cases C
 have O:h'.objs.size≠P:=λz=>by rw[z,y] at K;cases K
 have N:c≠h'.objs.size:=aE F
 have S:∀ {b:ao} {u:HO},H b=aa u->upd (upd H c (.frz co (.own P))) h'.objs.size (.frz fo (.own h'.objs.size)) b=aa u:=λ{b u} e=>by
  rw[Zg (Z5 e K),Zg (Z5 e C)];exact e
 have j:∀ b o,b≠P->s.heap.get? b=aa o->(h'.push fo).get? b=aa o:=λb o M e=>ae _ (W b o M e)
 have L:∀ {b:ao},H b=none->b≠P:=λ{b} n z=>by rw[z,y] at n;cases n
 refine I.un ⟨λb u q n _ _=>j b u (L n) q,λb u q n _ _=>⟨u.slots,j b u (L n) q⟩,λb u q n _=>?_,λb u q _=>?_,λb xs q=>S q,λb u xs q=>S q,λb ps q=>⟨#[],by simpa using S q⟩⟩ λa u e=>?_
 ·have M:=ax q
  rw[Zg (aE (aM M hsz)),Zg (aE (aM M Q))]
  exact n
 ·by_cases M:b=P
  ·subst M
   exact⟨_,ae _ f⟩
  ·exact⟨u,j b u M q⟩
 ·by_cases D:a=h'.objs.size
  ·subst D
   rw[Zw] at e
   cases e
   exact⟨az _ v,fo,az _ v⟩
  ·rw[Zg D] at e
   by_cases E:a=c
   ·subst E
    rw[Zw] at e
    cases e
    exact⟨ae _ Z,co,ae _ Z⟩
   ·rw[Zg E] at e
    by_cases J:a=P
    ·subst J
     rw[y] at e
     cases e
     refine⟨_,ae _ f,?_,λB cv z=>?_⟩
     ·have:=TriplesOk_snoc pos.line pos.col (.ref c) ps.toList l
      simpa using this
     ·have Y:fV B (ps.toList++[bJ pos.line,bJ pos.col,.ref c])=aa cv:=by simpa using z
      rcases GC ps.toList l Y with z|⟨e1,e2,e3⟩
      ·obtain⟨w,i,g,G,A⟩:=p B cv z
       exact⟨w,i,g,S G,A⟩
      ·refine⟨c,co,e3,?_,?_⟩
       ·rw[Zg N,Zw]
       ·rw[e1,e2];exact m
    ·refine (I.hok a u e).stay (λb h M z=>j b h ?_ z) (λb z=>S z) (λb xs z=>S z) λb o z=>S z
     rcases M with r|r
     ·rw[r];exact J
     ·exact λz=>by rw[z,y] at r;cases r
theorem TH{P:ao}(hN:X.N.Nodup)(hi:X.N[i]?=aa name)(W:Loc X.env.scope name)(hd0:params.defaults=[])(A:params.kw_defaults=[])
  (ha:annTrees params none X.env=[]) (hq:qualnameIn X.env name name=qual) (T:X.env.code=.ref c0) (hC:dD X.K c0 P=ak) (hfr:∀ y∈scope.names,y.2=.free->X.env.scope.names.lookup y.1=aa .cell\/X.env.scope.names.lookup y.1=aa .free)
  (hB:X.base.BuiltinsAt X.mg au) (B:X.fn name=ak\/X.env.scope.names.lookup name=aa .local:=by first|exact .inl rfl|exact .inr rfl|assumption) :
  PS X (.FunctionDef name params body [] none [] scope none name pos) (tDef X name qual params body scope P pos i):=by
 intro L s U H D I ⟨q,hP,hqp,h⟩
 refine PySem.W.nestDef_K hd0 A ha ?_
 rw[hq]
 obtain⟨cl,hcl,hle,hhas⟩:=PB (scope:=scope) (env:=X.env) λy hy e=>I.ok.has y.1 (hfr y hy e)
 have C:Clos X scope cl:=⟨hle,hhas,λx y c S N=>I.ok.inj x y c (hle x c S) (hle y c N)⟩
 obtain⟨ps,hPs,l,p⟩:=I.hok P _ hP
 have O:s.heap.Ns au X.mg:=I.mod.glob.keeps I.bk
 have hCd:=nA I.kIn hC
 obtain⟨bm,j,b1,b2,G,_,m,b6,b7,b8⟩:=hB
 have nP:∀ {b:ao} {o:d9},X.base.get? b=aa o->b≠P:=λ{b o} e z=>by
  have:=(I.bs b o e).2
  rw[z,hP] at this;cases this
 have hBA:s.heap.BuiltinsAt X.mg P:=⟨bm,j,b1,b2,G,nP m,I.bk bm j m,b6,b7,b8⟩
 have hgP:au≠P:=by
  obtain⟨o,es,ep,e,_⟩:=I.mod.glob
  exact nP e
 cases hca:fV pos ps.toList with
 | none =>
  refine PySem.W.makeFunction_K hcl I.ok.glob O T hCd hPs l hca hgP hBA λw g r h' tk hx' Q F a f=>?_
  obtain⟨c2,co,vs,t,ec,S,N,e3⟩:=a
  cases ec
  have J:=I.fnMade (t':=tk) (fo:=e5 name qual params body scope cl r ((X.mg "__name__").getD .none) w g) hP hPs l p hx' Q F S (hqp▸⟨vs,t,N,e3⟩) f rfl
  refine Vw (v:=.ref h'.objs.size) J hN hi W rfl (λM E _=>?_) B
  refine⟨_,_,E,h cl _ _ C ⟨w,co,r,_,g,⟨vs,t,N,e3⟩,.inl (I.hok.fresh Q),aE F,I.hok.fresh (aT Q (cP F)),rfl⟩⟩
 | some cv =>
  obtain⟨c,co,rfl,Y,Z⟩:=p pos cv hca
  refine PySem.W.makeFunction_hit hcl I.ok.glob O T hCd hPs l hca hBA λg r h' tk R hsz=>?_
  have K:H h'.objs.size=none:=I.hok.fresh hsz
  have J:Inv X L U (upd H h'.objs.size (.frz (e5 name qual params body scope cl r ((X.mg "__name__").getD .none) c g) (.own h'.objs.size))) { s with heap:=h'.push (e5 name qual params body scope cl r ((X.mg "__name__").getD .none) c g),toks:=tk }:=by
   refine I.born K (dy hsz) (λb u e=>ae _ (R b u e)) ⟨az _ rfl,_,az _ rfl⟩
  refine Vw (v:=.ref h'.objs.size) J hN hi W rfl (λM E _=>?_) B
  refine⟨_,_,E,h cl _ _ C ⟨c,co,r,(X.mg "__name__").getD .none,g,hqp▸Z,.inr Y,(λz=>by rw[z,K] at Y;cases Y),K,?_⟩⟩
  rw[GD Y]
end
def XQ(qual:aQ)(scope:e_)(cl:List (aQ×ao))(L f:ao)(cd:ag):Env :=
 { scope:=scope,locals:=L,globals:=au,cells:=b0 (L+1) scope.names cl,qual:=qual ++ ".<locals>.",func:=aa f,code:=cd,frame:=aa L,builtins:=ir }
variable{Q:Unit->ar->Prop}
theorem GE{cl:List (aQ×ao)}{b:List (aQ×ag)}{Q:iS->ar->Prop}
  (h:aw M A (nt b iY λ(x:aQ×ag) _=>do lY (XQ qual scope cl s.heap.objs.size f cd) x.1 x.2;ej (eQ iY)) (λ_ s'=>Q (XQ qual scope cl s.heap.objs.size f cd) s') E
   { s with heap:=dF (s.heap.push { cls:=.type "frame",data:=.dict #[] }) scope.names }) :
  aw M A (i6 scope au cl b (qual ++ ".<locals>.") (aa f) cd none ir) Q E s:=by
 simp only[i6,Option.isSome_none,bn,if_false]
 refine ac (kj ?_)
 refine ac (wpAny_layCells _ (λname kind cells=>by cases hkc:kind == dR<;>simp[hkc]) _ _ _ _ ?_)
 rw[show ({ s with heap:=s.heap.push { cls:=.type "frame",data:=.dict #[] } }:ar).heap.objs.size=s.heap.objs.size+1 from bz ..]
 exact ac (thn h λ_ s' q=>af q)
def cxF(CX:CXT)(P:bC)(w:bV)(K:aJ)(mg:aQ->Option ag)(base:bO)(N:List aQ)(qual:aQ)(scope:e_)(cl:List (aQ×ao))(f:ao)(cd:ag)(A:cG)(outer:List iS)(s:ar)(H:Hp)(E:XK):Cx where
 prog:=P
 w:=w
 K:=K
 mg:=mg
 base:=base
 A:=A.deeper (XQ qual scope cl s.heap.objs.size f cd)
 N:=N
 s₀:=s
 H₀:=H
 env:=XQ qual scope cl s.heap.objs.size f cd
 outer:=outer
 stack:=XQ qual scope cl s.heap.objs.size f cd::outer
 ex:=[]
 calm:=ak
 fn:=λx=>scope.names.lookup x == aa .cell
 pn:=[]
 xe:=λe s'=>aw (aH P w) (A.deeper (XQ qual scope cl s.heap.objs.size f cd)) (n' (XQ qual scope cl s.heap.objs.size f cd) e) (λ_ s''=>CX outer H s E e s'') (λe' s''=>CX outer H s E e' s'') s'
structure FnScopeF(N ps:List aQ)(sc:e_):Prop where
 kind:sc.kind=.function
 co:sc.isCoroutine=aF
 gen:sc.isGenerator=aF
 nd:N.Nodup
 pre:N.take ps.length=ps
 par:∀ x∈ps,sc.names.lookup x=aa .local\/sc.names.lookup x=aa .cell
def O9(N:List aQ)(scope:e_)(cl:List (aQ×ao))(h:bO)(σ:St):Prop :=
 σ.length=N.length/\∀ (i:Nat) (x:aQ) (v:V),N[i]?=aa x->σ[i]?=aa (aa v)->scope.names.lookup x=aa .free/\(∀ y∈scope.names,y.1=x->y.2≠.cell)/\∃ c o u,cl.lookup x=aa c/\h.get? c=aa o/\o.data=.cell (aa u)/\Zm v u
variable{Pt:ao}
section
variable{cl:List (aQ×ao)}{E:XK}{σ:St}
theorem GF(S:FnScopeF N ps scope)(hd:A.handled=none)(U:Env0 P w K mg base A outer s H)(a:∀ x,(x,dk)∈scope.names->∃ c,cl.lookup x=aa c)(g:∀ x y c,cl.lookup x=aa c->cl.lookup y=aa c->x=y)
  (I:∀ x c,cl.lookup x=aa c->H c=none/\∃ v,s.heap.IsCell c v) (F:O9 N scope cl s.heap σ) :
  Inv (cxF CX P w K mg base N qual scope cl f cd A outer s H E) [] σ H { s with heap:=dF (s.heap.push { cls:=.type "frame",data:=.dict #[] }) scope.names }:=by
 have L:(s.heap.push { cls:=.type "frame",data:=.dict #[] }).objs.size=s.heap.objs.size+1:=bz ..
 have k1:∀ b o,s.heap.get? b=aa o->(dF (s.heap.push { cls:=.type "frame",data:=.dict #[] }) scope.names).get? b=aa o :=
  λb o e=>fc _ _ b o (ae _ e)
 have D:(dF (s.heap.push { cls:=.type "frame",data:=.dict #[] }) scope.names).Ns s.heap.objs.size λ_=>none :=
  (nE s.heap (.type "frame")).keeps (fc scope.names _)
 have Q:∀ x c,cl.lookup x=aa c->c<s.heap.objs.size:=λx c e=>by
  obtain⟨_,v,q⟩:=I x c e
  exact q.lt
 have cells:∀ x c,(b0 (s.heap.objs.size+1) scope.names cl).lookup x=aa c->s.heap.objs.size+1<=c\/cl.lookup x=aa c:=λx c e=>UW x _ _ _ c e
 have M:∀ b:ao,b∉(cxF CX P w K mg base N qual scope cl f cd A outer s H E).ex:=λb z=>absurd (show b∈([]:List ao) from z) (by simp)
 refine⟨⟨U.mod,S.kind,rfl,rfl,aq _,?_,?_,?_,λ_=>hd,kQ U.frames,.inr ⟨rfl,rfl⟩,λb z=>absurd z (M b),U.bs,U.bsz,λb _ _=>M b,λb z=>absurd z (M b),U.funs,U.frf⟩,
  rfl,U.bare,Un.kept k1,?_,?_,U.hok.fresh (aq _),?_,λp T=>absurd (show p∈([]:List (ao×d9)) from T) (by simp),U.hok.kept k1,F.1⟩
 ·exact UT scope.names _ cl g λx c h=>bp (Q x c h)
 ·intro x W
  have W:scope.names.lookup x=aa .cell\/scope.names.lookup x=aa .free:=W
  refine Option.isSome_iff_exists.mp (e6 scope.names _ cl ?_)
  rcases W with h|h
  ·exact .inl h
  ·exact .inr (Option.isSome_iff_exists.mpr (a x (bK h)))
 ·intro x c W Y
  have W:scope.names.lookup x=aa .cell:=by simpa [cxF] using W
  have:=UU x (s.heap.objs.size+1) scope.names (s.heap.objs.size+1) cl (aq _) (.inl (bK W)) c Y
  exact aT (cz _) this
 ·refine⟨_,D,λi x v Z O B=>?_⟩
  obtain⟨l,J,c,o,u,m,G,C,r⟩:=F.2 i x v Z O
  refine⟨u,r,.inr ⟨.inr l,c,?_,o,k1 c o G,C⟩⟩
  show (b0 (s.heap.objs.size+1) scope.names cl).lookup x=aa c
  rw[UV _ _ _ J]
  exact m
 ·intro x c e
  have e:(b0 (s.heap.objs.size+1) scope.names cl).lookup x=aa c:=e
  rw[<- L] at e
  exact UX scope.names _ cl (λy d j=>by
   obtain⟨_,v,q⟩:=I y d j
   exact⟨v,q.keeps λb o z=>ae _ z⟩) x c e
 ·intro x c e
  rcases cells x c e with q|q
  ·exact U.hok.fresh (aT (cz _) q)
  ·exact (I x c q).1
def setAll:Nat->List V->St->St
 | _,[],σ=>σ
 | j,v::vs,σ=>setAll (j+1) vs (σ.set j (aa v))
theorem Na{X:Cx}{M:Model}{A:cG}{E:ag->ar->Prop}(hN:X.N.Nodup):∀ (ps:List aQ) (us:List ag) (vs:List V) (j:Nat) (σ:St) (H:Hp) (s:ar) (Q:PUnit->ar->Prop),Zi vs us->ps.length=us.length ->
  (∀ i x,ps[i]?=aa x->X.N[j+i]?=aa x/\Loc X.env.scope x/\(X.fn x=ak\/X.env.scope.names.lookup x=aa .local))->Inv X [] σ H s->(∀ s',Inv X [] (setAll j vs σ) H s'->Q ⟨⟩ s') ->
  aw M A (nt (ps.zip us) iY λ(x:aQ×ag) _=>do lY X.env x.1 x.2;ej (eQ iY)) Q E s
 | [],us,vs,j,σ,H,s,Q,r,hl,hp,I,h=>by
  cases us with
  | nil =>
   cases r
   rw[List.zip_nil_left,jj]
   exact af (h s I)
  | cons _ _=>simp at hl
 | x::ps,us,vs,j,σ,H,s,Q,r,hl,hp,I,h=>by
  cases r with
  | nil=>simp at hl
  | cons r rs =>
   rw[f9,iG]
   obtain⟨Z,O,B⟩:=hp 0 x rfl
   refine ac (ac (Vw I hN Z O r (λs' m _=>af ?_) B))
   exact Na hN ps _ _ (j+1) _ H s' Q rs (by simpa using hl) (λi y a=>by
    have:=hp (i+1) y (by simpa using a)
    rwa [show j+(i+1)=j+1+i by omega] at this) m h
def ZV(cl:List (aQ×ao))(b:ao):Prop:=∃ x,cl.lookup x=aa b
theorem GG{k:Nat}{ctv:ag}(S:FnScopeF N ps scope)
  (B:G f=aa (.frz (e5 name qual params body scope cl doc pm c ctv) (.own f))) (Y:G c=aa (.frz co (.own Pt))) (Z:WV co qual)
  (hfr:∀ x,(x,dk)∈scope.names->∃ c,cl.lookup x=aa c) (hinj:∀ x y c,cl.lookup x=aa c->cl.lookup y=aa c->x=y)
  (L:∀ x d,cl.lookup x=aa d->∃ o v,G d=aa (.frz o (.own d))/\o.data=.cell v)
  (hbind:∀ (s:ar) (us:List ag),us.length=ps.length->g5 s (nz name qual params body scope cl .none .none doc pm none (.ref c) ctv) ⟨us,[]⟩ (ps.zip us))
  (len:∀ vs H Q E,sp vs H Q E->vs.length=ps.length)
  (hσ:∀ h:bO,(∀ x d o,cl.lookup x=aa d->G d=aa (.frz o (.own d))->h.get? d=aa o)->O9 N scope cl h σ)
  (g:∀ (A:cG) (outer:List iS) (s:ar) (H:Hp) (vs:List V) (Q:VK) (E:XK),Room k (A.deeper (XQ qual scope cl s.heap.objs.size f (.ref c)))->Zf G H->sp vs H Q E ->
   ∃ t,PSs (cxF CX P w K mg base N qual scope cl f (.ref c) A outer s (unl (ZV cl) H) E).nox body t/\t { nx:=λ_ H'=>(∀ b,ZV cl b->H' b=none)->Q .non (rel (ZV cl) H H'),rt:=λv H'=>(∀ b,ZV cl b->H' b=none)->Q v (rel (ZV cl) H H') } (setAll 0 vs σ) (unl (ZV cl) H)) :
  CloOk P w K mg base CX (k+1) sp (.ref f) G:=by
 refine⟨⟨f,_,_,rfl,B,rfl⟩,λf' ef A outer s H us vs Q E hr U m r hsp=>?_⟩
 cases ef
 have D:=len _ _ _ _ hsp
 have hlu:us.length=ps.length:=by rw[<- r.length];exact D
 have hfo:=(U.hok f _ (m _ _ B)).1
 have hcob:=(U.hok c _ (m _ _ Y)).1
 obtain⟨ws,t,O,d2⟩:=Z
 have R:∀ b,ZV cl b->∃ o,H b=aa (.frz o (.own b)):=λb ⟨x,e⟩=>by
  obtain⟨o,v,z,_⟩:=L x b e
  exact⟨o,m _ _ z⟩
 have F:∀ b,ZV cl b->b∉frs outer/\b∉([]:List ao):=λb M=>by
  refine⟨λz=>?_,by simp⟩
  obtain⟨o,e⟩:=R b M
  rw[U.frf b z] at e;cases e
 have e1:Env0 P w K mg base A outer s (unl (ZV cl) H):=by
  refine⟨U.frames,U.mod,λb o q=>⟨(U.bs b o q).1,?_⟩,U.bsz,U.funs,λb M=>?_,Gw R U.hok,U.bare⟩
  ·by_cases M:ZV cl b
   ·exact WI M
   ·rw[Ya M];exact (U.bs b o q).2
  ·rw[Ya λz=>(F b z).1 M];exact U.frf b M
 have lim:s.heap.NoLimit:=U.mod.nolimit.keeps λb o e=>(U.bs b o e).1
 refine mR hr.depth hfo rfl S.co S.gen rfl ⟨c,co,ws,t,rfl,hcob,O,d2⟩ (hbind s us hlu _ _ _ _ ?_)
 refine GE (f:=f) (cd:=.ref c) ?_
 obtain⟨t,l,hq⟩:=g A outer s H vs Q E (hr.deeper _) m hsp
 have I0:Inv (cxF CX P w K mg base N qual scope cl f (.ref c) A outer s (unl (ZV cl) H) E) [] σ (unl (ZV cl) H) { s with heap:=dF (s.heap.push { cls:=.type "frame",data:=.dict #[] }) scope.names } :=
  GF S hr.hd e1 hfr hinj (λx d e=>⟨WI ⟨x,e⟩,by
   obtain⟨o,v,z,y⟩:=L x d e
   exact⟨v,o,(U.hok d _ (m _ _ z)).1,y⟩⟩) (hσ s.heap λx d o e z=>(U.hok d _ (m _ _ z)).1)
 refine Na (X:=cxF CX P w K mg base N qual scope cl f (.ref c) A outer s (unl (ZV cl) H) E) S.nd ps us vs 0 σ _ _ _ r hlu.symm (λi x W=>?_) I0 λC I=>?_
 ·have a:=ik W
  refine⟨?_,S.par x a,?_⟩
  ·rw[hV]
   have hi:i<ps.length:=(List.getElem?_eq_some_iff.mp W).1
   rw[<- S.pre,ku hi] at W
   exact W
  ·rcases S.par x a with z|z
   ·exact .inr z
   ·refine .inl ?_
    show (scope.names.lookup x == aa dR)=ak
    rw[z];rfl
 ·refine⟨I.nolimit,codeAny_func ?_⟩
  refine bx (l [] C _ _ _ (I.wish _) hq) (λp s' hs=>?_) λe s' hs=>?_
  ·replace hs:=SP.unwish hs
   have fin:∀ {j:St} {H':Hp} {v:V} {u:ag},Inv (cxF CX P w K mg base N qual scope cl f (.ref c) A outer s (unl (ZV cl) H) E) [] j H' s'->Zm v u->((∀ b,ZV cl b->H' b=none)->Q v (rel (ZV cl) H H'))->CE outer P w H s Q u s' :=
    λ{j H' v u} J T q=>⟨v,rel (ZV cl) H H',J.os,J.bare,Gx R U.hok J.base F,Gy R U.hok J.base F J.hok,T,q λb M=>O5 R U.hok J.base F M⟩
   cases p with
   | ret u =>
    obtain⟨v,j,H',J,T,q⟩:=hs
    exact fin J T q
   | next =>
    obtain⟨j,H',J,q⟩:=hs
    exact fin (v:=V.non) (u:=bI) J rfl q
   | brk =>
    obtain⟨_,_,_,q⟩:=hs
    exact cm q
   | cont =>
    obtain⟨_,_,_,q⟩:=hs
    exact cm q
  ·exact cm hs
end
def WJ(X:Cx)(name qual:aQ)(params:mh)(body:List gK)(scope:e_)(P:ao)(v:V)(G:Hp):Prop :=
 ∃ (f c:ao) (co:d9) (doc pm ctv:ag) (cl:List (aQ×ao)),v=.ref f/\Clos X scope cl/\WV co qual/\G c=aa (.frz co (.own P))/\G f=aa (.frz (e5 name qual params body scope cl doc pm c ctv) (.own f))
theorem WJ.same{X:Cx}{P:ao}(m:Zf G G')(h:WJ X name qual params body scope P v G):WJ X name qual params body scope P v G':=by
 obtain⟨f,c,co,r,pm,g,cl,e,Z,O,B,F⟩:=h
 exact⟨f,c,co,r,pm,g,cl,e,Z,O,m _ _ B,m _ _ F⟩
variable {Y:Cx}
section
variable{E:FK}{Q:TV->Prop}{bk:Sl->Prop}
theorem TJ{P:ao}(N:(P,q)∈Tabs.ts)(L:q pos.line pos.col=qual)(hi:i<ρ.length)
  (h:nx (ρ.set i (aa (.obj (WJ Y name qual params body scope P))))):Sv K E X (tDef Y name qual params body scope P pos i) ρ ⟨nx,rt,bk,ct⟩:=λI U ts as H D st s x f=>by
 refine⟨q,s.same _ _ (x.t _ N),L,λcl J H' C m=>f.nx _ h _ _ ?_⟩
 have M:=s.ext m.same
 have l:WJ Y name qual params body scope P (.ref J) H':=by
  obtain⟨c,co,r,pm,g,Z,O,B,F,rfl⟩:=m
  exact⟨J,c,co,r,pm,g,cl,rfl,C,Z,by rw[Zg B,Zw],Zw⟩
 refine SR.store (v:=.ref J) (a:=.obj (WJ Y name qual params body scope P)) ?_ hi
 obtain⟨⟨p,q,Z,O,B,F⟩,e⟩:=M
 refine⟨⟨p,q,Z,.cons (.av (.obj (p:=λ_=>0) ?_ (λG u l W=>W.same l) λ_=>rfl)) O (λb=>by simp),B,F⟩,e⟩
 obtain⟨A,c,co,r,pm,g,w,S,k1,k2,k3,T⟩:=l
 have nm:∀ {b:ao} {j:d9} {y:HO},H' b=aa (.frz j y)->L2.hid H' p q b=aa (.frz j y):=λ{b j y} z=>Rp (SR.lsts Z O) z λz=>(show False from z)
 exact⟨A,c,co,r,pm,g,w,S,k1,k2,nm k3,nm T⟩
theorem Nb{k:Nat}{A:TA}(hi:ρ[i]?=aa (aa (.obj (CloOk P w K mg base CX k (spR K Pre Post NP)))))
  (h:Ea K E X A ρ (ClR Pre Post NP [] Q λ_=>True)):Ev K E X (RF P w K mg base CX k i E' A) ρ Q:=λI U ts as H QV s x j=>by
 obtain⟨v,S,N,_⟩:=s.atO hi
 refine⟨v,_,S,N,h I U ts as H _ s x λbs ⟨cs,sh,pre,q,_⟩ vs H' s' hl=>?_⟩
 obtain⟨C,y,B,_⟩:=s'.atO hi
 rw[S] at y
 cases y
 obtain⟨W,T⟩:=SR.lent sh hl s'
 exact⟨B,x.t.same T.same,cs,by simpa using W,by simpa using pre,λc Y v b r=>let ⟨a,g,z⟩:=q c (by simpa using Y);j a z v b (T.gotG r g),λe z=>z.elim⟩
end
def TK:Nat->List AV->Sl->Sl
 | _,[],ρ=>ρ
 | j,c::cs,ρ=>TK (j+1) cs (ρ.set j (aa c))
theorem RSl.set0:∀ {σ:L2.St} {ρ:Sl} {p:Fp} {j:Nat} {v:V} {a:AV},RSl K G H σ ρ p->(∀ b,p b=0)->RA K G H v a Z0->j<ρ.length->RSl K G H (σ.set j (aa v)) (ρ.set j (aa a)) Z0
 | _,_,_,_,_,_,.nil _,_,_,hj=>by simp at hj
 | _,_,_,0,_,_,.no rs,z,ra,_=>.so ra rs λb=>by simp[Z0,z b]
 | _,_,_,j+1,_,_,.no rs,z,ra,hj=>.no (RSl.set0 rs z ra (by simpa using hj))
 | _,_,_,0,_,_,.so (q:=q) r rs e,z,ra,_=>.so ra rs λb=>by have:=e b;have:=z b;simp only[Z0];omega
 | _,_,_,j+1,_,_,.so (p:=p) (q:=q) r rs e,z,ra,hj=>.so r (RSl.set0 rs (λb=>by have:=e b;have:=z b;omega) ra (by simpa using hj)) λb=>by have:=e b;have:=z b;simp only[Z0];omega
theorem RSl.setAll:∀ {vs:List V} {cs:List AV} {j:Nat} {σ:L2.St} {ρ:Sl},RAs K G H vs cs Z0->j+vs.length<=ρ.length->RSl K G H σ ρ Z0->RSl K G H (L2.setAll j vs σ) (TK j cs ρ) Z0:=by
 intro vs
 induction vs with
 | nil =>
  intro cs j σ ρ r _ s
  cases r
  exact s
 | cons v vs E =>
  intro cs j σ ρ r D s
  cases r with
  | @cons _ c _ a J l _ r rs e =>
   have i:J=Z0:=by funext b;have:=e b;simp only[Z0] at this ⊢;omega
   have M:l=Z0:=by funext b;have:=e b;simp only[Z0] at this ⊢;omega
   subst i M
   simp only[cC] at D
   exact E rs (by rw[jJ];omega) (RSl.set0 s (λ_=>rfl) r (by omega))
theorem SR.startF{σ:L2.St}(r:RAs K H H vs cs Z0)(D:vs.length<=ρ.length)(s:RSl K H H σ ρ Z0):SR K H (L2.setAll 0 vs σ) (TK 0 cs ρ) [] [] H:=by
 have X:L2.hid H (λ_=>0) (λ_=>0)=H:=by funext b;simp[L2.hid]
 refine⟨⟨Z0,λ_=>0,?_,.nil λ_=>rfl,λ_=>by simp[Z0],λb z=>by simp[Z0] at z⟩,.refl H⟩
 show RSl K (L2.hid H (λ_=>0) (λ_=>0)) H _ _ _
 rw[X]
 exact RSl.setAll r (by omega) s
mutual
def AV.plain:AV->Bool
 | .d _=>ak
 | .own xs=>AV.plains xs
 | .tup xs=>AV.plains xs
 | .dic _=>ak
 | .obj _=>aF
def AV.plains:List AV->Bool
 | []=>ak
 | x::xs=>x.plain && AV.plains xs
end
theorem Yl.low{o:HO}{kvs:List (aj×aj)}(h:Yl K G o kvs)(m:Low G G'):Yl K G' o kvs:=by
 rcases h with⟨ks,ds,e,r,z⟩|⟨ks,ds,e,r,z⟩|⟨ks,ds,n,e,r,z⟩
 ·exact .inl ⟨ks,ds,e,Reps.low m r,z⟩
 ·exact .inr (.inl ⟨ks,ds,e,Reps.low m r,z⟩)
 ·exact .inr (.inr ⟨ks,ds,n,e,Reps.low m r,z⟩)
theorem RA.lowB(O:Low G G'):(∀ {v:V} {a:AV} {p:Fp},RA K G H v a p->a.plain=ak->(∀ b o,0<p b->H b=aa o->H' b=aa o)->RA K G' H' v a p)/\∀ {vs:List V} {xs:List AV} {p:Fp},RAs K G H vs xs p->AV.plains xs=ak->(∀ b o,0<p b->H b=aa o->H' b=aa o)->RAs K G' H' vs xs p :=
 RA.ind (M:=λv a p=>a.plain=ak->(∀ b o,0<p b->H b=aa o->H' b=aa o)->RA K G' H' v a p) (N:=λvs xs p=>AV.plains xs=ak->(∀ b o,0<p b->H b=aa o->H' b=aa o)->RAs K G' H' vs xs p) (λr e _ _=>.d (Rep.low O r) e) (λ{a _ _ _ _} h i e T c=>.own (c a _ (by have:=e a;simp at this;omega) h) (i (by simpa [AV.plain] using T) λb o z=>c b o (by have:=e b;omega)) e)
  (λh i T c=>.tup (O _ _ h (by intro _ _ z;cases z)) (i (by simpa [AV.plain] using T) c)) (λ{a _ _ _} h d e _ c=>.dic (c a _ (by have:=e a;simp at this;omega) h) (d.low O) e) (λ_ _ _ T=>by simp[AV.plain] at T) (λe _ _=>.nil e) λi j e T c=>by
   simp only[AV.plains,aP] at T
   exact .cons (i T.1 λb o z=>c b o (by have:=e b;omega)) (j T.2 λb o z=>c b o (by have:=e b;omega)) e
theorem RA.low(O:Low G G'){a:AV}(T:a.plain=ak)(c:∀ b o,0<p b->H b=aa o->H' b=aa o)(h:RA K G H v a p):RA K G' H' v a p:=(RA.lowB O).1 h T c
theorem RAs.low(O:Low G G')(T:AV.plains xs=ak)(c:∀ b o,0<p b->H b=aa o->H' b=aa o)(h:RAs K G H vs xs p):RAs K G' H' vs xs p:=(RA.lowB O).2 h T c
theorem RA.there{a:AV}(h:RA K G H v a p):∀ b,0<p b->∃ o,H b=aa o/\Mu o:=RA.lstB.1 h
theorem Rs.rel{C:ao->Prop}{v:V}{c:AV}(R:∀ b,C b->∃ o,H b=aa (.frz o (.own b)))(I:∀ b,C b->H' b=none)(r:Rs K (unl C H) H' v c):Rs K H (rel C H H') v c:=by
 obtain⟨P,p,Z,O,l⟩:=r
 have S:∀ b o,H' b=aa o->L2.rel C H H' b=aa o:=λb o e=>by
  rw[X9 λz=>by rw[I b z] at e;cases e];exact e
 refine⟨λb o e=>?_,p,Z,λb z=>?_,l.mono (λb o e=>?_) λb o _ e=>S b o e⟩
 ·by_cases Y:C b
  ·rw[TD Y];exact e
  ·rw[X9 Y];exact P b o (by rw[Ya Y];exact e)
 ·obtain⟨o,e,_⟩:=l.there b z
  have Y:¬ C b:=λy=>by rw[I b y] at e;cases e
  have:=O b z
  rw[Ya Y] at this
  exact this
 ·unfold L2.hid at e ⊢
  split at e
  ·rename_i y;rw[if_pos y];exact S b o e
  ·cases e
theorem Rs.unl{C:ao->Prop}{H1:Hp}{v:V}{c:AV}(T:c.plain=ak)(R:∀ b,C b->H1 b=none/\∃ o v,H b=aa (.frz o (.own b))/\o.data=.cell v)(m:Zf H1 H)(r:Rs K H H' v c):Rs K H1 (unl C H') v c:=by
 obtain⟨P,p,Z,O,l⟩:=r
 have L:∀ b,C b->∃ o,H' b=aa (.frz o (.own b)):=λb z=>by
  obtain⟨_,o,_,e,_⟩:=R b z
  exact⟨o,P _ _ e⟩
 have Y:Low H' (L2.unl C H'):=λb o e n=>TF L e λj z=>n j b z
 refine⟨λb o e=>?_,p,Z,λb z=>?_,RA.low (λb o e n=>?_) T (λb o z e=>?_) l⟩
 ·have a:¬ C b:=λz=>by rw[(R b z).1] at e;cases e
  rw[Ya a]
  exact P b o (m b o e)
 ·have:=O b z
  cases e:H1 b with
  | none=>rfl
  | some o=>rw[m b o e] at this;cases this
 ·unfold L2.hid at e ⊢
  split at e
  ·rename_i y;rw[if_pos y];exact Y b o e n
  ·cases e
 ·obtain⟨i,A,mu⟩:=l.there b z
  rw[e] at A
  cases A
  refine Y b o e λj c z=>?_
  subst z
  exact (show False from mu)
section
variable{k:Nat}{cap:List (Option Nat)}{σ:L2.St}
theorem TL(S:FnScopeF N ps scope)(U:Yu Y.N Y.env.scope scope N cap=ak)(hnf:∀ y∈Y.env.scope.names,y.2≠.free)(hfn:∀ x,Y.fn x=ak)
  (hbind:∀ (cl:List (aQ×ao)) (doc pm ctv:ag) (c:ao) (s:ar) (us:List ag),us.length=ps.length->g5 s (nz name qual params body scope cl .none .none doc pm none (.ref c) ctv) ⟨us,[]⟩ (ps.zip us))
  (K:∀ cs,Pre cs->cs.length=ps.length) (hdat:∀ cs,Pre cs->AV.plains cs=ak)
  (hm:WJ Y name qual params body scope Pt v H1) (L:Lent Y σ H1 H2) (s:SR Y.K H0 σ ρ ts as H1)
  (g:∀ (cl:List (aQ×ao)) (f c:ao) (A:cG) (outer:List iS) (s:ar) (H:Hp) (E:XK),Room k (A.deeper (XQ qual scope cl s.heap.objs.size f (.ref c))) ->
   ∃ t,PSs (cxF CX Y.prog Y.w Y.K Y.mg Y.base N qual scope cl f (.ref c) A outer s H E).nox body t/\∀ cs,Pre cs->Sv Y.K (toF E) NE t (TK 0 cs (ZG cap ρ)) (WG (Post cs))) :
  CloOk Y.prog Y.w Y.K Y.mg Y.base CX (k+1) (spR Y.K Pre Post NP) v H2:=by
 obtain⟨f,c,co,doc,pm,ctv,cl,rfl,C,Z,hc,B⟩:=hm
 have own:∀ x d,cl.lookup x=aa d->Own Y d:=λx d e=>⟨x,hfn x,C.le x d e⟩
 refine GG (σ:=Yg cap σ) (G:=H2) S (L.same _ _ B) (L.same _ _ hc) Z C.has C.inj (λx d e=>(L.own d (own x d e)).2) (λs us D=>hbind cl doc pm ctv c s us D) (λvs H Q E h=>Vh h K) (λh hh=>?_) λA outer M H vs Q E J m hsp=>?_
 ·refine⟨by unfold Yg;rw[ah,VP U],λi x w h1 O=>?_⟩
  unfold Yg at O
  rw[aW] at O
  cases e:cap[i]? with
  | none=>rw[e] at O;cases O
  | some o =>
   rw[e] at O
   cases o with
   | none=>cases O
   | some j =>
    have O:(σ[j]?).join=aa w:=aS O
    obtain⟨l,q2,q3,q4⟩:=UZ U h1 e
    have q5:σ[j]?=aa (aa w):=by
     cases es:σ[j]? with
     | none=>rw[es] at O;cases O
     | some F=>rw[es] at O;cases F with
      | none=>cases O
      | some w''=>have:aa w''=aa w:=O;rw[this]
    have q2':Y.env.scope.names.lookup x=aa .cell:=by
     rcases q2 with z|z
     ·exact z
     ·exact absurd rfl (hnf _ (bK z))
    obtain⟨d,hd⟩:=C.has x (bK q3)
    obtain⟨o,u,r1,r2,r3⟩:=L.cell j x d w l (hfn x) q2' (C.le x d hd) q5
    exact⟨q3,q4,d,o,u,hd,hh x d o hd r1,r2,r3⟩
 ·obtain⟨t,h1,O⟩:=g cl f c A outer M (unl (ZV cl) H) E J
  refine⟨t,h1,?_⟩
  obtain⟨T,cs,W,pre,q,_⟩:=hsp
  have R:∀ b,ZV cl b->∃ o,H b=aa (.frz o (.own b)):=λb ⟨x,e⟩=>by
   obtain⟨_,o,_,z,_⟩:=L.own b (own x b e)
   exact⟨o,m _ _ z⟩
  have lo:Low H (unl (ZV cl) H):=λb o e n=>TF R e λob z=>n ob b z
  have P:Zf H1 (unl (ZV cl) H):=λb o e=>by
   have hb:¬ ZV cl b:=λ⟨x,z⟩=>by rw[(L.own b (own x b z)).1] at e;cases e
   rw[Ya hb]
   exact m _ _ (L.same _ _ e)
  have r1:RAs Y.K (unl (ZV cl) H) (unl (ZV cl) H) vs cs Z0:=RAs.low lo (hdat cs pre) (λb o z=>by simp[Z0] at z) W
  have r2:RSl Y.K (unl (ZV cl) H) (unl (ZV cl) H) (Yg cap σ) (ZG cap ρ) Z0:=RSl.cap s P cap
  have D:vs.length<=(ZG cap ρ).length:=by
   unfold ZG
   rw[ah,VP U,W.len,K cs pre]
   have:=congrArg e7 S.pre
   rw[hF] at this
   omega
  have tb':XL (unl (ZV cl) H):=λp hp=>lo _ _ (T p hp) λ_ _ z=>by cases z
  refine O cs pre _ _ [] [] _ _ Stb.nil (SR.startF r1 D r2) (XOk.ne tb') ⟨λρ z σ' H' s'' I=>?_,λ_ z=>z.elim,λ_ z=>z.elim,λa ⟨c,r,z⟩ v σ' ρ' H' s'' I=>?_⟩
  ·exact q _ z _ _ (Rs.rel R I (SR.rs (v:=.non) (s''.push λ_=>.non)))
  ·refine q _ z _ _ (Rs.rel R I ?_)
   rcases r with rfl|⟨nr,rfl⟩
   ·exact s''.rs
   ·refine⟨s''.same,λ_=>0,λ_=>by simp,λb z=>by simp at z,.d ?_ λ_=>rfl⟩
    have X:L2.hid H' (λ_=>0) (λ_=>0)=H':=by funext b;simp[L2.hid]
    rw[X]
    exact s''.top nr
end
inductive ShL(K:aJ)(Y:Cx)(ρ:Sl):TV->AV->Prop
 | d {b:TV} {x:aj}:NR b->b.data=x->ShL K Y ρ b (.d x)
 | o {φ ψ:V->Hp->Prop}:(∀ v G1 G2,Zf G1 G2->ψ v G1->ψ v G2)->(∀ (H0:Hp) (σ:L2.St) (ts:List V) (as:List TV) (H1 H2:Hp) (v:V),'!' ts as H1->Lent Y σ H1 H2->φ v H1->ψ v H2)->ShL K Y ρ (.av (.obj φ)) (.obj ψ)
inductive ShLs(K:aJ)(Y:Cx)(ρ:Sl):List TV->List AV->Prop
 | nil:ShLs K Y ρ [] []
 | cons {b:TV} {c:AV} {bs:List TV} {cs:List AV}:ShL K Y ρ b c->ShLs K Y ρ bs cs->ShLs K Y ρ (b::bs) (c::cs)
section
variable{σ:L2.St}
theorem SR.lentL(L:Lent Y σ H1 H2):∀ {vs:List V} {bs:List TV} {cs:List AV},ShLs K Y ρ bs cs->vs.length=bs.length->'!' (vs++ts) (bs++as) H1->RAs K H2 H2 vs cs Z0/\'!' ts as H1
 | [],_,_,.nil,_,s=>⟨.nil λ_=>rfl,s⟩
 | [],_,_,.cons _ _,e,_=>by simp at e
 | v::vs,_,_,.nil,e,_=>by simp at e
 | v::vs,b::bs,c::cs,.cons h t,e,s=>by
  have M:'!' (v::(vs++ts)) (b::(bs++as)) H1:=s
  obtain⟨r,T⟩:=SR.lentL L t (by simpa using e) M.pop
  refine⟨.cons (p:=Z0) (q:=Z0) ?_ r λ_=>rfl,T⟩
  cases h with
  | d f x=>exact .d (x▸(M.top f).same L.same) λ_=>rfl
  | o mono S =>
   refine .obj (S H0 σ ts as H1 H2 v T L ?_) (mono v) λ_=>rfl
   obtain⟨⟨p,q,Z,O,B,F⟩,P⟩:=M
   cases O with
   | cons r rs e=>cases r with
    | av r=>cases r with
     | obj h m z=>exact m _ _ Yh h
end
section
variable{k:Nat}
def Ub(K:aJ):Sp:=λvs H Q _=>XL H/\∃ (a:ao) (ns:List Int),vs=[.ref a]/\SqL K H a (ns.map V.int)/\ns.length<=63/\(∀ x∈ns,eF x<=2 ^ 20)/\∀ H',Zf H H'->Q (.bl ak) H'
theorem GH(F:FunD K x qual st dV f fd)(i:FnScope N ps (Ze st))(e:ps.length=1)
  (g:∀ (cdv:ag) (A:cG) (outer:List iS) (s:ar) (H:Hp) (E:XK),Room k (A.deeper (dZ qual (Ze st) s.heap.objs.size f cdv)) ->
   ∃ t,PSs (Z6 CX P w K mg base N qual (Ze st) f cdv A outer s H E).nox (ZC st) t/\∀ ns:List Int,ns.length<=63->(∀ x∈ns,eF x<=2 ^ 20)->Sv K (toF E) NE t (ini N [dI ns]) (fin (.d (.bool ak)))) :
  FnOk P w K mg base CX (k+1) f fd ps (Ub K):=by
 refine F.ok (k:=k) i (λvs H Q E h=>?_) λcdv A outer s H vs Q E J h=>?_
 ·obtain⟨_,a,ns,rfl,_⟩:=h
  exact e.symm
 ·obtain⟨T,a,ns,rfl,C,D,M,q⟩:=h
  obtain⟨t,Z,O⟩:=g cdv A outer s H E J
  refine⟨t,Z,Ou (E:=E) (S:=λds c=>∃ ns:List Int,ds=[dI ns]/\(ns.length<=63/\∀ x∈ns,eF x<=2 ^ 20)/\c=.d (.bool ak)) ⟨T,[dI ns],.cons (.ints C) .nil,.inl ⟨_,⟨ns,rfl,⟨D,M⟩,rfl⟩,λv H' r=>?_⟩⟩ λds c Y=>?_⟩
  ·obtain⟨b,p,_,_,l⟩:=r
   cases l with
   | d W _=>rw[Rep.bl_inv W];exact q _ b
  ·obtain⟨ns,rfl,⟨D,M⟩,rfl⟩:=Y
   exact O ns D M
end
variable{vs:List ag}{p:List α->Prop}{ts:List (ao×(Nat->Nat->aQ))}
section
open PySem.Calls PySem.W
def H00(ts:List (ao×(Nat->Nat->aQ)))(sc:Option (ao×HO)):Hp:=λb=>match ts.lookup b with
 | some q=>aa (.tbq q)
 | none=>match sc with
  | some (a,o)=>if b=a then aa o else none
  | none=>none
theorem GI(nd:(ts.map gq).Nodup){p:ao×(Nat->Nat->aQ)}(h:p∈ts):ts.lookup p.1=aa p.2:=by
 induction ts with
 | nil=>cases h
 | cons q r E =>
  rw[bw,nU] at nd
  rw[show (q::r)=((q.1,q.2)::r) from rfl,cB]
  rcases gh.mp h with e|h
  ·subst e
   rw[beq_self_eq_true]
  ·have F:p.1≠q.1:=λz=>nd.1 (z▸List.mem_map_of_mem h)
   rw[beq_false_of_ne F]
   exact E nd.2 h
theorem Vj(h:ts.lookup b=aa q):(b,q)∈ts:=by
 induction ts with
 | nil=>cases h
 | cons p r E =>
  rw[show (p::r)=((p.1,p.2)::r) from rfl,cB] at h
  cases e:b == p.1 with
  | true =>
   rw[e] at h
   cases h
   rw[beq_iff_eq.mp e]
   exact .head _
  | false=>rw[e] at h;exact .tail _ (E h)
theorem GJ{mb:aQ->Option ag}{k:Nat}{E a:ao}{s₁:ar}
  (nd:(ts.map gq).Nodup) (g:K.In s₁.heap) (hns:s₁.heap.Ns au mg) (hb:s₁.heap.Ns ir mb) (I:∀ x:aQ,x ≠ "__name__" -> mb x=fz x) (hlim:s₁.heap.NoLimit) (A:s₁.gens=#[])
  (ha:s₁.heap.get? a=aa { cls:=.type "list",data:=.seq vs.toArray }) (hi:j0 vs ns) (D:ns.length<=sizeLine) (J:Room k jT)
  (B:∀ p∈ts,s₁.heap.get? p.1=aa (iw #[])/\K.lookup p.1=none/\isCodeTable s₁.heap p.1) (Q:s₁.heap.BuiltinsAt mg au)
  (F:∀ base:bO,K.In base->base.Ns au mg->base.BuiltinsAt mg au->FnOk P w K mg base CX k E fd [x] sp) (f:∀ (s:ar) (u:ag),g5 s fd ⟨[u],[]⟩ [(x,u)])
  (i:∀ H:Hp,(∀ p∈ts,H p.1=aa (.tbq p.2))->SqL K H a (ns.map V.int)->sp [.ref a] H (λv H'=>v=.bl ak/\Zf H H') λ_ _ _=>False)
  (hCX:∀ H e s',CX [] H s₁ (λ_ _ _=>False) e s'->False) :
  fZ (aH P w) jT (.call (.ref E) ⟨[.ref a],[]⟩) (λr s'=>r=.ok (.ret (.bool ak))/\OldK s₁.heap s'.heap/\s'.os=s₁.os/\g_ s'.gens) s₁:=by
 have rv:=Pu hi
 have lenV:=hi.length
 have core:∀ H:Hp,(∀ p∈ts,H p.1=aa (.tbq p.2))->SqL K H a (ns.map V.int)->HOk P w H s₁.heap->(∀ b o,H b=aa o->(∃ p∈ts,b=p.1)\/(b=a/\∃ j u,o=.frz j u))->(∀ b o,H b=aa o->K.lookup b=none) ->
   fZ (aH P w) jT (.call (.ref E) ⟨[.ref a],[]⟩) (λr s'=>r=.ok (.ret (.bool ak))/\OldK s₁.heap s'.heap/\s'.os=s₁.os/\g_ s'.gens) s₁:=by
  intro H X hS c hA hK
  have M:∀ {b:ao} {o:d9},s₁.heap.get? b=aa o->(∀ vs n,o.data≠.seq vs n)->(∀ vs,o.data≠.fields vs)->H b=none:=λ{b o} e n1 n2=>by
   cases q:H b with
   | none=>rfl
   | some u =>
    rcases hA b u q with⟨p,T,rfl⟩|⟨rfl,_⟩
    ·rw[(B p T).1] at e
     cases e
     exact absurd rfl (n2 _)
    ·rw[ha] at e
     cases e
     exact absurd rfl (n1 _ _)
  have nsK:∀ {b:ao} {m:aQ->Option ag},s₁.heap.Ns b m->(XB s₁.heap H).Ns b m:=λ{b m} ⟨o,es,ep,e,d,r⟩ =>
   ⟨o,es,ep,Sn e (M e (λ_ _ z=>by rw[d] at z;cases z) λ_ z=>by rw[d] at z;cases z),d,r⟩
  have hKb:K.In (XB s₁.heap H):=λb o e=>Sn (g b o e) (by
   cases q:H b with
   | none=>rfl
   | some u=>rw[hK b u q] at e;cases e)
  have hM:Mod K mg (XB s₁.heap H):=⟨hKb,nsK hns,⟨mb,nsK hb,I⟩,let ⟨mc,Z,O⟩:=hlim;⟨mc,nsK Z,O⟩⟩
  have hB:(XB s₁.heap H).BuiltinsAt mg mainGlobals:=by
   obtain⟨bm,o,R,l,G,W,b5,b6,b7,b8⟩:=Q
   exact⟨bm,o,R,l,G,W,Sn b5 (M b5 (λ_ _ z=>by rw[b8] at z;cases z) λ_ z=>by rw[b8] at z;cases z),b6,b7,b8⟩
  have U:Env0 P w K mg (XB s₁.heap H) jT [] s₁ H:=⟨rfl,hM,λb o e=>LW e,Nat.le_of_eq (LV _ _),trivial,λb hb=>absurd (show b∈([]:List ao) from hb) (by simp),c,.of_eq A⟩
  refine eA ((F _ hKb (nsK hns) hB).run jT [] s₁ H ⟨[.ref a],[]⟩ [.ref a] [.ref a] _ _ J U (f s₁ (.ref a)) (.cons rfl .nil) (i H X hS)) λr s' h=>?_
  cases r with
  | error e=>exact (hCX H e s' h).elim
  | ok fl =>
   cases fl with
   | next=>exact cm h
   | brk=>exact cm h
   | cont=>exact cm h
   | ret u =>
    obtain⟨v,H',L,bare,un,hok',C,q',sm⟩:=h
    subst q'
    obtain rfl:u=gQ true:=C
    refine⟨rfl,⟨λb o e=>?_,λb o e=>un.there b o e (by simp)⟩,L,bare⟩
    cases q:H b with
    | none=>exact .inl (un.keep b o e q (by intro z;exact absurd (show b∈([]:List ao) from z) (by simp)) (by simp))
    | some u =>
     rcases hA b u q with⟨p,T,rfl⟩|⟨rfl,j,y,rfl⟩
     ·obtain⟨S,_,e3⟩:=B p T
      rw[S] at e
      cases e
      obtain⟨ps,e4,_⟩:=hok' p.1 _ (sm _ _ (X p T))
      exact .inr (.inl ⟨e3,rfl,#[],ps,rfl,by rw[lW];exact e4⟩)
     ·have S:=(c b _ q).1
      have N:=(hok' b _ (sm _ _ q)).1
      rw[e] at S
      cases S
      exact .inl N
 have naT:∀ p∈ts,p.1≠a:=λp T z=>by
  have:=(B p T).1
  rw[z,ha] at this
  cases this
 have lka:ts.lookup a=none:=by
  cases e:ts.lookup a with
  | none=>rfl
  | some q=>exact absurd rfl (naT _ (Vj e))
 have tbl:∀ {sc:Option (ao×HO)} {b:ao} {q:Nat->Nat->aQ},ts.lookup b=aa q->Zx P w (H00 ts sc) s₁.heap b (.tbq q):=λ{sc b q} e =>
  ⟨#[],(B _ (Vj e)).1,trivial,λpos cv z=>by simp[fV] at z⟩
 have X:∀ sc,∀ p∈ts,H00 ts sc p.1=aa (.tbq p.2):=λsc p T=>by unfold H00;rw[GI nd T]
 cases hk:K.lookup a with
 | some o =>
  have e:=g a o hk
  rw[ha] at e
  cases e
  refine core (H00 ts none) (X none) (.inr ⟨_,vs.toArray,_,hk,rfl,rfl,rfl,by rw[aR,lenV];exact D,by simpa using rv⟩) (λb u z=>?_) (λb u z=>?_) λb u z=>?_
  ·unfold H00 at z
   cases e:ts.lookup b with
   | none=>rw[e] at z;cases z
   | some q=>rw[e] at z;cases z;exact tbl e
  ·unfold H00 at z
   cases e:ts.lookup b with
   | none=>rw[e] at z;cases z
   | some q=>exact .inl ⟨_,Vj e,rfl⟩
  ·unfold H00 at z
   cases e:ts.lookup b with
   | none=>rw[e] at z;cases z
   | some q=>exact (B _ (Vj e)).2.1
 | none =>
  have hsa:H00 ts (aa (a,.frz { cls:=.type "list",data:=.seq vs.toArray } (.lst (ns.map V.int)))) a=aa (.frz { cls:=.type "list",data:=.seq vs.toArray } (.lst (ns.map V.int))):=by
   unfold H00;rw[lka];exact if_pos rfl
  refine core (H00 ts (aa (a,.frz { cls:=.type "list",data:=.seq vs.toArray } (.lst (ns.map V.int))))) (X _) (.inl (.inr ⟨_,hsa⟩)) (λb u z=>?_) (λb u z=>?_) λb u z=>?_
  ·by_cases hb:b=a
   ·subst hb
    rw[hsa] at z
    cases z
    exact⟨ha,by rw[ah];exact D,vs,_,rv,ha⟩
   ·unfold H00 at z
    cases e:ts.lookup b with
    | none=>rw[e] at z;have Y:=(if_neg hb).symm.trans z;cases Y
    | some q=>rw[e] at z;cases z;exact tbl e
  ·by_cases hb:b=a
   ·subst hb
    rw[hsa] at z
    cases z
    exact .inr ⟨rfl,_,_,rfl⟩
   ·unfold H00 at z
    cases e:ts.lookup b with
    | none=>rw[e] at z;have Y:=(if_neg hb).symm.trans z;cases Y
    | some q=>exact .inl ⟨_,Vj e,rfl⟩
  ·by_cases hb:b=a
   ·rw[hb];exact hk
   ·unfold H00 at z
    cases e:ts.lookup b with
    | none=>rw[e] at z;have Y:=(if_neg hb).symm.trans z;cases Y
    | some q=>exact (B _ (Vj e)).2.1
theorem GK{l:i_}{k:Nat}{q:bC}{d:DefRec}{K:Params->aJ}{CX:bV->CXT}{sp:bV->Sp}
  (nd:(ts.map gq).Nodup) (hn:l.most=aa n) (U:n<=sizeLine) (L:d.params.defaults=[]) (J:Room k jT)
  (hY:∀ (w:bV) (h:bO),YP w h->(K w.params).In h) (hYt:∀ (w:bV) (h:bO),YP w h->∀ p∈ts,h.get? p.1=aa (iw #[])) (hK:∀ (w:bV) (p:ao×(Nat->Nat->aQ)),p∈ts->(K w.params).lookup p.1=none/\∃ c,dD (K w.params) c p.1=ak)
  (F:∀ (w:bV) (mg:aQ->Option ag) (E:ao) (h:bO),(K w.params).In h->h.Ns au mg->mg d.name=aa (.ref E) ->
   ∃ fd:fC,(∀ (s:ar) (u:ag),g5 s fd ⟨[u],[]⟩ [(x,u)]) /\
    ∀ base:bO,(K w.params).In base->base.Ns au mg->base.BuiltinsAt mg au->FnOk l.prog w (K w.params) mg base (CX w) k E fd [x] (sp w))
  (i:∀ (w:bV) (H:Hp) (a:ao) (ns:List Int),ns.length<=n->(∀ x∈ns,eF x<=2 ^ 20)->(∀ p∈ts,H p.1=aa (.tbq p.2))->SqL (K w.params) H a (ns.map V.int)->sp w [.ref a] H (λv H'=>v=.bl ak/\Zf H H') λ_ _ _=>False)
  (hCX:∀ (w:bV) (H:Hp) (s:ar) (e:ag) (s':ar),CX w [] H s (λ_ _ _=>False) e s'->False) :
  lN q loose XP YP l.row.toRowW d [] (λf vs=>iP f vs):=by
 refine Gp hn L λw s₀ s₁ mg mb E o pm cd r a vs ns G Y ho hd b I y D hlen A N=>?_
 have g:=hY w _ Y
 obtain⟨fd,M,P⟩:=F w mg E _ g G.T.g I
 have Q:s₁.heap.BuiltinsAt mg mainGlobals:=by
  obtain⟨bm,j,R,b2,b3,b4,m,S⟩:=G.T.bmain
  have hne:bm≠mainGlobals:=λz=>by
   obtain⟨o,es,ep,e,d,_⟩:=G.T.g
   rw[z,e] at b3
   cases b3
   rw[d] at S
   cases S
  exact⟨bm,j,R,b2,hne,hne,b3,b4,m,S⟩
 refine GJ nd g G.T.g G.T.b G.T.builtins G.T.nolimit A y D (aT hlen U) J (λp T=>?_) Q P M (λH X C=>i w H a ns hlen N X C) λH e s'=>hCX w H s₁ e s'
 obtain⟨Z,c,O⟩:=hK w p T
 have B:=hYt w _ Y p T
 exact⟨B,Z,((nA g O).tab B).isCodeTable⟩
end
section
variable{X:Cx}{σ:St}{a:ao}{y:V}{u r:ag}
theorem RI(i:A.units+1<cJ)(I:'#')(g:YU H a y v H')(R:Zm y u)(T:Zm v r)(h:∀ s',Inv X pins σ H' s'->Q () s') :
  aw (aH X.prog X.w) A (dictSet a u r) Q E s:=by
 rcases g with⟨kvs,k,e,W,l,p⟩|⟨kvs,k,b,e,W,S,l,p⟩
 ·subst W p
  obtain⟨z,hd,vs,rel,dd⟩:=Px I.hok e
  have hz:vs.length<=sizeLine:=by rw[<- rel.length];exact z
  have D:(ZJ kvs k v).length<=sizeLine:=by have:=Wu kvs k v;omega
  refine wpAny_dictSet_pairs (hsz:=hz) (XF R) dd λh' j P=>h _ ?_
  have G:∃ q,h'.get? a=aa q:=let ⟨q,_,_,m,_⟩:=j;⟨q,m⟩
  exact YN I (by rw[e];exact bD) P G (SO D hd (rel.put k T) j)
 ·subst W p
  cases (show u=aG b from R)
  obtain⟨z,hd,xs,rel,dd⟩:=SN I.hok e
  have hz:xs.length<=sizeLine:=by rw[<- dw rel];exact z
  have D:(ZJ kvs k v).length<=sizeLine:=by have:=Wu kvs k v;omega
  refine nK (hsz:=hz) (show A.units<cJ by omega) (Xs I.hok S) dd λh' j P=>h _ ?_
  obtain⟨q,es,f,m,O,B,F,_,Y⟩:=j
  refine YN I (by rw[e];exact bD) P ⟨q,m⟩ ⟨D,hd,_,(rel.put k S T).keeps λc ys C=>?_,q,es,f,m,O,B,F,Y⟩
  rw[Zg (Xm C e (λz=>nomatch z))]
  exact C
theorem Nc{kvs:List ((Key×List Key)×V)}{k:Key×List Key}(i:A.units+2<cJ)(I:'#')(e:H a=aa (.dN kvs))(S:Xt H b k)(l:kvs.length<sizeLine)(R:Zm (.ref b) u)(T:Zm v r)(h:∀ s',Inv X pins σ (upd H a (.dN (ZJ kvs k v))) s'->Q () s') :
  aw (aH X.prog X.w) A (dictSet a u r) Q E s:=by
 cases (show u=aG b from R)
 obtain⟨z,hd,xs,rel,dd⟩:=W8 I.hok (.inl e)
 have hz:xs.length<=sizeLine:=by rw[<- dw rel];exact z
 have D:(ZJ kvs k v).length<=sizeLine:=by have:=Wu kvs k v;omega
 refine nK (hsz:=hz) (show (Wp (ZS X.prog X.w)).room A from ⟨by omega,by show A.units+1<cJ;omega⟩) (X2 I.hok S) dd λh' j P=>h _ ?_
 obtain⟨q,es,f,m,O,B,F,_,Y⟩:=j
 refine YN I (by rw[e];exact bD) P ⟨q,m⟩ ⟨D,hd,_,(rel.put k S T).keeps λc ys C=>?_,q,es,f,m,O,B,F,Y⟩
 rw[Zg (Xm C e (λz=>nomatch z))]
 exact C
theorem GL(i:A.units+2<cJ)(I:'#')(g:Va H a y v H')(R:Zm y u)(T:Zm v r)(h:∀ s',Inv X pins σ H' s'->Q () s') :
  aw (aH X.prog X.w) A (dictSet a u r) Q E s:=by
 have big:([]:List (Key×V)).length<sizeLine:=by decide
 have f:([]:List (List Key×V)).length<sizeLine:=by decide
 rcases g with g|⟨k,rfl,e,rfl⟩|⟨k,b,rfl,eb,e,rfl⟩|⟨kvs,k,b,e,rfl,eb,l,rfl⟩|⟨k,b,rfl,eb,e,rfl⟩
 ·exact RI (by omega) I g R T h
 ·have x:=I.hok a _ e
  obtain⟨q,m⟩:∃ q,s.heap.get? a=aa q:=by obtain⟨_,_,_,_,q,_,_,m,_⟩:=x;exact⟨q,m⟩
  have J:Inv X pins σ (upd H a (.dK [])) s:=YN (t':=s.toks) I (by rw[e];exact bD) (cS a s.heap) ⟨q,m⟩ (U5 x)
  refine RI (by omega) J (YU.k (k:=k) (v:=v) Zw big) R T λs' P=>h s' ?_
  rw[Wq] at P
  exact P
 ·have x:=I.hok a _ e
  obtain⟨q,m⟩:∃ q,s.heap.get? a=aa q:=by obtain⟨_,_,_,_,q,_,_,m,_⟩:=x;exact⟨q,m⟩
  have J:Inv X pins σ (upd H a (.dT [])) s:=YN (t':=s.toks) I (by rw[e];exact bD) (cS a s.heap) ⟨q,m⟩ (S1 x)
  refine RI (by omega) J (YU.t (k:=k) (v:=v) Zw (by rw[Zg (Xm eb e (λz=>nomatch z))];exact eb) f) R T λs' P=>h s' ?_
  rw[Wq] at P
  exact P
 ·exact Nc i I e eb l R T h
 ·have x:Zx X.prog X.w H s.heap a (.dK []):=by
   rcases e with e|e
   ·exact I.hok a _ e
   ·exact U5 (I.hok a _ e)
  obtain⟨q,m⟩:∃ q,s.heap.get? a=aa q:=by obtain⟨_,_,_,_,q,_,_,m,_⟩:=x;exact⟨q,m⟩
  have mu:Mut (H a):=by rcases e with e|e<;>rw[e]<;>exact bD
  have J:Inv X pins σ (upd H a (.dN [])) s:=YN (t':=s.toks) I mu (cS a s.heap) ⟨q,m⟩ (P1 x)
  have p:∀ c ys,H c=aa (.tup ys)->upd H a (.dN []) c=aa (.tup ys):=λc ys C=>by
   rw[Zg (by rcases e with e|e<;>exact Xm C e (λz=>nomatch z))];exact C
  refine Nc i J Zw (let ⟨c,S,N⟩:=eb;⟨c,p _ _ S,p _ _ N⟩) (by decide) R T λs' P=>h s' ?_
  rw[Wq] at P
  exact P
end
def RJ(tk tv:TE):TE:=λσ H Q=>∀ p,H p=none->tk σ (upd H p (.dK [])) λx H1=>tv σ H1 λy H2=>∃ H',Va H2 p x y H'/\Q (.ref p) H'
theorem GM{X:Cx}{k v:dW}{tk:TE}(i:X.A.units+64<cJ)(R:PE X k tk)(N:PE X v tv):PE X (.Dict [aa k] [v] pos) (RJ tk tv):=by
 intro L s U H Q I q
 have b:=I.hok.fresh (aq s.heap.objs.size)
 have c:=I.laid (a:=s.heap.objs.size) (o:=.dK []) (h':=s.heap.push { cls:=.type "dict",data:=.dict #[] }) (t':=s.toks) (λ_ _ q=>ae _ q) (aq _) (Py s.heap I.big)
 refine wpAny_Dict_any rfl rfl (by simp) (by show 1<=15;decide) ?_
 refine pairTrees_cons_walk (thn (R L _ U _ _ c (q _ b)) λu s1 ⟨x,H1,I2,rx,q1⟩=>thn (N L s1 U H1 _ I2 q1) λw2 s2 ⟨y,H2,I3,ry,H',g,q2⟩=>pairTrees_nil_walk ?_)
 unfold storeAll
 rw[iG]
 refine ac (ac (GL (by omega) I3 g rx ry λM J=>af ?_))
 show aw _ _ (nt [] iY _) _ _ _
 rw[jj]
 exact af ⟨.ref s.heap.objs.size,H',J,rfl,q2⟩
def Nd(tk tv:TE)(n:Nat):TS:=YZ (RJ tk tv) (Xn n)
theorem GN{X:Cx}{tk:TE}(hN:X.N.Nodup)(hi:X.N[i]?=aa x)(W:Loc X.env.scope x)(G:PE X e (RJ tk tv))(P:j8 e (aa (.Name x pos')) pos.line X.env=ej false:=by rfl)(B:X.fn x=ak\/X.env.scope.names.lookup x=aa .local:=by first|exact .inl rfl|exact .inr rfl|assumption) :
  PS X (.Assign [.Name x pos'] e pos) (Nd tk tv i):=Zl hN hi W G P B
variable {b:TV}{E:FK}{f:α->aj}{ts:List V}
abbrev rgI(n:Nat):List Int:=(aD n).map λi:Nat=>(i:Int)
theorem SR.putT{σ:L2.St}[DecidableEq α]{c:α}{w:V}(F:KEnc f)(s:'!' (v::w::.ref l::ts) (.av (.d z)::b::.av (.dic [])::as) H)(st:Stb as)(S:b.data=f c)(h:NR b) :
  ∃ H',Va H l w v H'/\'!' (.ref l::ts) (.av (.dic (Zk f [(c,z)]))::as) H':=by
 have W:=s.pop.top h
 rw[S] at W
 obtain⟨⟨p,q,Z,O,B,U⟩,P⟩:=s
 cases O with
 | @cons _ _ _ _ q1 E _ r rs Q =>
 cases r with
 | av r =>
 cases r with
 | d rp I =>
 cases rs with
 | @cons _ _ _ _ m G _ A rs L =>
 cases rs with
 | @cons _ _ _ _ C x _ r rs i =>
 cases r with
 | av r =>
 cases r with
 | @dic _ o _ _ D hd X =>
  have g:Yl K H o (Zk f ([]:List (α×aj))):=hd.mono Yh
  obtain⟨R,J,Y,M⟩:=OR (v:=v) F g W (by simp)
  have N:C l=1:=by have:=X l;simpa using this
  have j:∀ b,q b=q1 b+(m b+(C b+x b)):=λb=>by have:=Q b;have:=L b;have:=i b;omega
  have a:Zf (L2.hid H p q) (L2.hid (upd H l R) p q):=Wz λb u y _=>⟨y,λz=>by subst z;have:=j b;omega⟩
  have k2:∀ b u,0<p b+x b->H b=aa u->upd H l R b=aa u:=λb u y e=>by
   rw[Zg (λz=>by subst z;have:=B b;have:=j b;omega)];exact e
  have T:Zf H0 (upd H l R):=P.updF (U l (by have:=j l;omega))
  refine⟨upd H l R,J l D,SR.of_le (p:=p) (q:=q) (p':=p) (q':=λb=>(if b=l then 1 else 0)+x b) T B U (λb=>?_) (Z.mono a λb u y e=>k2 b u (by omega) e) (.cons (.av (.dic Zw (M _ z (hd.mono a) (rp.same a)) λ_=>rfl)) (rs.monoS a st λb o y e=>k2 b o (by omega) e) λ_=>rfl)⟩
  have:=X b
  have:=j b
  show p b+((if b=l then 1 else 0)+x b)<=p b+q b
  omega
theorem GO[DecidableEq α]{tk:TE}{bk:Sl->Prop}(F:KEnc f)(hn:n<ρ.length)(h:Ev K E X tk ρ λb=>∃ c,b.data=f c/\NR b/\Ev K E X tv ρ λa=>∃ z,a.sto=aa (.d z)/\nx (ρ.set n (aa (.dic (Zk f [(c,z)]))))) :
  Sv K E X (Nd tk tv n) ρ ⟨nx,rt,bk,ct⟩:=λI U ts as H D st s x j=>by
 intro p T
 refine h I U _ _ _ _ (s.newD T) x λb ⟨c,eb,nb,h2⟩ w H1 s1=>h2 I U _ _ H1 _ s1 x λa ⟨z,ea,q⟩ v H2 s2=>?_
 obtain⟨H',g,C⟩:=SR.putT F (s2.sto ea) st eb nb
 exact⟨H',g,j.nx _ q _ _ (C.store hn)⟩
def Wa(s:gK):Pos:=match s with
 | .FunctionDef _ _ _ _ _ _ _ _ _ p=>p
 | _=>⟨0,0,0,0⟩
structure TxM(K:aJ)(mg:aQ->Option ag)(x:aQ)(st:gK)(ps:List aQ)(c0 Pt:ao):Prop where
 ex:∃ (f:ao) (oc kV doc pm ct:ag) (od an:Option ao) (osl:Array (Option ag)),
  K.lookup f=aa ⟨oc,od,.func (bA x x (Z1 st) (ZC st) (Ze st) .none kV doc pm an (.ref c0) ct),osl⟩/\dj K (.ref c0) x=ak/\mg x=aa (.ref f)/\cX K (.ref f)=ak /\
  Y1 K (bA x x (Z1 st) (ZC st) (Ze st) .none kV doc pm an (.ref c0) ct) ps []
 tab:dD K c0 Pt=ak
theorem Nf{f:ao}{kV ct:ag}{od:Option ao}(X:K.In h)(G:h.Ns au mg)
  (a:bL K au x=aa (aa (.ref f))) (l:K.lookup f=aa ⟨oc,od,.func (bA x x (Z1 st) (ZC st) (Ze st) .none kV doc pm an (.ref c0) ct),sl⟩)
  (c:dj K (.ref c0) x=ak) (k:cX K (.ref f)=ak) (m:dD K c0 Pt=ak)
  (hb:∀ (us:List ag),us.length=ps.length->m5 (bA x x (Z1 st) (ZC st) (Ze st) .none kV doc pm an (.ref c0) ct) ⟨us,[]⟩=ej (ps.zip us)):TxM K mg x st ps c0 Pt :=
 ⟨⟨f,oc,kV,doc,pm,ct,od,an,sl,l,c,c9 X G a,k,.all hb⟩,m⟩
theorem GP{k:Nat}(T:TxM K mg x st ps c0 Pt)(i:FnScope N ps (Ze st))(C:∀ cs,Pre cs->cs.length=ps.length)
  (g:∀ (f:ao) (A:cG) (outer:List iS) (s:ar) (H:Hp) (E:XK),Room k (A.deeper (dZ x (Ze st) s.heap.objs.size f (.ref c0))) ->
   ∃ t,PSs (Z6 CX P w K mg base N x (Ze st) f (.ref c0) A outer s H E).nox (ZC st) t/\∀ cs,Pre cs->Sv K (toF E) NE t (inA N cs) (WG (Post cs))) :
  '$' CX (k+1) x ps [] (spR K Pre Post NP):=by
 obtain⟨f,c,kV,r,pm,ct,od,l,j,a,b,S,R,M⟩:=T.ex
 refine⟨f,_,[],UL a b i (λvs H Q E h=>Vh h C) λA outer s H vs Q E J h=>?_,S,R,M,.nil⟩
 obtain⟨t,Z,O⟩:=g f A outer s H E J
 exact⟨t,Z.nox,V9 h λcs pre=>O cs pre⟩
theorem Ng{X:Cx}{k:Nat}{E:XK}{p:md}{t:TA}(y:X.prog=P)(hw:X.w=w)(hK:X.K=K)(hm:X.mg=mg)(hb:X.base=base)
  (J:Room k X.A) (W:Ws CX X E) (ha:PA X (e::es) t) (hN:X.N[i]?=aa x:=by rfl) (N:Vis X.env.scope x:=by first|exact aC rfl|exact de (aC rfl)|exact de (de rfl))
  (hd:(x == ("__debug__" : aQ))=false:=by decide) (b:(x == ("__classdict__" : aQ))=false:=by decide)
  (G:aY (e::es) X.env=(aF,dz e X.env)::aY es X.env:=by rfl) (m:(dC pos (aY es X.env)).any (·.1)=false:=by rfl) :
  PE X (.Call (.Name x p) (e::es) [] pos) (RF P w K mg base CX k i E t):=by
 subst y hw hK hm hb
 exact GA J W ha hN N hd b G m
variable {Θ:Type}
def spF(K:aJ)(Pre:Θ->List AV->Prop)(Post:Θ->List AV->AV->Prop):Sp:=λvs H Q E=>∃ θ,spR K (Pre θ) (Post θ) NP vs H Q E
section
variable{k:Nat}{Pre:Θ->List AV->Prop}{Post:Θ->List AV->AV->Prop}
theorem RK(T:Tx K mg x st ps dvss)(i:FnScope N ps (Ze st))(C:∀ θ cs,Pre θ cs->cs.length=ps.length)
  (g:∀ (θ:Θ) (f:ao) (cdv:ag) (A:cG) (outer:List iS) (s:ar) (H:Hp) (E:XK),Room k (A.deeper (dZ x (Ze st) s.heap.objs.size f cdv)) ->
   ∃ t,PSs (Z6 CX P w K mg base N x (Ze st) f cdv A outer s H E).nox (ZC st) t/\∀ cs,Pre θ cs->Sv K (toF E) NE t (inA N cs) (WG (Post θ cs))) :
  ∀ dvs∈dvss,'$' CX (k+1) x ps dvs (spF K Pre Post) :=
 T.cal (k:=k) i (λvs H Q E ⟨θ,h⟩=>Vh h (C θ)) λf cdv A outer s H vs Q E hr ⟨θ,h⟩ =>
  let ⟨t,Z,O⟩:=g θ f cdv A outer s H E hr
  ⟨t,Z,V9 h λcs pre=>O cs pre⟩
end
variable{Q:TV->Prop}
section
variable{Pre:Θ->List AV->Prop}{Post:Θ->List AV->AV->Prop}
theorem Nh{A:TA}(h:Ea K E X A ρ λbs=>∃ θ,ClR (Pre θ) (Post θ) NP [] Q (λ_=>True) bs):Ev K E X (Wr (spF K Pre Post) [] E' A) ρ Q:=λI U ts as H QV s x k =>
 h I U ts as H _ s x λbs ⟨θ,cs,sh,pre,q,_⟩ vs H' s' hl=>by
  obtain⟨W,T⟩:=SR.lent sh hl s'
  exact⟨θ,x.t.same T.same,cs++[],W.app Tz,pre,λc Y v w r=>let ⟨a,g,z⟩:=q c Y;k a z v w (T.gotG r g),λe z=>z.elim⟩
theorem Ni{A:TA}(h:Ea K E X A ρ λbs=>∃ θ cs,ShLs K Y ρ bs cs/\Pre θ (cs++[])/\∀ c,Post θ (cs++[]) c->c.plain=ak/\∃ a,Got c a/\Q a):Ev K E X (O7 Y (spF K Pre Post) [] E' A) ρ Q:=λI U ts as H QV s x k =>
 h I U ts as H _ s x λbs ⟨θ,cs,sh,pre,q⟩ vs H1 s' hl H2 L=>by
  obtain⟨W,T⟩:=SR.lentL L sh hl s'
  refine⟨θ,(x.t.same T.same).same L.same,cs++[],W.app Tz,pre,λc b v S r=>?_,λe z=>z.elim⟩
  obtain⟨pl,a,g,z⟩:=q c b
  exact k a z v _ (T.gotG (Rs.unl pl L.own L.same r) g)
theorem GQ{A:TA}(h:Ea K E X A ρ λbs=>NRs bs/\bs.length<=1000/\Q (.bor (.tuple (bs.map TV.data)))):Ev K E X (VI A) ρ Q:=λI U ts as H QV s x k =>
 h I U ts as H _ s x λbs ⟨nr,hz,q⟩ vs H2 s2 hl=>by
  obtain⟨W,C⟩:=SR.reps nr.all hl s2
  exact⟨cP (small1000 (by omega)),λp T=>k _ q _ _ ((C.ext (Yk T)).pushB (.tup Zw (W.same (Yk T))))⟩
end
variable {tb tc:TE}{g:α->List Key}
section
variable{i:Int}
theorem GR{g g':Int->Int->Bool}(h:Ev K E X ta ρ λa=>Ev K E X tb ρ λb=>∃ i j,a=.av (.d (.int i))/\b=.av (.d (.int j))/\(g i j=ak->Ev K E X tc ρ λc=>∃ k,c=.av (.d (.int k))/\Q (.av (.d (.bool (g' j k)))))/\(g i j=aF->Q (.av (.d (.bool aF))))) :
  Ev K E X (Pb (rI0 λi j=>.bl (g i j)) (rI0 λi j=>.bl (g' i j)) ta tb tc) ρ Q:=λI U ts as H QV s x k=>by
 refine h I U ts as H _ s x λa O v1 y C=>O I U _ _ y _ C x λb ⟨i,j,ea,eb,h3,h4⟩ v2 H2 s2=>?_
 subst ea eb
 have N:=s2.top_d.int_inv
 have S:=s2.pop.top_d.int_inv
 subst S N
 refine⟨i,j,rfl,rfl,g i j,rfl,?_⟩
 by_cases z:g i j=ak
 ·rw[if_pos z]
  refine h3 z I U _ _ H2 _ s2.pop.pop x λc ⟨k',ec,q⟩ v3 H3 s3=>?_
  subst ec
  have L:=s3.top_d.int_inv
  subst L
  exact⟨j,k',rfl,rfl,k _ q _ _ (s3.pop.bl _)⟩
 ·rw[if_neg z]
  exact k _ (h4 (by simpa using z)) _ _ (s2.pop.pop.bl _)
abbrev OkS:={ x:aQ // i2 x=ak }
abbrev dS(x:OkS):PyData:=.str x.1
theorem Enc.str:Enc dS 0:=⟨λa b=>by simp[cH,Subtype.ext_iff],λx=>by simp[bX,x.2],λ_=>by simp[fR]⟩
end
theorem Nj:∀ {ks:List Int} {its:List ag},Zi (ks.map V.int) its->j0 its ks
 | [],_,.nil=>.nil
 | k::ks,_,.cons r t=>by
  obtain⟨t',rfl⟩:=r
  exact .cons k t' (Nj t)
def ddI(σ:List Int)(k:Int):List Int:=if k∈σ then σ else σ++[k]
theorem GS(σ:List Int)(k:Int):step_dedup σ k=ddI σ k:=by
 unfold step_dedup ddI
 have e:σ.any (· == k)=decide (k∈σ):=by
  rw[eY,List.any_eq_true,decide_eq_true_iff]
  exact⟨λ⟨x,Z,O⟩=>by rw[<- beq_iff_eq.mp O];exact Z,λh=>⟨k,h,by simp⟩⟩
 rw[e]
 by_cases h:k∈σ<;>simp[h]
theorem range_getD(ks:List Int):(aD ks.length).map (λi=>ks.getD i 0)=ks:=by
 refine hJ (by simp) λi Z O=>?_
 simp[am,ai O]
theorem GT(ks:List Int):firstMet (λi=>ks.getD i 0) ks.length=ks.foldl ddI []:=by
 unfold firstMet
 rw[range_getD]
 have:(step_dedup:List Int->Int->List Int)=ddI:=funext λU=>funext λk=>GS U k
 rw[this]
def setS(ks:List Int):Int->Bool:=λk=>(ks.foldl ddI []).any (· == k)
def Uc(ks:List Int):Nat:=(ks.foldl ddI []).length
def Nk(K:aJ):List V->Hp->VK->Prop:=λxs H Q=>∃ (l:ao) (ks:List Int),xs=[.ref l]/\SqL K H l (ks.map V.int)/\ks.length<=4000/\∀ p,H p=none->Q (.ref p) (upd H p (.set (setS ks) (Uc ks)))
theorem Ud{X:Cx}(hK:X.K=K)(Y:X.calm=ak):ZD X (.type "set") (Nk K):=by
 subst hK
 intro L s U H xs us Q I r h
 obtain⟨l,ks,rfl,m,hz,q⟩:=h
 obtain⟨u,rfl,N⟩:=r.one
 cases (show u=aG l from N)
 obtain⟨f,T,pl,_⟩:=I.list m
 have D:f.toArray.size=ks.length:=by rw[aR,<- T.length,ah]
 refine call_set_list (I.ok.hd Y) pl.isList (Nj (by simpa using T)) (by rw[D];unfold fj;omega) λh' tk C R=>?_
 rw[D,GT] at C
 have g:H s.heap.objs.size=none:=I.hok.fresh (aq _)
 refine⟨.ref s.heap.objs.size,_,I.laid (t':=tk) (o:=.set (setS ks) (Uc ks)) (λb o e=>R b o (ax e) e) (aq _) C,rfl,q _ g⟩
def Nl:List V->Hp->VK->Prop:=λxs H Q=>∃ (p:ao) (S:Int->Bool) (n:Nat),xs=[.ref p]/\H p=aa (.set S n)/\Q (.int n) H
theorem Ue{X:Cx}:ZD X (.builtin "len") Nl:=by
 intro L s U H xs us Q I r h
 obtain⟨p,S,n,rfl,T,q⟩:=h
 obtain⟨u,rfl,N⟩:=r.one
 cases (show u=aG p from N)
 obtain⟨o,es,f,t,a,Y,hd,_,_,M,B,g⟩:=(show Zx X.prog X.w H s.heap p (.set S n) from I.hok p _ T)
 subst g
 exact lF a Y hd B (by unfold fj at M;omega) ⟨.int es.size,H,I.tok _,⟨_,rfl⟩,q⟩
theorem Rep.intsL{ks:List Int}(h:Rep K H v (.list (ks.map .int))):∃ l,v=.ref l/\SqL K H l (ks.map V.int):=by
 cases h with
 | @lst a xs ds Z O =>
  refine⟨a,rfl,?_⟩
  have:xs=ks.map V.int:=by
   clear Z
   induction ks generalizing xs with
   | nil=>cases O;rfl
   | cons k ks E=>cases O with
    | cons r rs=>rw[r.int_inv,E rs];rfl
  rw[<- this];exact Z
def RL(n:Nat):V->Hp->Prop:=λv H=>∃ p S,v=.ref p/\H p=aa (.set S n)
theorem SR.pushSet{σ:L2.St}{S:Int->Bool}(h:'!' ts as H)(D:H l=none):'!' (.ref l::ts) (.av (.obj (RL n))::as) (upd H l (.set S n)):=by
 obtain⟨⟨p,q,Z,O,B,F⟩,e⟩:=h
 have a:p l+q l=0:=by
  rcases aX (p l+q l) with w|w
  ·exact w
  ·obtain⟨_,w,_⟩:=SR.lsts Z O l w;rw[D] at w;cases w
 have T:Zf H (upd H l (.set S n)):=Yk D
 have m:Zf (L2.hid H p q) (L2.hid (upd H l (.set S n)) p q):=Wy T
 refine⟨⟨p,q,Z.mono m (λb o _=>T b o),.cons (.av (.obj (p:=λ_=>0) ⟨l,S,rfl,?_⟩ (λG1 G2 m ⟨p,S,e1,e2⟩=>⟨p,S,e1,m _ _ e2⟩) λ_=>rfl)) (O.mono m T) (λb=>by simp),B,F⟩,e.trans T⟩
 unfold L2.hid
 rw[if_pos a]
 exact Zw
theorem Uf{ks:List Int}(ha:a.data=.list (ks.map .int))(hz:ks.length<=4000)(q:Q (.av (.obj (RL (Uc ks)))))(na:NR a:=by first|exact NR.av|exact NR.bor):Bi K E X (Nk K) [a] Q:=λI U Y ts as H vs QV s D _ k=>by
 obtain⟨v,rfl,s⟩:=Ym s D
 have r:=s.top na
 rw[ha] at r
 obtain⟨l,rfl,m⟩:=Rep.intsL r
 exact⟨l,ks,rfl,m,hz,λp T=>k _ q _ _ (s.pop.pushSet T)⟩
theorem Ug(q:Q (.av (.d (.int (n:Nat))))):Bi K E X Nl [.av (.obj (RL n))] Q:=λI U Y ts as H vs QV s D _ k=>by
 obtain⟨v,rfl,s⟩:=Ym s D
 have:∃ p S,v=.ref p/\H p=aa (.set S n):=by
  obtain⟨⟨p,q,Z,O,B,F⟩,e⟩:=s
  cases O with
  | cons r _ _ =>
   cases r with
   | av r =>
    cases r with
    | obj f _ _ =>
     obtain⟨p',S,a,N⟩:=f
     exact⟨p',S,a,Yh _ _ N⟩
 obtain⟨p,S,rfl,T⟩:=this
 exact⟨p,S,n,rfl,T,k _ q _ _ (s.pop.int _)⟩
theorem GU{i:Int}(q:Q (.av (.d (.int (if j<i then j else i))))):Bi K E X (λxs H Q=>∃ i j,xs=[.int i,.int j]/\Q (.int (if j<i then j else i)) H) [.av (.d (.int i)),.av (.d (.int j))] Q:=λI U Y ts as H vs QV s D _ k=>by
 obtain⟨rfl,T⟩:=Oe s D
 exact⟨i,j,rfl,k _ q _ _ (T.int _)⟩
theorem Nm{b:Bool}(q:Q (.av (.d (.int (if b then 1 else 0))))):Bi K E X (λxs H Q=>(∃ i,xs=[.int i]/\Q (.int i) H)\/∃ k,xs=[.bl k]/\Q (.int (if k then 1 else 0)) H) [.av (.d (.bool b))] Q:=λI U Y ts as H vs QV s D _ k=>by
 obtain⟨v,rfl,s⟩:=Ym s D
 have r:=s.top_d
 cases r
 exact .inr ⟨b,rfl,k _ q _ _ (s.pop.int _)⟩
theorem Nn{X:Cx}{E:XK}(h:E=E0:=by rfl):RG (CXE P w) X E:=by
 subst h
 intro _ _ _ _ _ _ _ h
 obtain⟨_,_,_,_,_,_,_,_,_,_,_,_,_,z⟩:=h
 exact z.elim
def RM(K:aJ):V->List V->Hp->VK->Prop:=λx vs H Q=>∃ (ds:List aj) (d:aj) (v:V),vs=[v]/\Rep K H x (.list ds)/\Rep K H v d/\cw ds=ak/\d.canLay0=ak/\d.depth<=32/\ds.length<=1000000/\Q (.int (ds.countP λy=>cH y d:Nat)) H
theorem TM{X:Cx}(hK:X.K=K)(i:X.A.units+64<cJ):MtR X "list.count" (RM K):=by
 subst hK
 intro b s U H x vs v us Q I g T h
 obtain⟨ds,d,C,rfl,Z,O,B,c,Y,hz,q⟩:=h
 obtain⟨u,rfl,l⟩:=T.one
 obtain⟨as,k1⟩:=Rep.reads I (by simpa [bX] using B) Z g
 obtain⟨bs,k2⟩:=Rep.reads I c O l
 cases k1 with
 | @list a o items n _ as S N L A =>
  obtain⟨cl,e,p,f⟩:=o
  replace N:cl=.type "list" := N
  replace L:p=.seq items n:=L
  subst N L
  have m:items.toList.map (nS s.heap)=ds:=SeqAt.readsAll_map ds _ _ B A
  refine jA dU ⟨_,S,rfl⟩ F.entry_list_count (F.args_list_count_2 _ _) (PySem.SeqAt.list_countAt a items n e f u (λy=>cH (nS s.heap y) d)) ⟨S,λy j=>?_,?_⟩
  ·exact SeqAt.items_eqAt A k2 B c (by have:=ng (gT ds) d.depth;omega) y j
  ·refine⟨.int (ds.countP λy=>cH y d:Nat),H,I.tok _,⟨s.toks,?_⟩,q⟩
   rw[<- m,nn]
   rfl
theorem GV{i:Int}(q:Q (.av (.d (.int (if j > i then j else i))))):Bi K E X (λxs H Q=>∃ i j,xs=[.int i,.int j]/\Q (.int (if j > i then j else i)) H) [.av (.d (.int i)),.av (.d (.int j))] Q:=λI U Y ts as H vs QV s D _ k=>by
 obtain⟨rfl,T⟩:=Oe s D
 exact⟨i,j,rfl,k _ q _ _ (T.int _)⟩
theorem RN[DecidableEq α](F:Enc f m)(h:Ev K E X te ρ λa=>∃ xs:List α,a.data=.list (xs.map f)/\NR a/\xs.length<=1000000/\Ev K E X ti ρ λb=>∃ c,b.data=f c/\NR b/\Q (.av (.d (.int (xs.count c:Nat)))))(hm:m<=32:=by decide) :
  Ev K E X (tBM K "list" (RM K) te (YG ti Y0)) ρ Q:=λI U ts as H QV s x k =>
 h I U ts as H _ s x λa ⟨xs,ha,na,hz,h2⟩ v H1 s1=>by
  have g:=s1.top na
  rw[ha] at g
  have B:tyV K "list" v H1:=by
   cases g with
   | lst e _=>exact .inl ⟨rfl,_,e⟩
  refine⟨B,h2 I U _ _ H1 _ s1 x λb ⟨c,hb,nb,q⟩ w H2 s2=>?_⟩
  have G:=s2.top nb
  have A:=s2.pop.top na
  rw[hb] at G
  rw[ha] at A
  refine⟨xs.map f,f c,w,rfl,A,G,U8 F xs,F.lay c,aT (F.dep c) hm,by rw[ah];exact hz,?_⟩
  have e:(xs.map f).countP (λy=>cH y (f c))=xs.count c:=by
   rw[nn,List.count]
   refine List.countP_congr λy _=>?_
   show cH (f y) (f c)=ak↔(y == c)=ak
   rw[F.eqv y c,beq_iff_eq]
  rw[e]
  exact k _ q _ _ (s2.pop.pop.int _)
theorem RAs.cat{zs:List V}{ys:List AV}{q:Fp}(O:RAs K G H zs ys q):∀ {vs:List V} {xs:List AV} {p:Fp},RAs K G H vs xs p->RAs K G H (vs++zs) (xs++ys) (λb=>p b+q b)
 | _,_,p,.nil e=>by
  have z:(λb=>p b+q b)=q:=funext λb=>by rw[e b,hV]
  rw[z]
  exact O
 | _,_,_,.cons r1 rs e=>.cons r1 (RAs.cat O rs) λb=>by have:=e b;omega
def RO:V->List V->Hp->VK->Prop:=λx vs H Q=>∃ a b k z,x=.ref a/\vs=[.ref b,z]/\H b=aa (.tup (k.map kV)) /\
 ((∃ kvs,H a=aa (.dT kvs)/\kvs.length<sizeLine/\(∀ v,Z2 kvs k=aa v->Q v H)/\(Z2 kvs k=none->Q z (upd H a (.dT (ZJ kvs k z)))))\/(H a=aa (.dK [])/\Q z (upd H a (.dT [(k,z)]))))
theorem G0{X:Cx}(i:X.A.units+64<cJ):MtM X "dict.setdefault" RO:=by
 intro L s U H x vs v us Q I A T h
 obtain⟨a,b,k,z,rfl,rfl,S,h⟩:=h
 cases A
 obtain⟨Z,u,rfl,K,R⟩:=vals2 T
 cases (show Z=aG b from K)
 have w:∀ {H:Hp} (I:Inv X L U H s) (S:H b=aa (.tup (k.map kV))) {kvs:List (List Key×V)} (e:H a=aa (.dT kvs)) (D:kvs.length<sizeLine) (l:∀ v,Z2 kvs k=aa v->Q v H) (E:Z2 kvs k=none->Q z (upd H a (.dT (ZJ kvs k z)))),
   aw (aH X.prog X.w) X.A (call (.builtin "dict.setdefault") [.ref a,.ref b,u]) (EP X L U Q) X.xe s:=λ{H} I S {kvs} e D l E=>by
  obtain⟨hz,hd,xs,rel,dd⟩:=SN I.hok e
  have G:xs.length<=sizeLine:=by rw[<- dw rel];exact hz
  refine call_meetsIn jt dd.typeIs PySem.F.entry_dict_setdefault (PySem.F.args_dict_setdefault_3 _ _ _) (GX (gE (ZS X.prog X.w)) a b hd u) ⟨du (by omega),k,xs,Xs I.hok S,dd,G,λp hp=>?_,λg h' j P=>?_⟩
  ·have r:=rel.val k
   rw[hp] at r
   cases N:Z2 kvs k with
   | none=>rw[N] at r;exact (r:False).elim
   | some y =>
    rw[N] at r
    exact⟨y,H,I.tok _,r,l y N⟩
  ·have r:=rel.val k
   rw[g] at r
   cases N:Z2 kvs k with
   | some y=>rw[N] at r;exact (r:False).elim
   | none =>
    have M:(ZJ kvs k z).length<=sizeLine:=by have:=Wu kvs k z;omega
    obtain⟨q,es,f,m,O,B,F,_,Y⟩:=j
    refine⟨z,upd H a (.dT (ZJ kvs k z)),YN I (by rw[e];exact bD) P ⟨q,m⟩ ⟨M,hd,_,(rel.put k S R).keeps λc ys C=>?_,q,es,f,m,O,B,F,Y⟩,R,E N⟩
    rw[Zg (Xm C e (λz=>nomatch z))]
    exact C
 rcases h with⟨kvs,e,D,l,E⟩|⟨e,q⟩
 ·exact w I S e D l E
 ·have x:=I.hok a _ e
  obtain⟨W,m⟩:∃ q,s.heap.get? a=aa q:=by obtain⟨_,_,_,_,q,_,_,m,_⟩:=x;exact⟨q,m⟩
  have J:Inv X L U (upd H a (.dT [])) s:=YN (t':=s.toks) I (by rw[e];exact bD) (cS a s.heap) ⟨W,m⟩ (S1 x)
  refine w J (by rw[Zg (Xm S e (λz=>nomatch z))];exact S) Zw (by decide) (λv N=>by cases N) λ_=>?_
  rw[Wq]
  exact q
def RP:List V->Hp->VK->Prop:=λxs H Q=>∃ a n,xs=[.ref a]/\((∃ kvs,Rd H a (.dK kvs)/\n=kvs.length)\/∃ kvs,Rd H a (.dT kvs)/\n=kvs.length)/\Q (.int (n:Nat)) H
theorem G3{X:Cx}:ZD X (.builtin "len") RP:=by
 intro L s U H xs us Q I r h
 obtain⟨a,n,rfl,h,q⟩:=h
 obtain⟨u,rfl,N⟩:=r.one
 cases (show u=aG a from N)
 rcases h with⟨kvs,e,rfl⟩|⟨kvs,e,rfl⟩
 ·exact Jc I e λt M J=>⟨.int _,H,J,⟨t,rfl⟩,q⟩
 ·obtain⟨z,hd,vs,rel,dd⟩:=XG I.hok e
  have D:=dw rel
  have P:sizeLine=16777216:=dG
  refine GZ hd dd (by omega) ?_
  rw[<- D]
  exact⟨.int _,H,I.tok _,⟨_,rfl⟩,q⟩
theorem G4[DecidableEq α](A:∀ a b,g a=g b->a=b)(hi:ρ[n]?=aa (aa (.dic (Zk (λa=>aI ((g a).map Zn)) kvs))))(hz:kvs.length<=1000000)
  (h:Ev K E X ti ρ λb=>Ev K E X te ρ λa=>∃ c z,b.data=.tuple ((g c).map Zn)/\NR b/\a=.av (.d z)/\((ZA kvs c).isSome=ak->DV.nx ρ)/\(ZA kvs c=none->DV.nx (ρ.set n (aa (.dic (Zk (λa=>aI ((g a).map Zn)) (Z3 kvs c z))))))) :
  Sv K E X (XD (tBM K "dict" RO (ZN n) (YG ti (YG te Y0)))) ρ DV:=λH0 U ts as H D st s x f=>by
 have P:∀ a b:List Key,aI (a.map Zn)=.tuple (b.map Zn)->a=b:=λ_ _ e=>V6 (cj e)
 obtain⟨l,o,S,N,L,_⟩:=(s.push (x:=.none) λ_=>.non).writeD (kvs':=Zk (λa=>aI ((g a).map Zn)) kvs) st hi
 have B:tyV K "dict" (.ref l) H:=by
  rcases L with⟨ks,ds,rfl,_⟩|⟨ks,ds,rfl,_⟩|⟨ks,ds,ne,rfl,rs,z⟩
  ·exact .inr (.inr (.inl ⟨rfl,.inl ⟨_,N⟩⟩))
  ·exact .inr (.inr (.inl ⟨rfl,.inr ⟨_,N⟩⟩))
  ·exact absurd (Yn (en:=en3) rs z λ_ _ e=>WF (cj e)).2 ne
 refine⟨.ref l,S,B,h H0 U ts as H _ s x λb O w H1 C=>O H0 U _ _ H1 _ C x λa ⟨c,z,eb,nb,ea,q1,q2⟩ v H2 s2=>?_⟩
 subst ea
 have W:=s2.pop.top nb
 rw[eb] at W
 obtain⟨m,xs,rfl,M,J⟩:=W.tuple_at
 cases Reps.kVs J
 obtain⟨Z,i,k1,k2,k3,F⟩:=(s2.swap.pop).writeD (kvs':=Zk (λa=>aI ((g a).map Zn)) (Z3 kvs c z)) st hi
 rw[S] at k1
 cases k1
 rcases k3 with⟨ks,ds,rfl,rs,Q⟩|⟨ks,ds,rfl,rs,Q⟩|⟨ks,ds,ne,rfl,rs,Q⟩
 ·obtain⟨rfl,rfl⟩:=Yn rs Q λ_ _=>bR Xj
  exact⟨l,m,g c,v,rfl,rfl,M,.inr ⟨k2,f.nx _ (q2 rfl) _ _ (F (.dT [(g c,v)]) trivial λG _ T=>.inr (.inl ⟨[(g c,v)],[z],rfl,.cons T .nil,rfl⟩))⟩⟩
 ·have p:=Y5 (en:=λk=>aI (k.map Zn)) P Q rs
  obtain⟨I,_⟩:=Vg A (k:=c) p
  refine⟨l,m,g c,v,rfl,rfl,M,.inl ⟨ks,k2,small6 (by rw[Tu p];exact hz),λy j=>?_,λhn=>?_⟩⟩
  ·rw[j] at I
   exact f.nx _ (q1 I.symm) _ _ s2.pop.pop
  ·rw[hn] at I
   refine f.nx _ (q2 (by simpa using I.symm)) _ _ (F (.dT (ZJ ks (g c) v)) trivial λG R T=>?_)
   rcases R with⟨r,u,e,q,Y⟩|⟨r,u,e,q,Y⟩|⟨r,u,_,e,q,Y⟩
   ·exact nomatch e
   ·cases HO.dT.inj e
    have p':=Ts A (k:=c) T (Y5 (en:=λk=>aI (k.map Zn)) P Y q)
    exact .inr (.inl ⟨_,_,rfl,V7 p',V8 (en:=λk=>aI (k.map Zn)) p'⟩)
   ·exact nomatch e
 ·exact absurd (Yn (en:=en3) rs Q λ_ _ e=>WF (cj e)).2 ne
theorem G5{kvs:List (List Int×aj)}(hi:ρ[n]?=aa (aa (.dic (Zk (λns:List Int=>aI (ns.map .int)) kvs))))(hz:kvs.length<=1000000)
  (h:Ev K E X ti ρ λb=>Ev K E X te ρ λa=>∃ c z,b.data=.tuple (c.map .int)/\NR b/\a=.av (.d z)/\((ZA kvs c).isSome=ak->DV.nx ρ)/\(ZA kvs c=none->DV.nx (ρ.set n (aa (.dic (Zk (λns:List Int=>aI (ns.map .int)) (Z3 kvs c z))))))) :
  Sv K E X (XD (tBM K "dict" RO (ZN n) (YG ti (YG te Y0)))) ρ DV:=by
 have e:(λns:List Int=>aI (ns.map .int))=λns:List Int=>aI ((ns.map (fJ:Int->Key)).map Zn):=funext λns=>by rw[bu];rfl
 have A:∀ ns:List Int,aI (ns.map .int)=aI ((ns.map (fJ:Int->Key)).map Zn):=λns=>congrFun e ns
 simp only[A] at h
 rw[e] at hi
 exact G4 (g:=λns=>ns.map .inl) (λa b e=>Tr e) hi hz h
theorem G6[DecidableEq α](F:KEnc f)(B:∀ a,f a=.tuple ((g a).map Zn))(ha:a.data=.dict (Zk f kvs))(q:Q (.av (.d (.int (kvs.length:Nat)))))(na:NR a:=by first|exact NR.av|exact NR.bor):Bi K E X RP [a] Q:=λI U Y ts as H vs QV s D _ k=>by
 obtain⟨v,rfl,s⟩:=Ym s D
 have r:=s.top na
 rw[ha] at r
 cases show f=λa=>.tuple ((g a).map Zn) from funext B
 have w:∃ a,v=.ref a/\((∃ ks,Rd H a (.dK ks)/\kvs.length=ks.length)\/∃ ks,Rd H a (.dT ks)/\kvs.length=ks.length):=by
  generalize R:Zk (λa=>aI ((g a).map Zn)) kvs=l at r
  have M:kvs.length=l.length:=by rw[<- R];exact (ah ..).symm
  cases r with
  | exc _ z=>exact absurd (R.trans z) (XN F)
  | excF _ _ _ z=>exact absurd (R.trans z) (XN F)
  | junk=>exact absurd R (XN F)
  | @dK a ks ds _ hd rs z =>
   obtain⟨rfl,rfl⟩:=Yn rs (R.trans z) λ_ _=>bR Xj
   exact⟨a,rfl,.inl ⟨[],hd,rfl⟩⟩
  | @dT a ks ds _ hd rs z =>
   refine⟨a,rfl,.inr ⟨ks,hd,?_⟩⟩
   have Z:=rs.length
   rw[M,z,nk,ah]
   rw[ah] at Z
   omega
  | @dN a ks ds _ ne hd rs z=>exact absurd (Yn (en:=en3) rs (R.trans z) λ_ _ e=>WF (cj e)).2 ne
 obtain⟨a,rfl,h⟩:=w
 exact⟨a,kvs.length,rfl,h,k _ q _ H (s.pop.int _)⟩
theorem G7{kvs:List (List Int×aj)}(ha:a.data=.dict (Zk (λns:List Int=>aI (ns.map .int)) kvs))(q:Q (.av (.d (.int (kvs.length:Nat)))))(na:NR a:=by first|exact NR.av|exact NR.bor):Bi K E X RP [a] Q :=
 G6 KEnc.ints (g:=λns=>ns.map .inl) (λns=>by rw[bu];rfl) ha q na
def No(r r' r'':R2)(ta tb tc td:TE):TE:=λσ H Q=>ta σ H λx H1=>tb σ H1 λy H2=>r x y H2 λz H3=>∃ k,z=.bl k /\
 (if k=ak then tc σ H3 λw' H4=>r' y w' H4 λz' H5=>∃ k',z'=.bl k'/\(if k'=ak then td σ H5 λw'' H6=>r'' w' w'' H6 Q else Q (.bl aF) H5) else Q (.bl aF) H3)
section
variable{X:Cx}{a b c d:dW}{td:TE}
theorem G8{f i:CmpOp}{j:R2}(J:OpR X (bE op) r)(g:OpR X (bE f) r')(l:OpR X (bE i) j)(ha:PE X a ta)(hb:PE X b tb)(Y:PE X c tc)(hd:PE X d td)
  (hm:lastMarks [op,f,i] [b,c,d]=false:=by with_unfolding_all rfl):PT X (.Compare a [op,f,i] [b,c,d] pos) (VH (No r r' j ta tb tc td)):=by
 intro L s U H Q I h
 refine isTrue_chain (thn (ha L s U H _ I h) λv s1 ⟨x,H1,I1,r1,q1⟩=>test_link (thn (hb L s1 U H1 _ I1 q1) λu s2 ⟨y,H2,I2,r2,q2⟩ =>
  thn (J L s2 U H2 x y v u _ I2 r1 r2 q2) λd s3 ⟨z,H3,I3,r3,k,e,q3⟩=>?_)) hm
 subst e
 cases r3
 refine bT ?_
 cases k with
 | false =>
  obtain⟨k',A,q'⟩:=q3
  cases A
  exact ite_ff ⟨H3,I3,q'⟩
 | true =>
  refine ite_tt (test_link (thn (Y L s3 U H3 _ I3 q3) λw' s4 ⟨z',H4,I4,r4,q4⟩=>thn (g L s4 U H4 y z' u w' _ I4 r2 r4 q4) λd' s5 ⟨z2,H5,I5,r5,k2,e2,q5⟩=>?_))
  subst e2
  cases r5
  refine bT ?_
  cases k2 with
  | false =>
   obtain⟨k',A,q'⟩:=q5
   cases A
   exact ite_ff ⟨H5,I5,q'⟩
  | true =>
   refine ite_tt (test_last (thn (hd L s5 U H5 _ I5 q5) λw'' s6 ⟨z3,H6,I6,r6,q6⟩=>thn (l L s6 U H6 z' z3 w' w'' _ I6 r4 r6 q6) λd'' s7 ⟨z4,H7,I7,r7,k3,e3,q7⟩=>?_))
   subst e3
   cases r7
   exact bT ⟨H7,I7,q7⟩
end
section
variable{td:TE}{r3:R2}
theorem G9{g g':Int->Int->Bool}(h:Ev K E X ta ρ λa=>Ev K E X tb ρ λb=>∃ i j,a=.av (.d (.int i))/\b=.av (.d (.int j))/\g i j=ak/\Ev K E X tc ρ λc=>c=.av (.d (.int j))/\Ev K E X td ρ λd=>∃ l,d=.av (.d (.int l))/\g' j l=ak/\Q (.av (.d (.bool ak)))) :
  Ev K E X (No (rI0 λi j=>.bl (g i j)) (rOr rEq r3) (rI0 λi j=>.bl (g' i j)) ta tb tc td) ρ Q:=λI U ts as H QV s x k=>by
 refine h I U ts as H _ s x λa O v1 y C=>O I U _ _ y _ C x λb ⟨i,j,ea,eb,h3,h4⟩ v2 H2 s2=>?_
 subst ea eb
 have N:=s2.top_d.int_inv
 have S:=s2.pop.top_d.int_inv
 subst S N
 refine⟨i,j,rfl,rfl,g i j,rfl,?_⟩
 rw[if_pos h3]
 refine h4 I U _ _ H2 _ s2.pop.pop x λc ⟨ec,h5⟩ v3 H3 s3=>?_
 subst ec
 have L:=s3.top_d.int_inv
 subst L
 refine .inl ⟨rfl,ak,by rw[decide_eq_true rfl],?_⟩
 rw[if_pos rfl]
 refine h5 I U _ _ H3 _ s3.pop x λd ⟨l,ed,h6,q⟩ v4 H4 s4=>?_
 subst ed
 have A:=s4.top_d.int_inv
 subst A
 refine⟨j,l,rfl,rfl,?_⟩
 show QV (.bl (g' j l)) H4
 rw[h6]
 exact k _ q _ _ (s4.pop.bl _)
end
def Fa:gK->List gK
 | .ClassDef _ _ _ b _ _ _ _ _ _ _=>b
 | _=>[]
def isFn(K:aJ)(f:ao):Bool:=match K.lookup f with
 | some o=>o.cls == .type "function"
 | none=>aF
def Np(K:aJ)(N:ao):Bool:=(K.lookup N).isSome
def RQ(K:aJ)(C:ao)(bmB:List ag)(newId:String)(fI:ao):Bool:=match K.lookup C with
 | some ⟨.type "type",_,.cls cd,sl⟩=>(match cd.mro,sl.toList with
  | .ref C'::bm,[_,_,_,_,aa (.builtin n),_]=>C' == C && n == newId && !cd.hasDel && mE K bmB bm && mF K cd.ns && bL K cd.ns "__init__" == aa (aa (.ref fI)) && Np K cd.ns && isFn K fI
  | _,_=>aF)
 | _=>aF
theorem Fb(q:RQ K C bmB newId fI=ak):ExcI K C bmB newId fI:=by
 unfold RQ at q
 split at q
 ·rename_i dd cd sl ho
  split at q
  ·rename_i C' bm k0 k1 k2 k3 n k5 hm hs
   simp only[aP,beq_iff_eq,jk] at q
   obtain⟨⟨⟨⟨⟨⟨⟨i,M⟩,a⟩,h⟩,c⟩,j⟩,y⟩,f⟩:=q
   subst i M
   obtain⟨nm,bs,g,ns,b,hd,sn,sub,ab,col,del⟩:=cd
   dsimp only at hm a c j y
   subst hm a
   have m:sl=#[k0,k1,k2,k3,aa (.builtin n),k5]:=by
    obtain⟨l⟩:=sl
    simp only at hs
    rw[hs]
   subst m
   refine⟨⟨bm,ns,nm,b,bs,hd,sn,sub,ab,col,dd,k0,k1,k2,k3,k5,ho,c,j,h,?_⟩,?_⟩
   ·unfold Np at y
    cases e:K.lookup ns with
    | none=>rw[e] at y;cases y
    | some o=>exact⟨o,rfl⟩
   ·unfold isFn at f
    cases e:K.lookup fI with
    | none=>rw[e] at f;cases f
    | some o =>
     rw[e] at f
     exact⟨o,rfl,beq_iff_eq.mp f⟩
  ·cases q
 ·cases q
def RR:V->Option Int->Option Int->Hp->VK->Prop:=λx lo hi H Q=>∃ z,x=.str z/\z.length<=sizeLine/\Q (.str (gS z lo hi)) H
variable{v:ag}
theorem Nq{o:Option Int}(h:jE v o):∃ l:Option (Int×mI),v=partValue l/\l.map (·.1)=o:=by
 cases h with
 | none=>exact⟨none,rfl,rfl⟩
 | int i t=>exact⟨aa (i,t),rfl,rfl⟩
theorem Fc{X:Cx}:SlR X RR:=by
 intro L s U H x v e c Y C y Q I A P pl i h
 obtain⟨z,rfl,hz,q⟩:=h
 obtain⟨t,rfl⟩:=A
 obtain⟨l,rfl,rfl⟩:=Nq pl
 obtain⟨u,rfl,rfl⟩:=Nq i
 obtain⟨o,Z,O,B⟩:=P
 refine⟨"str",_,F.slot_str_getitem.lookup,nN _ _ _,wpAny_getItem_str_slice (l:=l) (u:=u) (st:=none) ⟨o,Z,O,B⟩ rfl ?_⟩
 exact post_val_or_str ⟨aT (Txt.slice_le z _ _) hz,λt' k=>⟨.str _,H,I.tok k,⟨_,rfl⟩,q⟩⟩
theorem Fd{X:Cx}(hK:X.K=K):SlR X (Tf RR (Tf (SI K) (SE K))):=Fc.or (Hc hK)
variable{z:aQ}
theorem Rep.str_inv{v:V}(h:Rep K H v (.str z)):v=.str z:=by cases h;rfl
def Nr:List V->Hp->VK->Prop:=λxs H Q=>∃ (a:ao) (kvs:List (Key×V)),xs=[.ref a]/\Rd H a (.dK kvs)/\∀ p,H p=none->Q (.ref p) (upd H p (.dK kvs))
theorem Ff{X:Cx}:ZD X (.type "dict") Nr:=by
 intro L s U H xs us Q I T h
 obtain⟨a,kvs,rfl,e,q⟩:=h
 obtain⟨u,rfl,N⟩:=T.one
 cases N
 exact Je I e λp M b m=>⟨.ref p,_,m,rfl,q p b⟩
theorem small6'(h:n<=1000000):n<=sizeLine:=cP (small6 h)
theorem RS{k:Int}{c:Nat}(ha:a.data=.str z)(hz:z.length<=1000000)(e:atI z.cps.toList k=aa c)(q:Q (.av (.d (.str ⟨#[c]⟩))))(na:NR a:=by first|exact NR.av|exact NR.bor):Op K E X (Ti K) a (.av (.d (.int k))) Q:=Xw (Xw (Xv λI U Y ts as H x y QV s _ j=>by
 have S:=s.top_d.int_inv
 have r:=s.pop.top na
 rw[ha] at r
 have N:=Rep.str_inv r
 subst S N
 exact⟨z,k,c,rfl,rfl,small6' hz,e,j _ q _ _ (s.pop.pop.push λ_=>.str _)⟩))
theorem RU{y:aQ}(ha:a.data=.str y)(hb:b.data=.str z)(hz:y.length+z.length<=1000000)(q:Q (.av (.d (.str (y++z)))))(na:NR a:=by first|exact NR.av|exact NR.bor)(h:NR b:=by first|exact NR.av|exact NR.bor):Op K E X (Tg K) a b Q:=Xw (Xw (Xw (Xv λI U Y ts as H u v QV s _ j=>by
 have g:=s.top h
 have G:=s.pop.top na
 rw[hb] at g
 rw[ha] at G
 have S:=Rep.str_inv g
 have N:=Rep.str_inv G
 subst S N
 exact⟨y,z,rfl,rfl,small6' hz,j _ q _ _ (s.pop.pop.push λ_=>.str _)⟩)))
theorem sl_S{tl th:TO}{r:V->Option Int->Option Int->Hp->VK->Prop}(h:Ev K E X te ρ λa=>To tl ρ K E X λlo=>To th ρ K E X λhi=>∃ z:aQ,a.data=.str z/\NR a/\z.length<=1000000/\Q (.av (.d (.str (gS z lo hi))))):Ev K E X (tSl (Tf RR r) te tl th) ρ Q:=λI U ts as H QV s x k=>by
 refine h I U ts as H _ s x λa g v y C=>g I U _ _ y _ C x λlo N w T=>N I U _ _ w _ T x λhi ⟨z,ha,na,hz,q⟩ H3 s3=>.inl ?_
 have r:=s3.top na
 rw[ha] at r
 exact⟨z,Rep.str_inv r,small6' hz,k _ q _ _ (s3.pop.push λ_=>.str _)⟩
variable {kvs:List (aj×aj)}
section
variable{σ:St}{y:V}
theorem Fg{kvs:List (aQ×aj)}(F:kvs≠[])(j:Rep K G y (.dict (Zk bc kvs))):∃ a ks ds,y=.ref a/\Rd G a (.dK ks)/\Reps K G (ks.map be) ds/\Zk bc kvs=(ks.map λp=>Zn p.1).zip ds:=by
 generalize R:Zk bc kvs=l at j
 cases j with
 | exc _ z=>exact absurd (R.trans z) (XN KEnc.str)
 | excF _ _ _ z=>exact absurd (R.trans z) (XN KEnc.str)
 | junk=>exact absurd R (XN KEnc.str)
 | @dK a ks ds _ hd rs z=>exact⟨a,ks,ds,rfl,hd,rs,R▸z⟩
 | @dT a ks ds _ hd rs z=>exact absurd (Yn (en:=λk=>aI (k.map Zn)) rs (R.trans z) λ_ _ e=>nomatch e).1 F
 | @dN a ks ds _ ne hd rs z=>exact absurd (Yn (en:=en3) rs (R.trans z) λ_ _ e=>nomatch e).2 ne
theorem SR.newDs(h:'!' ts as H)(D:H l=none)(rs:Reps K H (ks.map be) ds)(B:noLsts ds=ak)(z:kvs=(ks.map λp=>Zn p.1).zip ds):'!' (.ref l::ts) (.av (.dic kvs)::as) (upd H l (.dK ks)):=by
 obtain⟨⟨p,q,Z,O,e,F⟩,s⟩:=h
 have U:=SR.lsts Z O
 have Q:∀ b u,H b=aa u->b≠l:=λb u y w=>by subst w;rw[D] at y;cases y
 have a:p l+q l=0:=by
  rcases aX (p l+q l) with w|w
  ·exact w
  ·obtain⟨_,w,_⟩:=U l w;rw[D] at w;cases w
 have m:Zf (hid H p q) (hid (upd H l (.dK ks)) p (λb=>(if b=l then 1 else 0)+q b)):=Wz λb u y w=>by
  have:=Q b u w
  refine⟨?_,this⟩
  show p b+((if b=l then 1 else 0)+q b)=0
  rw[if_neg this]
  omega
 have c:∀ b u,H b=aa u->upd H l (.dK ks) b=aa u:=λb u y=>by rw[Zg (Q b u y)];exact y
 have T:Zf H (upd H l (.dK ks)):=Yk D
 refine⟨⟨p,λb=>(if b=l then 1 else 0)+q b,Z.mono m (λb o _=>c b o),.cons (.av (.dic Zw (.inl ⟨ks,ds,rfl,(Reps.hid U B rs).same m,z⟩) λ_=>rfl)) (O.mono m T) (λ_=>rfl),λb=>?_,λb w=>?_⟩,s.trans T⟩
 ·have:=e b
  by_cases M:b=l
  ·subst M;simp;omega
  ·simp[M];omega
 ·by_cases M:b=l
  ·subst M
   rcases h0:H0 b with _|o
   ·rfl
   ·rw[s b o h0] at D;cases D
  ·exact F b (by simp[M] at w;omega)
end
theorem Nt{α β:Type}:∀ {xs:List α} {ys:List β},xs.length=ys.length->(xs.zip ys).map be=ys
 | [],[],_=>rfl
 | _::_,_::_,h=>by simp[Nt (iK h)]
theorem Fh{kvs:List (aQ×aj)}(ha:a.data=.dict (Zk bc kvs))(F:kvs≠[])(B:noLsts (kvs.map be)=ak)(q:Q (.av (.dic (Zk bc kvs))))(na:NR a:=by first|exact NR.av|exact NR.bor):Bi K E X Nr [a] Q:=λI U Y ts as H vs QV s D _ j=>by
 obtain⟨v,rfl⟩:=List.length_eq_one_iff.mp D
 have r:=SR.top (ts:=ts) (as:=as) s na
 rw[ha] at r
 obtain⟨l,ks,ds,rfl,hd,rs,z⟩:=Fg F r
 have g:ds=kvs.map Prod.snd:=by
  have Z:=congrArg (j6 be) z
  rw[Nt (by rw[ah,<- rs.length,ah])] at Z
  rw[<- Z]
  unfold Zk
  rw[bu]
  rfl
 exact⟨l,ks,rfl,hd,λp T=>j _ q _ _ ((SR.pop s).newDs T rs (by rw[g];exact B) z)⟩
section
open PySem.Calls
theorem Nu:∀ {vs:List ag} {zs:List aQ},d0 vs zs->Zi (zs.map V.str) vs
 | _,_,.nil=>.nil
 | _,_,.cons x t h=>.cons ⟨t,rfl⟩ (Nu h)
end
section
open PyProof.Rows (sortedS)
section
variable{σ:St}
theorem SR.strs(h:'!' ts as H):∀ zs:List aQ,'!' (zs.map V.str++ts) ((zs.map λz=>AV.d (.str z)).map TV.av++as) H
 | []=>h
 | z::zs=>(SR.strs h zs).push λ_=>.str z
end
end
section
open Classical
theorem Fi{k':Nat}(T:TxM K mg x st ps c0 Pt)(i:FnScope N ps (Ze st))(C:∀ cs,Pre cs->cs.length=ps.length)
  (g:∀ (f:ao) (A:cG) (outer:List iS) (s:ar) (H:Hp) (E:XK),Room k' (A.deeper (dZ x (Ze st) s.heap.objs.size f (.ref c0))) ->
   ∃ t,PSs ((Z6 (CXE P w) P w K mg base N x (Ze st) f (.ref c0) A outer s H E).wish (XE (Z6 (CXE P w) P w K mg base N x (Ze st) f (.ref c0) A outer s H E) (toF E))) (ZC st) t/\∀ cs,Pre cs->Sv K (toF E) (λe _=>PX cs e) t (inA N cs) (WG (Post cs))) :
  '$' (CXE P w) (k'+1) x ps [] (spR K Pre Post PX):=by
 obtain⟨f,c,kV,r,pm,ct,od,l,j,a,b,S,R,M⟩:=T.ex
 refine⟨f,_,[],UL a b i (λvs H Q E h=>Vh h C) λA outer s H vs Q E J h=>?_,S,R,M,.nil⟩
 obtain⟨t,Z,O⟩:=g f A outer s H E J
 exact⟨t,Z.xmono λe s z=>OA z,V9 h λcs pre=>O cs pre⟩
end
def YI(z:aQ)(k:Nat):Str:=⟨(aB k z.cps).foldl (·++·) #[]⟩
def Fj:R2:=λx y H Q=>∃ (z:aQ) (k:Int),x=.str z/\y=.int k/\2<=k/\k<=1000/\0<z.length/\z.length<=1000/\Q (.str (YI z k.toNat)) H
theorem Fl{X:Cx}:OpR X (c4 .Mult) Fj:=by
 intro L s U H x y v u Q I A R h
 obtain⟨z,k,rfl,rfl,k2,k3,i,M,q⟩:=h
 obtain⟨t,rfl⟩:=A
 obtain⟨t',rfl⟩:=R
 have S:(k == 1 || z.length == 0)=false:=by
  rw[lC]
  exact⟨beq_eq_false_iff_ne.mpr (by omega),beq_eq_false_iff_ne.mpr (by omega)⟩
 have b:z.length*k.toNat<=1000*1000:=Nat.mul_le_mul M (by omega)
 refine mf ?_ (λ_ _=>?_) (λ_ _=>?_) ?_
 ·rw[lC];exact⟨decide_eq_false (by omega),decide_eq_false (by omega)⟩
 ·have:(1000:Int)<=(2 ^ 63-1) / k:=Int.le_ediv_of_mul_le (by omega) (by omega)
  omega
 ·show decide (_ > sizeLine)=aF
  exact decide_eq_false (by rw[dG];omega)
 ·rw[if_neg (by omega),S]
  have:=@post_val_or_str s False _ z (YI z k.toNat) t (EP X L U Q)
  rw[if_neg id,if_neg id] at this
  refine this ⟨?_,λt' n=>⟨.str _,H,I.tok n,⟨_,rfl⟩,q⟩⟩
  have D:(YI z k.toNat).length=z.length*k.toNat:=by
   have w:∀ (m:Nat) (a:Array Nat),((aB m z.cps).foldl (·++·) a).size=a.size+z.length*m:=by
    intro m
    induction m with
    | zero=>intro a;simp
    | succ m E=>intro a;rw[cf,gO,E,Array.size_append,Nat.mul_succ];show a.size+z.length+_=_;omega
   have:=w k.toNat #[]
   rw[show (#[]:Array Nat).size=0 from rfl,hV] at this
   exact this
  rw[D,dG]
  omega
variable{E Q:ag->ar->Prop}
section
variable{z ti to' j1 j2 m1 m2:ao}{k:Nat}{us vs:Array ag}{a b:ag}
theorem Fm{u:ag}(D:jV z ti to' j1 j2 m1 m2)(g:ie s.heap z ti to' .none)(wi:eB s.heap ti (.ref j1) (.ref j2))(wo:eB s.heap to' a b)
  (n1:s.heap.IsTupleIter j1 m1 k) (L:s.heap.IsTupleIter j2 m2 k) (t1:s.heap.IsTuple m1 us) (t2:s.heap.IsTuple m2 vs) (y:us[k]?=aa u) (ev:vs[k]?=aa v)
  (q:∀ h',ie h' z ti to' (bJ s.heap.objs.size)->eB h' to' u v->h'.IsTupleIter j1 m1 (k+1)->h'.IsTupleIter j2 m2 (k+1)->eB h' s.heap.objs.size u v ->
   (∀ c o,c≠z->c≠to'->c≠j1->c≠j2->s.heap.get? c=aa o->h'.get? c=aa o)->Q (.ref s.heap.objs.size) { s with heap:=h' }) :
  aw (aH prog w) A (cZ.«zip.__next__» ⟨[.ref z],[]⟩) (λf s'=>∃ r,f=.done (.ret r)/\Q r s') E s:=by
 show aw _ _ (lZ (.ref z) 2 >>= _) _ _ _
 refine ac (bY g rfl (x:=.bool aF) rfl ?_)
 show aw _ _ (lZ (.ref z) 3 >>= _) _ _ _
 refine ac (bY g rfl (x:=.ref ti) rfl (ac (cc wi rfl ?_)))
 show aw _ _ (cU (.ref z) >>= _) _ _ _
 refine ac ?_
 unfold cU
 refine ac (bY g rfl (x:=.none) rfl (af ?_))
 simp only[if_true]
 refine ac (dm (ac (bY g rfl (x:=.ref to') rfl (ac (ff g (by simp) λI F H=>?_)))))
 replace F:ie I z ti to' .ellipsis:=F
 refine ac ?_
 simp only[jx,nj,iG,jj]
 refine ac (ac (ju ?_))
 show aw _ _ (b_ (.ref j1) >>= _) _ _ _
 refine ac (RC (n1.extBut H.extBut D.i1z) (t1.extBut H.extBut D.l1z) y λP J m=>af ?_)
 have p:eB P to' a b:=m.extBut _ _ D.TOi1 (H.extBut _ _ D.TOz wo)
 refine ac (cc p rfl (ac (mV p λR U B=>?_)))
 replace U:eB R to' u b:=U
 refine ac (gc (af (ac (ac (ju ?_)))))
 show aw _ _ (b_ (.ref j2) >>= _) _ _ _
 refine ac (RC (((L.extBut H.extBut D.i2z).extBut m.extBut D.i12.symm).extBut B.extBut D.TOi2.symm) (((t2.extBut H.extBut D.l2z).extBut m.extBut D.l2i1).extBut B.extBut D.l2TO) ev λG Y N=>af ?_)
 have i:eB G to' u b:=N.extBut _ _ D.TOi2 U
 refine ac (cc i rfl (ac (mV i λT h W=>?_)))
 replace h:eB T to' u v:=h
 refine ac (gc (af (af (ac (cc h rfl (ac (wpAny_newTuple ?_)))))))
 have sz:T.objs.size=s.heap.objs.size:=by rw[W.1,N.1,B.1,m.1,H.1]
 have Z:ie T z ti to' .ellipsis:=W.extBut _ _ D.TOz.symm (N.extBut _ _ D.i2z.symm (B.extBut _ _ D.TOz.symm (m.extBut _ _ D.i1z.symm F)))
 have j:∀ c o,c≠z->c≠to'->c≠j1->c≠j2->s.heap.get? c=aa o->T.get? c=aa o:=λc o O C K d4 e =>
  W.extBut _ _ C (N.extBut _ _ d4 (B.extBut _ _ C (m.extBut _ _ K (H.extBut _ _ O e))))
 have l:T.IsTupleIter j1 m1 (k+1):=((J.extBut B.extBut D.TOi1.symm).extBut N.extBut D.i12).extBut W.extBut D.TOi1.symm
 have q2:T.IsTupleIter j2 m2 (k+1):=Y.extBut W.extBut D.TOi2.symm
 have lz:z<T.objs.size:=ax Z
 show aw _ _ (gn (.ref z) (.ref T.objs.size) >>= _) _ _ _
 refine ac ?_
 unfold gn
 have y6:ie (T.push { cls:=.type "tuple",data:=.seq #[u,v] }) z ti to' .ellipsis:=ae _ Z
 refine ac (ff y6 (by simp) λg7 y7 c7=>?_)
 replace y7:ie g7 z ti to' (bJ T.objs.size):=y7
 refine ff y7 (by simp) λM X c8=>?_
 replace X:ie M z ti to' (bJ T.objs.size):=X
 have S:∀ c o,c≠z->T.get? c=aa o->M.get? c=aa o:=λc o d e=>c8.extBut _ _ d (c7.extBut _ _ d (ae _ e))
 have t8:eB M T.objs.size u v:=c8.extBut _ _ (bt lz) (c7.extBut _ _ (bt lz) (az _ rfl))
 rw[sz] at X t8
 refine af ⟨_,rfl,?_⟩
 show Q (.ref T.objs.size) _
 rw[sz]
 exact q M X (S _ _ D.TOz h) (l.at λo e=>S _ o D.i1z e) (q2.at λo e=>S _ o D.i2z e) t8 λc o O C K d4 e=>S c o O (j c o O C K d4 e)
theorem Fo{Q:Fin->ar->Prop}(W:A.handled=none)(D:jV z ti to' j1 j2 m1 m2)(g:ie s.heap z ti to' .none)(wi:eB s.heap ti (.ref j1) (.ref j2))(h:eB s.heap to' a b)
  (n1:s.heap.IsTupleIter j1 m1 k) (p:s.heap.IsTuple m1 us) (y:us[k]?=none)
  (q:∀ h' e,(∀ c o,c≠z->c≠to'->c≠j1->c≠j2->s.heap.get? c=aa o->h'.get? c=aa o)->(∃ o,h'.get? e=aa o/\o.cls=.type "StopIteration")->E (.ref e) { s with heap:=h' }) :
  aw (aH prog w) A (cZ.«zip.__next__» ⟨[.ref z],[]⟩) Q E s:=by
 show aw _ _ (lZ (.ref z) 2 >>= _) _ _ _
 refine ac (bY g rfl (x:=.bool aF) rfl ?_)
 show aw _ _ (lZ (.ref z) 3 >>= _) _ _ _
 refine ac (bY g rfl (x:=.ref ti) rfl (ac (cc wi rfl ?_)))
 show aw _ _ (cU (.ref z) >>= _) _ _ _
 refine ac ?_
 unfold cU
 refine ac (bY g rfl (x:=.none) rfl (af ?_))
 simp only[if_true]
 refine ac (dm (ac (bY g rfl (x:=.ref to') rfl (ac (ff g (by simp) λI F H=>?_)))))
 replace F:ie I z ti to' .ellipsis:=F
 refine ac ?_
 simp only[jx,nj,iG,jj]
 refine ac (ac (ju ?_))
 show aw _ _ (b_ (.ref j1) >>= _) _ _ _
 refine ac (O1 W (n1.extBut H.extBut D.i1z) (p.extBut H.extBut D.l1z) y λP e m G=>?_)
 obtain⟨oe,S,N⟩:=G
 have f:ie P z ti to' .ellipsis:=m _ _ D.i1z.symm F
 have ne:e≠z:=λx=>by subst x;rw[f] at S;cases S;simp at N
 exact ff f (by simp) λR _ B=>q R e (λc o O _ K _ x=>B.extBut _ _ O (m _ _ K (H.extBut _ _ O x))) ⟨oe,B.extBut _ _ ne S,N⟩
theorem Fq{u:ag}{Q:Option ag->ar->Prop}(D:jV z ti to' j1 j2 m1 m2)(g:ie s.heap z ti to' .none)(wi:eB s.heap ti (.ref j1) (.ref j2))(h:eB s.heap to' a b)
  (n1:s.heap.IsTupleIter j1 m1 k) (L:s.heap.IsTupleIter j2 m2 k) (p:s.heap.IsTuple m1 us) (t2:s.heap.IsTuple m2 vs) (y:us[k]?=aa u) (e:vs[k]?=aa v)
  (q:∀ h',ie h' z ti to' (bJ s.heap.objs.size)->eB h' to' u v->h'.IsTupleIter j1 m1 (k+1)->h'.IsTupleIter j2 m2 (k+1)->eB h' s.heap.objs.size u v ->
   (∀ c o,c≠z->c≠to'->c≠j1->c≠j2->s.heap.get? c=aa o->h'.get? c=aa o)->Q (aa (.ref s.heap.objs.size)) { s with heap:=h' }) :
  aw (aH prog w) A (fU (.ref z)) Q E s:=by
 have X:s.TypeIs (.ref z) "zip" := ⟨_,g,rfl⟩
 unfold fU
 exact ac (fY (cn (name:=d3 "__next__") X ij
  (ci ij X nT (Fm D g wi h n1 L p t2 y e λh' R l G W m S=>af (q h' R l G W m S)) (nG _))))
theorem Fr{Q:Option ag->ar->Prop}(W:A.in1.handled=none)(D:jV z ti to' j1 j2 m1 m2)(g:ie s.heap z ti to' .none)(wi:eB s.heap ti (.ref j1) (.ref j2))(h:eB s.heap to' a b)
  (n1:s.heap.IsTupleIter j1 m1 k) (p:s.heap.IsTuple m1 us) (y:us[k]?=none)
  (q:∀ h',(∀ c o,c≠z->c≠to'->c≠j1->c≠j2->s.heap.get? c=aa o->h'.get? c=aa o)->Q none { s with heap:=h' }):aw (aH prog w) A (fU (.ref z)) Q E s:=by
 have X:s.TypeIs (.ref z) "zip" := ⟨_,g,rfl⟩
 unfold fU
 refine ac (fY (cn (name:=d3 "__next__") X ij
  (ci ij X nT (Fo W D g wi h n1 p y λh' e R G=>?_) (nG _))))
 obtain⟨o,J,Y⟩:=G
 exact ac (eV (T := "StopIteration") (b:=ak) ⟨o,J,Y⟩ isSubtype_stop (af (q _ R)))
abbrev zt1(h:bO)(l:ao):Heap:=h.push { cls:=.type "tuple_iterator",data:=.fields #[.ref l,.int 0 0] }
abbrev zt3(h:bO)(l l':ao):Heap:=(zt1 (zt1 h l) l').push { cls:=.type "tuple",data:=.seq #[.ref h.objs.size,.ref (zt1 h l).objs.size] }
abbrev zt4(h:bO)(l l':ao):Heap:=(zt3 h l l').push { cls:=.type "tuple",data:=.seq #[.none,.none] }
abbrev zt5(h:bO)(l l':ao):Heap:=(zt4 h l l').push { cls:=.type "zip",data:=.fields #[.none,.bool aF,.bool aF,.ref (zt1 (zt1 h l) l').objs.size,.ref (zt3 h l l').objs.size] }
theorem Fs(l Z:ao)(us vs:Array ag):Meets (cZ.«zip.__new__» ⟨[.type "zip",.ref l,.ref Z],[]⟩) (λ_ R s=>s.heap.IsTuple l us/\s.heap.IsTuple Z vs/\R (.ok (.ret (.ref (zt4 s.heap l Z).objs.size))) { s with heap:=zt5 s.heap l Z }) :=
 .of_wp λprog w A R s h=>by
  obtain⟨T,g,d,tk,L⟩:=s
  obtain⟨p,t2,h⟩:=h
  have f:=sub_zip
  have b:kN (kJ ⟨T,g,d,tk,L⟩) l us:=p
  have a:kN (kJ ⟨T.push { cls:=.type "tuple_iterator",data:=.fields #[.ref l,.int 0 0] },g,d,tk,L⟩) Z vs:=kN.push t2 _
  wp_walk using dq b,dq a
  exact⟨_,rfl,h⟩
theorem Ft{Z:ao}(p:s.heap.IsTuple l us)(t2:s.heap.IsTuple Z vs)
  (h:∀ h' n,n=s.heap.objs.size->ie h' (n+4) (n+2) (n+3) .none->eB h' (n+2) (.ref n) (.ref (n+1))->eB h' (n+3) .none .none->h'.IsTupleIter n l 0->h'.IsTupleIter (n+1) Z 0 ->
   (∀ c o,s.heap.get? c=aa o->h'.get? c=aa o)->Q (.ref (n+4)) { s with heap:=h' }) :
  aw (aH prog w) A (call (.type "zip") [.ref l,.ref Z]) Q E s:=by
 refine callType_new F.called_zip (by decide) (F.typeCall_zip_2 _ _) (F.newCall_zip_2 _ _) (λa=>F.args_object_init_3 a _ _) F.entry_zip_new (Fs l Z us vs) ⟨p,t2,?_⟩
 have i:(zt1 s.heap l).objs.size=s.heap.objs.size+1:=bz ..
 have M:(zt1 (zt1 s.heap l) Z).objs.size=s.heap.objs.size+2:=by rw[bz,i]
 have u:(zt3 s.heap l Z).objs.size=s.heap.objs.size+3:=by rw[bz,M]
 have b:(zt4 s.heap l Z).objs.size=s.heap.objs.size+4:=by rw[bz,u]
 have T:(zt5 s.heap l Z).get? (zt4 s.heap l Z).objs.size=aa _:=az _ rfl
 have G:(zt5 s.heap l Z).get? (zt3 s.heap l Z).objs.size=aa _:=ae _ (az _ rfl)
 have R:(zt5 s.heap l Z).get? (zt1 (zt1 s.heap l) Z).objs.size=aa _:=ae _ (ae _ (az _ rfl))
 have P:(zt5 s.heap l Z).get? (zt1 s.heap l).objs.size=aa _:=ae _ (ae _ (ae _ (az _ rfl)))
 have I:(zt5 s.heap l Z).get? s.heap.objs.size=aa _:=ae _ (ae _ (ae _ (ae _ (az _ rfl))))
 show _/\_
 rw[M,u,b] at T
 rw[i,M] at R
 rw[u] at G
 rw[i] at P
 rw[b]
 exact⟨⟨_,T,rfl⟩,h _ _ rfl T R G ⟨_,I,rfl,rfl⟩ ⟨_,P,rfl,rfl⟩ λc o x=>ae _ (ae _ (ae _ (ae _ (ae _ x))))⟩
end
theorem Inv.turnL{X:Cx}{σ:St}(I:'#')(f:∀ b∈ch,YE X pins H b)(k:∀ b o,b∉ch->s.heap.get? b=aa o->h'.get? b=aa o):Inv X pins σ H { s with heap:=h',toks:=t' }:=by
 have p:∀ b u,H b=aa u->b∉ch:=λb u e z=>by rw[(f b z).1] at e;cases e
 refine I.step (g':=s.gens) (d':=s.drawn) (ch:=ch) (λb M=>?_) (λb o _ _ Y e _=>k b o Y e) (λb o _ _ Y e _=>⟨o.slots,k b o Y e⟩) (λ_ _ _ _ n=>n) (λb o Y e=>⟨o,k b o Y e⟩) (λ_ _ e=>e) (λ_ _ _ e=>e) (λb ps e=>⟨#[],by rw[e];simp⟩) (λm S=>?_) (λb u e=>?_) I.bare
 ·have g:=f b M
  exact⟨g.2.2.2.1,g.2.1,g.2.2.2.2.1,g.2.2.2.2.2⟩
 ·obtain⟨o,es,a,J,r⟩:=S
  exact⟨o,es,a,k _ o (λz=>(f _ z).2.1 rfl) J,r⟩
 ·refine (I.hok b u e).stay (λc v Y q=>k c v ?_ q) (λ_ q=>q) λ_ _ q=>q
  rcases Y with z|z
  ·rw[z];exact p b u e
  ·exact p c _ z
theorem Inv.tupL{X:Cx}{σ:St}{xs:List V}(I:'#')(f:∀ b∈ch,YE X pins H b)(k:∀ b o,b∉ch->s.heap.get? b=aa o->h'.get? b=aa o)
  (l:h'.get? s.heap.objs.size=aa { cls:=.type "tuple",data:=.seq us.toArray }) (N:Zi xs us) (hz:xs.length<=sizeLine):Inv X pins σ (upd H s.heap.objs.size (.tup xs)) { s with heap:=h',toks:=t' }:=by
 have T:H s.heap.objs.size=none:=I.hok.fresh (aq _)
 have ne:∀ b o,s.heap.get? b=aa o->b≠s.heap.objs.size:=λb o q=>aE (ax q)
 have p:∀ b u,H b=aa u->b∉ch:=λb u e z=>by rw[(f b z).1] at e;cases e
 have np:∀ b u,H b=aa u->b≠s.heap.objs.size:=λb u q=>Z5 q T
 refine I.step (g':=s.gens) (d':=s.drawn) (ch:=ch) (λb M=>?_) (λb o _ _ Y q _=>k b o Y q) (λb o _ _ Y q _=>⟨o.slots,k b o Y q⟩) (λb o _ q n=>by rw[Zg (ne b o q)];exact n) (λb o Y q=>⟨o,k b o Y q⟩)
  (λb ys q=>by rw[Zg (np b _ q)];exact q) (λb o u q=>by rw[Zg (np b _ q)];exact q) (λb ps q=>⟨#[],by rw[Zg (np b _ q),q];simp⟩) (λm S=>?_) (λb u q=>?_) I.bare
 ·have g:=f b M
  exact⟨g.2.2.2.1,g.2.1,g.2.2.2.2.1,g.2.2.2.2.2⟩
 ·obtain⟨o,es,a,J,r⟩:=S
  exact⟨o,es,a,k _ o (λz=>(f _ z).2.1 rfl) J,r⟩
 ·by_cases M:b=s.heap.objs.size
  ·subst M
   rw[Zw] at q
   cases q
   exact⟨hz,us,N,⟨_,l,rfl,⟨_,rfl⟩,rfl⟩⟩
  ·rw[Zg M] at q
   refine (I.hok b u q).stay (λc v Y r=>?_) (λc r=>by rw[Zg (np c _ r)];exact r) λc ys r=>by rw[Zg (np c _ r)];exact r
   rcases Y with z|z
   ·rw[z] at r ⊢;exact k _ _ (p b u q) r
   ·exact k _ _ (p c _ z) r
def Itz(K:aJ)(a b:ao)(n:Nat):It :=
  ⟨λi H=>∃ xs ys x y,SqT K H a xs/\SqT K H b ys/\xs.length=n/\ys.length=n/\xs[i]?=aa x/\ys[i]?=aa y,
   λi H v H'=>∃ p x y,H p=none/\v=.ref p/\H'=upd H p (.tup [x,y])/\(∀ xs,SqT K H a xs->xs[i]?=aa x)/\∀ ys,SqT K H b ys->ys[i]?=aa y,
   λi H=>∃ xs,SqT K H a xs/\xs.length=n/\n<=i⟩
theorem Fu{x1}(a b n0:ao)(n:Nat)(la:a<n0)(lb:b<n0):Turn P w K (.Tuple es x1 tp) (Itz K a b n) [n0+4,n0+2,n0+3,n0,n0+1] (n0+4) (λi h=>ie h (n0+4) (n0+2) (n0+3) .none/\eB h (n0+2) (.ref n0) (.ref (n0+1))/\(∃ c d,eB h (n0+3) c d)/\h.IsTupleIter n0 a i/\h.IsTupleIter (n0+1) b i) where
 mem:=by simp
 obj:=λi h st c Y=>by
  obtain⟨F,f,⟨_,_,S⟩,⟨o1,y4,_,d1⟩,p,Z,_,C⟩:=st
  simp only[gh,fm,or_false] at Y
  rcases Y with rfl|rfl|rfl|rfl|rfl
  ·exact⟨_,F,λv q=>by cases (show jF _=iA v from q)⟩
  ·exact⟨_,f,λv q=>by cases (show Data.seq _ _=iA v from q)⟩
  ·exact⟨_,S,λv q=>by cases (show Data.seq _ _=iA v from q)⟩
  ·exact⟨_,y4,λv q=>by rw[d1] at q;cases q⟩
  ·exact⟨_,Z,λv q=>by rw[C] at q;cases q⟩
 keep:=λi h h' st k=>by
  obtain⟨F,f,⟨c,d,S⟩,y4,Z⟩:=st
  exact⟨k _ (by simp) _ F,k _ (by simp) _ f,⟨c,d,k _ (by simp) _ S⟩,y4.at λo q=>k _ (by simp) o q,Z.at λo q=>k _ (by simp) o q⟩
 item:=by
  intro X hP R Q Y i L s U H E I B st hg
  subst hP R Q
  obtain⟨xs,ys,x,y,j,sy,r,l2,ex,W⟩:=hg
  obtain⟨F,f,⟨c,d,S⟩,y4,Z⟩:=st
  obtain⟨us,N,l,_⟩:=I.tuple j
  obtain⟨vs,T,tv,_⟩:=I.tuple sy
  obtain⟨u,hu,r1⟩:=N.get ex
  obtain⟨v,hv,G⟩:=T.get W
  have D:jV (n0+4) (n0+2) (n0+3) n0 (n0+1) a b:=zipApart_new la lb
  refine Fq D F f S y4 Z l tv (by simpa using hu) (by simpa using hv) λh' b1 b2 b3 b4 b5 kp=>?_
  refine⟨_,rfl,wpAny_letOwnedTupleGo_zip b1 λO w1 m=>?_⟩
  have ne:∀ {c o},s.heap.get? c=aa o->c≠s.heap.objs.size:=λe=>aE (ax e)
  have ht:O.get? s.heap.objs.size=aa { cls:=.type "tuple",data:=.seq #[u,v] }:=(m.2 _ (ne F).symm).trans b5
  have J:Inv X L U (upd H s.heap.objs.size (.tup [x,y])) { s with heap:=O,toks:=s.toks }:=I.tupL B (λb o M e=>(m.2 b λz=>M (by simp[z])).trans (kp b o (λz=>M (by simp[z])) (λz=>M (by simp[z])) (λz=>M (by simp[z])) (λz=>M (by simp[z])) e)) (us:=[u,v]) ht (.cons r1 (.cons G .nil)) (by show 2<=sizeLine;decide)
  refine⟨.ref s.heap.objs.size,_,J,rfl,⟨s.heap.objs.size,x,y,I.hok.fresh (aq _),rfl,rfl,λzs hz=>by rw[I.tuple_inj hz j];exact ex,λzs hz=>by rw[I.tuple_inj hz sy];exact W⟩,?_,?_⟩
  ·have r:n0+2≠n0+4:=by simp
   have l2:n0+3≠n0+4:=by simp
   have l3:n0≠n0+4:=aE (kR (by decide))
   have l4:n0+1≠n0+4:=by simp
   exact⟨w1,(m.2 _ r).trans (kp _ _ r (by simp) (bt (kR (by decide))) (by simp) f),⟨u,v,(m.2 _ l2).trans b2⟩,b3.at λo e=>(m.2 _ l3).trans e,b4.at λo e=>(m.2 _ l4).trans e⟩
  ·intro c Y
   have g:c≠s.heap.objs.size:=by
    simp only[gh,fm,or_false] at Y
    rcases Y with rfl|rfl|rfl|rfl|rfl
    ·exact ne F
    ·exact ne f
    ·exact ne S
    ·obtain⟨_,e,_⟩:=y4;exact ne e
    ·obtain⟨_,e,_⟩:=Z;exact ne e
   rw[Zg g]
   exact (B c Y).1
 done:=by
  intro X hP R Q Y i L s U H E I B st hg
  subst hP R Q
  obtain⟨xs,j,r,l2⟩:=hg
  obtain⟨F,f,⟨c,d,S⟩,y4,Z⟩:=st
  obtain⟨us,N,l,_⟩:=I.tuple j
  have D:jV (n0+4) (n0+2) (n0+3) n0 (n0+1) a b:=zipApart_new la lb
  refine Fr (A:=X.A) (I.ok.hd Y) D F f S y4 l (fa (by rw[aR,<- N.length];omega)) λh' kp=>⟨rfl,I.turnL (t':=s.toks) B λb o M e=>kp b o (λz=>M (by simp[z])) (λz=>M (by simp[z])) (λz=>M (by simp[z])) (λz=>M (by simp[z])) e⟩
 self:=λ_ _ _ _ _ st h=>wpAny_pyIter_zip st.1 h
def Nv(K:aJ)(ta:TA):TI:=λσ H R=>ta σ H λvs H1=>∃ a b xs ys,vs=[.ref a,.ref b]/\SqT K H1 a xs/\SqT K H1 b ys/\xs.length=ys.length/\R (Itz K a b xs.length) H1
theorem Fv{X:Cx}{a b:dW}{ta:TA}{x1}{p:md}(hK:X.K=K)(w:Gl X "zip")(hm:X.mg "zip" = none)(ha:PA X [a,b] ta)(P:aY [a,b] X.env=(aF,dz a X.env)::aY [b] X.env:=by rfl)(T:(dC pos (aY [b] X.env)).any (·.1)=false:=by rfl) :
  PI X (.Tuple es x1 tp) (.Call (.Name "zip" p) [a,b] [] pos) (Nv K ta):=by
 subst hK
 intro L s U H R I h
 refine Call_ (XW I w hm PyProof.Rows.boot_zip (cV (thn (ha pos L s U H _ I h) λus C x=>?_) P T))
 obtain⟨vs,y,J,g,c,d,xs,ys,e,j,m,D,q⟩:=x
 subst e
 obtain⟨u,v,rfl,G,A⟩:=g.two
 cases (show u=aG c from G)
 cases (show v=aG d from A)
 obtain⟨_,_,l,_⟩:=J.tuple j
 obtain⟨_,_,r,_⟩:=J.tuple m
 have Y:c<C.heap.objs.size:=by obtain⟨o,e,_⟩:=id l;exact ax e
 have hd:d<C.heap.objs.size:=by obtain⟨o,e,_⟩:=id r;exact ax e
 refine Ft l r λh' n en F f S i Z k=>wpAny_pyIter_zip F ?_
 subst en
 have E:Inv X L U y { C with heap:=h' }:=J.kept (t':=C.toks) k
 refine⟨_,_,_,Itz X.K c d xs.length,y,rfl,E,Fu c d C.heap.objs.size xs.length Y hd,⟨F,f,⟨_,_,S⟩,i,Z⟩,λb M=>?_,q⟩
 have M:C.heap.objs.size<=b:=by
  simp only[gh,fm,or_false] at M
  rcases M with rfl|rfl|rfl|rfl|rfl
  ·exact gU ..
  ·exact gU ..
  ·exact gU ..
  ·exact aq _
  ·exact gU ..
 exact J.fpOk M (J.hok.fresh M)
section
variable{E:FK}{Q:TV->Prop}
def Nw(H1:Hp)(K:aJ)(J:It)(u:V)(z:aj)(n:Nat)(f:Nat->aj):Prop :=
 ∀ G H,Zf H1 H->Zf G H->Rep K G u z->(∀ i,i<n->J.go i H/\∀ x H',J.yld i H x H'->Zf H H'/\∀ G',Zf G G'->(∀ b o,H' b=aa o->H b=none->G' b=aa o)->Rep K G' x (f i))/\∀ i,n<=i->J.stop i H
theorem SR.turnF{σ:L2.St}{u:V}{z:aj}{f:Nat->aj}(s:'!' (u::ts) (.av (.d z)::as) H)(ok:Nw H0 K J u z n f)(hi:i<n):J.go i H/\∀ x H',J.yld i H x H'->'!' (x::u::ts) (.av (.d (f i))::.av (.d z)::as) H':=by
 have a:=s
 obtain⟨⟨p,q,Z,O,B,F⟩,e⟩:=s
 have U:=SR.lsts Z O
 cases O with
 | @cons _ _ _ _ l E _ r rs Q =>
 cases r with
 | av r =>
 cases r with
 | d W w =>
  obtain⟨I,_⟩:=ok _ H e Yh W
  obtain⟨P,R⟩:=I i hi
  refine⟨P,λx H' y=>?_⟩
  obtain⟨S,N⟩:=R x H' y
  have C:=a.ext S
  obtain⟨⟨p',q',k1,k2,k3,T⟩,A⟩:=C
  have m:Zf (hid H p q) (hid H' p q):=Wy S
  refine⟨⟨p,q,Z.mono m (λb o _=>S b o),.cons (.av (.d (p:=λ_=>0) (N (hid H' p q) m λb o M g=>?_) λ_=>rfl)) (.cons (.av (.d (W.same m) w)) (rs.mono m S) Q) (λb=>by simp),B,F⟩,A⟩
  unfold hid
  rw[if_pos]
  ·exact M
  ·rcases aX (p b+q b) with c|c
   ·exact c
   ·obtain⟨_,c,_⟩:=U b c;rw[g] at c;cases c
theorem Fw{cap:List (Option Nat)}{A:TA}{g:TG}(h:Ea K E X A ρ λbs=>∃ (a b:TV) (xs:List α) (e:α->aj) (ns:List Int) (y:Nat->AV),bs=[a,b]/\a.data=.tuple (xs.map e)/\b.data=.tuple (ns.map .int)/\NR a/\NR b/\xs.length=ns.length/\xs.length<=1000000 /\
  (∀ i (hi:i<xs.length) (u:i<ns.length),Gv K g (.tuple [e xs[i],.int ns[i]]) (ZG cap ρ) λL=>Wk L (ZG cap ρ)/\Ev K E NE te L λa=>a.sto=aa (y i))/\∃ a,Got (.own ((aD xs.length).map y)) a/\Q a):Ev K E X (Xe cap (Nv K A) g Wv te) ρ Q:=λH0 U ts as H QV s x k =>
 h H0 U ts as H _ s x λbs ⟨a,b,xs,e,ns,y,eb,ea,ebd,na,nb,hl,hz,turn,fin⟩ vs H1 C hlen=>by
  subst eb
  obtain⟨v,w,rfl,C⟩:=Ra C hlen
  have r1:=C.top na
  have r2:=C.pop.top nb
  rw[ea] at r1
  rw[ebd] at r2
  obtain⟨l,us,rfl,Z,O⟩:=r1.tuple_inv
  obtain⟨m,ws,rfl,B,h4⟩:=r2.tuple_inv
  have ew:=Reps.ints_inv h4
  subst ew
  have hu:us.length=xs.length:=by have:=O.length;rwa [ah] at this
  refine⟨l,m,us,ns.map V.int,rfl,Z,B,by rw[hu,ah,hl],?_⟩
  rw[hu]
  intro D P
  have ok:Nw H1 K (Itz K l m xs.length) (.ref l) (.tuple (xs.map e)) xs.length λi=>.tuple [(xs.map e).getD i .none,.int (ns.getD i 0)]:=by
   intro G H2 J sm rp
   obtain⟨l',ys,e',g3,g4⟩:=rp.tuple_inv
   cases e'
   have T:=sm.tupS g3
   have g6:=J.tupS B
   have gl:ys.length=xs.length:=by have:=g4.length;rwa [ah] at this
   refine⟨λi hi=>?_,λi hi=>⟨ys,T,gl,hi⟩⟩
   obtain⟨w,g7,g8⟩:=g4.get (i:=i) (d:=(xs.map e).getD i .none) (by rw[am,ai (by rw[ah];exact hi)];rfl)
   have u:i<ns.length:=by omega
   have g9:(ns.map V.int)[i]?=aa (.int (ns.getD i 0)):=by rw[aW,ai u,am,ai u];rfl
   refine⟨⟨ys,ns.map V.int,w,_,T,g6,gl,by rw[ah,hl],g7,g9⟩,λx H' ⟨p,x0,y0,hp,e1,N,e3,e4⟩=>?_⟩
   subst e1 N
   have e3:=e3 ys T
   have e4:=e4 _ g6
   rw[g7] at e3
   rw[g9] at e4
   cases e3
   cases e4
   exact⟨Yk hp,λG' m k=>.tup (k p _ Zw hp) (.cons (g8.same m) (.cons (.int _) .nil))⟩
  have W:XOk K E NE H1:=XOk.ne (x.t.same C.same)
  have sD:Zf H1 (upd H1 D (.lst [])):=Yk P
  have st:Stb [TV.av (.d (.tuple (xs.map e)))]:=Stb.cons Stb.nil
  have start:SR K H1 (Yg cap U) (ZG cap ρ) [.ref D,.ref l] [.av (.own []),.av (.d (.tuple (xs.map e)))] (upd H1 D (.lst [])):=by
   have m:Zf H1 (hid (upd H1 D (.lst [])) (λ_=>0) λb=>if b=D then 1 else 0):=λb o e=>by
    have M:b≠D:=Z5 e P
    unfold hid
    simp[M]
    rw[Zg M]
    exact e
   have r1:=C.top na
   rw[ea] at r1
   refine⟨⟨λ_=>0,λb=>if b=D then 1 else 0,RSl.cap C m cap,.cons (.av (.own Zw (.nil (p:=λ_=>0) λ_=>rfl) (q:=λb=>if b=D then 1 else 0) λb=>by simp)) (.cons (.av (.d (p:=λ_=>0) (r1.same m) λ_=>rfl)) (.nil (p:=λ_=>0) λ_=>rfl) (r:=λ_=>0) λb=>by simp) (λb=>by simp),λb=>by simp;split<;>omega,λb z=>?_⟩,sD⟩
   by_cases M:b=D
   ·rw[M];exact P
   ·simp[M] at z
  refine⟨λi m j H'=>m=xs.length-i/\i<=xs.length/\SR K H1 j (ZG cap ρ) [.ref D,.ref l] [.av (.own ((aD i).map y)),.av (.d (.tuple (xs.map e)))] H',⟨xs.length,by simp,bP _,start⟩,?_⟩
  rintro i m σ2 H2 ⟨rfl,hi,s2⟩
  by_cases F:i<xs.length
  ·obtain⟨I,g2⟩:=s2.swap.turnF ok F
   refine .inr ⟨I,λj H'=>SR K H1 j (ZG cap ρ) [.ref D,.ref l] [.av (.own ((aD (i+1)).map y)),.av (.d (.tuple (xs.map e)))] H',λj H' p=>⟨xs.length-(i+1),by omega,rfl,F,p⟩,λw S R=>?_⟩
   have s3:=g2 w S R
   have u:i<ns.length:=by omega
   have ef:(aI [(xs.map e).getD i .none,.int (ns.getD i 0)])=.tuple [e xs[i],.int ns[i]]:=by
    rw[Ve F,am,ai u];rfl
   rw[ef] at s3
   refine turn i F u H1 σ2 _ _ S w _ s3 λρ4 ⟨wk,ev⟩ σ4 H4 s4=>?_
   unfold Wv
   dsimp only
   rw[if_pos rfl]
   refine ev H1 σ4 _ _ H4 _ s4 W λa N z H6 s6=>?_
   have s7:=(s6.sto N)
   have Y:SR K H1 σ4 ρ4 [z,.ref D,.ref l] [.av (y i),.av (.own ((aD i).map y)),.av (.d (.tuple (xs.map e)))] H6:=by
    obtain⟨⟨p,q,k1,k2,k3,k4⟩,e⟩:=s7
    refine⟨⟨p,q,k1,?_,k3,k4⟩,e⟩
    cases k2 with
    | cons r rs eq=>exact .cons r rs.swap eq
   obtain⟨vs,f1,c,f⟩:=Y.snocT st
   refine⟨vs,f1,small6 ?_,?_⟩
   ·rw[c,ah,b9];omega
   rw[eI,bH]
   exact wk _ _ _ _ _ _ f
  ·have e0:i=xs.length:=by omega
   subst e0
   obtain⟨a,hg,q⟩:=fin
   have r1:=s2.swap.top NR.av
   exact .inl ⟨(ok _ _ s2.same (.refl _) r1).2 _ (aq _),k _ q _ _ (C.pop.pop.gotG s2.rs hg)⟩
end
def hAs(i:Nat)(th:TS)(D:Ends)(c:ag)(d:Option ao)(σ:St)(H:Hp):Prop:=∀ ea,H ea=none->th ⟨λσ1 H1=>D.nx (σ1.set i none) H1,D.rt,λσ1 H1=>D.bk (σ1.set i none) H1,λσ1 H1=>D.ct (σ1.set i none) H1⟩ (σ.set i (aa (.ref ea))) (upd H ea (hX ea c d))
def Nx(K:aJ)(C C':ag)(i:Nat)(tb:FK->TS)(th th':TS):TS:=λD σ H =>
 tb (λc d σ' H'=>(cx K c C=aa ak/\hAs i th D c d σ' H')\/(cx K c C=aa aF/\cx K c C'=aa ak/\hAs i th' D c d σ' H')) D σ H
variable{tb:FK->TS}
section
variable{X:Cx}{n x':aQ}{C C':ag}{hpos np' hpos':md}{suite suite':List gK}{b₀ b₁:gK}{th th':TS}
theorem Fx(hst:X.stack=X.env::X.outer)(hfl:X.env.frame=aa X.env.locals)(hN:X.N.Nodup)(hi:X.N[i]?=aa n)(hn:X.env.scope.names.lookup n=aa .local)(A:Gl X x)(hm:X.mg x=aa C)(hg':Gl X x')(b:X.mg x'=aa C')
  (hb:∀ pins F,PSs ((X.pinned pins).wish (XE (X.pinned pins) F)) body (tb F)) (W:∀ ea pins,PSs ((X.pinned pins).inX ea).nox (b₀::suite) th) (hh':∀ ea pins,PSs ((X.pinned pins).inX ea).nox (b₁::suite') th') (a:∀ ea,(X.A.mark (aa (.ref ea))).frames=X.A.frames:=by intro _;rfl) (hd:(x == ("__debug__" : aQ))=false:=by decide) (R:(x' == ("__debug__" : aQ))=false:=by decide) :
  PS X (.Try body [.ExceptHandler (aa (.Name x np)) (aa n) (b₀::suite) hpos,.ExceptHandler (aa (.Name x' np')) (aa n) (b₁::suite') hpos'] [] [] pos) (Nx X.K C C' i tb th th'):=by
 intro pins s U H D I h
 have I1:Inv (X.pinned pins) [] U H s:=I.toPin
 refine wpAny_Try_except (bx (hb pins _ [] s U H D (I1.wish _) h) (λf s1 q=>?_) λe s1 q=>?_)
 ·cases f with
  | next=>obtain⟨j,H',J,q⟩:=q;exact gx ⟨j,H',J.unPin I.ok,q⟩
  | brk=>obtain⟨j,H',J,q⟩:=q;exact⟨j,H',J.unPin I.ok,q⟩
  | cont=>obtain⟨j,H',J,q⟩:=q;exact⟨j,H',J.unPin I.ok,q⟩
  | ret u=>obtain⟨v,j,H',J,r,q⟩:=q;exact⟨v,j,H',J.unPin I.ok,r,q⟩
 ·obtain⟨ea,cls,d,tb0,B,y,l,rfl,G,J1,hB,g,hor⟩:=q
  have hfr:X.A.frames=aa (X.env::X.outer):=by rw[I.ok.frames,hst]
  have S:Exn tb0 B (X.env::X.outer) ea cls d s1.heap:=by rw[<- hst];exact G
  refine Ox hfr hfl S λO N u2=>Tl (s:={ s1 with heap:=O }) N λh3 L u3=>?_
  have x2:Exn ak B X.stack ea cls d O:=by rw[hst];exact N
  have x3:Exn ak B X.stack ea cls d h3:=by rw[hst];exact L
  have J2:Inv (X.pinned pins) [] l y { s1 with heap:=O }:=J1.fly G x2.stays u2 hB g
  have J3:Inv (X.pinned pins) [] l y { s1 with heap:=h3 }:=J2.fly (s:={ s1 with heap:=O }) x2 x3.stays u3 hB g
  have J4:Inv ((X.pinned pins).inX ea) [] l y { s1 with heap:=h3 }:=J3.toX ea (a ea)
  obtain⟨oe,vs,he,hc,_⟩:=x3.ob
  have LT:nB (aH X.prog X.w) h3 (nM (.ref ea)) cls:=by rw[<- hc];exact (nB.ld he).andThen .now
  rcases hor with⟨Y,w⟩|⟨hno,Y,w⟩
  ·refine jm (iO (XC (X:=(X.pinned pins).inX ea) J4 A hm ((jq (K:=X.K) (h:=h3) J3.kIn LT Y).here ?_) hd)) (by intro q;cases q)
   refine lq (Tl (s:={ s1 with heap:=h3 }) x3 λh5 x5 u5=>?_)
   have J5:Inv (X.pinned pins) [] l y { s1 with heap:=h5 }:=J3.fly (s:={ s1 with heap:=h3 }) x3 x5.stays u5 hB g
   obtain⟨hne,J6⟩:=J5.see (s:={ s1 with heap:=h5 }) x5 hB g
   have J7:Inv ((X.pinned pins).inX ea) [] l (upd y ea (hX ea cls d)) { s1 with heap:=h5 }:=J6.toX ea (a ea)
   refine UD (X:=(X.pinned pins).inX ea) (v:=.ref ea) J7 hN hi (.inl hn) rfl (λs8 J8=>?_) (.inr hn)
   refine bx (W ea pins [] s8 _ _ _ (J8.wish _) (w ea hne)) (λf m q=>?_) λ_ _ z=>z.elim
   have Z:∀ {c:St} {H9:Hp} {Q:Unit->ar->Prop} {E:ag->ar->Prop},Inv (((X.pinned pins).inX ea).wish λ_ _=>False) [] c H9 m->(∀ M,Inv X pins (c.set i none) H9 M->Q () M)->aw (aH X.prog X.w) X.A (do bindName X.env n .none;gd X.env n hpos) Q E m:=λ{c H9 Q E} J q=>by
    have P:Inv X pins c H9 m:=⟨I.ok,J.os,J.bare,J.base,J.loc,J.cell,J.free,J.freeC,λp T=>J.pin p (by simpa using T),J.hok,J.len⟩
    exact OC P hN hi hn q
   cases f with
   | next=>obtain⟨j,H',J,q⟩:=q;exact Z J λM P=>⟨_,H',P,q⟩
   | brk=>obtain⟨j,H',J,q⟩:=q;exact Z J λM P=>⟨_,H',P,q⟩
   | cont=>obtain⟨j,H',J,q⟩:=q;exact Z J λM P=>⟨_,H',P,q⟩
   | ret u=>obtain⟨v,j,H',J,r,q⟩:=q;exact Z J λM P=>⟨v,_,H',P,r,q⟩
  ·refine jm (iO (XC (X:=(X.pinned pins).inX ea) J4 A hm ((jq (K:=X.K) (h:=h3) J3.kIn LT hno).here ?_) hd)) (by intro q;cases q)
   refine jm (iO (XC (X:=(X.pinned pins).inX ea) J4 hg' b ((jq (K:=X.K) (h:=h3) J3.kIn LT Y).here ?_) R)) (by intro q;cases q)
   refine lq (Tl (s:={ s1 with heap:=h3 }) x3 λh5 x5 u5=>?_)
   have J5:Inv (X.pinned pins) [] l y { s1 with heap:=h5 }:=J3.fly (s:={ s1 with heap:=h3 }) x3 x5.stays u5 hB g
   obtain⟨hne,J6⟩:=J5.see (s:={ s1 with heap:=h5 }) x5 hB g
   have J7:Inv ((X.pinned pins).inX ea) [] l (upd y ea (hX ea cls d)) { s1 with heap:=h5 }:=J6.toX ea (a ea)
   refine UD (X:=(X.pinned pins).inX ea) (v:=.ref ea) J7 hN hi (.inl hn) rfl (λs8 J8=>?_) (.inr hn)
   refine bx (hh' ea pins [] s8 _ _ _ (J8.wish _) (w ea hne)) (λf m q=>?_) λ_ _ z=>z.elim
   have Z:∀ {c:St} {H9:Hp} {Q:Unit->ar->Prop} {E:ag->ar->Prop},Inv (((X.pinned pins).inX ea).wish λ_ _=>False) [] c H9 m->(∀ M,Inv X pins (c.set i none) H9 M->Q () M)->aw (aH X.prog X.w) X.A (do bindName X.env n .none;gd X.env n hpos') Q E m:=λ{c H9 Q E} J q=>by
    have P:Inv X pins c H9 m:=⟨I.ok,J.os,J.bare,J.base,J.loc,J.cell,J.free,J.freeC,λp T=>J.pin p (by simpa using T),J.hok,J.len⟩
    exact OC P hN hi hn q
   cases f with
   | next=>obtain⟨j,H',J,q⟩:=q;exact Z J λM P=>⟨_,H',P,q⟩
   | brk=>obtain⟨j,H',J,q⟩:=q;exact Z J λM P=>⟨_,H',P,q⟩
   | cont=>obtain⟨j,H',J,q⟩:=q;exact Z J λM P=>⟨_,H',P,q⟩
   | ret u=>obtain⟨v,j,H',J,r,q⟩:=q;exact Z J λM P=>⟨v,_,H',P,r,q⟩
end
theorem Fy{X':Exc->Sl->Prop}{C C':ag}{th th':TS}(hb:∀ a,Sv K a X' (tb a) ρ DV)
  (W:∀ e L,X' e L->noLsts (e.fs.map be)=ak/\i<L.length/\((cx K (.ref e.cls) C=aa ak/\Sv K F X th (L.set i (aa (.d (dX e)))) ⟨λr=>DV.nx (r.set i none),DV.rt,λr=>DV.bk (r.set i none),λr=>DV.ct (r.set i none)⟩) \/
   (cx K (.ref e.cls) C=aa aF/\cx K (.ref e.cls) C'=aa ak/\Sv K F X th' (L.set i (aa (.d (dX e)))) ⟨λr=>DV.nx (r.set i none),DV.rt,λr=>DV.bk (r.set i none),λr=>DV.ct (r.set i none)⟩))) :
  Sv K F X (Nx K C C' i tb th th') ρ DV:=λI U ts as H D st s x f=>by
 obtain⟨y,u,b,R,m⟩:=s.aside st
 refine hb _ y U [] [] H D Stb.nil u ⟨λe L z c d j H' M l=>?_,x.t.same m⟩ (f.aside b R)
 obtain⟨g,v,O⟩:=W e L z
 have Y:=l.1
 have Z:=f.aside b R
 have run:∀ {t:TS},Sv K F X t (L.set i (aa (.d (dX e)))) ⟨λr=>DV.nx (r.set i none),DV.rt,λr=>DV.bk (r.set i none),λr=>DV.ct (r.set i none)⟩->hAs i t D c d j H':=λ{t} h ea hea =>
  h y _ [] [] _ _ Stb.nil ((M.caught hea l g).store v) (x.aside m b) ⟨λr q N w T=>Z.nx _ q _ _ T.dropS,λr q N w T=>Z.bk _ q _ _ T.dropS,λr q N w T=>Z.ct _ q _ _ T.dropS,Z.rt⟩
 rcases O with⟨p,O⟩|⟨G,p,O⟩
 ·exact .inl ⟨by rw[Y];exact p,run O⟩
 ·exact .inr ⟨by rw[Y];exact G,by rw[Y];exact p,run O⟩
def byT(w:bV):Bool:=w.params.followText "set-order"
abbrev sK(P:bC)(w:bV):km P w Str:=PySem.strKind P w
def Yi(P:bC)(w:bV)(h:bO)(a:ao)(zs:List aQ):Prop :=
 ∃ o es ep t,h.get? a=aa o/\o.ExactSet/\o.data=.set es ep t/\mL (sK P w) es.toList/\d0 (es.toList.map be) zs/\zs.Nodup/\es.size<fj/\t.fits es.size=ak/\t.led=(!byT w)/\(es.size≠0->t.plain=aF)
theorem TN:∀ {j vs:List ag} {zs:List aQ},j.Perm vs->d0 vs zs->∃ c,d0 j c/\c.Perm zs:=by
 intro j vs zs p
 induction p generalizing zs with
 | nil=>intro h;exact⟨zs,h,.refl _⟩
 | cons x _ E =>
  intro h
  cases h with
  | cons y t h =>
   obtain⟨c,Z,O⟩:=E h
   exact⟨_,.cons y t Z,O.cons _⟩
 | swap x y l =>
  intro h
  cases h with
  | cons y t h =>
   cases h with
   | cons e t' h=>exact⟨_,.cons e t' (.cons y t h),.swap _ _ _⟩
 | trans _ _ b a =>
  intro h
  obtain⟨i,U,v⟩:=a h
  obtain⟨M,R,f⟩:=b U
  exact⟨M,R,f.trans v⟩
theorem Ny:∀ {vs us:List ag} {zs ys:List aQ},d0 vs zs->d0 us ys->d0 (vs++us) (zs++ys)
 | _,_,_,_,.nil,h=>h
 | _,_,_,_,.cons y t h,g=>.cons y t (Ny h g)
theorem XR:∀ {vs:List ag} {zs:List aQ},d0 vs zs->vs.length=zs.length
 | _,_,.nil=>rfl
 | _,_,.cons _ _ h=>congrArg (· + 1) (XR h)
theorem RV{P:bC}{w:bV}{z:aQ}:∀ {es:List (Int×ag)} {zs:List aQ},d0 (es.map be) zs->(z∈zs↔∃ e∈es,(sK P w).is z e.2=ak)
 | [],_,.nil=>by simp
 | e::es,zs,h=>by
  obtain⟨W,v⟩:=e
  rw[bw] at h
  cases h with
  | cons y t h =>
   have E:=RV (P:=P) (w:=w) (z:=z) h
   rw[gh,E]
   constructor
   ·rintro (rfl|⟨e,G,q⟩)
    ·exact⟨_,.head _,kY P w _ _⟩
    ·exact⟨e,.tail _ G,q⟩
   ·rintro⟨e,G,q⟩
    rcases gh.mp G with rfl|G
    ·exact .inl ((sK P w).inj _ _ _ q (kY P w _ _))
    ·exact .inr ⟨e,G,q⟩
theorem Fz(t:fA)(n:Nat):(t.orStandIn n).led=t.led/\((t.orStandIn n).plain=ak->t.plain=ak):=by
 unfold fA.orStandIn
 split
 ·exact⟨rfl,id⟩
 ·exact⟨rfl,λh=>by cases h⟩
theorem FA(t:fA)(es:Array (Int×ag))(h:Int)(x:ag):(layNew t es h x).2.1.led=t.led:=by
 unfold layNew
 split
 ·exact (Fz _ _).1
 ·rfl
theorem FC{t t':fA}{P:Array Int}{o:Array Nat}(e:t.relaid P n=aa (t',o)):t'.led=t.led/\t'.plain=t.plain:=by
 unfold fA.relaid fA.laid at e
 simp only[Option.bind_eq_bind,Option.bind_eq_some_iff] at e
 obtain⟨a,_,e⟩:=e
 cases e
 exact⟨rfl,rfl⟩
theorem FD(t:fA)(es:Array (Int×ag))(n:Nat):(i5 t es n).2.1.led=t.led/\(t.plain=aF->(i5 t es n).2.1.plain=aF):=by
 unfold i5
 split
 ·rename_i t' o e
  obtain⟨S,N⟩:=FC e
  dsimp only
  split
  ·exact⟨S,λh=>by rw[<- h];exact N⟩
  ·exact⟨rfl,λ_=>rfl⟩
 ·exact⟨rfl,λ_=>rfl⟩
variable{a:ao}{ep:Nat}{es:Array (Int×ag)}
theorem Nz{o:d9}{t:fA}(J:h.get? a=aa o)(Y:o.ExactSet)(hd:o.data=.set es ep t)
  {j:Array (Int×ag)} {t':fA}  (W:mL (sK P w) j.toList) (x:d0 (j.toList.map be) zs) (r:zs.Nodup) (hb:j.size<fj) (B:t'.fits j.size=ak) (D:t'.led=(!byT w)) (T:t'.plain=aF) :
  (h.update a (i' j t')).get? a=aa { o with data:=.set j (ep+1) t' }/\Yi P w (h.update a (i' j t')) a zs:=by
 have A:(h.update a (i' j t')).get? a=aa { o with data:=.set j (ep+1) t' }:=by
  have:=a8 (i' j t') J (by rw[putSet_of j t' hd];rfl)
  rw[putSet_of j t' hd] at this;exact this
 exact⟨A,_,j,ep+1,t',A,Y,rfl,W,x,r,hb,B,D,λ_=>T⟩
theorem NA{g:Bool->Sem Unit}(L:∀ (b:Bool) (s₁:ar) (S:Unit->ar->Prop),S () s₁->aw (aH P w) A (g b) S E s₁)
   {o:d9}   {t:fA} (J:s.heap.get? a=aa o) (Y:o.ExactSet) (hd:o.data=.set es ep t)
  {es1:Array (Int×ag)} {t2:fA}  (F:mL (sK P w) es1.toList) (x:d0 (es1.toList.map be) zs) (r:zs.Nodup)
  (H:es1.size<fj) (y:t2.fits es1.size=ak) (D:t2.led=(!byT w)) (T:t2.plain=aF) {wasDummy:Bool} {R:Option Bool->ar->Prop}
  (h:∀ h' c,cN a s.heap h'->Yi P w h' a c->c.Perm zs->R (aa ak) { s with heap:=h' }) :
  aw (aH P w) A (do
    storeSet a es1 t2
    if (!wasDummy && t2.tooFull)=ak then do
      g (i5 t2 es1 (et es1.size)).2.2
      storeSet a (i5 t2 es1 (et es1.size)).1 (i5 t2 es1 (et es1.size)).2.1
      ej (aa ak)
     else ej (aa ak)) R E s:=by
 refine ac (nY J hd ?_ (gY H))
 obtain⟨q,I⟩:=Nz (P:=P) (w:=w) J Y hd F x r H y D T
 have e:=bj s.heap a (i' es1 t2)
 split
 ·have u:=relayAll_perm t2 es1 (et es1.size)
  have K:=relayAll_fits t2 es1 (et es1.size)
  obtain⟨M,f⟩:=FD t2 es1 (et es1.size)
  generalize C:i5 t2 es1 (et es1.size)=G at u K M f ⊢
  obtain⟨i,m,B⟩:=G
  dsimp only at u K M f ⊢
  have v:mL (sK P w) i.toList:=F.perm u
  obtain⟨c,p,X⟩:=TN (u.map be) x
  have hsz:i.size=es1.size:=by rw[<- bb,u.length_eq,bb]
  have j:i.size<scanBound:=by rw[hsz];exact H
  refine ac (L _ _ _ ?_)
  refine ac (nY q rfl ?_ (gY j))
  obtain⟨_,l⟩:=Nz (P:=P) (w:=w) q Y rfl v p (X.nodup_iff.mpr r) j K (M.trans D) (f T)
  exact af (h _ _ (e.trans (bj _ a _)) l X)
 ·exact af (h _ _ e I (.refl _))
theorem FE{Q:Bool->ar->Prop}(C:Yi P w s.heap a zs)(hroom:zs.length+1<fj)
  (h:∀ h' c b,cN a s.heap h'->Yi P w h' a c->(∀ y,y∈c↔y∈zs\/y=z)->c.length<=zs.length+1->Q b { s with heap:=h' }) :
  aw (aH P w) A (setAddHashed a (.str z tk) ((sK P w).hash z)) Q E s:=by
 obtain⟨o,es,f,t,J,Y,hd,W,x,r,M,B,D,T⟩:=C
 have K:es.size=zs.length:=by have:=XR x;rwa [ah,bb] at this
 have l:=kY P w z tk
 have hsc:(eZ z tk).scannable=true:=rfl
 have H:es.size+1<scanBound:=by rw[K];exact hroom
 unfold setAddHashed setAddHashedIn
 refine bF (ac (eO J hd B ?_))
 dsimp only
 rw[byScan_of hsc M W]
 simp only[↓reduceIte]
 unfold setAddByScan
 refine ac ?_
 refine ac (dm ?_)
 refine ac (wpAny_setScan_of l J hd B W ?_)
 cases hr:List.findIdx? (λe=>(sK P w).is z e.2) es.toList with
 | some j =>
  dsimp only
  obtain⟨u,hpj,_⟩:=List.findIdx?_eq_some_iff_getElem.mp hr
  have hz:z∈zs:=(RV x).mpr ⟨es.toList[j],aV u,hpj⟩
  refine af (af ?_)
  have e:s={ s with heap:=s.heap }:=by cases s;rfl
  rw[e]
  exact h s.heap zs _ (cS a s.heap) ⟨o,es,f,t,J,Y,hd,W,x,r,M,B,D,T⟩ (λy=>⟨.inl,λq=>q.elim id λe=>e▸hz⟩) (cz _)
 | none =>
  dsimp only
  have hz:z∉zs:=λq=>by
   obtain⟨e,G,hpe⟩:=(RV (P:=P) (w:=w) x).mp q
   have:=List.findIdx?_eq_none_iff.mp hr e G
   rw[hpe] at this;exact Bool.noConfusion this
  have hgw:∀ (b:Bool) {s₁:ar} {S:Unit->ar->Prop},S () s₁->aw (aH P w) A (match b with|true=>rule "set.scan.the-table-gave-way" | false=>ej ()) S E s₁ :=
   λb s₁ S m=>by cases b<;>first|exact af m|exact dm m
  have i:=layNew_perm t es ((sK P w).hash z) (.str z tk)
  have v:=layNew_fits t es ((sK P w).hash z) (.str z tk)
  have I:=FA t es ((sK P w).hash z) (.str z tk)
  generalize U:layNew t es ((sK P w).hash z) (.str z tk)=L at i v I ⊢
  obtain⟨es1,p,wasDummy,gave⟩:=L
  dsimp only at i v I ⊢
  rw[mr] at i
  have F:mL (sK P w) es1.toList:=(W.push l hsc).perm i
  have hst0:d0 ((es.toList++[((sK P w).hash z,eZ z tk)]).map be) (zs++[z]):=by rw[bH];exact Ny x (.cons z tk .nil)
  obtain⟨zs1,R,X⟩:=TN (i.map be) hst0
  have Z:zs1.Nodup:=X.nodup_iff.mpr (by rw[iE];exact⟨r,by simp,λa ha b M e=>hz (by rw[f_.mp M] at e;exact e▸ha)⟩)
  have hb1':es1.size<scanBound:=by rw[<- bb,i.length_eq,ay,bb];simpa using H
  have hend:∀ h' c,cN a s.heap h'->Yi P w h' a c->c.Perm zs1->Q ak { s with heap:=h' }:=λh' c O g N =>
   h h' c ak O g (λy=>by rw[(N.trans X).mem_iff];simp) (by rw[(N.trans X).length_eq,ay];exact aq _)
  refine ac (hgw _ ?_)
  split
  ·refine ac ?_
   rw[hashByValue_scannable 8 hsc]
   refine af ?_
   refine NA (t2:={ p with plain:=aF }) ?_ J Y hd F R Z hb1' (fA.fits_plain_off v) (I.trans D) rfl ?_
   ·intro b s₁ S m;cases b<;>first|exact af m|exact dm m
   ·intro h' c O g N;dsimp only;exact af (hend h' c O g N)
  ·rename_i hpl
   refine ac (af ?_)
   simp only[↓reduceIte]
   refine NA ?_ J Y hd F R Z hb1' v (I.trans D) (by simpa using hpl) ?_
   ·intro b s₁ S m;cases b<;>first|exact af m|exact dm m
   ·intro h' c O g N;dsimp only;exact af (hend h' c O g N)
theorem FF(a:ag){Q₁:ag->ar->Prop}
  (h:Q₁ (.ref s.heap.objs.size) { s with heap:=s.heap.push { cls:=.type "set",dict:=none,data:=.set #[] 0 (.fresh 0 0 (!byT w)) } }) :
  fZ (aH P w) A (.call (.builtin "set.__new__") ⟨[.type "set",a],[]⟩) (wants Q₁ E) s:=by
 refine kB ?_
 show aw _ A.in1 (do ka "set.__new__" ⟨[.type "set",a],[]⟩;again (.builtin "set.__new__" ⟨[.type "set",a],[]⟩)) _ _ s
 refine ac (ki (PySem.F.newCall_set_1 a) (af ⟨dO kq _,db PySem.F.entry_set_new ?_⟩))
 rw[cE kq _]
 unfold cZ.«set.__new__» nf
 have f:=sub_set_self
 obtain⟨T,g,d,tk,L⟩:=s
 dsimp only
 wp_walk
 refine j7 (af ?_)
 dsimp only
 simp only[newObj]
 refine ac (kj (af ?_))
 exact af h
section
variable{I:ao}{wr:List ao}{G:Array lh->Array lh->Prop}{St:Nat->ar->Prop}
theorem Yi.moved(C:Yi P w h a zs)(k:∀ o,h.get? a=aa o->h'.get? a=aa o):Yi P w h' a zs:=by
 obtain⟨o,es,f,t,J,K⟩:=C
 exact⟨o,es,f,t,k o J,K⟩
theorem FG(W:WalksS P w A.in1 I fp wr G n Pv St)(S:ao)(U:S∉fp)(val:Nat->aQ)(m:∀ i v,Pv i v->∃ t,v=.str (val i) t)(hb:n+1<fj) :
  ∀ (k i:Nat) (s:ar) (zs:List aQ),n-i=k->i<=n->St i s->Yi P w s.heap S zs->zs.length<=i->(∀ y,y∈zs↔∃ j,j<i/\y=val j) ->
   (∀ s' c,Moved (S::wr) G s s'->Yi P w s'.heap S c->(∀ y,y∈c↔∃ j,j<n/\y=val j)->c.length<=n->R (.ok (.ret .none)) s') ->
   fZ (aH P w) A (.builtin "set.update.loop" ⟨[.ref S,.ref I],[]⟩) R s:=by
 have N:S∉wr:=λh=>U (W.sub _ h)
 have f:∀ b∈wr,b∈S::wr:=λb hb=>cg _ hb
 intro k
 induction k with
 | zero =>
  intro i s zs Z hi x C D X H
  have K:i=n:=by omega
  subst K
  refine db gF ?_
  rw[cE eh _]
  show aw _ A.in1 (fU (.ref I) >>= _) _ _ s
  refine ac (W.done s _ _ x λs' p=>?_)
  show aw _ A.in1 (ret bI) _ _ s'
  exact af (H s' zs (p.mono f) (C.moved λo e=>p.heap S _ N e) X D)
 | succ k E =>
  intro i s zs Z hi x C D X H
  have F:i<n:=by omega
  refine db gF ?_
  rw[cE eh _]
  show aw _ A.in1 (fU (.ref I) >>= _) _ _ s
  refine ac (W.item i s _ _ F x λv s' hP J p=>?_)
  obtain⟨t,rfl⟩:=m i v hP
  have g:Yi P w s'.heap S zs:=C.moved λo e=>p.heap S _ N e
  show aw _ A.in1 (jQ [eZ (val i) t] (setAdd S (.str (val i) t)) >>= _) _ _ s'
  refine ac (bF ?_)
  unfold setAdd
  refine bF ?_
  refine ac ((sK P w).pyHash (k:=val i) (kY P w _ _) ?_)
  refine FE (s:={ s' with toks:=s'.toks+1 }) g (by omega) λh' c b O l T M=>?_
  refine af ⟨dO eh _,E (i+1) _ c (by omega) F (W.frame _ s' _ _ J (cz _) λb hb o e=>?_) l (by omega) (λy=>?_) λa r L Q Y B=>?_⟩
  ·rw[O.2 b (λh:b=S=>U (by rw[<- h];exact hb))];exact e
  ·rw[T,X]
   constructor
   ·rintro (⟨j,u,e⟩|e)
    ·exact⟨j,by omega,e⟩
    ·exact⟨i,by omega,e⟩
   ·rintro⟨j,u,e⟩
    by_cases q:j=i
    ·subst q;exact .inr e
    ·exact .inl ⟨j,by omega,e⟩
  ·refine H a r (Moved.trans W.gtrans ((p.mono f).then_heap (cz _) λb o hb e=>?_) L) Q Y B
   rw[O.2 b (λh:b=S=>hb (by rw[h];exact gb))];exact e
end
theorem NB:∀ {vs:List ag} {ns:List aQ},d0 vs ns->∀ (i:Nat) (v:ag),vs[i]?=aa v->∃ t,v=.str (ns.getD i jC) t
 | _,_,.nil,i,v,h=>by simp at h
 | _,_,.cons n t hr,0,v,h=>by simp at h;exact⟨t,by rw[<- h];rfl⟩
 | _,_,.cons n t hr,i+1,v,h=>by
  simp only[List.getElem?_cons_succ] at h
  obtain⟨t',e⟩:=NB hr i v h
  exact⟨t',by rw[e];rfl⟩
theorem FH{items:Array ag}{ns:List aQ}
  (W:A.handled=none) (D:s.heap.IsList l items\/s.heap.IsTuple l items) (hi:d0 items.toList ns) (hb:items.size+1<fj)
  (h:∀ (h':bO) (tk:Nat) (zs:List aQ),Yi P w h' s.heap.objs.size zs->(∀ y,y∈zs↔y∈ns)->zs.length<=ns.length ->
   (∀ b o,b<s.heap.objs.size->s.heap.get? b=aa o->h'.get? b=aa o)->Q (.ref s.heap.objs.size) { s with heap:=h',toks:=tk }) :
  aw (aH P w) A (call (.type "set") [.ref l]) Q E s:=by
 have K:items.size=ns.length:=by have:=XR hi;rwa [bb] at this
 have q:∀ y,(∃ j,j<items.size/\y=ns.getD j jC)↔y∈ns:=λy=>by
  constructor
  ·rintro⟨j,u,rfl⟩
   rw[am,ai (by omega)]
   exact aV _
  ·intro hy
   obtain⟨j,u,rfl⟩:=iL hy
   exact⟨j,by omega,by rw[am,ai u];rfl⟩
 obtain⟨c,tl,hmro⟩:=PySem.F.called_set.mro
 have hmade:=PySem.F.called_set.made
 have f:=PySem.F.called_set.sub
 refine fg (kB ?_)
 show aw _ _ (callAny (.type "set") _) _ _ _
 refine af ⟨i3 _ (by decide +kernel),db PySem.F.entry_type_call ?_⟩
 rw[cG.under_plain (weight_type_call_type "set" [.ref l] []) rfl]
 have Z:=PySem.F.called_set.notType
 have O:=PySem.F.called_set.canCreate
 have hct:=PySem.F.typeCall_set_1 (.ref l)
 repeat (any_goals (first|assumption|wp_step))
 refine eA (FF (.ref l) (E:=E) (Q₁:=λobj s₁=>obj=.ref s.heap.objs.size/\s₁={ s with heap:=s.heap.push { cls:=.type "set",dict:=none,data:=.set #[] 0 (.fresh 0 0 (!byT w)) } }) ⟨rfl,rfl⟩) λr s₁ J=>?_
 cases r with
 | error e=>exact J
 | ok p =>
  cases p with
  | ret obj =>
   obtain⟨rfl,rfl⟩:=J
   have C:(s.heap.push { cls:=.type "set",dict:=none,data:=.set #[] 0 (.fresh 0 0 (!byT w)) }).get? s.heap.objs.size=aa { cls:=.type "set",dict:=none,data:=.set #[] 0 (.fresh 0 0 (!byT w)) }:=az _ rfl
   have X:ar.TypeIs { s with heap:=s.heap.push { cls:=.type "set",dict:=none,data:=.set #[] 0 (.fresh 0 0 (!byT w)) } } (.ref s.heap.objs.size) "set" := ⟨_,C,rfl⟩
   have hli:=PySem.F.called_set.init.lookup
   have hbi:=PySem.F.called_set.init.bind (.ref s.heap.objs.size)
   repeat (any_goals (first|assumption|wp_step))
   refine eA (i8 (R:=wants (λr s₂=>r=.none/\∃ h' tk zs,s₂={ s with heap:=h',toks:=tk } /\
     Yi P w h' s.heap.objs.size zs/\(∀ y,y∈zs↔y∈ns)/\zs.length<=ns.length /\
     (∀ b o,b<s.heap.objs.size->s.heap.get? b=aa o->h'.get? b=aa o)) E) PySem.F.called_set.init.plain PySem.F.entry_set_init (check_set_init_1 X ?_)) λr₂ s₂ hr₂=>?_
   ·have hsls:=PySem.F.sub_list_set
    have hslf:=PySem.F.sub_list_frozenset
    have F:(cY "list" == cY "dict")=false:=by decide
    have htls:=PySem.F.sub_tuple_set
    have htlf:=PySem.F.sub_tuple_frozenset
    have hnt:(cY "tuple" == cY "dict")=false:=by decide
    have hh3:A.in1.in1.in1.handled=none:=by simp[W]
    rcases D with D|D
    all_goals
     have hl1:=D.push { cls:=.type "set",dict:=none,data:=.set #[] 0 (.fresh 0 0 (!byT w)) }
     obtain⟨⟨ocls,odict,odata,oslots⟩,T,L,nl,hdl⟩:=D
     simp only at L hdl
     subst L;subst hdl
     have hol':=ae ({ cls:=.type "set",dict:=none,data:=.set #[] 0 (.fresh 0 0 (!byT w)) }:d9) T
     have hlS:l<s.heap.objs.size:=ax T
     have a:l≠(s.heap.push { cls:=.type "set",dict:=none,data:=.set #[] 0 (.fresh 0 0 (!byT w)) }).objs.size:=by
      rw[bz];exact aE (bp hlS)
     unfold cZ.«set.__init__» noKeywords m_
     generalize hPI:mC=PI
     wp_walk
     subst hPI
     first
     | (refine gV hl1 ?_;have hW:=(lH (prog:=P) (w:=w) hh3 _ l a items).toS)
     | (refine dq hl1 ?_;have hW:=(Walks.tuple (prog:=P) (w:=w) hh3 _ l a items).toS)
     refine ac (wpAny_runValue ?_)
     have U:s.heap.objs.size∉[(s.heap.push { cls:=.type "set",dict:=none,data:=.set #[] 0 (.fresh 0 0 (!byT w)) }).objs.size,l]:=by
      rw[bz];simp only[gh,f_,fm,or_false,not_or]
      exact⟨aE (dg _),bt hlS⟩
     have m:∀ (i:Nat) (v:ag),items[i]?=aa v->∃ t,v=.str ((λi=>ns.getD i jC) i) t:=λi v N =>
      NB hi i v (by rw[fq];exact N)
     refine FG hW s.heap.objs.size
      U (λi=>ns.getD i jC) m hb (items.size-0) 0 _ [] (by omega) (bP _)
      ⟨⟨_,az _ rfl,rfl,rfl⟩,(hl1.push _)⟩ ?hS0 (aq _) (λy=>by simp) ?hR
     case hS0 =>
      exact⟨_,#[],0,_,ae _ C,⟨rfl,rfl,rfl⟩,rfl,λe G=>by simp at G,.nil,.nil,by decide,by rfl,rfl,λz=>absurd rfl z⟩
     case hR =>
      intro M zs' S g Y B
      obtain⟨h',g',d',tk',os'⟩:=M
      have I:g'=s.gens:=S.gens
      have x:d'=s.drawn:=S.drawn
      have eo:os'=s.os:=S.os
      subst I;subst x;subst eo
      show aw _ _ _ _ _ _
      refine af ?_
      show aw _ _ (ret bI) _ _ _
      refine af ⟨rfl,h',tk',zs',rfl,g,λy=>(Y y).trans (q y),by omega,λb o hb e=>?_⟩
      have H:b≠s.heap.objs.size:=aE hb
      have hb2:b≠(s.heap.push { cls:=.type "set",dict:=none,data:=.set #[] 0 (.fresh 0 0 (!byT w)) }).objs.size:=by
       rw[bz];exact aE (bp hb)
      exact S.heap b o (by simp only[gh,f_,fm,or_false,not_or];exact⟨H,hb2⟩) (ae _ (ae _ e))
   ·cases r₂ with
    | error e=>exact hr₂
    | ok fl₂ =>
     cases fl₂ with
     | ret r =>
      obtain⟨rfl,h',tk,zs,rfl,g,Y,B,hk'⟩:=hr₂
      repeat (any_goals (first|assumption|wp_step))
      exact h _ _ _ g Y B hk'
     | _=>exact hr₂.elim
  | _=>exact J.elim
theorem RW{α:Type}:∀ {l:List α} {i:Nat} (h:i<l.length),(l[i]::l.eraseIdx i).Perm l
 | x::l,0,_=>.refl _
 | x::l,i+1,h=>by
  have:=RW (l:=l) (i:=i) (by simpa using h)
  exact (List.Perm.swap ..).trans (this.cons x)
theorem NC{α:Type}(next:Nat->Nat):∀ (a k:Nat) (left:List α) (out:Array α),a=left.length->(jP next a k left out).toList.Perm (out.toList++left)
 | 0,k,left,out,h=>by
  cases left with
  | nil=>simp[jP]
  | cons _ _=>cases h
 | a+1,k,left,out,h=>by
  have D:next k%left.length<left.length:=kh _ (by omega)
  rw[jP,ai D]
  dsimp only
  refine (NC next a (k+1) _ _ (by rw[ly,if_pos D];omega)).trans ?_
  rw[mr,bM]
  exact List.Perm.append_left _ (RW D)
theorem ND(next:Nat->Nat)(xs:Array α):(jc next xs).toList.Perm xs.toList:=by
 unfold jc
 simpa using NC next xs.size 0 xs.toList #[] (by simp)
theorem FI{a:Source}{Q:Nat->ar->Prop}(hn:n≠0)(h:∀ i d,i<n->Q i { s with drawn:=d }):aw M A (choose a n) Q E s:=λc p b=>by
 unfold choose
 rw[Sem.wp_choose]
 refine⟨hn,?_⟩
 exact af (h _ _ (kh _ (Nat.pos_of_ne_zero hn))) c p b
theorem NF{α:Type}:∀ (n:Nat) (xs:List α) (s:ar) (Q:List α->ar->Prop),xs.length=n->(∀ ys d,ys.Perm xs->Q ys { s with drawn:=d })->aw M A (drawOrder n xs) Q E s
 | 0,[],s,Q,_,h=>af (h [] s.drawn (.refl _))
 | n+1,x::xs,s,Q,hl,h=>by
  simp only[drawOrder]
  refine ac (FI (by simp) λi d C=>?_)
  rw[ai C]
  dsimp only
  refine ac (NF n _ _ _ (by rw[ly,if_pos C];omega) λys d' T=>af (h _ d' ?_))
  exact (T.cons _).trans (RW C)
 | 0,_::_,s,Q,hl,_=>by cases hl
 | n+1,[],s,Q,hl,_=>by cases hl
theorem WK:Slot "set_iterator" "__next__" "set_iterator.__next__" :=
 .of (owner := "set_iterator") (n := "__next__") (by rw[typeLookup_type,mS];kernel_rfl) (by decide +kernel) (by decide +kernel) (by decide +kernel)
  (by first|exact .inl (by decide +kernel)|exact .inr (by decide +kernel)) (by rw[kZ];kernel_rfl)
theorem NG:Slot "set_iterator" "__iter__" "set_iterator.__iter__" :=
 .of (owner := "set_iterator") (n := "__iter__") (by rw[typeLookup_type,mS];kernel_rfl) (by decide +kernel) (by decide +kernel) (by decide +kernel)
  (by first|exact .inl (by decide +kernel)|exact .inr (by decide +kernel)) (by rw[kZ];kernel_rfl)
theorem NH:entryFor table "set_iterator.__next__" = aa cZ.«set_iterator.__next__»:=entryFor_of_tree (by kernel_rfl)
theorem FJ:entryFor table "set_iterator.__iter__" = aa cZ.«dict_keyiterator.__iter__»:=entryFor_alias (id' := "dict_keyiterator.__iter__") (by kernel_rfl) rfl (by decide +kernel) (by kernel_rfl)
theorem FL:entryFor table "set.__iter__" = aa cZ.«frozenset.__iter__»:=entryFor_alias (id' := "frozenset.__iter__") (by kernel_rfl) rfl (by decide +kernel) (by kernel_rfl)
theorem NI(a:ag):mD "set_iterator.__next__" ⟨[a],[]⟩:=by unfold mD;kernel_rfl
theorem FM(a:ag):mD "set_iterator.__iter__" ⟨[a],[]⟩:=by unfold mD;kernel_rfl
def XS(h:bO)(it:ao)(first:ag)(i:Nat)(a:ao)(n ep:Nat):Prop:=∃ o,h.get? it=aa o/\o.cls=.type "set_iterator" /\ o.data=.fields #[first,.int i 0,.ref a,.int n 0,.int ep 0]
def WkT(w:bV)(it a pl:ao)(vs:List ag)(i:Nat)(h:bO):Prop :=
  ∃ o es ep t,h.get? a=aa o/\o.data=.set es ep t/\t.fits es.size=ak/\t.led=(!byT w)/\vs.length=es.size /\
    ((byT w=ak/\XS h it (.int 0 0) i a es.size ep/\vs=(jc (w.params.setOrder a ep) es).toList.map be) \/
     (byT w=aF/\t.plain=aF/\1<es.size/\∃ ps:List Nat,XS h it (.ref pl) i a es.size ep/\(∃ op n,h.get? pl=aa op/\op.data=.seq (ps.map λ(p:Nat)=>bJ p).toArray n)/\ps.length=vs.length/\∀ (j p:Nat),ps[j]?=aa p->∃ e:Int×ag,es[p]?=aa e/\vs[j]?=aa e.2) \/
     (byT w=aF/\es.size<=1/\∃ slot:Nat,XS h it (.int slot 0) i a es.size ep/\fQ t.place slot=i/\vs=es.toList.map be))
theorem XS.keep{first:ag}(x:XS h it first i a n ep)(k:∀ o,h.get? it=aa o->h'.get? it=aa o):XS h' it first i a n ep:=let ⟨o,e,r⟩:=x;⟨o,k o e,r⟩
theorem WkT.keep{w:bV}{h h':bO}{it a pl:ao}{vs:List ag}{i:Nat}(x:WkT w it a pl vs i h)(k:∀ b∈[it,a,pl],∀ o,h.get? b=aa o->h'.get? b=aa o):WkT w it a pl vs i h':=by
 obtain⟨o,es,f,t,Z,O,B,F,Y,r⟩:=x
 refine⟨o,es,f,t,k a (by simp) o Z,O,B,F,Y,?_⟩
 rcases r with⟨U,v,q⟩|⟨U,v,q,ps,R,⟨op,n,H,m⟩,G⟩|⟨U,v,y,R,l⟩
 ·exact .inl ⟨U,v.keep (k it (by simp)),q⟩
 ·exact .inr (.inl ⟨U,v,q,ps,R.keep (k it (by simp)),⟨op,n,k pl (by simp) op H,m⟩,G⟩)
 ·exact .inr (.inr ⟨U,v,y,R.keep (k it (by simp)),l⟩)
theorem TQ{Q:Bool->ar->Prop}(h:Q (byT w) s):aw (aH P w) A setsByText Q E s:=ac (j7 (af h))
theorem NJ{o:d9}{sl:Nat}{t:fA}{Q:Option (ag×Nat)->ar->Prop}(h1:s.heap.get? a=aa o)(O:o.data=.set es ep t)(B:t.fits es.size=ak)(hb:byT w=ak)
  (h:Q (((jc (w.params.setOrder a ep) es)[i]?).map λe=>(e.2,sl)) s):aw (aH P w) A (n5 a sl i ep) Q E s:=by
 unfold n5
 refine ac (eO h1 O B ?_)
 dsimp only
 refine ac (TQ ?_)
 rw[hb,if_pos rfl]
 simp only[bne_self_eq_false,bn,if_false]
 refine ac ?_
 unfold setWalk
 refine ac (eO h1 O B ?_)
 dsimp only
 refine ac (TQ ?_)
 rw[hb,if_pos rfl]
 exact ac (j7 (af (af h)))
theorem NK{o:d9}{sl:Nat}{t:fA}{Q:Option (ag×Nat)->ar->Prop}(h1:s.heap.get? a=aa o)(O:o.data=.set es ep t)(B:t.fits es.size=ak)(F:t.led=(!byT w))(hb:byT w=aF)(hz:es.size<=1)
  (h:Q (match es[fQ t.place sl]?,t.place[fQ t.place sl]? with|some (_,x),aa j=>aa (x,j+1)|_,_=>none) s):aw (aH P w) A (n5 a sl i ep) Q E s:=by
 unfold n5
 refine ac (eO h1 O B ?_)
 dsimp only
 refine ac (TQ ?_)
 rw[hb,if_neg aA]
 refine gv (λhd=>?_) λ_=>?_
 ·have hd:(!t.plain && decide (es.size > 1))=true:=hd
  simp only[aP,decide_eq_true_eq] at hd
  omega
 refine ac ?_
 show aw _ _ (if (!t.led && !es.isEmpty)=ak then _ else _) _ _ _
 rw[if_neg (by rw[F,hb];simp)]
 exact af (af h)
theorem FN{o:d9}{pl:Nat}{t:fA}{e:Int×ag}(h1:s.heap.get? a=aa o)(O:o.data=.set es ep t)(B:t.fits es.size=ak)(G:es[pl]?=aa e)
  (h:Q e.2 s):aw (aH P w) A (mw a pl ep) Q E s:=by
 unfold mw
 refine ac (eO h1 O B ?_)
 dsimp only
 simp only[bne_self_eq_false,bn,if_false,G]
 exact af h
theorem FO{Q:Option ag->ar->Prop}(H:it≠a)(y:it≠pl)(x:WkT w it a pl vs i s.heap)(hv:vs[i]?=aa v)
  (h:∀ h',WkT w it a pl vs (i+1) h'->cN it s.heap h'->Q (aa v) { s with heap:=h' }):aw (aH P w) A (fU (.ref it)) Q E s:=by
 obtain⟨o,es,f,t,Z,O,B,F,Y,r⟩:=x
 have C:i<es.size:=by
  rcases Nat.lt_or_ge i vs.length with q|q
  ·omega
  ·rw[eW q] at hv;cases hv
 have step:∀ (first c:ag) (J:d9),s.heap.get? it=aa J->J.cls=.type "set_iterator" -> J.data=.fields #[first,.int i 0,.ref a,.int es.size 0,.int f 0]->XS ((s.heap.update it (bN (·.setIfInBounds 0 c))).update it (bN (·.setIfInBounds 1 (bJ ((i:Int)+1))))) it c (i+1) a es.size f/\XS (s.heap.update it (bN (·.setIfInBounds 1 (bJ ((i:Int)+1))))) it first (i+1) a es.size f:=λfirst c J S N L=>by
  have I:=a8 (bN (·.setIfInBounds 0 c)) S (ce (bo L _))
  have d1:(bN (·.setIfInBounds 0 c) J).data=.fields #[c,.int i 0,.ref a,.int es.size 0,.int f 0]:=by rw[bo L];rfl
  refine⟨⟨_,a8 _ I (ce (bo d1 _)),(fh ..).trans ((fh ..).trans N),by rw[bo d1];rfl⟩,⟨_,a8 _ S (ce (bo L _)),(fh ..).trans N,by rw[bo L];rfl⟩⟩
 rcases r with⟨U,⟨J,S,N,L⟩,a3⟩|⟨U,a2,a3,ps,⟨J,S,N,L⟩,⟨op,n,c1,c2⟩,b3,W⟩|⟨U,a2,sl,⟨J,S,N,L⟩,l,b3⟩
 all_goals
  have X:s.TypeIs (.ref it) "set_iterator" := ⟨_,S,N⟩
  unfold fU
  refine ac (fY (cn (name:=d3 "__next__") X WK (ci WK X NH ?_ (NI _))))
  unfold cZ.«set_iterator.__next__»
  refine ac (af ?_)
  refine ac (wpAny_fieldsOf S L ?_)
  dsimp only
  refine ac (jl Z O B ?_)
  rw[if_neg (by simp)]
 ·have K:=step (.int 0 0) (.int 0 0) J S N L
  refine ac (NJ Z O B U ?_)
  have hpk:(jc (w.params.setOrder a f) es)[(i:Int).toNat]?.map be=aa v:=by
   rw[a3,aW,fq] at hv
   exact hv
  obtain⟨e,G,rfl⟩:=Option.map_eq_some_iff.mp hpk
  rw[show ((f:Nat):Int).toNat=f from aK _,G]
  dsimp only[fK]
  refine ac (cb S L (by simp) ?_)
  have I:=a8 (bN (·.setIfInBounds 0 (bJ ((iM 0:Nat):Int)))) S (ce (bo L _))
  refine ac (cb I (bo L _) (by simp) ?_)
  refine af ⟨_,rfl,af (h _ ?_ ((bj ..).trans (bj ..)))⟩
  have D:∀ {b:ao} {u:d9},b≠it->s.heap.get? b=aa u->((s.heap.update it (bN (·.setIfInBounds 0 (bJ ((iM 0:Nat):Int))))).update it (bN (·.setIfInBounds 1 (bJ ((i:Int)+1))))).get? b=aa u:=λM q=>by
   rw[cO _ _ _ _ M,cO _ _ _ _ M];exact q
  exact⟨o,es,f,t,D (bR H) Z,O,B,F,Y,.inl ⟨U,K.1,a3⟩⟩
 ·have K:=step (.ref pl) (.ref pl) J S N L
  refine ac (cc c1 c2 ?_)
  dsimp only
  have hps:i<ps.length:=by omega
  obtain⟨e,G,R⟩:=W i ps[i] (ai hps)
  rw[hv] at R
  cases R
  have m:((ps.map λ(p:Nat)=>bJ p).toArray)[(i:Int).toNat]?=aa (bJ (ps[i]:Nat)):=by
   rw[aK,ib,aW,ai hps];rfl
  rw[m]
  show aw _ _ (mw a ((ps[i]:Nat):Int).toNat _ >>= _) _ _ _
  refine ac (FN Z O B (by rw[aK];exact G) ?_)
  refine ac (cb S L (by simp) ?_)
  refine af ⟨_,rfl,af (h _ ?_ (bj ..))⟩
  have D:∀ {b:ao} {u:d9},b≠it->s.heap.get? b=aa u->(s.heap.update it (bN (·.setIfInBounds 1 (bJ ((i:Int)+1))))).get? b=aa u:=λM q=>by
   rw[cO _ _ _ _ M];exact q
  exact⟨o,es,f,t,D (bR H) Z,O,B,F,Y,.inr (.inl ⟨U,a2,a3,ps,K.2,⟨op,n,D (bR y) c1,c2⟩,b3,W⟩)⟩
 ·obtain rfl:i=0:=by omega
  have hz1:es.size=1:=by omega
  have hps:t.place.size=1:=by simp only[mJ,aP,beq_iff_eq] at B;omega
  obtain⟨g,T⟩:∃ p,t.place=#[p]:=by
   refine⟨t.place[0],?_⟩
   apply Array.ext
   ·simp[hps]
   ·intro j hj _
    have:j=0:=by omega
    subst this
    rfl
  have K:=step (.int sl 0) (.int ((g+1:Nat):Int) 0) J S N L
  refine ac (NK Z O B F U a2 ?_)
  have R:es[0]?.map be=aa v:=by
   rw[b3,aW,fq] at hv
   exact hv
  obtain⟨e,G,rfl⟩:=Option.map_eq_some_iff.mp R
  rw[aK,l,G,T]
  show aw _ _ (setField (.ref it) 0 (bJ ((g+1:Nat):Int)) >>= _) _ _ _
  refine ac (cb S L (by simp) ?_)
  have I:=a8 (bN (·.setIfInBounds 0 (bJ ((g+1:Nat):Int)))) S (ce (bo L _))
  refine ac (cb I (bo L _) (by simp) ?_)
  refine af ⟨_,rfl,af (h _ ?_ ((bj ..).trans (bj ..)))⟩
  have D:∀ {b:ao} {u:d9},b≠it->s.heap.get? b=aa u->((s.heap.update it (bN (·.setIfInBounds 0 (bJ ((g+1:Nat):Int))))).update it (bN (·.setIfInBounds 1 (bJ (((0:Nat):Int)+1))))).get? b=aa u:=λM q=>by
   rw[cO _ _ _ _ M,cO _ _ _ _ M];exact q
  refine⟨o,es,f,t,D (bR H) Z,O,B,F,Y,.inr (.inr ⟨U,a2,g+1,K.1,?_,b3⟩)⟩
  rw[T]
  simp[fQ,jY]
theorem FP{Q:Option ag->ar->Prop}(W:A.handled=none)(x:WkT w it a pl vs vs.length s.heap)
  (h:∀ h',lx it s.heap h'->Q none { s with heap:=h' }):aw (aH P w) A (fU (.ref it)) Q E s:=by
 obtain⟨o,es,f,t,Z,O,B,F,Y,r⟩:=x
 rcases r with⟨U,⟨J,S,N,L⟩,q⟩|⟨U,v,q,ps,⟨J,S,N,L⟩,⟨op,n,H,c⟩,G,e⟩|⟨U,v,y,⟨J,S,N,L⟩,l,G⟩
 all_goals
  have X:s.TypeIs (.ref it) "set_iterator" := ⟨_,S,N⟩
  unfold fU
  refine ac (fY (cn (name:=d3 "__next__") X WK (ci WK X NH ?_ (NI _))))
  unfold cZ.«set_iterator.__next__»
  refine ac (af ?_)
  refine ac (wpAny_fieldsOf S L ?_)
  dsimp only
  refine ac (jl Z O B ?_)
  rw[if_neg (by simp)]
  first
  |
   refine ac (cc H c ?_)
   dsimp only
   rw[show ((vs.length:Nat):Int).toNat=vs.length from aK _,show ((ps.map λ(p:Nat)=>bJ p).toArray)[vs.length]?=none by rw[ib,eW (by rw[ah];omega)]]
   dsimp only
   refine ac (cb S L (by simp) ?_)
   have I:=a8 (bN (·.setIfInBounds 0 (bJ 0))) S (ce (bo L _))
   refine ac (cb I (bo L _) (by simp) ?_)
  |
   refine ac (NK Z O B F U v ?_)
   rw[aK,l,fa (show es.size<=vs.length by omega)]
   dsimp only
   refine ac (cb S L (by simp) ?_)
  |
   refine ac (NJ Z O B U ?_)
   have D:(jc (w.params.setOrder a f) es).size=vs.length:=by rw[q,ah,bb]
   rw[show ((f:Nat):Int).toNat=f from aK _,show ((vs.length:Nat):Int).toNat=vs.length from aK _,fa (by omega)]
   dsimp only[Option.map_none]
   refine ac (cb S L (by simp) ?_)
  refine ac ?_
  simp only[newExc,newTuple]
  refine ac (bU ?_ (by size_fits))
  refine ac (m:=i7 _ _) (ki (a:=bI) (by first|rfl|(simp only[i7];rfl)) ?_)
  refine bU ?_ (by size_fits)
  simp only[raiseNew]
  refine ac (wpAny_handled ?_)
  rw[show A.in1.handled=none from W]
  refine ac (af (wpAny_throw ?_))
  refine ac (eV (T := "StopIteration") (b:=ak) ⟨_,az _ rfl,rfl⟩ isSubtype_stop ?_)
  first|(have _:=H;exact af (h _ ((((bj ..).trans (bj ..)).extBut.push _).push _)))|exact af (h _ (((bj ..).extBut.push _).push _))
theorem FQ(x:WkT w it a pl vs i s.heap)(h:Q (.ref it) s):aw (aH P w) A (mC (.ref it)) Q E s:=by
 have X:s.TypeIs (.ref it) "set_iterator" := by
  obtain⟨o,es,f,t,Z,O,B,F,Y,r⟩:=x
  rcases r with⟨_,⟨J,S,N,_⟩,_⟩|⟨_,_,_,ps,⟨J,S,N,_⟩,_⟩|⟨_,_,y,⟨J,S,N,_⟩,_⟩
  ·exact⟨J,S,N⟩
  ·exact⟨J,S,N⟩
  ·exact⟨J,S,N⟩
 refine nZ X NG (ci NG X FJ ?_ (FM _))
 show aw _ _ (ret (.ref it)) _ _ s
 exact af ⟨_,rfl, "set_iterator",_,X,WK.lookup,h⟩
theorem NL(W:A.handled=none)(H:it≠a)(y:it≠pl):WalksS P w A it [it,a,pl] [it] Eq vs.length (λi v=>vs[i]?=aa v) (λi s=>WkT w it a pl vs i s.heap) where
 sub:=λb M=>by rw[f_.mp M];simp
 grefl:=λ_=>rfl
 gtrans:=λ_ _ _=>Eq.trans
 frame:=λi s h' tk st _ k=>WkT.keep st k
 item:=λi s Q E C st c=>FO H y st (ai C) λh' g r=>c _ _ (ai C) g ⟨λb o M e=>(r.2 b (λz=>M (by simp[z]))).trans e,rfl,rfl,rfl,aq _⟩
 done:=λs Q E st c=>FP W st λh' S=>c _ ⟨λb o M e=>S b o (λz=>M (by simp[z])) e,rfl,rfl,rfl,aq _⟩
 self:=λi s Q E st c=>FQ st c
theorem FR(hS:Yi P w s.heap a zs)
  (h:∀ (it pl:ao) (vs:List ag) (c:List aQ) (h':bO) (d:m9),it≠a->it≠pl->s.heap.objs.size<=it->(pl=a\/s.heap.objs.size<=pl)->d0 vs c->c.Perm zs->WkT w it a pl vs 0 h'->(∀ b o,s.heap.get? b=aa o->h'.get? b=aa o)->Q (.ref it) { s with heap:=h',drawn:=d }) :
  aw (aH P w) A (mC (.ref a)) Q E s:=by
 obtain⟨o,es,f,t,Z,Y,O,W,x,r,M,B,h4,T⟩:=hS
 have X:s.TypeIs (.ref a) "set" := ⟨o,Z,Y.1⟩
 have F:=ax Z
 refine nZ X ko (ci ko X FL ?_ (PySem.F.args_set_iter_1 _))
 unfold cZ.«frozenset.__iter__»
 refine ac (m:=nc _ _) (ac (af (af ?_)))
 refine ac (ac (jl Z O B (af ?_)))
 refine ac ?_
 unfold setDrawn
 refine ac (eO Z O B ?_)
 dsimp only
 refine ac (TQ (af ?_))
 have fin:∀ (first:ag) (C:ar) (R:PySem.Fin->ar->Prop) (S:ag->ar->Prop),C.heap.get? a=aa o->R (.done (.ret (.ref C.heap.objs.size))) { C with heap:=C.heap.push { cls:=.type "set_iterator",data:=.fields #[first,bJ 0,.ref a,bJ es.size,bJ f] } } ->
   aw (aH P w) A.in1 (do
    let __do_lift <- setEpoch a
    let __do_lift <- newFields "set_iterator" [first,bJ 0,aG a,bJ es.size,bJ __do_lift]
    ret __do_lift) R S C:=λfirst C R S q H=>by
  refine ac (wpAny_setEpoch_of q O B ?_)
  refine ac ?_
  unfold newFields
  exact bU (af H) (by size_fits)
 show aw _ _ (if (!byT w && (!t.plain && decide (es.size > 1)))=ak then _ else _) _ _ _
 have g:∀ (G:bO) (first:ag) ,XS (G.push { cls:=.type "set_iterator",data:=.fields #[first,bJ 0,.ref a,bJ es.size,bJ f] }) G.objs.size first 0 a es.size f:=λG first=>⟨_,az _ rfl,rfl,rfl⟩
 refine gv (λhd=>?_) λhd=>?_
 ·simp only[aP,jk,decide_eq_true_eq] at hd
  refine ac (NF _ _ _ _ (b9 ..) λps d e=>?_)
  refine ac (wpAny_newTuple ?_ (by rw[ah,e.length_eq,b9];exact gY M))
  refine fin _ _ _ _ (ae _ Z) ⟨_,rfl, "set_iterator",_,⟨_,az _ rfl,rfl⟩,WK.lookup,?_⟩
  have L:ps.length=es.size:=by rw[e.length_eq,b9]
  have J:(aD es.size).map (λp=>(es[p]?.map be).getD bI)=es.toList.map Prod.snd:=by
   refine hJ (by simp) λj I g2=>?_
   have hj:j<es.size:=by simpa using I
   simp[cQ hj]
  have K:(ps.map λp=>(es[p]?.map be).getD bI).Perm (es.toList.map be):=by rw[<- J];exact e.map _
  obtain⟨c,y,N⟩:=TN K x
  have U:(s.heap.push { cls:=.type "tuple",data:=.seq (ps.map λ(i:Nat)=>bJ i).toArray }).objs.size=s.heap.objs.size+1:=bz ..
  have:=h (s.heap.push { cls:=.type "tuple",data:=.seq (ps.map λ(i:Nat)=>bJ i).toArray }).objs.size s.heap.objs.size (ps.map λp=>(es[p]?.map be).getD bI) c _ d (by rw[U];exact bt (bp F)) (by rw[U];exact bt (dg _)) (by rw[U];exact cz _) (.inr (aq _)) y N
   ⟨o,es,f,t,ae _ (ae _ Z),O,B,h4,by rw[ah,L],.inr (.inl ⟨hd.1,hd.2.1,hd.2.2,ps,g _ _,⟨_,_,ae _ (az _ rfl),rfl⟩,by rw[ah],λj p hj=>?_⟩)⟩ λb u q=>ae _ (ae _ q)
  ·exact this
  ·have v:p<es.size:=by
    have:=e.mem_iff.mp (ik hj)
    exact mem_range.mp this
   exact⟨es[p],cQ v,by rw[aW,hj];simp[cQ v]⟩
 ·refine ac (af ?_)
  refine fin _ _ _ _ Z ⟨_,rfl, "set_iterator",_,⟨_,az _ rfl,rfl⟩,WK.lookup,?_⟩
  have D:∀ b u,s.heap.get? b=aa u->(s.heap.push { cls:=.type "set_iterator",data:=.fields #[bJ 0,bJ 0,.ref a,bJ es.size,bJ f] }).get? b=aa u:=λb u q=>ae _ q
  cases hbt:byT w with
  | true =>
   obtain⟨c,y,N⟩:=TN ((ND (w.params.setOrder a f) es).map be) x
   exact h s.heap.objs.size a _ c _ s.drawn (bt F) (bt F) (aq _) (.inl rfl) y N ⟨o,es,f,t,D _ _ Z,O,B,h4,by rw[ah,(ND _ _).length_eq,bb],.inl ⟨hbt,g _ _,rfl⟩⟩ D
  | false =>
   have hz:es.size<=1:=by
    refine nh λq=>hd ?_
    rw[hbt,T (by omega),decide_eq_true q]
    rfl
   have e:t.place.size=es.size:=by simp only[mJ,aP,beq_iff_eq] at B;exact B.1
   refine h s.heap.objs.size a _ zs _ s.drawn (bt F) (bt F) (aq _) (.inl rfl) x (.refl _) ⟨o,es,f,t,D _ _ Z,O,B,h4,by rw[ah,bb],.inr (.inr ⟨hbt,hz,0,g _ _,?_,rfl⟩)⟩ D
   generalize t.place=pl at e
   obtain⟨l⟩:=pl
   match l,e with
   | [],_=>rfl
   | [p],_=>simp[fQ,jY]
   | _::_::_,q=>exact absurd hz (by rw[<- q];simp)
theorem FS(X:s.TypeIs (.ref a) "set"){Q:Bool->ar->Prop}(h:Q aF s):aw (aH P w) A (iV (.ref a)) Q E s:=by
 unfold iV
 refine ac (fb X PySem.F.slot_set_len.lookup ?_)
 generalize hid:("set.__len__" : String)=e
 wp_delta
 rw[show splitId e=aa ("set", "__len__") from by subst hid;decide +kernel]
 subst hid
 refine ac (eV (T := "set") (b:=ak) X (by rw[kZ];kernel_rfl) ?_)
 refine gv (λc=>absurd c (by decide)) (λ_=>?_)
 refine gv (λ_=>?_) (λc=>absurd (by decide +kernel) c)
 refine ac (jM X ?_)
 exact af h
theorem FT{R:List ag->ar->Prop}(W:A.handled=none)(hS:Yi P w s.heap a zs)
  (h:∀ (h':bO) (tk:Nat) (d:m9) (C:List ag) (c:List aQ),(∀ b o,s.heap.get? b=aa o->h'.get? b=aa o)->d0 C c->c.Perm zs->R C { s with heap:=h',toks:=tk,drawn:=d }) :
  aw (aH P w) A (collect (.ref a)) R E s:=by
 have hb:zs.length<=sizeLine:=by
  obtain⟨o,es,f,t,_,_,_,_,x,_,hb,_⟩:=hS
  have:=XR x
  rw[ah,bb] at this
  rw[<- this];exact gY hb
 unfold collect
 refine ac (wpAny_runValue (db entry_proto_collect' ?_))
 rw[cE PySem.F.plain_proto_collect _]
 show aw _ A.in1 (n_ [] >>= λl=>again (.builtin "list.__iadd__" ⟨[l,.ref a],[]⟩)) _ _ s
 refine ac (bU ?_)
 refine af ⟨dO j4 _,db entry_list_iadd' ?_⟩
 rw[cE j4 _]
 have hS₁:(s.heap.push { cls:=.type "list",data:=.seq ([]:List ag).toArray }).get? s.heap.objs.size=aa { cls:=.type "list",data:=.seq #[] }:=az _ rfl
 have hSs:Yi P w (s.heap.push { cls:=.type "list",data:=.seq ([]:List ag).toArray }) a zs:=hS.moved λo e=>ae _ e
 have F:a<s.heap.objs.size:=by obtain⟨o,_,_,_,Z,_⟩:=hS;exact ax Z
 have X:∀ (s2:ar),(∀ o,s.heap.get? a=aa o->s2.heap.get? a=aa o)->s2.TypeIs (.ref a) "set" := λs2 k=>by obtain⟨o,_,_,_,Z,Y,_⟩:=hS;exact⟨o,k o Z,Y.1⟩
 show aw _ A.in1 (iW (.ref s.heap.objs.size) (.ref a) (.ref s.heap.objs.size)) _ _ _
 unfold iW
 refine ac (jM (T := "set") (X _ λo e=>ae _ e) ?_)
 have Z:jf (.ref s.heap.objs.size) (.ref a)=false:=by simp[jf,bt F]
 have O:(cY "set" == cY "list")=false:=by decide
 have B:(cY "set" == cY "tuple")=false:=by decide
 simp only[Z,O,B,nW,bn,if_false]
 refine ac (FR hSs λit pl vs c h' d H y Q m x u wk hk=>?_)
 refine ac (bF (FS (X _ λo e=>hk _ _ (ae _ e)) ?_))
 have hsz:(s.heap.push { cls:=.type "list",data:=.seq ([]:List ag).toArray }).objs.size=s.heap.objs.size+1:=bz ..
 have hSi:s.heap.objs.size≠it:=λz=>by have G:(s.heap.push { cls:=.type "list",data:=.seq ([]:List ag).toArray }).objs.size<=it:=Q;rw[hsz,<- z] at G;exact absurd G (lR _)
 have hSp:s.heap.objs.size≠pl:=λz=>by
  rcases m with e|e
  ·exact absurd F (by rw[<- e,<- z];exact cA _)
  ·have G:(s.heap.push { cls:=.type "list",data:=.seq ([]:List ag).toArray }).objs.size<=pl:=e
   rw[hsz,<- z] at G;exact absurd G (lR _)
 have U:s.heap.objs.size∉[it,a,pl]:=by simp only[gh,fm,or_false,not_or];exact⟨hSi,bt F,hSp⟩
 have hvl:vs.length<=sizeLine:=by rw[XR x,u.length_eq];exact hb
 have I:h'.get? s.heap.objs.size=aa { cls:=.type "list",data:=.seq #[] }:=hk _ _ hS₁
 have hold:∀ b o,s.heap.get? b=aa o->h'.get? b=aa o:=λb o e=>hk _ _ (ae _ e)
 have itn:s.heap.get? it=none:=dy (aT (cz _) (by show s.heap.objs.size+1<=it;rw[<- hsz];exact Q))
 have K:∀ (M:ar) (p:Array ag) (c':Nat) (O:bO) ,(∀ b o,b≠s.heap.objs.size->h'.get? b=aa o->O.get? b=aa o)->Moved (s.heap.objs.size::[it]) Eq { s with heap:=O,drawn:=d } M->M.heap.get? s.heap.objs.size=aa { cls:=.type "list",dict:=none,data:=.seq p c',slots:=#[] }->ItemsOf (λi v=>vs[i]?=aa v) p vs.length ->
   aw (aH P w) A (load s.heap.objs.size >>= λo=>match o.data with|.seq xs _=>ej xs.toList|_=>unsupported "internal:collect") R E M:=λM p c' O k2 S g r=>by
  refine ac (wpAny_load g ?_)
  have e:p.toList=vs:=by
   refine mO λj=>?_
   rw[fq]
   by_cases q:j<p.size
   ·have:=r.2 j p[j] (cQ q)
    rw[cQ q];exact this.symm
   ·rw[fa (by omega),eW (by have:=r.1;omega)]
  have em:M={ s with heap:=M.heap,toks:=M.toks,drawn:=d }:=by
   obtain⟨D,g',d',t',o'⟩:=M
   have e1:s.gens=g':=S.gens
   have N:d'=d:=S.drawn
   have L:o'=s.os:=S.os
   subst e1 N L
   rfl
  show aw _ _ (ej p.toList) _ _ _
  rw[e,em]
  exact af (h _ _ _ vs c (λb o q=>S.heap b o (by
   simp only[gh,fm,or_false,not_or]
   exact⟨aE (ax q),λz=>by rw[z,itn] at q;cases q⟩) (k2 b o (aE (ax q)) (hold b o q))) x u)
 have J:A.in1.handled=none:=W
 refine gv (λ_=>?_) λ_=>?_
 ·refine ac (dm ?_)
  refine ac ?_
  show aw _ _ (lX s.heap.objs.size (·.push .none) >>= λ_=>lX s.heap.objs.size (·.pop)) _ _ _
  refine ac (gu I rfl ?_)
  have hS₂:=a8 (eK (·.push bI)) I rfl
  refine gu (hz:=by seq_fits) hS₂ rfl ?_
  have hS₃:=a8 (eK (·.pop)) hS₂ rfl
  have k3:∀ b o,b≠s.heap.objs.size->h'.get? b=aa o->((h'.update s.heap.objs.size (eK (·.push bI))).update s.heap.objs.size (eK (·.pop))).get? b=aa o:=λb o hb e =>
   (bd _ _ (bR hb)).trans ((bd _ _ (bR hb)).trans e)
  refine af ⟨dO jH _,m4 (NL J H y) hvl s.heap.objs.size U _ vs.length 0 _ #[] _ rfl (bP _) (wk.keep λb hb o e=>k3 b o (λz=>U (z▸hb)) e) hS₃ (nD _) λM p c' S g r=>?_⟩
  exact K M p c' _ k3 S g r
 ·refine af ⟨dO jH _,m4 (NL J H y) hvl s.heap.objs.size U _ vs.length 0 _ #[] _ rfl (bP _) wk I (nD _) λM p c' S g r=>?_⟩
  exact K M p c' _ (λ_ _ _ e=>e) S g r
variable{Q:TV->Prop}
section
open PySem.Calls
theorem Inv.keptD{X:Cx}{σ:St}{d:m9}(I:'#')(k:∀ b u,s.heap.get? b=aa u->h'.get? b=aa u):Inv X pins σ H { s with heap:=h',toks:=t',drawn:=d } :=
 let J:=I.kept (t':=t') k
 ⟨J.ok,J.os,J.bare,J.base,J.loc,J.cell,J.free,J.freeC,J.pin,J.hok,J.len⟩
def hST(P:bC)(w:bV)(p:ao)(zs:List aQ):HO:=.ext λh=>Yi P w h p zs
theorem FU{p:ao}(x:Yi P w h p zs):Zx P w H h p (hST P w p zs) :=
 ⟨x,let ⟨o,_,_,_,q,_⟩:=x;⟨o,q⟩,λZ O y k=>y.moved k⟩
theorem RX:∀ {zs:List aQ} {vs:List ag},Zi (zs.map V.str) vs->d0 vs zs
 | [],_,.nil=>.nil
 | z::zs,_,.cons r t=>by
  obtain⟨t',rfl⟩:=r
  exact .cons z t' (RX t)
def NM(P:bC)(w:bV)(K:aJ):List V->Hp->VK->Prop:=λxs H Q=>∃ (l:ao) (ns:List aQ),xs=[.ref l]/\SqL K H l (ns.map V.str)/\ns.length<=4000/\∀ p zs,H p=none->zs.Nodup->(∀ y,y∈zs↔y∈ns)->zs.length<=ns.length->Q (.ref p) (upd H p (hST P w p zs))
theorem RY{X:Cx}(y:X.prog=P)(hw:X.w=w)(hK:X.K=K)(Y:X.calm=ak):ZD X (.type "set") (NM P w K):=by
 subst y hw hK
 intro L s U H xs us Q I r h
 obtain⟨l,ns,rfl,m,hz,q⟩:=h
 obtain⟨u,rfl,N⟩:=r.one
 cases (show u=aG l from N)
 obtain⟨f,T,pl,_⟩:=I.list m
 have C:=RX T
 have D:f.toArray.size=ns.length:=by rw[aR];exact XR C
 refine FH (I.ok.hd Y) (.inl pl.isList) (by simpa using C) (by rw[D];unfold fj;omega) λh' tk zs a S v R=>?_
 have g:H s.heap.objs.size=none:=I.hok.fresh (aq _)
 have J:zs.Nodup:=by obtain⟨_,_,_,_,_,_,_,_,_,J,_⟩:=a;exact J
 exact⟨.ref s.heap.objs.size,_,I.laid (t':=tk) (o:=hST X.prog X.w s.heap.objs.size zs) (λb o e=>R b o (ax e) e) (aq _) (FU a),rfl,q _ zs g J S v⟩
theorem NN{X:Cx}{σ:St}{Q:VK}{C:List ag}{tk:Nat}{d:m9}(J:Inv X pins σ H { s with heap:=h',toks:=tk,drawn:=d })(j:d0 C zs)(i:zs.length<64)
  (q:∀ p (ys:List aQ),H p=none->ys.Perm zs->dE ys=ak->Q (.ref p) (upd H p (.lst (ys.map V.str)))) :
  aw (aH X.prog X.w) X.A.in1 (do
   let l <- n_ C
   let _ <- jQ [l] (call (.builtin "list.sort") [l] [])
   ret l) (λfin s'=>∃ v,fin=.done (.ret v)/\EP X pins σ Q v s') E { s with heap:=h',toks:=tk,drawn:=d }:=by
 have D:C.length=zs.length:=XR j
 refine ac (wpAny_newList ?_ (by rw[D,dG];omega))
 have c:(h'.push (seqObj "list" C.toArray 0)).get? h'.objs.size=aa (seqObj "list" C.toArray 0):=az _ rfl
 show aw _ _ _ _ _ { s with heap:=h'.push (seqObj "list" C.toArray 0),toks:=tk,drawn:=d }
 refine ac (bF (ci slot_list_sort ⟨_,c,rfl⟩ entry_list_sort (list_sort_treeK strKind_oneLt c j.keysOf (λv₁ v₂ K e=>keyKind_strs (by rw[<- e];exact j)) (by rw[D];exact i) λg U m=>⟨_,rfl,?_⟩) (args_list_sort _)))
 obtain⟨f,Z,O,B⟩:=sorted_out_str j U m
 obtain⟨h,G⟩:=sortedHeap_at (vs:=C) (out:=(arrOf g).map (·.2)) c
 refine af ⟨_,rfl,.ref h'.objs.size,_,J.laid (a:=h'.objs.size) (o:=.lst (f.map V.str)) (t':=tk) (λb o S=>?_) (aq _) ⟨?_,_,h,Nu Z,by rw[Array.toArray_toList];exact G⟩,rfl,q _ _ (J.hok.fresh (aq _)) O B⟩
 ·have S:h'.get? b=aa o:=S
  have M:=ax S
  rw[sortedHeap_old (aE M) (by rw[size_push'];exact bp M)]
  exact ae _ S
 ·rw[ah,O.length_eq]
  exact aT (cP i) (by rw[dG];decide)
def NO(P:bC)(w:bV):List V->Hp->VK->Prop:=λxs H Q=>∃ (a:ao) (zs:List aQ),xs=[.ref a]/\H a=aa (hST P w a zs)/\zs.length<64/\∀ p (ys:List aQ),H p=none->ys.Perm zs->dE ys=ak->Q (.ref p) (upd H p (.lst (ys.map V.str)))
theorem NQ{X:Cx}(y:X.prog=P)(hw:X.w=w)(Y:X.calm=ak):ZD X (.builtin "sorted") (NO P w):=by
 subst y hw
 intro L s U H xs us Q I b h
 obtain⟨a,zs,rfl,e,i,q⟩:=h
 obtain⟨u,rfl,N⟩:=b.one
 cases N
 have f:Yi X.prog X.w s.heap a zs:=(I.hok _ _ e).1
 refine iB kind_sorted plain_sorted entry_sorted (args_sorted1 _) ?_
 unfold cZ.«sorted»
 refine ac (m:=checkCount "sorted" 1 1 _) (af ?_)
 refine ac (FT (A:=X.A.in1) (I.ok.hd Y) f λh' tk d j c R C T=>?_)
 have J:Inv X L U H { s with heap:=h',toks:=tk,drawn:=d }:=I.keptD R
 exact NN J C (by rw[T.length_eq];exact i) λp ys g Z O=>q p ys g (Z.trans T) O
def NS(K:aJ):List V->Hp->VK->Prop:=λxs H Q=>∃ (a:ao) (zs:List aQ),xs=[.ref a]/\SqL K H a (zs.map V.str)/\zs.length<64/\∀ p (ys:List aQ),H p=none->ys.Perm zs->dE ys=ak->Q (.ref p) (upd H p (.lst (ys.map V.str)))
theorem FV{X:Cx}(hK:X.K=K):ZD X (.builtin "sorted") (NS K):=by
 subst hK
 intro L s U H xs us Q I T h
 obtain⟨a,zs,rfl,e,i,q⟩:=h
 obtain⟨u,rfl,N⟩:=T.one
 cases (show u=aG a from N)
 obtain⟨f,T,pl,_⟩:=I.list e
 have C:=RX T
 refine iB kind_sorted plain_sorted entry_sorted (args_sorted1 _) ?_
 unfold cZ.«sorted»
 refine ac (m:=checkCount "sorted" 1 1 _) (af ?_)
 refine ac (collect_list (A:=X.A.in1) (vs:=f) pl.isList ?_ (by rw[XR C,dG];omega))
 have J:Inv X L U H { s with heap:=(s.heap.push (seqObj "list" #[] 0)).update s.heap.objs.size (eK (·++f.toArray)),toks:=s.toks,drawn:=s.drawn }:=I.keptD λb o q=>by
  rw[cO _ _ _ _ (aE (ax q))]
  exact ae _ q
 exact NN J C i q
end
variable {a:TV}{E:FK}
theorem Rep.strsL{v:V}(h:Rep K H v (.list (zs.map .str))):∃ l,v=.ref l/\SqL K H l (zs.map V.str):=by
 cases h with
 | @lst a xs ds Z O =>
  refine⟨a,rfl,?_⟩
  have:xs=zs.map V.str:=by
   clear Z
   induction zs generalizing xs with
   | nil=>cases O;rfl
   | cons k ks E=>cases O with
    | cons r rs=>rw[Rep.str_inv r,E rs];rfl
  rw[<- this];exact Z
def RZ(P:bC)(w:bV)(zs:List aQ):V->Hp->Prop:=λv H=>∃ p,v=.ref p/\H p=aa (hST P w p zs)
theorem SR.pushObj{σ:L2.St}{o:HO}(h:'!' ts as H)(D:H l=none)(c:∀ G:Hp,G l=aa o->φ (.ref l) G)(P:∀ G1 G2:Hp,Zf G1 G2->φ (.ref l) G1->φ (.ref l) G2):'!' (.ref l::ts) (.av (.obj φ)::as) (upd H l o):=by
 obtain⟨⟨p,q,Z,O,B,F⟩,e⟩:=h
 have a:p l+q l=0:=by
  rcases aX (p l+q l) with w|w
  ·exact w
  ·obtain⟨_,w,_⟩:=SR.lsts Z O l w;rw[D] at w;cases w
 have T:Zf H (upd H l o):=Yk D
 have m:Zf (L2.hid H p q) (L2.hid (upd H l o) p q):=Wy T
 refine⟨⟨p,q,Z.mono m (λb o _=>T b o),.cons (.av (.obj (p:=λ_=>0) (c _ ?_) P λ_=>rfl)) (O.mono m T) (λb=>by simp),B,F⟩,e.trans T⟩
 unfold L2.hid
 rw[if_pos a]
 exact Zw
theorem R0{ns:List aQ}(ha:a.data=.list (ns.map .str))(hz:ns.length<=4000)(q:∀ zs:List aQ,zs.Nodup->(∀ y,y∈zs↔y∈ns)->zs.length<=ns.length->Q (.av (.obj (RZ P w zs))))(na:NR a:=by first|exact NR.av|exact NR.bor):Bi K E X (NM P w K) [a] Q:=λI U Y ts as H vs QV s D _ k=>by
 obtain⟨v,rfl,s⟩:=Ym s D
 have r:=s.top na
 rw[ha] at r
 obtain⟨l,rfl,b⟩:=Rep.strsL r
 exact⟨l,ns,rfl,b,hz,λp zs T Z O B=>k _ (q zs Z O B) _ _ (s.pop.pushObj T (λG e=>⟨p,rfl,e⟩) λG1 G2 m ⟨p',e1,e2⟩=>⟨p',e1,m _ _ e2⟩)⟩
theorem NT(hz:zs.length<64)(q:∀ ys:List aQ,ys.Perm zs->dE ys=ak->Q (.av (.own (ys.map λz=>.d (.str z))))):Bi K E X (NO P w) [.av (.obj (RZ P w zs))] Q:=λI U Y ts as H vs QV s D _ j=>by
 obtain⟨v,rfl,s⟩:=Ym s D
 have:∃ p,v=.ref p/\H p=aa (hST P w p zs):=by
  obtain⟨⟨p,q,Z,O,B,F⟩,e⟩:=s
  cases O with
  | cons r _ _ =>
   cases r with
   | av r =>
    cases r with
    | obj f _ _ =>
     obtain⟨p',S,N⟩:=f
     exact⟨p',S,Yh _ _ N⟩
 obtain⟨p,rfl,T⟩:=this
 exact⟨p,zs,rfl,T,hz,λp' ys g Z O=>j _ (q ys Z O) _ _ (((SR.pop s).strs ys).new (by simp) g)⟩
theorem FW(ha:a.data=.list (zs.map .str))(hz:zs.length<64)(q:∀ ys:List aQ,ys.Perm zs->dE ys=ak->Q (.av (.own (ys.map λz=>.d (.str z)))))(na:NR a:=by first|exact NR.av|exact NR.bor):Bi K E X (NS K) [a] Q:=λI U Y ts as H vs QV s D _ j=>by
 obtain⟨v,rfl,s⟩:=Ym s D
 have r:=s.top na
 rw[ha] at r
 obtain⟨l,rfl,m⟩:=Rep.strsL r
 exact⟨l,zs,rfl,m,hz,λp' ys g Z O=>j _ (q ys Z O) _ _ (((SR.pop s).strs ys).new (by simp) g)⟩
def NU:R2:=λx y H Q=>∃ (z:aQ) (k:Int),x=.str z/\y=.int k/\0<=k/\k<=1000/\0<z.length/\z.length<=1000/\Q (.str (YI z k.toNat)) H
theorem NV{X:Cx}:OpR X (c4 .Mult) NU:=by
 intro L s U H x y v u Q I A R h
 obtain⟨z,k,S,N,k2,k3,i,M,q⟩:=h
 by_cases O:2<=k
 ·exact Fl L s U H x y v u Q I A R ⟨z,k,S,N,O,k3,i,M,q⟩
 subst S N
 obtain⟨t,rfl⟩:=A
 obtain⟨t',rfl⟩:=R
 by_cases Z:k=1
 ·subst Z
  refine mf (by decide) (λ_ e=>absurd e (by simp)) (λ_ e=>absurd e (by simp)) ?_
  rw[if_neg (by decide),if_pos (by simp)]
  refine⟨.str z,H,I,⟨_,rfl⟩,?_⟩
  have:YI z (1:Int).toNat=z:=by
   show (⟨#[]++z.cps⟩:aQ)=z
   rw[lW]
  rw[this] at q
  exact q
 ·have G:k=0:=by omega
  subst G
  exact PySem.P.mul_str_none (by decide) (by decide) ⟨.str _,H,I.tok _,⟨_,rfl⟩,q⟩
theorem NW{k:Int}(ha:a.data=.str z)(hb:b.data=.int k)(R:0<=k/\k<=1000)(hz:0<z.length/\z.length<=1000)(q:Q (.av (.d (.str (YI z k.toNat)))))(na:NR a:=by first|exact NR.av|exact NR.bor)(h:NR b:=by first|exact NR.av|exact NR.bor):Op K E X NU a b Q:=λI U Y ts as H x y QV s _ j=>by
 have Z:=s.pop.top na
 have O:=s.top h
 rw[ha] at Z
 rw[hb] at O
 exact⟨z,k,L2.Rep.str_inv Z,O.int_inv,R.1,R.2,hz.1,hz.2,j _ q _ _ (s.pop.pop.push λ_=>.str _)⟩
def ZM(K:aJ)(x:aQ)(st:gK):Prop:=∃ (f:ao) (oc od kV doc pm an cd ct sl:_),bL K au x=aa (aa (.ref f))/\K.lookup f=aa ⟨oc,od,.func (bA x x (Z1 st) (ZC st) (Ze st) .none kV doc pm an cd ct),sl⟩/\dj K cd x=ak/\cX K (.ref f)=ak
theorem FX{f:ao}{oc od kV doc pm an cd ct sl}(a:bL K au x=aa (aa (.ref f)))(l:K.lookup f=aa ⟨oc,od,.func (bA x x (Z1 st) (ZC st) (Ze st) .none kV doc pm an cd ct),sl⟩)(c:dj K cd x=ak)(k:cX K (.ref f)=ak):ZM K x st:=⟨_,_,_,_,_,_,_,_,_,_,a,l,c,k⟩
theorem ZQ(X:K.In h)(G:h.Ns au mg)(d:ZM K x st)
  (hb:∀ kV doc pm an cd ct (us:List ag),us.length=ps.length->m5 (bA x x (Z1 st) (ZC st) (Ze st) .none kV doc pm an cd ct) ⟨us,[]⟩=ej (ps.zip us)):Tx K mg x st ps [[]] :=
 let ⟨_,_,_,_,_,_,_,_,_,_,a,l,c,k⟩:=d
 Js X G a l c k (hb _ _ _ _ _ _)
def NY(K:aJ):List V->Hp->VK->Prop:=λxs H Q=>∃ (l:ao) (ns:List Int),xs=[.ref l]/\SqL K H l (ns.map V.int)/\Q (.int ns.sum) H
theorem Uh{X:Cx}(hK:X.K=K)(Y:X.calm=ak):ZD X (.builtin "sum") (NY K):=by
 subst hK
 intro L s U H xs us Q I T h
 obtain⟨l,ns,rfl,m,q⟩:=h
 obtain⟨u,rfl,N⟩:=T.one
 cases N
 obtain⟨f,rs,pl,hz⟩:=I.list m
 have B:=KD rs
 obtain⟨ys,e⟩:=B.allInts.items
 have D:=pl.isList
 rw[e] at D
 have g:PySem.numsOf (intItems ys).toList=ns:=by rw[<- e];exact B.numsOf
 rw[nums_intItems] at g
 refine sum_intListG (I.ok.hd Y) D λh' tk t' R=>⟨.int ns.sum,H,I.kept (t':=tk) R,⟨t',?_⟩,q⟩
 rw[preSum_eq,g,kS (by rw[<- g];simp)]
theorem FY{X:Cx}(Y:X.calm=ak):ZD X (.builtin "max") (λxs H Q=>∃ i j k,xs=[.int i,.int j,.int k]/\Q (.int (kG (kG i j) k)) H):=by
 intro L s U H xs us Q I r h
 obtain⟨i,j,k,rfl,q⟩:=h
 cases r with
 | cons g r =>
 cases r with
 | cons G r =>
 cases r with
 | cons A r =>
 cases r
 obtain⟨t,rfl⟩:=g
 obtain⟨t',rfl⟩:=G
 obtain⟨t2,rfl⟩:=A
 refine max_three_ints (I.ok.hd Y) λh' tk R=>⟨_,H,I.kept R,?_,q⟩
 by_cases u:j > i
 ·rw[if_pos u]
  by_cases W:k > j
  ·rw[if_pos W,show kG (kG i j) k=k by omega];exact⟨_,rfl⟩
  ·rw[if_neg W,show kG (kG i j) k=j by omega];exact⟨_,rfl⟩
 ·rw[if_neg u]
  by_cases W:k > i
  ·rw[if_pos W,show kG (kG i j) k=k by omega];exact⟨_,rfl⟩
  ·rw[if_neg W,show kG (kG i j) k=i by omega];exact⟨_,rfl⟩
def NZ(P:bC)(w:bV):List V->Hp->VK->Prop:=λxs H Q=>∃ (p:ao) (zs:List aQ),xs=[.ref p]/\H p=aa (hST P w p zs)/\Q (.int zs.length) H
theorem FZ{X:Cx}(y:X.prog=P)(hw:X.w=w):ZD X (.builtin "len") (NZ P w):=by
 subst y hw
 intro L s U H xs us Q I r h
 obtain⟨p,zs,rfl,T,q⟩:=h
 obtain⟨u,rfl,N⟩:=r.one
 cases N
 obtain⟨o,es,f,t,S,Y,hd,_,a,_,M,B,_⟩:=(show Yi X.prog X.w s.heap p zs from (I.hok _ _ T).1)
 have g:es.size=zs.length:=by have:=XR a;rw[ah,bb] at this;exact this
 refine lF S Y hd B (by unfold fj at M;omega) ⟨.int es.size,H,I.tok _,⟨_,rfl⟩,?_⟩
 rw[g]
 exact q
theorem Ui(ha:a.data=.list (ns.map .int))(q:Q (.av (.d (.int ns.sum))))(na:NR a:=by first|exact NR.av|exact NR.bor):Bi K E X (NY K) [a] Q:=λI U Y ts as H vs QV s D _ k=>by
 obtain⟨v,rfl,s⟩:=Ym s D
 have r:=s.top na
 rw[ha] at r
 obtain⟨l,xs,rfl,Z,O⟩:=r.list_inv
 rw[Reps.ints_inv O] at Z
 exact⟨l,ns,rfl,Z,k _ q _ H (s.pop.int _)⟩
theorem F0(q:Q (.av (.d (.int zs.length)))):Bi K E X (NZ P w) [.av (.obj (RZ P w zs))] Q:=λI U Y ts as H vs QV s D _ k=>by
 obtain⟨v,rfl,s⟩:=Ym s D
 have:∃ p,v=.ref p/\H p=aa (hST P w p zs):=by
  obtain⟨⟨p,q,Z,O,B,F⟩,e⟩:=s
  cases O with
  | cons r _ _ =>
   cases r with
   | av r =>
    cases r with
    | obj f _ _ =>
     obtain⟨p',S,N⟩:=f
     exact⟨p',S,Yh _ _ N⟩
 obtain⟨p,rfl,e⟩:=this
 exact⟨p,zs,rfl,e,k _ q _ _ (s.pop.int _)⟩
theorem F1{i m:Int}(q:Q (.av (.d (.int (kG (kG i j) m))))):Bi K E X (λxs H Q=>∃ i j k,xs=[.int i,.int j,.int k]/\Q (.int (kG (kG i j) k)) H) [.av (.d (.int i)),.av (.d (.int j)),.av (.d (.int m))] Q:=λI U Y ts as H vs QV s D _ k=>by
 match vs,D with
 | [v,w,y],_ =>
  have M:SR K I U Y (v::w::y::ts) (.av (.d (.int i))::.av (.d (.int j))::.av (.d (.int m))::as) H:=s
  have S:=M.top_d.int_inv
  have N:=M.pop.top_d.int_inv
  have L:=M.pop.pop.top_d.int_inv
  subst S N L
  exact⟨i,j,m,rfl,k _ q _ _ (M.pop.pop.pop.int _)⟩
theorem Uj(h:∀ a us,us.length=n->p (a::us)):∀ us,us.length=n+1->p us:=λus D=>by
 cases us with
 | nil=>cases D
 | cons a us=>exact h a us (iK D)
theorem ls0(h:p []):∀ us:List α,us.length=0->p us:=λus D=>by rw[List.length_eq_zero_iff.mp D];exact h
theorem lsS(f:∀ us:List α,us.length=n->p us):∀ us:List α,us.length+1=n+1->p us:=λus D=>f us (iK D)
theorem ls1(h:∀ a,p [a]):∀ us:List α,us.length=1->p us:=Uj λa=>ls0 (h a)
theorem ls2(h:∀ a b,p [a,b]):∀ us:List α,us.length=2->p us:=Uj λa=>ls1 (h a)
theorem ls3(h:∀ a b c,p [a,b,c]):∀ us:List α,us.length=3->p us:=Uj λa=>ls2 (h a)
theorem ls4(h:∀ a b c d,p [a,b,c,d]):∀ us:List α,us.length=4->p us:=Uj λa=>ls3 (h a)
theorem ls5(h:∀ a b c d e,p [a,b,c,d,e]):∀ us:List α,us.length=5->p us:=Uj λa=>ls4 (h a)
section
variable{bk:Sl->Prop}{o:Option AV}{x:aj}
theorem N1{l:List α}{x:α}(h:l[i]?=aa x):i<l.length:=(List.getElem?_eq_some_iff.mp h).1
theorem g_o(h:ρ[n]?=aa (aa (.own xs)))(q:Q (.bor (.list (AV.datas xs)))):Ev K E X (ZN n) ρ Q:=P6 h q
theorem g_k(h:ρ[n]?=aa (aa (.dic kvs)))(q:Q (.bor (.dict kvs))):Ev K E X (ZN n) ρ Q:=P6 h q
theorem g_a(G:ρ[n]?=aa o)(h:Ev K E X te ρ λa=>∃ Q,Sto ρ a Q/\nx (ρ.set n (aa Q))):Sv K E X (YZ te (Xn n)) ρ ⟨nx,rt,bk,ct⟩:=Iu h (N1 G)
theorem g_g{P:Sl->Prop}(G:ρ[n]?=aa o)(h:P (ρ.set n (aa (.d x)))):Gv K (Xn n) x ρ P:=Od h (N1 G)
theorem g_ap(G:ρ[n]?=aa (aa (.own xs)))(h:Ev K E X te ρ λa=>∃ Q,a.sto=aa Q/\xs.length<=1000000/\nx (ρ.set n (aa (.own (xs++[Q]))))):Sv K E X (XD (tBM K "list" SJ (ZN n) (YG te Y0))) ρ ⟨nx,rt,bk,ct⟩:=Ix G h
theorem g_rv(G:ρ[n]?=aa (aa (.own xs)))(h:nx (ρ.set n (aa (.own xs.reverse)))):Sv K E X (XD (UO K "list" SK (ZN n))) ρ ⟨nx,rt,bk,ct⟩:=Iy G h
theorem g_ro(G:ρ[n]?=aa (aa (.own xs)))(q:rt (.av (.own xs))):Sv K E X (Vy (ZN n)) ρ ⟨nx,rt,bk,ct⟩:=Iz G q
def Hd(p:Prop):Prop:=p
def Im(R N:Sl->Prop):Prop:=∀ ρ,R ρ->N ρ
theorem N2{N R:Sl->Prop}(h:Im R N)(r:R ρ):Hd (N ρ):=h _ r
theorem F2{t:TS}(h:∀ N:Sl->Prop,Im (λL=>Sv K E X u L ⟨nx,rt,bk,ct⟩) N->Sv K E X t ρ ⟨λL=>Hd (N L),rt,bk,ct⟩):Sv K E X (UG t u) ρ ⟨nx,rt,bk,ct⟩:=IY (h _ λ_ z=>z)
end
end L2
section
end
section
end
section
end
section
end
section
end
section
end
section
end
section
end
section
end
section
end
section
end
section
end
section
end
section
end
section
end
section
end
section
end
section
end
section
end
section
end
section
end
section
end
section
end
section
end
section
end
section
end
section
end
section
end
section
end
section
end
section
end
section
end
section
end
section
end
section
end
section
end
section
end
section
end
section
end
section
end
section
end
section
end
section
end
section
end
section
end
section
end
section
end
section
end
section
end
section
end
section
end
section
end
section
end
section
end
section
end
section
end
section
end
section
end
section
end
section
end
section
end
section
end
section
end
section
end
section
end
section
end
section
end
section
end
section
end
section
end
section
end
section
end
section
end
section
end
section
end
section
end
section
end
section
set_option exponentiation.threshold 2000
namespace K32
local macro_rules|`(tactic|omega)=>`(tactic|first|assumption|lia|omega (config:={}))
open PySem L2
def top(i:Nat):Stmt:=PySem.Challenge.pw_figurewheel_k32_sums.main.body.getD i (.Pass ⟨0,0,0,0⟩)
abbrev Uk:Stmt:=(Fa (top 4)).getD 0 (.Pass ⟨0,0,0,0⟩)
theorem F3:FnScope ["self", "many"] ["self", "many"] (Ze Uk):='&'
abbrev R1:Stmt:=top 9
theorem N3:FnScope ["base"] ["base"] (Ze R1):='&'
abbrev Ul:Stmt:=top 10
theorem TR:FnScope ["place", "base", "figures", "rest"] ["place", "base"] (Ze Ul):='&'
abbrev Um:Stmt:=top 11
theorem TU:FnScope ["figures", "base", "number", "figure"] ["figures", "base"] (Ze Um):='&'
abbrev R3:Stmt:=top 12
theorem F4:FnScope ["figures", "length"] ["figures", "length"] (Ze R3):='&'
abbrev R4:Stmt:=top 13
theorem F5:FnScope ["lists", "index"] ["lists", "index"] (Ze R4):='&'
abbrev Uo:Stmt:=top 14
theorem TW:FnScope ["places", "base", "written", "length", "lines"] ["places", "base"] (Ze Uo):='&'
abbrev Up:Stmt:=top 15
theorem F6:FnScope ["column", "base"] ["column", "base"] (Ze Up):='&'
abbrev Uq:Stmt:=top 16
theorem F7:FnScope ["code", "many", "base"] ["code", "many", "base"] (Ze Uq):='&'
abbrev R5:Stmt:=top 19
theorem Ur:FnScope ["machine", "letters", "rows", "room", "letter"] ["machine", "letters"] (Ze R5):='&'
abbrev R6:Stmt:=top 20
theorem F8:FnScope ["machine", "letters"] ["machine", "letters"] (Ze R6):='&'
abbrev R7:Stmt:=top 22
theorem WL:FnScope ["start", "letters", "lead", "most", "met", "numbers", "rows", "row", "letter", "thing"] ["start", "letters", "lead", "most"] (Ze R7):='&'
abbrev R8:Stmt:=top 23
theorem N4:FnScope ["start", "letters", "lead", "sign", "most", "told"] ["start", "letters", "lead", "sign", "most"] (Ze R8):='&'
abbrev Y6:Stmt:=top 24
theorem WM:FnScope ["machine", "stands", "rows", "signs", "lead", "sign"] ["machine", "stands"] (Ze Y6):='&'
abbrev Wb:Stmt:=(ZC Y6).getD 2 (.Pass ⟨0,0,0,0⟩)
theorem F9:FnScopeF ["room", "letter", "stands", "rows"] ["room", "letter"] (Ze Wb):=⟨rfl,rfl,rfl,by decide +kernel,rfl,by decide +kernel⟩
theorem Eb:Yu ["machine", "stands", "rows", "signs", "lead", "sign"] (Ze Y6) (Ze Wb) ["room", "letter", "stands", "rows"] [none,none,aa 1,aa 2]=true:=by decide +kernel
theorem Ec:∀ y∈(Ze Wb).names,y.2=.free->(Ze Y6).names.lookup y.1=aa .cell\/(Ze Y6).names.lookup y.1=aa .free:=by decide +kernel
abbrev Wc:Stmt:=(ZC Y6).getD 3 (.Pass ⟨0,0,0,0⟩)
theorem Ed:FnScopeF ["room", "signs"] ["room"] (Ze Wc):=⟨rfl,rfl,rfl,by decide +kernel,rfl,by decide +kernel⟩
theorem Ee:Yu ["machine", "stands", "rows", "signs", "lead", "sign"] (Ze Y6) (Ze Wc) ["room", "signs"] [none,aa 3]=true:=by decide +kernel
theorem Ef:∀ y∈(Ze Wc).names,y.2=.free->(Ze Y6).names.lookup y.1=aa .cell\/(Ze Y6).names.lookup y.1=aa .free:=by decide +kernel
abbrev R9:Stmt:=top 25
theorem Wd:FnScope ["things", "firsts", "index", "thing"] ["things"] (Ze R9):='&'
abbrev Qa:Stmt:=top 26
theorem Eg:FnScope ["rows", "alike"] ["rows", "alike"] (Ze Qa):='&'
abbrev Qb:Stmt:=top 27
theorem Us:FnScope ["machine", "alike", "many"] ["machine"] (Ze Qb):='&'
abbrev Qc:Stmt:=top 28
theorem Eh:FnScope ["machine"] ["machine"] (Ze Qc):='&'
abbrev Qd:Stmt:=top 29
theorem Ei:FnScope ["start", "letters", "lead", "sign", "most"] ["start", "letters", "lead", "sign", "most"] (Ze Qd):='&'
abbrev Qf:Stmt:=top 32
theorem TX:FnScope ["base", "names", "many", "name"] ["base", "names"] (Ze Qf):='&'
abbrev Qh:Stmt:=top 33
theorem Ej:FnScope ["names"] ["names"] (Ze Qh):='&'
abbrev Qi:Stmt:=top 34
theorem Ek:FnScope ["base", "names"] ["base", "names"] (Ze Qi):='&'
abbrev Qj:Stmt:=top 35
theorem Qk:FnScope ["relation", "places", "base", "codes"] ["relation", "places"] (Ze Qj):='&'
abbrev Ql:Stmt:=top 36
theorem N5:FnScope ["relation", "known", "name"] ["relation", "known"] (Ze Ql):='&'
abbrev Qm:Stmt:=top 38
theorem El:FnScope ["truth"] ["truth"] (Ze Qm):='&'
abbrev Qn:Stmt:=top 39
theorem Em:FnScope ["names", "column", "left", "right"] ["names", "column", "left", "right"] (Ze Qn):='&'
abbrev Y7:Stmt:=top 40
theorem XT:FnScope ["base", "left", "right", "word", "names", "letters", "gains", "bound", "lead", "sign"] ["base", "left", "right", "word"] (Ze Y7):='&'
abbrev We:Stmt:=(ZC Y7).getD 6 (.Pass ⟨0,0,0,0⟩)
theorem En:FnScopeF ["ahead", "code", "bound", "base", "gains"] ["ahead", "code"] (Ze We):=⟨rfl,rfl,rfl,by decide +kernel,rfl,by decide +kernel⟩
theorem Eo:Yu ["base", "left", "right", "word", "names", "letters", "gains", "bound", "lead", "sign"] (Ze Y7) (Ze We) ["ahead", "code", "bound", "base", "gains"] [none,none,aa 7,aa 0,aa 6]=true:=by decide +kernel
theorem Ep:∀ y∈(Ze We).names,y.2=.free->(Ze Y7).names.lookup y.1=aa .cell\/(Ze Y7).names.lookup y.1=aa .free:=by decide +kernel
abbrev Wf:Stmt:=(ZC Y7).getD 7 (.Pass ⟨0,0,0,0⟩)
theorem Er:FnScopeF ["ahead", "word"] ["ahead"] (Ze Wf):=⟨rfl,rfl,rfl,by decide +kernel,rfl,by decide +kernel⟩
theorem Es:Yu ["base", "left", "right", "word", "names", "letters", "gains", "bound", "lead", "sign"] (Ze Y7) (Ze Wf) ["ahead", "word"] [none,aa 3]=true:=by decide +kernel
theorem Et:∀ y∈(Ze Wf).names,y.2=.free->(Ze Y7).names.lookup y.1=aa .cell\/(Ze Y7).names.lookup y.1=aa .free:=by decide +kernel
abbrev Qo:Stmt:=top 42
theorem Wg:FnScope ["_law_script", "_law_k", "_law_cell_here", "_law_number", "_law_whole_here", "_law_turn"] ["_law_script", "_law_k"] (Ze Qo):='&'
abbrev Qp:Stmt:=top 43
theorem Wh:FnScope ["_law_rows", "_law_signs", "_law_marks", "_law_many", "_law_keys", "_law_numbers", "_law_key"] ["_law_rows", "_law_signs"] (Ze Qp):='&'
abbrev Qq:Stmt:=top 44
theorem Eu:FnScope ["_law_found"] ["_law_found"] (Ze Qq):='&'
abbrev Qr:Stmt:=top 45
theorem WN:FnScope ["_law_found", "_law_letters", "_law_rows", "_law_signs", "_law_met", "_law_room", "_law_to"] ["_law_found", "_law_letters"] (Ze Qr):='&'
abbrev Qs:Stmt:=top 46
theorem Xz:FnScope ["_law_cell_here", "_law_letters", "_law_number", "_law_names_here", "_law_letter", "_law_name"] ["_law_cell_here"] (Ze Qs):='&'
abbrev Qt:Stmt:=top 47
theorem TY:FnScope ["_law_found", "_law_base", "_law_names_here", "_law_letters", "_law_name"] ["_law_found", "_law_base", "_law_names_here"] (Ze Qt):='&'
abbrev Qu:Stmt:=top 48
theorem Ut:FnScope ["_law_relation", "_law_known", "_law_due", "_law_places", "_law_handed", "_law_found", "_law_again"] ["_law_relation", "_law_known", "_law_due"] (Ze Qu):='&'
abbrev Qw:Stmt:=top 49
theorem Vk:FnScope ["_law_base", "_law_left", "_law_right", "_law_word", "_law_told", "e"] ["_law_base", "_law_left", "_law_right", "_law_word"] (Ze Qw):='&'
abbrev Qx:Stmt:=top 50
theorem Qy:FnScope ["_law_cell_here", "_law_names_here", "_law_side_here", "_law_k"] ["_law_cell_here", "_law_names_here"] (Ze Qx):='&'
abbrev Qz:Stmt:=top 51
theorem WO:FnScope ["_law_known", "_law_left", "_law_right", "_law_cell_here", "_law_name", "_law_weight", "_law_others", "_law_made"] ["_law_known", "_law_left", "_law_right", "_law_cell_here"] (Ze Qz):='&'
abbrev TZ:Stmt:=top 52
theorem Yd:FnScope ["_law_script", "_law_head", "_law_base", "_law_names_here", "_law_left", "_law_right", "_law_word", "_law_many", "_law_strange", "_law_told", "_law_handed", "_law_relation", "_law_k", "_law_cell_here", "_law_known", "_law_at", "_law_name", "_law_one", "_law_other", "_law_due"] ["_law_script"] (Ze TZ):='&'
def XU:Addr:=174
def QA(l c:Nat):Str:=if l=(Wa Wb).line/\c=(Wa Wb).col then "reached_by.<locals>.lead" else if l=(Wa Wc).line/\c=(Wa Wc).col then "reached_by.<locals>.sign" else ""
def XV:Addr:=255
def QB(l c:Nat):Str:=if l=(Wa We).line/\c=(Wa We).col then "sums.<locals>.lead" else if l=(Wa Wf).line/\c=(Wa Wf).col then "sums.<locals>.sign" else ""
def ts0:List (ao×(Nat->Nat->aQ)):=[(XU,QA),(XV,QB)]
structure Cs(K:aJ)(mg:aQ->Option ag)(C_WheelError:ao)(C_NoBase:ao)(C_TooGreat:ao)(C_TooWide:ao)(C_NoName:ao):Prop where
 c_WheelError:mg "WheelError" = aa (.ref C_WheelError)
 c_NoBase:mg "NoBase" = aa (.ref C_NoBase)
 c_TooGreat:mg "TooGreat" = aa (.ref C_TooGreat)
 c_TooWide:mg "TooWide" = aa (.ref C_TooWide)
 c_NoName:mg "NoName" = aa (.ref C_NoName)
 x_NoBase:gy K C_NoBase [.type "ValueError",.type "Exception",.type "BaseException",.type "object"] "ValueError.__new__" = ak
 ix_TooWide:∃ fI fd,ExcI K C_TooWide [.type "ValueError",.type "Exception",.type "BaseException",.type "object"] "ValueError.__new__" fI/\FunD K "__init__" "TooWide.__init__" Uk .none fI fd/\Y1 K fd ["self", "many"] []
 k_NoBase:ExcCls K C_NoBase
 k_TooWide:ExcCls K C_TooWide
 es1:ExcSet K C_TooWide "many"
 ef1:ExcFld K C_TooWide "many"
 m_NoBase_NoBase:cx K (.ref C_NoBase) (.ref C_NoBase)=aa ak
 m_TooWide_NoBase:cx K (.ref C_TooWide) (.ref C_NoBase)=aa aF
 m_TooWide_TooWide:cx K (.ref C_TooWide) (.ref C_TooWide)=aa ak
 a_NoBase:hQ K (.ref C_NoBase) [.ref C_TooWide,.ref C_TooGreat]=aa aF
 i_we:bW K (.ref C_TooWide) (.ref C_WheelError)=aa ak
 i_val:bW K (.ref C_TooWide) (.type "ValueError")=aa ak
 i_tg:bW K (.ref C_TooWide) (.ref C_TooGreat)=aa aF
structure Txt(K:aJ)(mg:aQ->Option ag):Prop where
 g_LEAST_BASE:∃ t,mg "LEAST_BASE" = aa (.int 2 t)
 g_GREATEST_BASE:∃ t,mg "GREATEST_BASE" = aa (.int 5 t)
 g_MOST_LETTERS:∃ t,mg "MOST_LETTERS" = aa (.int 64 t)
 g_MOST_NAMES:∃ t,mg "MOST_NAMES" = aa (.int 4 t)
 n_ValueError:mg "ValueError" = none
 n_all:mg "all" = none
 n_bool:mg "bool" = none
 n_dict:mg "dict" = none
 n_enumerate:mg "enumerate" = none
 n_int:mg "int" = none
 n_isinstance:mg "isinstance" = none
 n_len:mg "len" = none
 n_list:mg "list" = none
 n_max:mg "max" = none
 n_min:mg "min" = none
 n_range:mg "range" = none
 n_set:mg "set" = none
 n_sorted:mg "sorted" = none
 n_str:mg "str" = none
 n_sum:mg "sum" = none
 n_tuple:mg "tuple" = none
 n_zip:mg "zip" = none
 x_want_base:Tx K mg "want_base" R1 ["base"] [[]]
 x_figures_of:Tx K mg "figures_of" Ul ["place", "base"] [[],[.int 2]]
 x_number_of:Tx K mg "number_of" Um ["figures", "base"] [[],[.int 2]]
 x_filled:Tx K mg "filled" R3 ["figures", "length"] [[]]
 x_at_each:Tx K mg "at_each" R4 ["lists", "index"] [[]]
 x_columns_of:Tx K mg "columns_of" Uo ["places", "base"] [[],[.int 2]]
 x_code_of:Tx K mg "code_of" Up ["column", "base"] [[],[.int 2]]
 x_column_of:Tx K mg "column_of" Uq ["code", "many", "base"] [[],[.int 2]]
 x_room_of:Tx K mg "room_of" R5 ["machine", "letters"] [[]]
 x_sign_of:Tx K mg "sign_of" R6 ["machine", "letters"] [[]]
 x_met_from:Tx K mg "met_from" R7 ["start", "letters", "lead", "most"] [[]]
 x_machine_met:Tx K mg "machine_met" R8 ["start", "letters", "lead", "sign", "most"] [[]]
 x_reached_by:∃ c0,TxM K mg "reached_by" Y6 ["machine", "stands"] c0 XU
 x_first_equals:Tx K mg "first_equals" R9 ["things"] [[]]
 x_parted:Tx K mg "parted" Qa ["rows", "alike"] [[]]
 x_first_alike:Tx K mg "first_alike" Qb ["machine"] [[]]
 x_least:Tx K mg "least" Qc ["machine"] [[]]
 x_least_met:Tx K mg "least_met" Qd ["start", "letters", "lead", "sign", "most"] [[]]
 x_letters_for:Tx K mg "letters_for" Qf ["base", "names"] [[]]
 x_rising:Tx K mg "rising" Qh ["names"] [[]]
 x_want_width:Tx K mg "want_width" Qi ["base", "names"] [[]]
 x_takes:Tx K mg "takes" Qj ["relation", "places"] [[]]
 x_takes_by:Tx K mg "takes_by" Ql ["relation", "known"] [[]]
 x_as_sign:Tx K mg "as_sign" Qm ["truth"] [[]]
 x_gain_of:Tx K mg "gain_of" Qn ["names", "column", "left", "right"] [[]]
 x_sums:∃ c0,TxM K mg "sums" Y7 ["base", "left", "right", "word"] c0 XV
 x_law_cell:Tx K mg "_law_cell" Qo ["_law_script", "_law_k"] [[]]
 x_law_classes:Tx K mg "_law_classes" Qp ["_law_rows", "_law_signs"] [[]]
 x_law_whole:Tx K mg "_law_whole" Qq ["_law_found"] [[]]
 x_law_is_least:Tx K mg "_law_is_least" Qr ["_law_found", "_law_letters"] [[]]
 x_law_names:Tx K mg "_law_names" Qs ["_law_cell_here"] [[]]
 x_law_is_relation:Tx K mg "_law_is_relation" Qt ["_law_found", "_law_base", "_law_names_here"] [[]]
 x_law_taken:Tx K mg "_law_taken" Qu ["_law_relation", "_law_known", "_law_due"] [[]]
 x_law_refused:Tx K mg "_law_refused" Qw ["_law_base", "_law_left", "_law_right", "_law_word"] [[]]
 x_law_side:Tx K mg "_law_side" Qx ["_law_cell_here", "_law_names_here"] [[]]
 x_law_planted:Tx K mg "_law_planted" Qz ["_law_known", "_law_left", "_law_right", "_law_cell_here"] [[]]
 cs:∃ C_WheelError C_NoBase C_TooGreat C_TooWide C_NoName,Cs K mg C_WheelError C_NoBase C_TooGreat C_TooWide C_NoName
local macro_rules | `(tactic| walk_at "sd") => `(tactic| first
 | (show (0 : Int) < _; omega (config:={}))
 | (refine ⟨?_, ?_⟩ <;> omega (config:={}))
 | exact aC ⟨by omega (config:={}), by omega (config:={})⟩
 | exact de ⟨by omega (config:={}), by omega (config:={})⟩
 | exact ⟨by decide, by decide, by decide⟩)
local macro_rules | `(tactic| walk_at "nrs") => `(tactic| (repeat (first | exact NRs.nil | refine NRs.cons (by first | exact NR.av | exact NR.bor) ?_)))
local macro_rules | `(tactic| walk_at "v0") => `(tactic| first | walk_at "v0i" | (with_reducible refine Re ?_))
local macro_rules | `(tactic| walk_at "v0i") => `(tactic| with_reducible first
 | refine F2 (λN hN => ?_) | (refine N2 (by assumption) ?_; walk_at "ds") | refine JX ?_ | refine Ih ?_ | refine Ig ?_ | refine P9 ?_ | refine IZ ?_
 | refine JS ?_ | refine JT ?_ | refine JU ?_ | refine JV ?_ | refine JW ?_ | refine JY ?_ | refine un_i ?_ | refine He ?_ | refine P8 ?_ | refine JZ ?_ | refine eq_i ?_ | refine ne_i ?_ | refine eq_b ?_
 | refine Ik ?_ | refine Il ?_ | refine Io ?_ | refine Oa ?_ | refine tv_b ?_ | refine Ii ?_ | refine Ij ?_ | refine Tb ?_
 | refine v_b ?_ | refine v_i ?_ | refine v_s ?_ | refine Hn ?_ | refine Ga ?_ | refine Gc ?_ | refine HY ?_ | refine Hq ?_ | refine IW ?_ | refine IX ?_ | refine iteT ?_ | refine SL ?_ | refine Tj ?_ | refine Tk ?_)
local macro_rules | `(tactic| walk_at "v1") => `(tactic| first
 | (with_reducible refine S7 (by with_unfolding_all exact rfl) ?_)
 | (with_reducible refine g_o (by with_unfolding_all exact rfl) ?_)
 | (with_reducible refine g_a (by with_unfolding_all exact rfl) ?_)
 | (with_reducible refine g_g (by with_unfolding_all exact rfl) ?_)
 | (with_reducible refine g_ap (by with_unfolding_all exact rfl) ?_)
 | (with_reducible refine g_rv (by with_unfolding_all exact rfl) ?_)
 | (with_reducible refine g_ro (by with_unfolding_all exact rfl) ?_)
 | (with_reducible refine Gd (by with_unfolding_all exact rfl) ?_)
 | (with_reducible refine g_k (by with_unfolding_all exact rfl) ?_)
 )
local macro_rules | `(tactic| walk_at "ds") => `(tactic| try dsimp only [List.set_cons_succ, List.set_cons_zero])
local macro_rules | `(tactic| walk_at "hd") => `(tactic| with_reducible refine N2 (by assumption) ?_)
local macro_rules | `(tactic| walk_at "v") => `(tactic| first | walk_at "v0" | walk_at "v1" | (with_reducible refine Oo ?_) | (with_reducible refine Oq ?_) | (refine Ta ?c ?_; (case c => walk_at "sd")) | (refine Ot ?c ?_; (case c => walk_at "sd")))
local macro_rules | `(tactic| walk_at "vs") => `(tactic| ((repeat walk_at "v"); walk_at "ds"))
local macro_rules | `(tactic| walk_at "vm") => `(tactic| ((repeat (first | walk_at "v" | refine Ys rfl rfl Zu.d ?_)); walk_at "ds"))
local macro_rules | `(tactic| walk_at "vj") => `(tactic| first | walk_at "v0i" | walk_at "v1" | (with_reducible refine Oo ?_) | (with_reducible refine Oq ?_) | (refine Ta ?c ?_; (case c => walk_at "sd")) | (refine Ot ?c ?_; (case c => walk_at "sd")))
local macro_rules | `(tactic| walk_at "vi") => `(tactic| ((repeat (first | walk_at "vj" | refine Ys rfl rfl Zu.d ?_)); walk_at "ds"))
local macro_rules|`(tactic|w_on)=>`(tactic|walk_at "vs")
local macro_rules|`(tactic|o_law)=>`(tactic|walk_at "vm")
local macro_rules|`(tactic|k_head)=>`(tactic|walk_at "vi")
section
variable [Tabs]{P:bC}{w:bV}{K:aJ}{mg:aQ->Option ag}{base:bO}
abbrev oI(ns:List Int):AV:=.own (ns.map λk=>.d (.int k))
theorem Yz(ns:List Int):(oI ns).data=dI ns:=by rw[AV.data,Z4];rfl
theorem N6(ns:List Int):AV.datas (ns.map λk=>.d (.int k))=ns.map PyData.int:=Z4 ns aZ
theorem YW(ns:List Int):(oI ns).clean=true:=ZW λ_=>rfl
theorem QC(ns:List Int):(ns.map aZ).map AV.d=ns.map λk=>.d (.int k):=by rw[bu];rfl
theorem Vl(c:List Int):ZH (tI c)=true:=by simp[tI,ZH,Y2]
structure Mach where
 rows:List (List Int)
 signs:List Int
deriving DecidableEq
abbrev tR(rows:List (List Int)):PyData:=.tuple (rows.map tI)
abbrev dM(M:Mach):PyData:=.tuple [tR M.rows,tI M.signs]
theorem Ew(rows:List (List Int)):ZH (tR rows)=true:=by
 simp only[tR,ZH]
 exact X0 (λa=>Vl a) rows
theorem Vm(M:Mach):ZH (dM M)=true:=by
 have h:=Ew M.rows
 simp only[ZH,noLsts,kz,aP] at h ⊢
 exact⟨h,Y2 _⟩
theorem Mach.enc:Enc dM 3:=by
 have h:=(Enc.int.tuple.tuple).pair (Enc.int.tuple.mono (show 1<=2 by decide))
 refine⟨λa b=>?_,λa=>h.lay (a.rows,a.signs),λa=>h.dep (a.rows,a.signs)⟩
 refine (h.eqv (a.rows,a.signs) (b.rows,b.signs)).trans ⟨λe=>?_,λe=>by rw[e]⟩
 obtain⟨g,C⟩:=a
 obtain⟨G,T⟩:=b
 simp only[c_] at e
 rw[e.1,e.2]
theorem Ey(row:List Int)(x:Int):AV.own ((row.map λk=>.d (.int k))++[.d (.int x)])=oI (row++[x]):=by rw[oI,bH];rfl
variable{k:Int}{ns:List Int}
theorem Wi(G:0<=k)(h:k<ns.length):atI (ns.map aZ) k=aa (.int (ns.getD k.toNat 0)):=by
 have e:k.toNat<ns.length:=by omega
 exact W6 G (by rw[aW,ai e,am,ai e];rfl)
theorem Wj{rows:List (List Int)}(G:0<=k)(h:k<rows.length):atI (rows.map tI) k=aa (tI (rows.getD k.toNat [])):=by
 have e:k.toNat<rows.length:=by omega
 exact W6 G (by rw[aW,ai e,am,ai e];rfl)
def Mach.lt(M:Mach):Nat:=(M.rows.getD 0 []).length
theorem T3(G:0<=k)(h:k<ns.length):atI (ns.map aZ) k=aa (.int (ns.getD k.toNat 0)):=by
 have e:k.toNat<ns.length:=by omega
 exact W6 G (by rw[aW,ai e,am,ai e];rfl)
variable{α:Type}{i:Nat}{xs:List α}
theorem Wl{d:α}(h:i<xs.length):xs.getD i d∈xs:=by
 rw[am,ai h];exact aV h
structure Parts(a b:Int)(M:Mach):Prop where
 n0:0<M.rows.length
 n1:M.rows.length<=100
 s:M.signs.length=M.rows.length
 row:∀ x∈M.rows,x.length=(M.rows.getD 0 []).length/\∀ y∈x,0<=y/\y<M.rows.length
 l0:a<=((M.rows.getD 0 []).length:Int)
 l1:((M.rows.getD 0 []).length:Int)<=b
 sg:∀ x∈M.signs,0<=x/\x<=9
def stp(rows:List (List Int))(r l:Int):Int:=(rows.getD r.toNat []).getD l.toNat 0
variable{a:TV}{b:Int}{M:Mach}{l:Nat}{r:List α}
theorem Parts.stp{a:Int}(h:Parts a b M){r l:Int}(G:0<=r)(h1:r<M.rows.length)(l0:0<=l)(l1:l<(M.rows.getD 0 []).length):0<=stp M.rows r l/\stp M.rows r l<M.rows.length:=by
 have J:r.toNat<M.rows.length:=by omega
 have W:=h.row _ (Wl (d:=[]) J)
 exact W.2 _ (Wl (by rw[W.1];omega))
variable{x:α}{met U F:List α}{g:α->Nat->α}
section
variable [DecidableEq α]
def Zy(met:List α)(x:α):List α:=if x∈met then met else met++[x]
def ZE(g:α->Nat->α)(a:α)(met:List α)(n:Nat):List α:=(aD n).foldl (λm l=>Zy m (g a l)) met
theorem Xl(g:α->Nat->α)(a:α)(met:List α)(n:Nat):ZE g a met (n+1)=Zy (ZE g a met n) (g a n):=by
 unfold ZE;rw[eI,fG];rfl
inductive Bfs(g:α->Nat->α)(n:Nat):List α->Nat->List α->Prop
 | done {met:List α} {i:Nat}:met.length<=i->Bfs g n met i met
 | step {met F:List α} {i:Nat} (h:i<met.length):Bfs g n (ZE g met[i] met n) (i+1) F->Bfs g n met i F
theorem Uu(met:List α)(x:α):∃ r,Zy met x=met++r:=by
 unfold Zy;split
 ·exact⟨[],by simp⟩
 ·exact⟨[x],rfl⟩
theorem QD(met:List α)(x:α):x∈Zy met x:=by
 unfold Zy;split
 ·assumption
 ·simp
theorem Ez(h:met.Nodup):(Zy met x).Nodup:=by
 unfold Zy;split
 ·exact h
 ·rename_i hx
  rw[iE]
  exact⟨h,by simp,λa m b M=>by rw[f_.mp M];exact λz=>hx (z▸m)⟩
theorem N7(h:∀ y∈met,y∈U)(W:x∈U):∀ y∈Zy met x,y∈U:=by
 unfold Zy;split
 ·exact h
 ·intro y j
  rcases nV.mp j with j|j
  ·exact h y j
  ·rw[f_.mp j];exact W
theorem Vn(g:α->Nat->α)(a:α)(met:List α):∀ n,∃ r,ZE g a met n=met++r
 | 0=>⟨[],by simp[ZE]⟩
 | n+1=>by
  obtain⟨r,e⟩:=Vn g a met n
  obtain⟨C,A⟩:=Uu (ZE g a met n) (g a n)
  rw[Xl,A,e]
  exact⟨r++C,by simp⟩
theorem Bfs.pre{n:Nat}(h:Bfs g n met i F):∃ r,F=met++r:=by
 induction h with
 | done _=>exact⟨[],by simp⟩
 | @step met F i h _ E =>
  obtain⟨r,e⟩:=E
  obtain⟨C,A⟩:=Vn g met[i] met n
  exact⟨C++r,by rw[e,A,bM]⟩
theorem N8(h:x∈met):(met++r).idxOf x=met.idxOf x:=by
 rw[ji,if_pos h]
theorem Wm(nd:met.Nodup)(h:∀ x∈met,x∈U):met.length<=U.length:=by
 induction met generalizing U with
 | nil=>simp
 | cons a met E =>
  rw[nU] at nd
  have Z:=E (U:=U.erase a) nd.2 λx W=>(im (λ(z:x=a)=>nd.1 (z▸W))).mpr (h x (.tail _ W))
  have O:=gG (h a (.head _))
  have B:0<U.length:=fe (h a (.head _))
  simp only[cC]
  omega
def ZF(g:α->Nat->α)(F:List α)(a:α)(n:Nat):List Int:=(aD n).map λl=>(F.idxOf (g a l):Int)
theorem EA(g:α->Nat->α)(F:List α)(a:α)(n:Nat):ZF g F a (n+1)=ZF g F a n++[(F.idxOf (g a n):Int)]:=by
 unfold ZF;rw[eI,bH];rfl
theorem N9{a:α}{n:Nat}(h:∀ l,l<n->g a l∈met):ZF g (met++r) a n=ZF g met a n:=by
 unfold ZF
 refine bG λl D=>?_
 rw[N8 (h l (mem_range.mp D))]
def Ye(met:List α):List (α×aj):=met.zipIdx.map λp=>(p.1,aZ (p.2:Int))
theorem EB(met:List α)(x:α):Ye (met++[x])=Ye met++[(x,.int (met.length:Int))]:=by
 unfold Ye;rw[List.zipIdx_append,bH];simp
theorem Ma(x:α):∀ (met:List α) (k:Nat),ZA ((met.zipIdx k).map λp=>(p.1,aZ (p.2:Int))) x=if x∈met then aa (.int ((k+met.idxOf x:Nat):Int)) else none
 | [],_=>rfl
 | y::met,k=>by
  rw[jx,bw]
  have E:=Ma x met (k+1)
  unfold ZA at E ⊢
  rw[dv]
  by_cases h:y=x
  ·subst h
   simp[jK]
  ·have Z:decide (y=x)=false:=decide_eq_false h
   simp only[Z]
   rw[E]
   have O:(y == x)=false:=beq_false_of_ne h
   by_cases W:x∈met
   ·rw[if_pos W,if_pos (.tail _ W),jK,O]
    simp only[cond_false]
    congr 3
    omega
   ·rw[if_neg W,if_neg (by simp[W,bR h])]
theorem Vo(met:List α)(x:α):ZA (Ye met) x=if x∈met then aa (.int (met.idxOf x:Int)) else none:=by
 have:=Ma x met 0
 rw[hV] at this
 exact this
theorem Mb(h:x∉met):Z3 (Ye met) x (.int (met.length:Int))=Ye (met++[x]):=by
 unfold Z3;rw[Vo,if_neg h,EB];rfl
end
structure Th(α:Type) where
 start:α
 n:Nat
 m:Int
 g:α->Nat->α
 U:List α
structure Th.Ok{α:Type}(θ:Th α):Prop where
 mem:θ.start∈θ.U
 cl:∀ x∈θ.U,∀ l,l<θ.n->θ.g x l∈θ.U
 um:(θ.U.length:Int)<=θ.m
 n1:θ.n<=1000
 u1:θ.U.length<=1000
def Y8(e:α->aj)(θ:Th α)(cs:List AV):Prop:=∃ (x:α) (l:Nat),cs=[.d (e x),.d (.int l)]/\x∈θ.U/\l<θ.n
def Y9(e:α->aj)(θ:Th α)(cs:List AV)(c:AV):Prop:=∃ (x:α) (l:Nat),cs=[.d (e x),.d (.int l)]/\c=.d (e (θ.g x l))
def EC(P:bC)(w:bV)(K:aJ)(mg:aQ->Option ag)(base:bO)(e:α->aj)(θ:Th α)(cs:List AV):Prop :=
 θ.Ok/\cs=[.d (e θ.start),.d (.int θ.n),.obj (CloOk P w K mg base (CXE P w) 2 (spR K (Y8 e θ) (Y9 e θ) NP)),.d (.int θ.m)]
def QE[DecidableEq α](e:α->aj)(θ:Th α)(F:List α):PyData:=.tuple [.list (F.map e),.tuple ((F.map λa=>ZF θ.g F a θ.n).map tI)]
def ED[DecidableEq α](e:α->aj)(θ:Th α)(_:List AV)(c:AV):Prop:=∃ F,Bfs θ.g θ.n [θ.start] 0 F/\F.Nodup/\(∀ x∈F,x∈θ.U)/\c=.d (QE e θ F)
abbrev oE(e:α->aj)(xs:List α):AV:=.own (xs.map λx=>.d (e x))
theorem Uv(e:α->aj)(xs:List α):(oE e xs).data=.list (xs.map e):=by rw[AV.data,Z4]
variable{e:α->aj}
theorem EF(h:i<xs.length):atI (xs.map e) (i:Int)=aa (e xs[i]) :=
 W6 (by omega) (by rw[aK,aW,ai h];rfl)
structure MetI{α:Type}[DecidableEq α](θ:Th α)(met:List α)(i:Nat):Prop where
 nd:met.Nodup
 u:∀ x∈met,x∈θ.U
 all:∀ j (h:j<met.length),j<i->∀ l,l<θ.n->θ.g met[j] l∈met
 bf:∀ F,Bfs θ.g θ.n met i F->Bfs θ.g θ.n [θ.start] 0 F
 le:i<=met.length
theorem EG(T:Txt K mg)[DecidableEq α](F:KEnc e)(u:∀ a b,e a=e b->a=b)(hf:∀ x,ZH (e x)=ak) :
  '$' (CXE P w) 3 "met_from" ["start", "letters", "lead", "most"] [] (spF K (EC P w K mg base e) (ED e)):=by
 refine RK T.x_met_from WL (λq cs ⟨_,e⟩=>by rw[e];rfl) (λq f X A g s H E J=>?_) [] (by simp)
 refine⟨_,(Zd (Zl (i:=4) WL.nd rfl (aC rfl) (Xd (Za (pv 0) Zb)))
   (Zd (GN (i:=5) WL.nd rfl (aC rfl) (GM J.units (pv 0) Zc))
   (Zd (Zl (i:=6) WL.nd rfl (aC rfl) (Xd Zb))
   (Zd (VB bg (ZB Xo (Zq (ZX (K:=K) rfl) rfl T.n_len aN (Za (pv 6) Zb)) (Zq (ZX (K:=K) rfl) rfl T.n_len aN (Za (pv 4) Zb)) (nomark _))
    (Zd (Zl (i:=7) WL.nd rfl (aC rfl) (Xd Zb))
    (Zd (YF bg rfl (XX rfl T.n_range (Za (pv 1) Zb)) (Zv (i:=8) WL.nd rfl (aC rfl))
     (Zd (Zl (i:=9) WL.nd rfl (aC rfl) (Ng (CX:=(CXE P w)) (P:=P) (w:=w) (K:=K) (mg:=mg) (base:=base) (i:=2) (k:=2) rfl rfl rfl rfl rfl (J.mono (by decide)) Zs (Za (Zo '%' (pv 4) (Zq (ZX (K:=K) rfl) rfl T.n_len aN (Za (pv 6) Zb)) (λ_ _=>rfl)) (Za (pv 8) Zb))))
     (Zd (Xx (ZB (VX (K:=K) rfl J.units) (pv 9) (pv 5) (by with_unfolding_all rfl))
      (Zd (WY (Zq (ZX (K:=K) rfl) rfl T.n_len aN (Za (pv 4) Zb)) (VA (pv 5) (pv 9) (VU J.units)))
      (Zh (YM (Xf (K:=K) rfl bB cD cT Wt (pv 4) (Za (pv 9) Zb)))))
      ZO)
     (Zh (YM (Xf (K:=K) rfl bB cD cT Wt (pv 7) (Za (Zo '%' (pv 5) (pv 9) (λ_ _=>rfl)) Zb)))))))
    (Zd (YM (Xf (K:=K) rfl bB cD cT Wt (pv 6) (Za (ZR (X1 (K:=K) rfl) rfl T.n_tuple a_ (Za (pv 7) Zb)) Zb)))
    (Zh (Yf (ZB Xp (Zq (ZX (K:=K) rfl) rfl T.n_len aN (Za (pv 4) Zb)) (pv 3) (nomark _))
     (Zh Ss)
     ZO))))))
   (Zh (Zr (YT (Za (pv 4) (Za (ZR (X1 (K:=K) rfl) rfl T.n_tuple a_ (Za (pv 6) Zb)) Zb))))))))),?_⟩
 rintro cs ⟨ok,rfl⟩
 show Sv K _ _ _ [aa (.d (e q.start)),aa (.d (.int q.n)),aa (.obj (CloOk P w K mg base (CXE P w) 2 (spR K (Y8 e q) (Y9 e q) NP))),aa (.d (.int q.m)),none,none,none,none,none,none] _
 k_head
 refine WA ?_
 k_head
 refine⟨[.d (e q.start)],.cons rfl .nil,by show 1<=1000;decide,?_⟩
 k_head
 refine GO F ?hn ?_
 case hn=>show 5<10;decide
 k_head
 refine⟨q.start,rfl,NR.av,?_⟩
 k_head
 refine⟨.int 0,rfl,?_⟩
 walk_at "hd"
 show Sv K _ _ _ [aa (.d (e q.start)),aa (.d (.int q.n)),aa (.obj (CloOk P w K mg base (CXE P w) 2 (spR K (Y8 e q) (Y9 e q) NP))),aa (.d (.int q.m)),aa (.own [.d (e q.start)]),aa (.dic (Zk e [(q.start,.int 0)])),none,none,none,none] _
 k_head
 refine V0 (λm Y=>∃ (met:List α) (rows:List (List Int)) (B p U:Option AV),Y=[aa (.d (e q.start)),aa (.d (.int q.n)),aa (.obj (CloOk P w K mg base (CXE P w) 2 (spR K (Y8 e q) (Y9 e q) NP))),aa (.d (.int q.m)),aa (oE e met),aa (.dic (Zk e (Ye met))),aa (.own (rows.map λx=>.d (tI x))),B,p,U] /\
  MetI q met rows.length/\(∀ j (h:j<met.length),j<rows.length->rows[j]?=aa (ZF q.g met met[j] q.n))/\m=q.U.length-rows.length) q.U.length ⟨[q.start],[],none,none,none,rfl,⟨by simp,by simpa using ok.mem,λj _ u=>by simp at u,λF h=>h,by simp⟩,λj _ u=>by simp at u,by simp⟩ ?_
 rintro m Y ⟨met,rows,B,p,U,rfl,I,hrows,rfl⟩
 have R:=Wm I.nd I.u
 have hu1:=ok.u1
 have v:=I.le
 k_head
 refine Xh (ds:=rows.map tI) (by exact (Y4 rows λx=>.d (tI x))) ?_
 rw[ah]
 k_head
 refine Xh (ds:=met.map e) (by exact Uv e met) ?_
 rw[ah]
 k_head
 refine ite2 (λh=>?_) λh=>?_
 ·have hlt:rows.length<met.length:=by have:=of_decide_eq_true h;omega
  k_head
  refine V3 ?_
  k_head
  have hn1:=ok.n1
  have ha:=I.u _ (aV hlt)
  refine⟨(q.n:Int),rfl,⟨by omega,by omega⟩,λl Y=>∃ (p U:Option AV),Y=[aa (.d (e q.start)),aa (.d (.int q.n)),aa (.obj (CloOk P w K mg base (CXE P w) 2 (spR K (Y8 e q) (Y9 e q) NP))),aa (.d (.int q.m)),aa (oE e (ZE q.g met[rows.length] met l)),aa (.dic (Zk e (Ye (ZE q.g met[rows.length] met l)))),aa (.own (rows.map λx=>.d (tI x))),aa (oI (ZF q.g (ZE q.g met[rows.length] met l) met[rows.length] l)),p,U] /\
   (ZE q.g met[rows.length] met l).Nodup/\(∀ x∈ZE q.g met[rows.length] met l,x∈q.U)/\∀ Z,Z < l->q.g met[rows.length] Z∈ZE q.g met[rows.length] met l,⟨p,U,rfl,I.nd,I.u,λZ h=>by omega⟩,?_,?_⟩
  ·rintro l Y D ⟨p,U,rfl,k1,k2,k3⟩
   have C:l<q.n:=by omega
   obtain⟨r,N⟩:=Vn q.g met[rows.length] met l
   have hgl:=Wm k1 k2
   have hth:=ok.cl _ ha l C
   k_head
   refine Nb (i:=2) rfl ?_
   k_head
   refine Xh (ds:=rows.map tI) (by exact (Y4 rows λx=>.d (tI x))) ?_
   rw[ah]
   have hG:rows.length<(ZE q.g met[rows.length] met l).length:=by rw[N,ay];omega
   have eG:(ZE q.g met[rows.length] met l)[rows.length]=met[rows.length]:=by
    simp only[N]
    exact gH hlt
   refine YV (Uv e _) (EF hG) (Zu.flat (hf _)) ?_
   rw[eG]
   generalize hGG:ZE q.g met[rows.length] met l=G at k1 k2 k3 N hgl hG eG ⊢
   generalize y:q.g met[rows.length] l=t at hth
   k_head
   refine⟨[.d (e met[rows.length]),.d (.int l)],.cons (.d NR.av rfl) (.cons (.d NR.av rfl) .nil),⟨met[rows.length],l,rfl,ha,C⟩,λc ⟨x,l2,ee,ec⟩=>?_,λ_ z=>z.elim⟩
   simp only[ck,bh,AV.d.injEq,c3,and_true] at ee
   have ex:=u _ _ ee.1
   have el:l=l2:=by omega
   subst ex el
   rw[y] at ec
   subst ec
   refine⟨_,Got.own (hf _),?_⟩
   k_head
   refine Xy (λY=>Y=[aa (.d (e q.start)),aa (.d (.int q.n)),aa (.obj (CloOk P w K mg base (CXE P w) 2 (spR K (Y8 e q) (Y9 e q) NP))),aa (.d (.int q.m)),aa (oE e (Zy G t)),aa (.dic (Zk e (Ye (Zy G t)))),aa (.own (rows.map λx=>.d (tI x))),aa (oI (ZF q.g G met[rows.length] l)),aa (.d (.int l)),aa (.d (e t))]) ?_ ?_
   case refine_2 =>
    k_head
    refine Tw F (c:=t) (kvs:=Ye G) rfl rfl ?_
    rw[Vo]
    by_cases S:t∈G
    ·rw[if_pos S]
     k_head
     show (if (!true)=ak then _ else _)
     refine Tj ?_
     k_head
     have M:Zy G t=G:=if_pos S
     rw[M]
    ·rw[if_neg S]
     k_head
     show (if (!false)=ak then _ else _)
     refine Tk ?_
     k_head
     refine Ge F ?hz ?_
     case hz=>unfold Ye;rw[ah,mm];omega
     k_head
     refine Xh (ds:=G.map e) (by exact Uv e G) ?_
     rw[ah]
     k_head
     refine⟨_,t,rfl,rfl,NR.av,?_⟩
     rw[Mb S]
     k_head
     refine Vf ?hz ?_
     case hz=>rw[ah];omega
     have M:Zy G t=G++[t]:=if_neg S
     rw[M]
     show [_,_,_,_,aa (AV.own ((G.map λx=>.d (e x))++[.d (e t)])),_,_,_,_,_]=_
     rw[oE,bH]
     rfl
   rintro Y rfl
   k_head
   refine XO F (c:=t) (kvs:=Ye (Zy G t)) (z:=.int ((Zy G t).idxOf t:Int)) rfl rfl (by rw[Vo,if_pos (QD G t)]) (Zu.flat rfl) ?_
   k_head
   refine Vf ?hz ?_
   case hz=>rw[ah];unfold ZF;rw[ah,b9];omega
   obtain⟨r2,er2⟩:=Uu G t
   have eg:ZE q.g met[rows.length] met (l+1)=Zy G t:=by rw[Xl,hGG,y]
   have erow:ZF q.g (Zy G t) met[rows.length] (l+1)=ZF q.g G met[rows.length] l++[((Zy G t).idxOf t:Int)]:=by
    rw[EA,y,er2,N9 k3]
   rw[Ey]
   show ∃ p U,_
   rw[eg,erow]
   refine⟨_,_,rfl,Ez k1,N7 k2 hth,λZ h'=>?_⟩
   by_cases O:Z < l
   ·rw[er2];exact a9 _ (k3 Z O)
   ·have:Z=l:=by omega
    subst this
    rw[y];exact QD G t
  ·rintro Y ⟨p,U,rfl,k1,k2,k3⟩
   rw[aK] at k1 k2 k3 ⊢
   obtain⟨r,N⟩:=Vn q.g met[rows.length] met q.n
   have hgl:=Wm k1 k2
   have hbf:∀ F,Bfs q.g q.n (ZE q.g met[rows.length] met q.n) (rows.length+1) F->Bfs q.g q.n [q.start] 0 F:=λF h=>I.bf F (.step hlt h)
   generalize hGG:ZE q.g met[rows.length] met q.n=G at k1 k2 k3 N hgl hbf ⊢
   k_head
   refine X5 (ds:=(ZF q.g G met[rows.length] q.n).map .int) (by exact Yz _) (Kp.flat (Y2 _)) ?_
   refine Vf ?hz ?_
   case hz=>rw[ah];omega
   w_on
   refine Xh (ds:=G.map e) (by exact Uv e G) ?_
   rw[ah]
   w_on
   have hum:=ok.um
   refine SY (by omega) ?_
   k_head
   have hmG:met.length<=G.length:=by rw[N,ay];omega
   have sub:∀ x∈met,x∈G:=λx W=>by rw[N];exact a9 _ W
   have L:∀ j (h:j<G.length) (h':j<met.length),G[j]=met[j]:=λj h h'=>by
    simp only[N]
    exact gH h'
   refine⟨q.U.length-(rows.length+1),by omega,G,rows++[ZF q.g G met[rows.length] q.n],aa (oI (ZF q.g G met[rows.length] q.n)),p,U,?_,⟨k1,k2,λj h u l D=>?_,λF h=>?_,?_⟩,λj h u=>?_,by simp⟩
   ·show [_,_,_,_,_,_,aa (AV.own ((rows.map λx=>.d (tI x))++[.d (tI (ZF q.g G met[rows.length] q.n))])),_,_,_]=_
    rw[bH]
    rfl
   ·rw[ay] at u
    by_cases O:j<rows.length
    ·rw[L j h (by omega)]
     exact sub _ (I.all j (by omega) O l D)
    ·have:j=rows.length:=by simp at u;omega
     subst this
     rw[L rows.length h hlt]
     exact k3 l D
   ·rw[ay] at h
    exact hbf F h
   ·rw[ay];simp;omega
   ·rw[ay] at u
    by_cases O:j<rows.length
    ·rw[eS O,L j h (by omega),hrows j (by omega) O]
     congr 1
     rw[N,N9 λl D=>I.all j (by omega) O l D]
    ·have:j=rows.length:=by simp at u;omega
     subst this
     rw[gs (aq _),L rows.length h hlt]
     simp
 ·have Q:met.length<=rows.length:=by
   have:¬ ((rows.length:Int)<met.length):=λz=>h (decide_eq_true z)
   omega
  k_head
  refine GQ ?_
  k_head
  refine X5 (ds:=rows.map tI) (by exact (Y4 rows λx=>.d (tI x))) (Kp.flat (X0 (λx=>Vl x) rows)) ?_
  k_head
  have hrl:rows.length=met.length:=by omega
  have N:rows=met.map λa=>ZF q.g met a q.n:=by
   refine mO λj=>?_
   by_cases u:j<met.length
   ·rw[hrows j u (by omega),aW,ai u];rfl
   ·rw[eW (by omega),eW (by rw[ah];omega)]
  refine⟨by walk_at "nrs",by show 2<=1000;decide,_,.inr ⟨NR.bor,rfl⟩,met,I.bf met (.done Q),I.nd,I.u,?_⟩
  show AV.d (.tuple [(oE e met).data,.tuple (rows.map tI)])=_
  rw[Uv]
  unfold QE
  rw[<- N]
def WP(e:α->aj)(θ:Th α)(cs:List AV):Prop:=∃ x:α,cs=[.d (e x)]/\x∈θ.U
def WQ(e:α->aj)(sg:α->Int)(cs:List AV)(c:AV):Prop:=∃ x:α,cs=[.d (e x)]/\c=.d (.int (sg x))
def YA[DecidableEq α](θ:Th α)(sg:α->Int)(F:List α):Mach:=⟨F.map λa=>ZF θ.g F a θ.n,F.map sg⟩
def Mc(P:bC)(w:bV)(K:aJ)(mg:aQ->Option ag)(base:bO)(e:α->aj)(θ:Th α×(α->Int))(cs:List AV):Prop :=
 θ.1.Ok/\cs=[.d (e θ.1.start),.d (.int θ.1.n),.obj (CloOk P w K mg base (CXE P w) 2 (spR K (Y8 e θ.1) (Y9 e θ.1) NP)),.obj (CloOk P w K mg base (CXE P w) 2 (spR K (WP e θ.1) (WQ e θ.2) NP)),.d (.int θ.1.m)]
def EH[DecidableEq α](θ:Th α×(α->Int))(_:List AV)(c:AV):Prop:=∃ F,Bfs θ.1.g θ.1.n [θ.1.start] 0 F/\F.Nodup/\(∀ x∈F,x∈θ.1.U)/\c=.d (dM (YA θ.1 θ.2 F))
theorem Md(T:Txt K mg)[DecidableEq α](l:KEnc e)(u:∀ a b,e a=e b->a=b)(B:∀ x,ZH (e x)=ak) :
  '$' (CXE P w) 4 "machine_met" ["start", "letters", "lead", "sign", "most"] [] (spF K (Mc P w K mg base e) EH):=by
 have c_met_from:'$' _ _ _ _ _ _:=EG T l u B
 refine RK T.x_machine_met N4 (λq cs ⟨_,e⟩=>by rw[e];rfl) (λq f X A g s H E J=>?_) [] (by simp)
 refine⟨_,(Zd (Zl (i:=5) N4.nd rfl (aC rfl) (Zt (c_met_from.mono (by decide)) J rfl Zs (Za (pv 0) (Za (pv 1) (Za (pv 2) (Za (pv 4) Zb))))))
   (Zh (Zr (YT (Za (Zo '%' (pv 5) Zc (λ_ _=>rfl)) (Za (ZR (X1 (K:=K) rfl) rfl T.n_tuple a_ (Za (Yc (N:=["thing", "sign"]) (cap:=[none,aa 3]) rfl rfl rfl (by kernel_rfl) (ZU (K:=K) rfl (Zo '%' (pv 5) Zc (λ_ _=>rfl))) (λ_ _ _ _=>(Zv (i:=0) (show (["thing", "sign"]:List aQ).Nodup from by decide +kernel) rfl (aC rfl))) (λ_ _ _ _=>Z7) (λ_ _ _ _=>(Ng (CX:=(CXE P w)) (P:=P) (w:=w) (K:=K) (mg:=mg) (base:=base) (i:=1) (k:=2) rfl rfl rfl rfl rfl (J.mono (by decide)) Zs (Za (pv 0) Zb)))) Zb)) Zb)))))),?_⟩
 rintro cs ⟨ok,rfl⟩
 obtain⟨q,sg⟩:=q
 show Sv K _ _ _ [aa (.d (e q.start)),aa (.d (.int q.n)),aa (.obj (CloOk P w K mg base (CXE P w) 2 (spR K (Y8 e q) (Y9 e q) NP))),aa (.obj (CloOk P w K mg base (CXE P w) 2 (spR K (WP e q) (WQ e sg) NP))),aa (.d (.int q.m)),none] _
 k_head
 refine Nh ?_
 k_head
 refine⟨q,[.d (e q.start),.d (.int q.n),.obj _,.d (.int q.m)],.cons (.d NR.av rfl) (.cons (.d NR.av rfl) (.cons .o (.cons (.d NR.av rfl) .nil))),⟨ok,rfl⟩,λc ⟨F,h1,h2,h3,ec⟩=>?_,λ_ z=>z.elim⟩
 subst ec
 refine⟨_,Got.br,?_⟩
 have j:q.U.length<=1000:=ok.u1
 have m:=Wm h2 h3
 refine v_sB (by repeat (first|exact ZT.nil|refine ZT.no ?_|refine ZT.d ?_|refine ZT.o ?_)) ?_
 walk_at "hd"
 show Sv K _ _ _ [aa (.d (e q.start)),aa (.d (.int q.n)),aa (.obj (CloOk P w K mg base (CXE P w) 2 (spR K (Y8 e q) (Y9 e q) NP))),aa (.obj (CloOk P w K mg base (CXE P w) 2 (spR K (WP e q) (WQ e sg) NP))),aa (.d (.int q.m)),aa (.d (QE e q F))] _
 o_law
 refine Xu ?_
 o_law
 refine OY (α:=α) ?_
 o_law
 refine⟨F,e,λi ys=>ys=(F.take i).map λx=>.d (.int (sg x)),.inl rfl,NR.av,by omega,rfl,λi ys C p=>?_,λys p=>?_⟩
 ·show Gv K _ _ [none,aa (.obj (CloOk P w K mg base (CXE P w) 2 (spR K (WP e q) (WQ e sg) NP)))] _
  o_law
  refine⟨Z8,OZ ?_⟩
  refine Nb (i:=1) rfl ?_
  o_law
  refine⟨[.d (e F[i])],.cons (.d NR.av rfl) .nil,⟨F[i],rfl,h3 _ (aV C)⟩,λc ⟨x,ee,ec⟩=>?_,λ_ z=>z.elim⟩
  simp only[ck,bh,AV.d.injEq,and_true] at ee
  have ex:=u _ _ ee
  subst ex ec
  refine⟨_,Got.own rfl,_,rfl,?_⟩
  show ys++_=(F.take (i+1)).map _
  rw[show ys=(F.take i).map _ from p,iD,ai C,bH]
  rfl
 ·have p:ys=(F.take F.length).map λx=>.d (.int (sg x)):=p
  rw[hE] at p
  subst p
  have h:(AV.own (F.map λx=>.d (.int (sg x))))=oI (F.map sg):=by rw[oI,bu];rfl
  rw[h]
  refine⟨_,Got.own (YW _),?_⟩
  o_law
  refine X5 (ds:=(F.map sg).map .int) (by exact Yz _) (Kp.flat (Y2 _)) ?_
  o_law
  refine⟨[.d (.tuple ((F.map λa=>ZF q.g F a q.n).map tI)),.d (tI (F.map sg))],.cons rfl (.cons rfl .nil),by show 2<=1000;decide,_,ZL rfl,F,h1,h2,h3,rfl⟩
def gR(M:Mach)(st:List Int)(r:Int)(l:Nat):Int:=st.getD (stp M.rows r l).toNat 0
def thR(M:Mach)(st:List Int):Th Int:=⟨0,(M.rows.getD 0 []).length,M.rows.length,gR M st,rgI M.rows.length⟩
def sgR(M:Mach)(r:Int):Int:=M.signs.getD r.toNat 0
structure StOk(M:Mach)(st:List Int):Prop where
 len:st.length=M.rows.length
 all:∀ y∈st,0<=y/\y<M.rows.length
theorem Yj{n:Nat}{x:Int}:x∈rgI n↔0<=x/\x<n:=by
 simp only[rgI,mem_map,mem_range]
 refine⟨λ⟨a,h,e⟩=>by omega,λh=>⟨x.toNat,by omega,by omega⟩⟩
variable{st:List Int}
theorem EI(y:Parts 1 64 M)(P:StOk M st):(thR M st).Ok:=by
 have G:=y.n0
 have Z:=y.n1
 have a:=y.l1
 refine⟨Yj.mpr ⟨fP _,by show (0:Int)<M.rows.length;omega⟩,λx W l D=>?_,?_,?_,?_⟩
 ·have W:=Yj.mp W
  have D:l<(M.rows.getD 0 []).length:=D
  have O:=y.stp W.1 W.2 (l:=l) (by omega) (by omega)
  exact Yj.mpr (P.all _ (Wl (by rw[P.len];omega)))
 ·show ((rgI M.rows.length).length:Int)<=M.rows.length
  simp[rgI]
 ·show (M.rows.getD 0 []).length<=1000
  omega
 ·show (rgI M.rows.length).length<=1000
  simp[rgI];omega
def EJ(cs:List AV):Prop:=∃ (M:Mach) (st:List Int),cs=[.d (dM M),.d (dI st)]/\Parts 1 64 M/\StOk M st
def EK(cs:List AV)(c:AV):Prop:=∃ (M:Mach) (st F:List Int),cs=[.d (dM M),.d (dI st)]/\Bfs (gR M st) (M.rows.getD 0 []).length [0] 0 F/\F.Nodup/\(∀ x∈F,x∈rgI M.rows.length)/\c=.d (dM (YA (thR M st) (sgR M) F))
theorem EL(T:Txt K mg)(B:base.BuiltinsAt mg au)(j:∀ p∈ts0,p∈Tabs.ts):'$' (CXE P w) 5 "reached_by" ["machine", "stands"] [] (spR K EJ EK NP):=by
 obtain⟨N,X⟩:=T.x_reached_by
 have c_machine_met:'$' _ _ _ _ _ _:=Md T KEnc.int (λa b e=>je e) λ_=>rfl
 refine GP (k:=4) X WM (λcs ⟨M,st,e,_⟩=>by rw[e];rfl) (λf A g s H E J=>?_)
 refine⟨_,(Zd (Zl (i:=2) WM.nd rfl (de rfl) (Zo '%' (pv 0) Zc (λ_ _=>rfl)))
   (Zd (Zl (i:=3) WM.nd rfl (de rfl) (Zo '%' (pv 0) Zc (λ_ _=>rfl)))
   (Zd (TH (name := "lead") (qual := "reached_by.<locals>.lead") (params:=Z1 Wb) (body:=ZC Wb) (scope:=Ze Wb) (P:=XU) (i:=4) WM.nd rfl (aC rfl) rfl rfl rfl rfl rfl X.tab Ec B)
   (Zd (TH (name := "sign") (qual := "reached_by.<locals>.sign") (params:=Z1 Wc) (body:=ZC Wc) (scope:=Ze Wc) (P:=XU) (i:=5) WM.nd rfl (aC rfl) rfl rfl rfl rfl rfl X.tab Ef B)
   (Zh (Zr (O8 (c_machine_met.mono (by decide)) J rfl (Nn (E:=E0)) (Za Zc (Za (Zq (ZX (K:=K) rfl) rfl T.n_len aN (Za (Zo '%' (pv 2) Zc (λ_ _=>rfl)) Zb)) (Za (pv 4) (Za (pv 5) (Za (Zq (ZX (K:=K) rfl) rfl T.n_len aN (Za (pv 2) Zb)) Zb)))))))))))),?_⟩
 rintro cs ⟨M,st,rfl,hP,hst⟩
 show Sv K _ _ _ [aa (.d (dM M)),aa (.d (dI st)),none,none,none,none] _
 have Z:=hP.n0
 o_law
 refine TJ (j (XU,QA) (by simp[ts0])) (by decide +kernel) (by show 4<6;decide) ?_
 walk_at "hd"
 show Sv K _ _ _ [aa (.d (dM M)),aa (.d (dI st)),aa (.d (tR M.rows)),aa (.d (tI M.signs)),aa (.obj _),none] _
 o_law
 refine TJ (j (XU,QA) (by simp[ts0])) (by decide +kernel) (by show 5<6;decide) ?_
 walk_at "hd"
 show Sv K _ _ _ [aa (.d (dM M)),aa (.d (dI st)),aa (.d (tR M.rows)),aa (.d (tI M.signs)),aa (.obj _),aa (.obj _)] _
 o_law
 refine Ni ?_
 o_law
 refine Ys rfl (Wj (by decide) (by omega)) Zu.d ?_
 o_law
 refine YH rfl ?_
 rw[ah]
 o_law
 refine YH rfl ?_
 rw[ah]
 o_law
 refine⟨(thR M st,sgR M),[.d (.int 0),.d (.int (M.rows.getD 0 []).length),.obj (CloOk P w K mg base (CXE P w) 2 (spR K (Y8 aZ (thR M st)) (Y9 aZ (thR M st)) NP)),.obj (CloOk P w K mg base (CXE P w) 2 (spR K (WP aZ (thR M st)) (WQ aZ (sgR M)) NP)),.d (.int M.rows.length)],
  .cons (.d NR.av rfl) (.cons (.d NR.av rfl) (.cons (.o (λv G u m h=>h.same m) λI U ts as y r v s L S=>?lead) (.cons (.o (λv G u m h=>h.same m) λI U ts as y r v s L S=>?sign) (.cons (.d NR.av rfl) .nil)))),⟨EI hP hst,rfl⟩,λc ⟨F,h1,O,h3,ec⟩=>?_⟩
 case lead =>
  refine TL (k:=1) F9 Eb WM.nofree (λ_=>rfl) (λ_ _ _ _ _ s us D=>by obtain⟨a,b,rfl⟩:=len2 D;exact .of_eq rfl) (λcs ⟨x,l,e,_⟩=>by rw[e];rfl) (λcs ⟨x,l,e,_⟩=>by rw[e];rfl) S L s λcl f c A g s H E J=>?_
  refine⟨_,(Zh (Zr (Zo '%' (pv 2) (Zo '%' (Zo '%' (pv 3) (pv 0) (λ_ _=>rfl)) (pv 1) (λ_ _=>rfl)) (λ_ _=>rfl)))),?_⟩
  rintro cs ⟨x,l,rfl,W,D⟩
  show Sv K _ _ _ [aa (.d (.int x)),aa (.d (.int l)),aa (.d (dI st)),aa (.d (tR M.rows))] _
  have W:=Yj.mp W
  have D:l<(M.rows.getD 0 []).length:=D
  have O:=hP.stp W.1 W.2 (l:=l) (by omega) (by omega)
  have J:x.toNat<M.rows.length:=by omega
  have q:=(hP.row _ (Wl (d:=[]) J)).1
  w_on
  refine Ys rfl (Wj W.1 W.2) Zu.d ?_
  w_on
  refine Ys rfl (Wi (by omega) (by rw[q];omega)) Zu.d ?_
  w_on
  refine YV rfl (Wi O.1 (by rw[hst.len];exact O.2)) Zu.d ?_
  exact⟨_,ZL rfl,x,l,rfl,rfl⟩
 case sign =>
  refine TL (k:=1) Ed Ee WM.nofree (λ_=>rfl) (λ_ _ _ _ _ s us D=>by obtain⟨a,rfl⟩:=len1 D;exact .of_eq rfl) (λcs ⟨x,e,_⟩=>by rw[e];rfl) (λcs ⟨x,e,_⟩=>by rw[e];rfl) S L s λcl f c A g s H E J=>?_
  refine⟨_,(Zh (Zr (Zo '%' (pv 1) (pv 0) (λ_ _=>rfl)))),?_⟩
  rintro cs ⟨x,rfl,W⟩
  show Sv K _ _ _ [aa (.d (.int x)),aa (.d (tI M.signs))] _
  have W:=Yj.mp W
  w_on
  refine Ys rfl (Wi W.1 (by rw[hP.s];exact W.2)) Zu.d ?_
  exact⟨_,ZL rfl,x,rfl,rfl⟩
 subst ec
 refine⟨rfl,_,Got.own (Vm _),_,ZL rfl,M,st,F,rfl,h1,O,h3,rfl⟩
abbrev stA(M:Mach):List Int:=rgI M.rows.length
variable{N:Mach}
theorem T4(h:dM M=dM N):M=N:=by
 have:=(Mach.enc.eqv M N).mp (by rw[h];exact (Mach.enc.eqv N N).mpr rfl)
 exact this
theorem EM{a b:List Int}(h:dI a=dI b):a=b:=by
 have h':a.map aZ=b.map PyData.int:=by injection h
 exact (gr λ_ _ e=>je e).mp h'
theorem EN(n:Nat):rgI (n+1)=rgI n++[(n:Int)]:=by simp[rgI,eI]
theorem QF(n:Nat):(rgI n).length=n:=by simp[rgI]
theorem EO{n k:Nat}(h:k<n):(rgI n).getD k 0=(k:Int):=by
 rw[am]
 simp[rgI,h]
variable{m:Nat}
section
variable [DecidableEq α]
def gN(g:α->Nat->α)(F:List α)(i:Int)(l:Nat):Int:=match F[i.toNat]? with
 | some a=>(F.idxOf (g a l):Int)
 | none=>0
theorem EQ{m:List α}(nd:F.Nodup)(e:F=Zy m x++r):Zy (rgI m.length) (F.idxOf x:Int)=rgI (Zy m x).length:=by
 by_cases h:x∈m
 ·have M:Zy m x=m:=if_pos h
  rw[M] at e ⊢
  rw[e,N8 h]
  exact if_pos (Yj.mpr ⟨by omega,by have:=bq h;omega⟩)
 ·have M:Zy m x=m++[x]:=if_neg h
  rw[M] at e ⊢
  have b:F.idxOf x=m.length:=by
   rw[e,bM,ji,if_neg h]
   simp
  rw[b]
  unfold Zy
  rw[if_neg (λz=>by have:=Yj.mp z;omega),ay]
  exact (EN m.length).symm
theorem Me{g:α->Nat->α}{F met:List α}{a:α}{i:Int}(nd:F.Nodup)(hi:F[i.toNat]?=aa a):∀ (n:Nat) (r:List α),F=ZE g a met n++r->ZE (gN g F) i (rgI met.length) n=rgI (ZE g a met n).length
 | 0,r,_=>rfl
 | n+1,r,e=>by
  rw[Xl] at e ⊢
  obtain⟨G,N⟩:=Uu (ZE g a met n) (g a n)
  have E:=Me (g:=g) (met:=met) nd hi n (G++r) (by rw[e,N,bM])
  rw[Xl,E]
  have I:gN g F i n=(F.idxOf (g a n):Int):=by unfold gN;rw[hi]
  rw[I]
  exact EQ nd e
theorem ER{n:Nat}(h:Bfs g n met i F)(nd:F.Nodup):Bfs (gN g F) n (rgI met.length) i (rgI F.length):=by
 induction h with
 | done h=>exact .done (by rw[QF];exact h)
 | @step met F i h M E =>
  have a:=E nd
  refine .step (by rw[QF];exact h) ?_
  obtain⟨r,e⟩:=M.pre
  obtain⟨G,N⟩:=Vn g met[i] met n
  have b:F[((i:Nat):Int).toNat]?=aa met[i]:=by
   rw[aK,e,N,bM,eS h,ai h]
  have J:(rgI met.length)[i]'(by rw[QF];exact h)=(i:Int):=by simp[rgI]
  rw[J,Me nd b n r e]
  exact a
end
section
variable [DecidableEq α]
theorem Mf(g:α->Nat->α)(a:α)(met:List α):∀ n l,l<n->g a l∈ZE g a met n
 | 0,l,h=>by omega
 | n+1,l,h=>by
  rw[Xl]
  by_cases D:l<n
  ·obtain⟨r,e⟩:=Uu (ZE g a met n) (g a n)
   rw[e];exact a9 _ (Mf g a met n l D)
  ·have:l=n:=by omega
   subst this
   exact QD _ _
theorem Bfs.all{n:Nat}(h:Bfs g n met i F):(∀ j (u:j<met.length),j<i->∀ l,l<n->g met[j] l∈met)->∀ x∈F,∀ l,l<n->g x l∈F:=by
 induction h with
 | done h =>
  intro Y x W l D
  obtain⟨j,u,rfl⟩:=List.mem_iff_getElem.mp W
  exact Y j u (by omega) l D
 | @step met F i h M E =>
  intro Y
  refine E λj u a l D=>?_
  obtain⟨r,e⟩:=Vn g met[i] met n
  have L:∀ j (h':j<met.length),(ZE g met[i] met n)[j]'(by rw[e,ay];omega)=met[j]:=λj h'=>by
   simp only[e];exact gH h'
  by_cases O:j<i
  ·rw[L j (by omega),e]
   exact a9 _ (Y j (by omega) O l D)
  ·have:j=i:=by omega
   subst this
   rw[L j h]
   exact Mf g met[j] met n l D
theorem Mg{g g':α->Nat->α}{a:α}{met:List α}:∀ n,(∀ l,l<n->g a l=g' a l)->ZE g a met n=ZE g' a met n
 | 0,_=>rfl
 | n+1,h=>by rw[Xl,Xl,Mg n λl D=>h l (by omega),h n (by omega)]
theorem Mh{g:α->Nat->α}{a:α}{met U:List α}(hm:∀ x∈met,x∈U):∀ n,(∀ l,l<n->g a l∈U)->∀ x∈ZE g a met n,x∈U
 | 0,_=>hm
 | n+1,h=>by
  rw[Xl]
  exact N7 (Mh hm n λl D=>h l (by omega)) (h n (by omega))
theorem Bfs.congr{g':α->Nat->α}{n:Nat}(Y:∀ x∈U,∀ l,l<n->g x l∈U)(G:∀ x∈U,∀ l,l<n->g x l=g' x l)(h:Bfs g n met i F):(∀ x∈met,x∈U)->Bfs g' n met i F:=by
 induction h with
 | done h=>exact λ_=>.done h
 | @step met F i h M E =>
  intro S
  have m:=S _ (aV h)
  refine .step h ?_
  rw[<- Mg n λl D=>G _ m l D]
  exact E (Mh S n λl D=>Y _ m l D)
end
variable{r:List OkS}
theorem Mi{a:Int}(y:Parts a b M){r:Int}(G:0<=r)(h1:r<M.rows.length)(D:l<(M.rows.getD 0 []).length):gR M (stA M) r l=stp M.rows r l:=by
 have O:=y.stp G h1 (l:=l) (by omega) (by omega)
 unfold gR stA
 rw[EO (by omega)]
 omega
variable{j:Nat}{f:Nat->α}{p:Int×Int}
section
variable{β:Type}[DecidableEq α][DecidableEq β]
def Yo(f:Nat->α)(i:Nat):Bool:=decide (∀ j,j<i->f j≠f i)
def cnt(n:Nat)(f:Nat->α):Nat:=((aD n).filter (Yo f)).length
theorem T8(n:Nat)(f:Nat->α):cnt n f<=n:=by
 have:=List.length_filter_le (Yo f) (aD n)
 rw[b9] at this
 exact this
def Uw(n:Nat)(g:Nat->β)(f:Nat->α):Prop:=∀ i j,i<n->j<n->g i=g j->f i=f j
theorem ES{n:Nat}{g:Nat->β}(h:Uw n g f)(hi:i<n)(hf:Yo f i=ak):Yo g i=true:=by
 unfold Yo at hf ⊢
 have hf:=of_decide_eq_true hf
 exact decide_eq_true λj u e=>hf j u (h j i (by omega) hi e)
theorem ET{l:List Nat}{p q:Nat->Bool}(h:∀ x∈l,p x=ak->q x=ak):(l.filter p).length<=(l.filter q).length:=by
 induction l with
 | nil=>simp
 | cons a l E =>
  have E:=E λx W=>h x (.tail _ W)
  have m:=h a (.head _)
  rw[kx,kx]
  cases hp:p a with
  | true=>rw[m hp];simp;exact E
  | false =>
   cases hq:q a with
   | true=>simp;omega
   | false=>simpa using E
theorem EU{l:List Nat}{p q:Nat->Bool}(h:∀ x∈l,p x=ak->q x=ak)(D:(l.filter q).length<=(l.filter p).length):∀ x∈l,q x=ak->p x=true:=by
 induction l with
 | nil=>exact λx W=>nomatch W
 | cons a l E =>
  have h':∀ x∈l,p x=ak->q x=true:=λx W=>h x (.tail _ W)
  have v:=ET h'
  have m:=h a (.head _)
  rw[kx,kx] at D
  intro x W b
  cases hp:p a with
  | true =>
   rw[hp,m hp] at D
   simp at D
   rcases gh.mp W with e|W
   ·rw[e];exact hp
   ·exact E h' D x W b
  | false =>
   cases hq:q a with
   | true=>rw[hp,hq] at D;simp at D;omega
   | false =>
    rw[hp,hq] at D
    simp at D
    rcases gh.mp W with e|W
    ·rw[e,hq] at b;cases b
    ·exact E h' D x W b
def YB(n:Nat)(f:Nat->α)(i:Nat):Nat:=((aD n).map f).idxOf (f i)
theorem Wn{n:Nat}(hi:i<n):YB n f i<n:=by
 have:=bq (mem_map.mpr ⟨i,mem_range.mpr hi,rfl⟩:f i∈(aD n).map f)
 rw[ah,b9] at this
 exact this
theorem Wo{n:Nat}(hi:i<n):f (YB n f i)=f i:=by
 have S:f i∈(aD n).map f:=mem_map.mpr ⟨i,mem_range.mpr hi,rfl⟩
 have h:=bq S
 have e:=dP h
 rw[hH,h_] at e
 exact e
theorem EV:∀ {j:Nat} (h:j<xs.length),j<xs.idxOf x->xs[j]≠x:=by
 induction xs with
 | nil=>intro j h;simp at h
 | cons a xs E =>
  intro j h u
  rw[jK] at u
  by_cases e:a=x
  ·rw[show (a == x)=ak from beq_iff_eq.mpr e] at u;simp at u
  ·rw[show (a == x)=aF from beq_false_of_ne e] at u
   cases j with
   | zero=>exact e
   | succ j=>exact E (by simpa using h) (by simpa using u)
theorem Mj{n:Nat}(hi:i<n)(u:j<YB n f i):f j≠f i:=by
 have D:=Wn (f:=f) hi
 have:=EV (xs:=(aD n).map f) (x:=f i) (j:=j) (by rw[ah,b9];omega) u
 rw[hH,h_] at this
 exact this
theorem Mk{n:Nat}(hi:i<n):Yo f (YB n f i)=true:=by
 unfold Yo
 refine decide_eq_true λj u=>?_
 rw[Wo (f:=f) hi]
 exact Mj hi u
theorem EW(hi:Yo f i=ak)(hj:Yo f j=ak)(e:f i=f j):i=j:=by
 unfold Yo at hi hj
 have hi:=of_decide_eq_true hi
 have hj:=of_decide_eq_true hj
 rcases dA i j with h|h|h
 ·exact absurd e (hj i h)
 ·exact h
 ·exact absurd e.symm (hi j h)
theorem Ml{n:Nat}(hi:i<n)(u:j<n):YB n f i=YB n f j↔f i=f j:=by
 refine⟨λe=>?_,λe=>?_⟩
 ·rw[<- Wo (f:=f) hi,<- Wo (f:=f) u,e]
 ·unfold YB;rw[e]
theorem EX{n:Nat}(hi:i<n):YB n f (YB n f i)=YB n f i:=(Ml (Wn hi) hi).mpr (Wo hi)
theorem Mm{n:Nat}{g:Nat->β}(h:Uw n g f)(Y:cnt n g<=cnt n f):Uw n f g:=by
 have w:=EU (l:=aD n) (p:=Yo f) (q:=Yo g) (λx W B=>ES h (mem_range.mp W) B) Y
 intro i j C u e
 have Z:=w _ (mem_range.mpr (Wn C)) (Mk (f:=g) C)
 have O:=w _ (mem_range.mpr (Wn u)) (Mk (f:=g) u)
 have S:=h _ _ (Wn C) C (Wo C)
 have N:=h _ _ (Wn u) u (Wo u)
 have L:YB n g i=YB n g j:=EW Z O (by rw[S,N,e])
 rw[<- Wo (f:=g) C,<- Wo (f:=g) u,L]
theorem EY{n:Nat}(h:∀ i j,i<n->j<n->f i=f j->i=j):cnt n f=n:=by
 unfold cnt
 have e:(aD n).filter (Yo f)=aD n:=List.filter_eq_self.mpr λx W=>by
  unfold Yo
  have W:=mem_range.mp W
  exact decide_eq_true λj u e=>by have:=h j x (by omega) W e;omega
 rw[e,b9]
def dd(σ:List α)(k:α):List α:=if k∈σ then σ else σ++[k]
theorem EZ{σ:List α}{k:α}:x∈dd σ k↔x∈σ\/x=k:=by
 unfold dd;split
 ·rename_i h
  exact⟨.inl,λz=>z.elim id λe=>e▸h⟩
 ·rw[nV,f_]
theorem Mn(f:Nat->α):∀ n,(∀ x,x∈((aD n).map f).foldl dd []↔∃ i,i<n/\f i=x)/\(((aD n).map f).foldl dd []).length=cnt n f
 | 0=>⟨λx=>by simp,rfl⟩
 | n+1=>by
  obtain⟨Z,O⟩:=Mn f n
  rw[eI,bH,fG]
  refine⟨λx=>?_,?_⟩
  ·show x∈dd _ (f n)↔_
   rw[EZ,Z]
   refine⟨λz=>?_,λ⟨i,C,e⟩=>?_⟩
   ·rcases z with⟨i,C,e⟩|e
    ·exact⟨i,by omega,e⟩
    ·exact⟨n,by omega,e.symm⟩
   ·by_cases g:i<n
    ·exact .inl ⟨i,g,e⟩
    ·have:i=n:=by omega
     subst this
     exact .inr e.symm
  ·show (dd _ (f n)).length=_
   unfold cnt
   rw[eI,List.filter_append,ay]
   by_cases S:f n∈((aD n).map f).foldl dd []
   ·rw[show dd (((aD n).map f).foldl dd []) (f n)=_ from if_pos S,O]
    obtain⟨i,C,e⟩:=(Z _).mp S
    have:Yo f n=false:=by
     unfold Yo
     exact decide_eq_false λz=>z i C e
    simp[this,cnt]
   ·rw[show dd (((aD n).map f).foldl dd []) (f n)=_ from if_neg S,ay,O]
    have:Yo f n=true:=by
     unfold Yo
     exact decide_eq_true λj u e=>S ((Z _).mpr ⟨j,u,e⟩)
    simp[this,cnt]
end
variable{L:Nat}{al R:List Int}{rel:Nat->Nat->Prop}
abbrev tl(al:List Int)(i:Nat):Int:=al.getD i 0
def Z9(L:Nat)(nx:Nat->Nat->Nat)(al:List Int)(i:Nat):Int×List Int:=(tl al i,(aD L).map λl=>tl al (nx i l))
def YJ(n L:Nat)(nx:Nat->Nat->Nat)(al:List Int):List Int:=(aD n).map λi=>(YB n (Z9 L nx al) i:Int)
inductive Ref(n L:Nat)(nx:Nat->Nat->Nat):List Int->Nat->List Int->Prop
 | done {al:List Int} {m:Nat}:cnt n (tl al)<=m->Ref n L nx al m al
 | step {al R:List Int} {m:Nat}:m<cnt n (tl al)->Ref n L nx (YJ n L nx al) (cnt n (tl al)) R->Ref n L nx al m R
theorem Mo{n:Nat}{nx:Nat->Nat->Nat}:(YJ n L nx al).length=n:=by simp[YJ]
theorem Vp{n:Nat}{nx:Nat->Nat->Nat}(hi:i<n):tl (YJ n L nx al) i=(YB n (Z9 L nx al) i:Int):=by
 unfold tl YJ
 rw[am,aW,d8 hi]
 rfl
theorem QG{n:Nat}{nx:Nat->Nat->Nat}(hi:i<n)(u:j<n):tl (YJ n L nx al) i=tl (YJ n L nx al) j↔Z9 L nx al i=Z9 L nx al j:=by
 rw[Vp hi,Vp u,<- Ml (f:=Z9 L nx al) hi u]
 exact⟨λe=>by omega,λe=>by omega⟩
theorem T9{nx:Nat->Nat->Nat}(e:Z9 L nx al i=Z9 L nx al j):tl al i=tl al j/\∀ l,l<L->tl al (nx i l)=tl al (nx j l):=by
 unfold Z9 at e
 simp only[c_] at e
 refine⟨e.1,λl D=>?_⟩
 have:=congrArg (λxs=>xs[l]?) e.2
 simp only[aW,d8 D] at this
 exact aS this
theorem Mp{nx:Nat->Nat->Nat}(h1:tl al i=tl al j)(O:∀ l,l<L->tl al (nx i l)=tl al (nx j l)):Z9 L nx al i=Z9 L nx al j:=by
 unfold Z9
 simp only[c_]
 exact⟨h1,bG λl D=>O l (mem_range.mp D)⟩
structure Lots(n L:Nat)(nx:Nat->Nat->Nat)(al R:List Int):Prop where
 len:R.length=n
 rg:∀ i,i<n->0<=tl R i/\tl R i<n
 idem:∀ i,i<n->tl R (tl R i).toNat=tl R i
 z:0<n->tl R 0=0
 sg:∀ i j,i<n->j<n->tl R i=tl R j->tl al i=tl al j
 st:∀ i j,i<n->j<n->tl R i=tl R j->∀ l,l<L->tl R (nx i l)=tl R (nx j l)
 co:∀ rel:Nat->Nat->Prop,(∀ i j,rel i j->i<n/\j<n)->(∀ i j,rel i j->tl al i=tl al j)->(∀ i j,rel i j->∀ l,l<L->rel (nx i l) (nx j l))->∀ i j,rel i j->tl R i=tl R j
theorem QH{n:Nat}{nx:Nat->Nat->Nat}:Uw n (tl (YJ n L nx al)) (tl al):=λi j C u e=>(T9 ((QG C u).mp e)).1
theorem Mq{n:Nat}{nx:Nat->Nat->Nat}(hb:∀ i j,rel i j->i<n/\j<n)(Y:∀ i j,rel i j->∀ l,l<L->rel (nx i l) (nx j l))(h:∀ i j,rel i j->tl al i=tl al j):∀ i j,rel i j->tl (YJ n L nx al) i=tl (YJ n L nx al) j:=λi j r =>
 (QG (hb i j r).1 (hb i j r).2).mpr (Mp (h i j r) λl D=>h _ _ (Y i j r l D))
theorem Ref.lots{n:Nat}{nx:Nat->Nat->Nat}(a:∀ i,i<n->∀ l,l<L->nx i l<n)(h:Ref n L nx al m R) :
  (∃ A,al=YJ n L nx A/\m=cnt n (tl A))->Lots n L nx al R:=by
 induction h with
 | @done al m h =>
  rintro⟨A,rfl,rfl⟩
  have same:=Mm (QH (nx:=nx) (L:=L) (al:=A) (n:=n)) h
  refine⟨Mo,λi C=>?_,λi C=>?_,λG=>?_,λi j _ _ e=>e,λi j C u e l D=>?_,λrel M Z Y=>Z⟩
  ·rw[Vp C]
   have:=Wn (f:=Z9 L nx A) C
   omega
  ·rw[Vp C,aK,Vp (Wn C),EX C]
  ·rw[Vp G]
   have:¬ 0<YB n (Z9 L nx A) 0:=λz=>Mj (f:=Z9 L nx A) G z rfl
   omega
  ·have:=(T9 ((QG C u).mp e)).2 l D
   exact same _ _ (a i C l D) (a j u l D) this
 | @step al R m h _ E =>
  intro _
  obtain⟨U,v,q,g,b,r,c⟩:=E ⟨al,rfl,rfl⟩
  exact⟨U,v,q,g,λi j C u e=>QH i j C u (b i j C u e),r,λrel M Z Y=>c rel M (Mq M Y Z) Y⟩
theorem Mr{n:Nat}{f:Nat->Int}(h:0<n):0<cnt n f:=by
 unfold cnt
 refine fe (a:=0) (List.mem_filter.mpr ⟨mem_range.mpr h,?_⟩)
 unfold Yo
 exact decide_eq_true λj u=>by omega
theorem Ref.lots0{n:Nat}{nx:Nat->Nat->Nat}(G:0<n)(a:∀ i,i<n->∀ l,l<L->nx i l<n)(h:Ref n L nx al 0 R):Lots n L nx al R:=by
 cases h with
 | done h=>have:=Mr (f:=tl al) G;omega
 | step h O =>
  obtain⟨U,v,q,g,b,r,c⟩:=O.lots a ⟨al,rfl,rfl⟩
  exact⟨U,v,q,g,λi j C u e=>QH i j C u (b i j C u e),r,λrel M Z Y=>c rel M (Mq M Y Z) Y⟩
abbrev ltr(M:Mach):Nat:=(M.rows.getD 0 []).length
variable{x:Int}
theorem Ms{F:List Int}(h:x∈F):((F.idxOf x:Nat):Int)<F.length:=by have:=bq h;omega
structure Rb(M:Mach)(st F:List Int):Prop where
 p:Parts 1 64 M
 sk:StOk M st
 bf:Bfs (gR M st) (ltr M) [0] 0 F
 nd:F.Nodup
 u:∀ x∈F,x∈rgI M.rows.length
abbrev ZI(M:Mach)(st F:List Int):Mach:=YA (thR M st) (sgR M) F
section
variable{F:List Int}
theorem Rb.all(h:Rb M st F):∀ x∈F,∀ l,l<ltr M->gR M st x l∈F:=h.bf.all λj u z=>by omega
theorem Rb.z(h:Rb M st F):∃ r,F=0::r:=by obtain⟨r,e⟩:=h.bf.pre;exact⟨r,e⟩
theorem Rb.rows(h:Rb M st F):(ZI M st F).rows=F.map λa=>ZF (gR M st) F a (ltr M):=rfl
theorem Rb.len(h:Rb M st F):(ZI M st F).rows.length=F.length:=ah ..
theorem Rb.slen(h:Rb M st F):(ZI M st F).signs.length=F.length:=ah ..
theorem Rb.lt(h:Rb M st F):ltr (ZI M st F)=ltr M:=by
 obtain⟨r,e⟩:=h.z
 show (((F.map λa=>ZF (gR M st) F a (ltr M)):List (List Int)).getD 0 []).length=_
 rw[e]
 simp[ZF]
theorem Rb.le(h:Rb M st F):F.length<=M.rows.length:=by
 have:=Wm h.nd h.u
 simpa using this
theorem Rb.parts(h:Rb M st F):Parts 1 64 (ZI M st F):=by
 have D:=h.lt
 have v:=h.le
 have Z:=h.p.n1
 obtain⟨r,e⟩:=h.z
 have P:0<F.length:=by rw[e];simp
 refine⟨by rw[h.len];exact P,by rw[h.len];omega,by rw[h.len,h.slen],λx W=>?_,?_,?_,λx W=>?_⟩
 ·rw[h.rows] at W
  obtain⟨a,m,rfl⟩:=mem_map.mp W
  refine⟨by rw[show ((ZI M st F).rows.getD 0 []).length=ltr M from D];simp[ZF],λy j=>?_⟩
  obtain⟨l,D,rfl⟩:=mem_map.mp j
  rw[h.len]
  exact⟨by omega,Ms (h.all a m l (mem_range.mp D))⟩
 ·rw[show ((ZI M st F).rows.getD 0 []).length=ltr M from D];exact h.p.l0
 ·rw[show ((ZI M st F).rows.getD 0 []).length=ltr M from D];exact h.p.l1
 ·obtain⟨a,m,rfl⟩:=mem_map.mp W
  have:=Yj.mp (h.u a m)
  exact h.p.sg _ (Wl (by rw[h.p.s];omega))
theorem Rb.nx(h:Rb M st F)(hi:i<F.length)(D:l<ltr M):stp (ZI M st F).rows i l=(F.idxOf (gR M st F[i] l):Int):=by
 unfold stp
 rw[aK,aK,h.rows]
 have S:(F.map λa=>ZF (gR M st) F a (ltr M)).getD i []=ZF (gR M st) F F[i] (ltr M):=by
  rw[am,aW,ai hi];rfl
 rw[S,am]
 unfold ZF
 rw[aW,d8 D]
 rfl
theorem Rb.sg(h:Rb M st F)(hi:i<F.length):(ZI M st F).signs.getD i 0=sgR M F[i]:=by
 show (F.map (sgR M)).getD i 0=_
 rw[am,aW,ai hi];rfl
end
def nxM(M:Mach)(i l:Nat):Nat:=(stp M.rows i l).toNat
theorem WR(h:Parts 1 64 M):∀ i,i<M.rows.length->∀ l,l<ltr M->nxM M i l<M.rows.length:=λi C l D=>by
 have:=h.stp (r:=i) (l:=l) (by omega) (by omega) (by omega) (by show (l:Int)<(ltr M:Nat);omega)
 unfold nxM
 omega
structure LotsM(M:Mach)(R:List Int):Prop where
 ex:∃ al,(∀ i j,i<M.rows.length->j<M.rows.length->(tl al i=tl al j↔tl M.signs i=tl M.signs j))/\Lots M.rows.length (ltr M) (nxM M) al R
section
variable{F:List Int}
theorem LotsM.sok(h:LotsM M R):StOk M R:=by
 obtain⟨al,_,l⟩:=h.ex
 refine⟨l.len,λy j=>?_⟩
 obtain⟨i,C,rfl⟩:=List.mem_iff_getElem.mp j
 have:=l.rg i (by rw[<- l.len];exact C)
 unfold tl at this
 rw[am,ai C] at this
 exact this
theorem Sa(W:0<=x):gR M R x l=tl R (nxM M x.toNat l):=by
 unfold gR tl nxM
 rw[eT W]
theorem Mt{α:Type}[DecidableEq α]{g:α->Nat->α}{a:α}{P:α->Prop}{met:List α}(hm:∀ x∈met,P x):∀ n,(∀ l,l<n->P (g a l))->∀ x∈ZE g a met n,P x
 | 0,_=>hm
 | n+1,h=>by
  rw[Xl]
  have E:=Mt hm n λl D=>h l (by omega)
  unfold Zy
  split
  ·exact E
  ·intro y j
   rcases nV.mp j with j|j
   ·exact E y j
   ·rw[f_.mp j];exact h n (by omega)
theorem Bfs.pred[DecidableEq α]{n:Nat}{P:α->Prop}{F:List α}(h:Bfs g n met i F):(∀ x∈met,P x)->(∀ x,P x->∀ l,l<n->P (g x l))->∀ x∈F,P x:=by
 induction h with
 | done _=>exact λS _=>S
 | @step met F i h _ E=>exact λS Y=>E (Mt S n λl D=>Y _ (S _ (aV h)) l D) Y
theorem LotsM.rep(h:LotsM M R)(b:Rb M R F):∀ x:Int,x∈F->tl R x.toNat=x:=by
 obtain⟨al,_,Y⟩:=h.ex
 have N:=b.p.n0
 refine λx W=>(b.bf.pred (P:=λx:Int=>(0<=x/\x<M.rows.length)/\tl R x.toNat=x) (λx W=>?_) (λx W l D=>?_) x W).2
 ·rw[f_.mp W]
  exact⟨⟨by omega,by omega⟩,Y.z N⟩
 ·have g:=WR b.p x.toNat (by omega) l D
  rw[Sa W.1.1]
  exact⟨Y.rg _ g,Y.idem _ g⟩
def Bi(M:Mach)(R F:List Int)(p:Int×Int):Prop:=(0<=p.1/\p.1<M.rows.length)/\(0<=p.2/\p.2<F.length)/\tl R p.1.toNat=F.getD p.2.toNat 0
theorem QI(hi:i<F.length):F.getD i 0=F[i]:=by rw[am,ai hi];rfl
theorem LotsM.bi0(h:LotsM M R)(b:Rb M R F):Bi M R F (0,0):=by
 obtain⟨al,_,Y⟩:=h.ex
 obtain⟨r,e⟩:=b.z
 have N:=b.p.n0
 refine⟨⟨by simp,by simp;omega⟩,⟨by simp,by rw[e];simp⟩,?_⟩
 rw[e]
 exact Y.z N
theorem LotsM.bis(h:LotsM M R)(b:Rb M R F)(T:Bi M R F p):M.signs.getD p.1.toNat 0=(ZI M R F).signs.getD p.2.toNat 0:=by
 obtain⟨al,m,Y⟩:=h.ex
 obtain⟨Z,O,B⟩:=T
 have C:p.2.toNat<F.length:=by omega
 rw[b.sg C]
 rw[QI C] at B
 have S:=aV C
 have J:=h.rep b _ S
 have i:=Yj.mp (b.u _ S)
 have W:p.1.toNat<M.rows.length:=by omega
 have j:(F[p.2.toNat]).toNat<M.rows.length:=by omega
 have:=Y.sg _ _ W j (by rw[B,J])
 exact (m _ _ W j).mp this
theorem LotsM.bin(h:LotsM M R)(b:Rb M R F)(T:Bi M R F p)(D:l<ltr M):Bi M R F (stp M.rows p.1 l,stp (ZI M R F).rows p.2 l):=by
 obtain⟨al,m,Y⟩:=h.ex
 obtain⟨Z,O,B⟩:=T
 have C:p.2.toNat<F.length:=by omega
 have S:=aV C
 have J:=h.rep b _ S
 have i:=Yj.mp (b.u _ S)
 rw[QI C] at B
 have W:p.1.toNat<M.rows.length:=by omega
 have j:(F[p.2.toNat]).toNat<M.rows.length:=by omega
 have N:=b.nx C D
 rw[eT O.1] at N
 have m:=b.all _ S l D
 have a:=b.p.stp Z.1 Z.2 (l:=l) (by omega) (by show (l:Int)<(ltr M:Nat);omega)
 have u:=bq m
 refine⟨a,⟨by rw[N];omega,by rw[N];omega⟩,?_⟩
 show tl R (stp M.rows p.1 l).toNat=F.getD (stp (ZI M R F).rows p.2 l).toNat 0
 rw[N,aK,QI u,dP,Sa i.1]
 have:=Y.st _ _ W j (by rw[B,J]) l D
 rw[<- this]
 unfold nxM
 rw[eT Z.1]
theorem LotsM.apart{E:List Int}(h:LotsM M R)(b:Rb M R F)(h':LotsM (ZI M R F) E):∀ i j,i<F.length->j<F.length->tl E i=tl E j->i=j:=by
 obtain⟨al,m,Y⟩:=h.ex
 obtain⟨P,H,p⟩:=h'.ex
 rw[b.len,b.lt] at p
 rw[b.len] at H
 let num:=λx:Nat=>F.idxOf (tl R x)
 let rel:=λx y:Nat=>(x<M.rows.length/\tl R x∈F)/\(y<M.rows.length/\tl R y∈F)/\tl E (num x)=tl E (num y)
 have a:∀ x,tl R x∈F->num x<F.length:=λx W=>bq W
 have s:∀ x (W:tl R x∈F),F[num x]'(a x W)=tl R x:=λx W=>dP (a x W)
 have step:∀ x,x<M.rows.length->tl R x∈F->∀ l,l<ltr M->nxM M x l<M.rows.length/\tl R (nxM M x l)∈F/\num (nxM M x l)=nxM (ZI M R F) (num x) l:=λx W S l D=>by
  have J:=h.rep b _ S
  have hu:=Yj.mp (b.u _ S)
  have e:=Y.st x (tl R x).toNat W (by omega) J.symm l D
  have N:=b.nx (a x S) D
  rw[s x S] at N
  have L:gR M R (tl R x) l=tl R (nxM M x l):=by rw[Sa hu.1,<- e]
  rw[L] at N
  refine⟨WR b.p x W l D,by rw[<- L];exact b.all _ S l D,?_⟩
  show F.idxOf (tl R (nxM M x l))=(stp (ZI M R F).rows (num x) l).toNat
  rw[N,aK]
 have B:∀ x,x<M.rows.length->tl R x∈F->tl (ZI M R F).signs (num x)=tl M.signs x:=λx W S=>by
  have J:=h.rep b _ S
  have hu:=Yj.mp (b.u _ S)
  have e:=b.sg (a x S)
  rw[s x S] at e
  show (ZI M R F).signs.getD (num x) 0=_
  rw[e]
  exact (m _ _ (by omega) W).mp (Y.sg _ _ (by omega) W J)
 have co:=Y.co rel (λi j r=>⟨r.1.1,r.2.1.1⟩) (λi j r=>?_) (λi j r l D=>?_)
 ·intro i j C u e
  have O:=aV C
  have K:=aV u
  have w:=h.rep b _ O
  have I:=h.rep b _ K
  have Z:=Yj.mp (b.u _ O)
  have X:=Yj.mp (b.u _ K)
  have T:num (F[i]).toNat=i:=by show F.idxOf (tl R (F[i]).toNat)=i;rw[w];exact b.nd.idxOf_getElem i C
  have Q:num (F[j]).toNat=j:=by show F.idxOf (tl R (F[j]).toNat)=j;rw[I];exact b.nd.idxOf_getElem j u
  have:=co (F[i]).toNat (F[j]).toNat ⟨⟨by omega,by rw[w];exact O⟩,⟨by omega,by rw[I];exact K⟩,by rw[T,Q];exact e⟩
  rw[w,I] at this
  have z:num (F[i]).toNat=num (F[j]).toNat:=by show F.idxOf (tl R (F[i]).toNat)=F.idxOf (tl R (F[j]).toNat);rw[w,I,this]
  rw[T,Q] at z
  exact z
 ·obtain⟨⟨g,G⟩,⟨A,c⟩,f⟩:=r
  refine (m _ _ g A).mpr ?_
  rw[<- B i g G,<- B j A c]
  exact (H _ _ (a i G) (a j c)).mp (p.sg _ _ (a i G) (a j c) f)
 ·obtain⟨⟨g,G⟩,⟨A,c⟩,f⟩:=r
  obtain⟨U,v,q⟩:=step i g G l D
  obtain⟨b1,b2,b3⟩:=step j A c l D
  refine⟨⟨U,v⟩,⟨b1,b2⟩,?_⟩
  rw[q,b3]
  exact p.st _ _ (a i G) (a j c) f l D
end
theorem Ref.ex{n L:Nat}{nx:Nat->Nat->Nat}:∀ (k:Nat) (al:List Int) (m:Nat),n-m<=k->∃ R,Ref n L nx al m R
 | 0,al,m,h=>⟨al,.done (by have:=T8 n (tl al);omega)⟩
 | k+1,al,m,h=>by
  by_cases Y:cnt n (tl al)<=m
  ·exact⟨al,.done Y⟩
  ·obtain⟨R,H⟩:=Ref.ex (n:=n) (L:=L) (nx:=nx) k (YJ n L nx al) (cnt n (tl al)) (by have:=T8 n (tl al);omega)
   exact⟨R,.step (by omega) H⟩
theorem LotsM.any(y:Parts 1 64 M):∃ R,LotsM M R:=by
 obtain⟨R,h⟩:=Ref.ex (n:=M.rows.length) (L:=ltr M) (nx:=nxM M) M.rows.length M.signs 0 (by omega)
 exact⟨R,M.signs,λ_ _ _ _=>Iff.rfl,h.lots0 y.n0 (WR y)⟩
theorem Rb.co{M:Mach}{R F:List Int}(h:LotsM M R)(b:Rb M R F)(rel:Nat->Nat->Prop)(h1:∀ i j,rel i j->i<F.length/\j<F.length)(O:∀ i j,rel i j->tl (ZI M R F).signs i=tl (ZI M R F).signs j)(B:∀ i j,rel i j->∀ l,l<ltr M->rel (nxM (ZI M R F) i l) (nxM (ZI M R F) j l)):∀ i j,rel i j->i=j:=by
 obtain⟨E,a⟩:=LotsM.any b.parts
 have c:=h.apart b a
 obtain⟨al,m,Y⟩:=a.ex
 rw[b.len,b.lt] at Y
 rw[b.len] at m
 intro i j r
 have e:=h1 i j r
 exact c i j e.1 e.2 (Y.co rel h1 (λi j r=>(m _ _ (h1 i j r).1 (h1 i j r).2).mpr (O i j r)) B i j r)
theorem Rb.self{F:List Int}(h:Rb M st F):Bfs (gR (ZI M st F) (stA (ZI M st F))) (ltr M) [0] 0 (rgI F.length):=by
 have P:=h.parts
 have K:=h.len
 have a:=ER h.bf h.nd
 refine Bfs.congr (U:=rgI F.length) (λx W l D=>?_) (λx W l D=>?_) a λx W=>?_
 ·have W:=Yj.mp W
  have C:x.toNat<F.length:=by omega
  have I:gN (gR M st) F x l=(F.idxOf (gR M st F[x.toNat] l):Int):=by
   unfold gN;rw[ai C]
  rw[I]
  exact Yj.mpr ⟨by omega,Ms (h.all _ (aV C) l D)⟩
 ·have W:=Yj.mp W
  have C:x.toNat<F.length:=by omega
  have I:gN (gR M st) F x l=(F.idxOf (gR M st F[x.toNat] l):Int):=by
   unfold gN;rw[ai C]
  rw[I,<- h.nx C D,Mi P W.1 (by omega) (by rw[show ((ZI M st F).rows.getD 0 []).length=ltr M from h.lt];exact D)]
  congr 1
  omega
 ·obtain⟨r,e⟩:=h.z
  have W:x=0:=by simpa [rgI] using W
  subst W
  exact Yj.mpr ⟨by omega,by rw[e];simp⟩
def feI[DecidableEq α](xs:List α):List Int:=xs.map λx=>(xs.idxOf x:Int)
def PreF(e:α->aj)(xs:List α)(ds:List aj):Prop:=ds=[.list (xs.map e)]/\xs.length<=1000
def E1(e:α->aj)(xs:List α)(ds:List aj):Prop:=ds=[.tuple (xs.map e)]/\xs.length<=1000
def S_fe[DecidableEq α](e:α->aj)(ds:List aj)(c:AV):Prop:=∃ xs:List α,PreF e xs ds/\c=oI (feI xs)
def E2[DecidableEq α](e:α->aj)(ds:List aj)(c:AV):Prop:=∃ xs:List α,E1 e xs ds/\c=oI (feI xs)
def YC[DecidableEq α](xs:List α)(i:Nat)(kvs:List (α×aj)):Prop:=kvs.length<=i/\∀ c,ZA kvs c=if c∈xs.take i then aa (.int (xs.idxOf c:Nat)) else none
theorem YC.zero[DecidableEq α](xs:List α):YC xs 0 []:=⟨aq _,λc=>by simp[ZA]⟩
variable{c:Int}
theorem Sb{c:α}(hi:i<xs.length):c∈xs.take (i+1)↔c∈xs.take i\/c=xs[i]:=by
 rw[iD,ai hi,nV]
 exact⟨λz=>z.imp id (λz=>f_.mp z),λz=>z.imp id (λz=>f_.mpr z)⟩
variable{kvs:List (α×aj)}
theorem YC.old[DecidableEq α](h:YC xs i kvs)(hi:i<xs.length)(hm:xs[i]∈xs.take i):YC xs (i+1) kvs:=by
 refine⟨by have:=h.1;omega,λc=>?_⟩
 rw[h.2 c]
 have:(c∈xs.take (i+1))↔c∈xs.take i:=(Sb hi).trans ⟨λz=>z.elim id λe=>e▸hm,.inl⟩
 by_cases Y:c∈xs.take i
 ·rw[if_pos Y,if_pos (this.mpr Y)]
 ·rw[if_neg Y,if_neg λz=>Y (this.mp z)]
theorem E3[DecidableEq α](hi:i<xs.length)(hm:xs[i]∉xs.take i):xs.idxOf xs[i]=i:=by
 have e:xs=xs.take i++xs[i]::xs.drop (i+1):=by rw[<- List.drop_eq_getElem_cons hi,List.take_append_drop]
 have:(xs.take i++xs[i]::xs.drop (i+1)).idxOf xs[i]=i:=by
  rw[ji,if_neg hm,List.idxOf_cons_self,hF]
  omega
 rw[<- e] at this
 exact this
theorem YC.new[DecidableEq α](h:YC xs i kvs)(hi:i<xs.length)(hm:xs[i]∉xs.take i):YC xs (i+1) (Z3 kvs xs[i] (.int i)):=by
 refine⟨by have:=h.1;have:=OW kvs xs[i] (.int i);omega,λc=>?_⟩
 rw[Ua]
 by_cases e:c=xs[i]
 ·rw[if_pos e,if_pos ((Sb hi).mpr (.inr e)),e,E3 hi hm]
 ·rw[if_neg e,h.2 c]
  have:(c∈xs.take (i+1))↔c∈xs.take i:=(Sb hi).trans ⟨λz=>z.elim id λz=>absurd z e,.inl⟩
  by_cases Y:c∈xs.take i
  ·rw[if_pos Y,if_pos (this.mpr Y)]
  ·rw[if_neg Y,if_neg λz=>Y (this.mp z)]
theorem YC.get[DecidableEq α](h:YC xs xs.length kvs)(hi:i<xs.length):ZA kvs xs[i]=aa (.int (xs.idxOf xs[i]:Nat)):=by
 rw[h.2,hE,if_pos (aV hi)]
theorem E4(T:Txt K mg)[DecidableEq α](F:KEnc e):'$' (CXE P w) 1 "first_equals" ["things"] [] (spV K (S_fe e) NX):=by
 refine val T.x_first_equals Wd (λds c ⟨xs,⟨e,_⟩,_⟩=>by rw[e];rfl) (λf X A g s H E J=>?_) [] (by simp)
 refine⟨_,(Zd (Zl (i:=1) Wd.nd rfl (de rfl) US)
   (Zd (YF bg rfl (PZ (K:=K) rfl rfl T.n_enumerate (Za (pv 0) Zb)) (W7 (K:=K) (n:=2) rfl rfl (YY (Zv (i:=2) Wd.nd rfl (aC rfl)) (YY (Zv (i:=3) Wd.nd rfl (aC rfl)) WW)))
    (Zh (Xx (ZB (VX (K:=K) rfl J.units) (pv 3) (pv 1) (by with_unfolding_all rfl))
     (Zh (WY (pv 2) (VA (pv 1) (pv 3) (VU J.units))))
     ZO)))
   (Zh (Zr (Yc (N:=["thing", "firsts"]) (cap:=[none,aa 1]) rfl rfl rfl (by kernel_rfl) (ZU (K:=K) rfl (pv 0)) (λ_ _ _ _=>(Zv (i:=0) (show (["thing", "firsts"]:List aQ).Nodup from by decide +kernel) rfl (aC rfl))) (λ_ _ _ _=>Z7) (λ_ _ _ _=>(Zo '%' (pv 1) (pv 0) (λ_ _=>rfl)))))))),?_⟩
 rintro ds c ⟨xs,⟨rfl,hz⟩,rfl⟩
 show Sv K _ _ _ [aa (.d (.list (xs.map e))),none,none,none] _
 k_head
 refine O0 (α:=α) ?_
 k_head
 refine⟨_,xs,e,rfl,rfl,⟨_,rfl⟩,λi Y=>∃ (kvs:List (α×aj)) (B p:Option AV),Y=[aa (.d (.list (xs.map e))),aa (.dic (Zk e kvs)),B,p]/\YC xs i kvs,⟨[],none,none,rfl,YC.zero xs⟩,?_,?_⟩
 ·rintro i Y C ⟨kvs,B,p,rfl,I⟩
  refine Vi ?_
  k_head
  refine Xy (λY=>∃ (kvs:List (α×aj)),Y=[aa (.d (.list (xs.map e))),aa (.dic (Zk e kvs)),aa (.d (.int i)),aa (.d (e xs[i]))]/\YC xs (i+1) kvs) (λY ⟨kvs,e,I⟩=>⟨kvs,_,_,e,I⟩) ?_
  k_head
  refine Tw F (c:=xs[i]) (kvs:=kvs) rfl rfl ?_
  rw[I.2]
  by_cases S:xs[i]∈xs.take i
  ·rw[if_pos S]
   k_head
   show (if (!true)=ak then _ else _)
   refine Tj ?_
   k_head
   exact⟨kvs,rfl,I.old C S⟩
  ·rw[if_neg S]
   k_head
   show (if (!false)=ak then _ else _)
   refine Tk ?_
   k_head
   refine OT F (by have:=I.1;omega) ?_
   k_head
   refine⟨_,xs[i],rfl,rfl,NR.av,?_⟩
   exact⟨_,rfl,I.new C S⟩
 ·rintro Y ⟨kvs,B,p,rfl,I⟩
  k_head
  refine Yw (α:=α) ?_
  k_head
  refine⟨xs,e,λx=>.d (.int (xs.idxOf x:Nat)),.inl rfl,NR.av,by omega,λi C=>?_,_,Got.own (ZW λ_=>rfl),?_⟩
  ·show Gv K _ _ [none,aa (.d (.dict (Zk e kvs)))] _
   k_head
   refine⟨Z8,?_⟩
   k_head
   exact XO F (c:=xs[i]) (kvs:=kvs) rfl rfl (I.get C) (Zu.flat rfl) rfl
  refine Xi ?_
  rw[oI,feI,bu]
  rfl
theorem E5(T:Txt K mg)[DecidableEq α](F:KEnc e):'$' (CXE P w) 1 "first_equals" ["things"] [] (spV K (E2 e) NX):=by
 refine val T.x_first_equals Wd (λds c ⟨xs,⟨e,_⟩,_⟩=>by rw[e];rfl) (λf X A g s H E J=>?_) [] (by simp)
 refine⟨_,(Zd (Zl (i:=1) Wd.nd rfl (de rfl) US)
   (Zd (YF bg rfl (O3 (K:=K) rfl rfl T.n_enumerate (Za (pv 0) Zb)) (W7 (K:=K) (n:=2) rfl rfl (YY (Zv (i:=2) Wd.nd rfl (aC rfl)) (YY (Zv (i:=3) Wd.nd rfl (aC rfl)) WW)))
    (Zh (Xx (ZB (VX (K:=K) rfl J.units) (pv 3) (pv 1) (by with_unfolding_all rfl))
     (Zh (WY (pv 2) (VA (pv 1) (pv 3) (VU J.units))))
     ZO)))
   (Zh (Zr (Yc (N:=["thing", "firsts"]) (cap:=[none,aa 1]) rfl rfl rfl (by kernel_rfl) (ZU (K:=K) rfl (pv 0)) (λ_ _ _ _=>(Zv (i:=0) (show (["thing", "firsts"]:List aQ).Nodup from by decide +kernel) rfl (aC rfl))) (λ_ _ _ _=>Z7) (λ_ _ _ _=>(Zo '%' (pv 1) (pv 0) (λ_ _=>rfl)))))))),?_⟩
 rintro ds c ⟨xs,⟨rfl,hz⟩,rfl⟩
 show Sv K _ _ _ [aa (.d (.tuple (xs.map e))),none,none,none] _
 k_head
 refine Go (α:=α) ?_
 k_head
 refine⟨_,xs,e,rfl,rfl,NR.av,⟨_,rfl⟩,λi Y=>∃ (kvs:List (α×aj)) (B p:Option AV),Y=[aa (.d (.tuple (xs.map e))),aa (.dic (Zk e kvs)),B,p]/\YC xs i kvs,⟨[],none,none,rfl,YC.zero xs⟩,?_,?_⟩
 ·rintro i Y C ⟨kvs,B,p,rfl,I⟩
  refine Vi ?_
  k_head
  refine Xy (λY=>∃ (kvs:List (α×aj)),Y=[aa (.d (.tuple (xs.map e))),aa (.dic (Zk e kvs)),aa (.d (.int i)),aa (.d (e xs[i]))]/\YC xs (i+1) kvs) (λY ⟨kvs,e,I⟩=>⟨kvs,_,_,e,I⟩) ?_
  k_head
  refine Tw F (c:=xs[i]) (kvs:=kvs) rfl rfl ?_
  rw[I.2]
  by_cases S:xs[i]∈xs.take i
  ·rw[if_pos S]
   k_head
   show (if (!true)=ak then _ else _)
   refine Tj ?_
   k_head
   exact⟨kvs,rfl,I.old C S⟩
  ·rw[if_neg S]
   k_head
   show (if (!false)=ak then _ else _)
   refine Tk ?_
   k_head
   refine OT F (by have:=I.1;omega) ?_
   k_head
   refine⟨_,xs[i],rfl,rfl,NR.av,?_⟩
   exact⟨_,rfl,I.new C S⟩
 ·rintro Y ⟨kvs,B,p,rfl,I⟩
  k_head
  refine Yw (α:=α) ?_
  k_head
  refine⟨xs,e,λx=>.d (.int (xs.idxOf x:Nat)),.inr rfl,NR.av,by omega,λi C=>?_,_,Got.own (ZW λ_=>rfl),?_⟩
  ·show Gv K _ _ [none,aa (.d (.dict (Zk e kvs)))] _
   k_head
   refine⟨Z8,?_⟩
   k_head
   exact XO F (c:=xs[i]) (kvs:=kvs) rfl rfl (I.get C) (Zu.flat rfl) rfl
  refine Xi ?_
  rw[oI,feI,bu]
  rfl
theorem E6{n:Nat}{nx:Nat->Nat->Nat}:feI ((aD n).map (Z9 L nx al))=YJ n L nx al:=by
 unfold feI YJ YB
 rw[bu]
 rfl
theorem E7(p:Int×List Int):ZH (dQ p)=true:=by
 simp only[ZH,noLsts,kz,ky]
 exact Y2 _
abbrev E8(M:Mach)(al:List Int):List (Int×List Int):=(aD M.rows.length).map (Z9 (ltr M) (nxM M) al)
theorem Mv(a:Parts 1 64 M)(hi:i<M.rows.length):(M.rows[i].map λy=>tl al y.toNat)=(aD (ltr M)).map λl=>tl al (nxM M i l):=by
 have J:=(a.row _ (aV hi)).1
 refine hJ (by rw[ah,ah,b9];exact J) λl Z O=>?_
 rw[ah] at Z
 rw[hH,hH,h_]
 congr 1
 unfold nxM stp
 rw[aK,aK,am (l:=M.rows),ai hi]
 show _=(M.rows[i].getD l 0).toNat
 rw[am,ai Z]
 rfl
variable{o:Option AV}
theorem E9{o':Option AV}{r:Sl}:Wk (o::o'::r) (none::none::r):=λ_ _ _ _ _ _ s=>(s.drop (i:=0)).drop (i:=1)
def Da(ds:List aj)(M:Mach)(al:List Int):Prop:=ds=[tR M.rows,dI al]/\Parts 1 64 M/\al.length=M.rows.length
def Db(ds:List aj)(c:AV):Prop:=∃ M al,Da ds M al/\c=oI (YJ M.rows.length (ltr M) (nxM M) al)
theorem Dc(T:Txt K mg):'$' (CXE P w) 2 "parted" ["rows", "alike"] [] (spV K Db NX):=by
 have c_first_equals:'$' _ _ _ _ _ _:=E4 T KEnc.nest
 refine val T.x_parted Eg (λds c ⟨M,al,⟨e,_⟩,_⟩=>by rw[e];rfl) (λf X A g s H E J=>?_) [] (by simp)
 refine⟨_,(Zh (Zr (Zt (c_first_equals.mono (by decide)) J rfl Zs (Za (Yc (N:=["room", "row", "alike"]) (cap:=[none,none,aa 1]) rfl rfl rfl (by kernel_rfl) (O3 (K:=K) rfl rfl T.n_enumerate (Za (pv 0) Zb)) (λ_ _ _ _=>(W7 (K:=K) (n:=2) rfl rfl (YY (Zv (i:=0) (show (["room", "row", "alike"]:List aQ).Nodup from by decide +kernel) rfl (aC rfl)) (YY (Zv (i:=1) (show (["room", "row", "alike"]:List aQ).Nodup from by decide +kernel) rfl (aC rfl)) WW)))) (λ_ _ _ _=>Z7) (λ_ _ _ _=>(YT (Za (Zo '%' (pv 2) (pv 0) (λ_ _=>rfl)) (Za (ZR (X1 (K:=K) rfl) rfl T.n_tuple a_ (Za (Yc (N:=["led", "alike"]) (cap:=[none,aa 2]) rfl rfl rfl (by kernel_rfl) (ZU (K:=K) rfl (pv 1)) (λ_ _ _ _=>(Zv (i:=0) (show (["led", "alike"]:List aQ).Nodup from by decide +kernel) rfl (aC rfl))) (λ_ _ _ _=>Z7) (λ_ _ _ _=>(Zo '%' (pv 1) (pv 0) (λ_ _=>rfl)))) Zb)) Zb))))) Zb)))),?_⟩
 rintro ds c ⟨M,al,⟨rfl,hP,hl⟩,rfl⟩
 show Sv K _ _ _ [aa (.d (tR M.rows)),aa (.d (dI al))] _
 have x:=hP.n1
 have a:=hP.l1
 k_head
 refine OX (O4 ?_)
 k_head
 refine⟨_,M.rows.map tI,rfl,rfl,NR.av,by rw[ah];omega,λn ys=>n<=M.rows.length/\ys=((aD n).map (Z9 (ltr M) (nxM M) al)).map λk=>.d (dQ k),⟨bP _,rfl⟩,λi ys C p=>?_,λys p=>?_⟩
 ·rw[ah] at C
  obtain⟨_,rfl⟩:=p
  have I:(M.rows.map tI).getD i .none=tI M.rows[i]:=by rw[am,aW,ai C];rfl
  show Gv K _ (.tuple [.int i,(M.rows.map tI).getD i .none]) [none,none,aa (.d (dI al))] _
  rw[I]
  refine Vi ?_
  k_head
  refine⟨E9,OZ ?_⟩
  k_head
  refine Xu ?_
  k_head
  refine YV rfl (T3 (by omega) (by omega)) (Zu.flat rfl) ?_
  k_head
  refine Yw (α:=Int) ?_
  k_head
  refine⟨M.rows[i],aZ,λy=>.d (.int (tl al y.toNat)),.inr rfl,NR.av,by have:=(hP.row _ (aV C)).1;omega,λl F=>?_,_,Got.own (ZW λ_=>rfl),?_⟩
  ·have j:=(hP.row _ (aV C)).2 _ (aV F)
   show Gv K _ _ [none,aa (.d (dI al))] _
   k_head
   refine⟨Z8,?_⟩
   k_head
   exact YV rfl (T3 j.1 (by omega)) (Zu.flat rfl) rfl
  k_head
  refine X5 (ds:=(M.rows[i].map λy=>tl al y.toNat).map .int) (by rw[TV.data,AV.data,Z4,bu];rfl) (Kp.flat (Y2 _)) ?_
  rw[Mv hP C]
  k_head
  refine⟨[.d (.int (tl al i)),.d (tI ((aD (ltr M)).map λl=>tl al (nxM M i l)))],.cons rfl (.cons rfl .nil),by show 2<=1000;decide,?_⟩
  refine⟨.d (dQ (Z9 (ltr M) (nxM M) al i)),rfl,by omega,?_⟩
  rw[eI,bH,bH]
  rfl
 ·rw[ah] at p
  obtain⟨_,rfl⟩:=p
  refine⟨_,Got.own (ZW λk=>E7 k),?_⟩
  k_head
  refine ZY (by walk_at "nrs") ⟨E8 M al,⟨?_,?_⟩,rfl⟩ (Got.own (YW _)) ?_
  ·simp only[bw,iF,ck]
   rw[TV.data,AV.data,Z4]
  ·rw[ah,b9];omega
  exact Xi (by rw[E6])
theorem Ux{n:Nat}(h:al.length=n):Uc al=cnt n (tl al):=by
 have e:al=(aD n).map (tl al):=by
  refine hJ (by simp[h]) λi Z O=>?_
  simp[tl,am,ai Z]
 unfold Uc
 have:=(Mn (tl al) n).2
 rw[<- e] at this
 exact this
def QJ(cs:List AV):Prop:=∃ M:Mach,cs=[.d (dM M)]/\Parts 1 64 M
def Dd(cs:List AV)(c:AV):Prop:=∃ (M:Mach) (R:List Int),cs=[.d (dM M)]/\LotsM M R/\c=oI R
theorem De[DecidableEq α](xs:List α):(feI xs).length=xs.length:=ah ..
variable{xs:List Int}
theorem Df{n:Nat}(hn:xs.length=n):∀ i j,i<n->j<n->(tl (feI xs) i=tl (feI xs) j↔tl xs i=tl xs j):=by
 subst hn
 have e:∀ i,i<xs.length->tl (feI xs) i=(xs.idxOf (tl xs i):Int):=λi C=>by
  unfold tl feI
  rw[am,aW,am,ai C]
  rfl
 have m:∀ i,i<xs.length->tl xs i∈xs:=λi C=>Wl C
 intro i j C u
 rw[e i C,e j u]
 refine⟨λh=>?_,λh=>by rw[h]⟩
 have h:xs.idxOf (tl xs i)=xs.idxOf (tl xs j):=by omega
 have Z:=dP (bq (m i C))
 have O:=dP (bq (m j u))
 rw[<- Z,<- O]
 congr 1
theorem Dg(T:Txt K mg):'$' (CXE P w) 3 "first_alike" ["machine"] [] (spR K QJ Dd NP):=by
 have c_first_equals:'$' _ _ _ _ _ _:=E5 T KEnc.int
 have c_parted:'$' _ _ _ _ _ _:=Dc T
 refine Xk T.x_first_alike Us (λcs ⟨M,e,_⟩=>by rw[e];rfl) (λf X A g s H E J=>?_) [] (by simp)
 refine⟨_,(Zd (Zl (i:=1) Us.nd rfl (aC rfl) (Zt (c_first_equals.mono (by decide)) J rfl Zs (Za (Zo '%' (pv 0) Zc (λ_ _=>rfl)) Zb)))
   (Zd (Zl (i:=2) Us.nd rfl (aC rfl) Zc)
   (Zd (VB bg (ZB Xo (pv 2) (Zq Ue rfl T.n_len aN (Za (ZR (Ud (K:=K) rfl rfl) rfl T.n_set cq (Za (pv 1) Zb)) Zb)) (nomark _))
    (Zd (Zl (i:=2) Us.nd rfl (aC rfl) (Zq Ue rfl T.n_len aN (Za (ZR (Ud (K:=K) rfl rfl) rfl T.n_set cq (Za (pv 1) Zb)) Zb)))
    (Zh (Zl (i:=1) Us.nd rfl (aC rfl) (Zt (c_parted.mono (by decide)) J rfl Zs (Za (Zo '%' (pv 0) Zc (λ_ _=>rfl)) (Za (pv 1) Zb)))))))
   (Zh (Zr (pv 1)))))),?_⟩
 rintro cs ⟨M,rfl,hP⟩
 show Sv K _ _ _ [aa (.d (dM M)),none,none] _
 have Z:=hP.n0
 have x:=hP.n1
 have j:=hP.s
 k_head
 refine ZY (by walk_at "nrs") ⟨M.signs,⟨rfl,by omega⟩,rfl⟩ (Got.own (YW _)) ?_
 have a:=Df (xs:=M.signs) j
 have b:(feI M.signs).length=M.rows.length:=by rw[De];exact j
 generalize feI M.signs=c at a b
 k_head
 refine V0 (λm Y=>∃ (al:List Int) (k:Nat),Y=[aa (.d (dM M)),aa (oI al),aa (.d (.int k))]/\al.length=M.rows.length/\k<=M.rows.length/\(∀ R,Ref M.rows.length (ltr M) (nxM M) al k R->Ref M.rows.length (ltr M) (nxM M) c 0 R)/\m=M.rows.length-k) M.rows.length ⟨c,0,rfl,b,bP _,λR h=>h,rfl⟩ ?_
 rintro m Y ⟨al,k,rfl,hal,hk,hR,rfl⟩
 have L:=T8 M.rows.length (tl al)
 k_head
 refine Uf (ks:=al) (Yz al) (by omega) ?_
 k_head
 refine Ug ?_
 rw[Ux hal]
 k_head
 refine ite2 (λh=>?_) λh=>?_
 ·have F:k<cnt M.rows.length (tl al):=by have:=of_decide_eq_true h;omega
  k_head
  refine Uf (ks:=al) (Yz al) (by omega) ?_
  k_head
  refine Ug ?_
  rw[Ux hal]
  k_head
  refine ZY (by walk_at "nrs") ⟨M,al,⟨?_,hP,hal⟩,rfl⟩ (Got.own (YW _)) ?_
  ·show [tR M.rows,(oI al).data]=_
   rw[Yz]
  k_head
  exact⟨M.rows.length-cnt M.rows.length (tl al),by omega,_,_,rfl,Mo,L,λR J=>hR R (.step F J),rfl⟩
 ·have Q:cnt M.rows.length (tl al)<=k:=by
   have:¬ ((k:Int)<(cnt M.rows.length (tl al):Nat)):=λz=>h (decide_eq_true z)
   omega
  k_head
  exact⟨_,Xi rfl,M,al,rfl,⟨c,a,(hR al (.done Q)).lots0 Z (WR hP)⟩,rfl⟩
def Mw(cs:List AV)(c:AV):Prop:=∃ (M:Mach) (R F:List Int),cs=[.d (dM M)]/\LotsM M R/\Rb M R F/\c=.d (dM (ZI M R F))
theorem Dh(T:Txt K mg)(B:base.BuiltinsAt mg au)(j:∀ p∈ts0,p∈Tabs.ts):'$' (CXE P w) 6 "least" ["machine"] [] (spR K QJ Mw NP):=by
 have c_reached_by:'$' _ _ _ _ _ _:=EL T B j
 have c_first_alike:'$' _ _ _ _ _ _:=Dg T
 refine Xk T.x_least Eh (λcs ⟨M,e,_⟩=>by rw[e];rfl) (λf X A g s H E J=>?_) [] (by simp)
 refine⟨_,(Zh (Zr (Zt (c_reached_by.mono (by decide)) J rfl Zs (Za (pv 0) (Za (Zt (c_first_alike.mono (by decide)) J rfl Zs (Za (pv 0) Zb)) Zb))))),?_⟩
 rintro cs ⟨M,rfl,hP⟩
 show Sv K _ _ _ [aa (.d (dM M))] _
 o_law
 refine⟨[.d (dM M)],.cons (.d NR.av rfl) .nil,⟨M,rfl,hP⟩,λc ⟨M',R,e,hl,ec⟩=>?_,λ_ z=>z.elim⟩
 simp only[ck,bh,AV.d.injEq,and_true] at e
 have S:=T4 e
 subst S ec
 refine⟨_,Got.own (YW _),?_⟩
 o_law
 refine⟨[.d (dM M),.d (dI R)],.cons (.d NR.av rfl) (.cons (.d NR.av (Yz _)) .nil),⟨M,R,rfl,hP,hl.sok⟩,λc ⟨M',st',F,e,h1,h2,h3,ec⟩=>?_,λ_ z=>z.elim⟩
 simp only[ck,bh,AV.d.injEq,and_true] at e
 have S:=T4 e.1
 subst S
 have N:=EM e.2
 subst N
 subst ec
 exact⟨_,Got.own (Vm _),_,ZL rfl,M,R,F,rfl,hl,⟨hP,hl.sok,h1,h2,h3⟩,rfl⟩
variable{Q:TV->Prop}{X:Exc->Prop}
theorem Di(y:Parts 1 64 M)(q:∀ R F,LotsM M R->Rb M R F->Q (.av (.d (dM (ZI M R F))))):ClR QJ Mw NP [] Q X [.av (.d (dM M))] :=
 ⟨[.d (dM M)],.cons (.d NR.av rfl) .nil,⟨M,rfl,y⟩,λc ⟨M',R,F,e,h1,h2,ec⟩=>by
  simp only[ck,bh,AV.d.injEq,and_true] at e
  have S:=T4 e
  subst S ec
  exact⟨_,Got.own (Vm _),q R F h1 h2⟩,λ_ z=>z.elim⟩
def Mx(ds:List aj)(c:AV):Prop:=∃ b:Int,ds=[.int b]/\(2<=b/\b<=5)/\c=.d .none
theorem QK(T:Txt K mg):'$' (CXE P w) 1 "want_base" ["base"] [] (spV K Mx NX):=by
 refine val T.x_want_base N3 (λds c ⟨k,e,_⟩=>by rw[e];rfl) (λf X A g s H E J=>?_) [] (by simp)
 refine⟨_,(Zh (Yf (PW.pt (Yb (ZB Xo (pv 0) (W5 T.g_LEAST_BASE rfl) (nomark _)) (YL (ZB Xp (pv 0) (W5 T.g_GREATEST_BASE rfl) (nomark _)))))
    (Zh Ss)
    ZO)),?_⟩
 rintro ds c ⟨b,rfl,hb,rfl⟩
 show Sv K _ _ _ [aa (.d (.int b))] _
 w_on
 refine SY (by omega) ?_
 w_on
 refine SY (by omega) ?_
 w_on
theorem QL(hb:2<=b/\b<=5)(q:Q (.av (.d .none))):Cl Mx [] Q [.av (.d (.int b))]:=ZY (by walk_at "nrs") ⟨b,rfl,hb,rfl⟩ (Got.own rfl) q
def My(ds:List aj)(c:AV):Prop:=∃ n b:Int,ds=[.int n,.int b]/\(2<=b/\b<=5)/\0<=n/\n.toNat<2 ^ 900/\c=oI (figs b n)
theorem Mz(T:Txt K mg):∀ dvs∈[[],[V.int 2]],'$' (CXE P w) 2 "figures_of" ["place", "base"] dvs (spV K My NX):=by
 have c_want_base_n:'$' _ _ _ _ _ _:=QK T
 refine val T.x_figures_of TR (λds c ⟨n,b,e,_⟩=>by rw[e];rfl) (λf X A g s H E J=>?_)
 refine⟨_,(Zd (YM (Zt (c_want_base_n.mono (by decide)) J rfl Zs (Za (pv 1) Zb)))
   (Zd (Zl (i:=2) TR.nd rfl (aC rfl) (Xd Zb))
   (Zd (Zl (i:=3) TR.nd rfl (aC rfl) (pv 0))
   (Zd (VB bg (ZB Xp (pv 3) Zc (nomark _))
    (Zd (YM (Xf (K:=K) rfl bB cD cT Wt (pv 2) (Za (Zj ZZ (pv 3) (pv 1)) Zb)))
    (Zh (Zl (i:=3) TR.nd rfl (aC rfl) (Zj YS (pv 3) (pv 1))))))
   (Zd (YM (JC (K:=K) rfl bB kO PySem.F.type_list_reverse K4 (pv 2)))
   (Zh (Zr (pv 2)))))))),?_⟩
 rintro ds c ⟨n,b,rfl,hb,h0,h1,rfl⟩
 show Sv K _ _ _ [aa (.d (.int n)),aa (.d (.int b)),none,none] _
 w_on
 refine QL hb ?_
 w_on
 refine V0 (λm Y=>∃ (ds:List Int) (r:Int),Y=[aa (.d (.int n)),aa (.d (.int b)),aa (oI ds),aa (.d (.int r))]/\Lig b n ds r/\m=r.toNat) n.toNat ⟨[],n,rfl,.start h0 h1,rfl⟩ ?_
 rintro m Y ⟨ds,r,rfl,L,rfl⟩
 w_on
 refine ite2 (λh=>?_) λh=>?_
 ·have G:0<r:=of_decide_eq_true h
  obtain⟨a,D,S⟩:=L.step hb.1 hb.2 G
  w_on
  refine Vf ?hz ?_
  case hz=>rw[ah];omega
  w_on
  exact⟨(r / b).toNat,S,ds++[r%b],r / b,by rw[oI,bH];rfl,a,rfl⟩
 ·have G:¬ 0<r:=λz=>h (decide_eq_true z)
  obtain⟨e,D⟩:=L.done G
  subst e
  w_on
  refine Xi ?_
  rw[oI,figs,List.map_reverse]
theorem MA{n:Int}(hb:2<=b/\b<=5)(G:0<=n)(h1:n.toNat<2 ^ 900)(q:Q (.av (oI (figs b n)))):Cl My [] Q [.av (.d (.int n)),.av (.d (.int b))] :=
 ZY (by walk_at "nrs") ⟨n,b,rfl,hb,G,h1,rfl⟩ (Got.own (YW _)) q
def pad(L:Nat)(xs:List Int):List Int:=aB (L-xs.length) 0++xs
theorem QM(h:xs.length<=L):(pad L xs).length=L:=by unfold pad;rw[ay,fv];omega
theorem QN{n:Int}(hb:2<=b/\b<=5)(G:0<=n)(h1:n.toNat<2 ^ 900):(figs b n).length<=900:=by
 unfold figs;rw[lT];exact PY (n:=n) hb.1 hb.2 900 n h1
theorem Dj(k:Nat):(aB k [aZ 0]).flatten=(aB k (0:Int)).map PyData.int:=by
 induction k with
 | zero=>rfl
 | succ k E=>rw[cf,eX,E,cf];rfl
def MB(ds:List aj)(c:AV):Prop:=∃ (xs:List Int) (L:Nat),ds=[dI xs,.int L]/\L<=1000/\xs.length<=1000/\c=oI (pad L xs)
theorem MC(T:Txt K mg):'$' (CXE P w) 1 "filled" ["figures", "length"] [] (spV K MB NX):=by
 refine val T.x_filled F4 (λds c ⟨ns,k,e,_⟩=>by rw[e];rfl) (λf X A g s H E J=>?_) [] (by simp)
 refine⟨_,(Zh (Zr (Zj (ZP (K:=K) rfl) (Zj Yv (Xd (Za Zc Zb)) (Zj VF (pv 1) (Zq (ZX (K:=K) rfl) rfl T.n_len aN (Za (pv 0) Zb)))) (pv 0)))),?_⟩
 rintro ds c ⟨xs,L,rfl,hL,hx,rfl⟩
 show Sv K _ _ _ [aa (.d (dI xs)),aa (.d (.int L))] _
 w_on
 refine WA ?_
 w_on
 refine⟨[.d (.int 0)],.cons rfl .nil,by decide,?_⟩
 w_on
 refine Xh rfl ?_
 w_on
 rw[ah]
 have e:((L:Int)-(xs.length:Int)).toNat=L-xs.length:=by omega
 refine Hf (ds:=[.int 0]) rfl ⟨by omega,by omega⟩ (by rw[e];show 1*_<=_;omega) ?_
 rw[e,Dj,QC]
 w_on
 refine V2 (ds:=(aB (L-xs.length) (0:Int)).map .int) (es:=xs.map .int) (by rw[TV.data,AV.data,Z4]) rfl (Kp.flat (Y2 _)) (Kp.flat (Y2 _)) (by rw[ah,ah,fv];omega) ?_
 refine Xi ?_
 rw[<- bH,QC]
 rfl
theorem Dk(U:L<=1000)(W:xs.length<=1000)(q:Q (.av (oI (pad L xs)))):Cl MB [] Q [.av (.d (dI xs)),.av (.d (.int L))] :=
 ZY (by walk_at "nrs") ⟨xs,L,rfl,U,W,rfl⟩ (Got.own (YW _)) q
def Dl(ds:List aj)(c:AV):Prop:=∃ (n:Int) (m:Nat) (b:Int),ds=[.int n,.int m,.int b]/\(2<=b/\b<=5)/\0<=n/\n.toNat<2 ^ 900/\m<=1000/\c=.d (tI (pad m (figs b n)))
theorem Dm(T:Txt K mg):∀ dvs∈[[],[V.int 2]],'$' (CXE P w) 3 "column_of" ["code", "many", "base"] dvs (spV K Dl NX):=by
 have c_figures_of:'$' _ _ _ _ _ _:=Mz T [] (by simp)
 have c_filled:'$' _ _ _ _ _ _:=MC T
 refine val T.x_column_of F7 (λds c ⟨n,m,b,e,_⟩=>by rw[e];rfl) (λf X A g s H E J=>?_)
 refine⟨_,(Zh (Zr (ZR (X1 (K:=K) rfl) rfl T.n_tuple a_ (Za (Zt (c_filled.mono (by decide)) J rfl Zs (Za (Zt (c_figures_of.mono (by decide)) J rfl Zs (Za (pv 0) (Za (pv 2) Zb))) (Za (pv 1) Zb))) Zb)))),?_⟩
 rintro ds c ⟨n,m,b,rfl,hb,h0,h1,hm,rfl⟩
 show Sv K _ _ _ [aa (.d (.int n)),aa (.d (.int m)),aa (.d (.int b))] _
 w_on
 refine MA hb h0 h1 ?_
 w_on
 refine ZY (by walk_at "nrs") ⟨figs b n,m,by simp only[bw,iF,TV.data];rw[Yz];rfl,hm,aT (QN hb h0 h1) (by decide),rfl⟩ (Got.own (YW _)) ?_
 w_on
 refine X5 (ds:=(pad m (figs b n)).map .int) (by rw[TV.data,Yz];rfl) (.inl rfl) ?_
 w_on
 exact ZL rfl
theorem Vq{M:List α->Prop}(xs:List α)(G:M [])(h1:∀ ys d,M ys->M (ys++[d])):M xs:=by
 have:∀ ys:List α,M ys.reverse:=λys=>by
  induction ys with
  | nil=>exact G
  | cons d ys E=>rw[fF];exact h1 _ _ E
 have:=this xs.reverse
 rwa [List.reverse_reverse] at this
theorem Dn{q d:Int}(hb:2<=b/\b<=5)(m:0<=q)(hd:0<=d/\d<b)(h:0<q*b+d):figs b (q*b+d)=figs b q++[d]:=by
 have S:(q*b+d)%b=d:=by rw[Int.add_comm,Int.add_mul_emod_self_right];exact Int.emod_eq_of_lt hd.1 hd.2
 have N:(q*b+d) / b=q:=by
  rw[Int.add_comm,Int.add_mul_ediv_right _ _ (by omega),Int.ediv_eq_zero_of_lt hd.1 hd.2];omega
 unfold figs
 rw[VT hb.1 hb.2 h,S,N,fF]
theorem Do(hb:2<=b/\b<=5)(xs:List Int):(∀ x∈xs,0<=x/\x<b)->0<=num b xs/\num b xs+1<=5 ^ xs.length:=by
 refine Vq (M:=λxs=>(∀ x∈xs,0<=x/\x<b)->0<=num b xs/\num b xs+1<=5 ^ xs.length) xs (λ_=>⟨fP _,fP _⟩) λys d E h=>?_
 obtain⟨L,F⟩:=E λx W=>h x (a9 _ W)
 have hd:=h d (bi _ (.head _))
 rw[Wx,ay,fX,gj]
 have B:0<=num b ys*b:=eM L (by omega)
 have C:(num b ys+1)*b<=(num b ys+1)*5:=bS hb.2 (by omega)
 have a:(num b ys+1)*b=num b ys*b+b:=by rw[jL,lU]
 omega
theorem Dp(hb:2<=b/\b<=5)(xs:List Int):(∀ x∈xs,0<=x/\x<b)->pad xs.length (figs b (num b xs))=xs:=by
 refine Vq (M:=λxs=>(∀ x∈xs,0<=x/\x<b)->pad xs.length (figs b (num b xs))=xs) xs (λ_=>?_) λys d E h=>?_
 ·rw[show num b []=0 from rfl];unfold figs;rw[XH (by omega)];rfl
 ·have j:∀ x∈ys,0<=x/\x<b:=λx W=>h x (a9 _ W)
  have e:=E j
  have hd:=h d (bi _ (.head _))
  have m:=(Do hb ys j).1
  rw[Wx,ay,fX]
  by_cases T:0<num b ys*b+d
  ·rw[Dn hb m hd T]
   unfold pad at e ⊢
   rw[ay,fX,Nat.add_sub_add_right,<- bM,e]
  ·have B:0<=num b ys*b:=eM m (by omega)
   have l:d=0:=by omega
   have c:num b ys=0:=by
    rcases Int.lt_or_eq_of_le m with z|z
    ·have:0<num b ys*b:=Int.mul_pos z (by omega)
     omega
    ·exact z.symm
   subst l
   rw[c] at e ⊢
   have a:figs b (0*b+0)=[]:=by unfold figs;rw[XH (by omega)];rfl
   have i:figs b 0=[]:=by unfold figs;rw[XH (by omega)];rfl
   rw[i] at e
   rw[a]
   unfold pad at e ⊢
   rw[ck,lk,Nat.sub_zero] at e ⊢
   rw[List.replicate_succ',e]
theorem MD{b:Int}(hb:2<=b/\b<=5):∀ (n:Nat) (k:Int),k.toNat<=n->∀ x∈dig b k,0<=x/\x<b
 | 0,k,h,x,W=>by rw[XH (by omega)] at W;cases W
 | n+1,k,h,x,W=>by
  by_cases R:0<k
  ·rw[VT hb.1 hb.2 R] at W
   rcases gh.mp W with e|W
   ·rw[e];exact⟨er _ (by omega),di _ (by omega)⟩
   ·refine MD hb n (k / b) ?_ x W
    have Z:k*2<=k*b:=bS hb.1 (by omega)
    have O:k / b<k:=lB (by omega) (by omega)
    omega
  ·rw[XH R] at W;cases W
theorem Dq(hb:2<=b/\b<=5):∀ x∈figs b k,0<=x/\x<b:=λx W=>MD hb _ k (aq _) x (by unfold figs at W;exact List.mem_reverse.mp W)
theorem ME{k:Nat}(h:k<ns.length):atI (ns.map aZ) (k:Int)=aa (.int (ns.getD k 0)):=SH (by rw[aW,ai h,am,ai h];rfl)
def MF(ds:List aj)(c:AV):Prop:=∃ (xs:List Int) (b:Int),(ds=[dI xs,.int b]\/ds=[tI xs,.int b])/\(2<=b/\b<=5)/\c=.d (.int (num b xs))
theorem Dr(T:Txt K mg):∀ dvs∈[[],[V.int 2]],'$' (CXE P w) 2 "number_of" ["figures", "base"] dvs (spV K MF NX):=by
 have c_want_base_n:'$' _ _ _ _ _ _:=QK T
 refine val T.x_number_of TU (λds c ⟨n,b,e,_⟩=>by rcases e with e|e<;>rw[e]<;>rfl) (λf X A g s H E J=>?_)
 refine⟨_,(Zd (YM (Zt (c_want_base_n.mono (by decide)) J rfl Zs (Za (pv 1) Zb)))
   (Zd (Zl (i:=2) TU.nd rfl (aC rfl) Zc)
   (Zd (YF bg rfl (ZU (K:=K) rfl (pv 0)) (Zv (i:=3) TU.nd rfl (aC rfl))
    (Zh (Zl (i:=2) TU.nd rfl (aC rfl) (Zj (ZP (K:=K) rfl) (Zj Yv (pv 2) (pv 1)) (pv 3)))))
   (Zh (Zr (pv 2)))))),?_⟩
 rintro ds c ⟨xs,b,e,hb,rfl⟩
 obtain⟨x,rfl,W⟩:∃ x,ds=[x,.int b]/\(x=.list (xs.map .int)\/x=.tuple (xs.map .int)):=by
  rcases e with e|e
  ·exact⟨_,e,.inl rfl⟩
  ·exact⟨_,e,.inr rfl⟩
 show Sv K _ _ _ [aa (.d x),aa (.d (.int b)),none,none] _
 w_on
 refine QL hb ?_
 w_on
 refine WD (α:=Int) ?_
 w_on
 refine⟨xs,aZ,W,⟨_,rfl⟩,λi Y=>∃ o,Y=[aa (.d x),aa (.d (.int b)),aa (.d (.int (num b (xs.take i)))),o],⟨none,rfl⟩,?_,?_⟩
 ·rintro i Y hi ⟨o,rfl⟩
  w_on
  refine⟨aa (.d (.int xs[i])),?_⟩
  rw[iD,ai hi]
  show _=[_,_,aa (AV.d (.int (num b (xs.take i++[xs[i]])))),_]
  rw[Wx]
 ·rintro Y ⟨o,rfl⟩
  rw[hE]
  w_on
  exact ZL rfl
abbrev Yx(b:Int)(ns:List OkS)(N:Mach):PyData:=.tuple [.int b,.tuple (ns.map dS),dM N]
theorem Ds(T:Txt K mg):∀ dvs∈[[],[V.int 2]],'$' (CXE P w) 3 "code_of" ["column", "base"] dvs (spV K MF NX):=by
 have c_number_of:'$' _ _ _ _ _ _:=Dr T [] (by simp)
 refine val T.x_code_of F6 (λds c ⟨n,b,e,_⟩=>by rcases e with e|e<;>rw[e]<;>rfl) (λf X A g s H E J=>?_)
 refine⟨_,(Zh (Zr (Zt (c_number_of.mono (by decide)) J rfl Zs (Za (pv 0) (Za (pv 1) Zb))))),?_⟩
 rintro ds c ⟨xs,b,e,hb,rfl⟩
 obtain⟨x,rfl,W⟩:∃ x,ds=[x,.int b]/\(x=dI xs\/x=tI xs):=by
  rcases e with e|e
  ·exact⟨_,e,.inl rfl⟩
  ·exact⟨_,e,.inr rfl⟩
 show Sv K _ _ _ [aa (.d x),aa (.d (.int b))] _
 w_on
 refine ZY (by walk_at "nrs") ⟨xs,b,by rcases W with e|e<;>subst e;exact .inl rfl;exact .inr rfl,hb,rfl⟩ (Got.own rfl) ?_
 exact ZL rfl
def Dt(ds:List aj)(c:AV):Prop:=∃ (b:Int) (ns:List OkS),ds=[.int b,.tuple (ns.map dS)]/\(2<=b/\b<=5)/\ns.length<=8/\c=.d (.int (b ^ ns.length))
theorem MG(T:Txt K mg):'$' (CXE P w) 1 "letters_for" ["base", "names"] [] (spV K Dt NX):=by
 refine val T.x_letters_for TX (λds c ⟨_,_,e,_⟩=>by rw[e];rfl) (λf X A g s H E J=>?_) [] (by simp)
 refine⟨_,(Zd (Zl (i:=2) TX.nd rfl (aC rfl) Zc)
   (Zd (YF bg rfl (ZU (K:=K) rfl (pv 1)) (Zv (i:=3) TX.nd rfl (aC rfl))
    (Zh (Zl (i:=2) TX.nd rfl (aC rfl) (Zj Yv (pv 2) (pv 0)))))
   (Zh (Zr (pv 2))))),?_⟩
 rintro ds c ⟨b,ns,rfl,hb,hn,rfl⟩
 show Sv K _ _ _ [aa (.d (.int b)),aa (.d (.tuple (ns.map dS))),none,none] _
 w_on
 refine WD (α:=OkS) ?_
 w_on
 refine⟨ns,dS,.inr rfl,⟨_,rfl⟩,λi Y=>∃ o,Y=[aa (.d (.int b)),aa (.d (.tuple (ns.map dS))),aa (.d (.int (b ^ i))),o],⟨none,by rw[lp]⟩,?_,?_⟩
 ·rintro i Y hi ⟨o,rfl⟩
  w_on
  exact⟨_,by rw[gj]⟩
 ·rintro Y ⟨o,rfl⟩
  w_on
  exact ZL rfl
def rm(rows:List (List Int))(ls:List Int):Int:=ls.foldl (stp rows) 0
theorem Uy(rows:List (List Int))(f:List Int)(l:Int):rm rows (f++[l])=stp rows (rm rows f) l:=by unfold rm;rw[fG];rfl
theorem Parts.rm{a b:Int}{M:Mach}(h:Parts a b M):∀ (n:Nat) (f:List Int),f.length=n->(∀ l∈f,0<=l/\l<((M.rows.getD 0 []).length:Int))->0<=rm M.rows f/\rm M.rows f<M.rows.length
 | 0,f,e,_=>by
  have:f=[]:=List.length_eq_zero_iff.mp e
  subst this
  have:=h.n0
  exact⟨fP _,by show (0:Int)<_;omega⟩
 | n+1,f,e,hl=>by
  obtain⟨ys,y,rfl⟩:∃ ys y,f=ys++[y]:=⟨f.dropLast,f.getLast (by intro z;rw[z] at e;cases e),(List.dropLast_concat_getLast _).symm⟩
  rw[ay] at e
  have E:=h.rm n ys (by simpa using e) λl C=>hl l (a9 _ C)
  have j:=hl y (bi _ (.head _))
  rw[Uy]
  exact h.stp E.1 E.2 j.1 j.2
def LsOk(M:Mach)(ls:List Int):Prop:=∀ l∈ls,0<=l/\l<((M.rows.getD 0 []).length:Int)
def Dgb(b:Int)(w:List Int):Prop:=∀ d∈w,0<=d/\d<b
theorem Dgb.snoc{v:List Int}{d:Int}(h:Dgb b (v++[d])):Dgb b v/\0<=d/\d<b:=⟨λe G=>h e (a9 _ G),h d (bi _ (.head _))⟩
abbrev bs(N:Mach):Int:=((ltr N:Nat):Int)
def sgw(M:Mach)(w:List Int):Int:=M.signs.getD (rm M.rows w).toNat 0
variable{G:List Int}
theorem Du(U:LotsM M R)(Q:Rb M R G)(w:List Int):Dgb (bs M) w->Bi M R G (rm M.rows w,rm (ZI M R G).rows w):=by
 refine Vq (M:=λw=>Dgb (bs M) w->Bi M R G (rm M.rows w,rm (ZI M R G).rows w)) w (λ_=>U.bi0 Q) λv d E h=>?_
 obtain⟨N,hd⟩:=h.snoc
 have:=U.bin Q (E N) (l:=d.toNat) (show d.toNat<ltr M by have Z:=hd.1;have O:d<((ltr M:Nat):Int):=hd.2;omega)
 rw[Uy,Uy]
 rw[eT hd.1] at this
 exact this
theorem Dv(U:LotsM M R)(Q:Rb M R G){w:List Int}(hw:Dgb (bs M) w):sgw (ZI M R G) w=sgw M w:=(U.bis Q (Du U Q w hw)).symm
def IsL(N:Mach):Prop:=∃ A R G,LotsM A R/\Rb A R G/\N=ZI A R G
structure MetT{α:Type}[DecidableEq α](θ:Th α)(F:List α):Prop where
 bf:Bfs θ.g θ.n [θ.start] 0 F
 nd:F.Nodup
 u:∀ x∈F,x∈θ.U
def YQ(θ:Th α)(w:List Int):α:=w.foldl (λx d=>θ.g x d.toNat) θ.start
theorem MH(θ:Th α)(w:List Int)(d:Int):YQ θ (w++[d])=θ.g (YQ θ w) d.toNat:=by unfold YQ;rw[fG];rfl
variable{θ:Th α}
theorem MI[DecidableEq α]{sg:α->Int}(hX:MetT θ F)(w:List Int):Dgb (θ.n:Nat) w->YQ θ w∈F/\rm (YA θ sg F).rows w=(F.idxOf (YQ θ w):Int):=by
 have all:∀ x∈F,∀ l,l<θ.n->θ.g x l∈F:=hX.bf.all λj u z=>by omega
 obtain⟨r,e⟩:=hX.bf.pre
 refine Vq (M:=λw=>Dgb (θ.n:Nat) w->YQ θ w∈F/\rm (YA θ sg F).rows w=(F.idxOf (YQ θ w):Int)) w (λ_=>⟨by rw[e];exact .head _,?_⟩) λv d E h=>?_
 ·show (0:Int)=(F.idxOf θ.start:Int)
  rw[e]
  simp
 ·obtain⟨N,hd⟩:=h.snoc
  obtain⟨L,b⟩:=E N
  have D:d.toNat<θ.n:=by omega
  rw[MH,Uy,b]
  refine⟨all _ L _ D,?_⟩
  have C:=bq L
  unfold stp
  rw[aK]
  have S:(YA θ sg F).rows.getD (F.idxOf (YQ θ v)) []=ZF θ.g F (YQ θ v) θ.n:=by
   show (F.map λa=>ZF θ.g F a θ.n).getD _ []=_
   rw[am,aW,ai C,dP]
   rfl
  rw[S,am]
  unfold ZF
  rw[aW,d8 D]
  rfl
theorem Dw[DecidableEq α]{sg:α->Int}(hX:MetT θ F){w:List Int}(hw:Dgb (θ.n:Nat) w):sgw (YA θ sg F) w=sg (YQ θ w):=by
 obtain⟨Z,O⟩:=MI (sg:=sg) hX w hw
 have C:=bq Z
 unfold sgw
 rw[O,aK]
 show (F.map sg).getD _ 0=_
 rw[am,aW,ai C,dP]
 rfl
theorem Dx[DecidableEq α]{sg:α->Int}(hX:MetT θ F):ltr (YA θ sg F)=θ.n:=by
 obtain⟨r,e⟩:=hX.bf.pre
 have P:0<F.length:=by rw[e];simp
 show ((F.map λa=>ZF θ.g F a θ.n).getD 0 []).length=_
 rw[am,aW,ai P]
 simp[ZF]
def Zz(N:Mach):Prop:=stp N.rows 0 0=0
theorem Dy(U:LotsM M R)(Q:Rb M R G)(z:Zz M):Zz (ZI M R G):=by
 obtain⟨al,_,Y⟩:=U.ex
 obtain⟨r,e⟩:=Q.z
 have N:=Q.p.n0
 have v:=Q.p.l0
 have h:=Q.nx (i:=0) (l:=0) (by rw[e];simp) (show 0<ltr M by have b:(1:Int)<=((ltr M:Nat):Int):=v;omega)
 have c:G[0]'(by rw[e];simp)=0:=by simp[e]
 have a:gR M R 0 0=0:=by
  rw[Sa (by omega)]
  have:nxM M (0:Int).toNat 0=0:=by
   unfold nxM
   rw[show (((0:Int).toNat:Nat):Int)=0 from rfl,show ((0:Nat):Int)=0 from rfl,z]
   rfl
  rw[this]
  exact Y.z N
 unfold Zz
 rw[c] at h
 rw[show (0:Int)=((0:Nat):Int) from rfl,h,a,e]
 simp
theorem Dz(f:α->aj)(xs:List α):(xs.map f).map AV.d=xs.map λx=>.d (f x):=by rw[bu];rfl
variable{E:FK}{ys:List OkS}
theorem DA{X:Exc->Sl->Prop}{ys:List Int}{b:TV}(ha:a.data=dI xs)(hb:b.data=dI ys)(na:NR a)(h:NR b)(hz:xs.length+ys.length<=1000000)(q:Q (.av (oI (xs++ys)))):Op K E X (Tg K) a b Q:=by
 refine V2 (ds:=xs.map .int) (es:=ys.map .int) ha hb (Kp.flat (Y2 _)) (Kp.flat (Y2 _)) (by rw[ah,ah];exact hz) ?_ na h
 rw[<- bH,Dz]
 exact q
def Bad(b:Int):Prop:=b<2\/5<b
def MJ(cs:List AV):Prop:=∃ b:Int,cs=[.d (.int b)]
def MK(cs:List AV)(c:AV):Prop:=∃ b:Int,cs=[.d (.int b)]/\(2<=b/\b<=5)/\c=.d .none
def ML(C:ao)(cs:List AV)(e:Exc):Prop:=∃ b:Int,cs=[.d (.int b)]/\Bad b/\e=⟨C,[]⟩
variable{C_WheelError C_NoBase C_TooGreat C_TooWide C_NoName:ao}
theorem DB(T:Txt K mg)(Z:Cs K mg C_WheelError C_NoBase C_TooGreat C_TooWide C_NoName):'$' (CXE P w) 1 "want_base" ["base"] [] (spR K MJ MK (ML C_NoBase)):=by
 refine OS T.x_want_base N3 (λcs ⟨b,e⟩=>by rw[e];rfl) (λf X A g s H E J=>?_) [] (by simp)
 refine⟨_,(Zh (Yf (PW.pt (Yb (ZB Xo (pv 0) (W5 T.g_LEAST_BASE rfl) (nomark _)) (YL (ZB Xp (pv 0) (W5 T.g_GREATEST_BASE rfl) (nomark _)))))
    (Zh (Hv eD rfl eD Z.x_NoBase rfl rfl Z.c_NoBase))
    ZO)),?_⟩
 rintro cs ⟨b,rfl⟩
 show Sv K _ _ _ [aa (.d (.int b))] _
 w_on
 refine ite2 (λh=>?_) λh=>?_
 ·w_on
  exact OF ⟨b,rfl,.inl (of_decide_eq_true h),rfl⟩
 ·w_on
  refine ite2 (λO=>?_) λO=>?_
  ·w_on
   exact OF ⟨b,rfl,.inr (of_decide_eq_true O),rfl⟩
  ·have a:¬ b<2:=λz=>h (decide_eq_true z)
   have B:¬ 5<b:=λz=>O (decide_eq_true z)
   w_on
   exact⟨b,rfl,by omega,rfl⟩
theorem MM:∀ {a b:List Nat},aU a b=aF->aU b a=aF->a=b
 | [],[],_,_=>rfl
 | [],_::_,h,_=>by simp[aU] at h
 | _::_,[],_,h=>by simp[aU] at h
 | x::a,y::b,h,g=>by
  simp only[aU] at h g
  have e:x=y:=by
   rcases dA x y with z|z|z
   ·simp[z] at h
   ·exact z
   ·simp[z] at g
  subst e
  simp at h g
  rw[MM h g]
theorem MN:∀ {a b c:List Nat},aU b a=aF->aU c b=aF->aU c a=aF
 | _,_,[],h,g=>by
  rename_i a b
  cases b with
  | nil =>
   cases a with
   | nil=>rfl
   | cons _ _=>simp[aU] at h
  | cons _ _=>simp[aU] at g
 | [],_,_::_,_,_=>by simp[aU]
 | x::a,[],z::c,h,g=>by simp[aU] at h
 | x::a,y::b,z::c,h,g=>by
  simp only[aU] at h g ⊢
  rcases dA x y with q|q|q
  ·rcases dA y z with r|r|r
   ·have:¬ z<x:=by omega
    have:¬ z=x:=by omega
    simp[*]
   ·have:¬ z<x:=by omega
    have:¬ z=x:=by omega
    simp[*]
   ·simp[r] at g
  ·subst q
   rcases dA x z with r|r|r
   ·have:¬ z<x:=by omega
    have:¬ z=x:=by omega
    simp[*]
   ·subst r
    simp at h g ⊢
    exact MN h g
   ·simp[r] at g
  ·simp[q] at h
def leS(a b:aQ):Prop:=aU b.cps.toList a.cps.toList=aF
theorem DC{a b:aQ}(h:leS a b)(g:leS b a):a=b:=by
 have:=MM h g
 cases a;cases b
 exact congrArg aQ.mk (Array.ext' this.symm)
theorem MO:∀ {zs:List aQ},dE zs=ak->zs.Pairwise leS
 | [],_=>.nil
 | z::zs,h=>by
  have w:∀ (zs:List aQ) (p:aQ),dY p zs=ak->(p::zs).Pairwise leS:=by
   intro zs
   induction zs with
   | nil=>intro p _;simp
   | cons x zs E =>
    intro p h
    have h:(!PySem.Spec.ltCps x.cps.toList p.cps.toList && dY x zs)=true:=h
    rw[aP] at h
    have W:leS p x:=by show aU _ _=aF;simpa using h.1
    have T:=E x h.2
    refine List.pairwise_cons.mpr ⟨λy j=>?_,T⟩
    rcases gh.mp j with e|e
    ·rw[e];exact W
    ·exact MN W ((List.pairwise_cons.mp T).1 y e)
  exact w zs z h
theorem MP{ns:List OkS}:∀ {ys:List aQ},(∀ y∈ys,y∈ns.map bZ)->∃ zs:List OkS,zs.map bZ=ys/\∀ z∈zs,z∈ns
 | [],_=>⟨[],rfl,λ_ z=>nomatch z⟩
 | y::ys,h=>by
  obtain⟨a,m,e⟩:=mem_map.mp (h y (.head _))
  obtain⟨zs,Z,O⟩:=MP λy j=>h y (.tail _ j)
  exact⟨a::zs,by rw[bw,Z,e],λz hz=>(gh.mp hz).elim (λq=>q▸m) (O z)⟩
structure OnceN(xs ns:List OkS):Prop where
 s:dE (ns.map bZ)=ak
 d:ns.Nodup
 m:∀ c,c∈ns↔c∈xs
variable{xs:List OkS}
theorem DD(h:xs.map bZ=ys.map bZ):xs=ys:=(gr λx y e=>gm e).mp h
variable{ns:List OkS}
theorem OnceN.one{p:List OkS}(h:OnceN xs ns)(g:OnceN xs p):ns=p :=
 DD (List.Perm.eq_of_pairwise (le:=leS) (λa b _ _ Z O=>DC Z O) (MO h.s) (MO g.s) (((List.perm_ext_iff_of_nodup h.d g.d).mpr λc=>(h.m c).trans (g.m c).symm).map _))
theorem OnceN.of{ys:List aQ}(d:ys.Nodup)(m:∀ y,y∈ys↔y∈xs.map bZ)(s:dE ys=ak):∃ ns,ns.map bZ=ys/\OnceN xs ns:=by
 obtain⟨zs,rfl,h⟩:=MP (ns:=xs) λy j=>(m y).mp j
 refine⟨zs,rfl,s,(List.pairwise_map.mp d).imp λh e=>h (congrArg _ e),λc=>⟨h c,λY=>?_⟩⟩
 obtain⟨z,hz,e⟩:=mem_map.mp ((m c.1).mpr (mem_map.mpr ⟨c,Y,rfl⟩))
 rw[<- gm e]
 exact hz
theorem WS(xs:List OkS):xs.map dS=(xs.map bZ).map .str:=by rw[bu];rfl
theorem Xa(xs:List OkS):noLsts (xs.map dS)=true:=X0 (λ_=>rfl) xs
theorem MQ(h:OnceN xs ns):ns.length<=xs.length:=Wm h.d λc Y=>(h.m c).mp Y
theorem pw0(b:Int):b ^ 0=1:=lp b
theorem Uz{b:Int}(hb:2<=b/\b<=5):∀ n:Nat,1<=b ^ n
 | 0=>by rw[pw0];exact fP _
 | n+1=>by
  rw[gj]
  have h:=Uz hb n
  have:b ^ n*1<=b ^ n*b:=bS (by omega) (by omega)
  omega
theorem DE(hb:2<=b/\b<=5)(xs:List Int):(∀ x∈xs,0<=x/\x<b)->0<=num b xs/\num b xs<b ^ xs.length:=by
 refine Vq (M:=λxs=>(∀ x∈xs,0<=x/\x<b)->0<=num b xs/\num b xs<b ^ xs.length) xs (λ_=>⟨fP _,by show (0:Int)<b ^ 0;rw[pw0];decide⟩) λys d E h=>?_
 have Z:=E λx W=>h x (a9 _ W)
 have O:=h d (bi _ (.head _))
 rw[Wx,ay,fX,gj]
 generalize num b ys=n at Z
 generalize b ^ ys.length=q at Z
 have B:(n+1)*b<=q*b:=fH (by omega) (by omega)
 have F:=eM Z.1 (show 0<=b by omega)
 rw[jL,lU] at B
 exact⟨by omega,by omega⟩
theorem MR{b:Int}(hb:2<=b/\b<=5):∀ (n:Nat) (k:Int),0<=k/\k<b ^ n->∃ col:List Int,col.length=n/\(∀ x∈col,0<=x/\x<b)/\num b col=k
 | 0,k,h=>by
  rw[pw0] at h
  exact⟨[],rfl,(λx W=>by cases W),by show (0:Int)=k;omega⟩
 | n+1,k,h=>by
  rw[gj] at h
  obtain⟨col,Z,O,B⟩:=MR hb n (k / b) ⟨Int.ediv_nonneg h.1 (by omega),lB (by omega) h.2⟩
  refine⟨col++[k%b],by rw[ay,Z];rfl,λx W=>?_,?_⟩
  ·rcases nV.mp W with z|z
   ·exact O x z
   ·rw[f_.mp z];exact⟨er _ (by omega),di _ (by omega)⟩
  ·rw[Wx,B,gk]
   exact lA k b
def WT(b:Int)(m:Nat)(k:Int):List Int:=pad m (figs b k)
theorem QO(hb:2<=b/\b<=5){col:List Int}{n:Nat}(hn:col.length=n)(h:∀ x∈col,0<=x/\x<b):WT b n (num b col)=col:=by subst hn;exact Dp hb col h
theorem MS{n:Nat}(hb:2<=b/\b<=5)(R:0<=k/\k<b ^ n):(WT b n k).length=n/\(∀ x∈WT b n k,0<=x/\x<b):=by
 obtain⟨col,Z,O,rfl⟩:=MR hb n k R
 rw[QO hb Z O]
 exact⟨Z,O⟩
def MT(cs:List AV):Prop:=∃ xs:List OkS,cs=[.d (.list (xs.map dS))]/\xs.length<=60
def MU(cs:List AV)(c:AV):Prop:=∃ xs ns:List OkS,cs=[.d (.list (xs.map dS))]/\OnceN xs ns/\c=.d (.tuple (ns.map dS))
theorem Vr(h:da (xs.map dS)=.list (ys.map dS)):xs=ys:=(gr λx y e=>gm (jd e)).mp (da.inj h)
theorem DF(T:Txt K mg):'$' (CXE P w) 1 "rising" ["names"] [] (spR K MT MU NP):=by
 refine Xk T.x_rising Ej (λcs ⟨n,e,_⟩=>by rw[e];rfl) (λf X A g s H E b=>?_) [] (by simp)
 refine⟨_,(Zh (Zr (ZR (X1 (K:=K) rfl) rfl T.n_tuple a_ (Za (Zq (NQ (P:=P) (w:=w) rfl rfl rfl) rfl T.n_sorted fT (Za (ZR (RY (P:=P) (w:=w) (K:=K) rfl rfl rfl rfl) rfl T.n_set cq (Za (pv 0) Zb)) Zb)) Zb)))),?_⟩
 rintro cs ⟨xs,rfl,hl⟩
 show Sv K _ _ _ [aa (.d (.list (xs.map dS)))] _
 w_on
 refine R0 (P:=P) (w:=w) (ns:=xs.map bZ) (by rw[TV.data,AV.data,WS]) (by rw[ah];omega) λzs Z O B=>?_
 rw[ah] at B
 w_on
 refine NT (by omega) λys J Y=>?_
 obtain⟨ns,rfl,a⟩:=OnceN.of (xs:=xs) (J.nodup_iff.mpr Z) (λy=>J.mem_iff.trans (O y)) Y
 w_on
 refine X5 (ds:=(ns.map bZ).map .str) (by rw[TV.data,AV.data,Z4]) (.inr (X0 (λ_=>rfl) _)) ?_
 exact⟨_,ZL (by rw[<- WS]),xs,ns,rfl,a,rfl⟩
theorem DG(na:NR a)(ha:a.data=.list (xs.map dS))(D:xs.length<=60)(q:∀ ns,OnceN xs ns->Q (.av (.d (.tuple (ns.map dS))))):ClR MT MU NP [] Q X [a] :=
 ⟨[.d (.list (xs.map dS))],.cons (.d na ha) .nil,⟨xs,rfl,D⟩,λc ⟨xs',ns,e,hO,ec⟩=>by
  simp only[ck,bh,AV.d.injEq,and_true] at e
  have S:=Vr e
  subst S ec
  exact⟨_,Got.own (by show ZH (.tuple (ns.map dS))=ak;simp only[ZH];exact Xa ns),q ns hO⟩,λ_ z=>z.elim⟩
def MV(cs:List AV):Prop:=∃ (b:Int) (ns:List OkS),cs=[.d (.int b),.d (.tuple (ns.map dS))]/\(2<=b/\b<=5)/\ns.length<=8
def Nrw(b:Int)(ns:List OkS):Prop:=ns.length<=4/\b ^ ns.length<=64
def MW(cs:List AV)(c:AV):Prop:=∃ (b:Int) (ns:List OkS),cs=[.d (.int b),.d (.tuple (ns.map dS))]/\Nrw b ns/\c=.d .none
abbrev xW(C:ao)(n:Int):Exc:=⟨C,[("many",.int n)]⟩
def MX(C:ao)(cs:List AV)(e:Exc):Prop:=∃ (b:Int) (ns:List OkS),cs=[.d (.int b),.d (.tuple (ns.map dS))]/\¬ Nrw b ns/\e=xW C ns.length
theorem DH(h:aI (xs.map dS)=.tuple (ys.map dS)):xs=ys:=(gr λx y e=>gm (jd e)).mp (cj h)
theorem iniW(Z:Cs K mg C_WheelError C_NoBase C_TooGreat C_TooWide C_NoName):∃ fI fd,ExcI K C_TooWide [.type "ValueError",.type "Exception",.type "BaseException",.type "object"] "ValueError.__new__" fI/\FnOk P w K mg base (CXE P w) 1 fI fd ["self", "many"] (Tq C_TooWide ["many"])/\Y1 K fd ["self", "many"] []:=by
 obtain⟨fI,fd,x,F,b⟩:=Z.ix_TooWide
 exact⟨fI,fd,x,init1 F F3 λX A g s H E=>(Zh (HM Z.es1 (pv 0) (pv 1) rfl)),b⟩
theorem DI(T:Txt K mg)(Z:Cs K mg C_WheelError C_NoBase C_TooGreat C_TooWide C_NoName):'$' (CXE P w) 3 "want_width" ["base", "names"] [] (spR K MV MW (MX C_TooWide)):=by
 obtain⟨fI,a,x_TooWide,i_TooWide,b_TooWide⟩:=iniW (P:=P) (w:=w) (base:=base) Z
 have c_letters_for:'$' _ _ _ _ _ _:=MG T
 refine OS T.x_want_width Ek (λcs ⟨_,_,e,_⟩=>by rw[e];rfl) (λf X A g s H E J=>?_) [] (by simp)
 refine⟨_,(Zh (Yf (PW.pt (Yb (ZB Xp (Zq (ZX (K:=K) rfl) rfl T.n_len aN (Za (pv 1) Zb)) (W5 T.g_MOST_NAMES rfl) (nomark _)) (YL (ZB Xp (Zt (c_letters_for.mono (by decide)) J rfl Zs (Za (pv 0) (Za (pv 1) Zb))) (W5 T.g_MOST_LETTERS rfl) (nomark _)))))
    (Zh (HQ eD rfl eD x_TooWide rfl rfl Z.c_TooWide i_TooWide (J.mono (by decide)) b_TooWide (Za (Zq (ZX (K:=K) rfl) rfl T.n_len aN (Za (pv 1) Zb)) Zb)))
    ZO)),?_⟩
 rintro cs ⟨b,ns,rfl,hb,hl⟩
 show Sv K _ _ _ [aa (.d (.int b)),aa (.d (.tuple (ns.map dS)))] _
 w_on
 refine YH rfl ?_
 rw[ah]
 w_on
 refine ite2 (λh=>?_) λh=>?_
 ·have h:(4:Int)<ns.length:=of_decide_eq_true h
  w_on
  refine OO ?_
  w_on
  refine YH rfl ?_
  rw[ah]
  w_on
  exact⟨by walk_at "nrs",rfl,by show 1<=1000;decide,b,ns,rfl,λz=>by have:=z.1;omega,rfl⟩
 have h:¬ (4:Int)<ns.length:=λz=>h (decide_eq_true z)
 w_on
 refine ZY (by walk_at "nrs") ⟨b,ns,rfl,hb,hl,rfl⟩ (Got.own rfl) ?_
 w_on
 refine ite2 (λO=>?_) λO=>?_
 ·have O:(64:Int)<b ^ ns.length:=of_decide_eq_true O
  w_on
  refine OO ?_
  w_on
  refine YH rfl ?_
  rw[ah]
  w_on
  exact⟨by walk_at "nrs",rfl,by show 1<=1000;decide,b,ns,rfl,λz=>by have:=z.2;omega,rfl⟩
 have O:¬ (64:Int)<b ^ ns.length:=λz=>O (decide_eq_true z)
 w_on
 exact⟨b,ns,rfl,⟨by omega,by omega⟩,rfl⟩
theorem MY{m:Int}{u:List OkS}(e:[AV.d (.int b),.d (.tuple (ns.map dS))]=[AV.d (.int m),.d (.tuple (u.map dS))]):b=m/\ns=u:=by
 simp only[bh,AV.d.injEq,c3,and_true] at e
 exact⟨e.1,DH e.2⟩
variable{C:ao}
theorem DJ(hb:2<=b/\b<=5)(D:ns.length<=8)(q:Nrw b ns->Q (.av (.d .none)))(f:¬ Nrw b ns->X (xW C ns.length)):ClR MV MW (MX C) [] Q X [.av (.d (.int b)),.av (.d (.tuple (ns.map dS)))] :=
 ⟨[.d (.int b),.d (.tuple (ns.map dS))],.cons (.d NR.av rfl) (.cons (.d NR.av rfl) .nil),⟨b,ns,rfl,hb,D⟩,λc ⟨b',ns',e,hn,ec⟩=>by
  obtain⟨rfl,rfl⟩:=MY e
  subst ec
  exact⟨_,Got.own rfl,q hn⟩,λx ⟨b',ns',e,hn,ex⟩=>by
  obtain⟨rfl,rfl⟩:=MY e
  subst ex
  exact f hn⟩
structure LmOk{α:Type}(θ:Th α)(sg:α->Int):Prop where
 n0:1<=θ.n
 n1:θ.n<=64
 u:θ.U.length<=100
 s:∀ x∈θ.U,0<=sg x/\sg x<=9
theorem DK[DecidableEq α]{sg:α->Int}(hX:MetT θ F)(h:LmOk θ sg):Parts 1 64 (YA θ sg F):=by
 have all:∀ x∈F,∀ l,l<θ.n->θ.g x l∈F:=hX.bf.all λj u z=>by omega
 obtain⟨r,e⟩:=hX.bf.pre
 have N:=h.n0
 have w:=h.n1
 have P:0<F.length:=by rw[e];simp
 have q:∀ a,(ZF θ.g F a θ.n).length=θ.n:=λa=>by simp[ZF]
 have G:((YA θ sg F).rows.getD 0 []).length=θ.n:=by
  show ((F.map λa=>ZF θ.g F a θ.n).getD 0 []).length=_
  rw[am,aW,ai P]
  exact q _
 have v:=aT (Wm hX.nd hX.u) h.u
 have K:(YA θ sg F).rows.length=F.length:=ah ..
 refine⟨by rw[K];exact P,by rw[K];omega,by rw[K];exact ah ..,λx W=>?_,by rw[G];omega,by rw[G];omega,λx W=>?_⟩
 ·obtain⟨a,m,rfl⟩:=mem_map.mp (show x∈F.map λa=>ZF θ.g F a θ.n from W)
  refine⟨by rw[G];exact q a,λy b=>?_⟩
  obtain⟨l,D,rfl⟩:=mem_map.mp b
  rw[K]
  have:=bq (all a m l (mem_range.mp D))
  exact⟨by omega,by omega⟩
 ·obtain⟨a,m,rfl⟩:=mem_map.mp (show x∈F.map sg from W)
  exact h.s a (hX.u a m)
def DL(P:bC)(w:bV)(K:aJ)(mg:aQ->Option ag)(base:bO)(e:α->aj)(θ:Th α×(α->Int))(cs:List AV):Prop:=Mc P w K mg base e θ cs/\LmOk θ.1 θ.2
def Vs[DecidableEq α](θ:Th α)(sg:α->Int)(N:Mach):Prop:=∃ F R G,MetT θ F/\LotsM (YA θ sg F) R/\Rb (YA θ sg F) R G/\N=ZI (YA θ sg F) R G
def DM[DecidableEq α](θ:Th α×(α->Int))(_:List AV)(c:AV):Prop:=∃ N,Vs θ.1 θ.2 N/\c=.d (dM N)
theorem DN(T:Txt K mg)(B:base.BuiltinsAt mg au)(j:∀ p∈ts0,p∈Tabs.ts)[DecidableEq α](l:KEnc e)(u:∀ a b,e a=e b->a=b)(h:∀ x,ZH (e x)=ak) :
  '$' (CXE P w) 7 "least_met" ["start", "letters", "lead", "sign", "most"] [] (spF K (DL P w K mg base e) DM):=by
 have c_machine_met:'$' _ _ _ _ _ _:=Md T l u h
 have c_least:'$' _ _ _ _ _ _:=Dh T B j
 refine RK T.x_least_met Ei (λq cs ⟨⟨_,e⟩,_⟩=>by rw[e];rfl) (λq f X A g s H E J=>?_) [] (by simp)
 refine⟨_,(Zh (Zr (Zt (c_least.mono (by decide)) J rfl Zs (Za (Zt (c_machine_met.mono (by decide)) J rfl Zs (Za (pv 0) (Za (pv 1) (Za (pv 2) (Za (pv 3) (Za (pv 4) Zb)))))) Zb)))),?_⟩
 rintro cs ⟨⟨ok,rfl⟩,lm⟩
 obtain⟨q,sg⟩:=q
 show Sv K _ _ _ [aa (.d (e q.start)),aa (.d (.int q.n)),aa (.obj (CloOk P w K mg base (CXE P w) 2 (spR K (Y8 e q) (Y9 e q) NP))),aa (.obj (CloOk P w K mg base (CXE P w) 2 (spR K (WP e q) (WQ e sg) NP))),aa (.d (.int q.m))] _
 o_law
 refine Nh ?_
 o_law
 refine⟨(q,sg),[.d (e q.start),.d (.int q.n),.obj _,.obj _,.d (.int q.m)],.cons (.d NR.av rfl) (.cons (.d NR.av rfl) (.cons .o (.cons .o (.cons (.d NR.av rfl) .nil)))),⟨ok,rfl⟩,λc ⟨F,h1,h2,h3,ec⟩=>?_,λ_ z=>z.elim⟩
 subst ec
 refine⟨_,Got.own (Vm _),?_⟩
 have hX:MetT q F:=⟨h1,h2,h3⟩
 o_law
 refine Di (DK hX lm) λR G U Q=>?_
 exact⟨_,ZL rfl,_,⟨F,R,G,hX,U,Q,rfl⟩,rfl⟩
theorem DO[DecidableEq α]{sg:α->Int}(h:Vs θ sg N):ltr N=θ.n/\Parts 1 64 N/\IsL N/\∀ w,Dgb (θ.n:Nat) w->sgw N w=sg (YQ θ w):=by
 obtain⟨F,R,G,hX,U,Q,rfl⟩:=h
 have D:=Dx (sg:=sg) hX
 refine⟨by rw[Q.lt,D],Q.parts,⟨_,R,G,U,Q,rfl⟩,λw a=>?_⟩
 rw[Dv U Q (by show Dgb ((ltr _:Nat):Int) w;rw[D];exact a),Dw hX a]
def MZ(ds:List aj)(c:AV):Prop:=∃ (rows:List (List Int)) (k:Nat),(ds=[VR rows,.int k]\/ds=[.list (rows.map tI),.int k])/\rows.length<=100000/\(∀ r∈rows,k<r.length)/\c=oI (rows.map λr=>r.getD k 0)
theorem DP(T:Txt K mg):'$' (CXE P w) 1 "at_each" ["lists", "index"] [] (spV K MZ NX):=by
 refine val T.x_at_each F5 (λds c ⟨ns,k,e,_⟩=>by rcases e with e|e<;>rw[e]<;>rfl) (λf X A g s H E J=>?_) [] (by simp)
 refine⟨_,(Zh (Zr (Yc (N:=["one", "index"]) (cap:=[none,aa 1]) rfl rfl rfl (by kernel_rfl) (ZU (K:=K) rfl (pv 0)) (λ_ _ _ _=>(Zv (i:=0) (show (["one", "index"]:List aQ).Nodup from by decide +kernel) rfl (aC rfl))) (λ_ _ _ _=>Z7) (λ_ _ _ _=>(Zo '%' (pv 0) (pv 1) (λ_ _=>rfl)))))),?_⟩
 rintro ds c ⟨rows,k,e,hn,hk,rfl⟩
 obtain⟨en,rfl,G⟩:∃ en:List Int->aj,ds=[.list (rows.map en),.int k]/\∀ r,en r=.list (r.map .int)\/en r=.tuple (r.map .int):=by
  rcases e with e|e
  ·exact⟨dI,e,λ_=>.inl rfl⟩
  ·exact⟨tI,e,λ_=>.inr rfl⟩
 show Sv K _ _ _ [aa (.d (.list (rows.map en))),aa (.d (.int k))] _
 w_on
 refine Yw (α:=List Int) ?_
 w_on
 refine⟨rows,en,λr=>.d (.int (r.getD k 0)),.inl rfl,NR.av,by omega,λi C=>?_,_,Got.own (ZW λ_=>rfl),Xi ?_⟩
 ·show Gv K _ _ [none,aa (.d (.int k))] _
  w_on
  refine⟨Z8,?_⟩
  w_on
  rcases G rows[i] with e|e
  ·exact YV e (ME (hk _ (aV C))) Zu.d rfl
  ·exact Ys e (ME (hk _ (aV C))) Zu.d rfl
 ·rw[oI,bu];rfl
theorem DQ{rows:List (List Int)}{k:Nat}(na:NR a)(ha:a.data=VR rows\/a.data=.list (rows.map tI))(hn:rows.length<=100000)(R:∀ r∈rows,k<r.length)(q:Q (.av (oI (rows.map λr=>r.getD k 0)))):Cl MZ [] Q [a,.av (.d (.int k))] :=
 ZY (.cons na (by walk_at "nrs")) ⟨rows,k,by rcases ha with e|e<;>simp[j6,e,show (TV.av (AV.d (aZ (k:Int)))).data=.int k from rfl],hn,R,rfl⟩ (Got.own (YW _)) q
def mxl(ls:List Nat):Nat:=ls.foldl kG 0
theorem QP:∀ (f:List Nat) (a:Nat),a<=f.foldl kG a/\∀ x∈f,x<=f.foldl kG a
 | [],a=>⟨aq _,λ_ z=>nomatch z⟩
 | y::f,a=>by
  obtain⟨Z,O⟩:=QP f (kG a y)
  rw[gO]
  refine⟨by omega,λx W=>?_⟩
  rcases gh.mp W with e|e
  ·subst e;omega
  ·exact O x e
theorem QQ:∀ (f:List Nat) (a:Nat),f.foldl kG a=a\/f.foldl kG a∈f
 | [],a=>.inl rfl
 | y::f,a=>by
  rw[gO]
  rcases QQ f (kG a y) with h|h
  ·rw[h]
   rcases Nat.le_total a y with z|z
   ·rw[Nat.max_eq_right z];exact .inr (.head _)
   ·rw[Nat.max_eq_left z];exact .inl rfl
  ·exact .inr (.tail _ h)
theorem DR{f:List Nat}{M:Int}(h:(f.map (λ(n:Nat)=>(n:Int))=[]/\M=0)\/(M∈f.map (λ(n:Nat)=>(n:Int))/\∀ c∈f.map (λ(n:Nat)=>(n:Int)),c<=M)):M=(mxl f:Nat):=by
 obtain⟨Z,O⟩:=QP f 0
 rcases h with⟨e,rfl⟩|⟨S,v⟩
 ·cases f with
  | nil=>rfl
  | cons _ _=>simp at e
 ·obtain⟨n,g,rfl⟩:=mem_map.mp S
  have:=O n g
  rcases QQ f 0 with e|e
  ·unfold mxl;omega
  ·have:=v _ (mem_map.mpr ⟨_,e,rfl⟩)
   unfold mxl;omega
def mxf(b:Int)(ps:List Int):Nat:=mxl (ps.map λp=>(figs b p).length)
def cols(b:Int)(ps:List Int):List (List Int):=(aD (mxf b ps)).map λk=>ps.map λp=>(pad (mxf b ps) (figs b p)).getD k 0
variable{p:Int}{ps:List Int}
theorem M0(h:p∈ps):(figs b p).length<=mxf b ps:=(QP _ 0).2 _ (mem_map.mpr ⟨p,h,rfl⟩)
theorem M1{n:Nat}(h:∀ p∈ps,(figs b p).length<=n):mxf b ps<=n:=by
 unfold mxf mxl
 rcases QQ (ps.map λp=>(figs b p).length) 0 with e|e
 ·rw[e];omega
 ·obtain⟨p,T,N⟩:=mem_map.mp e
  rw[<- N];exact h p T
abbrev oT(cs:List (List Int)):AV:=.own (cs.map λc=>.d (tI c))
theorem DS(cs:List (List Int)):(oT cs).data=.list (cs.map tI):=by rw[AV.data,Z4]
theorem DT(cs:List (List Int)):(oT cs).clean=true:=ZW λc=>Vl c
def M2(ds:List aj)(c:AV):Prop:=∃ (ps:List Int) (b:Int),ds=[dI ps,.int b]/\(2<=b/\b<=5)/\ps.length<=100/\(∀ p∈ps,0<=p/\p.toNat<2 ^ 900)/\c=oT (cols b ps)
theorem DU(T:Txt K mg):∀ dvs∈[[],[V.int 2]],'$' (CXE P w) 3 "columns_of" ["places", "base"] dvs (spV K M2 NX):=by
 have c_want_base_n:'$' _ _ _ _ _ _:=QK T
 have c_figures_of:'$' _ _ _ _ _ _:=Mz T [] (by simp)
 have c_filled:'$' _ _ _ _ _ _:=MC T
 have c_at_each:'$' _ _ _ _ _ _:=DP T
 refine val T.x_columns_of TW (λds c ⟨n,b,e,_⟩=>by rw[e];rfl) (λf X A g s H E J=>?_)
 refine⟨_,(Zd (YM (Zt (c_want_base_n.mono (by decide)) J rfl Zs (Za (pv 1) Zb)))
   (Zd (U0 (i:=2) TW.nd rfl rfl (N:=["place", "base"]) (cap:=[none,aa 1]) rfl rfl rfl (by kernel_rfl) (ZU (K:=K) rfl (pv 0)) (λ_ _ _ _=>(Zv (i:=0) (show (["place", "base"]:List aQ).Nodup from by decide +kernel) rfl (aC rfl))) (λ_ _ _ _=>Z7) (λ_ _ _ _=>(Zt (c_figures_of.mono (by decide)) J rfl Zs (Za (pv 0) (Za (pv 1) Zb)))))
   (Zd (Zl (i:=3) TW.nd rfl (de rfl) (IL (K:=K) rfl rfl rfl T.n_max (Za (Yc (N:=["figures"]) (cap:=[none]) rfl rfl rfl (by kernel_rfl) (ZU (K:=K) rfl (pv 2)) (λ_ _ _ _=>(Zv (i:=0) (show (["figures"]:List aQ).Nodup from by decide +kernel) rfl (aC rfl))) (λ_ _ _ _=>Z7) (λ_ _ _ _=>(Zq (ZX (K:=K) rfl) rfl T.n_len aN (Za (pv 0) Zb)))) Zb) (Ku Zc Kt)))
   (Zd (Zl (i:=4) TW.nd rfl (de rfl) (Yc (N:=["figures", "length"]) (cap:=[none,aa 3]) rfl rfl rfl (by kernel_rfl) (ZU (K:=K) rfl (pv 2)) (λ_ _ _ _=>(Zv (i:=0) (show (["figures", "length"]:List aQ).Nodup from by decide +kernel) rfl (aC rfl))) (λ_ _ _ _=>Z7) (λ_ _ _ _=>(Zt (c_filled.mono (by decide)) J rfl Zs (Za (pv 0) (Za (pv 1) Zb))))))
   (Zh (Zr (Yc (N:=["index", "lines"]) (cap:=[none,aa 4]) rfl rfl rfl (by kernel_rfl) (XX rfl T.n_range (Za (pv 3) Zb)) (λ_ _ _ _=>(Zv (i:=0) (show (["index", "lines"]:List aQ).Nodup from by decide +kernel) rfl (aC rfl))) (λ_ _ _ _=>Z7) (λ_ _ _ _=>(ZR (X1 (K:=K) rfl) rfl T.n_tuple a_ (Za (Zt (c_at_each.mono (by decide)) J rfl Zs (Za (pv 1) (Za (pv 0) Zb))) Zb)))))))))),?_⟩
 rintro ds c ⟨ps,b,rfl,hb,hl,hp,rfl⟩
 show Sv K _ _ _ [aa (.d (dI ps)),aa (.d (.int b)),none,none,none] _
 w_on
 refine QL hb ?_
 w_on
 refine Yw (α:=Int) ?_
 w_on
 refine⟨ps,aZ,λp=>oI (figs b p),.inl rfl,NR.av,by omega,λi C=>?_,_,Got.own (ZW λ_=>YW _),?_⟩
 ·show Gv K _ _ [none,aa (.d (.int b))] _
  w_on
  refine⟨Z8,?_⟩
  w_on
  exact MA hb (hp _ (aV C)).1 (hp _ (aV C)).2 rfl
 have x:(AV.own (ps.map λp=>oI (figs b p))).data=.list ((ps.map (figs b)).map dI):=by
  rw[Y4,bu]
  congr 1
  exact bG λp _=>Yz _
 have q:∀ p∈ps,(figs b p).length<=900:=λp h=>QN hb (hp p h).1 (hp p h).2
 have a:mxf b ps<=900:=M1 q
 refine XM x ?_
 w_on
 refine IT ?_
 w_on
 refine Yw (α:=List Int) ?_
 w_on
 refine⟨ps.map (figs b),dI,λr=>.d (.int r.length),.inl rfl,NR.av,by rw[ah];omega,λi C=>?_,_,Got.own (ZW λ_=>rfl),?_⟩
 ·show Gv K _ _ [none] _
  w_on
  refine⟨Z8,?_⟩
  w_on
  refine Xh rfl ?_
  rw[ah]
  rfl
 w_on
 refine⟨_,((ps.map λp=>(figs b p).length).map λ(n:Nat)=>(n:Int)),0,rfl,NR.av,rfl,?_,λM j=>?_⟩
 ·rw[TV.data,AV.data,Z4,dI,bu,bu,bu];rfl
 have m:M=(mxf b ps:Nat):=DR j
 subst m
 w_on
 refine Yw (α:=List Int) ?_
 w_on
 refine⟨ps.map (figs b),dI,λr=>oI (pad (mxf b ps) r),.inl rfl,NR.av,by rw[ah];omega,λi C=>?_,_,Got.own (ZW λ_=>YW _),?_⟩
 ·show Gv K _ _ [none,aa (.d (.int (mxf b ps:Nat)))] _
  w_on
  refine⟨Z8,?_⟩
  w_on
  refine Dk (by omega) ?_ rfl
  obtain⟨p,Z,O⟩:=mem_map.mp (aV C)
  rw[<- O]
  have:=q p Z
  omega
 have l:(AV.own ((ps.map (figs b)).map λr=>oI (pad (mxf b ps) r))).data=VR (ps.map λp=>pad (mxf b ps) (figs b p)):=by
  rw[Y4,bu,VR,bu]
  congr 1
  exact bG λp _=>Yz _
 refine XM l ?_
 w_on
 refine Rk ?_
 w_on
 refine⟨_,λk=>.d (tI (ps.map λp=>(pad (mxf b ps) (figs b p)).getD k 0)),rfl,⟨by omega,by omega⟩,λi C=>?_,_,Got.own (ZW λ_=>Vl _),Xi ?_⟩
 ·show Gv K _ _ [none,aa (.d (VR (ps.map λp=>pad (mxf b ps) (figs b p))))] _
  w_on
  refine⟨Z8,?_⟩
  w_on
  refine DQ NR.av (.inl rfl) (by rw[ah];omega) (λr J=>?_) ?_
  ·obtain⟨p,Z,rfl⟩:=mem_map.mp J
   rw[QM (M0 Z)]
   omega
  w_on
  refine X5 (ds:=(ps.map λp=>(pad (mxf b ps) (figs b p)).getD i 0).map .int) ?_ (.inl rfl) rfl
  rw[TV.data,AV.data,Z4]
  simp only[bu]
  rfl
 ·rw[oT,cols,bu]
  rfl
theorem DW(na:NR a)(ha:a.data=dI ps)(hb:2<=b/\b<=5)(D:ps.length<=100)(T:∀ p∈ps,0<=p/\p.toNat<2 ^ 900)(q:Q (.av (oT (cols b ps)))):Cl M2 [] Q [a,.av (.d (.int b))] :=
 ZY (.cons na (by walk_at "nrs")) ⟨ps,b,by simp[ha,show (TV.av (AV.d (aZ b))).data=.int b from rfl],hb,D,T,rfl⟩ (Got.own (DT _)) q
def DX(ds:List aj)(c:AV):Prop:=∃ (a b:Int) (M:Mach) (ls:List Int),ds=[dM M,dI ls]/\Parts a b M/\LsOk M ls/\c=.d (.int (rm M.rows ls))
theorem DY(T:Txt K mg):'$' (CXE P w) 1 "room_of" ["machine", "letters"] [] (spV K DX NX):=by
 refine val T.x_room_of Ur (λds c ⟨a,b,M,ls,e,_⟩=>by rw[e];rfl) (λf X A g s H E J=>?_) [] (by simp)
 refine⟨_,(Zd (Zl (i:=2) Ur.nd rfl (aC rfl) (Zo '%' (pv 0) Zc (λ_ _=>rfl)))
   (Zd (Zl (i:=3) Ur.nd rfl (aC rfl) Zc)
   (Zd (YF bg rfl (ZU (K:=K) rfl (pv 1)) (Zv (i:=4) Ur.nd rfl (aC rfl))
    (Zh (Zl (i:=3) Ur.nd rfl (aC rfl) (Zo '%' (Zo '%' (pv 2) (pv 3) (λ_ _=>rfl)) (pv 4) (λ_ _=>rfl)))))
   (Zh (Zr (pv 3)))))),?_⟩
 rintro ds c ⟨a,b,M,ls,rfl,h,hl,rfl⟩
 show Sv K _ _ _ [aa (.d (dM M)),aa (.d (dI ls)),none,none,none] _
 o_law
 refine WD (α:=Int) ?_
 o_law
 refine⟨ls,aZ,.inl rfl,⟨_,rfl⟩,λi Y=>∃ o,Y=[aa (.d (dM M)),aa (.d (dI ls)),aa (.d (tR M.rows)),aa (.d (.int (rm M.rows (ls.take i)))),o],⟨none,rfl⟩,?_,?_⟩
 ·rintro i Y hi ⟨o,rfl⟩
  have Z:=h.rm _ (ls.take i) rfl λl C=>hl l (List.mem_of_mem_take C)
  have O:=hl _ (aV hi)
  have J:(rm M.rows (ls.take i)).toNat<M.rows.length:=by omega
  have W:=(h.row _ (Wl (d:=[]) J)).1
  w_on
  refine Ys rfl (Wj Z.1 Z.2) Zu.d ?_
  w_on
  refine Ys rfl (Wi O.1 (by rw[W];exact O.2)) Zu.d ?_
  w_on
  refine⟨aa (.d (.int ls[i])),?_⟩
  rw[iD,ai hi]
  show _=[_,_,_,aa (AV.d (.int (rm M.rows (ls.take i++[ls[i]])))),_]
  rw[Uy]
  rfl
 ·rintro Y ⟨o,rfl⟩
  rw[hE]
  w_on
  exact ZL rfl
def DZ(ds:List aj)(c:AV):Prop:=∃ (a b:Int) (M:Mach) (ls:List Int),ds=[dM M,dI ls]/\Parts a b M/\LsOk M ls/\c=.d (.int (M.signs.getD (rm M.rows ls).toNat 0))
theorem D1(T:Txt K mg):'$' (CXE P w) 2 "sign_of" ["machine", "letters"] [] (spV K DZ NX):=by
 have c_room_of:'$' _ _ _ _ _ _:=DY T
 refine val T.x_sign_of F8 (λds c ⟨a,b,M,ls,e,_⟩=>by rw[e];rfl) (λf X A g s H E J=>?_) [] (by simp)
 refine⟨_,(Zh (Zr (Zo '%' (Zo '%' (pv 0) Zc (λ_ _=>rfl)) (Zt (c_room_of.mono (by decide)) J rfl Zs (Za (pv 0) (Za (pv 1) Zb))) (λ_ _=>rfl)))),?_⟩
 rintro ds c ⟨a,b,M,ls,rfl,h,hl,rfl⟩
 show Sv K _ _ _ [aa (.d (dM M)),aa (.d (dI ls))] _
 have Z:=h.rm _ ls rfl hl
 o_law
 refine ZY (by walk_at "nrs") ⟨a,b,M,ls,rfl,h,hl,rfl⟩ (Got.own rfl) ?_
 w_on
 refine Ys rfl (Wi Z.1 (by rw[h.s];exact Z.2)) Zu.d ?_
 exact ZL rfl
def wd(b:Int)(ps:List Int):List Int:=(cols b ps).map (num b)
theorem M3(hb:2<=b/\b<=5)(k:Nat):0<=(pad m (figs b p)).getD k 0/\(pad m (figs b p)).getD k 0<b:=by
 by_cases h:k<(pad m (figs b p)).length
 ·have S:=Wl (d:=0) h
  generalize (pad m (figs b p)).getD k 0=x at S
  rcases nV.mp (show x∈aB (m-(figs b p).length) (0:Int)++figs b p from S) with z|z
  ·rw[gI z];omega
  ·exact Dq hb _ z
 ·rw[am,eW (by omega)]
  show 0<=(0:Int)/\(0:Int)<b
  omega
theorem D2(hb:2<=b/\b<=5):∀ col∈cols b ps,col.length=ps.length/\∀ x∈col,0<=x/\x<b:=λcol Y=>by
 obtain⟨k,_,rfl⟩:=mem_map.mp Y
 refine⟨ah ..,λx W=>?_⟩
 obtain⟨p,_,rfl⟩:=mem_map.mp W
 exact M3 hb k
theorem M4(hb:2<=b/\b<=5):Dgb (b ^ ps.length) (wd b ps):=λx W=>by
 obtain⟨col,Y,rfl⟩:=mem_map.mp W
 obtain⟨Z,O⟩:=D2 hb col Y
 rw[<- Z]
 exact DE hb col O
def D5(ds:List aj)(c:AV):Prop:=∃ (b:Int) (ns:List OkS) (N:Mach) (ps:List Int),ds=[Yx b ns N,dI ps]/\(2<=b/\b<=5)/\ps.length<=4/\Parts 1 64 N/\((ltr N:Nat):Int)=b ^ ps.length/\(∀ p∈ps,0<=p/\p.toNat<2 ^ 900)/\c=.d (.bool (decide (sgw N (wd b ps)=1)))
theorem M5(T:Txt K mg):'$' (CXE P w) 4 "takes" ["relation", "places"] [] (spV K D5 NX):=by
 have c_columns_of:'$' _ _ _ _ _ _:=DU T [] (by simp)
 have c_code_of:'$' _ _ _ _ _ _:=Ds T [] (by simp)
 have c_sign_of:'$' _ _ _ _ _ _:=D1 T
 refine val T.x_takes Qk (λds c ⟨_,_,_,_,e,_⟩=>by rw[e];rfl) (λf X A g s H E J=>?_) [] (by simp)
 refine⟨_,(Zd (Zl (i:=2) Qk.nd rfl (de rfl) (Zo '%' (pv 0) Zc (λ_ _=>rfl)))
   (Zd (U0 (i:=3) Qk.nd rfl rfl (N:=["column", "base"]) (cap:=[none,aa 2]) rfl rfl rfl (by kernel_rfl) (ZU (K:=K) rfl (Zt (c_columns_of.mono (by decide)) J rfl Zs (Za (pv 1) (Za (pv 2) Zb)))) (λ_ _ _ _=>(Zv (i:=0) (show (["column", "base"]:List aQ).Nodup from by decide +kernel) rfl (aC rfl))) (λ_ _ _ _=>Z7) (λ_ _ _ _=>(Zt (c_code_of.mono (by decide)) J rfl Zs (Za (pv 0) (Za (pv 1) Zb)))))
   (Zh (Zr (Xc (YO (K:=K) rfl J.units) (Zt (c_sign_of.mono (by decide)) J rfl Zs (Za (Zo '%' (pv 0) Zc (λ_ _=>rfl)) (Za (pv 3) Zb))) Zc (nomark _)))))),?_⟩
 rintro ds c ⟨b,ns,N,ps,rfl,hb,hp4,hN,hl,hp,rfl⟩
 show Sv K _ _ _ [aa (.d (Yx b ns N)),aa (.d (dI ps)),none,none] _
 have a:mxf b ps<=900:=M1 λp h=>QN hb (hp p h).1 (hp p h).2
 have L:(cols b ps).length<=900:=by unfold cols;rw[ah,b9];exact a
 o_law
 refine Yw (α:=List Int) ?_
 o_law
 refine DW NR.av rfl hb (by omega) hp ?_
 refine⟨cols b ps,tI,λr=>.d (.int (num b r)),.inl (DS _),NR.av,by omega,λi C=>?_,_,Got.own (ZW λ_=>rfl),?_⟩
 ·show Gv K _ _ [none,aa (.d (.int b))] _
  w_on
  refine⟨Z8,?_⟩
  w_on
  exact ZY (by walk_at "nrs") ⟨_,b,.inr rfl,hb,rfl⟩ (Got.own rfl) rfl
 have x:(AV.own ((cols b ps).map λr=>.d (.int (num b r)))).data=dI (wd b ps):=by
  rw[AV.data,Z4,wd,dI,bu]
  rfl
 refine XM x ?_
 o_law
 refine ZY (by walk_at "nrs") ⟨1,64,N,wd b ps,rfl,hN,λl h=>by rw[show ((N.rows.getD 0 []).length:Int)=b ^ ps.length from hl];exact M4 hb l h,rfl⟩ (Got.own rfl) ?_
 o_law
 exact ZL rfl
structure Kn(b:Int)(ns:List OkS)(N:Mach)(pl:OkS->Int)(kvs:List (aQ×aj)):Prop where
 hb:2<=b/\b<=5
 l:ns.length<=4
 p:Parts 1 64 N
 w:((ltr N:Nat):Int)=b ^ ns.length
 k:∀ c∈ns,ZA kvs c.1=aa (.int (pl c))/\0<=pl c/\(pl c).toNat<2 ^ 900
variable{kvs:List (aQ×aj)}
theorem Kn.tk{pl:OkS->Int}(h:Kn b ns N pl kvs):(2<=b/\b<=5)/\(ns.map pl).length<=4/\Parts 1 64 N/\((ltr N:Nat):Int)=b ^ (ns.map pl).length/\∀ p∈ns.map pl,0<=p/\p.toNat<2 ^ 900 :=
 ⟨h.hb,by rw[ah];exact h.l,h.p,by rw[ah];exact h.w,λp T=>by obtain⟨c,Y,rfl⟩:=mem_map.mp T;exact (h.k c Y).2⟩
def S_tb(ds:List aj)(c:AV):Prop:=∃ (b:Int) (ns:List OkS) (N:Mach) (pl:OkS->Int) (kvs:List (aQ×aj)),ds=[Yx b ns N,.dict (Zk bc kvs)]/\Kn b ns N pl kvs/\c=.d (.bool (decide (sgw N (wd b (ns.map pl))=1)))
theorem D6(T:Txt K mg):'$' (CXE P w) 5 "takes_by" ["relation", "known"] [] (spV K S_tb NX):=by
 have c_takes:'$' _ _ _ _ _ _:=M5 T
 refine val T.x_takes_by N5 (λds c ⟨_,_,_,_,_,e,_⟩=>by rw[e];rfl) (λf X A g s H E J=>?_) [] (by simp)
 refine⟨_,(Zd (YF bg rfl (ZU (K:=K) rfl (Zo '%' (pv 0) Zc (λ_ _=>rfl))) (Zv (i:=2) N5.nd rfl (aC rfl))
    (Zh (Yf (ZB (VX (K:=K) rfl J.units) (pv 2) (pv 1) (by with_unfolding_all rfl))
     (Zh Ss)
     ZO)))
   (Zh (Zr (Zt (c_takes.mono (by decide)) J rfl Zs (Za (pv 0) (Za (Yc (N:=["name", "known"]) (cap:=[none,aa 1]) rfl rfl rfl (by kernel_rfl) (ZU (K:=K) rfl (Zo '%' (pv 0) Zc (λ_ _=>rfl))) (λ_ _ _ _=>(Zv (i:=0) (show (["name", "known"]:List aQ).Nodup from by decide +kernel) rfl (aC rfl))) (λ_ _ _ _=>Z7) (λ_ _ _ _=>(Zo '%' (pv 1) (pv 0) (λ_ _=>rfl)))) Zb)))))),?_⟩
 rintro ds c ⟨b,ns,N,pl,kvs,rfl,hk,rfl⟩
 obtain⟨M,F,hN,D,j⟩:=hk.tk
 have h:=hk.l
 show Sv K _ _ _ [aa (.d (Yx b ns N)),aa (.d (.dict (Zk bc kvs))),none] _
 o_law
 refine WD (α:=OkS) ?_
 o_law
 refine⟨ns,dS,.inr rfl,⟨_,rfl⟩,λi Y=>∃ o,Y=[aa (.d (Yx b ns N)),aa (.d (.dict (Zk bc kvs))),o],⟨none,rfl⟩,?_,?_⟩
 ·rintro i Y C ⟨o,rfl⟩
  have a:=(hk.k _ (aV C)).1
  o_law
  refine Tw KEnc.str (c:=ns[i].1) (kvs:=kvs) rfl rfl ?_
  rw[a]
  refine⟨aF,rfl,?_⟩
  o_law
  exact⟨_,rfl⟩
 rintro Y ⟨o,rfl⟩
 o_law
 refine Yw (α:=OkS) ?_
 o_law
 refine⟨ns,dS,λc=>.d (.int (pl c)),.inr rfl,NR.av,by omega,λi C=>?_,_,Got.own (ZW λ_=>rfl),?_⟩
 ·have a:=(hk.k _ (aV C)).1
  show Gv K _ _ [none,aa (.d (.dict (Zk bc kvs)))] _
  o_law
  refine⟨Z8,?_⟩
  o_law
  exact XO KEnc.str (c:=ns[i].1) (kvs:=kvs) (z:=.int (pl ns[i])) rfl rfl a (Zu.flat rfl) rfl
 o_law
 refine ZY (.cons NR.av (.cons NR.av .nil)) ⟨b,ns,N,ns.map pl,?_,M,F,hN,D,j,rfl⟩ (Got.own rfl) ?_
 ·simp only[bw,iF,ck]
  rw[show (TV.av (AV.own (ns.map λc=>.d (.int (pl c))))).data=dI (ns.map pl) by rw[TV.data,AV.data,Z4,dI,bu];rfl]
  rfl
 exact ZL rfl
theorem Enc.bool:Enc kK 0:=⟨λa b=>by cases a<;>cases b<;>simp[cH],λ_=>by simp[bX],λ_=>by simp[fR]⟩
theorem M6{X:Exc->Sl->Prop}{c:Bool}(q:Q (.av (.d (.bool ak)))):L2.Bi K E X (XJ K) [.av (.d (.bool c)),.raw (.ty "bool")] Q:=VZ NR.av rfl rfl q
def S_tk(ds:List aj)(c:AV):Prop:=∃ (b:Int) (ns:List OkS) (N:Mach) (pl:OkS->Int) (kvs:List (aQ×aj)),ds=[Yx b ns N,.dict (Zk bc kvs),.bool (decide (sgw N (wd b (ns.map pl))=1))]/\Kn b ns N pl kvs/\c=.d (.bool ak)
theorem D7(T:Txt K mg):'$' (CXE P w) 6 "_law_taken" ["_law_relation", "_law_known", "_law_due"] [] (spV K S_tk NX):=by
 have c_takes:'$' _ _ _ _ _ _:=M5 T
 have c_takes_by:'$' _ _ _ _ _ _:=D6 T
 refine val T.x_law_taken Ut (λds c ⟨_,_,_,_,_,e,_⟩=>by rw[e];rfl) (λf X A g s H E J=>?_) [] (by simp)
 refine⟨_,(Zd (U0 (i:=3) Ut.nd rfl rfl (N:=["_law_name", "_law_known"]) (cap:=[none,aa 1]) rfl rfl rfl (by kernel_rfl) (ZU (K:=K) rfl (Zo '%' (pv 0) Zc (λ_ _=>rfl))) (λ_ _ _ _=>(Zv (i:=0) (show (["_law_name", "_law_known"]:List aQ).Nodup from by decide +kernel) rfl (aC rfl))) (λ_ _ _ _=>Z7) (λ_ _ _ _=>(Zo '%' (pv 1) (pv 0) (λ_ _=>rfl))))
   (Zd (Zl (i:=4) Ut.nd rfl (aC rfl) (ZR (XI (K:=K) rfl) rfl T.n_list bQ (Za (pv 3) Zb)))
   (Zd (Zl (i:=5) Ut.nd rfl (aC rfl) (Zt (c_takes.mono (by decide)) J rfl Zs (Za (pv 0) (Za (pv 4) Zb))))
   (Zd (Yf (PW.pt (Yb (Yr (Yq (Zq (Y3 (K:=K) rfl) rfl T.n_isinstance aO (Za (pv 5) (Za (YX (v:=.ty "bool") rfl T.n_bool gp rfl) Zb))))) (Yb (ZB (Xg (K:=K) rfl J.units) (pv 5) (pv 2) (nomark _)) (YL (ZB (Xg (K:=K) rfl J.units) (pv 4) (pv 3) (nomark _))))))
    (Zh (Zr YR))
    ZO)
   (Zd (Zl (i:=6) Ut.nd rfl (aC rfl) (Zt (c_takes_by.mono (by decide)) J rfl Zs (Za (pv 0) (Za (pv 1) Zb))))
   (Zh (Zr (UF (Zq (Y3 (K:=K) rfl) rfl T.n_isinstance aO (Za (pv 6) (Za (YX (v:=.ty "bool") rfl T.n_bool gp rfl) Zb))) (UE (Xc (YO (K:=K) rfl J.units) (pv 6) (pv 2) (nomark _))))))))))),?_⟩
 rintro ds c ⟨b,ns,N,pl,kvs,rfl,hk,rfl⟩
 obtain⟨M,F,hN,D,j⟩:=hk.tk
 have h:=hk.l
 generalize hd:decide (sgw N (wd b (ns.map pl))=1)=a
 show Sv K _ _ _ [aa (.d (Yx b ns N)),aa (.d (.dict (Zk bc kvs))),aa (.d (.bool a)),none,none,none,none] _
 o_law
 refine Yw (α:=OkS) ?_
 o_law
 refine⟨ns,dS,λc=>.d (.int (pl c)),.inr rfl,NR.av,by omega,λi C=>?_,_,Got.own (ZW λ_=>rfl),?_⟩
 ·have l:=(hk.k _ (aV C)).1
  show Gv K _ _ [none,aa (.d (.dict (Zk bc kvs)))] _
  o_law
  refine⟨Z8,?_⟩
  o_law
  exact XO KEnc.str (c:=ns[i].1) (kvs:=kvs) (z:=.int (pl ns[i])) rfl rfl l (Zu.flat rfl) rfl
 refine XM (x:=dI (ns.map pl)) (by rw[AV.data,Z4,dI,bu];rfl) ?_
 o_law
 refine WB (ds:=(ns.map pl).map .int) rfl (.inl rfl) ?_
 refine XM (x:=dI (ns.map pl)) (by rw[Y4,bu];exact congrArg da (bG λ_ _=>rfl)) ?_
 o_law
 refine ZY (by walk_at "nrs") ⟨b,ns,N,ns.map pl,rfl,M,F,hN,D,j,rfl⟩ (Got.own rfl) ?_
 rw[hd]
 o_law
 refine M6 ?_
 o_law
 refine Vd (f:=kK) (c:=a) (d:=a) Enc.bool rfl rfl ?_
 refine⟨aF,by simp,?_⟩
 o_law
 refine Vd (f:=dI) (c:=ns.map pl) (d:=ns.map pl) Enc.int.list rfl rfl ?_
 refine⟨aF,by simp,?_⟩
 o_law
 refine ZY (by walk_at "nrs") ⟨b,ns,N,pl,kvs,rfl,hk,rfl⟩ (Got.own rfl) ?_
 rw[hd]
 o_law
 refine M6 ?_
 o_law
 rw[decide_eq_true rfl]
 exact ZL rfl
structure LotsC(n L:Nat)(nx:Nat->Nat->Nat)(al R:List Int):Prop where
 len:R.length=n
 sg:∀ i j,i<n->j<n->tl R i=tl R j->tl al i=tl al j
 st:∀ i j,i<n->j<n->tl R i=tl R j->∀ l,l<L->tl R (nx i l)=tl R (nx j l)
 co:∀ rel:Nat->Nat->Prop,(∀ i j,rel i j->i<n/\j<n)->(∀ i j,rel i j->tl al i=tl al j)->(∀ i j,rel i j->∀ l,l<L->rel (nx i l) (nx j l))->∀ i j,rel i j->tl R i=tl R j
def NxC(n L:Nat)(nx:Nat->Nat->Nat)(al al':List Int):Prop:=al'.length=n/\∀ i j,i<n->j<n->(tl al' i=tl al' j↔Z9 L nx al i=Z9 L nx al j)
inductive RefC(n L:Nat)(nx:Nat->Nat->Nat):List Int->Nat->List Int->Prop
 | done {al:List Int} {m:Nat}:cnt n (tl al)<=m->RefC n L nx al m al
 | step {al al' R:List Int} {m:Nat}:m<cnt n (tl al)->NxC n L nx al al'->RefC n L nx al' (cnt n (tl al)) R->RefC n L nx al m R
theorem NxC.fine{n:Nat}{nx:Nat->Nat->Nat}{al':List Int}(h:NxC n L nx al al'):Uw n (tl al') (tl al):=λi j C u e=>(T9 ((h.2 i j C u).mp e)).1
theorem NxC.co{n:Nat}{nx:Nat->Nat->Nat}{al':List Int}(h:NxC n L nx al al')(hb:∀ i j,rel i j->i<n/\j<n)(Y:∀ i j,rel i j->∀ l,l<L->rel (nx i l) (nx j l))(h1:∀ i j,rel i j->tl al i=tl al j):∀ i j,rel i j->tl al' i=tl al' j:=λi j r =>
 (h.2 i j (hb i j r).1 (hb i j r).2).mpr (Mp (h1 i j r) λl D=>h1 _ _ (Y i j r l D))
theorem RefC.lots{n:Nat}{nx:Nat->Nat->Nat}(a:∀ i,i<n->∀ l,l<L->nx i l<n)(h:RefC n L nx al m R) :
  (∃ A,NxC n L nx A al/\m=cnt n (tl A))->LotsC n L nx al R:=by
 induction h with
 | @done al m h =>
  rintro⟨A,p,rfl⟩
  have same:=Mm p.fine h
  refine⟨p.1,λi j _ _ e=>e,λi j C u e l D=>?_,λrel M Z Y=>Z⟩
  have:=(T9 ((p.2 i j C u).mp e)).2 l D
  exact same _ _ (a i C l D) (a j u l D) this
 | @step al P R m h g _ E =>
  intro _
  obtain⟨U,b,r,c⟩:=E ⟨al,g,rfl⟩
  exact⟨U,λi j C u e=>g.fine i j C u (b i j C u e),r,λrel M Z Y=>c rel M (g.co M Y Z) Y⟩
theorem RefC.lots0{n:Nat}{nx:Nat->Nat->Nat}(G:0<n)(a:∀ i,i<n->∀ l,l<L->nx i l<n)(h:RefC n L nx al 0 R):LotsC n L nx al R:=by
 cases h with
 | done h=>have:=Mr (f:=tl al) G;omega
 | step h g O =>
  obtain⟨U,b,r,c⟩:=O.lots a ⟨al,g,rfl⟩
  exact⟨U,λi j C u e=>g.fine i j C u (b i j C u e),r,λrel M Z Y=>c rel M (g.co M Y Z) Y⟩
def YD(L:Nat)(nx:Nat->Nat->Nat)(al:List Int)(i:Nat):List Int:=tl al i::(aD L).map λl=>tl al (nx i l)
theorem Ca{nx:Nat->Nat->Nat}:YD L nx al i=YD L nx al j↔Z9 L nx al i=Z9 L nx al j:=by
 unfold YD Z9
 rw[bh,c_]
theorem QR{α:Type}[DecidableEq α]{x:α}:∀ {ks σ:List α},x∈ks.foldl Zy σ↔x∈σ\/x∈ks
 | [],σ=>by simp
 | k::ks,σ=>by
  rw[gO,QR]
  unfold Zy
  split
  ·simp only[gh]
   constructor
   ·rintro (h|h)
    ·exact .inl h
    ·exact .inr (.inr h)
   ·rintro (h|h|h)
    ·exact .inl h
    ·subst h;exact .inl (by assumption)
    ·exact .inr h
  ·simp only[nV,gh,fm,or_false]
   exact or_assoc
theorem M7{α:Type}[DecidableEq α]:∀ (ks σ:List α),(ks.foldl Zy σ).length<=σ.length+ks.length
 | [],σ=>by simp
 | k::ks,σ=>by
  rw[gO]
  refine aT (M7 ks _) ?_
  unfold Zy
  split<;>simp<;>omega
def ixC[DecidableEq α](xs:List α)(x:α):Nat:=xs.idxOf x
variable{y:Nat}
theorem Cb[DecidableEq α]{xs:List α}{x y:α}(W:x∈xs)(j:y∈xs)(e:ixC xs x=ixC xs y):x=y:=by
 unfold ixC at e
 have Z:=dP (bq W)
 have O:=dP (bq j)
 rw[<- Z,<- O]
 simp only[e]
def nmC(ks:List (List Int)):List Int:=ks.map λk=>(ixC (ks.foldl Zy []) k:Int)
theorem Cc{n:Nat}{nx:Nat->Nat->Nat}:NxC n L nx al (nmC ((aD n).map (YD L nx al))):=by
 have D:(nmC ((aD n).map (YD L nx al))).length=n:=by simp[nmC]
 have l:∀ i,i<n->tl (nmC ((aD n).map (YD L nx al))) i=(ixC (((aD n).map (YD L nx al)).foldl Zy []) (YD L nx al i):Int):=λi C=>by
  unfold tl nmC
  rw[am,aW,aW,d8 C]
  rfl
 have S:∀ i,i<n->YD L nx al i∈((aD n).map (YD L nx al)).foldl Zy []:=λi C=>QR.mpr (.inr (mem_map.mpr ⟨i,mem_range.mpr C,rfl⟩))
 refine⟨D,λi j C u=>?_⟩
 rw[l i C,l j u,<- Ca]
 refine⟨λe=>?_,λe=>by rw[e]⟩
 exact Cb (S i C) (S j u) (by omega)
def M8(cs:List AV):Prop:=∃ M:Mach,cs=[.d (tR M.rows),.d (tI M.signs)]/\Parts 1 64 M
def M9(cs:List AV)(c:AV):Prop:=∃ (M:Mach) (R:List Int),cs=[.d (tR M.rows),.d (tI M.signs)]/\LotsC M.rows.length (ltr M) (nxM M) M.signs R/\c=oI R
theorem Cd(T:Txt K mg):'$' (CXE P w) 1 "_law_classes" ["_law_rows", "_law_signs"] [] (spR K M8 M9 NP):=by
 refine Xk T.x_law_classes Wh (λcs ⟨M,e,_⟩=>by rw[e];rfl) (λf X A g s H E J=>?_) [] (by simp)
 refine⟨_,(Zd (Zl (i:=2) Wh.nd rfl (de rfl) (ZR (XI (K:=K) rfl) rfl T.n_list bQ (Za (pv 1) Zb)))
   (Zd (Zl (i:=3) Wh.nd rfl (aC rfl) Zc)
   (Zd (VB bg (ZB Xp (Zq Ue rfl T.n_len aN (Za (ZR (Ud (K:=K) rfl rfl) rfl T.n_set cq (Za (pv 2) Zb)) Zb)) (pv 3) (nomark _))
    (Zd (Zl (i:=3) Wh.nd rfl (aC rfl) (Zq Ue rfl T.n_len aN (Za (ZR (Ud (K:=K) rfl rfl) rfl T.n_set cq (Za (pv 2) Zb)) Zb)))
    (Zd (U0 (i:=4) Wh.nd rfl rfl (N:=["_law_room", "_law_marks", "_law_rows"]) (cap:=[none,aa 2,aa 0]) rfl rfl rfl (by kernel_rfl) (XX rfl T.n_range (Za (Zq (ZX (K:=K) rfl) rfl T.n_len aN (Za (pv 0) Zb)) Zb)) (λ_ _ _ _=>(Zv (i:=0) (show (["_law_room", "_law_marks", "_law_rows"]:List aQ).Nodup from by decide +kernel) rfl (aC rfl))) (λ_ _ _ _=>Z7) (λ_ _ _ _=>(ZR (X1 (K:=K) rfl) rfl T.n_tuple a_ (Za (Zj (ZP (K:=K) rfl) (Xd (Za (Zo '%' (pv 1) (pv 0) (λ_ _=>rfl)) Zb)) (Yc (N:=["_law_to", "_law_marks"]) (cap:=[none,aa 1]) rfl rfl rfl (by kernel_rfl) (ZU (K:=K) rfl (Zo '%' (pv 2) (pv 0) (λ_ _=>rfl))) (λ_ _ _ _=>(Zv (i:=0) (show (["_law_to", "_law_marks"]:List aQ).Nodup from by decide +kernel) rfl (aC rfl))) (λ_ _ _ _=>Z7) (λ_ _ _ _=>(Zo '%' (pv 1) (pv 0) (λ_ _=>rfl))))) Zb))))
    (Zd (Zl (i:=5) Wh.nd rfl (de rfl) US)
    (Zd (YF bg rfl (ZU (K:=K) rfl (pv 4)) (Zv (i:=6) Wh.nd rfl (aC rfl))
     (Zh (YM (Xf (K:=K) rfl PySem.F.plainAttrs_dict jt PySem.F.type_dict_setdefault (G0 J.units) (pv 5) (Za (pv 6) (Za (Zq G3 rfl T.n_len aN (Za (pv 5) Zb)) Zb))))))
    (Zh (Zl (i:=2) Wh.nd rfl (de rfl) (Yc (N:=["_law_key", "_law_numbers"]) (cap:=[none,aa 5]) rfl rfl rfl (by kernel_rfl) (ZU (K:=K) rfl (pv 4)) (λ_ _ _ _=>(Zv (i:=0) (show (["_law_key", "_law_numbers"]:List aQ).Nodup from by decide +kernel) rfl (aC rfl))) (λ_ _ _ _=>Z7) (λ_ _ _ _=>(Zo '%' (pv 1) (pv 0) (λ_ _=>rfl)))))))))))
   (Zh (Zr (pv 2)))))),?_⟩
 rintro cs ⟨M,rfl,hP⟩
 show Sv K _ _ _ [aa (.d (tR M.rows)),aa (.d (tI M.signs)),none,none,none,none,none] _
 have Z:=hP.n0
 have x:=hP.n1
 have hs:=hP.s
 have hl1:((ltr M:Nat):Int)<=64:=hP.l1
 k_head
 refine Om (ds:=M.signs.map .int) rfl Kp.d ?_
 rw[QC]
 k_head
 refine V0 (λm Y=>∃ (al:List Int) (k:Nat) (B p U:Option AV),Y=[aa (.d (tR M.rows)),aa (.d (tI M.signs)),aa (oI al),aa (.d (.int k)),B,p,U]/\al.length=M.rows.length/\k<=M.rows.length/\(∀ R,RefC M.rows.length (ltr M) (nxM M) al k R->RefC M.rows.length (ltr M) (nxM M) M.signs 0 R)/\m=M.rows.length-k) M.rows.length ⟨M.signs,0,none,none,none,rfl,hs,bP _,λR h=>h,rfl⟩ ?_
 rintro m Y ⟨al,k,B,p,U,rfl,hal,hk,hR,rfl⟩
 have hcl:=T8 M.rows.length (tl al)
 k_head
 refine Uf (ks:=al) (Yz al) (by omega) ?_
 k_head
 refine Ug ?_
 rw[Ux hal]
 k_head
 refine ite2 (λh=>?_) λh=>?_
 ·have F:k<cnt M.rows.length (tl al):=by have:=of_decide_eq_true h;omega
  k_head
  refine Uf (ks:=al) (Yz al) (by omega) ?_
  k_head
  refine Ug ?_
  rw[Ux hal]
  k_head
  refine Rk ?_
  k_head
  refine YH rfl ?_
  rw[ah]
  k_head
  refine⟨((M.rows.length:Nat):Int),λi=>.d (tI (YD (ltr M) (nxM M) al i)),rfl,⟨by omega,by omega⟩,λi C=>?_,_,Got.own (ZW λ_=>Vl _),?_⟩
  ·have C:i<M.rows.length:=by omega
   have q:=hP.row _ (aV C)
   have I:M.rows.getD i []=M.rows[i]:=by rw[am,ai C];rfl
   show Gv K _ _ [none,aa (.d (.list (AV.datas (al.map λk=>.d (.int k))))),aa (.d (tR M.rows))] _
   k_head
   refine⟨Z8,?_⟩
   k_head
   refine WA ?_
   k_head
   refine YV (congrArg da (N6 al)) (Wi (by omega) (by omega)) (Zu.flat rfl) ?_
   k_head
   refine⟨[.d (.int (tl al i))],.cons rfl .nil,by show 1<=1000;decide,?_⟩
   k_head
   refine Yw (α:=Int) ?_
   k_head
   refine Ys rfl (Wj (by omega) (by omega)) Zu.d ?_
   rw[aK,I]
   refine⟨M.rows[i],aZ,λy=>.d (.int (tl al y.toNat)),.inr rfl,NR.av,by rw[q.1];show ltr M<=_;omega,λl F=>?_,_,Got.own (ZW λ_=>rfl),?_⟩
   ·have j:=q.2 _ (aV F)
    show Gv K _ _ [none,aa (.d (.list (AV.datas (al.map λk=>.d (.int k)))))] _
    k_head
    refine⟨Z8,?_⟩
    k_head
    exact YV (congrArg da (N6 al)) (Wi j.1 (by omega)) (Zu.flat rfl) rfl
   refine DA (xs:=[tl al i]) (ys:=M.rows[i].map λy=>tl al y.toNat) rfl (by rw[TV.data,AV.data,Z4 (y:=λy:Int=>aZ (tl al y.toNat)),dI,bu];rfl) NR.av NR.av (by rw[ah,q.1];show 1+ltr M<=_;omega) ?_
   k_head
   refine X5 (ds:=([tl al i]++M.rows[i].map λy=>tl al y.toNat).map .int) (by exact Yz _) (Kp.flat (Y2 _)) ?_
   rw[Mv hP C]
   rfl
  rw[aK]
  k_head
  have O:(AV.own ((aD M.rows.length).map λi=>.d (tI (YD (ltr M) (nxM M) al i)))).data=.list (((aD M.rows.length).map (YD (ltr M) (nxM M) al)).map tI):=by rw[Y4,bu];rfl
  refine Oc 4 rfl ?_
  show Sv K _ _ _ [aa (.d (tR M.rows)),aa (.d (tI M.signs)),aa (oI al),aa (.d (.int (cnt M.rows.length (tl al):Nat))),aa (.d (AV.own ((aD M.rows.length).map λi=>.d (tI (YD (ltr M) (nxM M) al i)))).data),aa (.dic []),U] _
  rw[O]
  have a:=Cc (n:=M.rows.length) (L:=ltr M) (nx:=nxM M) (al:=al)
  have D:((aD M.rows.length).map (YD (ltr M) (nxM M) al)).length=M.rows.length:=by simp
  generalize (aD M.rows.length).map (YD (ltr M) (nxM M) al)=ks at a D
  k_head
  refine WD (α:=List Int) ?_
  k_head
  refine⟨ks,tI,.inl rfl,⟨_,rfl⟩,λi Y=>∃ U,Y=[aa (.d (tR M.rows)),aa (.d (tI M.signs)),aa (oI al),aa (.d (.int (cnt M.rows.length (tl al):Nat))),aa (.d (.list (ks.map tI))),aa (.dic (Zk tI (Ye ((ks.take i).foldl Zy [])))),U],⟨U,rfl⟩,?_,?_⟩
  ·rintro i Y C ⟨U,rfl⟩
   have ht:ks.take (i+1)=ks.take i++[ks[i]]:=by rw[List.take_succ,ai C];rfl
   have r:=M7 (ks.take i) []
   have W:(ks.take i).length<=i:=by rw[hF];omega
   have b:(ks.take (i+1)).foldl Zy []=Zy ((ks.take i).foldl Zy []) ks[i]:=by rw[ht,fG];rfl
   generalize (ks.take i).foldl Zy []=G at r b
   have u:(Ye G).length=G.length:=by unfold Ye;rw[ah,mm]
   refine gv_6 ?_
   refine G5 (n:=5) (kvs:=Ye G) rfl ?hz ?_
   case hz=>rw[u];simp at r;omega
   k_head
   refine G7 (kvs:=Ye G) rfl ?_
   rw[u]
   refine⟨ks[i],_,rfl,NR.av,rfl,λh=>?_,λh=>?_⟩
   ·rw[Vo] at h
    by_cases S:ks[i]∈G
    ·refine⟨aa (.d (tI ks[i])),?_⟩
     rw[b,show Zy G ks[i]=G from if_pos S]
    ·rw[if_neg S] at h
     cases h
   ·rw[Vo] at h
    by_cases S:ks[i]∈G
    ·rw[if_pos S] at h
     cases h
    ·refine⟨aa (.d (tI ks[i])),?_⟩
     rw[b,show Zy G ks[i]=G++[ks[i]] from if_neg S,show Z3 (Ye G) ks[i] (.int ((G.length:Nat):Int))=Ye (G++[ks[i]]) from Mb S]
     rfl
  ·rintro Y ⟨U,rfl⟩
   rw[hE]
   have hmem:∀ k∈ks,k∈ks.foldl Zy []:=λk hk=>QR.mpr (.inr hk)
   have v:AV.own (ks.map λk=>.d (.int (ixC (ks.foldl Zy []) k:Nat)))=oI (nmC ks):=by rw[nmC,oI,bu];rfl
   generalize ks.foldl Zy []=G at hmem v
   k_head
   refine Yw (α:=List Int) ?_
   k_head
   refine⟨ks,tI,λk=>.d (.int (ixC G k:Nat)),.inl rfl,NR.av,by omega,λi C=>?_,_,Got.own (ZW λ_=>rfl),?_⟩
   ·show Gv K _ _ [none,aa (.d (.dict (Zk tI (Ye G))))] _
    k_head
    refine⟨Z8,?_⟩
    k_head
    exact XO KEnc.ints (c:=ks[i]) (kvs:=Ye G) (z:=.int (ixC G ks[i]:Int)) rfl rfl (by rw[Vo,if_pos (hmem _ (aV C))];rfl) (Zu.flat rfl) rfl
   rw[v]
   k_head
   exact⟨M.rows.length-cnt M.rows.length (tl al),by omega,nmC ks,_,_,_,_,rfl,a.1,hcl,λR J=>hR R (.step F a J),rfl⟩
 ·have Q:cnt M.rows.length (tl al)<=k:=by
   have:¬ ((k:Int)<(cnt M.rows.length (tl al):Nat)):=λz=>h (decide_eq_true z)
   omega
  k_head
  exact⟨_,Xi rfl,M,al,rfl,(hR al (.done Q)).lots0 Z (WR hP),rfl⟩
theorem Ce(h1:tR M.rows=tR N.rows)(O:tI M.signs=tI N.signs):M=N:=T4 (by show aI [tR M.rows,tI M.signs]=.tuple [tR N.rows,tI N.signs];rw[h1,O])
theorem Cf(y:Parts 1 64 M)(q:∀ R,LotsC M.rows.length (ltr M) (nxM M) M.signs R->Q (.av (oI R))):ClR M8 M9 NP [] Q X [.av (.d (tR M.rows)),.av (.d (tI M.signs))] :=
 ⟨[.d (tR M.rows),.d (tI M.signs)],.cons (.d NR.av rfl) (.cons (.d NR.av rfl) .nil),⟨M,rfl,y⟩,λc ⟨M',R,e,h1,ec⟩=>by
  simp only[ck,bh,AV.d.injEq,and_true] at e
  have S:=Ce e.1 e.2
  subst S ec
  exact⟨_,Got.own (YW R),q R h1⟩,λ_ z=>z.elim⟩
structure LsN(N:Mach):Prop where
 p:Parts 1 64 N
 bf:Bfs (gR N (stA N)) (ltr N) [0] 0 (rgI N.rows.length)
 ap:∀ rel:Nat->Nat->Prop,(∀ i j,rel i j->i<N.rows.length/\j<N.rows.length)->(∀ i j,rel i j->tl N.signs i=tl N.signs j)->(∀ i j,rel i j->∀ l,l<ltr N->rel (nxM N i l) (nxM N j l))->∀ i j,rel i j->i=j
theorem IsL.n(h:IsL N):LsN N:=by
 obtain⟨A,R,G,U,Q,rfl⟩:=h
 refine⟨Q.parts,?_,λrel Z O B=>Rb.co U Q rel (λi j r=>by have:=Z i j r;rw[Q.len] at this;exact this) O λi j r l D=>B i j r l (by rw[Q.lt];exact D)⟩
 have:=Q.self
 rw[Q.lt,Q.len]
 exact this
theorem Cg{n:Nat}{met r:List Int}(e:rgI n=met++r):met=rgI met.length/\met.length<=n:=by
 have D:n=met.length+r.length:=by have:=congrArg e7 e;simpa [rgI] using this
 refine⟨hJ (by simp[rgI]) λi Z O=>?_,by omega⟩
 have B:i<n:=by omega
 have:=congrArg (λxs=>xs[i]?) e
 simp only[rgI,aW,d8 B,eS Z,ai Z] at this
 simp only[rgI,hH,h_]
 exact (aS this).symm
theorem La{α:Type}[DecidableEq α](g:α->Nat->α)(a:α)(met:List α)(l:Nat):∀ k,∃ r,ZE g a met (l+k)=ZE g a met l++r
 | 0=>⟨[],by simp⟩
 | k+1=>by
  obtain⟨r,e⟩:=La g a met l k
  obtain⟨G,N⟩:=Uu (ZE g a met (l+k)) (g a (l+k))
  exact⟨r++G,by rw[<- kF,Xl,N,e,bM]⟩
def At(N:Mach)(i m:Nat):Prop:=Bfs (gR N (stA N)) (ltr N) (rgI m) i (rgI N.rows.length)
theorem LsN.at0(h:LsN N):At N 0 1:=h.bf
def AtL(N:Mach)(i l m:Nat):Prop:=∃ m0,i<m0/\Bfs (gR N (stA N)) (ltr N) (ZE (gR N (stA N)) (i:Int) (rgI m0) (ltr N)) (i+1) (rgI N.rows.length)/\ZE (gR N (stA N)) (i:Int) (rgI m0) l=rgI m
theorem At.in(h:At N i m)(hi:i<N.rows.length):i<m/\AtL N i 0 m:=by
 unfold At at h
 generalize P:rgI N.rows.length=F at h
 generalize j:rgI m=met at h
 cases h with
 | done h =>
  have Z:=congrArg e7 P
  have O:=congrArg e7 j
  simp[rgI] at Z O
  omega
 | @step _ _ _ h O =>
  subst j
  have S:i<m:=by simpa [rgI] using h
  have e:(rgI m)[i]=(i:Int):=by simp[rgI]
  rw[e,<- P] at O
  exact⟨S,m,S,O,by simp[ZE]⟩
theorem AtL.out(h:AtL N i (ltr N) m):At N (i+1) m:=by
 obtain⟨a,_,O,B⟩:=h
 rw[B] at O
 exact O
theorem AtL.next(y:Parts 1 64 N)(hi:i<N.rows.length)(D:l<ltr N)(h:AtL N i l m):let to:=stp N.rows i l;(0<=to/\to<=m)/\AtL N i (l+1) (if to=m then m+1 else m):=by
 obtain⟨a,Z,O,B⟩:=h
 have A:gR N (stA N) (i:Int) l=stp N.rows i l:=Mi y (by omega) (by omega) D
 have x:=y.stp (r:=i) (l:=l) (by omega) (by omega) (by omega) (by show (l:Int)<((ltr N:Nat):Int);omega)
 obtain⟨r,e⟩:=O.pre
 obtain⟨G,b⟩:=La (gR N (stA N)) (i:Int) (rgI a) (l+1) (ltr N-(l+1))
 rw[show l+1+(ltr N-(l+1))=ltr N by omega] at b
 rw[b,bM] at e
 obtain⟨J,Y⟩:=Cg e
 have P:=Xl (gR N (stA N)) (i:Int) (rgI a) l
 rw[B,A] at P
 intro to
 by_cases S:stp N.rows i l∈rgI m
 ·have F:=Yj.mp S
  rw[show Zy (rgI m) (stp N.rows i l)=rgI m from if_pos S] at P
  refine⟨⟨F.1,by show stp N.rows i l<=_;omega⟩,a,Z,O,?_⟩
  rw[P,if_neg (show ¬ stp N.rows i l=(m:Int) by omega)]
 ·rw[show Zy (rgI m) (stp N.rows i l)=rgI m++[stp N.rows i l] from if_neg S] at P
  rw[P] at J
  have M:(rgI m++[stp N.rows i l]).length=m+1:=by simp[rgI]
  rw[M] at J
  have L:stp N.rows i l=(m:Int):=by
   have:=congrArg (λxs=>xs[m]?) J
   have K:(rgI m).length=m:=by simp[rgI]
   rw[gs (by omega),K] at this
   simp[rgI] at this
   exact this
  refine⟨⟨by show 0<=stp N.rows i l;omega,by show stp N.rows i l<=_;omega⟩,a,Z,O,?_⟩
  rw[P,J,if_pos L]
def Lb(ds:List aj)(c:AV):Prop:=∃ k:Int,ds=[.int k]/\c=.d (.bool ak)
theorem QS(T:Txt K mg):'$' (CXE P w) 1 "_law_whole" ["_law_found"] [] (spV K Lb NX):=by
 refine val T.x_law_whole Eu (λds c ⟨k,e,_⟩=>by rw[e];rfl) (λf X A g s H E J=>?_) [] (by simp)
 refine⟨_,(Zh (Zr (UF (Zq (Y3 (K:=K) rfl) rfl T.n_isinstance aO (Za (pv 0) (Za (YX (v:=.ty "int") rfl T.n_int gB rfl) Zb))) (UE (LY (Zq (Y3 (K:=K) rfl) rfl T.n_isinstance aO (Za (pv 0) (Za (YX (v:=.ty "bool") rfl T.n_bool gp rfl) Zb)))))))),?_⟩
 rintro ds c ⟨k,rfl,rfl⟩
 show Sv K _ _ _ [aa (.d (.int k))] _
 w_on
 refine IQ ?_
 w_on
 refine IR ?_
 w_on
 exact ZL rfl
theorem Sd(q:Q (.av (.d (.bool ak)))):Cl Lb [] Q [.av (.d (.int k))]:=ZY (by walk_at "nrs") ⟨k,rfl,rfl⟩ (Got.own rfl) q
variable{ρ:Sl}
theorem Ch{X:Exc->Sl->Prop}{te:TE}{g:TG}{DV:VEnds}(h:Ev K E X te ρ λa=>∃ x,a=.av (.d x)/\Gv K g x ρ DV.nx):Sv K E X (YZ te g) ρ DV:=λI U ts as H D st s x f=>h I U ts as H _ s x λa ⟨y,ea,hg⟩ v H1 s1=>by
 subst ea
 exact hg I U ts as H1 v D.nx s1 λL p j H' M=>f.nx L p j H' M
def Lc(cs:List AV):Prop:=∃ N:Mach,cs=[.d (dM N),.d (.int (bs N))]/\LsN N/\stp N.rows 0 0=0
theorem Ci(T:Txt K mg):'$' (CXE P w) 2 "_law_is_least" ["_law_found", "_law_letters"] [] (spR K Lc (λ_ c=>c=.d (.bool ak)) NP):=by
 have c_law_whole:'$' _ _ _ _ _ _:=QS T
 have c_law_classes:'$' _ _ _ _ _ _:=Cd T
 refine Xk T.x_law_is_least WN (λcs ⟨N,e,_⟩=>by rw[e];rfl) (λf X A g s H E J=>?_) [] (by simp)
 refine⟨_,(Zd (Yf (PW.pt (Yb (Yr (Yq (Zq (Y3 (K:=K) rfl) rfl T.n_isinstance aO (Za (pv 0) (Za (YX (v:=.ty "tuple") rfl T.n_tuple a_ rfl) Zb))))) (YL (ZB (Xg (K:=K) rfl J.units) (Zq (ZX (K:=K) rfl) rfl T.n_len aN (Za (pv 0) Zb)) Zc (nomark _)))))
    (Zh (Zr YR))
    ZO)
   (Zd (WY (pv 0) (W7 (K:=K) (n:=2) rfl rfl (YY (Zv (i:=2) WN.nd rfl (aC rfl)) (YY (Zv (i:=3) WN.nd rfl (aC rfl)) WW))))
   (Zd (Yf (PW.pt (Yb (Yr (Yq (Zq (Y3 (K:=K) rfl) rfl T.n_isinstance aO (Za (pv 2) (Za (YX (v:=.ty "tuple") rfl T.n_tuple a_ rfl) Zb))))) (Yb (Yr (Yq (Zq (Y3 (K:=K) rfl) rfl T.n_isinstance aO (Za (pv 3) (Za (YX (v:=.ty "tuple") rfl T.n_tuple a_ rfl) Zb))))) (YL (Yr (G8 Xo (YO (K:=K) rfl J.units) SB Zc (Zq (ZX (K:=K) rfl) rfl T.n_len aN (Za (pv 2) Zb)) (Zq (ZX (K:=K) rfl) rfl T.n_len aN (Za (pv 3) Zb)) Zc))))))
    (Zh (Zr YR))
    ZO)
   (Zd (Yf (Yr (Yq (Zq (S8 (K:=K) rfl rfl) rfl T.n_all gC (Za (Yc (N:=["_law_sign"]) (cap:=[none]) rfl rfl rfl (by kernel_rfl) (ZU (K:=K) rfl (pv 3)) (λ_ _ _ _=>(Zv (i:=0) (show (["_law_sign"]:List aQ).Nodup from by decide +kernel) rfl (aC rfl))) (λ_ _ _ _=>Z7) (λ_ _ _ _=>(Zt (c_law_whole.mono (by decide)) J rfl Zs (Za (pv 0) Zb)))) Zb))))
    (Zh (Zr YR))
    ZO)
   (Zd (Zl (i:=4) WN.nd rfl (aC rfl) Zc)
   (Zd (YF bg rfl (XX rfl T.n_range (Za (Zq (ZX (K:=K) rfl) rfl T.n_len aN (Za (pv 2) Zb)) Zb)) (Zv (i:=5) WN.nd rfl (aC rfl))
    (Zd (Yf (PW.pt (Yb (ZB Pa (pv 5) (pv 4) (nomark _)) (Yb (Yr (Yq (Zq (Y3 (K:=K) rfl) rfl T.n_isinstance aO (Za (Zo '%' (pv 2) (pv 5) (λ_ _=>rfl)) (Za (YX (v:=.ty "tuple") rfl T.n_tuple a_ rfl) Zb))))) (YL (ZB (Xg (K:=K) rfl J.units) (Zq (ZX (K:=K) rfl) rfl T.n_len aN (Za (Zo '%' (pv 2) (pv 5) (λ_ _=>rfl)) Zb)) (pv 1) (nomark _))))))
     (Zh (Zr YR))
     ZO)
    (Zh (YF bg rfl (ZU (K:=K) rfl (Zo '%' (pv 2) (pv 5) (λ_ _=>rfl))) (Zv (i:=6) WN.nd rfl (aC rfl))
     (Zd (Yf (PW.pt (Yb (Yr (Yq (Zt (c_law_whole.mono (by decide)) J rfl Zs (Za (pv 6) Zb)))) (Yb (Yr (Kf SB SB Zc (pv 6) (pv 4))) (YL (ZB Pa (pv 6) (Zq (ZX (K:=K) rfl) rfl T.n_len aN (Za (pv 2) Zb)) (nomark _))))))
      (Zh (Zr YR))
      ZO)
     (Zh (Zl (i:=4) WN.nd rfl (aC rfl) (Zj (ZP (K:=K) rfl) (pv 4) (ZR Pc rfl T.n_int gB (Za (Xc (YO (K:=K) rfl J.units) (pv 6) (pv 4) (nomark _)) Zb))))))))))
   (Zh (Zr (UF (Xc (YO (K:=K) rfl J.units) (Zo '%' (Zo '%' (pv 2) Zc (λ_ _=>rfl)) Zc (λ_ _=>rfl)) Zc (nomark _)) (UE (Xc (YO (K:=K) rfl J.units) (Zq Ue rfl T.n_len aN (Za (ZR (Ud (K:=K) rfl rfl) rfl T.n_set cq (Za (Zt (c_law_classes.mono (by decide)) J rfl Zs (Za (pv 2) (Za (pv 3) Zb))) Zb)) Zb)) (Zq (ZX (K:=K) rfl) rfl T.n_len aN (Za (pv 2) Zb)) (nomark _)))))))))))),?_⟩
 rintro cs ⟨N,rfl,hL,hz⟩
 show Sv K _ _ _ [aa (.d (dM N)),aa (.d (.int (bs N))),none,none,none,none,none] _
 have y:=hL.p
 have Z:=y.n0
 have x:=y.n1
 have hs:=y.s
 have Q:(1:Int)<=((ltr N:Nat):Int):=y.l0
 have a:((ltr N:Nat):Int)<=64:=y.l1
 o_law
 refine Vc rfl ?_
 o_law
 refine YH rfl ?_
 o_law
 refine UQ rfl ?_
 o_law
 refine Ch ?_
 o_law
 refine⟨_,rfl,?_⟩
 refine Vi ?_
 o_law
 refine Vc rfl ?_
 o_law
 refine Vc rfl ?_
 o_law
 refine G9 ?_
 o_law
 refine YH rfl ?_
 rw[ah]
 refine⟨0,((N.rows.length:Nat):Int),rfl,rfl,decide_eq_true (by omega),?_⟩
 o_law
 refine YH rfl ?_
 rw[ah,hs]
 refine⟨rfl,?_⟩
 o_law
 refine⟨decide_eq_true (by omega),?_⟩
 o_law
 refine Yw (α:=Int) ?_
 o_law
 refine⟨N.signs,aZ,λ_=>.d (.bool ak),.inr rfl,NR.av,by omega,λj u=>?_,_,Got.own (ZW λ_=>rfl),?_⟩
 ·show Gv K _ _ [none] _
  o_law
  refine⟨Z8,?_⟩
  o_law
  exact Sd rfl
 o_law
 refine Rc (cs:=N.signs.map λ_=>ak) (by rw[TV.data,AV.data,Z4,bu];rfl) ?_
 rw[show (N.signs.map λ_=>ak).all id=ak by simp]
 o_law
 refine V3 ?_
 o_law
 refine YH rfl ?_
 rw[ah]
 o_law
 refine⟨((N.rows.length:Nat):Int),rfl,⟨by omega (config:={}),by omega (config:={})⟩,λi Y=>∃ (m:Nat) (B p:Option AV),Y=[aa (.d (dM N)),aa (.d (.int (bs N))),aa (.d (tR N.rows)),aa (.d (tI N.signs)),aa (.d (.int (m:Nat))),B,p]/\At N i m,⟨1,none,none,rfl,hL.at0⟩,?_,?_⟩
 ·rintro i Y C ⟨m,B,p,rfl,hA⟩
  have C:i<N.rows.length:=by omega
  obtain⟨S,M⟩:=hA.in C
  have q:=y.row _ (aV C)
  have b:(N.rows[i]).length=ltr N:=q.1
  have I:N.rows.getD i []=N.rows[i]:=by rw[am,ai C];rfl
  k_head
  refine Re ?_
  k_head
  refine ite2 (λh=>?_) λ_=>?_
  ·exfalso
   have:=of_decide_eq_true h
   omega
  k_head
  refine Ys rfl (Wj (by omega) (by omega)) Zu.d ?_
  k_head
  refine Vc rfl ?_
  k_head
  refine Ys rfl (Wj (by omega) (by omega)) Zu.d ?_
  k_head
  refine YH rfl ?_
  rw[ah,aK,I,b]
  k_head
  refine UQ rfl ?_
  k_head
  refine WD (α:=Int) ?_
  k_head
  refine Ys rfl (Wj (by omega) (by omega)) Zu.d ?_
  rw[aK,I]
  refine⟨N.rows[i],aZ,.inr rfl,⟨_,rfl⟩,λl Y=>∃ (m:Nat) (p:Option AV),Y=[aa (.d (dM N)),aa (.d (.int (bs N))),aa (.d (tR N.rows)),aa (.d (tI N.signs)),aa (.d (.int (m:Nat))),aa (.d (.int i)),p]/\AtL N i l m,⟨m,p,rfl,M⟩,?_,?_⟩
  ·rintro l Y D ⟨m,p,rfl,hA⟩
   obtain⟨⟨L,t1⟩,hN⟩:=hA.next y C (by omega)
   have U:stp N.rows i l=N.rows[i][l]:=by
    unfold stp
    rw[aK,aK,I,am,ai D]
    rfl
   have O:=q.2 _ (aV D)
   rw[U] at L t1 hN
   generalize N.rows[i][l]=F at L t1 hN O
   k_head
   refine Re ?_
   k_head
   refine Sd ?_
   k_head
   refine GR ?_
   k_head
   refine⟨0,F,rfl,rfl,λ_=>?_,λh=>?_⟩
   case refine_2 =>
    exact absurd L (of_decide_eq_false h)
   k_head
   rw[decide_eq_true t1]
   k_head
   refine YH rfl ?_
   rw[ah]
   k_head
   refine ite2 (λh=>?_) λ_=>?_
   ·exfalso
    have:=of_decide_eq_true h
    omega
   k_head
   refine Nm ?_
   k_head
   have e:(m:Int)+(if decide (F=(m:Int))=ak then 1 else 0)=((if F=(m:Int) then m+1 else m:Nat):Int):=by
    by_cases h:F=(m:Int)
    ·rw[if_pos h,if_pos (decide_eq_true h)];omega
    ·rw[if_neg h,if_neg (by simpa using h)];omega
   rw[e]
   exact⟨_,_,rfl,hN⟩
  ·rintro Y ⟨m,p,rfl,hA⟩
   rw[b] at hA
   k_head
   exact⟨m,_,_,rfl,hA.out⟩
 ·rintro Y ⟨m,B,p,rfl,_⟩
  have G:(N.rows.getD 0 []).length=ltr N:=rfl
  k_head
  refine Ys rfl (Wj (by decide) (by omega)) Zu.d ?_
  k_head
  refine Ys rfl (Wi (by decide) (by show (0:Int)<_;rw[show (0:Int).toNat=0 from rfl,G];omega)) Zu.d ?_
  k_head
  rw[decide_eq_true (show (N.rows.getD (0:Int).toNat []).getD (0:Int).toNat 0=0 from hz)]
  k_head
  refine Cf y λR W=>?_
  k_head
  refine Uf (ks:=R) (Yz R) (by rw[W.len];omega) ?_
  k_head
  refine Ug ?_
  rw[Ux W.len,EY λi j C u e=>hL.ap (λi j=>(i<N.rows.length/\j<N.rows.length)/\tl R i=tl R j) (λi j r=>r.1) (λi j r=>W.sg i j r.1.1 r.1.2 r.2) (λi j r l D=>⟨⟨WR y i r.1.1 l D,WR y j r.1.2 l D⟩,W.st i j r.1.1 r.1.2 r.2 l D⟩) i j ⟨⟨C,u⟩,e⟩]
  k_head
  refine YH rfl ?_
  rw[ah]
  k_head
  rw[decide_eq_true rfl]
  exact⟨_,ZL rfl,rfl⟩
variable{l:List OkS}
theorem Cj(U:LsN N)(hz:stp N.rows 0 0=0){l:Int}(D:l=bs N)(q:Q (.av (.d (.bool ak)))):ClR Lc (λ_ c=>c=.d (.bool ak)) NP [] Q X [.av (.d (dM N)),.av (.d (.int l))]:=by
 subst D
 exact⟨[.d (dM N),.d (.int (bs N))],.cons (.d NR.av rfl) (.cons (.d NR.av rfl) .nil),⟨N,rfl,U,hz⟩,λc e=>e▸⟨_,Got.own rfl,q⟩,λ_ z=>z.elim⟩
def Ck(cs:List AV):Prop:=∃ (b:Int) (xs ns:List OkS) (N:Mach),cs=[.d (Yx b ns N),.d (.int b),.d (.list (xs.map dS))]/\(2<=b/\b<=5)/\(xs.Nodup/\xs.length<=4)/\OnceN xs ns/\b ^ xs.length=bs N/\LsN N/\stp N.rows 0 0=0/\∀ s∈N.signs,s=0\/s=1
theorem Cm(T:Txt K mg):'$' (CXE P w) 3 "_law_is_relation" ["_law_found", "_law_base", "_law_names_here"] [] (spR K Ck (λ_ c=>c=.d (.bool ak)) NP):=by
 have c_law_whole:'$' _ _ _ _ _ _:=QS T
 have c_law_is_least:'$' _ _ _ _ _ _:=Ci T
 refine Xk T.x_law_is_relation TY (λcs ⟨_,_,_,_,e,_⟩=>by rw[e];rfl) (λf X A g s H E J=>?_) [] (by simp)
 refine⟨_,(Zd (Yf (PW.pt (Yb (Yr (Yq (Zq (Y3 (K:=K) rfl) rfl T.n_isinstance aO (Za (pv 0) (Za (YX (v:=.ty "tuple") rfl T.n_tuple a_ rfl) Zb))))) (Yb (ZB (Xg (K:=K) rfl J.units) (Zq (ZX (K:=K) rfl) rfl T.n_len aN (Za (pv 0) Zb)) Zc (nomark _)) (Yb (Yr (Yq (Zt (c_law_whole.mono (by decide)) J rfl Zs (Za (Zo '%' (pv 0) Zc (λ_ _=>rfl)) Zb)))) (YL (ZB (Xg (K:=K) rfl J.units) (Zo '%' (pv 0) Zc (λ_ _=>rfl)) (pv 1) (nomark _)))))))
    (Zh (Zr YR))
    ZO)
   (Zd (Yf (PW.pt (Yb (Yr (Yq (Zq (Y3 (K:=K) rfl) rfl T.n_isinstance aO (Za (Zo '%' (pv 0) Zc (λ_ _=>rfl)) (Za (YX (v:=.ty "tuple") rfl T.n_tuple a_ rfl) Zb))))) (YL (Yr (Yq (Zq (S8 (K:=K) rfl rfl) rfl T.n_all gC (Za (Yc (N:=["_law_name"]) (cap:=[none]) rfl rfl rfl (by kernel_rfl) (ZU (K:=K) rfl (Zo '%' (pv 0) Zc (λ_ _=>rfl))) (λ_ _ _ _=>(Zv (i:=0) (show (["_law_name"]:List aQ).Nodup from by decide +kernel) rfl (aC rfl))) (λ_ _ _ _=>Z7) (λ_ _ _ _=>(Zq (Y3 (K:=K) rfl) rfl T.n_isinstance aO (Za (pv 0) (Za (YX (v:=.ty "str") rfl T.n_str PyProof.Rows.boot_str rfl) Zb))))) Zb)))))))
    (Zh (Zr YR))
    ZO)
   (Zd (Zl (i:=3) TY.nd rfl (aC rfl) Zc)
   (Zd (YF bg rfl (ZU (K:=K) rfl (pv 2)) (Zv (i:=4) TY.nd rfl (aC rfl))
    (Zh (Zl (i:=3) TY.nd rfl (aC rfl) (Zj Yv (pv 3) (pv 1)))))
   (Zd (Yf (PW.pt (Yb (ZB (Xg (K:=K) rfl J.units) (ZR (XI (K:=K) rfl) rfl T.n_list bQ (Za (Zo '%' (pv 0) Zc (λ_ _=>rfl)) Zb)) (Zq (FV (K:=K) rfl) rfl T.n_sorted fT (Za (pv 2) Zb)) (nomark _)) (YL (Yr (Yq (Zt (c_law_is_least.mono (by decide)) J rfl Zs (Za (Zo '%' (pv 0) Zc (λ_ _=>rfl)) (Za (pv 3) Zb))))))))
    (Zh (Zr YR))
    ZO)
   (Zh (Zr (Zq (S8 (K:=K) rfl rfl) rfl T.n_all gC (Za (Yc (N:=["_law_sign"]) (cap:=[none]) rfl rfl rfl (by kernel_rfl) (ZU (K:=K) rfl (Zo '%' (Zo '%' (pv 0) Zc (λ_ _=>rfl)) Zc (λ_ _=>rfl))) (λ_ _ _ _=>(Zv (i:=0) (show (["_law_sign"]:List aQ).Nodup from by decide +kernel) rfl (aC rfl))) (λ_ _ _ _=>Z7) (λ_ _ _ _=>(Xc (JQ (K:=K) rfl J.units) (pv 0) (YT (Za Zc (Za Zc Zb))) (by with_unfolding_all rfl)))) Zb))))))))),?_⟩
 rintro cs ⟨b,xs,ns,N,rfl,hb,hx,hO,hbs,hL,hz,hs⟩
 have u:=aT (MQ hO) hx.2
 show Sv K _ _ _ [aa (.d (Yx b ns N)),aa (.d (.int b)),aa (.d (.list (xs.map dS))),none,none] _
 have x:=hL.p.n1
 have m:=hL.p.s
 o_law
 refine Vc rfl ?_
 o_law
 refine YH rfl ?_
 o_law
 refine UQ rfl ?_
 o_law
 refine Sd ?_
 o_law
 refine UQ (by simp) ?_
 o_law
 refine Vc rfl ?_
 o_law
 refine Yw (α:=OkS) ?_
 o_law
 refine⟨ns,dS,λ_=>.d (.bool ak),.inr rfl,NR.av,by omega,λj r=>?_,_,Got.own (ZW λ_=>rfl),?_⟩
 ·show Gv K _ _ [none] _
  o_law
  refine⟨Z8,?_⟩
  o_law
  exact IS rfl rfl
 o_law
 refine Rc (cs:=ns.map λ_=>ak) (by rw[TV.data,AV.data,Z4,bu];rfl) ?_
 rw[show (ns.map λ_=>ak).all id=ak by rw[oy,gi];exact λ_ _=>rfl]
 o_law
 refine WD (α:=OkS) ?_
 o_law
 refine⟨xs,dS,.inl rfl,⟨_,rfl⟩,λi Y=>∃ o,Y=[aa (.d (Yx b ns N)),aa (.d (.int b)),aa (.d (.list (xs.map dS))),aa (.d (.int (b ^ i))),o],⟨none,by rw[lp]⟩,?_,?_⟩
 ·rintro i Y hi ⟨o,rfl⟩
  o_law
  exact⟨_,by rw[gj]⟩
 rintro Y ⟨o,rfl⟩
 o_law
 refine Om (ds:=ns.map dS) rfl (Kp.flat (Xa ns)) ?_
 o_law
 refine FW (zs:=xs.map bZ) (by rw[TV.data,AV.data,WS]) (by rw[ah];omega) λys l q=>?_
 obtain⟨p,rfl,a⟩:=OnceN.of (xs:=xs) (l.nodup_iff.mpr (List.pairwise_map.mpr (hx.1.imp λh e=>h (gm e)))) (λy=>l.mem_iff) q
 have S:=a.one hO
 subst S
 refine Vd (f:=λns:List OkS=>.list (ns.map dS)) (c:=p) (d:=p) Enc.str.list (by simp only[TV.data,Y4,bu];exact congrArg da (bG λ_ _=>rfl)) (by rw[TV.data,AV.data,Z4,<- WS]) ?_
 refine⟨aF,by simp,?_⟩
 o_law
 refine Cj hL hz hbs ?_
 o_law
 refine Yw (α:=Int) ?_
 o_law
 refine⟨N.signs,aZ,λs=>.d (.bool (decide (s∈[(0:Int),1]))),.inr rfl,NR.av,by omega,λj r=>?_,_,Got.own (ZW λ_=>rfl),?_⟩
 ·show Gv K _ _ [none] _
  o_law
  refine⟨Z8,?_⟩
  o_law
  refine Xu ?_
  o_law
  refine⟨[.d (.int 0),.d (.int 1)],.cons rfl (.cons rfl .nil),by show 2<=1000;decide,?_⟩
  exact in_d (f:=aZ) (c:=N.signs[j]) (xs:=[0,1]) Enc.int rfl (.inr rfl) rfl
 o_law
 refine Rc (cs:=N.signs.map λs=>decide (s∈[(0:Int),1])) (by rw[TV.data,AV.data,Z4,bu];rfl) ?_
 rw[show (N.signs.map λs=>decide (s∈[(0:Int),1])).all id=ak by
  rw[oy,gi]
  intro s h
  rcases hs s h with e|e<;>subst e<;>decide]
 exact⟨_,ZL rfl,rfl⟩
def Ld(c:AV):Prop:=∃ r:Int,c=.d (.int r)/\0<=r
def Le(cs:List AV):Prop:=∃ (ns:List Int) (k:Int),cs=[.d (dI ns),.d (.int k)]/\0<=k/\k<900
theorem Cn(T:Txt K mg):'$' (CXE P w) 1 "_law_cell" ["_law_script", "_law_k"] [] (spR K Le (λ_=>Ld) NP):=by
 refine Xk T.x_law_cell Wg (λcs ⟨c,k,e,_⟩=>by rw[e];rfl) (λf X A g s H E J=>?_) [] (by simp)
 refine⟨_,(Zd (Zl (i:=2) Wg.nd rfl (aC rfl) Zc)
   (Zd (Xx (ZB Xo (pv 1) (Zq (ZX (K:=K) rfl) rfl T.n_len aN (Za (pv 0) Zb)) (nomark _))
    (Zh (Zl (i:=2) Wg.nd rfl (aC rfl) (Zo '%' (pv 0) (pv 1) (λ_ _=>rfl))))
    ZO)
   (Zd (Zl (i:=3) Wg.nd rfl (aC rfl) (Zj ZZ (Zj Yv (Zj (ZP (K:=K) rfl) (Zj (ZP (K:=K) rfl) (Zj ZZ (pv 2) Zc) (Zj Yv Zc (pv 1))) Zc) Zc) Zc))
   (Zd (Zl (i:=4) Wg.nd rfl (aC rfl) (pv 3))
   (Zd (YF bg rfl (XX rfl T.n_range (Za Zc Zb)) (Zv (i:=5) Wg.nd rfl (aC rfl))
    (Zd (Zl (i:=3) Wg.nd rfl (aC rfl) (Zj ZZ (Zj (ZP (K:=K) rfl) (Zj Yv (pv 3) Zc) Zc) Zc))
    (Zh (Zl (i:=4) Wg.nd rfl (aC rfl) (Zj (ZP (K:=K) rfl) (Zj Yv (pv 4) Zc) (pv 3))))))
   (Zh (Zr (pv 4)))))))),?_⟩
 rintro cs ⟨ns,k,rfl,h0,h1⟩
 show Sv K _ _ _ [aa (.d (dI ns)),aa (.d (.int k)),none,none,none,none] _
 w_on
 refine Xy (λY=>∃ c:Int,Y=[aa (.d (dI ns)),aa (.d (.int k)),aa (.d (.int c)),none,none,none]) ?_ ?_
 case refine_2 =>
  w_on
  refine Xh rfl ?_
  rw[ah]
  w_on
  refine ite2 (λh=>?_) λh=>?_
  ·have R:=of_decide_eq_true h
   w_on
   refine YV rfl (T3 h0 R) (Zu.flat rfl) ?_
   w_on
   exact⟨_,rfl⟩
  ·w_on
   exact⟨0,rfl⟩
 rintro Y ⟨c,rfl⟩
 w_on
 have U:0<=(c%2147483647+1009*k+7)*48271%2147483647:=er _ (by decide)
 have S:(c%2147483647+1009*k+7)*48271%2147483647<2147483647:=di _ (by decide)
 generalize (c%2147483647+1009*k+7)*48271%2147483647=N at U S
 refine V3 ?_
 w_on
 refine⟨4,rfl,⟨by decide,by decide⟩,λi Y=>∃ (n v:Int) (o:Option AV),Y=[aa (.d (dI ns)),aa (.d (.int k)),aa (.d (.int c)),aa (.d (.int n)),aa (.d (.int v)),o]/\(0<=n/\n<2147483647)/\0<=v,⟨N,N,none,rfl,⟨U,S⟩,U⟩,?_,?_⟩
 ·rintro i Y hi ⟨n,v,o,rfl,hn,hv⟩
  w_on
  have a:0<=(n*69621+7919)%2147483647:=er _ (by decide)
  have I:(n*69621+7919)%2147483647<2147483647:=di _ (by decide)
  generalize (n*69621+7919)%2147483647=L at a I
  exact⟨L,v*2147483647+L,_,rfl,⟨a,I⟩,by omega⟩
 ·rintro Y ⟨n,v,o,rfl,hn,hv⟩
  w_on
  exact⟨_,ZL rfl,v,rfl,hv⟩
theorem Vt{ns:List Int}(G:0<=k/\k<900)(q:∀ r:Int,0<=r->Q (.av (.d (.int r)))):ClR Le (λ_=>Ld) NP [] Q X [.av (.d (dI ns)),.av (.d (.int k))] :=
 ⟨_,.cons (.d NR.av rfl) (.cons (.d NR.av rfl) .nil),⟨ns,k,rfl,G.1,G.2⟩,λ_ ⟨r,e,h1⟩=>e▸⟨_,Got.own rfl,q r h1⟩,λ_ z=>z.elim⟩
theorem Co(b:Int)(ns:List OkS)(N:Mach):ZH (Yx b ns N)=true:=by
 have Z:noLsts (ns.map dS)=true:=X0 (λ_=>rfl) ns
 have O:=Vm N
 simpa only[ZH,noLsts,kz,ky,Z] using O
def Cp(ds:List aj)(c:AV):Prop:=∃ t:Bool,ds=[.bool t]/\c=.d (.int (if t=ak then 1 else 0))
theorem Cq(T:Txt K mg):'$' (CXE P w) 1 "as_sign" ["truth"] [] (spV K Cp NX):=by
 refine val T.x_as_sign El (λds c ⟨_,e,_⟩=>by rw[e];rfl) (λf X A g s H E J=>?_) [] (by simp)
 refine⟨_,(Zh (Zr (Sq (Yq (pv 0)) Zc Zc))),?_⟩
 rintro ds c ⟨t,rfl,rfl⟩
 show Sv K _ _ _ [aa (.d (.bool t))] _
 w_on
 refine ite2 (λh=>?_) λh=>?_
 ·w_on
  rw[if_pos (by simpa using h)]
  exact ZL rfl
 ·w_on
  rw[if_neg (by simpa using h)]
  exact ZL rfl
def cntD[DecidableEq α](xs:List α)(c:α):Nat:=xs.count c
def wt(l r:List OkS)(c:OkS):Int:=(cntD r c:Int)-(cntD l c:Int)
def Yy(ns:List OkS)(col:List Int)(l r:List OkS):List Int:=ow (λc d=>d*wt l r c) ns col
theorem range_getD(xs:List Int):(aD xs.length).map (λk=>xs.getD k 0)=xs:=by
 refine hJ (by simp) λi Z O=>?_
 rw[hH,h_,am,ai O]
 rfl
def Cr(ds:List aj)(c:AV):Prop:=∃ (ns:List OkS) (col:List Int) (l r:List OkS),ds=[.tuple (ns.map dS),tI col,.list (l.map dS),.list (r.map dS)]/\(ns.length=col.length/\ns.length<=8/\l.length<=8/\r.length<=8)/\(∀ x∈col,0<=x/\x<5)/\c=.d (.int (Yy ns col l r).sum)
theorem Ct(T:Txt K mg):'$' (CXE P w) 1 "gain_of" ["names", "column", "left", "right"] [] (spV K Cr NX):=by
 refine val T.x_gain_of Em (λds c ⟨_,_,_,_,e,_⟩=>by rw[e];rfl) (λf X A g s H E J=>?_) [] (by simp)
 refine⟨_,(Zh (Zr (Zq (Uh (K:=K) rfl rfl) rfl T.n_sum dL (Za (Yc (N:=["name", "figure", "right", "left"]) (cap:=[none,none,aa 3,aa 2]) rfl rfl rfl (by kernel_rfl) (Fv (K:=K) rfl rfl T.n_zip (Za (pv 0) (Za (pv 1) Zb))) (λ_ _ _ _=>(W7 (K:=K) (n:=2) rfl rfl (YY (Zv (i:=0) (show (["name", "figure", "right", "left"]:List aQ).Nodup from by decide +kernel) rfl (aC rfl)) (YY (Zv (i:=1) (show (["name", "figure", "right", "left"]:List aQ).Nodup from by decide +kernel) rfl (aC rfl)) WW)))) (λ_ _ _ _=>Z7) (λ_ _ _ _=>(Zj Yv (pv 1) (Zj VF (Xf (K:=K) rfl bB dU eU (TM (K:=K) rfl J.units) (pv 2) (Za (pv 0) Zb)) (Xf (K:=K) rfl bB dU eU (TM (K:=K) rfl J.units) (pv 3) (Za (pv 0) Zb)))))) Zb)))),?_⟩
 rintro ds c ⟨ns,col,l,r,rfl,⟨h1,h2,h3,h4⟩,hc,rfl⟩
 show Sv K _ _ _ [aa (.d (.tuple (ns.map dS))),aa (.d (tI col)),aa (.d (.list (l.map dS))),aa (.d (.list (r.map dS)))] _
 have D:(Yy ns col l r).length=ns.length:=by unfold Yy;rw[lS];omega
 w_on
 refine Fw (α:=OkS) ?_
 w_on
 refine⟨_,_,ns,dS,col,λk=>.d (.int ((Yy ns col l r).getD k 0)),rfl,rfl,rfl,NR.av,NR.av,h1,by omega,λi C u=>?_,_,Got.own (ZW λ_=>rfl),?_⟩
 ·have S:(Yy ns col l r).getD i 0=col[i] * wt l r ns[i]:=by
   have W:i<(ow (λc d=>d*wt l r c) ns col).length:=by rw[lS];omega
   unfold Yy
   rw[am,ai W,List.getElem_zipWith]
   rfl
  have F:=hc _ (aV u)
  show Gv K _ _ [none,none,aa (.d (.list (r.map dS))),aa (.d (.list (l.map dS)))] _
  refine Vi ?_
  w_on
  refine⟨λK I U ts as H s=>Z8 K I U ts as H (wk_1 K I U ts as H s),?_⟩
  w_on
  refine RN (α:=OkS) Enc.str ?_
  w_on
  refine⟨r,rfl,NR.av,by omega,?_⟩
  w_on
  refine⟨ns[i],rfl,NR.av,?_⟩
  refine RN (α:=OkS) Enc.str ?_
  w_on
  refine⟨l,rfl,NR.av,by omega,?_⟩
  w_on
  refine⟨ns[i],rfl,NR.av,?_⟩
  w_on
  show aa (AV.d (.int (col[i] * wt l r ns[i])))=aa (AV.d (.int ((Yy ns col l r).getD i 0)))
  rw[S]
 w_on
 refine Ui (ns:=Yy ns col l r) (by
  rw[TV.data,AV.data,Z4]
  have e:=congrArg (j6 aZ) (range_getD (Yy ns col l r))
  rw[D,bu] at e
  exact congrArg da e) ?_
 exact ZL rfl
def clB(B x:Int):Int:=if (if x<B then x else B) > -B then (if x<B then x else B) else -B
def bnd(l r:List OkS):Int:=kG (kG (l.length:Int) (r.length:Int)) 1
def gns(b:Int)(ns l r:List OkS)(k:Int):Int:=(Yy ns (WT b ns.length k) l r).sum
def stS(b:Int)(ns l r:List OkS)(x:Int)(k:Nat):Int:=clB (bnd l r) (b*x+gns b ns l r k)
def UB(B:Int):List Int:=(aD (2*B+1).toNat).map λ(k:Nat)=>(k:Int)-B
def thS(b:Int)(ns l r:List OkS):Th Int:=⟨0,(b ^ ns.length).toNat,2*bnd l r+1,stS b ns l r,UB (bnd l r)⟩
def sgS(q:Bool)(x:Int):Int:=if (if q=ak then decide (x=0) else decide (0<x))=ak then 1 else 0
theorem Lf(q:Bool)(x:Int):sgS q x=0\/sgS q x=1:=by
 unfold sgS
 by_cases h:(if q=ak then decide (x=0) else decide (0<x))=ak
 ·exact .inr (if_pos h)
 ·exact .inl (if_neg h)
variable{B:Int}
theorem QT(Q:0<=B):x∈UB B↔-B<=x/\x<=B:=by
 unfold UB
 rw[mem_map]
 constructor
 ·rintro⟨k,R,rfl⟩
  have:=mem_range.mp R
  omega
 ·intro h
  exact⟨(x+B).toNat,mem_range.mpr (by omega),by omega⟩
theorem Lg(B:Int):(UB B).length=(2*B+1).toNat:=by unfold UB;rw[ah,b9]
theorem Cu(Q:0<=B):-B<=clB B x/\clB B x<=B:=by
 unfold clB
 by_cases h:x<B
 ·rw[if_pos h]
  by_cases g:x > -B
  ·rw[if_pos g];omega
  ·rw[if_neg g];omega
 ·rw[if_neg h]
  by_cases g:B > -B
  ·rw[if_pos g];omega
  ·rw[if_neg g];omega
theorem Lh(h1:l.length<=3)(O:r.length<=3):1<=bnd l r/\bnd l r<=3:=by unfold bnd;omega
def wdS(q:Bool):Str:=if q=ak then "=" else "<"
def Cv(cs:List AV):Prop:=∃ (b:Int) (l r:List OkS) (q:Bool),cs=[.d (.int b),.d (.list (l.map dS)),.d (.list (r.map dS)),.d (.str (wdS q))]/\l.length<=3/\r.length<=3
def Li(cs:List AV)(c:AV):Prop:=∃ (b:Int) (l r:List OkS) (q:Bool) (ns:List OkS) (N:Mach),cs=[.d (.int b),.d (.list (l.map dS)),.d (.list (r.map dS)),.d (.str (wdS q))]/\(2<=b/\b<=5)/\OnceN (l++r) ns/\Nrw b ns/\Vs (thS b ns l r) (sgS q) N/\c=.d (Yx b ns N)
def Cw(C C':ao)(cs:List AV)(e:Exc):Prop:=∃ (b:Int) (l r:List OkS) (q:Bool),cs=[.d (.int b),.d (.list (l.map dS)),.d (.list (r.map dS)),.d (.str (wdS q))]/\((Bad b/\e=⟨C,[]⟩)\/((2<=b/\b<=5)/\∃ ns,OnceN (l++r) ns/\¬ Nrw b ns/\e=xW C' ns.length))
theorem Cy(q:(2<=b/\b<=5)->Q (.av (.d .none)))(f:Bad b->X ⟨C,[]⟩):ClR MJ MK (ML C) [] Q X [.av (.d (.int b))] :=
 ⟨[.d (.int b)],.cons (.d NR.av rfl) .nil,⟨b,rfl⟩,λc ⟨b',e,hb,ec⟩=>by
  simp only[ck,bh,AV.d.injEq,c3,and_true] at e
  subst e ec
  exact⟨_,Got.own rfl,q hb⟩,λx ⟨b',e,hb,ex⟩=>by
  simp only[ck,bh,AV.d.injEq,c3,and_true] at e
  subst e ex
  exact f hb⟩
theorem Cz(hb:2<=b/\b<=5)(hw:Nrw b ns)(h1:l.length<=3)(O:r.length<=3):(thS b ns l r).Ok:=by
 have Q:=Lh h1 O
 have T:=Uz hb ns.length
 have Y:=hw.2
 have D:=Lg (bnd l r)
 refine⟨(QT (by omega)).mpr ⟨by show -bnd l r<=0;omega,by show 0<=bnd l r;omega⟩,λx W k _=>(QT (by omega)).mpr (Cu (by omega)),?_,?_,?_⟩
 ·show ((UB (bnd l r)).length:Int)<=2*bnd l r+1;omega
 ·show (b ^ ns.length).toNat<=1000;omega
 ·show (UB (bnd l r)).length<=1000;omega
theorem Lj(T:Txt K mg)(Z:Cs K mg C_WheelError C_NoBase C_TooGreat C_TooWide C_NoName)(B:base.BuiltinsAt mg au)(j:∀ p∈ts0,p∈Tabs.ts):'$' (CXE P w) 8 "sums" ["base", "left", "right", "word"] [] (spR K Cv Li (Cw C_NoBase C_TooWide)):=by
 obtain⟨c0,X⟩:=T.x_sums
 have c_want_base:'$' _ _ _ _ _ _:=DB T Z
 have c_rising:'$' _ _ _ _ _ _:=DF T
 have c_want_width:'$' _ _ _ _ _ _:=DI T Z
 have c_letters_for:'$' _ _ _ _ _ _:=MG T
 have c_column_of:'$' _ _ _ _ _ _:=Dm T [] (by simp)
 have c_gain_of:'$' _ _ _ _ _ _:=Ct T
 have c_as_sign:'$' _ _ _ _ _ _:=Cq T
 have c_least_met:'$' _ _ _ _ _ _:=DN T B j KEnc.int (λa b e=>je e) λx=>rfl
 refine Fi (k':=7) X XT (λcs ⟨_,_,_,_,e,_⟩=>by rw[e];rfl) (λf A g s H E J=>?_)
 refine⟨_,(Zd (YM (Ro (c_want_base.mono (by decide)) J rfl (Za (pv 0) Zb)))
   (Zd (Zl (i:=4) XT.nd rfl (de rfl) (Zt (c_rising.mono (by decide)) J rfl Zs (Za (Zj (ZP (K:=K) rfl) (pv 1) (pv 2)) Zb)))
   (Zd (YM (Ro (c_want_width.mono (by decide)) J rfl (Za (pv 0) (Za (pv 4) Zb))))
   (Zd (Zl (i:=5) XT.nd rfl (aC rfl) (Zt (c_letters_for.mono (by decide)) J rfl Zs (Za (pv 0) (Za (pv 4) Zb))))
   (Zd (Zl (i:=6) XT.nd rfl (de rfl) (Yc (N:=["code", "names", "base", "left", "right"]) (cap:=[none,aa 4,aa 0,aa 1,aa 2]) rfl rfl rfl (by kernel_rfl) (XX rfl T.n_range (Za (pv 5) Zb)) (λ_ _ _ _=>(Zv (i:=0) (show (["code", "names", "base", "left", "right"]:List aQ).Nodup from by decide +kernel) rfl (aC rfl))) (λ_ _ _ _=>Z7) (λ_ _ _ _=>(Zt (c_gain_of.mono (by decide)) J rfl Zs (Za (pv 1) (Za (Zt (c_column_of.mono (by decide)) J rfl Zs (Za (pv 0) (Za (Zq (ZX (K:=K) rfl) rfl T.n_len aN (Za (pv 1) Zb)) (Za (pv 2) Zb)))) (Za (pv 3) (Za (pv 4) Zb))))))))
   (Zd (Zl (i:=7) XT.nd rfl (de rfl) (Zq (FY rfl) rfl T.n_max gA (Za (Zq (ZX (K:=K) rfl) rfl T.n_len aN (Za (pv 1) Zb)) (Za (Zq (ZX (K:=K) rfl) rfl T.n_len aN (Za (pv 2) Zb)) (Za Zc Zb)))))
   (Zd (TH (name := "lead") (qual := "sums.<locals>.lead") (params:=Z1 We) (body:=ZC We) (scope:=Ze We) (P:=XV) (i:=8) XT.nd rfl (aC rfl) rfl rfl rfl rfl rfl X.tab Ep B)
   (Zd (TH (name := "sign") (qual := "sums.<locals>.sign") (params:=Z1 Wf) (body:=ZC Wf) (scope:=Ze Wf) (P:=XV) (i:=9) XT.nd rfl (aC rfl) rfl rfl rfl rfl rfl X.tab Et B)
   (Zh (Zr (YT (Za (pv 0) (Za (pv 4) (Za (O8 (c_least_met.mono (by decide)) J rfl (Nn (E:=E0)) (Za Zc (Za (pv 5) (Za (pv 8) (Za (pv 9) (Za (Zj (ZP (K:=K) rfl) (Zj Yv Zc (pv 7)) Zc) Zb)))))) Zb)))))))))))))),?_⟩
 rintro cs ⟨b,l,r,q,rfl,h1,h2⟩
 show Sv K _ _ _ [aa (.d (.int b)),aa (.d (.list (l.map dS))),aa (.d (.list (r.map dS))),aa (.d (.str (wdS q))),none,none,none,none,none,none] _
 o_law
 refine Cy (λM=>?_) λM=>⟨b,l,r,q,rfl,.inl ⟨M,rfl⟩⟩
 o_law
 refine V2 (ds:=l.map dS) (es:=r.map dS) rfl rfl (Kp.flat (Xa l)) (Kp.flat (Xa r)) (by rw[ah,ah];omega) ?_
 rw[<- bH]
 o_law
 refine DG (xs:=l++r) NR.av (by simp only[TV.data,Y4,bu];exact congrArg da (bG λ_ _=>rfl)) (by rw[ay];omega) λns o=>?_
 have u:ns.length<=6:=by have:=MQ o;rw[ay] at this;omega
 o_law
 refine DJ M (by omega) (λhw=>?_) λhw=>⟨b,l,r,q,rfl,.inr ⟨M,ns,o,hw,rfl⟩⟩
 have hw1:=hw.1
 have Y:=hw.2
 have hp:=Uz M ns.length
 o_law
 refine ZY (by walk_at "nrs") ⟨b,ns,rfl,M,by omega,rfl⟩ (Got.own rfl) ?_
 o_law
 refine Rk ?_
 o_law
 refine⟨_,λk=>.d (.int (gns b ns l r k)),rfl,⟨by omega,by omega⟩,λi C=>?_,_,Got.own (ZW λ_=>rfl),?_⟩
 ·have R:0<=(i:Int)/\(i:Int)<b ^ ns.length:=by omega
  have F:=MS (n:=ns.length) M R
  show Gv K _ _ [none,aa (.d (.tuple (ns.map dS))),aa (.d (.int b)),aa (.d (.list (l.map dS))),aa (.d (.list (r.map dS)))] _
  o_law
  refine⟨Z8,?_⟩
  o_law
  refine YH rfl ?_
  rw[ah]
  o_law
  refine ZY (by walk_at "nrs") ⟨(i:Int),ns.length,b,rfl,M,R.1,aM (show (i:Int).toNat<2 ^ 7 by omega) (Nat.pow_le_pow_right (by decide) (by decide)),by omega,rfl⟩ (Got.own (Vl _)) ?_
  rw[show pad ns.length (figs b (i:Int))=WT b ns.length i from rfl]
  o_law
  exact ZY (by walk_at "nrs") ⟨ns,WT b ns.length i,l,r,rfl,⟨F.1.symm,by omega,by omega,by omega⟩,λx W=>by have:=F.2 x W;omega,rfl⟩ (Got.own rfl) rfl
 refine XM (x:=dI ((aD (b ^ ns.length).toNat).map λ(k:Nat)=>gns b ns l r k)) (by rw[AV.data,Z4,dI,bu];rfl) ?_
 o_law
 refine Xh rfl ?_
 rw[ah]
 o_law
 refine Xh rfl ?_
 rw[ah]
 o_law
 refine F1 ?_
 rw[show kG (kG (l.length:Int) (r.length:Int)) 1=bnd l r from rfl]
 have Q:=Lh h1 h2
 have ok:=Cz (ns:=ns) M hw h1 h2
 have gw:∀ {k:Nat},(k:Int)<b ^ ns.length->atI (((aD (b ^ ns.length).toNat).map λ(k:Nat)=>gns b ns l r k).map aZ) (k:Int)=aa (.int (gns b ns l r k)):=λ{k} z=>by
  have z2:k<(b ^ ns.length).toNat:=by omega
  rw[T3 (by omega) (by rw[ah,b9];omega),aK,am,aW,d8 z2]
  rfl
 generalize O:((aD (b ^ ns.length).toNat).map λ(k:Nat)=>gns b ns l r k)=G at gw
 o_law
 refine TJ (j (XV,QB) (by simp[ts0])) (by decide +kernel) (by show 8<10;decide) ?_
 o_law
 refine TJ (j (XV,QB) (by simp[ts0])) (by decide +kernel) (by show 9<10;decide) ?_
 walk_at "hd"
 show Sv K _ _ _ [aa (.d (.int b)),aa (.d (.list (l.map dS))),aa (.d (.list (r.map dS))),aa (.d (.str (wdS q))),aa (.d (.tuple (ns.map dS))),aa (.d (.int (b ^ ns.length))),aa (.d (dI G)),aa (.d (.int (bnd l r))),aa (.obj _),aa (.obj _)] _
 o_law
 refine Xu ?_
 o_law
 refine Ni ?_
 o_law
 have eb:b ^ ns.length=(((b ^ ns.length).toNat:Nat):Int):=by omega
 refine⟨(thS b ns l r,sgS q),[.d (.int 0),.d (.int (b ^ ns.length)),.obj (CloOk P w K mg base (CXE P w) 2 (spR K (Y8 aZ (thS b ns l r)) (Y9 aZ (thS b ns l r)) NP)),.obj (CloOk P w K mg base (CXE P w) 2 (spR K (WP aZ (thS b ns l r)) (WQ aZ (sgS q)) NP)),.d (.int (2*bnd l r+1))],
  .cons (.d NR.av rfl) (.cons (.d NR.av rfl) (.cons (.o (λv G1 G2 m h=>h.same m) λI U ts as y H2 v s L S=>?lead) (.cons (.o (λv G1 G2 m h=>h.same m) λI U ts as y H2 v s L S=>?sign) (.cons (.d NR.av rfl) .nil)))),⟨⟨ok,by rw[eb];rfl⟩,⟨by show 1<=(b ^ ns.length).toNat;omega,by show (b ^ ns.length).toNat<=64;omega,by show (UB _).length<=100;rw[Lg];omega,λp hp=>by show 0<=sgS q p/\sgS q p<=9;rcases Lf q p with e|e<;>rw[e]<;>decide⟩⟩,λd ⟨N,hN,ec⟩=>?_⟩
 case lead =>
  refine TL (k:=1) En Eo XT.nofree (λ_=>rfl) (λ_ _ _ _ _ s us D=>by obtain⟨a,b,rfl⟩:=len2 D;exact .of_eq rfl) (λcs ⟨x,l,e,_⟩=>by rw[e];rfl) (λcs ⟨x,l,e,_⟩=>by rw[e];rfl) S L s λcl f c A g s H E J=>?_
  refine⟨_,(Zh (Zr (Zq (Kh rfl) rfl T.n_max gA (Za (VD VG (pv 2)) (Za (Zq (Ki rfl) rfl T.n_min PyProof.Rows.boot_min (Za (pv 2) (Za (Zj (ZP (K:=K) rfl) (Zj Yv (pv 3) (pv 0)) (Zo '%' (pv 4) (pv 1) (λ_ _=>rfl))) Zb))) Zb))))),?_⟩
  rintro cs ⟨x,k,rfl,W,R⟩
  have W:=(QT (by omega)).mp (show x∈UB (bnd l r) from W)
  have R:k<(b ^ ns.length).toNat:=R
  have R:(k:Int)<b ^ ns.length:=by omega
  show Sv K _ _ _ [aa (.d (.int x)),aa (.d (.int k)),aa (.d (.int (bnd l r))),aa (.d (.int b)),aa (.d (dI G))] _
  o_law
  refine YV rfl (gw R) (Zu.flat rfl) ?_
  o_law
  refine GU ?_
  o_law
  refine GV ?_
  exact⟨_,ZL rfl,x,k,rfl,rfl⟩
 case sign =>
  refine TL (k:=1) Er Es XT.nofree (λ_=>rfl) (λ_ _ _ _ _ s us D=>by obtain⟨a,rfl⟩:=len1 D;exact .of_eq rfl) (λcs ⟨x,e,_⟩=>by rw[e];rfl) (λcs ⟨x,e,_⟩=>by rw[e];rfl) S L s λcl f c A g s H E J=>?_
  refine⟨_,(Zh (Zr (Zt (c_as_sign.mono (by decide)) J rfl Zs (Za (Sq (ZB (YO (K:=K) rfl J.units) (pv 1) Yp (nomark _)) (Xc (YO (K:=K) rfl J.units) (pv 0) Zc (nomark _)) (Xc Xp (pv 0) Zc (nomark _))) Zb)))),?_⟩
  rintro cs ⟨x,rfl,W⟩
  show Sv K _ _ _ [aa (.d (.int x)),aa (.d (.str (wdS q)))] _
  o_law
  cases q with
  | true =>
   refine V1 (f:=dS) (c:=⟨"=",by decide +kernel⟩) (d:=⟨"=",by decide +kernel⟩) Enc.str rfl rfl ?_
   refine⟨ak,by simp,?_⟩
   w_on
   refine ZY (by walk_at "nrs") ⟨_,rfl,rfl⟩ (Got.own rfl) ?_
   exact⟨_,ZL rfl,x,rfl,rfl⟩
  | false =>
   refine V1 (f:=dS) (c:=⟨"<",by decide +kernel⟩) (d:=⟨"=",by decide +kernel⟩) Enc.str rfl rfl ?_
   refine⟨aF,by rw[decide_eq_false (λe=>absurd (congrArg bZ e) (by decide +kernel))],?_⟩
   w_on
   refine ZY (by walk_at "nrs") ⟨_,rfl,rfl⟩ (Got.own rfl) ?_
   exact⟨_,ZL rfl,x,rfl,rfl⟩
 subst ec
 refine⟨rfl,_,Got.own (Vm _),?_⟩
 o_law
 exact⟨[.d (.int b),.d (.tuple (ns.map dS)),.d (dM N)],.cons rfl (.cons rfl (.cons rfl .nil)),by show 3<=1000;decide,_,ZL rfl,b,l,r,q,ns,N,rfl,M,o,hw,hN,rfl⟩
theorem CA[DecidableEq α]{sg:α->Int}(hN:Vs θ sg N)(b:1<=θ.n)(P:θ.g θ.start 0=θ.start):Zz N:=by
 obtain⟨F,R,G,hX,U,Q,rfl⟩:=hN
 refine Dy U Q ?_
 have hd:Dgb ((θ.n:Nat):Int) [0]:=λd hd=>by
  rw[f_.mp hd]
  omega
 have Z:=(MI (sg:=sg) hX [0] hd).2
 obtain⟨r,e⟩:=hX.bf.pre
 have S:YQ θ [0]=θ.start:=P
 have e:F=θ.start::r:=e
 rw[S] at Z
 have a:F.idxOf θ.start=0:=by rw[e];simp
 rw[a] at Z
 exact Z
theorem CB[DecidableEq α]{sg:α->Int}(hN:Vs θ sg N):∀ s∈N.signs,∃ x,s=sg x:=by
 obtain⟨F,R,G,hX,U,Q,rfl⟩:=hN
 intro s P
 obtain⟨x,W,rfl⟩:=mem_map.mp (show s∈G.map (sgR (YA θ sg F)) from P)
 have Z:=Yj.mp (Q.u x W)
 have O:(YA θ sg F).rows.length=F.length:=ah ..
 rw[O] at Z
 have B:x.toNat<F.length:=by omega
 refine⟨F[x.toNat],?_⟩
 show (F.map sg).getD x.toNat 0=_
 rw[am,aW,ai B]
 rfl
theorem Se{α:Type}(f g:α->Int):∀ xs:List α,(xs.map λc=>f c+g c).sum=(xs.map f).sum+(xs.map g).sum
 | []=>rfl
 | x::xs=>by simp only[bw,jb,Se f g xs];omega
theorem Vu{α:Type}(b:Int)(f:α->Int):∀ xs:List α,(xs.map λc=>b*f c).sum=b*(xs.map f).sum
 | []=>by simp
 | x::xs=>by simp only[bw,jb,Vu b f xs,Int.mul_add]
theorem CC[DecidableEq α](x:α)(r:List α)(c:α):(cntD (x::r) c:Int)=cntD r c+(if x=c then 1 else 0):=by
 unfold cntD
 rw[List.count_cons]
 by_cases e:x=c
 ·subst e;simp
 ·simp[e]
theorem Lk{α:Type}[DecidableEq α](f:α->Int)(x:α):∀ {ns:List α},ns.Nodup->x∈ns->(ns.map λc=>(if x=c then 1 else 0)*f c).sum=f x
 | y::ns,nd,h=>by
  obtain⟨w,L⟩:=nU.mp nd
  simp only[bw,jb]
  by_cases e:x=y
  ·subst e
   have:(ns.map λc=>(if x=c then 1 else 0)*f c).sum=0:=by
    have U:(ns.map λc=>(if x=c then 1 else 0)*f c)=ns.map λ_=>(0:Int):=bG λc Y=>by rw[if_neg (show ¬ x=c from λe=>w (e▸Y)),ia]
    rw[U]
    clear U w L nd h
    induction ns with
    | nil=>rfl
    | cons _ _ E=>simp only[bw,jb,E];rfl
   rw[this,if_pos rfl]
   omega
  ·have W:x∈ns:=(gh.mp h).resolve_left e
   rw[Lk f x L W,if_neg e]
   omega
theorem Sf{α:Type}[DecidableEq α](f:α->Int){ns:List α}(nd:ns.Nodup):∀ {r:List α},(∀ x∈r,x∈ns)->(ns.map λc=>(cntD r c:Int)*f c).sum=(r.map f).sum
 | [],_=>by
  have U:(ns.map λc=>(cntD ([]:List α) c:Int)*f c)=ns.map λc=>0*f c:=bG λc _=>by simp[cntD]
  rw[U,Vu,ia]
  rfl
 | x::r,h=>by
  have O:=Sf f nd λy j=>h y (cg _ j)
  have U:(ns.map λc=>(cntD (x::r) c:Int)*f c)=ns.map λc=>(cntD r c:Int)*f c+(if x=c then 1 else 0)*f c:=bG λc _=>by rw[CC,jL]
  rw[U,Se,O,Lk f x nd (h x (.head _)),bw,jb]
  omega
theorem Ll{α:Type}:∀ r:List α,(r.map λ_=>(1:Int)).sum=r.length
 | []=>rfl
 | x::r=>by simp only[bw,jb,Ll r,cC];omega
theorem QU(b:Int)(w:List Int):∀ k,num b (aB k 0++w)=num b w
 | 0=>rfl
 | k+1=>by
  rw[cf,jy]
  show (aB k 0++w).foldl _ (0*b+0)=_
  rw[ia,ln]
  exact QU b w k
theorem CD(b:Int)(m:Nat)(w:List Int):num b (pad m w)=num b w:=QU b w _
theorem Lm(f:OkS->Int):(Yy ns (ns.map f) l r)=ns.map λc=>f c*wt l r c:=by
 unfold Yy
 rw[List.zipWith_map_right,List.zipWith_self]
theorem CF(hb:2<=b/\b<=5)(o:OnceN (l++r) ns)(R:0<=k/\k<b ^ ns.length):-((b-1)*bnd l r)<=gns b ns l r k/\gns b ns l r k<=(b-1)*bnd l r:=by
 obtain⟨Z,O⟩:=MS (n:=ns.length) hb R
 have a:∀ s:List OkS,(∀ x∈s,x∈ns)->(ns.map λc=>(cntD s c:Int)).sum=s.length:=λs P=>by
  have:=Sf (λ_=>(1:Int)) o.d P
  rw[Ll] at this
  simpa using this
 have D:=a l λx W=>(o.m x).mpr (a9 _ W)
 have J:=a r λx W=>(o.m x).mpr (bi _ W)
 have w:∀ (p:List OkS) (col:List Int),p.length=col.length->(∀ x∈col,0<=x/\x<b)->-((b-1)*(p.map λc=>(cntD l c:Int)).sum)<=(Yy p col l r).sum/\(Yy p col l r).sum<=(b-1)*(p.map λc=>(cntD r c:Int)).sum:=by
  intro p
  induction p with
  | nil=>intro col _ _;unfold Yy;simp
  | cons m p E =>
   intro col D Y
   cases col with
   | nil=>simp at D
   | cons d col =>
    obtain⟨L,F⟩:=E col (by simpa using D) λx W=>Y x (cg _ W)
    have hd:=Y d (.head _)
    have e:Yy (m::p) (d::col) l r=d*wt l r m::Yy p col l r:=rfl
    rw[e]
    simp only[bw,jb,Int.mul_add]
    unfold wt
    rw[Int.mul_sub]
    have U:d*(cntD r m:Int)<=(b-1)*(cntD r m:Int):=fH (by omega) (by omega)
    have v:d*(cntD l m:Int)<=(b-1)*(cntD l m:Int):=fH (by omega) (by omega)
    have q:0<=d*(cntD r m:Int):=eM hd.1 (by omega)
    have g:0<=d*(cntD l m:Int):=eM hd.1 (by omega)
    omega
 obtain⟨k1,k2⟩:=w ns _ Z.symm O
 rw[D] at k1
 rw[J] at k2
 have Q:(l.length:Int)<=bnd l r/\(r.length:Int)<=bnd l r:=by unfold bnd;omega
 have B:(b-1)*(l.length:Int)<=(b-1)*bnd l r:=bS Q.1 (by omega)
 have C:(b-1)*(r.length:Int)<=(b-1)*bnd l r:=bS Q.2 (by omega)
 unfold gns
 omega
theorem Sg(h:-B<=x/\x<=B):clB B x=x:=by
 unfold clB
 by_cases e:x<B
 ·rw[if_pos e]
  by_cases g:x > -B
  ·rw[if_pos g]
  ·rw[if_neg g];omega
 ·rw[if_neg e]
  by_cases g:B > -B
  ·rw[if_pos g];omega
  ·rw[if_neg g];omega
theorem Si(h:B<=x)(Q:1<=B):clB B x=B:=by
 have e:(if x<B then x else B)=B:=if_neg (by omega)
 unfold clB
 rw[e]
 exact if_pos (by omega)
theorem Sj(h:x<=-B)(Q:1<=B):clB B x=-B:=by
 have e:(if x<B then x else B)=x:=if_pos (by omega)
 unfold clB
 rw[e]
 exact if_neg (by omega)
theorem CG{g:Int}(hb:2<=b/\b<=5)(Q:1<=B)(A:-((b-1)*B)<=g/\g<=(b-1)*B):clB B (b*clB B x+g)=clB B (b*x+g):=by
 rw[Int.sub_mul,lU] at A
 rcases (by omega:x < -B\/(-B<=x/\x<=B)\/B<x) with h|h|h
 ·rw[Sj (x:=x) (by omega) Q]
  have:b*x<=b*(-B):=bS (by omega) (by omega)
  rw[Int.mul_neg] at this ⊢
  rw[Sj (x:=-(b*B)+g) (by omega) Q,Sj (x:=b*x+g) (by omega) Q]
 ·rw[Sg h]
 ·rw[Si (x:=x) (by omega) Q]
  have:b*B<=b*x:=bS (by omega) (by omega)
  rw[Si (x:=b*B+g) (by omega) Q,Si (x:=b*x+g) (by omega) Q]
def tvS(b:Int)(ns l r:List OkS)(w:List Int):Int:=w.foldl (λx k=>b*x+gns b ns l r k) 0
theorem Ln(w:List Int)(d:Int):tvS b ns l r (w++[d])=b*tvS b ns l r w+gns b ns l r d:=by unfold tvS;rw[fG];rfl
theorem runS(hb:2<=b/\b<=5)(o:OnceN (l++r) ns)(w:List Int):Dgb ((b ^ ns.length).toNat:Nat) w->YQ (thS b ns l r) w=clB (bnd l r) (tvS b ns l r w):=by
 have Q:1<=bnd l r:=by unfold bnd;omega
 have T:=Uz hb ns.length
 refine Vq (M:=λw=>Dgb ((b ^ ns.length).toNat:Nat) w->YQ (thS b ns l r) w=clB (bnd l r) (tvS b ns l r w)) w (λ_=>(Sg (by show -bnd l r<=0/\0<=bnd l r;omega)).symm) λv d E R=>?_
 obtain⟨N,hd⟩:=R.snoc
 rw[MH,E N,Ln]
 show clB (bnd l r) (b*clB (bnd l r) (tvS b ns l r v)+gns b ns l r (d.toNat:Int))=_
 rw[eT hd.1]
 exact CG hb Q (CF hb o ⟨hd.1,by omega⟩)
theorem CH(hb:2<=b/\b<=5)(pl:OkS->Int)(G:∀ c∈ns,0<=pl c):tvS b ns l r (wd b (ns.map pl))=(ns.map λc=>pl c*wt l r c).sum:=by
 have S:∀ c∈ns,(figs b (pl c)).length<=mxf b (ns.map pl):=λc Y=>M0 (mem_map.mpr ⟨c,Y,rfl⟩)
 have a:∀ k,WT b ns.length (num b ((ns.map pl).map λp=>(pad (mxf b (ns.map pl)) (figs b p)).getD k 0))=ns.map λc=>(pad (mxf b (ns.map pl)) (figs b (pl c))).getD k 0:=λk=>by
  rw[QO hb (by rw[ah,ah]) λx W=>by
   obtain⟨p,_,rfl⟩:=mem_map.mp W
   exact M3 hb k,bu]
  rfl
 have step:∀ j,j<=mxf b (ns.map pl)->tvS b ns l r (((aD j).map λk=>(ns.map pl).map λp=>(pad (mxf b (ns.map pl)) (figs b p)).getD k 0).map (num b))=(ns.map λc=>num b ((pad (mxf b (ns.map pl)) (figs b (pl c))).take j)*wt l r c).sum:=by
  intro j
  induction j with
  | zero =>
   intro _
   have U:(ns.map λc=>num b ((pad (mxf b (ns.map pl)) (figs b (pl c))).take 0)*wt l r c)=ns.map λc=>0*wt l r c:=bG λc _=>rfl
   rw[U,Vu,ia]
   rfl
  | succ j E =>
   intro u
   rw[eI,bH,bH,ml,ml,Ln,E (by omega)]
   unfold gns
   rw[a j,Lm,<- Vu,<- Se]
   congr 1
   refine bG λc Y=>?_
   have D:j<(pad (mxf b (ns.map pl)) (figs b (pl c))).length:=by rw[QM (S c Y)];omega
   rw[iD,ai D]
   show _=num b (_++[_])*_
   rw[Wx,am,ai D,jL,gk b,oz,gk (wt l r c) b,<- oz]
   rfl
 have:=step _ (aq _)
 unfold wd cols
 rw[this]
 congr 1
 refine bG λc Y=>?_
 have D:(pad (mxf b (ns.map pl)) (figs b (pl c))).length=mxf b (ns.map pl):=QM (S c Y)
 rw[kS (by rw[D];exact aq _),CD,Jy hb.1 hb.2 (G c Y)]
theorem CI(q:Bool)(Q:1<=B):sgS q (clB B x)=sgS q x:=by
 have Z:(clB B x=0↔x=0)/\(0<clB B x↔0<x):=by
  rcases (by omega:x < -B\/(-B<=x/\x<=B)\/B<x) with h|h|h
  ·rw[Sj (x:=x) (by omega) Q];omega
  ·rw[Sg h];exact⟨.rfl,.rfl⟩
  ·rw[Si (x:=x) (by omega) Q];omega
 unfold sgS
 rw[decide_eq_decide.mpr Z.1,decide_eq_decide.mpr Z.2]
theorem CJ(hb:2<=b/\b<=5):gns b ns l r 0=0:=by
 have U:num b (aB ns.length 0)=0:=by
  have:=QU b [] ns.length
  rw[ck] at this
  exact this
 have e:=QO hb (fv (n:=ns.length) (a:=(0:Int))) λx W=>by rw[gI W];omega
 rw[U] at e
 unfold gns
 rw[e,<- show ns.map (λ_=>(0:Int))=aB ns.length 0 from List.map_const',Lm,Vu,ia]
structure SuTell(b:Int)(l r:List OkS)(q:Bool)(ns:List OkS)(N:Mach):Prop where
 il:IsL N
 p:Parts 1 64 N
 w:((ltr N:Nat):Int)=b ^ ns.length
 z:Zz N
 s:∀ s∈N.signs,s=0\/s=1
 t:∀ pl:OkS->Int,(∀ c∈ns,0<=pl c)->sgw N (wd b (ns.map pl))=sgS q ((r.map pl).sum-(l.map pl).sum)
theorem CK{q:Bool}(hb:2<=b/\b<=5)(o:OnceN (l++r) ns)(hw:Nrw b ns)(hN:Vs (thS b ns l r) (sgS q) N):SuTell b l r q ns N:=by
 obtain⟨Z,O,B,F⟩:=DO hN
 have T:=Uz hb ns.length
 have Q:1<=bnd l r:=by unfold bnd;omega
 have en:(thS b ns l r).n=(b ^ ns.length).toNat:=rfl
 refine⟨B,O,by rw[Z,en];omega,CA hN (by rw[en];omega) ?_,λs P=>?_,λpl G=>?_⟩
 ·show clB (bnd l r) (b*0+gns b ns l r ((0:Nat):Int))=0
  rw[show ((0:Nat):Int)=0 from rfl,CJ hb,Int.mul_zero]
  exact Sg (by omega)
 ·obtain⟨x,rfl⟩:=CB hN s P
  exact Lf q x
 ·have hd:Dgb ((b ^ ns.length).toNat:Nat) (wd b (ns.map pl)):=by
   have:=M4 (ps:=ns.map pl) hb
   rw[ah] at this
   rw[show (((b ^ ns.length).toNat:Nat):Int)=b ^ ns.length by omega]
   exact this
  rw[F _ hd,runS hb o _ hd,CI q Q,CH hb pl G]
  congr 1
  have S:(ns.map λc=>pl c*wt l r c)=ns.map λc=>(cntD r c:Int)*pl c+(-1)*((cntD l c:Int)*pl c):=bG λc _=>by
   unfold wt
   rw[Int.mul_sub,gk (pl c),gk (pl c)]
   omega
  rw[S,Se,Vu,Sf pl o.d λx W=>(o.m x).mpr (bi _ W),Sf pl o.d λx W=>(o.m x).mpr (a9 _ W)]
  omega
section
theorem CL{N:Nat}{f:Nat->Nat}(inj:∀ i j,i<N->j<N->f i=f j->i=j)(rg:∀ i,i<N->1<=f i/\f i<=N)(G:1<=y)(h1:y<=N):∃ i,i<N/\f i=y:=by
 have len:∀ {L U:List Nat},L.Nodup->(∀ x∈L,x∈U)->L.length<=U.length:=λ{L}=>by
  induction L with
  | nil=>intro U _ _;exact bP _
  | cons a L E =>
   intro U J h
   rw[nU] at J
   have S:=h a (.head _)
   have:=E J.2 (U:=U.erase a) λx W=>(im λz=>J.1 (by rw[<- z];exact W)).mpr (h x (.tail _ W))
   rw[gG S] at this
   have:=fe S
   rw[cC]
   omega
 have J:∀ n,n<=N->((aD n).map f).Nodup:=λn=>by
  induction n with
  | zero=>intro _;simp
  | succ n E =>
   intro g
   rw[eI,bH,iE]
   refine⟨E (by omega),by simp,λa m b M=>?_⟩
   obtain⟨i,C,rfl⟩:=mem_map.mp m
   rw[f_.mp M]
   have C:=mem_range.mp C
   exact λe=>by have:=inj i n (by omega) (by omega) e;omega
 apply dh
 intro no
 have:=len (L:=y::(aD N).map f) (U:=(aD N).map (· + 1)) (nU.mpr ⟨λz=>?_,J N (aq _)⟩) λx W=>?_
 ·simp only[cC,ah,b9] at this
  omega
 ·obtain⟨i,C,e⟩:=mem_map.mp z
  exact no ⟨i,mem_range.mp C,e⟩
 ·rcases gh.mp W with rfl|W
  ·exact mem_map.mpr ⟨x-1,mem_range.mpr (by omega),by omega⟩
  ·obtain⟨i,C,rfl⟩:=mem_map.mp W
   have:=rg i (mem_range.mp C)
   exact mem_map.mpr ⟨f i-1,mem_range.mpr (by omega),by omega⟩
def pm(b p:Nat):Nat->Nat->Nat
 | 0,_=>1%p
 | f+1,e=>(pm b p f (e / 2) ^ 2*b ^ (e%2))%p
theorem QW(b p:Nat):∀ f e,e<2 ^ f->pm b p f e=b ^ e%p
 | 0,e,h=>by
  have:e=0:=by simpa using h
  subst this
  rfl
 | f+1,e,h=>by
  have O:e / 2<2 ^ f:=by rw[hZ] at h;omega
  show (pm b p f (e / 2) ^ 2*b ^ (e%2))%p=_
  rw[QW b p f _ O,df,<- Nat.pow_mod,<- df,<- Nat.pow_mul,<- fN]
  congr 2
  omega
variable{g p N:Nat}
theorem CM(T:1<p)(hN:g ^ N%p=1)(G:0<N)(j:List Nat)(m:∀ q∈j,0<q/\g ^ (N / q)%p≠1)(hd:∀ t,t ∣ N->1<t->∃ q∈j,q ∣ t):∀ k,0<k->k<N->g ^ k%p≠1:=by
 have one:∀ a c,g ^ a%p=1->g ^ (a*c)%p=1:=λa c h=>by
  rw[Nat.pow_mul,Nat.pow_mod,h,Nat.one_pow]
  exact Nat.mod_eq_of_lt T
 intro k
 induction k using Nat.strongRecOn with
 | ind k E =>
  intro R r e
  have J:g ^ (N%k)%p=1:=by
   have:g ^ N%p=(g ^ (k*(N / k))%p*(g ^ (N%k)%p))%p:=by rw[<- df,<- fN,Nat.div_add_mod]
   rw[hN,one k _ e,lQ,iC] at this
   exact this.symm
  by_cases hz:N%k=0
  ·have s:k ∣ N:=Nat.dvd_of_mod_eq_zero hz
   obtain⟨t,l⟩:=s
   have f:1<t:=by
    rcases Nat.lt_or_ge 1 t with h|h
    ·exact h
    ·have:t=0\/t=1:=by omega
     rcases this with rfl|rfl
     ·simp at l;omega
     ·simp at l;omega
   obtain⟨q,i,c,rfl⟩:=hd t ⟨k,by rw[l,h7]⟩ f
   obtain⟨W,b⟩:=m q i
   refine b ?_
   have:N / q=k*c:=by
    rw[l,show k*(q*c)=q*(k*c) by rw[<- i4,h7 k q,i4]]
    exact Nat.mul_div_cancel_left _ W
   rw[this]
   exact one k c e
  ·have F:=kh N R
   exact E (N%k) F (by omega) (by omega) J
theorem orbit(T:1<p)(b:p=N+1)(hN:g ^ N%p=1)(G:0<N)(J:∀ k,0<k->k<N->g ^ k%p≠1)(c:1<=y)(F:y<=N):∃ i,i<N/\g ^ i%p=y:=by
 have back:∀ i,i<=N->(g ^ i%p)*(g ^ (N-i)%p)%p=1:=λi C=>by rw[<- df,<- fN,show i+(N-i)=N by omega,hN]
 refine CL (f:=λi=>g ^ i%p) (λi j C u e=>?_) (λi C=>?_) c F
 ·have a:∀ {i j},i<N->j<N->i<j->g ^ i%p=g ^ j%p->False:=λ{i j} C u hlt e=>by
   have Z:=back i (by omega)
   rw[e,<- df,<- fN,show j+(N-i)=N+(j-i) by omega,fN,df,hN,lQ,iC] at Z
   exact J (j-i) (by omega) (by omega) Z
  rcases dA i j with h|h|h
  ·exact (a C u h e).elim
  ·exact h
  ·exact (a u C h e.symm).elim
 ·have Z:=kh (g ^ i) (show 0<p by omega)
  have O:=back i (by omega)
  refine⟨?_,by show g ^ i%p<=N;omega⟩
  show 1<=g ^ i%p
  rcases aX (g ^ i%p) with z|z
  ·rw[z,Nat.zero_mul,Nat.zero_mod] at O;cases O
  ·exact z
end
theorem CN:∀ q∈[2,3,7,11,31,151,331],∀ d∈aD 332,d ∣ q->d=1\/d=q:=by decide +kernel
theorem QX:∀ q∈[2,3,7,11,31,151,331],0<q/\q<=331:=by decide
theorem CO{q t:Nat}(m:q∈[2,3,7,11,31,151,331])(h:¬ q ∣ t):t.Coprime q:=by
 have O:=Nat.gcd_dvd_right t q
 have C:=Nat.gcd_dvd_left t q
 have D:mT t q<=q:=ou (QX q m).1 O
 have a:=(QX q m).2
 rcases CN q m (mT t q) (mem_range.mpr (by omega)) O with e|e
 ·exact e
 ·rw[e] at C;exact absurd C h
theorem pr_N:48271 ^ 2147483646%2147483647=1:=(QW 48271 2147483647 31 2147483646 (by decide)).symm.trans (by decide +kernel)
theorem pr_q:∀ q∈[2,3,7,11,31,151,331],pm 48271 2147483647 31 (2147483646 / q)≠1:=by decide +kernel
theorem pr_d{t:Nat}(l:t ∣ 2147483646)(h1:1<t):∃ q∈[2,3,7,11,31,151,331],q ∣ t:=by
 apply dh
 intro no
 have c:∀ q∈[2,3,7,11,31,151,331],t.Coprime q:=λq m=>CO m λz=>no ⟨q,m,z⟩
 have e:t.Coprime (2*3*3*7*11*31*151*331):=by
  refine cK (cK (cK (cK (cK (cK (cK (c 2 ?_) (c 3 ?_)) (c 3 ?_)) (c 7 ?_)) (c 11 ?_)) (c 31 ?_)) (c 151 ?_)) (c 331 ?_)<;>simp
 have d:t ∣ mT t (2*3*3*7*11*31*151*331):=Nat.dvd_gcd (Nat.dvd_refl t) l
 rw[show mT t (2*3*3*7*11*31*151*331)=1 from e] at d
 have:=ou (by decide) d
 omega
theorem lcg{x:Nat}(e:1<=x)(G:x<=2147483646)(c:1<=y)(F:y<=2147483646):∃ d,d<2147483646/\x*48271 ^ (d+1)%2147483647=y:=by
 have w:∀ {N p:Nat},N=2147483646->p=2147483647->∃ d,d<N/\x*48271 ^ (d+1)%p=y:=λ{N p} eN ep=>by
  have hN:48271 ^ N%p=1:=by rw[eN,ep];exact pr_N
  have J:=CM (g:=48271) (p:=p) (N:=N) (by omega) hN (by omega) [2,3,7,11,31,151,331] (λq m=>⟨(QX q m).1,?_⟩) λt l Z=>pr_d (by rw[<- eN];exact l) Z
  ·obtain⟨i,C,b⟩:=orbit (by omega) (by omega) hN (by omega) J e (by omega)
   obtain⟨j,u,a⟩:=orbit (by omega) (by omega) hN (by omega) J c (by omega)
   have st:∀ d,x*48271 ^ (d+1)%p=48271 ^ (i+(d+1))%p:=λd=>by
    rw[<- b,df,iC,<- df,<- fN]
   by_cases h:i<j
   ·refine⟨j-i-1,by omega,?_⟩
    rw[st,show i+(j-i-1+1)=j by omega,a]
   ·refine⟨N+j-i-1,by omega,?_⟩
    rw[st,show i+(N+j-i-1+1)=N+j by omega,fN,df,hN,lQ,iC,a]
  ·have:=pr_q q m
   rw[QW 48271 2147483647 31 (2147483646 / q) (ja (Nat.div_le_self _ _) (by decide))] at this
   rw[eN,ep]
   exact this
 exact w rfl rfl
theorem Lo{α:Type}[DecidableEq α]:∀ {L U:List α},L.Nodup->(∀ x∈L,x∈U)->L.length<=U.length
 | [],_,_,_=>bP _
 | x::L,U,nd,h=>by
  obtain⟨Z,O⟩:=nU.mp nd
  have W:=h x (.head _)
  have B:=Lo (L:=L) (U:=U.erase x) O λy j=>(im (λ(e:y=x)=>Z (by rw[<- e];exact j))).mpr (h y (.tail _ j))
  rw[gG W] at B
  have F:0<U.length:=fe W
  rw[cC]
  omega
def lt1(y:Int):Str:=⟨#[97+(y / 64%26).toNat]⟩
def lt2(y:Int):Str:=⟨#[97+(y / 2048%26).toNat]⟩
def nmF(c y:Int):Str :=
 if c%3=2 then (lt1 y++lt2 y)++YI "x" (y / 65536%5).toNat
 else if c%3=1 then gS "so" none (aa (1+c / 3%2))++lt1 y
 else YI (lt1 y) (1+c / 7%2*(y / 2048%3)).toNat
theorem Lp(z:Array Nat):∀ (k:Nat) (a:Array Nat),((aB k z).foldl (·++·) a).toList=a.toList++(aB k z.toList).flatten
 | 0,a=>by simp
 | k+1,a=>by
  rw[cf,gO,Lp z k,cf,eX,lD,bM]
theorem QY(z:aQ)(k:Nat):(YI z k).cps.toList=(aB k z.cps.toList).flatten:=by
 show ((aB k z.cps).foldl (·++·) #[]).toList=_
 rw[Lp]
 rfl
theorem Sk(x y:aQ):(x++y).cps.toList=x.cps.toList++y.cps.toList:=by
 show (x.cps++y.cps).toList=_
 rw[lD]
def kf(c:Int)(s:aQ):Option Nat:=if c%3=1 then s.cps.toList.getLast? else s.cps.toList.head?
variable{y:Int}
theorem Lq(j:0<=y):kf c (nmF c y)=aa (97+(y / 64%26).toNat):=by
 unfold kf nmF
 by_cases Z:c%3=1
 ·rw[if_pos Z,if_neg (by omega),if_pos Z,Sk]
  simp[lt1]
 ·rw[if_neg Z]
  by_cases O:c%3=2
  ·rw[if_pos O,Sk,Sk]
   rfl
  ·rw[if_neg O,if_neg Z,QY]
   have B:0<=c / 7%2*(y / 2048%3):=eM (by omega) (by omega)
   obtain⟨k,R⟩:∃ k,(1+c / 7%2*(y / 2048%3)).toNat=k+1:=⟨(c / 7%2*(y / 2048%3)).toNat,by omega⟩
   rw[R,cf]
   rfl
variable{Ex:List aQ}
theorem CP(c:Int)(h:Ex.length<=25):∃ y:Nat,(1<=y/\y<=2147483646)/\nmF c y∉Ex:=by
 refine dh λg=>?_
 have all:∀ j:Nat,j<26->nmF c ((64*j+1:Nat):Int)∈Ex:=λj u=>dh λz=>g ⟨64*j+1,⟨by omega,by omega⟩,z⟩
 have J:((aD 26).map λj=>nmF c ((64*j+1:Nat):Int)).Nodup:=List.pairwise_map.mpr (List.Pairwise.imp_of_mem (λ{i j} hi u hlt e=>by
  have Z:=Lq (c:=c) (y:=((64*i+1:Nat):Int)) (by omega)
  have O:=Lq (c:=c) (y:=((64*j+1:Nat):Int)) (by omega)
  rw[e,O] at Z
  have Z:=aS Z
  have:=mem_range.mp hi
  have:=mem_range.mp u
  omega) List.pairwise_lt_range)
 have:=Lo J λx W=>by
  obtain⟨j,u,rfl⟩:=mem_map.mp W
  exact all j (mem_range.mp u)
 rw[ah,b9] at this
 omega
def Due(c:Int)(Ex:List aQ)(x:Int)(d:Nat):Prop:=d<2147483646/\nmF c ((x.toNat*48271 ^ (d+1)%2147483647:Nat):Int)∉Ex
theorem Lr(c:Int)(h:Ex.length<=25)(W:1<=x/\x<=2147483646):∃ d,Due c Ex x d:=by
 obtain⟨y,j,g⟩:=CP c h
 obtain⟨d,hd,e⟩:=lcg (x:=x.toNat) (y:=y) (by omega) (by omega) j.1 j.2
 exact⟨d,hd,by rw[e];exact g⟩
theorem CQ(W:1<=x/\x<=2147483646){d:Nat}(h:Due c Ex x d):(d=0->nmF c (x*48271%2147483647)∉Ex)/\∀ k,d=k+1->Due c Ex (x*48271%2147483647) k:=by
 have S:(x*48271%2147483647).toNat=x.toNat*48271%2147483647:=by omega
 refine⟨λe=>?_,λk e=>?_⟩
 ·subst e
  have O:=h.2
  rw[hV,Nat.pow_one] at O
  rw[show x*48271%2147483647=((x.toNat*48271%2147483647:Nat):Int) by omega]
  exact O
 ·subst e
  refine⟨by have:=h.1;omega,?_⟩
  rw[S]
  have O:=h.2
  rw[show x.toNat*48271 ^ (k+1+1)%2147483647=x.toNat*48271%2147483647*48271 ^ (k+1)%2147483647 by
   rw[hZ 48271 (k+1),h7 (48271 ^ (k+1)),<- i4];exact (df (x.toNat*48271) (48271 ^ (k+1)) 2147483647).trans (by rw[df (x.toNat*48271%2147483647) (48271 ^ (k+1)),iC])] at O
  exact O
theorem CS(W:1<=x/\x<=2147483646):1<=x*48271%2147483647/\x*48271%2147483647<=2147483646:=by
 have Z:=er (x*48271) (show (2147483647:Int)≠0 by decide)
 have O:=di (x*48271) (show (0:Int)<2147483647 by decide)
 have B:x*48271%2147483647≠0:=λe=>by
  obtain⟨d,hd⟩:=lcg (x:=x.toNat) (y:=1) (by omega) (by omega) (by decide) (by decide)
  have S:x.toNat*48271%2147483647=0:=by omega
  have:=hd.2
  rw[hZ,h7 (48271 ^ d),<- i4,df,S,Nat.zero_mul] at this
  exact absurd this (by decide)
 omega
variable{x:aQ}
theorem CT(h:∀ k∈x.cps.toList,k<0x110000):i2 x=true:=by
 unfold i2
 rw[<- Array.all_toList,gi]
 exact λk R=>decide_eq_true (h k R)
theorem CU:∀ k∈(gS "so" none (aa (1+c / 3%2))).cps.toList,k<0x110000:=by
 rcases (by omega:c / 3%2=0\/c / 3%2=1) with e|e<;>rw[e]<;>decide +kernel
theorem QZ:∀ k∈(lt1 y).cps.toList,k<0x110000:=λk R=>by
 have:k=97+(y / 64%26).toNat:=by simpa [lt1] using R
 omega
theorem CV:∀ k∈(lt2 y).cps.toList,k<0x110000:=λk R=>by
 have:k=97+(y / 2048%26).toNat:=by simpa [lt2] using R
 omega
theorem Ls{z:aQ}{n:Nat}(h:∀ k∈z.cps.toList,k<0x110000):∀ k∈(YI z n).cps.toList,k<0x110000:=λk R=>by
 rw[QY] at R
 obtain⟨l,D,R⟩:=List.mem_flatten.mp R
 rw[(List.mem_replicate.mp D).2] at R
 exact h k R
theorem Q0{y:aQ}(h:∀ k∈x.cps.toList,k<0x110000)(h':∀ k∈y.cps.toList,k<0x110000):∀ k∈(x++y).cps.toList,k<0x110000:=λk R=>by
 rw[Sk] at R
 exact (nV.mp R).elim (h k) (h' k)
theorem CW(z:aQ)(k:Nat):(YI z k).length=k*z.length:=by
 show (YI z k).cps.size=k*z.cps.size
 rw[<- bb,QY,List.length_flatten,List.map_replicate,List.sum_replicate_nat,bb]
theorem CY(c:Int):(gS "so" none (aa (1+c / 3%2))).length+(lt1 y).length<=1000000:=by
 rcases (by omega:c / 3%2=0\/c / 3%2=1) with e|e<;>rw[e]<;>exact aT (Nat.add_le_add_right (show _<=2 by decide +kernel) _) (show 2+1<=1000000 by decide)
theorem UA(c y:Int):i2 (nmF c y)=true:=by
 refine CT ?_
 unfold nmF
 split
 ·exact Q0 (Q0 QZ CV) (Ls (by decide +kernel))
 ·split
  ·exact Q0 CU QZ
  ·exact Ls QZ
abbrev abc:Str := "abcdefghijklmnopqrstuvwxyz"
theorem Lu(h:0<=k/\k<26):atI abc.cps.toList k=aa (97+k.toNat):=by
 have e:abc.cps.toList=(aD 26).map λj=>97+j:=by decide +kernel
 rw[e]
 obtain⟨n,rfl⟩:∃ n:Nat,k=n:=⟨k.toNat,by omega⟩
 have g:n<26:=by omega
 refine SH ?_
 rw[aW,d8 g]
 rfl
def kwO:List OkS:=[⟨"some",by decide +kernel⟩,⟨"all",by decide +kernel⟩,⟨"not",by decide +kernel⟩,⟨"and",by decide +kernel⟩,⟨"or",by decide +kernel⟩,⟨"is",by decide +kernel⟩,⟨"like",by decide +kernel⟩]
def exS(ns:List OkS):List Str:=(ns++kwO).map bZ
theorem Lv(ns:List OkS):(exS ns).length=ns.length+7:=by unfold exS;rw[ah,ay];rfl
theorem CZ{z:OkS}:z.1∈exS ns↔z∈ns++kwO:=by
 unfold exS
 constructor
 ·intro h
  obtain⟨y,j,e⟩:=mem_map.mp h
  rw[<- gm e];exact j
 ·exact λh=>mem_map.mpr ⟨z,h,rfl⟩
abbrev oN(ns:List OkS):AV:=.own (ns.map λz=>.d (dS z))
def C0(cs:List AV):Prop:=∃ c:Int,cs=[.d (.int c)]/\0<=c
def C1(_:List AV)(r:AV):Prop:=∃ ns:List OkS,ns.length=4/\ns.Nodup/\r=oN ns
theorem Vv(ns:List OkS):(oN ns).data=.list (ns.map dS):=by rw[AV.data,Z4]
theorem C2(T:Txt K mg):'$' (CXE P w) 1 "_law_names" ["_law_cell_here"] [] (spR K C0 C1 NP):=by
 refine Xk T.x_law_names Xz (λcs ⟨_,e,_⟩=>by rw[e];rfl) (λf X A g s H E J=>?_) [] (by simp)
 refine⟨_,(Zd (Zl (i:=1) Xz.nd rfl (aC rfl) Yp)
   (Zd (Zl (i:=2) Xz.nd rfl (aC rfl) (Zj (ZP (K:=K) rfl) (Zj ZZ (pv 0) Zc) Zc))
   (Zd (Zl (i:=3) Xz.nd rfl (aC rfl) (Xd Zb))
   (Zd (VB bg (ZB Xo (Zq (ZX (K:=K) rfl) rfl T.n_len aN (Za (pv 3) Zb)) Zc (nomark _))
    (Zd (Zl (i:=2) Xz.nd rfl (aC rfl) (Zj ZZ (Zj Yv (pv 2) Zc) Zc))
    (Zd (Zl (i:=4) Xz.nd rfl (aC rfl) (Zo '%' (pv 1) (Zj ZZ (Zj YS (pv 2) Zc) Zc) (λ_ _=>rfl)))
    (Zd (Zl (i:=5) Xz.nd rfl (aC rfl) (Zj NV (pv 4) (Zj (ZP (K:=K) rfl) Zc (Zj Yv (Zj ZZ (Zj YS (pv 0) Zc) Zc) (Zj ZZ (Zj YS (pv 2) Zc) Zc)))))
    (Zd (Xx (ZB (YO (K:=K) rfl J.units) (Zj ZZ (pv 0) Zc) Zc (nomark _))
     (Zh (Zl (i:=5) Xz.nd rfl (aC rfl) (Zj (ZP (K:=K) rfl) (KG (Fd (K:=K) rfl) Yp KE (KF (Zj (ZP (K:=K) rfl) Zc (Zj ZZ (Zj YS (pv 0) Zc) Zc)))) (pv 4))))
     ZO)
    (Zd (Xx (ZB (YO (K:=K) rfl J.units) (Zj ZZ (pv 0) Zc) Zc (nomark _))
     (Zd (Zl (i:=5) Xz.nd rfl (aC rfl) (Zj (ZP (K:=K) rfl) (pv 4) (Zo '%' (pv 1) (Zj ZZ (Zj YS (pv 2) Zc) Zc) (λ_ _=>rfl))))
     (Zh (Zl (i:=5) Xz.nd rfl (aC rfl) (Zj (ZP (K:=K) rfl) (pv 5) (Zj NV Yp (Zj ZZ (Zj YS (pv 2) Zc) Zc))))))
     ZO)
    (Zh (Xx (ZB (VX (K:=K) rfl J.units) (pv 5) (Zj (ZP (K:=K) rfl) (pv 3) (Xd (Za Yp (Za Yp (Za Yp (Za Yp (Za Yp (Za Yp (Za Yp Zb))))))))) (by with_unfolding_all rfl))
     (Zh (YM (Xf (K:=K) rfl bB cD cT Wt (pv 3) (Za (pv 5) Zb))))
     ZO))))))))
   (Zh (Zr (pv 3))))))),?_⟩
 rintro cs ⟨c,rfl,hc⟩
 show Sv K _ _ _ [aa (.d (.int c)),none,none,none,none,none] _
 w_on
 have j:1<=c%2147483646+1/\c%2147483646+1<=2147483646:=by omega
 obtain⟨D,l⟩:=Lr c (Ex:=exS []) (by rw[Lv];decide) j
 refine V0 (λm Y=>∃ (x:Int) (ns:List OkS) (d:Nat) (B p:Option AV),Y=[aa (.d (.int c)),aa (.d (.str abc)),aa (.d (.int x)),aa (oN ns),B,p]/\(1<=x/\x<=2147483646)/\ns.length<=4/\ns.Nodup/\Due c (exS ns) x d/\m=(4-ns.length)*2147483646+d) (4*2147483646+D) ⟨_,[],D,none,none,rfl,j,by simp,by simp,l,rfl⟩ ?_
 rintro m Y ⟨x,ns,d,B,p,rfl,hx,hl,nd,hD,rfl⟩
 w_on
 refine Xh (ds:=ns.map dS) (Vv ns) ?_
 rw[ah]
 w_on
 refine ite2 (λh=>?_) λh=>?_
 case refine_2 =>
  have h:¬ (ns.length:Int)<4:=λz=>h (decide_eq_true z)
  w_on
  exact⟨oN ns,Xi rfl,ns,by omega,nd,rfl⟩
 have h:(ns.length:Int)<4:=of_decide_eq_true h
 have r:=CS hx
 obtain⟨C,L⟩:=CQ hx hD
 w_on
 generalize x*48271%2147483647=y at r C L
 refine RS (c:=97+(y / 64%26).toNat) rfl (by decide +kernel) (Lu (by omega)) ?_
 show ∃ Q,Sto _ (.av (.d (.str (lt1 y)))) Q/\_
 w_on
 have F:0<=c / 7%2*(y / 2048%3):=eM (by omega) (by omega)
 have q:c / 7%2*(y / 2048%3)<=1*2:=Int.mul_le_mul (by omega) (by omega) (by omega) (by omega)
 refine NW (z:=lt1 y) rfl rfl ⟨by omega,by omega⟩ ⟨by show 0<1;decide,by show 1<=1000;decide⟩ ?_
 w_on
 refine Xy (λY=>Y=[aa (.d (.int c)),aa (.d (.str abc)),aa (.d (.int y)),aa (oN ns),aa (.d (.str (lt1 y))),aa (.d (.str (if c%3=1 then gS "so" none (aa (1+c / 3%2))++lt1 y else YI (lt1 y) (1+c / 7%2*(y / 2048%3)).toNat)))]) ?_ ?_
 case refine_2 =>
  w_on
  refine ite2 (λU=>?_) λU=>?_
  ·have U:c%3=1:=of_decide_eq_true U
   rw[if_pos U]
   w_on
   refine sl_S ?_
   w_on
   refine⟨"so",rfl,NR.av,by decide +kernel,?_⟩
   w_on
   refine RU rfl rfl (CY c) ?_
   w_on
  ·have U:¬ c%3=1:=λz=>U (decide_eq_true z)
   rw[if_neg U]
   w_on
 rintro Y rfl
 w_on
 refine Xy (λY=>Y=[aa (.d (.int c)),aa (.d (.str abc)),aa (.d (.int y)),aa (oN ns),aa (.d (.str (lt1 y))),aa (.d (.str (nmF c y)))]) ?_ ?_
 case refine_2 =>
  w_on
  refine ite2 (λU=>?_) λU=>?_
  ·have U:c%3=2:=of_decide_eq_true U
   have en:nmF c y=(lt1 y++lt2 y)++YI "x" (y / 65536%5).toNat:=if_pos U
   rw[en]
   w_on
   refine RS (c:=97+(y / 2048%26).toNat) rfl (by decide +kernel) (Lu (by omega)) ?_
   refine RU rfl rfl (by show 1+1<=1000000;decide) ?_
   w_on
   refine NW (z := "x") rfl rfl ⟨by omega,by omega⟩ (by decide +kernel) ?_
   refine RU rfl rfl (by rw[CW];show 2+(y / 65536%5).toNat*1<=1000000;omega) ?_
   w_on
   rfl
  ·have U:¬ c%3=2:=λz=>U (decide_eq_true z)
   have en:nmF c y=if c%3=1 then gS "so" none (aa (1+c / 3%2))++lt1 y else YI (lt1 y) (1+c / 7%2*(y / 2048%3)).toNat:=if_neg U
   rw[en]
   w_on
 rintro Y rfl
 walk_at "hd"
 refine Xy (λY=>∃ (d':Nat) (u:List OkS),Y=[aa (.d (.int c)),aa (.d (.str abc)),aa (.d (.int y)),aa (oN u),aa (.d (.str (lt1 y))),aa (.d (.str (nmF c y)))]/\u.length<=4/\u.Nodup/\Due c (exS u) y d'/\(4-u.length)*2147483646+d' < (4-ns.length)*2147483646+d) ?_ ?_
 case refine_1 =>
  rintro Y ⟨d',u,rfl,hl',nd',hD',hm⟩
  exact⟨_,hm,y,u,d',_,_,rfl,r,hl',nd',hD',rfl⟩
 w_on
 refine WA ?_
 w_on
 refine⟨[.d (.str "some"),.d (.str "all"),.d (.str "not"),.d (.str "and"),.d (.str "or"),.d (.str "is"),.d (.str "like")],.cons rfl (.cons rfl (.cons rfl (.cons rfl (.cons rfl (.cons rfl (.cons rfl .nil)))))),by show 7<=1000;decide,?_⟩
 refine V2 (ds:=ns.map dS) (es:=kwO.map dS) (Vv ns) rfl (Kp.flat (X0 (λ_=>rfl) _)) (Kp.flat (X0 (λ_=>rfl) _)) (by rw[ah];show _+7<=_;omega) ?_
 refine HW (f:=dS) (c:=⟨nmF c y,UA c y⟩) (xs:=ns++kwO) Enc.str rfl (.inl (by rw[<- bH,bu];exact Vv (ns++kwO))) ?_
 refine⟨_,rfl,?_⟩
 refine ite2 (λU=>?_) λU=>?_
 ·have U:(⟨nmF c y,UA c y⟩:OkS)∉ns++kwO:=by simpa using U
  obtain⟨d',R⟩:=Lr c (Ex:=exS (ns++[⟨nmF c y,UA c y⟩])) (by rw[Lv,ay];show _+1+7<=25;omega) r
  w_on
  refine Vf (by rw[ah];omega) ?_
  w_on
  refine⟨d',ns++[⟨nmF c y,UA c y⟩],by rw[oN,bH];rfl,by rw[ay];show _+1<=4;omega,?_,R,?_⟩
  ·rw[iE]
   exact⟨nd,by simp,λa G b M e=>U (a9 _ (by rw[f_] at M;rw[<- M,<- e];exact G))⟩
  ·have:=R.1
   rw[ay]
   show (4-(ns.length+1))*2147483646+d' < _
   omega
 ·have U:(⟨nmF c y,UA c y⟩:OkS)∈ns++kwO:=dh λz=>U (by simpa using z)
  have v:=CZ.mpr U
  w_on
  cases d with
  | zero=>exact absurd v (C rfl)
  | succ k=>exact⟨k,ns,rfl,hl,nd,L k rfl,by omega⟩
def WdS(b:Int)(l r:List OkS)(n:Nat):Prop:=(2<=b/\b<=5)/\∃ ns,OnceN (l++r) ns/\¬ Nrw b ns/\n=ns.length
def Lw(cs:List AV):Prop:=∃ (b:Int) (l r:List OkS) (q:Bool),cs=[.d (.int b),.d (.list (l.map dS)),.d (.list (r.map dS)),.d (.str (wdS q))]/\(l.length<=3/\r.length<=3)/\(Bad b\/∃ n,WdS b l r n)
def Lx(cs:List AV)(c:AV):Prop:=∃ (b:Int) (l r:List OkS) (q:Bool),cs=[.d (.int b),.d (.list (l.map dS)),.d (.list (r.map dS)),.d (.str (wdS q))]/\((Bad b/\c=.d (.tuple [.str "base",.int 0]))\/∃ n:Nat,WdS b l r n/\c=.d (.tuple [.str "wide",.int n]))
theorem UC{m:Int}{Z r':List OkS}{q q':Bool}(e:[AV.d (.int b),.d (.list (l.map dS)),.d (.list (r.map dS)),.d (.str (wdS q))]=[AV.d (.int m),.d (.list (Z.map dS)),.d (.list (r'.map dS)),.d (.str (wdS q'))]):b=m/\l=Z/\r=r'/\q=q':=by
 simp only[bh,AV.d.injEq,c3,and_true] at e
 refine⟨e.1,Vr e.2.1,Vr e.2.2.1,?_⟩
 have h:=jd e.2.2.2
 cases q<;>cases q'
 ·rfl
 ·exact absurd h (by decide +kernel)
 ·exact absurd h (by decide +kernel)
 ·rfl
theorem C3(T:Txt K mg)(Z:Cs K mg C_WheelError C_NoBase C_TooGreat C_TooWide C_NoName)(B:base.BuiltinsAt mg au)(j:∀ p∈ts0,p∈Tabs.ts):'$' (CXE P w) 9 "_law_refused" ["_law_base", "_law_left", "_law_right", "_law_word"] [] (spR K Lw Lx NP):=by
 have c_sums:'$' _ _ _ _ _ _:=Lj T Z B j
 refine Xk T.x_law_refused Vk (λcs ⟨_,_,_,_,e,_⟩=>by rw[e];rfl) (λf X A g s H E J=>?_) [] (by simp)
 refine⟨_,(Zd (Zl (i:=4) Vk.nd rfl (aC rfl) LX)
   (Zd (Fx (i:=5) rfl rfl Vk.nd rfl rfl rfl Z.c_NoBase rfl Z.c_TooWide
    (λ_ _=>(Zh (YM (Ro (c_sums.mono (by decide)) J rfl (Za (pv 0) (Za (pv 1) (Za (pv 2) (Za (pv 3) Zb))))))))
    (λ_ _=>(Zh (Zl (i:=4) Vk.nd rfl (aC rfl) (YT (Za Yp (Za (ZR Pc rfl T.n_int gB (Za (Zq (Tp (K:=K) rfl) rfl T.n_isinstance aO (Za (pv 5) (Za (YT (Za (Vx (v:=.ref C_TooWide) rfl Z.c_TooWide rfl) (Za (Vx (v:=.ref C_TooGreat) rfl Z.c_TooGreat rfl) Zb))) Zb))) Zb)) Zb))))))
    (λ_ _=>(Zd (Zl (i:=4) Vk.nd rfl (aC rfl) (YT (Za Yp (Za (HS (K:=K) rfl (pv 5)) Zb))))
    (Zh (Xx (PW.pt (Yb (Yr (Yq (Zq (Tp (K:=K) rfl) rfl T.n_isinstance aO (Za (pv 5) (Za (Vx (v:=.ref C_WheelError) rfl Z.c_WheelError rfl) Zb))))) (Yb (Yr (Yq (Zq (Tp (K:=K) rfl) rfl T.n_isinstance aO (Za (pv 5) (Za (YX (v:=.ty "ValueError") rfl T.n_ValueError L2.HB rfl) Zb))))) (YL (Yq (Zq (Tp (K:=K) rfl) rfl T.n_isinstance aO (Za (pv 5) (Za (Vx (v:=.ref C_TooGreat) rfl Z.c_TooGreat rfl) Zb))))))))
     (Zh (Zl (i:=4) Vk.nd rfl (aC rfl) (YT (Za Yp (Za (VD VG Zc) Zb)))))
     ZO)))))
   (Zh (Zr (pv 4))))),?_⟩
 rintro cs ⟨b,l,r,q,rfl,hl,hx⟩
 show Sv K _ _ _ [aa (.d (.int b)),aa (.d (.list (l.map dS))),aa (.d (.list (r.map dS))),aa (.d (.str (wdS q))),none,none] _
 w_on
 refine Fy (X':=λe Y=>((Bad b/\e=⟨C_NoBase,[]⟩)\/∃ n:Nat,WdS b l r n/\e=xW C_TooWide n)/\Y=[aa (.d (.int b)),aa (.d (.list (l.map dS))),aa (.d (.list (r.map dS))),aa (.d (.str (wdS q))),aa (.d .none),none]) (λa=>?_) ?_
 ·w_on
  refine⟨[.d (.int b),.d (.list (l.map dS)),.d (.list (r.map dS)),.d (.str (wdS q))],.cons (.d NR.av rfl) (.cons (.d NR.av rfl) (.cons (.d NR.av rfl) (.cons (.d NR.av rfl) .nil))),⟨b,l,r,q,rfl,hl⟩,λc ⟨b',l',r',q',ns,N,e,hb,o,hw,_⟩=>?_,λe ⟨b',l',r',q',eb,he⟩=>?_⟩
  ·obtain⟨rfl,rfl,rfl,rfl⟩:=UC e
   rcases hx with z|⟨n,_,ns',o',hn,_⟩
   ·unfold Bad at z;omega
   ·rw[o'.one o] at hn
    exact absurd hw hn
  ·obtain⟨rfl,rfl,rfl,rfl⟩:=UC eb
   refine⟨?_,rfl⟩
   rcases he with z|⟨z,ns,o,hn,ee⟩
   ·exact .inl z
   ·exact .inr ⟨ns.length,⟨z,ns,o,hn,rfl⟩,ee⟩
 rintro e ρ' ⟨he,rfl⟩
 rcases he with⟨h,rfl⟩|⟨n,h,rfl⟩
 ·refine⟨rfl,by simp,.inl ⟨Z.m_NoBase_NoBase,?_⟩⟩
  show Sv K _ _ _ [aa (.d (.int b)),aa (.d (.list (l.map dS))),aa (.d (.list (r.map dS))),aa (.d (.str (wdS q))),aa (.d .none),aa (.d (dX ⟨C_NoBase,[]⟩))] _
  w_on
  refine Xu ?_
  walk_at "v"
  walk_at "v"
  walk_at "v"
  walk_at "v"
  walk_at "v"
  refine HE (i:=5) (e:=⟨C_NoBase,[]⟩) (cs:=[.ref C_TooWide,.ref C_TooGreat]) (cvs:=[.ref C_TooWide,.ref C_TooGreat]) (by rfl) (.cons (.cons .nil)) (.cons rfl (.cons rfl .nil)) (by simp) Z.k_NoBase Z.a_NoBase ?_
  w_on
  refine Nm ?_
  w_on
  refine⟨[.d (.str "base"),.d (.int 0)],.cons rfl (.cons rfl .nil),by show 2<=1000;decide,?_⟩
  w_on
  w_on
  exact⟨_,ZL rfl,b,l,r,q,rfl,.inl ⟨h,rfl⟩⟩
 ·refine⟨rfl,by simp,.inr ⟨Z.m_TooWide_NoBase,Z.m_TooWide_TooWide,?_⟩⟩
  show Sv K _ _ _ [aa (.d (.int b)),aa (.d (.list (l.map dS))),aa (.d (.list (r.map dS))),aa (.d (.str (wdS q))),aa (.d .none),aa (.d (dX (xW C_TooWide n)))] _
  w_on
  refine Xu ?_
  w_on
  refine HV ?_
  w_on
  refine⟨xW C_TooWide n,.int n,rfl,Z.ef1,rfl,?_⟩
  w_on
  refine⟨[.d (.str "wide"),.d (.int n)],.cons rfl (.cons rfl .nil),by show 2<=1000;decide,?_⟩
  w_on
  refine Xy (λY=>Y=[aa (.d (.int b)),aa (.d (.list (l.map dS))),aa (.d (.list (r.map dS))),aa (.d (.str (wdS q))),aa (.d (.tuple [.str "wide",.int n])),aa (.d (dX (xW C_TooWide n)))]) ?_ ?_
  case refine_2 =>
   w_on
   refine P7 ?_
   w_on
   refine Rr (e:=xW C_TooWide n) Z.k_TooWide rfl Z.i_we ?_
   w_on
   refine Rr (e:=xW C_TooWide n) Z.k_TooWide rfl Z.i_val ?_
   w_on
   refine P7 ?_
   w_on
   refine Rr (e:=xW C_TooWide n) Z.k_TooWide rfl Z.i_tg ?_
   w_on
   rfl
  rintro Y rfl
  w_on
  exact⟨_,ZL rfl,b,l,r,q,rfl,.inr ⟨n,h,rfl⟩⟩
def Ly(cs:List AV):Prop:=∃ (c:Int) (nm:List OkS),cs=[.d (.int c),.d (.list (nm.map dS))]/\0<=c/\nm.length=4
def Lz(cs:List AV)(d:AV):Prop:=∃ (c:Int) (nm xs:List OkS),cs=[.d (.int c),.d (.list (nm.map dS))]/\(1<=xs.length/\xs.length<=3)/\(∀ x∈xs,x∈nm)/\d=oN xs
theorem C4(T:Txt K mg):'$' (CXE P w) 1 "_law_side" ["_law_cell_here", "_law_names_here"] [] (spR K Ly Lz NP):=by
 refine Xk T.x_law_side Qy (λcs ⟨_,_,e,_⟩=>by rw[e];rfl) (λf X A g s H E J=>?_) [] (by simp)
 refine⟨_,(Zd (Zl (i:=2) Qy.nd rfl (aC rfl) (Xd Zb))
   (Zd (YF bg rfl (XX rfl T.n_range (Za (Zj (ZP (K:=K) rfl) Zc (Zj ZZ (pv 0) Zc)) Zb)) (Zv (i:=3) Qy.nd rfl (aC rfl))
    (Zh (YM (Xf (K:=K) rfl bB cD cT Wt (pv 2) (Za (Zo '%' (pv 1) (Zj ZZ (Zj YS (pv 0) (Zj Yv Zc (Zj (ZP (K:=K) rfl) (Zj Yv (pv 3) (pv 3)) Zc))) Zc) (λ_ _=>rfl)) Zb)))))
   (Zh (Zr (pv 2))))),?_⟩
 rintro cs ⟨c,nm,rfl,hc,h4⟩
 show Sv K _ _ _ [aa (.d (.int c)),aa (.d (.list (nm.map dS))),none,none] _
 w_on
 refine V3 ?_
 w_on
 refine⟨1+c%3,rfl,⟨by omega,by omega⟩,λi Y=>∃ (xs:List OkS) (o:Option AV),Y=[aa (.d (.int c)),aa (.d (.list (nm.map dS))),aa (oN xs),o]/\xs.length=i/\∀ x∈xs,x∈nm,⟨[],none,rfl,rfl,by simp⟩,?_,?_⟩
 ·rintro i Y C ⟨xs,o,rfl,x1,x2⟩
  have C:i<3:=by omega
  have a:0<=(i:Int)*i/\(i:Int)*i<=4:=by
   rcases (by omega:i=0\/i=1\/i=2) with e|e|e<;>subst e<;>decide
  w_on
  have k0:=er (c / (3*((i:Int)*i+1))) (show (4:Int)≠0 by decide)
  have k1:=di (c / (3*((i:Int)*i+1))) (show (0:Int)<4 by decide)
  generalize c / (3*((i:Int)*i+1))%4=k at k0 k1
  have R:k.toNat<nm.length:=by omega
  refine YV rfl (W6 k0 (by rw[aW,ai R];rfl)) Zu.d ?_
  refine Vf (by rw[ah];omega) ?_
  refine⟨xs++[nm[k.toNat]],_,by rw[oN,bH];rfl,by rw[ay,x1];rfl,λx W=>?_⟩
  rcases nV.mp W with z|z
  ·exact x2 x z
  ·rw[f_.mp z];exact aV R
 ·rintro Y ⟨xs,o,rfl,x1,x2⟩
  w_on
  exact⟨_,Xi rfl,c,nm,xs,rfl,⟨by omega,by omega⟩,x2,rfl⟩
def KnO(kvs:List (aQ×aj))(xs:List OkS)(M:Int):Prop:=∀ c∈xs,∃ p:Int,ZA kvs c.1=aa (.int p)/\0<=p/\p<M
variable{M:Int}
theorem C5:∀ {zs:List Int},(∀ z∈zs,0<=z/\z<M)->0<=M->zs.length<=3->0<=zs.sum/\zs.sum<=3*M
 | [],_,h,_=>by simp;omega
 | [a],h,_,_=>by have:=h a (.head _);simp;omega
 | [a,b],h,_,_=>by have:=h a (.head _);have:=h b (.tail _ (.head _));simp;omega
 | [a,b,c],h,_,_=>by have:=h a (.head _);have:=h b (.tail _ (.head _));have:=h c (.tail _ (.tail _ (.head _)));simp;omega
def C6(cs:List AV):Prop:=∃ (kvs:List (aQ×aj)) (l r:List OkS) (c:Int),cs=[.d (.dict (Zk bc kvs)),.d (.list (l.map dS)),.d (.list (r.map dS)),.d (.int c)]/\((1<=l.length/\l.length<=3)/\r.length<=3/\kvs.length<=10)/\noLsts (kvs.map be)=ak/\KnO kvs (l++r) (10 ^ 41)/\0<=c
def LA(cs:List AV)(d:AV):Prop:=∃ (kvs:List (aQ×aj)) (l r:List OkS) (c:Int) (kvs':List (aQ×aj)),cs=[.d (.dict (Zk bc kvs)),.d (.list (l.map dS)),.d (.list (r.map dS)),.d (.int c)]/\KnO kvs' (l++r) (10 ^ 43)/\d=.d (.dict (Zk bc kvs'))
theorem LB{X:Exc->Sl->Prop}{te ti:TE}[DecidableEq α]{f:α->aj}(F:Enc f m)(h:Ev K E X te ρ λa=>∃ xs:List α,a.data=.list (xs.map f)/\NR a/\xs.length<=1000000/\Ev K E X ti ρ λb=>∃ c,b.data=f c/\NR b/\∀ n:Nat,n<=xs.length->Q (.av (.d (.int n))))(hm:m<=32:=by decide):Ev K E X (tBM K "list" (RM K) te (YG ti Y0)) ρ Q :=
 RN F (X4 h λa ⟨xs,h1,h2,h3,h4⟩=>⟨xs,h1,h2,h3,X4 h4 λb ⟨c,g1,g2,g3⟩=>⟨c,g1,g2,g3 _ List.count_le_length⟩⟩) hm
theorem C7(T:Txt K mg):'$' (CXE P w) 1 "_law_planted" ["_law_known", "_law_left", "_law_right", "_law_cell_here"] [] (spR K C6 LA NP):=by
 refine Xk T.x_law_planted WO (λcs ⟨_,_,_,_,e,_⟩=>by rw[e];rfl) (λf X A g s H E J=>?_) [] (by simp)
 refine⟨_,(Zd (Zl (i:=4) WO.nd rfl (de rfl) (Zo '%' (pv 1) Zc (λ_ _=>rfl)))
   (Zd (Zl (i:=5) WO.nd rfl (aC rfl) (Zj VF (Xf (K:=K) rfl bB dU eU (TM (K:=K) rfl J.units) (pv 1) (Za (pv 4) Zb)) (Xf (K:=K) rfl bB dU eU (TM (K:=K) rfl J.units) (pv 2) (Za (pv 4) Zb))))
   (Zd (Zl (i:=6) WO.nd rfl (aC rfl) (Zj VF (Zq (Uh (K:=K) rfl rfl) rfl T.n_sum dL (Za (Yc (N:=["_law_one", "_law_known", "_law_name"]) (cap:=[none,aa 0,aa 4]) rfl rfl rfl (by kernel_rfl) (ZU (K:=K) rfl (pv 2)) (λ_ _ _ _=>(Zv (i:=0) (show (["_law_one", "_law_known", "_law_name"]:List aQ).Nodup from by decide +kernel) rfl (aC rfl))) (λ_ _ _ _=>(PH (ZB (Xg (K:=K) rfl J.units) (pv 0) (pv 2) (nomark _)))) (λ_ _ _ _=>(Zo '%' (pv 1) (pv 0) (λ_ _=>rfl)))) Zb)) (Zq (Uh (K:=K) rfl rfl) rfl T.n_sum dL (Za (Yc (N:=["_law_one", "_law_known", "_law_name"]) (cap:=[none,aa 0,aa 4]) rfl rfl rfl (by kernel_rfl) (ZU (K:=K) rfl (pv 1)) (λ_ _ _ _=>(Zv (i:=0) (show (["_law_one", "_law_known", "_law_name"]:List aQ).Nodup from by decide +kernel) rfl (aC rfl))) (λ_ _ _ _=>(PH (ZB (Xg (K:=K) rfl J.units) (pv 0) (pv 2) (nomark _)))) (λ_ _ _ _=>(Zo '%' (pv 1) (pv 0) (λ_ _=>rfl)))) Zb))))
   (Zd (Xx (ZB Xo (pv 5) Zc (nomark _))
    (Zd (Zl (i:=5) WO.nd rfl (aC rfl) (VD VG (pv 5)))
    (Zh (Zl (i:=6) WO.nd rfl (aC rfl) (VD VG (pv 6)))))
    ZO)
   (Zd (Yf (PW.pt (Yb (ZB (YO (K:=K) rfl J.units) (pv 5) Zc (nomark _)) (YL (ZB Xo (pv 6) Zc (nomark _)))))
    (Zh (Zr (pv 0)))
    ZO)
   (Zd (Zl (i:=7) WO.nd rfl (aC rfl) (ZR Ff rfl T.n_dict PyProof.Rows.boot_dict (Za (pv 0) Zb)))
   (Zd (WY (Zj (ZP (K:=K) rfl) (Zj YS (pv 6) (pv 5)) (Zj ZZ (Zj YS (pv 3) Zc) Zc)) (VA (pv 7) (pv 4) (VU J.units)))
   (Zh (Zr (pv 7)))))))))),?_⟩
 rintro cs ⟨kvs,l,r,c,rfl,⟨h1,O,h3⟩,hfl,hk,hc⟩
 obtain⟨a,Z,rfl⟩:∃ a Z,l=a::Z:=by
  cases l with
  | nil=>simp at h1
  | cons a Z=>exact⟨a,Z,rfl⟩
 show Sv K _ _ _ [aa (.d (.dict (Zk bc kvs))),aa (.d (.list ((a::Z).map dS))),aa (.d (.list (r.map dS))),aa (.d (.int c)),none,none,none,none] _
 have fin:∀ {d:AV},(∃ kvs',KnO kvs' (a::Z++r) (10 ^ 43)/\d=.d (.dict (Zk bc kvs')))->LA [.d (.dict (Zk bc kvs)),.d (.list ((a::Z).map dS)),.d (.list (r.map dS)),.d (.int c)] d:=λ⟨kvs',h,e⟩=>⟨kvs,a::Z,r,c,kvs',rfl,h,e⟩
 w_on
 refine YV rfl (show atI (j6 dS (a::Z)) 0=aa (dS a) from W6 (fP _) rfl) Zu.d ?_
 w_on
 refine LB (α:=OkS) Enc.str ?_
 w_on
 refine⟨a::Z,rfl,NR.av,by omega,?_⟩
 w_on
 refine⟨a,rfl,NR.av,λk1 b=>?_⟩
 refine LB (α:=OkS) Enc.str ?_
 w_on
 refine⟨r,rfl,NR.av,by omega,?_⟩
 w_on
 refine⟨a,rfl,NR.av,λk2 G=>?_⟩
 w_on
 have U:-3<=(k1:Int)-(k2:Int)/\(k1:Int)-(k2:Int)<=3:=by omega
 generalize (k1:Int)-(k2:Int)=L at U
 have cp:∀ (j:Nat) (xs:List OkS) {Q:TV->Prop},([aa (.d (.dict (Zk bc kvs))),aa (.d (.list ((a::Z).map dS))),aa (.d (.list (r.map dS))),aa (.d (.int c)),aa (.d (dS a)),aa (.d (.int L)),none,none]:Sl)[j]?=aa (aa (.d (.list (xs.map dS))))->xs.length<=3->(∀ x∈xs,x∈a::Z++r)->(∀ zs:List Int,0<=zs.sum/\zs.sum<=3*10 ^ 41->Q (.av (oI zs)))->Ev K (toF E) NE (Xe [none,aa 0,aa 4] (WC K (ZN j)) (Xn 0) (VH (tOp (rOr rNe (Ww K)) (ZN 0) (ZN 2))) (tOp (rOr (VJ K) (rOr (VM K) (rOr UN U7))) (ZN 1) (ZN 0))) [aa (.d (.dict (Zk bc kvs))),aa (.d (.list ((a::Z).map dS))),aa (.d (.list (r.map dS))),aa (.d (.int c)),aa (.d (dS a)),aa (.d (.int L)),none,none] Q:=λj xs Q u W S q=>by
  refine OY (α:=OkS) ?_
  refine S7 u ?_
  refine⟨xs,dS,λi ys=>∃ zs:List Int,ys=zs.map (λk=>.d (.int k))/\zs.length<=i/\∀ z∈zs,0<=z/\z<10 ^ 41,.inl rfl,NR.av,by omega,⟨[],rfl,aq _,by simp⟩,λi ys hi B=>?_,λys B=>?_⟩
  ·obtain⟨zs,rfl,z1,M⟩:=B
   obtain⟨p,I,g2,R⟩:=hk _ (S _ (aV hi))
   show Gv K _ _ [none,aa (.d (.dict (Zk bc kvs))),aa (.d (dS a))] _
   w_on
   refine⟨Z8,?_⟩
   w_on
   refine Vd (f:=dS) (c:=xs[i]) (d:=a) Enc.str rfl rfl ?_
   refine⟨decide (xs[i]≠a),by simp,?_⟩
   refine ite2 (λ_=>?_) λ_=>?_
   ·w_on
    refine XO KEnc.str (c:=xs[i].1) (kvs:=kvs) (z:=.int p) rfl rfl I (Zu.flat rfl) ?_
    refine⟨_,rfl,zs++[p],by rw[bH];rfl,by rw[ay];show _+1<=_;omega,λz hz=>?_⟩
    rcases nV.mp hz with y|y
    ·exact M z y
    ·rw[f_.mp y];exact⟨g2,R⟩
   ·exact⟨zs,rfl,by omega,M⟩
  ·obtain⟨zs,rfl,z1,M⟩:=B
   exact⟨_,Got.own (YW zs),q zs (C5 M (by decide) (by omega))⟩
 refine cp 2 r rfl (by omega) (λx W=>bi _ W) λz1 C=>?_
 w_on
 refine Ui (ns:=z1) (Yz z1) ?_
 w_on
 refine cp 1 (a::Z) rfl (by omega) (λx W=>a9 _ W) λM s2=>?_
 w_on
 refine Ui (ns:=M) (Yz M) ?_
 w_on
 generalize z1.sum=D at C
 generalize M.sum=u2 at s2
 refine Xy (λY=>∃ v o:Int,(0<=v/\v<=3)/\o<=3*10 ^ 41/\Y=[aa (.d (.dict (Zk bc kvs))),aa (.d (.list ((a::Z).map dS))),aa (.d (.list (r.map dS))),aa (.d (.int c)),aa (.d (dS a)),aa (.d (.int v)),aa (.d (.int o)),none]) ?_ ?_
 case refine_2 =>
  w_on
  refine ite2 (λh=>?_) λh=>?_
  ·have h:L<0:=of_decide_eq_true h
   w_on
   exact⟨_,_,⟨by omega,by omega⟩,by omega,rfl⟩
  ·have h:¬ L<0:=λz=>h (decide_eq_true z)
   w_on
   exact⟨_,_,⟨by omega,by omega⟩,by omega,rfl⟩
 rintro Y ⟨v,o,hv,ho,rfl⟩
 w_on
 have same:KnO kvs (a::Z++r) (10 ^ 43):=λx W=>let ⟨p,I,g2,R⟩:=hk x W;⟨p,I,g2,by omega⟩
 refine ite2 (λh=>?_) λh=>?_
 ·w_on
  exact⟨_,.inl rfl,fin ⟨kvs,same,rfl⟩⟩
 have h:¬ v=0:=λz=>h (decide_eq_true z)
 w_on
 refine ite2 (λO=>?_) λO=>?_
 ·w_on
  exact⟨_,.inl rfl,fin ⟨kvs,same,rfl⟩⟩
 have O:¬ o<0:=λz=>O (decide_eq_true z)
 have m:0<=o / v/\o / v<=3*10 ^ 41:=by
  rcases (by omega:v=1\/v=2\/v=3) with e|e|e<;>rw[e]<;>omega
 have F:kvs≠[]:=λe=>by
  obtain⟨p,I,_⟩:=hk a (.head _)
  rw[e] at I
  cases I
 w_on
 refine Fh rfl F hfl ?_
 w_on
 refine Gf KEnc.str (by omega) ?_
 w_on
 refine⟨_,a.1,rfl,rfl,NR.av,?_⟩
 k_head
 refine⟨_,.inr ⟨NR.bor,rfl⟩,fin ⟨Z3 kvs a.1 (.int (o / v+c / 3%2)),λx W=>?_,rfl⟩⟩
 by_cases e:x.1=a.1
 ·exact⟨_,by rw[Ua,if_pos e],by omega,by omega⟩
 ·obtain⟨p,I,g2,R⟩:=same x W
  exact⟨p,by rw[Ua,if_neg e];exact I,g2,R⟩
theorem Cal.np{CX:CXT}{k:Nat}{ps:List aQ}{dvs:List V}{Pre a:List AV->Prop}{Post:List AV->AV->Prop}{PX:List AV->Exc->Prop}(c:'$' CX k x ps dvs (spR K Pre Post PX))(h:∀ cs,a cs->Pre cs/\∀ e,¬ PX cs e):'$' CX k x ps dvs (spR K a Post NP) :=
 let ⟨f,D,ds,Z,O⟩:=c.ex
 ⟨f,D,ds,Z.imp (λvs H Q E ⟨t,as,r,p,q,x⟩=>⟨t,as,r,(h as p).1,q,λe z=>((h as p).2 e z).elim⟩),O⟩
theorem Q1:∀ {a b:List Nat},aU a b=ak->aU b a=aF
 | [],[],h=>by simp[aU] at h
 | [],_::_,_=>by simp[aU]
 | _::_,[],h=>by simp[aU] at h
 | x::a,y::b,h=>by
  simp only[aU] at h ⊢
  rcases dA x y with z|z|z
  ·have Z:¬ y<x:=by omega
   have O:¬ y=x:=by omega
   simp[Z,O]
  ·subst z
   simp at h ⊢
   exact Q1 h
  ·have Z:¬ x<y:=by omega
   have O:¬ x=y:=by omega
   simp[Z,O] at h
theorem LC:∀ (ys:List aQ) (p x:aQ),dY p ys=ak->aU x.cps.toList p.cps.toList=aF->∃ a,a.Perm (x::ys)/\dY p a=ak
 | [],p,x,_,h=>⟨[x],.refl _,by show (!PySem.Spec.ltCps x.cps.toList p.cps.toList && ak)=ak;rw[h];rfl⟩
 | y::ys,p,x,J,h=>by
  have J:(!PySem.Spec.ltCps y.cps.toList p.cps.toList && dY y ys)=true:=J
  rw[aP] at J
  cases e:aU y.cps.toList x.cps.toList with
  | true =>
   obtain⟨a,Z,O⟩:=LC ys y x J.2 (Q1 e)
   exact⟨y::a,(Z.cons y).trans (.swap _ _ _),by show (_ && _)=ak;rw[aP];exact⟨J.1,O⟩⟩
  | false=>exact⟨x::y::ys,.refl _,by show (!_ && (!_ && _))=ak;rw[h,e,J.2];rfl⟩
theorem LD:∀ zs:List aQ,∃ ys,ys.Perm zs/\dE ys=ak
 | []=>⟨[],.refl _,rfl⟩
 | x::zs=>by
  obtain⟨ys,Z,O⟩:=LD zs
  cases ys with
  | nil=>exact⟨[x],Z.cons x,rfl⟩
  | cons y t =>
   cases e:aU y.cps.toList x.cps.toList with
   | true =>
    obtain⟨a,I,P⟩:=LC t y x O (Q1 e)
    exact⟨y::a,((I.cons y).trans (.swap _ _ _)).trans (Z.cons x),P⟩
   | false=>exact⟨x::y::t,Z.cons x,by show (!_ && _)=ak;rw[e];exact O⟩
theorem OnceN.ex{zs:List aQ}(d:zs.Nodup)(m:∀ y,y∈zs↔y∈xs.map bZ):∃ ns,OnceN xs ns/\ns.length=zs.length:=by
 obtain⟨ys,Z,O⟩:=LD zs
 obtain⟨ns,e,o⟩:=OnceN.of (xs:=xs) (Z.nodup_iff.mpr d) (λy=>Z.mem_iff.trans (m y)) O
 exact⟨ns,o,by rw[<- Z.length_eq,<- e,ah]⟩
theorem C8{β:Type}[DecidableEq α]{k:α}{v:β}{p:α×β}{l:List (α×β)}(h:p∈Z3 l k v):p∈l\/p=(k,v):=by
 unfold Z3 at h
 split at h
 ·obtain⟨q,m,e⟩:=mem_map.mp h
  by_cases z:q.1=k
  ·rw[if_pos z,z] at e;exact .inr e.symm
  ·rw[if_neg z] at e;exact .inl (e▸m)
 ·rcases nV.mp h with h|h
  ·exact .inl h
  ·exact .inr (f_.mp h)
theorem LE:∀ {l:List aj},(∀ x∈l,ZH x=ak)->noLsts l=ak
 | [],_=>rfl
 | x::l,h=>by rw[noLsts,h x (.head _),LE λy j=>h y (.tail _ j)];rfl
def NoO(o:Option AV):Prop:=o=none\/∃ x,o=aa (.d x)
theorem ZT.any{r:Sl}(h:NoO o)(g:ZT r):ZT (o::r):=by
 rcases h with rfl|⟨x,rfl⟩
 ·exact ZT.no g
 ·exact ZT.d g
def plK(kvs:List (aQ×aj))(c:OkS):Int:=match ZA kvs c.1 with
 | some (.int p)=>p
 | _=>0
theorem KnO.pl(h:KnO kvs xs M):∀ c∈xs,ZA kvs c.1=aa (.int (plK kvs c))/\0<=plK kvs c/\plK kvs c<M:=λc Y=>by
 obtain⟨p,e,Z,O⟩:=h c Y
 have:plK kvs c=p:=by unfold plK;rw[e]
 rw[this]
 exact⟨e,Z,O⟩
theorem pl43(G:0<=p)(h1:p<10 ^ 43):0<=p/\p.toNat<2 ^ 900:=⟨G,aM (show p.toNat<10 ^ 43 by omega) (by decide)⟩
def C9(cs:List AV):Prop:=∃ (b:Int) (l r:List OkS) (q:Bool),cs=[.d (.int b),.d (.list (l.map dS)),.d (.list (r.map dS)),.d (.str (wdS q))]/\(l.length<=3/\r.length<=3)/\(2<=b/\b<=5)/\∃ ns,OnceN (l++r) ns/\Nrw b ns
theorem Ba(T:Txt K mg)(Z:Cs K mg C_WheelError C_NoBase C_TooGreat C_TooWide C_NoName)(B:base.BuiltinsAt mg au)(j:∀ p∈ts0,p∈Tabs.ts):'$' (CXE P w) 8 "sums" ["base", "left", "right", "word"] [] (spR K C9 Li NP) :=
 Cal.np (Lj T Z B j) λcs ⟨b,l,r,q,e,hl,hb,ns,o,hn⟩=>⟨⟨b,l,r,q,e,hl⟩,λx ⟨b',l',r',q',e',hx⟩=>by
  obtain⟨rfl,rfl,rfl,rfl⟩:=UC (e.symm.trans e')
  rcases hx with⟨z,_⟩|⟨_,u,i,J,_⟩
  ·unfold Bad at z;omega
  ·rw[i.one o] at J
   exact J hn⟩
theorem Bb(hb:2<=b/\b<=5)(F:ns.length<=4):Nrw b ns↔(ns.length:Int)<=(if b=2 then 4 else if b=5 then 2 else 3):=by
 unfold Nrw
 generalize ns.length=n at F
 rcases (by omega:b=2\/b=3\/b=4\/b=5) with e|e|e|e<;>subst e<;>rcases (by omega:n=0\/n=1\/n=2\/n=3\/n=4) with e|e|e|e|e<;>subst e<;>decide
theorem LF(q:Bool)(x:Int):decide (sgS q x=1)=(if q=ak then decide (x=0) else decide (0<x)):=by
 unfold sgS
 by_cases h:(if q=ak then decide (x=0) else decide (0<x))=ak
 ·rw[if_pos h,h];rfl
 ·rw[if_neg h]
  have h:(if q=ak then decide (x=0) else decide (0<x))=false:=(Bool.not_eq_true _).mp h
  rw[h];rfl
theorem Bc:Enc (λp:List OkS×List OkS=>aI [.list (p.1.map dS),.list (p.2.map dS)]) 2:=Enc.str.list.pair Enc.str.list
theorem LG:Enc (λp:OkS×Int=>aI [dS p.1,.int p.2]) 1:=Enc.str.pair Enc.int
theorem Bd(T:Txt K mg)(B:base.BuiltinsAt mg au)(hTs:∀ p∈ts0,p∈Tabs.ts){f:ao}{fd:fC}(F:FunD K "law" "law" TZ .none f fd):FnOk P w K mg base (CXE P w) 14 f fd ["_law_script"] (Ub K):=by
 obtain⟨C_WheelError,C_NoBase,C_TooGreat,C_TooWide,C_NoName,Z⟩:=T.cs
 have c_law_cell:'$' _ _ _ _ _ _:=Cn T
 have c_law_names:'$' _ _ _ _ _ _:=C2 T
 have c_law_side:'$' _ _ _ _ _ _:=C4 T
 have c_law_refused:'$' _ _ _ _ _ _:=C3 T Z B hTs
 have c_law_whole:'$' _ _ _ _ _ _:=QS T
 have c_sums_n:'$' _ _ _ _ _ _:=Ba T Z B hTs
 have c_law_is_relation:'$' _ _ _ _ _ _:=Cm T
 have c_law_planted:'$' _ _ _ _ _ _:=C7 T
 have c_law_taken:'$' _ _ _ _ _ _:=D7 T
 refine GH (k:=13) F Yd rfl λcdv A g s H E J=>?_
 refine⟨_,(Zd (Zl (i:=1) Yd.nd rfl (aC rfl) (Zt (c_law_cell.mono (by decide)) J rfl Zs (Za (pv 0) (Za Zc Zb))))
   (Zd (Zl (i:=2) Yd.nd rfl (aC rfl) (Zj (ZP (K:=K) rfl) Zc (Zj ZZ (pv 1) Zc)))
   (Zd (Zl (i:=3) Yd.nd rfl (aC rfl) (Zt (c_law_names.mono (by decide)) J rfl Zs (Za (Zt (c_law_cell.mono (by decide)) J rfl Zs (Za (pv 0) (Za Zc Zb))) Zb)))
   (Zd (Zl (i:=4) Yd.nd rfl (aC rfl) (Zt (c_law_side.mono (by decide)) J rfl Zs (Za (Zt (c_law_cell.mono (by decide)) J rfl Zs (Za (pv 0) (Za Zc Zb))) (Za (pv 3) Zb))))
   (Zd (Zl (i:=5) Yd.nd rfl (aC rfl) (Zt (c_law_side.mono (by decide)) J rfl Zs (Za (Zt (c_law_cell.mono (by decide)) J rfl Zs (Za (pv 0) (Za Zc Zb))) (Za (pv 3) Zb))))
   (Zd (Zl (i:=6) Yd.nd rfl (aC rfl) (Zo '%' Yp (Zj ZZ (Zj YS (pv 1) Zc) Zc) (λ_ _=>rfl)))
   (Zd (Zl (i:=7) Yd.nd rfl (aC rfl) (Zq (FZ (P:=P) (w:=w) rfl rfl) rfl T.n_len aN (Za (ZR (RY (P:=P) (w:=w) (K:=K) rfl rfl rfl rfl) rfl T.n_set cq (Za (Zj (ZP (K:=K) rfl) (pv 4) (pv 5)) Zb)) Zb)))
   (Zd (Zl (i:=8) Yd.nd rfl (aC rfl) (Zo '%' (Xd (Za (VD VG Zc) (Za Zc (Za Zc (Za Zc (Za (Zj Q5 Zc Zc) Zb)))))) (Zj ZZ (Zj YS (pv 1) Zc) Zc) (λ_ _=>rfl)))
   (Zd (Yf (ZB (Xg (K:=K) rfl J.units) (Zt (c_law_refused.mono (by decide)) J rfl Zs (Za (pv 8) (Za (ZR (XI (K:=K) rfl) rfl T.n_list bQ (Za (pv 4) Zb)) (Za (ZR (XI (K:=K) rfl) rfl T.n_list bQ (Za (pv 5) Zb)) (Za (pv 6) Zb))))) (YT (Za Yp (Za Zc Zb))) (nomark _))
    (Zh (Zr YR))
    ZO)
   (Zd (Yf (ZB Xp (pv 7) (Zo '%' (Xd (Za Zc (Za Zc (Za Zc (Za Zc Zb))))) (Zj VF (pv 2) Zc) (λ_ _=>rfl)) (nomark _))
    (Zd (Zl (i:=9) Yd.nd rfl (aC rfl) (Zt (c_law_refused.mono (by decide)) J rfl Zs (Za (pv 2) (Za (ZR (XI (K:=K) rfl) rfl T.n_list bQ (Za (pv 4) Zb)) (Za (ZR (XI (K:=K) rfl) rfl T.n_list bQ (Za (pv 5) Zb)) (Za (pv 6) Zb))))))
    (Zh (Zr (UF (Xc (YO (K:=K) rfl J.units) (pv 9) (YT (Za Yp (Za (pv 7) Zb))) (nomark _)) (UE (Zt (c_law_whole.mono (by decide)) J rfl Zs (Za (Zo '%' (pv 9) Zc (λ_ _=>rfl)) Zb)))))))
    ZO)
   (Zd (Zl (i:=10) Yd.nd rfl (aC rfl) (YT (Za (ZR (XI (K:=K) rfl) rfl T.n_list bQ (Za (pv 4) Zb)) (Za (ZR (XI (K:=K) rfl) rfl T.n_list bQ (Za (pv 5) Zb)) Zb))))
   (Zd (Zl (i:=11) Yd.nd rfl (aC rfl) (Zt (c_sums_n.mono (by decide)) J rfl Zs (Za (pv 2) (Za (Zo '%' (pv 10) Zc (λ_ _=>rfl)) (Za (Zo '%' (pv 10) Zc (λ_ _=>rfl)) (Za (pv 6) Zb))))))
   (Zd (Yf (PW.pt (Yb (ZB (Xg (K:=K) rfl J.units) (pv 10) (YT (Za (pv 4) (Za (pv 5) Zb))) (nomark _)) (YL (Yr (Yq (Zt (c_law_is_relation.mono (by decide)) J rfl Zs (Za (pv 11) (Za (pv 2) (Za (Zq (NQ (P:=P) (w:=w) rfl rfl rfl) rfl T.n_sorted fT (Za (ZR (RY (P:=P) (w:=w) (K:=K) rfl rfl rfl rfl) rfl T.n_set cq (Za (Zj (ZP (K:=K) rfl) (pv 4) (pv 5)) Zb)) Zb)) Zb)))))))))
    (Zh (Zr YR))
    ZO)
   (Zd (YF bg rfl (XX rfl T.n_range (Za Zc Zb)) (Zv (i:=12) Yd.nd rfl (aC rfl))
    (Zd (Zl (i:=13) Yd.nd rfl (aC rfl) (Zt (c_law_cell.mono (by decide)) J rfl Zs (Za (pv 0) (Za (Zj (ZP (K:=K) rfl) Zc (pv 12)) Zb))))
    (Zd (Zl (i:=14) Yd.nd rfl (de rfl) US)
    (Zd (YF bg rfl (PZ (K:=K) rfl rfl T.n_enumerate (Za (pv 3) Zb)) (W7 (K:=K) (n:=2) rfl rfl (YY (Zv (i:=15) Yd.nd rfl (aC rfl)) (YY (Zv (i:=16) Yd.nd rfl (aC rfl)) WW)))
     (Zh (WY (Zj ZZ (Zj YS (Zt (c_law_cell.mono (by decide)) J rfl Zs (Za (pv 0) (Za (Zj (ZP (K:=K) rfl) Zc (Zj ZZ (Zj (ZP (K:=K) rfl) (pv 12) (Zj Yv (pv 15) (Zj (ZP (K:=K) rfl) Zc (Zj ZZ (pv 13) Zc)))) Zc)) Zb))) (Zj (ZP (K:=K) rfl) Zc (Zj Yv (pv 15) (pv 15)))) (Zj Q5 Zc Zc)) (VA (pv 14) (pv 16) (VU J.units)))))
    (Zd (Xx (ZB Xp (Zj ZZ (pv 13) Zc) Zc (nomark _))
     (Zh (Zl (i:=14) Yd.nd rfl (de rfl) (Zt (c_law_planted.mono (by decide)) J rfl Zs (Za (pv 14) (Za (pv 4) (Za (pv 5) (Za (pv 13) Zb)))))))
     ZO)
    (Zd (Zl (i:=17) Yd.nd rfl (aC rfl) (Zq (Uh (K:=K) rfl rfl) rfl T.n_sum dL (Za (Yc (N:=["_law_name", "_law_known"]) (cap:=[none,aa 14]) rfl rfl rfl (by kernel_rfl) (ZU (K:=K) rfl (pv 4)) (λ_ _ _ _=>(Zv (i:=0) (show (["_law_name", "_law_known"]:List aQ).Nodup from by decide +kernel) rfl (aC rfl))) (λ_ _ _ _=>Z7) (λ_ _ _ _=>(Zo '%' (pv 1) (pv 0) (λ_ _=>rfl)))) Zb)))
    (Zd (Zl (i:=18) Yd.nd rfl (aC rfl) (Zq (Uh (K:=K) rfl rfl) rfl T.n_sum dL (Za (Yc (N:=["_law_name", "_law_known"]) (cap:=[none,aa 14]) rfl rfl rfl (by kernel_rfl) (ZU (K:=K) rfl (pv 5)) (λ_ _ _ _=>(Zv (i:=0) (show (["_law_name", "_law_known"]:List aQ).Nodup from by decide +kernel) rfl (aC rfl))) (λ_ _ _ _=>Z7) (λ_ _ _ _=>(Zo '%' (pv 1) (pv 0) (λ_ _=>rfl)))) Zb)))
    (Zd (Zl (i:=19) Yd.nd rfl (aC rfl) (Sq (ZB (YO (K:=K) rfl J.units) (pv 6) Yp (nomark _)) (Xc (YO (K:=K) rfl J.units) (pv 17) (pv 18) (nomark _)) (Xc Xo (pv 17) (pv 18) (nomark _))))
    (Zh (Yf (Yr (Yq (Zt (c_law_taken.mono (by decide)) J rfl Zs (Za (pv 11) (Za (pv 14) (Za (pv 19) Zb))))))
     (Zh (Zr YR))
     ZO))))))))))
   (Zh (Zr YR)))))))))))))))),?_⟩
 intro ns hn hbits
 show Sv K _ _ _ [aa (.d (dI ns)),none,none,none,none,none,none,none,none,none,none,none,none,none,none,none,none,none,none,none] _
 k_head
 refine Vt (by decide) λr0 a0=>?_
 k_head
 have M:2<=2+r0%4/\2+r0%4<=5:=by omega
 generalize 2+r0%4=b at M
 refine Vt (by decide) λr1 a1=>?_
 k_head
 refine⟨[.d (.int r1)],.cons (.d NR.av rfl) .nil,⟨r1,rfl,a1⟩,λc ⟨nm,h4,nd,C⟩=>?_,λ_ z=>z.elim⟩
 subst C
 refine⟨_,Got.own (ZW λ_=>rfl),?_⟩
 refine XM (Vv _) ?_
 have side:∀ {c:Int} {Q:TV->Prop} {X:Exc->Prop},0<=c->(∀ xs:List OkS,(1<=xs.length/\xs.length<=3)->(∀ x∈xs,x∈nm)->Q (.av (oN xs)))->ClR Ly Lz NP [] Q X [.av (.d (.int c)),.av (.d (.list (nm.map dS)))]:=λ{c Q X} Y q =>
  ⟨[.d (.int c),.d (.list (nm.map dS))],.cons (.d NR.av rfl) (.cons (.d NR.av rfl) .nil),⟨c,nm,rfl,Y,h4⟩,λd ⟨c',nm',xs,e,h1,h2,ed⟩=>by
   simp only[ck,bh,AV.d.injEq,and_true] at e
   have S:=Vr e.2
   subst S ed
   exact⟨_,Got.own (ZW λ_=>rfl),q xs h1 h2⟩,λ_ z=>z.elim⟩
 k_head
 refine Vt (by decide) λG a2=>?_
 k_head
 refine side a2 λl hl lm=>?_
 refine XM (Vv _) ?_
 k_head
 refine Vt (by decide) λr3 a3=>?_
 k_head
 refine side a3 λr hr' rm'=>?_
 refine XM (Vv _) ?_
 k_head
 obtain⟨q,ch,m,eq⟩:∃ (q:Bool) (ch:Nat),atI ("=<" : aQ).cps.toList (r0 / 4%2)=aa ch/\(⟨#[ch]⟩:aQ)=wdS q:=by
  rcases (by omega:r0 / 4%2=0\/r0 / 4%2=1) with e|e<;>rw[e]
  ·exact⟨ak,61,rfl,rfl⟩
  ·exact⟨aF,60,rfl,rfl⟩
 refine RS rfl (by decide +kernel) m ?_
 rw[eq]
 have hrl:=hr'.2
 have hll:=hl.2
 have catS:∀ {Q:TV->Prop} {E:FK} {X:Exc->Sl->Prop},(∀ a:TV,NR a->a.data=.list ((l++r).map dS)->Q a)->Op K E X (Tg K) (.av (.d (.list (l.map dS)))) (.av (.d (.list (r.map dS)))) Q:=λ{Q E X} h =>
  V2 (ds:=l.map dS) (es:=r.map dS) rfl rfl (Kp.flat (Xa l)) (Kp.flat (Xa r)) (by rw[ah,ah];omega) (h _ NR.av (by rw[<- bH];simp only[TV.data,Y4,bu];exact congrArg da (bG λ_ _=>rfl)))
 k_head
 refine catS λx nx D=>?_
 k_head
 refine R0 (P:=P) (w:=w) (ns:=(l++r).map bZ) (by rw[D,WS]) (by rw[ah,ay];omega) (na:=nx) λzs y1 y2 y3=>?_
 k_head
 refine F0 ?_
 obtain⟨ms,o,em⟩:=OnceN.ex (xs:=l++r) y1 y2
 rw[<- em]
 have R:ms.length<=4:=by
  rw[<- h4]
  refine Wm o.d λc Y=>?_
  rcases nV.mp ((o.m c).mp Y) with z|z
  ·exact lm c z
  ·exact rm' c z
 clear y1 y2 y3 em zs D nx x
 k_head
 refine WA ?_
 k_head
 refine⟨[.d (.int (-1)),.d (.int 0),.d (.int 1),.d (.int 6),.d (.int (10 ^ 20))],.cons rfl (.cons rfl (.cons rfl (.cons rfl (.cons rfl .nil)))),by show 5<=1000;decide,?_⟩
 k_head
 obtain⟨st,hst,hbad⟩:∃ st:Int,atI [aZ (-1),.int 0,.int 1,.int 6,.int (10 ^ 20)] (r0 / 8%5)=aa (.int st)/\Bad st:=by
  rcases (by omega:r0 / 8%5=0\/r0 / 8%5=1\/r0 / 8%5=2\/r0 / 8%5=3\/r0 / 8%5=4) with e|e|e|e|e<;>rw[e]<;>exact⟨_,rfl,by unfold Bad;decide⟩
 refine YV rfl hst (Zu.flat rfl) ?_
 w_on
 refine WB (ds:=l.map dS) rfl (Kp.flat (Xa l)) ?_
 w_on
 refine WB (ds:=r.map dS) rfl (Kp.flat (Xa r)) ?_
 w_on
 have dl:(TV.av (AV.own ((l.map dS).map AV.d))).data=.list (l.map dS):=by simp only[TV.data,Y4,bu];exact congrArg da (bG λ_ _=>rfl)
 have dr:(TV.av (AV.own ((r.map dS).map AV.d))).data=.list (r.map dS):=by simp only[TV.data,Y4,bu];exact congrArg da (bG λ_ _=>rfl)
 have rf:∀ {x:Int} {Q:TV->Prop} {X:Exc->Prop},(Bad x\/∃ n,WdS x l r n)->(∀ d:aj,((Bad x/\d=.tuple [.str "base",.int 0])\/∃ n:Nat,WdS x l r n/\d=.tuple [.str "wide",.int n])->Q (.av (.d d)))->ClR Lw Lx NP [] Q X [.av (.d (.int x)),.av (AV.own ((l.map dS).map AV.d)),.av (AV.own ((r.map dS).map AV.d)),.av (.d (.str (wdS q)))]:=λ{x Q X} W k =>
  ⟨[.d (.int x),.d (.list (l.map dS)),.d (.list (r.map dS)),.d (.str (wdS q))],.cons (.d NR.av rfl) (.cons (.d NR.av dl) (.cons (.d NR.av dr) (.cons (.d NR.av rfl) .nil))),⟨x,l,r,q,rfl,⟨hll,hrl⟩,W⟩,λc ⟨x',l',r',q',e,h⟩=>by
   obtain⟨rfl,rfl,rfl,rfl⟩:=UC e
   rcases h with⟨z,C⟩|⟨n,z,C⟩
   ·subst C;exact⟨_,Got.own rfl,k _ (.inl ⟨z,rfl⟩)⟩
   ·subst C;exact⟨_,Got.own rfl,k _ (.inr ⟨n,z,rfl⟩)⟩,λ_ z=>z.elim⟩
 refine rf (.inl hbad) λd hd=>?_
 have ed:d=.tuple [.str "base",.int 0]:=by
  rcases hd with⟨_,e⟩|⟨n,⟨z,_⟩,_⟩
  ·exact e
  ·unfold Bad at hbad;omega
 subst ed
 w_on
 refine Xu ?_
 w_on
 refine⟨[.d (.str "base"),.d (.int 0)],.cons rfl (.cons rfl .nil),by show 2<=1000;decide,?_⟩
 refine Vd (f:=λp:OkS×Int=>aI [dS p.1,.int p.2]) (c:=(⟨"base",by decide +kernel⟩,0)) (d:=(⟨"base",by decide +kernel⟩,0)) LG rfl rfl ?_
 refine⟨aF,by simp,?_⟩
 w_on
 refine WA ?_
 w_on
 refine⟨[.d (.int 4),.d (.int 3),.d (.int 3),.d (.int 2)],.cons rfl (.cons rfl (.cons rfl (.cons rfl .nil))),by show 4<=1000;decide,?_⟩
 w_on
 obtain⟨mx,hmx,emx⟩:∃ mx:Int,atI [aZ 4,.int 3,.int 3,.int 2] (b-2)=aa (.int mx)/\mx=(if b=2 then 4 else if b=5 then 2 else 3):=by
  rcases (by omega:b=2\/b=3\/b=4\/b=5) with e|e|e|e<;>subst e<;>exact⟨_,rfl,rfl⟩
 have hnr:=Bb (ns:=ms) M R
 rw[<- emx] at hnr
 refine YV rfl hmx (Zu.flat rfl) ?_
 w_on
 refine ite2 (λh=>?_) λh=>?_
 ·have h:mx<ms.length:=of_decide_eq_true h
  have I:¬ Nrw b ms:=λz=>by have:=hnr.mp z;omega
  w_on
  refine WB (ds:=l.map dS) rfl (Kp.flat (Xa l)) ?_
  w_on
  refine WB (ds:=r.map dS) rfl (Kp.flat (Xa r)) ?_
  w_on
  refine rf (.inr ⟨_,M,ms,o,I,rfl⟩) λd hd=>?_
  have ed:d=.tuple [.str "wide",.int ms.length]:=by
   rcases hd with⟨z,_⟩|⟨n,⟨_,u,o',_,S⟩,e⟩
   ·unfold Bad at z;omega
   ·rw[e,S,o'.one o]
  subst ed
  w_on
  refine Xu ?_
  w_on
  refine⟨[.d (.str "wide"),.d (.int ms.length)],.cons rfl (.cons rfl .nil),by show 2<=1000;decide,?_⟩
  refine V1 (f:=λp:OkS×Int=>aI [dS p.1,.int p.2]) (c:=(⟨"wide",by decide +kernel⟩,ms.length)) (d:=(⟨"wide",by decide +kernel⟩,ms.length)) LG rfl rfl ?_
  refine⟨ak,by simp,?_⟩
  o_law
  refine Sd ?_
  exact ZL rfl
 have h:¬ mx<ms.length:=λz=>h (decide_eq_true z)
 have hw:Nrw b ms:=hnr.mpr (by omega)
 w_on
 refine Xu ?_
 w_on
 refine WB (ds:=l.map dS) rfl (Kp.flat (Xa l)) ?_
 w_on
 refine WB (ds:=r.map dS) rfl (Kp.flat (Xa r)) ?_
 w_on
 refine⟨[AV.own ((l.map dS).map AV.d),AV.own ((r.map dS).map AV.d)],.cons rfl (.cons rfl .nil),by show 2<=1000;decide,?_⟩
 rw[show AV.datas [AV.own ((l.map dS).map AV.d),AV.own ((r.map dS).map AV.d)]=[.list (l.map dS),.list (r.map dS)] by
  show [(TV.av (AV.own ((l.map dS).map AV.d))).data,(TV.av (AV.own ((r.map dS).map AV.d))).data]=_
  rw[dl,dr]]
 w_on
 refine Ys rfl rfl Zu.d ?_
 w_on
 refine Ys rfl rfl Zu.d ?_
 w_on
 refine⟨[.d (.int b),.d (.list (l.map dS)),.d (.list (r.map dS)),.d (.str (wdS q))],.cons (.d NR.av rfl) (.cons (.d NR.av rfl) (.cons (.d NR.av rfl) (.cons (.d NR.av rfl) .nil))),⟨b,l,r,q,rfl,⟨hll,hrl⟩,M,ms,o,hw⟩,λc ⟨b',l',r',q',ms',N,e,_,o',_,hN,C⟩=>?_,λ_ z=>z.elim⟩
 obtain⟨rfl,rfl,rfl,rfl⟩:=UC e
 have S:=o'.one o
 subst S C
 clear o'
 have tl:=CK M o hw hN
 refine⟨_,Got.own (Co _ _ _),?_⟩
 w_on
 refine Xu ?_
 w_on
 refine⟨[.d (.list (l.map dS)),.d (.list (r.map dS))],.cons rfl (.cons rfl .nil),by show 2<=1000;decide,?_⟩
 refine Vd (f:=λp:List OkS×List OkS=>aI [.list (p.1.map dS),.list (p.2.map dS)]) (c:=(l,r)) (d:=(l,r)) Bc rfl rfl ?_
 refine⟨aF,by simp,?_⟩
 w_on
 refine catS λx nx D=>?_
 w_on
 refine R0 (P:=P) (w:=w) (ns:=(l++r).map bZ) (by rw[D,WS]) (by rw[ah,ay];omega) (na:=nx) λzs y1 y2 y3=>?_
 rw[ah,ay] at y3
 w_on
 refine NT (by omega) λys p1 p2=>?_
 obtain⟨O,rfl,o2⟩:=OnceN.of (xs:=l++r) (p1.nodup_iff.mpr y1) (λy=>p1.mem_iff.trans (y2 y)) p2
 have e2:=o2.one o
 subst e2
 w_on
 refine⟨[.d (Yx b O N),.d (.int b),.d (.list (O.map dS))],.cons (.d NR.av rfl) (.cons (.d NR.av rfl) (.cons (.d NR.av (by rw[TV.data,AV.data,Z4,WS])) .nil)),⟨b,O,O,N,rfl,M,⟨o.d,R⟩,⟨o.s,o.d,λ_=>.rfl⟩,tl.w.symm,tl.il.n,tl.z,tl.s⟩,λd ed=>?_,λ_ z=>z.elim⟩
 subst ed
 refine⟨_,Got.own rfl,?_⟩
 w_on
 refine V3 ?_
 w_on
 refine⟨24,rfl,⟨by decide,by decide⟩,λi ρ=>∃ (o1 o2 U o4 o5 o6 o7 o8:Option AV),((NoO o4/\NoO o5)/\NoO o6/\NoO o7/\NoO o8)/\ρ=[aa (.d (dI ns)),aa (.d (.int r0)),aa (.d (.int b)),aa (.d (.list (nm.map dS))),aa (.d (.list (l.map dS))),aa (.d (.list (r.map dS))),aa (.d (.str (wdS q))),aa (.d (.int O.length)),aa (.d (.int st)),none,aa (.d (.tuple [.list (l.map dS),.list (r.map dS)])),aa (.d (Yx b O N)),o1,o2,U,o4,o5,o6,o7,o8],⟨_,_,_,_,_,_,_,_,⟨⟨.inl rfl,.inl rfl⟩,.inl rfl,.inl rfl,.inl rfl⟩,rfl⟩,?_,?_⟩
 ·rintro i ρ hi ⟨o1,o2,U,o4,o5,o6,o7,o8,⟨n45,n6,n7,n8⟩,rfl⟩
  have hi:i<24:=hi
  k_head
  refine Vt ⟨by omega (config:={}),by omega (config:={})⟩ λr4 a4=>?_
  k_head
  refine O0 (α:=OkS) ?_
  k_head
  refine⟨_,nm,dS,rfl,rfl,⟨_,rfl⟩,λj ρ=>∃ (kvs:List (aQ×aj)) (o4 o5:Option AV),(kvs.length<=j/\(∀ p∈kvs,∃ z:Int,p.2=.int z)/\(NoO o4/\NoO o5)/\KnO kvs (nm.take j) (10 ^ 41))/\ρ=[aa (.d (dI ns)),aa (.d (.int r0)),aa (.d (.int b)),aa (.d (.list (nm.map dS))),aa (.d (.list (l.map dS))),aa (.d (.list (r.map dS))),aa (.d (.str (wdS q))),aa (.d (.int O.length)),aa (.d (.int st)),none,aa (.d (.tuple [.list (l.map dS),.list (r.map dS)])),aa (.d (Yx b O N)),aa (.d (.int i)),aa (.d (.int r4)),aa (.dic (Zk bc kvs)),o4,o5,o6,o7,o8],⟨[],_,_,⟨aq _,(λ_ z=>nomatch z),n45,λc Y=>by simp at Y⟩,rfl⟩,?_,?_⟩
  ·rintro j ρ hj ⟨kvs,o4,o5,⟨k1,k2,k3,k4⟩,rfl⟩
   have hj4:j<4:=by omega
   have hsq:0<=(j:Int)*j/\(j:Int)*j<=9:=by
    rcases (by omega:j=0\/j=1\/j=2\/j=3) with e|e|e|e<;>subst e<;>decide
   refine Vi ?_
   k_head
   refine Gg KEnc.str (by omega) ?_
   k_head
   refine Vt ⟨by omega (config:={}),by omega (config:={})⟩ λr5 a5=>?_
   k_head
   refine Ta (show (0:Int)<10 ^ iM 41 by decide) ?_
   k_head
   have v0:=er (r5 / (1+(j:Int)*j)) (show ((10:Int) ^ iM 41)≠0 by decide)
   have v1:=di (r5 / (1+(j:Int)*j)) (show (0:Int)<10 ^ iM 41 by decide)
   generalize r5 / (1+(j:Int)*j)%10 ^ iM 41=v at v0 v1
   refine⟨_,nm[j].1,rfl,rfl,NR.av,?_⟩
   refine⟨Z3 kvs nm[j].1 (.int v),_,_,⟨by have:=OW kvs nm[j].1 (aZ v);omega,λp hp=>?_,⟨.inr ⟨_,rfl⟩,.inr ⟨_,rfl⟩⟩,λc Y=>?_⟩,rfl⟩
   ·rcases C8 hp with z|z
    ·exact k2 p z
    ·rw[z];exact⟨v,rfl⟩
   ·by_cases e:c.1=nm[j].1
    ·exact⟨v,by rw[Ua,if_pos e],v0,v1⟩
    ·rcases (Sb hj).mp Y with z|z
     ·obtain⟨p,g1,g2⟩:=k4 c z
      exact⟨p,by rw[Ua,if_neg e];exact g1,g2⟩
     ·exact absurd (congrArg bZ z) e
  rintro ρ ⟨kvs,p4,p5,⟨k1,k2,⟨k3,k3'⟩,k4⟩,rfl⟩
  rw[hE] at k4
  walk_at "hd"
  refine Oc 14 rfl ?_
  show Sv K _ _ _ [aa (.d (dI ns)),aa (.d (.int r0)),aa (.d (.int b)),aa (.d (.list (nm.map dS))),aa (.d (.list (l.map dS))),aa (.d (.list (r.map dS))),aa (.d (.str (wdS q))),aa (.d (.int O.length)),aa (.d (.int st)),none,aa (.d (.tuple [.list (l.map dS),.list (r.map dS)])),aa (.d (Yx b O N)),aa (.d (.int i)),aa (.d (.int r4)),aa (.d (.dict (Zk bc kvs))),p4,p5,o6,o7,o8] _
  have kn:KnO kvs (l++r) (10 ^ 41):=λc Y=>k4 c (by
   rcases nV.mp Y with z|z
   ·exact lm c z
   ·exact rm' c z)
  w_on
  refine Xy (λρ=>∃ kvs':List (aQ×aj),KnO kvs' (l++r) (10 ^ 43)/\ρ=[aa (.d (dI ns)),aa (.d (.int r0)),aa (.d (.int b)),aa (.d (.list (nm.map dS))),aa (.d (.list (l.map dS))),aa (.d (.list (r.map dS))),aa (.d (.str (wdS q))),aa (.d (.int O.length)),aa (.d (.int st)),none,aa (.d (.tuple [.list (l.map dS),.list (r.map dS)])),aa (.d (Yx b O N)),aa (.d (.int i)),aa (.d (.int r4)),aa (.d (.dict (Zk bc kvs'))),p4,p5,o6,o7,o8]) ?_ ?_
  case refine_2 =>
   w_on
   refine ite2 (λ_=>?_) λ_=>?_
   ·w_on
    refine⟨[.d (.dict (Zk bc kvs)),.d (.list (l.map dS)),.d (.list (r.map dS)),.d (.int r4)],.cons (.d NR.av rfl) (.cons (.d NR.av rfl) (.cons (.d NR.av rfl) (.cons (.d NR.av rfl) .nil))),⟨kvs,l,r,r4,rfl,⟨hl,hrl,by omega⟩,LE (λx W=>by obtain⟨p,hp,rfl⟩:=mem_map.mp W;obtain⟨z,e⟩:=k2 p hp;rw[e];rfl),kn,a4⟩,λd ⟨kvs0,l0,r0',c0,kvs',e,hk',ed⟩=>?_,λ_ z=>z.elim⟩
    simp only[ck,bh,AV.d.injEq,and_true] at e
    have L:=Vr e.2.1
    have e4:=Vr e.2.2.1
    subst L e4 ed
    refine⟨_,Got.br,?_⟩
    refine v_sB (by repeat (first|exact ZT.nil|refine ZT.no ?_|refine ZT.d ?_|refine ZT.any (by assumption) ?_)) ?_
    exact⟨kvs',hk',rfl⟩
   ·w_on
    exact⟨kvs,λc Y=>let ⟨p,g1,g2,g3⟩:=kn c Y;⟨p,g1,g2,by omega⟩,rfl⟩
  clear kn k4 k2 k1
  rintro ρ ⟨kv,kn,rfl⟩
  have kp:=kn.pl
  w_on
  refine Yw (α:=OkS) ?_
  w_on
  refine⟨l,dS,λc=>.d (.int (plK kv c)),.inl rfl,NR.av,by omega,λi hi=>?_,_,Got.own (ZW λ_=>rfl),?_⟩
  ·have hg:=(kp _ (a9 _ (aV hi))).1
   show Gv K _ _ [none,aa (.d (.dict (Zk bc kv)))] _
   w_on
   refine⟨Z8,?_⟩
   w_on
   exact XO KEnc.str (c:=l[i].1) (kvs:=kv) (z:=.int (plK kv l[i])) rfl rfl hg (Zu.flat rfl) rfl
  w_on
  refine Ui (ns:=l.map (plK kv)) (by rw[TV.data,AV.data,Z4,bu];rfl) ?_
  w_on
  refine Yw (α:=OkS) ?_
  w_on
  refine⟨r,dS,λc=>.d (.int (plK kv c)),.inl rfl,NR.av,by omega,λi hi=>?_,_,Got.own (ZW λ_=>rfl),?_⟩
  ·have hg:=(kp _ (bi _ (aV hi))).1
   show Gv K _ _ [none,aa (.d (.dict (Zk bc kv)))] _
   w_on
   refine⟨Z8,?_⟩
   w_on
   exact XO KEnc.str (c:=r[i].1) (kvs:=kv) (z:=.int (plK kv r[i])) rfl rfl hg (Zu.flat rfl) rfl
  w_on
  refine Ui (ns:=r.map (plK kv)) (by rw[TV.data,AV.data,Z4,bu];rfl) ?_
  w_on
  cases q with
  | true =>
   refine V1 (f:=dS) (c:=⟨"=",by decide +kernel⟩) (d:=⟨"=",by decide +kernel⟩) Enc.str rfl rfl ?_
   refine⟨ak,by simp,?_⟩
   w_on
   refine ZY (by walk_at "nrs") ⟨b,O,N,plK kv,kv,by rw[tl.t (plK kv) λc Y=>(kp c ((o.m c).mp Y)).2.1,LF,if_pos rfl,decide_eq_decide.mpr (show ((r.map (plK kv)).sum-(l.map (plK kv)).sum=0)↔((l.map (plK kv)).sum=(r.map (plK kv)).sum) by omega)];rfl,⟨M,R,tl.p,tl.w,λc Y=>⟨(kp c ((o.m c).mp Y)).1,pl43 (kp c ((o.m c).mp Y)).2.1 (kp c ((o.m c).mp Y)).2.2⟩⟩,rfl⟩ (Got.own rfl) ?_
   w_on
   exact⟨_,_,_,_,_,_,_,_,⟨⟨k3,k3'⟩,.inr ⟨_,rfl⟩,.inr ⟨_,rfl⟩,.inr ⟨_,rfl⟩⟩,rfl⟩
  | false =>
   refine V1 (f:=dS) (c:=⟨"<",by decide +kernel⟩) (d:=⟨"=",by decide +kernel⟩) Enc.str rfl rfl ?_
   refine⟨aF,by rw[decide_eq_false (λe=>absurd (congrArg bZ e) (by decide +kernel))],?_⟩
   w_on
   refine ZY (by walk_at "nrs") ⟨b,O,N,plK kv,kv,by rw[tl.t (plK kv) λc Y=>(kp c ((o.m c).mp Y)).2.1,LF,if_neg aA,decide_eq_decide.mpr (show (0<(r.map (plK kv)).sum-(l.map (plK kv)).sum)↔((l.map (plK kv)).sum<(r.map (plK kv)).sum) by omega)];rfl,⟨M,R,tl.p,tl.w,λc Y=>⟨(kp c ((o.m c).mp Y)).1,pl43 (kp c ((o.m c).mp Y)).2.1 (kp c ((o.m c).mp Y)).2.2⟩⟩,rfl⟩ (Got.own rfl) ?_
   w_on
   exact⟨_,_,_,_,_,_,_,_,⟨⟨k3,k3'⟩,.inr ⟨_,rfl⟩,.inr ⟨_,rfl⟩,.inr ⟨_,rfl⟩⟩,rfl⟩
 rintro ρ ⟨o1,o2,U,o4,o5,o6,o7,o8,_,rfl⟩
 w_on
 exact ZL rfl
end
instance tabs0:Tabs:=⟨ts0⟩
abbrev fO (x:aQ)(s:gK)(kV dc pm:ag)(an:Option ao)(cd ct:ag):=bA x x (Z1 s) (ZC s) (Ze s) .none kV dc pm an cd ct
variable{K:aJ}{l:i_}
theorem Be{w:bV}{h:bO}{mg:aQ->Option ag}{E:ao}(X:K.In h)(G:h.Ns au mg)(hfa:mg "law" = aa (.ref E))
  {t_LEAST_BASE:mI} (g_LEAST_BASE:bL K au "LEAST_BASE" = aa (aa (.int 2 t_LEAST_BASE)))
  {t_GREATEST_BASE:mI} (g_GREATEST_BASE:bL K au "GREATEST_BASE" = aa (aa (.int 5 t_GREATEST_BASE)))
  {t_MOST_LETTERS:mI} (g_MOST_LETTERS:bL K au "MOST_LETTERS" = aa (aa (.int 64 t_MOST_LETTERS)))
  {t_MOST_NAMES:mI} (g_MOST_NAMES:bL K au "MOST_NAMES" = aa (aa (.int 4 t_MOST_NAMES)))
  (z_ValueError:bL K au "ValueError" = aa none)
  (z_all:bL K au "all" = aa none)
  (z_bool:bL K au "bool" = aa none)
  (z_dict:bL K au "dict" = aa none)
  (z_enumerate:bL K au "enumerate" = aa none)
  (z_int:bL K au "int" = aa none)
  (z_isinstance:bL K au "isinstance" = aa none)
  (z_len:bL K au "len" = aa none)
  (z_list:bL K au "list" = aa none)
  (z_max:bL K au "max" = aa none)
  (z_min:bL K au "min" = aa none)
  (z_range:bL K au "range" = aa none)
  (z_set:bL K au "set" = aa none)
  (z_sorted:bL K au "sorted" = aa none)
  (z_str:bL K au "str" = aa none)
  (z_sum:bL K au "sum" = aa none)
  (z_tuple:bL K au "tuple" = aa none)
  (z_zip:bL K au "zip" = aa none)
  (D0:ZM K "want_base" R1)
  
  {T1:ao} {P:ag} {U:Option ao} {J:Array (Option ag)} {tk1:mI} {nq1:Nat}
  (a1:bL K au "figures_of" = aa (aa (.ref f1))) (l1:K.lookup f1=aa ⟨oc1,od1,.func (bA "figures_of" "figures_of" (Z1 Ul) (ZC Ul) (Ze Ul) (.ref T1) kV1 dc1 pm1 an1 cd1 ct1),sl1⟩)
  (d1:K.lookup T1=aa ⟨P,U,.seq #[.int 2 tk1] nq1,J⟩) (c1:dj K cd1 "figures_of" = ak) (k1:cX K (.ref f1)=ak)
  
  {T2:ao} {O:ag} {p:Option ao} {I:Array (Option ag)} {A:mI} {nq2:Nat}
  (a2:bL K au "number_of" = aa (aa (.ref f2))) (l2:K.lookup f2=aa ⟨oc2,od2,.func (bA "number_of" "number_of" (Z1 Um) (ZC Um) (Ze Um) (.ref T2) kV2 dc2 pm2 an2 cd2 ct2),sl2⟩)
  (d2:K.lookup T2=aa ⟨O,p,.seq #[.int 2 A] nq2,I⟩) (c2:dj K cd2 "number_of" = ak) (k2:cX K (.ref f2)=ak)
  (D3:ZM K "filled" R3)
  (D4:ZM K "at_each" R4)
  
  {T5:ao} {N:ag} {S:Option ao} {H:Array (Option ag)} {y:mI} {nq5:Nat}
  (a5:bL K au "columns_of" = aa (aa (.ref f5))) (l5:K.lookup f5=aa ⟨oc5,od5,.func (bA "columns_of" "columns_of" (Z1 Uo) (ZC Uo) (Ze Uo) (.ref T5) kV5 dc5 pm5 an5 cd5 ct5),sl5⟩)
  (d5:K.lookup T5=aa ⟨N,S,.seq #[.int 2 y] nq5,H⟩) (c5:dj K cd5 "columns_of" = ak) (k5:cX K (.ref f5)=ak)
  
  {T6:ao} {M:ag} {R:Option ao} {F:Array (Option ag)} {x:mI} {Z:Nat}
  (a6:bL K au "code_of" = aa (aa (.ref f6))) (l6:K.lookup f6=aa ⟨oc6,od6,.func (bA "code_of" "code_of" (Z1 Up) (ZC Up) (Ze Up) (.ref T6) kV6 dc6 pm6 an6 cd6 ct6),sl6⟩)
  (d6:K.lookup T6=aa ⟨M,R,.seq #[.int 2 x] Z,F⟩) (c6:dj K cd6 "code_of" = ak) (k6:cX K (.ref f6)=ak)
  
  {T7:ao} {L:ag} {Q:Option ao} {C:Array (Option ag)} {u:mI} {Y:Nat}
  (a7:bL K au "column_of" = aa (aa (.ref f7))) (l7:K.lookup f7=aa ⟨oc7,od7,.func (bA "column_of" "column_of" (Z1 Uq) (ZC Uq) (Ze Uq) (.ref T7) kV7 dc7 pm7 an7 cd7 ct7),sl7⟩)
  (d7:K.lookup T7=aa ⟨L,Q,.seq #[.int 2 u] Y,C⟩) (c7:dj K cd7 "column_of" = ak) (k7:cX K (.ref f7)=ak)
  (D8:ZM K "room_of" R5)
  (D9:ZM K "sign_of" R6)
  (D10:ZM K "met_from" R7)
  (D11:ZM K "machine_met" R8)
  
  (a12:bL K au "reached_by" = aa (aa (.ref f12))) (l12:K.lookup f12=aa ⟨oc12,od12,.func (fO "reached_by" Y6 kV12 dc12 pm12 an12 (.ref q12) ct12),sl12⟩) (c12:dj K (.ref q12) "reached_by" = ak) (k12:cX K (.ref f12)=ak) (m12:dD K q12 XU=ak)
  (D13:ZM K "first_equals" R9)
  (D14:ZM K "parted" Qa)
  (D15:ZM K "first_alike" Qb)
  (D16:ZM K "least" Qc)
  (D17:ZM K "least_met" Qd)
  (D18:ZM K "letters_for" Qf)
  (D19:ZM K "rising" Qh)
  (D20:ZM K "want_width" Qi)
  (D21:ZM K "takes" Qj)
  (D22:ZM K "takes_by" Ql)
  (D23:ZM K "as_sign" Qm)
  (D24:ZM K "gain_of" Qn)
  
  (a25:bL K au "sums" = aa (aa (.ref f25))) (l25:K.lookup f25=aa ⟨oc25,od25,.func (fO "sums" Y7 kV25 dc25 pm25 an25 (.ref q25) ct25),sl25⟩) (c25:dj K (.ref q25) "sums" = ak) (k25:cX K (.ref f25)=ak) (m25:dD K q25 XV=ak)
  (D26:ZM K "_law_cell" Qo)
  (D27:ZM K "_law_classes" Qp)
  (D28:ZM K "_law_whole" Qq)
  (D29:ZM K "_law_is_least" Qr)
  (D30:ZM K "_law_names" Qs)
  (D31:ZM K "_law_is_relation" Qt)
  (D32:ZM K "_law_taken" Qu)
  (D33:ZM K "_law_refused" Qw)
  (D34:ZM K "_law_side" Qx)
  (D35:ZM K "_law_planted" Qz)
  {C_WheelError:ao} {C_NoBase:ao} {C_TooGreat:ao} {C_TooWide:ao} {C_NoName:ao}
  (cc_WheelError:bL K au "WheelError" = aa (aa (.ref C_WheelError)))
  (cc_NoBase:bL K au "NoBase" = aa (aa (.ref C_NoBase)))
  (cc_TooGreat:bL K au "TooGreat" = aa (aa (.ref C_TooGreat)))
  (cc_TooWide:bL K au "TooWide" = aa (aa (.ref C_TooWide)))
  (cc_NoName:bL K au "NoName" = aa (aa (.ref C_NoName)))
  {i j m c a q:ag} {f r:Option ao} {b:Array (Option ag)}
  (hx_NoBase:gy K C_NoBase [.type "ValueError",.type "Exception",.type "BaseException",.type "object"] "ValueError.__new__" = ak)
  (hI:RQ K C_TooWide [.type "ValueError",.type "Exception",.type "BaseException",.type "object"] "ValueError.__new__" 65=ak)
  (lI:K.lookup 65=aa ⟨i,f,.func (bA "__init__" "TooWide.__init__" (Z1 Uk) (ZC Uk) (Ze Uk) .none j m c r a q),b⟩)
  (cI:dj K a "TooWide.__init__" = ak)
  (kI:cX K (.ref 65)=ak)
  (kc6:jW K (.builtin "object.__class__") "__get__" = aa (aa (.builtin "getset_descriptor.__get__")))
  (kc7:kC K (.builtin "object.__class__")=aa ak)
  (k1NoBase:cu K (.ref C_NoBase) "__getattribute__" = aa (aa (.builtin "BaseException.__getattribute__")))
  (k2NoBase:cu K (.ref C_NoBase) "__getattr__" = aa none)
  (k3NoBase:fw K C_NoBase (.type "BaseException")=aa ak)
  (k4NoBase:fw K C_NoBase (.type "object")=aa ak)
  (k5NoBase:cu K (.ref C_NoBase) "__class__" = aa (aa (.builtin "object.__class__")))
  (k1TooWide:cu K (.ref C_TooWide) "__getattribute__" = aa (aa (.builtin "BaseException.__getattribute__")))
  (k2TooWide:cu K (.ref C_TooWide) "__getattr__" = aa none)
  (k3TooWide:fw K C_TooWide (.type "BaseException")=aa ak)
  (k4TooWide:fw K C_TooWide (.type "object")=aa ak)
  (k5TooWide:cu K (.ref C_TooWide) "__class__" = aa (aa (.builtin "object.__class__")))
  (sa:cu K (.ref C_TooWide) "__setattr__" = aa (aa (.builtin "object.__setattr__")))
  (ov:Ru K C_TooWide=ak)
  (tk1:m7 K C_TooWide "many" = aa none)
  (hdI:g0 K C_TooWide=ak)
  (no1:cu K (.ref C_TooWide) "many" = aa none)
  (hm_NoBase_NoBase:cx K (.ref C_NoBase) (.ref C_NoBase)=aa ak)
  (hm_TooWide_NoBase:cx K (.ref C_TooWide) (.ref C_NoBase)=aa aF)
  (hm_TooWide_TooWide:cx K (.ref C_TooWide) (.ref C_TooWide)=aa ak)
  (ha_NoBase:hQ K (.ref C_NoBase) [.ref C_TooWide,.ref C_TooGreat]=aa aF)
  (hi_we:bW K (.ref C_TooWide) (.ref C_WheelError)=aa ak)
  (hi_val:bW K (.ref C_TooWide) (.type "ValueError")=aa ak)
  (hi_tg:bW K (.ref C_TooWide) (.ref C_TooGreat)=aa aF)
   (aL:bL K au "law" = aa (aa (.ref fL))) (lL:K.lookup fL=aa ⟨ocL,odL,.func (fO "law" TZ kVL dcL pmL anL cdL ctL),slL⟩) (cL:dj K cdL "law" = ak) (kL:cX K (.ref fL)=ak) :
  ∃ fd:fC,(∀ (s:ar) (v:ag),g5 s fd ⟨[v],[]⟩ [("_law_script",v)])/\∀ base:bO,K.In base->base.Ns au mg->base.BuiltinsAt mg au->FnOk l.prog w K mg base (CXE l.prog w) 14 E fd ["_law_script"] (Ub K):=by
 have e:=hfa.symm.trans (c9 X G aL)
 cases e
 have T:Txt K mg:=⟨U3 X G g_LEAST_BASE,
  U3 X G g_GREATEST_BASE,
  U3 X G g_MOST_LETTERS,
  U3 X G g_MOST_NAMES,
  ba X G z_ValueError,
  ba X G z_all,
  ba X G z_bool,
  ba X G z_dict,
  ba X G z_enumerate,
  ba X G z_int,
  ba X G z_isinstance,
  ba X G z_len,
  ba X G z_list,
  ba X G z_max,
  ba X G z_min,
  ba X G z_range,
  ba X G z_set,
  ba X G z_sorted,
  ba X G z_str,
  ba X G z_sum,
  ba X G z_tuple,
  ba X G z_zip,
  ZQ X G D0 (λ_ _ _ _ _ _=>(ls1 (λ_=>rfl))),
  VQ X G a1 l1 d1 c1 k1 (λs us g D=>by revert us;exact ls2 λ_ _=>cM g rfl d1 rfl rfl rfl) (λs us g D=>by revert us;exact lsS (ls1 λ_=>cM g rfl d1 rfl rfl rfl)),
  VQ X G a2 l2 d2 c2 k2 (λs us g D=>by revert us;exact ls2 λ_ _=>cM g rfl d2 rfl rfl rfl) (λs us g D=>by revert us;exact lsS (ls1 λ_=>cM g rfl d2 rfl rfl rfl)),
  ZQ X G D3 (λ_ _ _ _ _ _=>(ls2 (λ_ _=>rfl))),
  ZQ X G D4 (λ_ _ _ _ _ _=>(ls2 (λ_ _=>rfl))),
  VQ X G a5 l5 d5 c5 k5 (λs us g D=>by revert us;exact ls2 λ_ _=>cM g rfl d5 rfl rfl rfl) (λs us g D=>by revert us;exact lsS (ls1 λ_=>cM g rfl d5 rfl rfl rfl)),
  VQ X G a6 l6 d6 c6 k6 (λs us g D=>by revert us;exact ls2 λ_ _=>cM g rfl d6 rfl rfl rfl) (λs us g D=>by revert us;exact lsS (ls1 λ_=>cM g rfl d6 rfl rfl rfl)),
  VQ X G a7 l7 d7 c7 k7 (λs us g D=>by revert us;exact ls3 λ_ _ _=>cM g rfl d7 rfl rfl rfl) (λs us g D=>by revert us;exact lsS (ls2 λ_ _=>cM g rfl d7 rfl rfl rfl)),
  ZQ X G D8 (λ_ _ _ _ _ _=>(ls2 (λ_ _=>rfl))),
  ZQ X G D9 (λ_ _ _ _ _ _=>(ls2 (λ_ _=>rfl))),
  ZQ X G D10 (λ_ _ _ _ _ _=>(ls4 (λ_ _ _ _=>rfl))),
  ZQ X G D11 (λ_ _ _ _ _ _=>(ls5 (λ_ _ _ _ _=>rfl))),
  ⟨q12,Nf X G a12 l12 c12 k12 m12 (ls2 (λ_ _=>rfl))⟩,
  ZQ X G D13 (λ_ _ _ _ _ _=>(ls1 (λ_=>rfl))),
  ZQ X G D14 (λ_ _ _ _ _ _=>(ls2 (λ_ _=>rfl))),
  ZQ X G D15 (λ_ _ _ _ _ _=>(ls1 (λ_=>rfl))),
  ZQ X G D16 (λ_ _ _ _ _ _=>(ls1 (λ_=>rfl))),
  ZQ X G D17 (λ_ _ _ _ _ _=>(ls5 (λ_ _ _ _ _=>rfl))),
  ZQ X G D18 (λ_ _ _ _ _ _=>(ls2 (λ_ _=>rfl))),
  ZQ X G D19 (λ_ _ _ _ _ _=>(ls1 (λ_=>rfl))),
  ZQ X G D20 (λ_ _ _ _ _ _=>(ls2 (λ_ _=>rfl))),
  ZQ X G D21 (λ_ _ _ _ _ _=>(ls2 (λ_ _=>rfl))),
  ZQ X G D22 (λ_ _ _ _ _ _=>(ls2 (λ_ _=>rfl))),
  ZQ X G D23 (λ_ _ _ _ _ _=>(ls1 (λ_=>rfl))),
  ZQ X G D24 (λ_ _ _ _ _ _=>(ls4 (λ_ _ _ _=>rfl))),
  ⟨q25,Nf X G a25 l25 c25 k25 m25 (ls4 (λ_ _ _ _=>rfl))⟩,
  ZQ X G D26 (λ_ _ _ _ _ _=>(ls2 (λ_ _=>rfl))),
  ZQ X G D27 (λ_ _ _ _ _ _=>(ls2 (λ_ _=>rfl))),
  ZQ X G D28 (λ_ _ _ _ _ _=>(ls1 (λ_=>rfl))),
  ZQ X G D29 (λ_ _ _ _ _ _=>(ls2 (λ_ _=>rfl))),
  ZQ X G D30 (λ_ _ _ _ _ _=>(ls1 (λ_=>rfl))),
  ZQ X G D31 (λ_ _ _ _ _ _=>(ls3 (λ_ _ _=>rfl))),
  ZQ X G D32 (λ_ _ _ _ _ _=>(ls3 (λ_ _ _=>rfl))),
  ZQ X G D33 (λ_ _ _ _ _ _=>(ls4 (λ_ _ _ _=>rfl))),
  ZQ X G D34 (λ_ _ _ _ _ _=>(ls2 (λ_ _=>rfl))),
  ZQ X G D35 (λ_ _ _ _ _ _=>(ls4 (λ_ _ _ _=>rfl))),
  ⟨C_WheelError,C_NoBase,C_TooGreat,C_TooWide,C_NoName,⟨c9 X G cc_WheelError,c9 X G cc_NoBase,c9 X G cc_TooGreat,c9 X G cc_TooWide,c9 X G cc_NoName,hx_NoBase,⟨65,_,Fb hI,⟨⟨i,f,j,m,c,r,a,q,b,rfl,lI,cI⟩,kI⟩,.all (ls2 (λ_ _=>rfl))⟩,⟨⟨k1NoBase,k2NoBase,k3NoBase,k4NoBase⟩,k5NoBase,kc6,kc7⟩,⟨⟨k1TooWide,k2TooWide,k3TooWide,k4TooWide⟩,k5TooWide,kc6,kc7⟩,⟨sa,ov,tk1,hdI⟩,⟨⟨k1TooWide,k2TooWide,k3TooWide,k4TooWide⟩,hdI,no1⟩,hm_NoBase_NoBase,hm_TooWide_NoBase,hm_TooWide_TooWide,ha_NoBase,hi_we,hi_val,hi_tg⟩⟩⟩
 exact⟨fO "law" TZ kVL dcL pmL anL cdL ctL,λs v=>.of_eq rfl,λbase _ _ B=>Bd T B (λ_ h=>h) ⟨⟨ocL,odL,kVL,dcL,pmL,anL,cdL,ctL,slL,rfl,lL,cL⟩,kL⟩⟩
theorem walk{q:bC}{loose:List aQ}{XP:(aQ->Option ag)->bO->Prop}{YP:bV->bO->Prop}{d:DefRec}{K:Params->aJ}(hn:l.most=aa 63)(L:d.params.defaults=[])
  (hY:∀ (w:bV) (h:bO),YP w h->(K w.params).In h) (hYt:∀ (w:bV) (h:bO),YP w h->∀ p∈ts0,h.get? p.1=aa (iw #[])) (hK:∀ (w:bV) (p:ao×(Nat->Nat->aQ)),p∈ts0->(K w.params).lookup p.1=none/\∃ c,dD (K w.params) c p.1=ak)
  (F:∀ (w:bV) (mg:aQ->Option ag) (E:ao) (h:bO),(K w.params).In h->h.Ns au mg->mg d.name=aa (.ref E) ->
   ∃ fd:fC,(∀ (s:ar) (u:ag),g5 s fd ⟨[u],[]⟩ [("_law_script",u)])/\∀ base:bO,(K w.params).In base->base.Ns au mg->base.BuiltinsAt mg au->FnOk l.prog w (K w.params) mg base (CXE l.prog w) 14 E fd ["_law_script"] (Ub (K w.params))) :
  lN q loose XP YP l.row.toRowW d [] (λf vs=>iP f vs) :=
 L2.GK (ts:=ts0) (n:=63) (k:=14) (x := "_law_script") (CX:=λw=>CXE l.prog w) (sp:=λw=>Ub (K w.params)) (by decide) hn (by decide) L ⟨rfl,by decide,by decide⟩ hY hYt hK F (λ_ _ a ns D M X C=>⟨X,a,ns,rfl,C,D,M,λ_ m=>⟨rfl,m⟩⟩) λ_ _ _ _ _ ⟨_,_,_,_,_,_,_,_,_,_,_,_,_,z⟩=>z
variable{sl:Array (Option ag)}
theorem Bf{f q:ao}{oc kV b pm ct:ag}{od an:Option ao}(a:bL K au "reached_by" = aa (aa (.ref f)))(l:K.lookup f=aa ⟨oc,od,.func (fO "reached_by" Y6 kV b pm an (.ref q) ct),sl⟩)(m:dD K q XU=ak):∃ c,dD K c XU=true:=⟨q,m⟩
theorem Bg{f q:ao}{oc kV b pm ct:ag}{od an:Option ao}(a:bL K au "sums" = aa (aa (.ref f)))(l:K.lookup f=aa ⟨oc,od,.func (fO "sums" Y7 kV b pm an (.ref q) ct),sl⟩)(m:dD K q XV=ak):∃ c,dD K c XV=true:=⟨q,m⟩
end K32
namespace PySem.W.Fast
theorem tw7785739842777093603:True:=⟨⟩
theorem tw16351258875334920909:True:=⟨⟩
theorem tw1376027104481727874:True:=⟨⟩
theorem tw14382035927854935920:True:=⟨⟩
theorem tw9948381259885785189:True:=⟨⟩
theorem tw8959376215099275262:True:=⟨⟩
theorem tw537213747849131194:True:=⟨⟩
theorem tw13804958036027212290:True:=⟨⟩
theorem tw12487860220426473394:True:=⟨⟩
theorem tw10695534521061226370:True:=⟨⟩
theorem tw638386084814304547:True:=⟨⟩
theorem tw14155826676573522494:True:=⟨⟩
theorem tw3634150244337726857:True:=⟨⟩
theorem tw9152833156789481654:True:=⟨⟩
theorem tw11130369137359222178:True:=⟨⟩
theorem tw6600188697884810674:True:=⟨⟩
theorem tw10869450778384210795:True:=⟨⟩
theorem tw14393453764055648658:True:=⟨⟩
theorem tw10346392222584763213:True:=⟨⟩
theorem tw2103926804678710378:True:=⟨⟩
theorem tw16307411679745971364:True:=⟨⟩
theorem tw3978401385330274148:True:=⟨⟩
theorem tw4668497049125325293:True:=⟨⟩
theorem tw16661313790398094407:True:=⟨⟩
theorem tw11436671304241489980:True:=⟨⟩
theorem tw10094881202979313563:True:=⟨⟩
theorem tw9645308270969346622:True:=⟨⟩
theorem tw9163419365507336134:True:=⟨⟩
theorem tw300203158339454652:True:=⟨⟩
theorem tw1265190565900342947:True:=⟨⟩
theorem tw8384885030937142092:True:=⟨⟩
theorem tw16080594308760678421:True:=⟨⟩
theorem tw12798653506386777901:True:=⟨⟩
theorem tw8460944990592191449:True:=⟨⟩
theorem tw7973553385671554865:True:=⟨⟩
theorem tw15548750949440147941:True:=⟨⟩
theorem tw9831595018343145473:True:=⟨⟩
theorem tw8976408129383623716:True:=⟨⟩
theorem tw12757610620926824401:True:=⟨⟩
theorem tw13189512786106606392:True:=⟨⟩
theorem tw6155860183929551849:True:=⟨⟩
theorem tw2212664098732017656:True:=⟨⟩
theorem tw17139726457304649936:True:=⟨⟩
theorem tw5330093827777920552:True:=⟨⟩
theorem tw3937690370642501464:True:=⟨⟩
theorem tw1713530775720281875:True:=⟨⟩
theorem tw7383478431922397656:True:=⟨⟩
theorem tw13922991520397051070:True:=⟨⟩
theorem tw15939772440864529991:True:=⟨⟩
theorem tw2299216658017789396:True:=⟨⟩
theorem tw8639909661556332201:True:=⟨⟩
theorem tw12219820768412023841:True:=⟨⟩
theorem tw6843766375239068027:True:=⟨⟩
theorem tw9971357989623001528:True:=⟨⟩
theorem tw2483655461133418681:True:=⟨⟩
theorem tw10773589536966908521:True:=⟨⟩
theorem tw675967337384198374:True:=⟨⟩
theorem tw18287026386319872146:True:=⟨⟩
theorem tw6332066964189994945:True:=⟨⟩
theorem tw8893629444048880764:True:=⟨⟩
theorem tw15491657300738486585:True:=⟨⟩
theorem tw10427952902818665266:True:=⟨⟩
theorem tw8545302367669647849:True:=⟨⟩
theorem tw3932240675097637561:True:=⟨⟩
theorem tw8536409824478908063:True:=⟨⟩
theorem tw16824113836735327807:True:=⟨⟩
theorem tw2520998966170536965:True:=⟨⟩
theorem tw11232696253138472816:True:=⟨⟩
theorem tw6300326724474145008:True:=⟨⟩
theorem tw449396828605086235:True:=⟨⟩
theorem tw1790596520753534780:True:=⟨⟩
theorem tw1902862871036733917:True:=⟨⟩
theorem tw12695710157393708338:True:=⟨⟩
theorem tw3181396358046898794:True:=⟨⟩
theorem tw5427942621533419231:True:=⟨⟩
theorem tw12612598465990847569:True:=⟨⟩
theorem tw1780053869001501984:True:=⟨⟩
theorem tw4675753213230119239:True:=⟨⟩
theorem tw15379968141013646931:True:=⟨⟩
theorem tw10179405559063255634:True:=⟨⟩
theorem tw6778283723560182341:True:=⟨⟩
theorem tw3850711769465135605:True:=⟨⟩
theorem tw11748273030998088438:True:=⟨⟩
theorem tw7901994489486809237:True:=⟨⟩
theorem tw15906609833511967574:True:=⟨⟩
theorem tw13759727411042538302:True:=⟨⟩
theorem tw10119813523420602586:True:=⟨⟩
theorem tw8039257898664627474:True:=⟨⟩
theorem tw14866551428136391804:True:=⟨⟩
theorem tw12466402963469329862:True:=⟨⟩
theorem tw12043124245300783055:True:=⟨⟩
theorem tw9051702467665120832:True:=⟨⟩
theorem tw10079485148768540007:True:=⟨⟩
theorem tw17533850205669154515:True:=⟨⟩
theorem tw7064815055112035906:True:=⟨⟩
theorem tw16656983160349244941:True:=⟨⟩
theorem tw11586254680185423920:True:=⟨⟩
theorem tw10319796179272690788:True:=⟨⟩
theorem tw12451187519082220325:True:=⟨⟩
theorem tw12106438023285999189:True:=⟨⟩
theorem tw12162067459590288182:True:=⟨⟩
theorem tw10113247833790720335:True:=⟨⟩
theorem tw12155461032219243108:True:=⟨⟩
theorem tw2001872492041317245:True:=⟨⟩
theorem tw4483756060216045744:True:=⟨⟩
theorem tw6123533283973926681:True:=⟨⟩
theorem tw18281365715338216891:True:=⟨⟩
theorem tw2126916936654229280:True:=⟨⟩
theorem tw9436182596793429345:True:=⟨⟩
theorem tw5588977541092480395:True:=⟨⟩
theorem tw18405481178346650337:True:=⟨⟩
theorem tw1126232337927285998:True:=⟨⟩
theorem tw4935558195952854008:True:=⟨⟩
theorem tw15099054149925766950:True:=⟨⟩
theorem tw1032614616031888158:True:=⟨⟩
theorem tw11786223267926760832:True:=⟨⟩
theorem tw12803542731861463252:True:=⟨⟩
theorem tw12120405659617958214:True:=⟨⟩
theorem tw6931316473745184432:True:=⟨⟩
theorem tw4099867702879971761:True:=⟨⟩
theorem tw1207709599366994693:True:=⟨⟩
theorem tw18160616490173966342:True:=⟨⟩
theorem tw18417487304021673168:True:=⟨⟩
theorem tw9039238686711386766:True:=⟨⟩
theorem tw1006542148835115324:True:=⟨⟩
theorem tw10591894733147402442:True:=⟨⟩
theorem tw6747236686614318039:True:=⟨⟩
theorem tw2851687422958012121:True:=⟨⟩
theorem tw7976747249309181168:True:=⟨⟩
theorem tw14804036300121736373:True:=⟨⟩
theorem tw9012627966491009982:True:=⟨⟩
end PySem.W.Fast
open PySem PySem.W PyProof.Rows
set_option maxRecDepth 100000 in
set_option maxHeartbeats 0 in
theorem PySem.Challenge.cw_figurewheel_k32_sums_holds : PySem.Challenge.rw_figurewheel_k32_sums.Holds := by
 w_on;o_law;k_head;(case hw=>w_witness2)
 k_fill
 refine' K32.walk (l:=PySem.Challenge.rw_figurewheel_k32_sums) rfl rfl (fun w h Y=>PySem.W.km_in_of Y) ?hYt ?hK ?F
 case hYt =>
  intro w h Y p T
  exact PySem.W.km_tabs_of Y p.1 (by revert p;decide)
 case hK =>
  intro w p T
  simp only[K32.ts0,List.mem_cons,List.not_mem_nil,or_false] at T
  rcases T with rfl|rfl
  ·refine' ⟨by kernel_rfl,K32.Bf ?a ?l ?m⟩
   (case a=>k_is)
   (case l=>k_is)
   (case m=>kernel_rfl)
  ·refine' ⟨by kernel_rfl,K32.Bg ?a ?l ?m⟩
   (case a=>k_is)
   (case l=>k_is)
   (case m=>kernel_rfl)
 case F =>
  intro w mg E h g G I
  refine' K32.Be g G I ?g_LEAST_BASE ?g_GREATEST_BASE ?g_MOST_LETTERS ?g_MOST_NAMES ?z_ValueError ?z_all ?z_bool ?z_dict ?z_enumerate ?z_int ?z_isinstance ?z_len ?z_list ?z_max ?z_min ?z_range ?z_set ?z_sorted ?z_str ?z_sum ?z_tuple ?z_zip ?D0 ?a1 ?l1 ?d1 ?c1 ?k1 ?a2 ?l2 ?d2 ?c2 ?k2 ?D3 ?D4 ?a5 ?l5 ?d5 ?c5 ?k5 ?a6 ?l6 ?d6 ?c6 ?k6 ?a7 ?l7 ?d7 ?c7 ?k7 ?D8 ?D9 ?D10 ?D11 ?a12 ?l12 ?c12 ?k12 ?m12 ?D13 ?D14 ?D15 ?D16 ?D17 ?D18 ?D19 ?D20 ?D21 ?D22 ?D23 ?D24 ?a25 ?l25 ?c25 ?k25 ?m25 ?D26 ?D27 ?D28 ?D29 ?D30 ?D31 ?D32 ?D33 ?D34 ?D35 ?cc_WheelError ?cc_NoBase ?cc_TooGreat ?cc_TooWide ?cc_NoName ?hx_NoBase ?hI ?lI ?cI ?kI ?kc6 ?kc7 ?k1NoBase ?k2NoBase ?k3NoBase ?k4NoBase ?k5NoBase ?k1TooWide ?k2TooWide ?k3TooWide ?k4TooWide ?k5TooWide ?sa ?ov ?tk1 ?hdI ?no1 ?hm_NoBase_NoBase ?hm_TooWide_NoBase ?hm_TooWide_TooWide ?ha_NoBase ?hi_we ?hi_val ?hi_tg ?aL ?lL ?cL ?kL
  (case D0|D3|D4|D8|D9|D10|D11|D13|D14|D15|D16|D17|D18|D19|D20|D21|D22|D23|D24|D26|D27|D28|D29|D30|D31|D32|D33|D34|D35=>(refine' L2.FX ?a ?l ?c ?k;(case a=>k_is);(case l=>k_is);(case c=>k_is);(case k=>k_is)))
  (case g_LEAST_BASE|g_GREATEST_BASE|g_MOST_LETTERS|g_MOST_NAMES|z_ValueError|z_all|z_bool|z_dict|z_enumerate|z_int|z_isinstance|z_len|z_list|z_max|z_min|z_range|z_set|z_sorted|z_str|z_sum|z_tuple|z_zip|a1|l1|d1|c1|k1|a2|l2|d2|c2|k2|a5|l5|d5|c5|k5|a6|l6|d6|c6|k6|a7|l7|d7|c7|k7|a12|l12|c12|k12 =>k_is)
  (case m12=>kernel_rfl)
  (case a25|l25|c25|k25 =>k_is)
  (case m25=>kernel_rfl)
  (case cc_WheelError|cc_NoBase|cc_TooGreat|cc_TooWide|cc_NoName =>k_is)
  (case hx_NoBase=>k_exc)
  (case hI=>kernel_rfl)
  (case lI|cI|kI|kc6|kc7|k1NoBase|k2NoBase|k3NoBase|k4NoBase|k5NoBase|k1TooWide|k2TooWide|k3TooWide|k4TooWide|k5TooWide|sa =>k_is)
  (case ov=>kernel_rfl)
  (case tk1|hdI|no1 =>k_is)
  (case hm_NoBase_NoBase=>kts_exm)
  (case hm_TooWide_NoBase=>kts_exm)
  (case hm_TooWide_TooWide=>kts_exm)
  (case ha_NoBase=>kit_is)
  (case hi_we=>kit_is)
  (case hi_val=>kit_is)
  (case hi_tg=>kit_is)
  (case aL|lL|cL|kL =>k_is)
end
