import PyProof.Rows.All
import Wide.All
import OpenK.AllK
import Wide.FinOn
import PyProof.EqAt
import PyProof.EqKinds
import PyProof.TupleCall
import PyProof.ExcBaseAll.ValueError
import PyProof.ExcArgsOwn
import PyProof.ExcInit
import PyProof.InstStoreFacts
import Lean
import PySem.Challenge.RW_figurewheel_k52_whole_no_statement
set_option linter.all false
set_option Elab.async false
set_option maxRecDepth 100000
set_option maxHeartbeats 4000000
set_option bootstrap.genMatcherCode false
set_option compiler.extract_closed false
open List (all_cons all_map forIn_nil mem_append mem_filterMap mem_map mem_range mem_singleton nodup_cons nodup_nil)
open Option renaming some->aa,isSome_map->eB,bind_some->gs,isSome_some->iN,getD_none->i8
open Bool renaming true->ac,false_ne_true->ap,false->aw,and_eq_true->aJ,true_and->br,false_eq_true->bF,false_and->bI,not_true->bV,and_false->cx,not_eq_true->dm,eq_iff_iff->dy,not_false->et,or_eq_true->gQ,or_true->im,or_false->jV,and_true->jW
open PySem renaming wpAny_bind->ae,Value->af,Addr->ah,mainGlobals->aj,PyData->ak,wpAny_pure->am,Shared->aq,Str->au,starEach->aB,wpAny->aG,model->aI,boot_len->aV,Program->bg,wpAny_mono->bi,Around->bv,compareOp->bx,mem_of_lookup->bA,cellsFrom->bC,Heap->bG,World->bK,wpAny_Call_Name_kw->bT,backTo->bZ,eval->cg,binaryOp->cr,Expr->cz,pushCells->cI,wpAny_truthy_bool->cJ,cLine->cK,FuncData->cS,codeAny_mono->cX,wpAny_passesOwn->da,wpAny_standAt->db,wpAny_holding->de,attributeBase->df,wpAny_newObj_type->dj,wpAny_call->dn,bootBuiltins->du,ExcBaseFacts->dw,pushCells_keeps->dB,tupleKind_room_in1->dD,Obj->dE,wpAny_field->dF,Scope->dG,wpAny_loadPart_at->dP,NameKind->dR,codeAmong->d5,assignEach->d6,codeAny->eh,sliceBounds->em,keywordEach->eo,Stmt->er,wpAny_specialOf->eu,wpAny_execs_nil->ew,Env->eF,sysModules->eM,Within->eT,sizeLine_eq->eX,excClassObj->eY,rawInt->e9,wpAny_forIn_list->fh,intText?->fj,typeIs_str->fw,isInstance->fx,call_meets->fy,builtinsNs->fA,BindsTo->fD,atKey->fE,isSubtype_tuple_tuple->fN,call->fP,wpAny_loadPart->gd,unbindBehindTheSuite->gf,newFunctionEnv->gg,backToKw->gh,tupleKind->gq,getMethod->gr,wpAny_in_heap->gA,behindInMarks->gB,wpAny_tupleItemsOf->gE,IsPart->gG,wpAny_Call_ofName->gR,valueAt->gU,getItem->gV,foldedSetIterable->gW,concat_meets->gX,callerA->gY,plainObj_wpAny_Assign_Attribute->g6,wpAny_lookBehind->g9,wpAny_isInstance->g_,wpAny_call_entry->hx,swapsWith->hE,pastItsLine_dict->hG,noFill_tuple_add->hH,Paired->hJ,KeyKind->hV,letOwnedTupleGo->h_,Keyword->ie,wpAny_setField->ip,wpAny_newFunctionEnv_cells->iq,callWith->ir,Tok->iL,seq_tuple_add->iO,storeName->iX,eqIsQuiet->iY,bindL->iZ,bindC->i2,TriplesOk->i4,wpAny_nsSet1->jb,tupleKeyHash->jc,standAt->jd,relabel->je,holding->jf,getAttr->jg,Builtin->jm,wpAny_storeName_local->jr,codeAny_call_function->js,wpAny_point->jx,wpAny_letTemporaryGo->jy,wpAny_alloc->jz,subscripted->jA,codeAny_call_builtin->jB,wpAny_isSubtype_exc->jF,Pos->jJ,wpAny_getItem_heap->jO,wpAny_Name->jP,typeIs_int->jQ,PlainAttrs->jU,wpAny_pyIter_list->jY,wpAny_pyIter_enum->jZ,setAttr->j0,leaving->j1,fresh->j2,eqIsQuiet_byValue->j3
open PySem.W renaming findIn->ag,kitOne->ao,Frag->ay,keepIn->az,codeIn->aH,fnOf->aM,nsIn->aP,isFn->aW,kia_one->ba,mg_of->bb,hasDictIn->be,plainGet->bw,plainOver->bB,mroIn->bJ,mg_none_of->bO,makesIn->bP,InstAt->bR,emptyDict->ce,callWith_K->cp,instObj->cA,cellsFrom_some->cN,kla_obj->cP,hideAll_get->dh,methodCall_KW->dC,codeHdIn->dQ,takerIn->d3,looks_clsIn->eE,specialIn->eZ,lookIn->e_,exmOne->fa,plainGet_of->fk,callWith_K0->fm,any_some->fq,tabObj->fB,takesIn->fF,set_plain->fQ,methodObj->fR,looks_findIn->fS,kitx_list->fT,OpenLaw->gi,handedIn->gw,hideAll_none->ia,findObj_own->ib,tail_of_in->iu,of_hideAll->iv,kitx_tuple->iw,codeRec_of->ix,kitx_none->iI,kitx_dict->iJ,kitx_bool->iK,kitx_str->iP,kitx_int->iQ,WalkO->iR,hideAll->i3,tailIn->jh,nsOkIn->ji,kla_fn->jj,codeHd_of_K->jG,Looks->jH,findObj->j4
open PySem.Heap renaming get?_push_of_some->ai,lt_size->aA,get?_push_size->aN,get?_update_other->cn,size_push->cu,get?_none_of_le->dg,SameBut->el,get?_update_self->ff,MadeExcOf->g7,get?_update_ne->iS,get?_push_at->jl
open Nat renaming le_refl->ar,eq_zero_or_pos->ax,lt_of_lt_of_le->aE,ne_of_lt->aQ,le_trans->aT,lt_succ_of_lt->bM,lt_irrefl->bX,lt_succ_self->b_,le_of_lt->cc,ne_of_gt->cq,le_succ->cR,lt_or_ge->cT,zero_le->d0,le_add_left->d7,digitChar->f_,add_assoc->gb,toDigits_of_lt_base->ij,zero_add->iB,toDigits->iC,pow_succ->iD,pow_le_pow_right->iU,mul_le_mul_left->i9,one_le_two_pow->jo,lt_of_le_of_lt->jp
open List renaming length_map->aC,length_append->aO,getElem?_eq_getElem->aR,length_cons->aS,replicate->aU,getD_eq_getElem?_getD->bc,size_toArray->bn,map_cons->bp,mem_append_right->bD,range->bL,lookup_cons->bN,mem_append_left->bS,mem_cons_of_mem->b9,zip_cons_cons->cj,append_assoc->ck,getElem?_append_right->cw,getElem?_map->c_,length_reverse->dq,not_mem_nil->dL,lookup->dY,length_nil->d8,find?_cons->d9,append_nil->d_,getElem?_set_ne->eD,getElem?_append_left->eI,drop_eq_getElem_cons->eJ,map_nil->eL,replicate_succ->eQ,mem_cons->eR,map_append->eS,map_map->e7,getElem?_set_self->e8,mem_cons_self->fc,length_singleton->fg,mem_of_getElem?->fv,filterMap_cons->fM,getElem_range->gc,sum_cons->gk,length_take->gl,getElem_mem->gm,all_eq_true->gp,length_drop->gD,nil_append->gJ,length->gK,length_set->gN,forIn_cons->gO,dropLast_concat_getLast->gP,length_range->g4,flatten_cons->g5,getElem?_take_of_lt->hZ,sum_nil->ik,drop_eq_nil_of_le->il,of_mem_zip->iE,getElem?_eq_none->iF,filterMap_append->iG,mem_map_of_mem->iV,foldl->i_,contains_cons->i',map_snd_zip->ju,map_reverse->jv,getElem_zip->jw,range_succ->jD,any_cons->jE,map->jN,map_id'->ka
open PySem.Value renaming ref->aD,none->cG,builtin->dM,str->eN,int->eO,bool->eV,type->fU,float->iy,isStrOf->jI,isInt->j6,bytes->j7
open List.cons renaming inj->aF,injEq->gn
open Or renaming inl->aK,inr->eG
open PySem.F renaming plainAttrs_str->aX,type_str_join->bt,slot_str_join->bu,excBase_ValueError->bU,slot_list_append->ci,type_list_append->cE,plainAttrs_list->cH,slot_str_split->dv,args_tuple_add_2->eA,entry_tuple_add->eK,slot_tuple_add->eP,args_str_split_2->gy,entry_str_split->gH,type_str_split->hL,slot_tuple_hash->jL,slot_tuple_eq->j9,slot_int_rmul->j_
open PySem.PyData renaming str->aY,canLay0->b',tuple->cC,canLayAll0->cV,int->dt,eqv->fJ,strOk->hU,list->jS,bool->jT
open PySem.NumText renaming digitsVal->aZ
open Array renaming length_toList->a_,getElem?_eq_getElem->cB,getD_eq_getD_getElem?->eg,forIn_toList->fX,find?_toList->iW,all_toList->jq,toList->jX
open PyProof.Rows renaming boot_isinstance->bf,boot_int->bE,envOfC->bQ,boot_str->cM,callWith_type1->dH,AllBare->e6,wpAny_notIn_heap->fr,slot_tuple_getitem->fu,mem_iff_at->gz,boot_list->gC,boot_all->gI,IntsAre->ii,subscriptTail->iT,IsTup->i7,subscriptTail_builtinR->jn
open Option.some renaming inj->bh
open PySem.Txt renaming join->bj,slice->fG,contains->gx,split->gF
open False renaming elim->bq
open Prod renaming snd->bz,fst->bH,ext->jM
open True renaming intro->bW
open Ne renaming symm->bY
open PySem.Builtin.Str renaming occurrences->b0,strKind->g8,glued->jC
open PySem.W.KT renaming app_list->cf
open Prod.mk renaming injEq->cm,inj->fb
open PySem.Str renaming join->cy,empty->cW
open PySem.NameKind renaming free->cD,cell->cQ
open PySem.PyData.int renaming injEq->cF
open PySem.PassesOwn renaming never->cO
open PySem.Builtin.Slice renaming slicePlaces->cU,sliceAdjust->dW,sliceApplied->fW
open PySem.Builtin.Tuple renaming tupleExact->cY,tupleHashOf->dU,tupleItemsOf->fV
open PySem.Builtin.Int renaming intBits->cZ
open Int.ofNat renaming inj->di
open ForInStep renaming yield->dk
open Int renaming emod_lt_of_pos->dz,emod_nonneg->ed,eq_ofNat_of_zero_le->eW
open PySem.SeqAt renaming canLay_of_shaped->dA,shaped->jR
open Pure renaming pure->dZ
open PySem.Builtin.List renaming listTooLong->d4
open PySem.W.Looks renaming here->eU
open PySem.StrLaws renaming join_length_le->fC,glued_eq_join->fH,join_split->gj
open Nat.succ renaming inj->fK
open PySem.Within renaming cons->fY
open PySem.Obj renaming mapFields->fZ,isFreed_of_fields->iM,data_mapFields->jk
open Sum renaming inr->gu,inl->gv
open PySem.W.KIN renaming signs_num->gM
open PySem.Calls renaming Name_function_global->gZ,evalArgs_plain->iA
open PUnit renaming unit->g0
open PySem.EntryCells renaming newEntry->hO
open PySem.SeqAt.EqAt renaming str_int->hQ,int_str->hS
open PySem.Around renaming under->hW,frames_deeper->ih
open Subtype renaming ext->h6
open PySem.PyData.str renaming injEq->ic
open PySem.Code renaming isFrame->ig,quiet_builtin->i6
open PySem.Heap.Ns1 renaming of_empty->iz
open Subtype.mk renaming inj->iH
open Char renaming toNat->ja
open PySem.Heap.Ns renaming new->jK
open PySem.W.WShape renaming has->j5
open PySem.Heap.IsSliceOf renaming new->j8
open ForIn renaming forIn->kb
noncomputable section
set_option hygiene false
local macro_rules|`(tactic|walk_at "n")=>`(tactic|first|exact NR.av|exact NR.bor)
local macro_rules|`(tactic|walk_at "m")=>`(tactic|first|exact .inl rfl|exact .inr rfl|assumption)
set_option hygiene true
namespace PySem
section
variable {prog:bg}{w:bK}{KT:Type}[DecidableEq KT](kd:hV prog w KT)
def YO(h:bG)(z:KT×List KT)(a:ah):Prop :=
 ∃ (ob:dE) (its:Array af) (c:Nat) (u:af) (b:ah),h.get? a=aa ob/\ob.cls=.type "tuple" /\ ob.data=.seq its c/\its.toList=[u,.ref b]/\kd.is z.1 u=ac/\IsTupleKey kd h z.2 b
def SU(z:KT×List KT):Int:=reduceHash (dU [kd.hash z.1,jc kd z.2])
variable {kd}
theorem YO.tp{s:aq}{z:KT×List KT}{a:ah}(x:YO kd s.heap z a):s.TypeIs (.ref a) "tuple" :=
 (by obtain⟨g,_,_,_,_,e,Y,_⟩:=x;exact ⟨g,e,Y⟩)
theorem YO.one{h:bG}{a:ah}{y z:KT×List KT}(B:YO kd h y a)(C:YO kd h z a):y=z:=by
 obtain⟨g,o,i,Z,p,T,_,k,v,U,t⟩:=B
 obtain⟨S,E,F,m,G,M,_,w,f,n,Y⟩:=C
 rw[T] at M
 cases M
 rw[k] at w
 cases w
 rw[v] at f
 cases f
 exact jM (kd.inj _ _ _ U n) (t.inj Y)
theorem YO.stay{h h':bG}{z:KT×List KT}{a d:ah}{ob:dE}{es ep}(x:YO kd h z a)(hd:h.get? d=aa ob)(W:ob.data=.dict es ep)(B:el d h h'):YO kd h' z a:=by
 obtain⟨g,o,i,Z,p,T,k1,k,v,U,t⟩:=x
 have ne:a≠d:=λq=>by
  subst q
  rw[T] at hd
  cases hd
  rw[k] at W
  cases W
 exact⟨g,o,i,Z,p,(B.2 a ne).trans T,k1,k,v,U,t.keeps hd W B⟩
variable {A:bv}{E:af->aq->Prop}{s:aq}
theorem M9{z:KT×List KT}{a:ah}{Q:Int->aq->Prop}(S:A.units<cK/\A.in1.units<cK)(C:YO kd s.heap z a)(q:Q (SU kd z) { s with toks:=s.toks+(z.2.length+3) }) :
  aG (aI prog w) A (pyHash (.ref a)) Q E s:=by
 have tp:=C.tp
 obtain⟨g,its,c,u,b,T,_,k,v,U,t⟩:=C
 unfold pyHash
 unfold pyHashByItsType
 refine ae (wpAny_cRoomFor_or (.inr S.1) ?_)
 refine ae (eu tp jL.lookup ?_)
 show aG _ A (if (aa (dM "tuple.__hash__") == aa cG)=ac then _ else _) Q E s
 rw[if_neg (by rw[beq_builtin_none];exact ap)]
 refine ae (eu tp jL.lookup ?_)
 show aG _ A (callSpecialIfBoundUnlessNone? (.ref a) "__hash__" _ >>= _) Q E s
 refine ae (wpAny_callSpecialIfBoundUnlessNone?_slot tp jL (hx jL tp F.entry_tuple_hash ?_ (F.args_tuple_hash_1 _)))
 show aG _ _ (fV (.ref a) >>= _) _ _ s
 refine ae (gE T k ?_)
 refine ae ?_
 rw[<- fX,v]
 refine fh _
  (λrest (f:Array Int) s'=>(rest=[u,.ref b]/\f.toList=[]/\s'=s)\/(rest=[.ref b]/\f.toList=[kd.hash z.1]/\s'={ s with toks:=s.toks+1 })\/(rest=[]/\f.toList=[kd.hash z.1,jc kd z.2]/\s'={ s with toks:=s.toks+(z.2.length+2) }))
  _ ?_ ?_ _ _ (.inl ⟨rfl,rfl,rfl⟩)
 ·rintro x rest f s' (⟨r1,r2,rfl⟩|⟨r1,r2,rfl⟩|⟨r1,_⟩)
  ·cases r1
   refine ae (kd.pyHash U ?_)
   first
    | exact am (.inr (.inl ⟨rfl,by simp[r2],rfl⟩))
    | exact ae (am (am (.inr (.inl ⟨rfl,by simp[r2],rfl⟩))))
  ·cases r1
   refine ae (wpAny_pyHash_tuple S.2 t ?_)
   first
    | exact am (.inr (.inr ⟨rfl,by simp[r2],by simp;omega⟩))
    | exact ae (am (am (.inr (.inr ⟨rfl,by simp[r2],by simp;omega⟩))))
  ·cases r1
 ·rintro f s' (⟨r1,_⟩|⟨r1,_⟩|⟨_,r2,rfl⟩)
  ·cases r1
  ·cases r1
  show aG _ _ (retInt (dU f.toList)) _ _ _
  rw[r2]
  refine wpAny_ret_mkInt ?_
  unfold SU reduceHash at q
  generalize dU [kd.hash z.1,jc kd z.2]=m at q
  show aG _ A (if (decide (-(2:Int) ^ 63<=m) && decide (m<2 ^ 63))=ac then _ else _) Q E _
  split at q<;>rename_i hr
  ·rw[if_pos hr]
   exact am (by simpa [gb] using q)
  ·rw[if_neg hr]
   exact ae (wpAny_rule (am (by simpa [gb] using q)))
theorem La{y z:KT×List KT}{a b:ah}{R:Fin->aq->Prop}(j:A.units<cK)(B:YO kd s.heap y a)(C:YO kd s.heap z b)(q:R (.done (.ret (.bool (decide (y=z))))) s) :
  aG (aI prog w) A (jm.«tuple.__eq__» ⟨[.ref a,.ref b],[]⟩) R E s:=by
 have O:=C.tp
 obtain⟨g,o,i,Z,p,T,k1,k,v,U,t⟩:=B
 obtain⟨S,u,F,m,G,M,k2,K,f,n,Y⟩:=C
 show aG _ A (fx (.ref b) (.type "tuple") >>= _) _ _ s
 refine ae (g_ O fN ?_)
 simp only[bV,bF,if_false]
 refine ae (gE T k ?_)
 refine ae (gE M K ?_)
 have h:(o.size == u.size)=true:=by
  have Q:=congrArg gK v
  have H:=congrArg gK f
  rw[a_] at Q H
  rw[Q,H];rfl
 refine ae ?_
 rw[v,f]
 refine fh _
  (λW r l=>r.1=none/\l=s/\(W=[(Z,m),(.ref p,.ref G)]\/(W=[(.ref p,.ref G)]/\y.1=z.1)\/(W=[]/\y=z)))
  _ ?_ ?_ _ _ ⟨rfl,rfl,.inl rfl⟩
 ·rintro x W r l ⟨J,rfl,L|⟨L,c⟩|⟨L,_⟩⟩
  ·cases L
   refine ae (kd.eqBool (a:=y.1) (b:=z.1) U n ?_)
   by_cases N:y.1=z.1
   ·rw[decide_eq_true N]
    simp only[bV,bF,if_false]
    exact am ⟨rfl,rfl,.inr (.inl ⟨by trivial,N⟩)⟩
   ·rw[decide_eq_false N]
    simp only[et,if_true]
    rw[decide_eq_false (λe=>N (by rw[e]))] at q
    exact ae (am (am (am q)))
  ·cases L
   refine ae (wpAny_eqBool_tuple j t Y ?_)
   by_cases N:y.2=z.2
   ·rw[decide_eq_true N]
    simp only[bV,bF,if_false]
    exact am ⟨rfl,rfl,.inr (.inr ⟨by trivial,jM c N⟩)⟩
   ·rw[decide_eq_false N]
    simp only[et,if_true]
    rw[decide_eq_false (λe=>N (by rw[e]))] at q
    exact ae (am (am (am q)))
  ·cases L
 ·rintro⟨L,P⟩ l ⟨J,rfl,I|⟨I,_⟩|⟨_,c⟩⟩
  ·cases I
  ·cases I
  simp only at J
  subst J
  refine am ?_
  show R (.done (.ret (.bool (o.size == u.size)))) l
  rw[h]
  rw[decide_eq_true c] at q
  exact q
theorem Lb{y z:KT×List KT}{a b:ah}{Q:Bool->aq->Prop}(S:A.units<cK/\A.in1.units<cK)(B:YO kd s.heap y a)(C:YO kd s.heap z b)(q:Q (decide (y=z)) s) :
  aG (aI prog w) A (eqBool (.ref a) (.ref b)) Q E s:=by
 unfold eqBool
 try with_reducible refine de ?_
 show aG _ A (if (aD a == aD b)=ac then _ else _) Q E s
 by_cases ab:(aD a == aD b)=ac
 ·rw[if_pos ab]
  have e:a=b:=by have:=eq_of_beq ab;injection this
  subst e
  have M:=B.one C
  subst M
  exact ae (wpAny_rule (am (by simpa using q)))
 ·rw[if_neg ab]
  exact ae (wpAny_richCompare_same_room (op:=.Eq) B.tp C.tp j9 (hx j9 B.tp F.entry_tuple_eq (La S.2 B C ⟨_,rfl,(λe=>nomatch e),cJ q⟩) (F.args_tuple_eq_2 _ _)) S.1)
theorem Lc{ks:List KT}{a:ah}{m:Nat}{Q:Bool->aq->Prop}(N:IsTupleKey kd s.heap ks a)(q:Q ac s):aG (aI prog w) A (iY (m+1) (.ref a)) Q E s:=by
 have tp:=N.typeIs
 obtain⟨g,o,i,T,_,k,t⟩:=N
 unfold iY
 refine ae (eu tp j9.lookup ?_)
 show aG _ A (fx (.ref a) (.type "tuple") >>= _) _ _ s
 refine ae (g_ tp fN ?_)
 simp only[bV,bF,if_false]
 refine ae (wpAny_seqItems T k ?_)
 refine ae ?_
 show aG _ A (kb o _ _) _ _ s
 rw[<- fX]
 refine fh _ (λW r l=>r.1=none/\l=s/\∀ v∈W,carriedByValue v=ac) _ ?_ ?_ _ _ ⟨rfl,rfl,t.byValue⟩
 ·rintro x W r l ⟨J,rfl,al⟩
  rw[j3 _ (al x (.head _))]
  refine ae (am ?_)
  simp only[bV,bF,if_false]
  exact am ⟨rfl,rfl,λv S=>al v (.tail _ S)⟩
 ·rintro⟨L,P⟩ l ⟨J,rfl,_⟩
  simp only at J
  subst J
  exact am q
theorem Ld{z:KT×List KT}{a:ah}{Q:Bool->aq->Prop}(C:YO kd s.heap z a)(q:Q ac s):aG (aI prog w) A (iY 8 (.ref a)) Q E s:=by
 have tp:=C.tp
 obtain⟨g,o,i,Z,p,T,_,k,v,U,t⟩:=C
 unfold iY
 refine ae (eu tp j9.lookup ?_)
 show aG _ A (fx (.ref a) (.type "tuple") >>= _) _ _ s
 refine ae (g_ tp fN ?_)
 simp only[bV,bF,if_false]
 refine ae (wpAny_seqItems T k ?_)
 refine ae ?_
 show aG _ A (kb o _ _) _ _ s
 rw[<- fX,v]
 refine fh _ (λW r l=>r.1=none/\l=s/\(W=[Z,.ref p]\/W=[.ref p]\/W=[])) _ ?_ ?_ _ _ ⟨rfl,rfl,.inl rfl⟩
 ·rintro x W r l ⟨J,rfl,L|L|L⟩
  ·cases L
   rw[j3 _ (kd.byValue _ _ U)]
   refine ae (am ?_)
   simp only[bV,bF,if_false]
   refine am ⟨rfl,rfl,?_⟩
   exact .inr (.inl (by trivial))
  ·cases L
   refine ae (Lc t ?_)
   simp only[bV,bF,if_false]
   refine am ⟨rfl,rfl,?_⟩
   exact .inr (.inr (by trivial))
  ·cases L
 ·rintro⟨L,P⟩ l ⟨J,rfl,_⟩
  simp only at J
  subst J
  exact am q
end
def Vn{prog:bg}{w:bK}{KT:Type}[DecidableEq KT](kd:hV prog w KT):HeapKind prog w (KT×List KT) where
 is:=YO kd
 hash:=SU kd
 draws:=λz=>z.2.length+3
 room:=λA=>A.units<cK/\A.in1.units<cK
 inj:=YO.one
 keeps:=YO.stay
 pyHash:=M9
 eqBool:=Lb
 quiet:=Ld
end PySem
namespace HT
open PySem PyProof.Rows
section
variable {prog:bg}{w:bK}{A:bv}{E:af->aq->Prop}{s:aq}
theorem LI{t b:ah}{vs ws:List af}{Q:af->aq->Prop}(ht:i7 s.heap t vs.toArray)(hb:i7 s.heap b ws.toArray)(S:vs≠[])
  (h1:ws=[]->Q (.ref t) s) (h2:ws≠[]->Q (.ref s.heap.objs.size) { s with heap:=s.heap.push { cls:=.type "tuple",data:=.seq (vs++ws).toArray } })
  (i:vs.length+ws.length<=sizeLine):aG (aI prog w) A (cr .Add (.ref t) (.ref b)) Q E s:=by
 obtain⟨⟨cls,dd,data,p⟩,P,Y,n,hd⟩:=id ht
 obtain⟨⟨j,f,g,h⟩,a,l,Z,c⟩:=id hb
 simp only at Y hd l c
 subst Y hd l c
 have e:vs.toArray++ws.toArray=(vs++ws).toArray:=by simp
 by_cases N:ws=[]
 ·exact gX ⟨_,P,rfl⟩ ⟨_,a,rfl⟩ hH iO eP eK (eA _ _)
   (tuple_addW1 t b vs.toArray ws.toArray n Z dd f p h (by simpa using S) (by simp[N])) ⟨P,a,h1 N⟩
 ·refine gX ⟨_,P,rfl⟩ ⟨_,a,rfl⟩ hH iO eP eK (eA _ _)
   (tuple_addW2 t b vs.toArray ws.toArray n Z dd f p h (by simpa using S) (by simpa using N) (by rw[bn,bn];exact i)) ⟨P,a,?_⟩
  rw[e]
  exact h2 N
noncomputable def sIx(n d:Nat):Option Int->Nat
 | none=>d
 | some v=>if v<0 then (v+(n:Int)).toNat else min v.toNat n
theorem LJ(n d:Nat):sIx n d none=d:=rfl
theorem LK(n d:Nat)(hd:d<=n)(o:Option Int):sIx n d o<=n:=by
 cases o with
 | none=>exact hd
 | some v =>
  show (if v<0 then (v+(n:Int)).toNat else min v.toNat n)<=n
  by_cases S:v<0
  ·rw[if_pos S];omega
  ·rw[if_neg S];exact Nat.min_le_right _ _
theorem PD(v:Int)(n d:Nat):(if v<0 then max (v+(n:Int)) 0 else min v (n:Int))=((sIx n d (aa v):Nat):Int):=by
 show (if v<0 then max (v+(n:Int)) 0 else min v (n:Int))=(((if v<0 then (v+(n:Int)).toNat else min v.toNat n):Nat):Int)
 by_cases S:v<0
 ·simp only[if_pos S];omega
 ·simp only[if_neg S];omega
theorem LL(lo hi:Option Int)(n:Nat):dW lo hi 1 (n:Int)=(((sIx n 0 lo:Nat):Int),((sIx n n hi:Nat):Int)):=by
 have U:¬ ((1:Int)<0):=by omega
 unfold dW
 simp only[U,if_false]
 refine jM ?_ ?_
 ·cases lo with
  | none=>rfl
  | some v=>exact PD v n 0
 ·cases hi with
  | none=>rfl
  | some v=>exact PD v n n
theorem LM(i j:Nat):cU (i:Int) (j:Int) 1=j-i:=by
 unfold cU
 have U:(1:Int) > 0:=by omega
 simp only[U,if_true,Int.ediv_one]
 split<;>omega
theorem PF{v:af}{o:Option Int}{Q:Option Int->aq->Prop}(p:gG v o)(h:Q o s):aG (aI prog w) A (jm.Slice.slicePartIndex v) Q E s:=by
 cases p with
 | none=>exact slicePart_none h
 | int i t=>exact slicePart_int h
theorem LN{sl:ah}{e c:af}{lo hi:Option Int}{n:Nat}{Q:Int×Int×Nat->aq->Prop}(B:s.heap.IsSliceOf sl e c .none)(pl:gG e lo)(f:gG c hi)
  (h:Q (((sIx n 0 lo:Nat):Int),1,sIx n n hi-sIx n 0 lo) s):aG (aI prog w) A (fW (.ref sl) (dZ (n:Int))) Q E s:=by
 obtain⟨Y,b,g,p⟩:=id B
 unfold fW jm.Slice.sliceFields
 refine ae (ae (dF b p (x:=e) rfl (ae (dF b p (x:=c) rfl (ae (dF b p (x:=.none) rfl (am ?_)))))))
 refine ae (slicePart_none ?_)
 show aG _ _ (if ((1:Int) == 0)=ac then _ else _) _ _ s
 rw[if_neg (by decide)]
 refine ae (PF pl (ae (PF f (ae (am ?_)))))
 show aG _ _ (match dW lo hi 1 (n:Int) with|(lo,hi)=>dZ (lo,(1:Int),cU lo hi 1)) _ _ s
 rw[LL lo hi n]
 show aG _ _ (dZ (((sIx n 0 lo:Nat):Int),(1:Int),cU ((sIx n 0 lo:Nat):Int) ((sIx n n hi:Nat):Int) 1)) _ _ s
 rw[LM]
 exact am h
theorem LO(xs:Array af)(i k:Nat):((bL k).filterMap λ(m:Nat)=>xs[((i:Int)+(m:Int)*1).toNat]?).toArray=((xs.toList.drop i).take k).toArray:=by
 have e:(λ(m:Nat)=>xs[((i:Int)+(m:Int)*1).toNat]?)=λm=>xs[i+m]?:=by
  funext m
  have:((i:Int)+(m:Int)*1).toNat=i+m:=by omega
  rw[this]
 rw[e]
 have:=pick_run xs i k
 rw[List.filterMap_map] at this
 have M:((λx=>xs[x]?) ∘ λx=>i+x)=λm=>xs[i+m]?:=rfl
 rw[M] at this
 rw[this]
theorem LP{t sl:ah}{items:Array af}{e c:af}{lo hi:Option Int}{Q:af->aq->Prop}(ht:i7 s.heap t items)(B:s.heap.IsSliceOf sl e c .none)(pl:gG e lo)(f:gG c hi)
  (hw:¬ (sIx items.size 0 lo=0/\sIx items.size items.size hi=items.size))
  (h:Q (.ref s.heap.objs.size) { s with heap:=s.heap.push { cls:=.type "tuple",data:=.seq ((items.toList.drop (sIx items.size 0 lo)).take (sIx items.size items.size hi-sIx items.size 0 lo)).toArray } })
  (i:items.size<=sizeLine):aG (aI prog w) A (gV (.ref t) (.ref sl)) Q E s:=by
 have a:sizeOk (.seq ((items.toList.drop (sIx items.size 0 lo)).take (sIx items.size items.size hi-sIx items.size 0 lo)).toArray):=by
  show ((items.toList.drop (sIx items.size 0 lo)).take (sIx items.size items.size hi-sIx items.size 0 lo)).toArray.size<=sizeLine
  rw[bn,gl,gD,a_]
  omega
 have l:sIx items.size items.size hi<=items.size:=LK _ _ (ar _) hi
 obtain⟨Y,b,g,p⟩:=id B
 have n:s.TypeIs (.ref sl) "slice" := ⟨Y,b,g⟩
 unfold gV
 try with_reducible refine de ?_
 first|refine ae (am ?_)|skip
 refine ae (wpAny_sequenceKey ht.typeIs (by decide) ?_)
 refine ae (wpAny_callSpecial?_slot (name:=au.ofString "__getitem__") ht.typeIs fu
  (hx fu ht.typeIs entry_tuple_getitem ?_ (args_tuple_getitem _ _)))
 show aG _ _ (fV (.ref t) >>= _) _ _ s
 refine ae (tupleItemsOf_ ht ?_)
 refine ae (wpAny_typeOf n ?_)
 rw[if_pos (by decide)]
 refine ae (LN B pl f ?_)
 have j:¬ ((((sIx items.size 0 lo:Nat):Int) == 0 && (1:Int) == 1 && (sIx items.size items.size hi-sIx items.size 0 lo) == items.size)=ac):=by
  intro q
  rw[aJ,aJ] at q
  have o:((sIx items.size 0 lo:Nat):Int)=0:=eq_of_beq q.1.1
  have k:sIx items.size items.size hi-sIx items.size 0 lo=items.size:=eq_of_beq q.2
  exact hw ⟨by omega,by omega⟩
 show aG _ _ (if (((sIx items.size 0 lo:Nat):Int) == 0 && (1:Int) == 1 && (sIx items.size items.size hi-sIx items.size 0 lo) == items.size)=ac then _ else _) _ _ s
 rw[if_neg j,LO]
 first
  | exact ae (m:=cY _) (dj (am ⟨_,rfl,am h⟩) a)
  | exact ae (m:=cY _) (dj (ae (am (am ⟨_,rfl,am h⟩))) a)
  | exact ae (ae (m:=cY _) (dj (am (am ⟨_,rfl,am h⟩)) a))
  | exact ae (ae (m:=cY _) (dj (am ⟨_,rfl,am h⟩) a))
end
end HT
namespace Att
open PySem PySem.W PySem.Calls PyProof.Rows
theorem Kh{P:Params}{h:bG}:∀ (ns:List Int) (vs:List af),WellAll P h vs (ns.map WData.int)->ii vs ns:=by
 intro ns
 induction ns with
 | nil =>
  intro vs w
  rw[eL] at w
  cases w
  exact .nil
 | cons n ns B =>
  intro vs w
  rw[bp] at w
  cases w with
  | cons a b =>
   cases a
   exact .cons _ _ (B _ b)
theorem Ki{l:gi}{n:Nat}(hn:l.most=aa n){P:Params}{h:bG}{args:List WData}{e:List af}
  (c:l.row.toRowW.claim.pre args=ac) (j:WellAll P h e args) :
  ∃ a vs ns,e=[aD a]/\args=[WData.list (ns.map WData.int)]/\h.get? a=aa { cls:=.type "list",data:=.seq vs.toArray }/\ii vs ns/\ns.length<=n:=by
 have f:WShape.hasAll [] args [.list .int]=true:=(pre_splitW c).1
 have m:l.pre.holds [] { args:=args }=true:=(pre_splitW c).2
 obtain⟨d,r,rfl,U,R⟩:=hasAllW_cons f
 obtain rfl:=hasAllW_nil R
 obtain⟨xs,rfl,S⟩:=hasW_list U
 obtain⟨ns,rfl⟩:=items_int S
 have i:ns.length<=n:=by
  unfold gi.pre at m
  have F:(WTm.not (.lt (.lit (.int (n:Int))) (.len (.arg 0)))).holds [] { args:=[.list (ns.map .int)] }=true:=by
   have F:=(holds_andW m).1
   rw[hn] at F
   exact F
  have Y:=condW_of F (w_not (w_lt w_lit (w_len_list (w_arg rfl))))
  rw[aC] at Y
  refine Nat.le_of_not_lt λq=>?_
  have q':(n:Int)<((ns.length:Nat):Int):=by omega
  first
   | (rw[decide_eq_true q'] at Y;exact absurd Y (by decide))
   | (simp at Y;omega)
 cases j with
 | cons b g =>
  cases g
  cases b with
  | list o k=>exact⟨_,_,ns,rfl,rfl,o,Kh ns _ k,i⟩
theorem Kj(l:gi)(args:List WData):l.row.toRowW.claim.post args (.bool ac) args=true :=
 postW_of (r:=l.row.toRowW) (X:=(ac == ac))
  (show j5 [] (.bool ac) .bool=ac by first|rfl|decide|simp[j5,WShape.arms,WShape.armsAll])
  (show (WTm.eq .res (.lit (.bool ac))).value [] { args:=args,res:=aa (.bool ac),after:=args }=aa (.bool (ac == ac)) from w_eq_bool (w_res rfl) w_lit) rfl
end Att
namespace L2
local macro_rules|`(tactic|omega)=>`(tactic|first|assumption|lia|omega (config:={}))
open PySem PySem.Spec PyProof.Rows
abbrev Key:=Sum Int au
noncomputable def Vm:Key->af->Bool
 | .inl k,v=>j6 k v
 | .inr x,v=>jI x v
noncomputable def keyH(w:bK):Key->Int
 | .inl k=>hashInt k
 | .inr x=>hashStr w x
theorem X7:∀ {k:Key} {v:af},Vm k v=ac->(∃ i t,k=gv i/\v=eO i t)\/(∃ x t,k=gu x/\v=eN x t)
 | .inl i,v,h=>by
  obtain⟨t,e⟩:=af.isInt_shape (k:=i) (v:=v) h
  exact .inl ⟨i,t,rfl,e⟩
 | .inr x,v,h=>by
  obtain⟨t,e⟩:=af.isStrOf_shape (x:=x) (v:=v) h
  exact .inr ⟨x,t,rfl,e⟩
theorem M1(i:Int)(t:iL):Vm (.inl i) (.int i t)=true:=by simp[Vm,j6]
theorem M2(x:au)(t:iL):Vm (.inr x) (.str x t)=true:=by simp[Vm,jI]
theorem M3(a b:Int):decide ((gv a:Key)=gv b)=(a == b):=by
 by_cases e:a=b
 ·subst e;simp
 ·have h:¬ (gv a:Key)=gv b:=λq=>e (gv.inj q)
  rw[decide_eq_false h]
  exact (beq_eq_false_iff_ne.mpr e).symm
theorem M4(a b:au):decide ((gu a:Key)=gu b)=decide (a=b):=by
 by_cases e:a=b
 ·subst e;simp
 ·have h:¬ (gu a:Key)=gu b:=λq=>e (gu.inj q)
  rw[decide_eq_false h,decide_eq_false e]
theorem M5(a:Int)(b:au):decide ((gv a:Key)=gu b)=false:=decide_eq_false (λq=>nomatch q)
theorem M6(a:au)(b:Int):decide ((gu a:Key)=gv b)=false:=decide_eq_false (λq=>nomatch q)
def Yq(prog:bg)(w:bK):hV prog w Key where
 is:=Vm
 hash:=keyH w
 inj:=λv a b ha hb=>by
  rcases X7 ha with⟨i,t,rfl,rfl⟩|⟨x,t,rfl,rfl⟩
  ·rcases X7 hb with⟨j,u,rfl,e⟩|⟨y,u,rfl,e⟩
   ·injection e with e1 _;rw[e1]
   ·exact nomatch e
  ·rcases X7 hb with⟨j,u,rfl,e⟩|⟨y,u,rfl,e⟩
   ·exact nomatch e
   ·injection e with e1 _;rw[e1]
 byValue:=λk v h=>by
  rcases X7 h with⟨i,t,rfl,rfl⟩|⟨x,t,rfl,rfl⟩<;>rfl
 pyHash:=λhv h=>by
  rcases X7 hv with⟨i,t,rfl,rfl⟩|⟨x,t,rfl,rfl⟩
  ·exact wpAny_pyHash_int h
  ·exact wpAny_pyHash_str h
 eqBool:=λhu hv h=>by
  rcases X7 hu with⟨i,t,rfl,rfl⟩|⟨x,t,rfl,rfl⟩
  ·rcases X7 hv with⟨j,u,rfl,rfl⟩|⟨y,u,rfl,rfl⟩
   ·rw[M3] at h;exact wpAny_eqBool_int h
   ·rw[M5] at h;exact hS i t y u _ _ _ _ h
  ·rcases X7 hv with⟨j,u,rfl,rfl⟩|⟨y,u,rfl,rfl⟩
   ·rw[M6] at h;exact hQ x t j u _ _ _ _ h
   ·rw[M4] at h;exact wpAny_eqBool_str h
 «strs»:=λk x t v h=>by
  rcases X7 h with⟨i,u,rfl,e⟩|⟨y,u,rfl,e⟩
  ·exact nomatch e
  ·injection e with e1 _
   subst e1
   cases v<;>rfl
theorem M7(prog:bg)(w:bK)(i:Int)(t:iL):(Yq prog w).is (.inl i) (.int i t)=true:=M1 i t
theorem M8(prog:bg)(w:bK)(x:au)(t:iL):(Yq prog w).is (.inr x) (.str x t)=true:=M2 x t
inductive V where
 | non|bl (b:Bool)|int (i:Int)|str (x:au)|byt (b:Array UInt8)|flt (b:UInt64)|ref (a:ah)|ty (n:String)
 deriving DecidableEq
def Zp:V->af->Prop
 | .non,u=>u=cG
 | .bl b,u=>u=eV b
 | .int i,u=>∃ t,u=eO i t
 | .str x,u=>∃ t,u=eN x t
 | .byt b,u=>∃ t,u=j7 b t
 | .flt b,u=>∃ t,u=iy b t
 | .ref a,u=>u=aD a
 | .ty n,u=>u=fU n
abbrev Zi:List V->List af->Prop:=hJ Zp
theorem Zi.length{xs:List V}{us:List af}(r:Zi xs us):xs.length=us.length:=hJ.length r
theorem Zi.get:∀ {xs:List V} {us:List af} {i:Nat} {x:V},Zi xs us->xs[i]?=aa x->∃ u,us[i]?=aa u/\Zp x u
 | _,_,_,_,.nil,e=>by simp at e
 | _,_,0,_,.cons r _,e=>by simp at e;subst e;exact⟨_,rfl,r⟩
 | _,_,i+1,x,.cons _ t,e=>by
  obtain⟨u,U,R⟩:=Zi.get (i:=i) (x:=x) t (by simpa using e)
  exact⟨u,by simpa using U,R⟩
theorem Zi.append:∀ {xs ys:List V} {us ws:List af},Zi xs us->Zi ys ws->Zi (xs++ys) (us++ws)
 | _,_,_,_,.nil,s=>s
 | _,_,_,_,.cons r t,s=>.cons r (Zi.append t s)
theorem Zi.take:∀ {xs:List V} {us:List af} (n:Nat),Zi xs us->Zi (xs.take n) (us.take n)
 | _,_,0,_=>.nil
 | _,_,_+1,.nil=>.nil
 | _,_,n+1,.cons r t=>.cons r (Zi.take n t)
theorem Zi.drop:∀ {xs:List V} {us:List af} (n:Nat),Zi xs us->Zi (xs.drop n) (us.drop n)
 | _,_,0,r=>r
 | _,_,_+1,.nil=>.nil
 | _,_,n+1,.cons _ t=>Zi.drop n t
def YA:Option V->Option af->Prop
 | some v,aa u=>Zp v u
 | none,none=>True
 | _,_=>False
variable{κ:Type}
def KV:List (κ×V)->List (κ×af)->Prop:=hJ λ(p:κ×V) (q:κ×af)=>p.1=q.1/\Zp p.2 q.2
noncomputable def kV:Key->V
 | .inl i=>.int i
 | .inr x=>.str x
inductive HO where
 | lst (xs:List V)
 | tup (xs:List V)
 | dK (kvs:List (Key×V))|dT (kvs:List (List Key×V))
 | dN (kvs:List ((Key×List Key)×V))
 | set (S:Int->Bool) (n:Nat)
 | ins (C dx:ah) (fs:List (au×V))
 | own (x:ah)
 | xd (fs:List (au×V))
 | met (f x:ah)
 | rng (lo hi:Int)
 | frz (o:dE) (u:HO)
 | tbl (ps:Array af)
 | tbq (q:Nat->Nat->au)
 | ext (φ:bG->Prop)
abbrev Hp:=ah->Option HO
def V7(o:dE)(q:au):Prop:=∃ vs t,o.data=.fields vs/\vs[1]?=aa (.str q t)
def XX(h:bG)(a:ah)(items:Array af):Prop:=∃ o,h.get? a=aa o/\o.cls=.type "tuple" /\ (∃ n,o.data=.seq items n)/\o.dict=none
variable{h:bG}{a:ah}
theorem XX.is{items:Array af}(x:XX h a items):i7 h a items:=by obtain⟨o,e,c,d,_⟩:=x;exact ⟨o,e,c,d⟩
instance {h:bG} {a:ah} {items:Array af}:CoeOut (XX h a items) (i7 h a items):=⟨XX.is⟩
theorem XX.new(h:bG)(items:Array af):XX (h.push { cls:=.type "tuple",data:=.seq items }) h.objs.size items:=⟨_,aN _ rfl,rfl,⟨_,rfl⟩,rfl⟩
def upd(H:Hp)(a:ah)(o:HO):Hp:=λb=>if b=a then aa o else H b
variable{H:Hp}{o:HO}
theorem Zw:upd H a o a=aa o:=by unfold upd;rw[if_pos rfl]
variable{b:ah}
theorem Zd(h:b≠a):upd H a o b=H b:=by unfold upd;rw[if_neg h]
variable{u:af}
theorem Xs{u:HO}:upd (upd H a o) a u=upd H a u:=by
 funext b;unfold upd;split<;>rfl
theorem Yw(h:H a=aa o)(h':H b=none):a≠b:=by
 intro e;subst e;rw[h] at h';cases h'
section
variable (P:bg)(w:bK)
def ZO(H:Hp)(h:bG)(a:ah):HO->Prop
 | .lst xs=>xs.length<=sizeLine/\∃ (its:List af) (n:Nat),Zi xs its/\h.get? a=aa { cls:=.type "list",data:=.seq its.toArray n }
 | .tup xs=>xs.length<=sizeLine/\∃ its:List af,Zi xs its/\XX h a its.toArray
 | .dK kvs=>kvs.length<=sizeLine/\(a == eM)=aw/\∃ vs,KV kvs vs/\h.DictOf (Yq P w) a vs
 | .dT kvs=>kvs.length<=sizeLine/\(a == eM)=aw/\∃ xs:List (List Key×ah×af),
   hJ (λ(p:List Key×V) (q:List Key×ah×af)=>p.1=q.1/\H q.2.1=aa (.tup (p.1.map kV))/\Zp p.2 q.2.2) kvs xs /\
   ∃ o es ep,h.get? a=aa o/\o.ExactDict/\o.data=.dict es ep/\es.toList=xs.map (entryOfKey (gq (Yq P w)))/\(xs.map (·.1)).Nodup
 | .dN kvs=>kvs.length<=sizeLine/\(a == eM)=aw/\∃ xs:List ((Key×List Key)×ah×af),
   hJ (λ(p:(Key×List Key)×V) (q:(Key×List Key)×ah×af)=>p.1=q.1/\(∃ b,H q.2.1=aa (.tup [kV p.1.1,.ref b])/\H b=aa (.tup (p.1.2.map kV)))/\Zp p.2 q.2.2) kvs xs /\
   ∃ o es ep,h.get? a=aa o/\o.ExactDict/\o.data=.dict es ep/\es.toList=xs.map (entryOfKey (Vn (Yq P w)))/\(xs.map (·.1)).Nodup
 | .set S n=>h.SetOf (intKind P w) a S n
 | .ins C dx fs=>H dx=aa (.own a)/\fs.length<=1000/\dx≠a/\h.get? a=aa (cA C dx) /\
   ∃ mA,h.Ns1 dx mA/\(∀ f,YA (fs.lookup f) (mA f))/\eT mA (fs.map (·.1))
 | .own _=>∃ o,h.get? a=aa o
 | .xd fs=>∃ mA,h.Ns1 a mA/\∀ f,YA (fs.lookup f) (mA f)
 | .rng lo hi=>∃ t u v,h.get? a=aa { cls:=.type "range",data:=.fields #[.int lo t,.int hi u,.int 1 v] }
 | .frz o u=>h.get? a=aa o/\ZO H h a u
 | .tbl ps=>h.get? a=aa { cls:=.none,data:=.fields ps }
 | .tbq q=>∃ ps,h.get? a=aa { cls:=.none,data:=.fields ps }/\i4 ps.toList/\∀ pos cv,d5 pos ps.toList=aa cv->∃ c o,cv=.ref c/\H c=aa (.frz o (.own a))/\V7 o (q pos.line pos.col)
 | .met f x=>h.get? a=aa (fR (.ref f) (.ref x))
 | .ext φ=>φ h/\(∃ o,h.get? a=aa o)/\∀ h1 h2:bG,φ h1->(∀ o,h1.get? a=aa o->h2.get? a=aa o)->φ h2
def HOk(H:Hp)(h:bG):Prop:=∀ a o,H a=aa o->ZO P w H h a o
end
variable{P:bg}{w:bK}{H':Hp}{h':bG}
theorem ZO.lt(x:ZO P w H h a o):a<h.objs.size:=by
 cases o with
 | lst xs=>obtain⟨_,_,_,_,e⟩:=x;exact aA e
 | tup xs=>obtain⟨_,_,_,p⟩:=x;exact (XX.is p).lt
 | dK G=>obtain⟨_,_,_,_,o,_,_,e,_⟩:=x;exact aA e
 | dT G=>obtain⟨_,_,_,_,o,_,_,e,_⟩:=x;exact aA e
 | dN G=>obtain⟨_,_,_,_,o,_,_,e,_⟩:=x;exact aA e
 | set S n=>obtain⟨o,_,_,_,e,_⟩:=x;exact aA e
 | ins C dx fs=>obtain⟨_,_,_,e,_⟩:=x;exact aA e
 | own y=>obtain⟨_,e⟩:=x;exact aA e
 | xd fs=>obtain⟨_,⟨_,_,_,e,_⟩,_⟩:=x;exact aA e
 | rng j t=>obtain⟨_,_,_,e⟩:=x;exact aA e
 | frz g u=>obtain⟨e,_⟩:=x;exact aA e
 | tbl ps=>exact aA (show h.get? a=aa _ from x)
 | tbq q=>obtain⟨_,e,_⟩:=x;exact aA e
 | met f y=>exact aA (show h.get? a=aa _ from x)
 | ext i=>obtain⟨_,⟨_,e⟩,_⟩:=x;exact aA e
theorem Paired.mapP{α β:Type}{F G:α->β->Prop}:∀ {l₁:List α} {l₂:List β},hJ F l₁ l₂->(∀ a b,F a b->G a b)->hJ G l₁ l₂
 | _,_,.nil,_=>.nil
 | _,_,.cons r t,f=>.cons (f _ _ r) (Paired.mapP t f)
theorem ZO.stay(x:ZO P w H h a o)(k:∀ b u,(b=a\/H b=aa (.own a))->h.get? b=aa u->h'.get? b=aa u)
  (l:∀ b,H b=aa (.own a)->H' b=aa (.own a)) (ht:∀ b xs,H b=aa (.tup xs)->H' b=aa (.tup xs))
  (F:∀ b o,H b=aa (.frz o (.own a))->H' b=aa (.frz o (.own a)):=by first|exact λ_ _ q=>q|(intro b o q;rw[Zd (Yw q (by assumption))];exact q)):ZO P w H' h' a o:=by
 induction o with
 | lst xs=>obtain⟨z,its,n,r,e⟩:=x;exact⟨z,its,n,r,k _ _ (.inl rfl) e⟩
 | tup xs=>obtain⟨z,its,r,g,e,c⟩:=x;exact⟨z,its,r,g,k _ _ (.inl rfl) e,c⟩
 | dK G=>obtain⟨z,y,vs,r,g,es,E,e,c⟩:=x;exact⟨z,y,vs,r,g,es,E,k _ _ (.inl rfl) e,c⟩
 | dT G =>
  obtain⟨z,y,xs,r,g,es,E,e,c⟩:=x
  exact⟨z,y,xs,Paired.mapP r λp q z=>⟨z.1,ht _ _ z.2.1,z.2.2⟩,g,es,E,k _ _ (.inl rfl) e,c⟩
 | dN G =>
  obtain⟨z,y,xs,r,g,es,E,e,c⟩:=x
  exact⟨z,y,xs,Paired.mapP r λp q z=>⟨z.1,(by obtain⟨b,I,O⟩:=z.2.1;exact ⟨b,ht _ _ I,ht _ _ O⟩),z.2.2⟩,g,es,E,k _ _ (.inl rfl) e,c⟩
 | set S n=>obtain⟨g,es,E,t,e,c⟩:=x;exact⟨g,es,E,t,k _ _ (.inl rfl) e,c⟩
 | ins C dx fs =>
  obtain⟨d,z,ne,e,W,⟨od,es,E,M,c⟩,r⟩:=x
  exact⟨l _ d,z,ne,k _ _ (.inl rfl) e,W,⟨od,es,E,k _ _ (.inr d) M,c⟩,r⟩
 | own y=>obtain⟨g,e⟩:=x;exact⟨g,k _ _ (.inl rfl) e⟩
 | xd fs=>obtain⟨W,⟨od,es,E,e,c⟩,r⟩:=x;exact⟨W,⟨od,es,E,k _ _ (.inl rfl) e,c⟩,r⟩
 | rng j s=>obtain⟨t,u,v,e⟩:=x;exact⟨t,u,v,k _ _ (.inl rfl) e⟩
 | frz g u B=>obtain⟨e,q⟩:=x;exact⟨k _ _ (.inl rfl) e,B q⟩
 | tbq q =>
  obtain⟨ps,e,t,r⟩:=x
  exact⟨ps,k _ _ (.inl rfl) e,t,λpos A z=> (by obtain⟨c,o,T,M,m⟩:=r pos A z;exact ⟨c,o,T,F _ _ M,m⟩)⟩
 | tbl ps =>
  have e:h.get? a=aa { cls:=.none,data:=.fields ps }:=x
  show h'.get? a=aa { cls:=.none,data:=.fields ps }
  exact k a _ (.inl rfl) e
 | met f y =>
  have e:h.get? a=aa (fR (.ref f) (.ref y)):=x
  show h'.get? a=aa (fR (.ref f) (.ref y))
  exact k a _ (.inl rfl) e
 | ext i=>obtain⟨p,⟨o,e⟩,st⟩:=x;exact⟨st _ _ p λo q=>k _ _ (.inl rfl) q,⟨o,k _ _ (.inl rfl) e⟩,st⟩
theorem HOk.lt(x:HOk P w H h)(e:H a=aa o):a<h.objs.size:=(x a o e).lt
theorem HOk.fresh(x:HOk P w H h)(e:h.objs.size<=a):H a=none:=by
 cases q:H a with
 | none=>rfl
 | some u=>exact absurd (aE (x.lt q) e) (bX _)
theorem HOk.kept(x:HOk P w H h)(k:∀ b u,h.get? b=aa u->h'.get? b=aa u):HOk P w H h':=λa o e =>
 (x a o e).stay (λb u _ q=>k b u q) (λ_ q=>q) λ_ _ q=>q
theorem HOk.laid(x:HOk P w H h)(k:∀ b u,h.get? b=aa u->h'.get? b=aa u)(O:h.objs.size<=a)(new:ZO P w (upd H a o) h' a o):HOk P w (upd H a o) h':=λb u e=>by
 have f:=x.fresh O
 by_cases G:b=a
 ·subst G;rw[Zw] at e;cases e;exact new
 ·rw[Zd G] at e
  exact (x b u e).stay (λc v _ q=>k c v q) (λc q=>by rw[Zd (Yw q f)];exact q) λc xs q=>by rw[Zd (Yw q f)];exact q
def Rd(H:Hp)(a:ah)(u:HO):Prop:=H a=aa u\/∃ o,H a=aa (.frz o u)
theorem Rd.ok{u:HO}(r:Rd H a u)(x:HOk P w H h):ZO P w H h a u:=by
 rcases r with r|⟨o,r⟩
 ·exact x a u r
 ·obtain⟨_,q⟩:=x a _ r
  exact q
def Mut:Option HO->Prop
 | some (.lst _)=>True
 | some (.dK _)=>True
 | some (.dT _)=>True
 | some (.dN _)=>True
 | some (.set _ _)=>True
 | some (.ins _ _ _)=>True
 | some (.ext _)=>True
 | _=>False
variable{x:au}{e:cz}
section
variable{x e:ah}{o':HO}
theorem HOk.write(ok:HOk P w H h)(mu:Mut (H x))(j:e=x\/H e=aa (.own x))(k:∀ b u,b≠e->h.get? b=aa u->h'.get? b=aa u)(i:∃ u,h'.get? e=aa u)
  (new:ZO P w (upd H x o') h' x o'):HOk P w (upd H x o') h':=λb u q=>by
 have a:∀ c y,H c=aa (.own y)->c≠x:=λc y r z=>by subst z;rw[r] at mu;exact mu
 have g:∀ c xs,H c=aa (.tup xs)->c≠x:=λc xs r z=>by subst z;rw[r] at mu;exact mu
 by_cases G:b=x
 ·subst G;rw[Zw] at q;cases q;exact new
 ·rw[Zd G] at q
  by_cases f:b=e
  ·have q':H b=aa (.own x):=by
    rcases j with z|z
    ·exact absurd (f.trans z) G
    ·rw[f];exact z
   rw[q] at q';cases q'
   obtain⟨v,S⟩:=i
   exact⟨v,by rw[f];exact S⟩
  ·refine (ok b u q).stay (λc v Y r=>k c v ?_ r) (λc r=>by rw[Zd (a c b r)];exact r) (λc xs r=>by rw[Zd (g c xs r)];exact r) (λc o r=>by rw[Zd (λz=>by subst z;rw[r] at mu;exact mu)];exact r)
   rcases Y with rfl|Y
   ·exact f
   ·rintro rfl
    rcases j with z|z
    ·exact a c b Y z
    ·rw[Y] at z;cases z;exact G rfl
end
structure Un(fs ex:List ah)(H H':Hp)(h h':bG):Prop where
 keep:∀ b o,h.get? b=aa o->H b=none->b∉fs->b∉ex->h'.get? b=aa o
 slot:∀ b o,h.get? b=aa o->H b=none->b∈fs->b∉ex->∃ sl,h'.get? b=aa { o with slots:=sl }
 free:∀ b o,h.get? b=aa o->H b=none->b∉ex->H' b=none
 there:∀ b o,h.get? b=aa o->b∉ex->∃ o',h'.get? b=aa o'
 tups:∀ b xs,H b=aa (.tup xs)->H' b=aa (.tup xs)
 frzs:∀ b o u,H b=aa (.frz o u)->H' b=aa (.frz o u)
 tbls:∀ b ps,H b=aa (.tbl ps)->∃ more,H' b=aa (.tbl (ps++more))
variable{H1:Hp}
section
variable{fs ex:List ah}{h1:bG}{x e:ah}
theorem Un.any(u:Un fs ex H H1 h h1){ob:dE}(q:h.get? b=aa ob)(n:H b=none)(W:b∉ex):∃ sl,h1.get? b=aa { ob with slots:=sl }:=by
 by_cases G:b∈fs
 ·exact u.slot b ob q n G W
 ·exact⟨ob.slots,u.keep b ob q n G W⟩
theorem Un.kept(k:∀ b u,h.get? b=aa u->h'.get? b=aa u):Un fs ex H H h h' :=
 ⟨λb g q _ _ _=>k b g q,λb g q _ _ _=>⟨g.slots,k b g q⟩,λ_ _ _ n _=>n,λb g q _=>⟨g,k b g q⟩,λ_ _ q=>q,λ_ _ _ q=>q,λ_ ps q=>⟨#[],by rw[q];simp⟩⟩
theorem Un.refl:Un fs ex H H h h:=Un.kept λ_ _ q=>q
theorem Un.laid(k:∀ b u,h.get? b=aa u->h'.get? b=aa u)(O:h.objs.size<=a)(hn:H a=none):Un fs ex H (upd H a o) h h' where
 keep:=λb u q _ _ _=>k b u q
 slot:=λb u q _ _ _=>⟨u.slots,k b u q⟩
 free:=λb u q n _=>by rw[Zd (aQ (aE (aA q) O))];exact n
 there:=λb u q _=>⟨u,k b u q⟩
 tups:=λb xs q=>by rw[Zd (Yw q hn)];exact q
 frzs:=λb u xs q=>by rw[Zd (Yw q hn)];exact q
 tbls:=λb ps q=>⟨#[],by rw[Zd (Yw q hn),q];simp⟩
theorem Un.write(mu:Mut (H x))(j:e=x\/H e=aa (.own x))(k:∀ b u,b≠e->h.get? b=aa u->h'.get? b=aa u)(i:∃ u,h'.get? e=aa u):Un fs ex H (upd H x o) h h':=by
 have W:∀ b,H b=none->b≠x:=λb n z=>by subst z;rw[n] at mu;exact mu
 have G:∀ b,H b=none->b≠e:=λb n z=>by
  subst z
  rcases j with r|r
  ·exact W b n r
  ·rw[n] at r;cases r
 have K:∀ b u,H b=aa u->¬ Mut (aa u)->b≠x:=λb u q nm z=>by subst z;rw[q] at mu;exact nm mu
 refine⟨λb u q n _ _=>k b u (G b n) q,λb u q n _ _=>⟨u.slots,k b u (G b n) q⟩,λb u q n _=>by rw[Zd (W b n)];exact n,λb u q _=>?_,
  λb xs q=>by rw[Zd (K b _ q λz=>z)];exact q,λb u xs q=>by rw[Zd (K b _ q λz=>z)];exact q,λb ps q=>⟨#[],by rw[Zd (K b _ q λz=>z),q];simp⟩⟩
 by_cases f:b=e
 ·subst f;exact i
 ·exact⟨u,k b u f q⟩
end
def trk(h:bG)(H:Hp):List Addr:=(bL h.objs.size).filter λa=>(H a).isSome
def X8(h:bG)(H:Hp):Heap:=i3 h (trk h H)
theorem Le(h:bG)(H:Hp):(X8 h H).objs.size=h.objs.size:=PySem.W.hideAll_size _ _
variable{o:dE}
theorem SV(e:h.get? b=aa o)(n:H b=none):(X8 h H).get? b=aa o :=
 dh _ e λK=>by
  have q:(H b).isSome=true:=(List.mem_filter.mp K).2
  rw[n] at q;simp at q
theorem Lf(e:(X8 h H).get? b=aa o):h.get? b=aa o/\H b=none:=by
 have N:h.get? b=aa o:=iv (trk h H) e
 refine⟨N,?_⟩
 cases q:H b with
 | none=>rfl
 | some x =>
  have K:b∈trk h H:=List.mem_filter.mpr ⟨mem_range.mpr (aA N),by simp[q]⟩
  have z:(X8 h H).get? b=none:=ia (trk h H) K
  rw[z] at e;cases e
structure Mod(K:ay)(mg:au->Option af)(base:bG):Prop where
 kin:K.In base
 glob:base.Ns aj mg
 blt:∃ mb,base.Ns fA mb/\∀ x:au,x ≠ "__name__" -> mb x=du x
 nolimit:base.NoLimit
structure Cx where
 prog:bg
 w:bK
 K:ay
 mg:au->Option af
 base:bG
 A:bv
 N:List au
 s₀:aq
 H₀:Hp
 env:eF
 outer:List eF
 stack:List eF
 ex:List ah
 fn:au->Bool
 calm:Bool
 pn:List (ah×dE)
 xe:af->aq->Prop
def frs(l:List eF):List Addr:=l.filterMap (·.frame)
abbrev Cx.fs(X:Cx):List Addr:=frs X.outer
def Vis(sc:dG)(x:au):Prop:=sc.names.lookup x=aa .local\/sc.names.lookup x=aa .cell\/sc.names.lookup x=aa .free
def Loc(sc:dG)(x:au):Prop:=sc.names.lookup x=aa .local\/sc.names.lookup x=aa .cell
def Look(env:eF)(h:bG)(m:au->Option af)(x:au)(u:af):Prop :=
 (env.kindOf x=aa .local/\m x=aa u)\/((env.kindOf x=aa .cell\/env.kindOf x=aa .free)/\∃ c,env.cells.lookup x=aa c/\h.IsCell c (aa u))
structure Cx.Ok(X:Cx):Prop where
 mod:Mod X.K X.mg X.base
 kind:X.env.scope.kind=.function
 glob:X.env.globals=aj
 blt:X.env.builtins=fA
 above:X.s₀.heap.objs.size<=X.env.locals
 inj:∀ x y c,X.env.cells.lookup x=aa c->X.env.cells.lookup y=aa c->x=y
 has:∀ x,(X.env.kindOf x=aa .cell\/X.env.kindOf x=aa .free)->∃ c,X.env.cells.lookup x=aa c
 cab:∀ x c,X.fn x=ac->X.env.cells.lookup x=aa c->X.s₀.heap.objs.size<=c
 hd:X.calm=ac->X.A.handled=none
 frames:X.A.frames=aa X.stack
 stk:X.stack=X.outer\/(X.stack=X.env::X.outer/\X.env.frame=aa X.env.locals)
 exf:∀ b∈X.ex,b≠X.env.locals/\∀ x c,X.env.cells.lookup x=aa c->c≠b
 bs:∀ b o,X.base.get? b=aa o->X.s₀.heap.get? b=aa o/\X.H₀ b=none
 bsz:X.base.objs.size<=X.s₀.heap.objs.size
 noex:∀ b o,X.base.get? b=aa o->b∉X.ex
 exfs:∀ b∈X.ex,b∉X.fs
 funs:X.s₀.heap.FunFrames X.base X.outer
 frf:∀ b∈X.fs,X.H₀ b=none
structure Inv(X:Cx)(ge:List (ah×dE))(σ:List (Option V))(H:Hp)(s:aq):Prop where
 ok:X.Ok
 os:s.os=X.s₀.os
 bare:e6 s.gens
 base:Un X.fs X.ex X.H₀ H X.s₀.heap s.heap
 loc:∃ m,s.heap.Ns X.env.locals m/\∀ (i:Nat) (x:au) (v:V),X.N[i]?=aa x->σ[i]?=aa (aa v)->Vis X.env.scope x->∃ u,Zp v u/\Look X.env s.heap m x u
 cell:∀ x c,X.env.cells.lookup x=aa c->∃ v,s.heap.IsCell c v
 free:H X.env.locals=none
 freeC:∀ x c,X.env.cells.lookup x=aa c->H c=none
 pin:∀ p∈X.pn++ge,s.heap.get? p.1=aa p.2/\H p.1=none/\p.1≠X.env.locals/\p.1∉X.fs/\∀ v,p.2.data≠.cell v
 hok:HOk X.prog X.w H s.heap
 len:σ.length=X.N.length
variable{X:Cx}{σ:St}{s s':aq}{t' i j:Nat}{d':Drawn}{it:ah}{M:Model}{A:bv}{v:V}{g':Array GenState}{ch:List ah}{N:List au}{ge pins':List (ah×dE)}{E:af->aq->Prop}{Q:Unit->aq->Prop}
section
variable{σ:List (Option V)}
theorem Cx.Ok.nofr(ok:X.Ok)(e:X.base.get? b=aa o):b∉X.fs:=λG=>by
 have:=(ok.funs.mem G).1
 rw[e] at this;cases this
theorem Inv.bs(I:Inv X ge σ H s):∀ b o,X.base.get? b=aa o->s.heap.get? b=aa o/\H b=none:=λb o e =>
 ⟨I.base.keep b o (I.ok.bs b o e).1 (I.ok.bs b o e).2 (I.ok.nofr e) (I.ok.noex b o e),I.base.free b o (I.ok.bs b o e).1 (I.ok.bs b o e).2 (I.ok.noex b o e)⟩
theorem Inv.bk(I:Inv X ge σ H s):∀ b o,X.base.get? b=aa o->s.heap.get? b=aa o:=λb o e=>(I.bs b o e).1
theorem Inv.mod(I:Inv X ge σ H s):Mod X.K X.mg X.base:=I.ok.mod
theorem Inv.kIn(I:Inv X ge σ H s):X.K.In s.heap:=I.ok.mod.kin.keeps I.bk
theorem Inv.nolimit(I:Inv X ge σ H s):s.heap.NoLimit:=I.ok.mod.nolimit.keeps I.bk
theorem Inv.lt(I:Inv X ge σ H s):X.env.locals<s.heap.objs.size:=by obtain⟨_,f,_⟩:=I.loc;exact f.lt
theorem Inv.sz(I:Inv X ge σ H s):X.s₀.heap.objs.size<=s.heap.objs.size:=aT I.ok.above (cc I.lt)
theorem Inv.nofs(I:Inv X ge σ H s)(h:s.heap.objs.size<=a):a∉X.fs:=λG=>by
 obtain⟨_,o,P,_⟩:=I.ok.funs.mem G
 exact absurd (aE (aA P) (aT I.sz h)) (bX _)
theorem Inv.cne(I:Inv X ge σ H s):∀ x c,X.env.cells.lookup x=aa c->c≠X.env.locals:=λx c e z=>by
 obtain⟨v,o,P,hd⟩:=I.cell x c e
 obtain⟨m,⟨U,es,E,f,n,_⟩,_⟩:=I.loc
 rw[z,f] at P;cases P;rw[n] at hd;cases hd
theorem Inv.funs(I:Inv X ge σ H s):s.heap.FunFrames X.base X.outer:=by
 have all:∀ (l:List eF),(∀ b∈frs l,b∈X.fs)->X.s₀.heap.FunFrames X.base l->s.heap.FunFrames X.base l:=by
  intro l
  induction l with
  | nil=>intro _ _;trivial
  | cons env r a =>
   intro B c
   obtain⟨N,⟨L,o,F,f,P,hd⟩,J⟩:=c
   have g:L∈X.fs:=B L (by unfold frs;rw[fM,F];exact fc)
   obtain⟨p,e⟩:=I.base.slot L o P (I.ok.frf L g) g λz=>I.ok.exfs L z g
   exact⟨N,⟨L,_,F,f,e,hd⟩,a (λb G=>B b (by unfold frs;rw[fM,F];exact b9 _ G)) J⟩
 exact all X.outer (λ_ G=>G) I.ok.funs
theorem Inv.stack(I:Inv X ge σ H s):s.heap.FunFrames X.base X.stack:=by
 rcases I.ok.stk with e|⟨e,hf⟩
 ·rw[e];exact I.funs
 ·rw[e]
  obtain⟨m,f,_⟩:=I.loc
  refine .cons (by rw[I.ok.kind];decide) hf f ?_ I.funs
  exact dg (aT I.ok.bsz I.ok.above)
theorem Inv.stkSub(I:Inv X ge σ H s):∀ b∈frs X.stack,b∈X.env.locals::X.fs:=λb G=>by
 rcases I.ok.stk with e|⟨e,hf⟩
 ·rw[e] at G;exact b9 _ G
 ·rw[e] at G
  unfold frs at G
  rw[fM,hf] at G
  exact G
theorem Inv.stkFree(I:Inv X ge σ H s):∀ b∈frs X.stack,H b=none:=λb G=>by
 rcases eR.mp (I.stkSub b G) with e|G
 ·rw[e];exact I.free
 ·obtain⟨_,o,P,_⟩:=I.ok.funs.mem G
  exact I.base.free b o P (I.ok.frf b G) λz=>I.ok.exfs b z G
theorem Inv.step(I:Inv X ge σ H s)
  (j:∀ b∈ch,(b∈X.ex\/X.s₀.heap.objs.size<=b)/\b≠X.env.locals/\(∀ x c,X.env.cells.lookup x=aa c->c≠b)/\∀ p∈X.pn++ge,p.1≠b)
  (keep:∀ b o,b≠X.env.locals->b∉X.fs->b∉ch->s.heap.get? b=aa o->H b=none->h'.get? b=aa o)
  (slot:∀ b o,b≠X.env.locals->b∈X.fs->b∉ch->s.heap.get? b=aa o->H b=none->∃ sl,h'.get? b=aa { o with slots:=sl }) (free:∀ b o,b∉ch->s.heap.get? b=aa o->H b=none->H' b=none)
  (there:∀ b o,b∉ch->s.heap.get? b=aa o->∃ o',h'.get? b=aa o')
  (tups:∀ b xs,H b=aa (.tup xs)->H' b=aa (.tup xs)) (frzs:∀ b o u,H b=aa (.frz o u)->H' b=aa (.frz o u)) (tbls:∀ b ps,H b=aa (.tbl ps)->∃ more,H' b=aa (.tbl (ps++more)))
  (ns:∀ m,s.heap.Ns X.env.locals m->h'.Ns X.env.locals m) (hok:HOk X.prog X.w H' h') (C:e6 g') :
  Inv X ge σ H' { s with heap:=h',gens:=g',drawn:=d',toks:=t' }:=by
 have w:∀ b o,X.s₀.heap.get? b=aa o->b≠X.env.locals:=λb o e=>aQ (aE (aA e) I.ok.above)
 have h:∀ b o,X.s₀.heap.get? b=aa o->b∉X.ex->b∉ch:=λb o e W G=>by
  rcases (j b G).1 with z|z
  ·exact W z
  ·exact absurd (aE (aA e) z) (bX _)
 have g:∀ x c,X.env.cells.lookup x=aa c->∀ v,s.heap.IsCell c v->h'.IsCell c v:=by
  rintro x c e v ⟨o,P,hd⟩
  have a:c∉ch:=λz=>(j c z).2.2.1 x c e rfl
  by_cases Y:c∈X.fs
  ·obtain⟨sl,q⟩:=slot c o (I.cne x c e) Y a P (I.freeC x c e)
   exact⟨_,q,hd⟩
  ·exact⟨o,keep c o (I.cne x c e) Y a P (I.freeC x c e),hd⟩
 refine⟨I.ok,I.os,C,⟨λb o e n G W=>?_,λb o e n G W=>?_,λb o e n W=>?_,λb o e W=>?_,λb xs e=>tups b xs (I.base.tups b xs e),λb o xs e=>frzs b o xs (I.base.frzs b o xs e),λb ps e=>?_⟩,?_,λx c e=>?_,?_,λx c e=>?_,λp O=>?_,hok,I.len⟩
 ·exact keep b o (w b o e) G (h b o e W) (I.base.keep b o e n G W) (I.base.free b o e n W)
 ·obtain⟨sl,T⟩:=I.base.slot b o e n G W
  obtain⟨y,M⟩:=slot b _ (w b o e) G (h b o e W) T (I.base.free b o e n W)
  exact⟨y,M⟩
 ·obtain⟨o',T⟩:=I.base.there b o e W
  exact free b o' (h b o e W) T (I.base.free b o e n W)
 ·obtain⟨o',T⟩:=I.base.there b o e W
  exact there b o' (h b o e W) T
 ·obtain⟨B,T⟩:=I.base.tbls b ps e
  obtain⟨A,M⟩:=tbls b _ T
  exact⟨B++A,by rw[M,Array.append_assoc]⟩
 ·obtain⟨m,f,L⟩:=I.loc
  refine⟨m,ns m f,λi x v T M t=>?_⟩
  obtain⟨u,r,l⟩:=L i x v T M t
  refine⟨u,r,?_⟩
  rcases l with l|⟨k,c,e,z⟩
  ·exact .inl l
  ·exact .inr ⟨k,c,e,g x c e _ z⟩
 ·obtain⟨v,z⟩:=I.cell x c e
  exact⟨v,g x c e v z⟩
 ·obtain⟨m,⟨o,_,_,P,_⟩,_⟩:=I.loc
  exact free _ o (λz=>(j _ z).2.1 rfl) P I.free
 ·obtain⟨v,o,P,hd⟩:=I.cell x c e
  exact free c o (λz=>(j c z).2.2.1 x c e rfl) P (I.freeC x c e)
 ·obtain⟨e,n,ne,Q,d⟩:=I.pin p O
  have a:p.1∉ch:=λz=>(j p.1 z).2.2.2 p O rfl
  exact⟨keep p.1 p.2 ne Q a e n,free p.1 p.2 a e n,ne,Q,d⟩
theorem Inv.un(I:Inv X ge σ H s)(u:Un X.fs [] H H' s.heap h')(hok:HOk X.prog X.w H' h'):Inv X ge σ H' { s with heap:=h',toks:=t' }:=by
 obtain⟨m,⟨o,es,E,P,r⟩,_⟩:=id I.loc
 obtain⟨p,g⟩:=u.any P I.free (by simp)
 exact I.step (g':=s.gens) (d':=s.drawn) (ch:=[]) (λ_ z=>nomatch z) (λb o _ G _ e n=>u.keep b o e n G (by simp)) (λb o _ G _ e n=>u.slot b o e n G (by simp)) (λb o _ e n=>u.free b o e n (by simp)) (λb o _ e=>u.there b o e (by simp)) u.tups u.frzs u.tbls (λa K=>by
  obtain⟨U,h,i,f,S⟩:=K
  rw[P] at f;cases f
  exact⟨_,h,i,g,S⟩) hok I.bare
theorem Inv.call(I:Inv X ge σ H s)(u:Un (frs X.stack) ch H H' s.heap h')(hok:HOk X.prog X.w H' h')(M:e6 g')
  (j:∀ b∈ch,(b∈X.ex\/X.s₀.heap.objs.size<=b)/\b≠X.env.locals/\(∀ x c,X.env.cells.lookup x=aa c->c≠b)/\∀ p∈X.pn++ge,p.1≠b) :
  Inv X ge σ H' { s with heap:=h',gens:=g',drawn:=d',toks:=t' }:=by
 obtain⟨m,⟨o,es,E,P,r⟩,_⟩:=id I.loc
 obtain⟨k,g⟩:=u.any P I.free λz=>(j _ z).2.1 rfl
 exact I.step (ch:=ch) j (λb o g G Y e n=>u.keep b o e n (λz=>(eR.mp (I.stkSub b z)).elim g G) Y) (λb o _ _ Y e n=>u.any e n Y) (λb o Y e n=>u.free b o e n Y) (λb o Y e=>u.there b o e Y) u.tups u.frzs u.tbls (λa K=>by
  obtain⟨U,h,i,f,S⟩:=K
  rw[P] at f;cases f
  exact⟨_,h,i,g,S⟩) hok M
theorem Inv.turned(I:Inv X ge σ H s)(k:∀ b o,b≠it->s.heap.get? b=aa o->h'.get? b=aa o)(hn:H it=none)(g:it≠X.env.locals)
  (h1:it∈X.ex\/X.s₀.heap.objs.size<=it) (h2:∀ x c,X.env.cells.lookup x=aa c->c≠it) (h3:∀ p∈X.pn++ge,p.1≠it):Inv X ge σ H { s with heap:=h',toks:=t' }:=by
 have a:∀ b u,H b=aa u->b≠it:=λb u e z=>by rw[z,hn] at e;cases e
 refine I.step (g':=s.gens) (d':=s.drawn) (ch:=[it]) (λb G=>?_) (λb o _ _ Y e _=>k b o (λz=>Y (by simp[z])) e) (λb o _ _ Y e _=>⟨o.slots,k b o (λz=>Y (by simp[z])) e⟩) (λ_ _ _ _ n=>n)
  (λb o Y e=>⟨o,k b o (λz=>Y (by simp[z])) e⟩) (λ_ _ e=>e) (λ_ _ _ e=>e) (λb ps e=>⟨#[],by rw[e];simp⟩) (λm K=>?_) (λb u e=>?_) I.bare
 ·have e:b=it:=by simpa using G
  subst e
  exact⟨h1,g,h2,h3⟩
 ·obtain⟨o,es,E,P,r⟩:=K
  exact⟨o,es,E,k _ o (bY g) P,r⟩
 ·refine (I.hok b u e).stay (λc v Y q=>k c v ?_ q) (λ_ q=>q) λ_ _ q=>q
  rcases Y with z|z
  ·rw[z];exact a b u e
  ·exact a c _ z
theorem Inv.tok(I:Inv X ge σ H s)(t:Nat):Inv X ge σ H { s with toks:=t }:=I.un (h':=s.heap) (t':=t) Un.refl I.hok
theorem Inv.kept{t':Nat}(I:Inv X ge σ H s)(k:∀ b u,s.heap.get? b=aa u->h'.get? b=aa u):Inv X ge σ H { s with heap:=h',toks:=t' }:=I.un (Un.kept k) (I.hok.kept k)
theorem Inv.laid{a:ah}{o:HO}{t':Nat}(I:Inv X ge σ H s)(k:∀ b u,s.heap.get? b=aa u->h'.get? b=aa u)(O:s.heap.objs.size<=a)(new:ZO X.prog X.w (upd H a o) h' a o) :
  Inv X ge σ (upd H a o) { s with heap:=h',toks:=t' }:=I.un (Un.laid k O (I.hok.fresh O)) (I.hok.laid k O new)
theorem Inv.write{x e:ah}{o:HO}{t':Nat}(I:Inv X ge σ H s)(mu:Mut (H x))(j:e=x\/H e=aa (.own x))(k:∀ b u,b≠e->s.heap.get? b=aa u->h'.get? b=aa u)(i:∃ u,h'.get? e=aa u)
  (new:ZO X.prog X.w (upd H x o) h' x o):Inv X ge σ (upd H x o) { s with heap:=h',toks:=t' }:=I.un (Un.write mu j k i) (I.hok.write mu j k i new)
theorem Inv.pins_of(I:Inv X ge σ H s)(h:∀ p∈pins',s.heap.get? p.1=aa p.2/\H p.1=none/\p.1≠X.env.locals/\p.1∉X.fs/\∀ v,p.2.data≠.cell v):Inv X pins' σ H s :=
 ⟨I.ok,I.os,I.bare,I.base,I.loc,I.cell,I.free,I.freeC,λp O=>(mem_append.mp O).elim (λz=>I.pin p (bS _ z)) (h p),I.hok,I.len⟩
theorem SW(hN:N.Nodup)(a:N[i]?=aa x)(b:N[j]?=aa x):i=j:=by
 obtain⟨U,T⟩:=List.getElem?_eq_some_iff.mp a
 obtain⟨R,M⟩:=List.getElem?_eq_some_iff.mp b
 exact (List.getElem_inj hN).mp (T.trans M.symm)
theorem Pf(I:Inv X ge σ H s)(hN:X.N.Nodup)(hi:X.N[i]?=aa x)(W:Loc X.env.scope x)(r:Zp v u)
  (h:∀ s',Inv X ge (σ.set i (aa v)) H s'->(∃ a,el a s.heap s'.heap/\(a=X.env.locals\/X.env.cells.lookup x=aa a))->Q () s') (F:X.fn x=ac\/X.env.scope.names.lookup x=aa .local:=by walk_at "m"):aG M A (iX X.env x u) Q E s:=by
 obtain⟨m,hn,L⟩:=id I.loc
 have P:(X.env.scope.kind == .class || (X.env.scope.kind == .module && X.env.locals != X.env.globals))=false:=by rw[I.ok.kind];rfl
 have hiσ:i<σ.length:=by rw[I.len];exact (List.getElem?_eq_some_iff.mp hi).1
 have cne:=I.cne
 have C:∀ {a:ah} {h':bG},(∃ o,s.heap.get? a=aa o/\H a=none)->el a s.heap h'->HOk X.prog X.w H h':=λ{a h'} ha B b ob e=>by
  obtain⟨_,_,w⟩:=ha
  refine (I.hok b ob e).stay (λc K Y q=>(B.2 c ?_).trans q) (λ_ q=>q) λ_ _ q=>q
  rintro rfl
  rcases Y with rfl|Y
  ·rw[w] at e;cases e
  ·rw[w] at Y;cases Y
 rcases W with N|N
 ·refine jr N hn (λh' f B=>?_) P
  obtain⟨oL,_,_,hoL,_⟩:=id hn
  refine h _ ⟨I.ok,I.os,I.bare,⟨λb o e n G W=>?_,λb o e n G W=>?_,I.base.free,λb o e W=>?_,I.base.tups,I.base.frzs,I.base.tbls⟩,⟨_,f,λj y R T e2 e3=>?_⟩,λy c e=>?_,I.free,I.freeC,λp O=>?_,C ⟨oL,hoL,I.free⟩ B,by simpa using I.len⟩ ⟨_,B,.inl rfl⟩
  ·exact (B.2 b (aQ (aE (aA e) I.ok.above))).trans (I.base.keep b o e n G W)
  ·obtain⟨sl,T⟩:=I.base.slot b o e n G W
   exact⟨sl,(B.2 b (aQ (aE (aA e) I.ok.above))).trans T⟩
  ·obtain⟨U,T⟩:=I.base.there b o e W
   exact⟨U,(B.2 b (aQ (aE (aA e) I.ok.above))).trans T⟩
  ·by_cases l:j=i
   ·subst l
    rw[hi] at T;cases T
    rw[e8 hiσ] at e2
    cases e2
    exact⟨u,r,.inl ⟨N,by simp⟩⟩
   ·rw[eD (bY l)] at e2
    obtain⟨u',S,q⟩:=L j y R T e2 e3
    refine⟨u',S,?_⟩
    rcases q with⟨k,e⟩|⟨k,c,e,z⟩
    ·refine .inl ⟨k,?_⟩
     have:y≠x:=λe=>l (SW hN T (e▸hi))
     simp[this,e]
    ·exact .inr ⟨k,c,e,z.sameBut B (cne y c e)⟩
  ·obtain⟨K,z⟩:=I.cell y c e
   exact⟨K,z.sameBut B (cne y c e)⟩
  ·obtain⟨e,n,ne,nf,d⟩:=I.pin p O
   exact⟨(B.2 p.1 ne).trans e,n,ne,nf,d⟩
 ·have g:X.fn x=true:=by
   rcases F with z|z
   ·exact z
   ·rw[z] at N;cases N
  obtain⟨c,Y⟩:=I.ok.has x (.inl N)
  obtain⟨K,z⟩:=I.cell x c Y
  refine wpAny_storeName_cell I.ok.kind N Y z (λh' Z B=>?_)
  obtain⟨oc,hoc,hocd⟩:=id z
  refine h { s with heap:=h' } ⟨I.ok,I.os,I.bare,⟨λb o e n G W=>?_,λb o e n G W=>?_,I.base.free,λb o e W=>?_,I.base.tups,I.base.frzs,I.base.tbls⟩,⟨m,hn.sameBut B (bY (cne x c Y)),λj y R T e2 e3=>?_⟩,λy J e=>?_,I.free,I.freeC,λp O=>?_,C ⟨oc,hoc,I.freeC x c Y⟩ B,by simpa using I.len⟩ ⟨c,B,.inr Y⟩
  ·exact (B.2 b (aQ (aE (aA e) (I.ok.cab x c g Y)))).trans (I.base.keep b o e n G W)
  ·obtain⟨sl,T⟩:=I.base.slot b o e n G W
   exact⟨sl,(B.2 b (aQ (aE (aA e) (I.ok.cab x c g Y)))).trans T⟩
  ·obtain⟨U,T⟩:=I.base.there b o e W
   exact⟨U,(B.2 b (aQ (aE (aA e) (I.ok.cab x c g Y)))).trans T⟩
  ·by_cases l:j=i
   ·subst l
    rw[hi] at T;cases T
    rw[e8 hiσ] at e2
    cases e2
    exact⟨u,r,.inr ⟨.inl N,c,Y,Z⟩⟩
   ·rw[eD (bY l)] at e2
    obtain⟨u',S,q⟩:=L j y R T e2 e3
    refine⟨u',S,?_⟩
    rcases q with q|⟨k,J,e,z'⟩
    ·exact .inl q
    ·refine .inr ⟨k,J,e,z'.sameBut B ?_⟩
     rintro rfl
     exact l (SW hN T (I.ok.inj _ _ _ e Y▸hi))
  ·by_cases t:J=c
   ·subst t;exact⟨_,Z⟩
   ·obtain⟨w2,z2⟩:=I.cell y J e
    exact⟨w2,z2.sameBut B t⟩
  ·obtain⟨e,n,ne,nf,d⟩:=I.pin p O
   refine⟨(B.2 p.1 ?_).trans e,n,ne,nf,d⟩
   intro q
   rw[q,hoc] at e
   have q':oc=p.2:=bh e
   exact d K (by rw[<- q'];exact hocd)
theorem SY(I:Inv X ge σ H s)(hN:X.N.Nodup)(hi:X.N[i]?=aa x)(W:Loc X.env.scope x)(r:Zp v u)
  (h:∀ s',Inv X ge (σ.set i (aa v)) H s'->Q () s') (F:X.fn x=ac\/X.env.scope.names.lookup x=aa .local:=by walk_at "m"):aG M A (iX X.env x u) Q E s :=
 Pf I hN hi W r (λs' m _=>h s' m) F
theorem Inv.call'(I:Inv X ge σ H s)(P:s'.os=s.os)(u:Un (frs X.stack) ch H H' s.heap s'.heap)(hok:HOk X.prog X.w H' s'.heap)(M:e6 s'.gens)
  (j:∀ b∈ch,(b∈X.ex\/X.s₀.heap.objs.size<=b)/\b≠X.env.locals/\(∀ x c,X.env.cells.lookup x=aa c->c≠b)/\∀ p∈X.pn++ge,p.1≠b):Inv X ge σ H' s':=by
 obtain⟨h',g',d',t',U⟩:=s'
 have e:U=s.os:=P
 subst e
 exact I.call (g':=g') (t':=t') (d':=d') u hok M j
end
abbrev XK:=af->Option ah->Hp->Prop
abbrev St:=List (Option V)
abbrev VK:=V->Hp->Prop
abbrev TE:=St->Hp->VK->Prop
abbrev TT:=St->Hp->(Bool->Hp->Prop)->Prop
abbrev TA:=St->Hp->(List V->Hp->Prop)->Prop
structure Ends where
 nx:St->Hp->Prop
 rt:VK
 bk:St->Hp->Prop:=λ_ _=>False
 ct:St->Hp->Prop:=λ_ _=>False
abbrev TS:=Ends->St->Hp->Prop
inductive EP(X:Cx)(ge:List (ah×dE))(σ:St)(Q:VK)(u:af)(s':aq):Prop where
 | mk (v:V) (H':Hp) (I:Inv X ge σ H' s') (r:Zp v u) (q:Q v H')
inductive TP(X:Cx)(ge:List (ah×dE))(σ:St)(Q:Bool->Hp->Prop)(b:Bool)(s':aq):Prop where
 | mk (H':Hp) (I:Inv X ge σ H' s') (q:Q b H')
inductive AP(X:Cx)(ge:List (ah×dE))(σ:St)(Q:List V->Hp->Prop)(us:List af)(s':aq):Prop where
 | mk (vs:List V) (H':Hp) (I:Inv X ge σ H' s') (r:Zi vs us) (q:Q vs H')
inductive NxP(X:Cx)(ge:List (ah×dE))(s':aq)(R:St->Hp->Prop):Prop where
 | mk (σ':St) (H':Hp) (I:Inv X ge σ' H' s') (q:R σ' H')
def SP(X:Cx)(ge:List (ah×dE))(D:Ends)(f:Flow)(s':aq):Prop :=
 match f with
 | .next=>NxP X ge s' D.nx
 | .brk=>NxP X ge s' D.bk
 | .cont=>NxP X ge s' D.ct
 | .ret u=>∃ v σ' H',Inv X ge σ' H' s'/\Zp v u/\D.rt v H'
def PE(X:Cx)(e:cz)(t:TE):Prop :=
 ∀ (ge:List (ah×dE)) (s:aq) (σ:St) (H:Hp) (Q:VK),Inv X ge σ H s->t σ H Q->aG (aI X.prog X.w) X.A (cg e X.env) (EP X ge σ Q) X.xe s
def PT(X:Cx)(e:cz)(t:TT):Prop :=
 ∀ (ge:List (ah×dE)) (s:aq) (σ:St) (H:Hp) (Q:Bool->Hp->Prop),Inv X ge σ H s->t σ H Q->aG (aI X.prog X.w) X.A (isTrue e X.env (cg e X.env)) (TP X ge σ Q) X.xe s
def PW(X:Cx)(e:cz)(t:TT):Prop :=
 ∀ (whole:Sem af) (ge:List (ah×dE)) (s:aq) (σ:St) (H:Hp) (Q:Bool->Hp->Prop),Inv X ge σ H s->t σ H Q->aG (aI X.prog X.w) X.A (isTrue e X.env whole) (TP X ge σ Q) X.xe s
variable{t:TE}
theorem PW.pt{t:TT}(h:PW X e t):PT X e t:=h _
def PA(X:Cx)(es:List cz)(t:TA):Prop :=
 ∀ (pos:jJ) (ge:List (ah×dE)) (s:aq) (σ:St) (H:Hp) (Q:List V->Hp->Prop),Inv X ge σ H s->t σ H Q->aG (aI X.prog X.w) X.A (spliced (bZ pos (aB es X.env))) (AP X ge σ Q) X.xe s
def PS(X:Cx)(st:er)(t:TS):Prop :=
 ∀ (ge:List (ah×dE)) (s:aq) (σ:St) (H:Hp) (D:Ends),Inv X ge σ H s->t D σ H->aG (aI X.prog X.w) X.A (exec st X.env) (SP X ge D) X.xe s
def PSs(X:Cx)(st:List er)(t:TS):Prop :=
 ∀ (ge:List (ah×dE)) (s:aq) (σ:St) (H:Hp) (D:Ends),Inv X ge σ H s->t D σ H->aG (aI X.prog X.w) X.A (execs st X.env) (SP X ge D) X.xe s
variable{α:Type}{Q:af->aq->Prop}
theorem thn{t:Sem α}{Q b:α->aq->Prop}(h:aG M A t Q E s)(c:∀ a s,Q a s->b a s):aG M A t b E s:=bi h c λ_ _ x=>x
variable{pos:jJ}{ta tb:TE}{c:cz}{rest:List af}
section
def Zj(i:Nat):TE:=λσ H Q=>∃ v,σ[i]?=aa (aa v)/\Q v H
def tC(v:V):TE:=λ_ H Q=>Q v H
theorem SZ(hN:X.N[i]?=aa x)(S:Vis X.env.scope x)(hd:(x == ("__debug__" : au))=false:=by decide)(y:(x == ("__classdict__" : au))=false:=by decide):PE X (.Name x pos) (Zj i):=by
 intro O s Z H Q I h
 obtain⟨v,e,h⟩:=h
 obtain⟨m,f,L⟩:=I.loc
 obtain⟨u,r,l⟩:=L i x v hN e S
 have fin:EP X O Z Q u s:=⟨v,H,I,r,h⟩
 rcases l with⟨N,K⟩|⟨N,c,Y,t⟩
 ·exact jP (wpAny_loadName_local I.ok.kind N f K fin) hd
 ·rcases N with N|N
  ·exact jP (wpAny_loadName_cell I.ok.kind N Y t fin) hd
  ·exact jP (wpAny_loadName_free I.ok.kind N Y t fin y) hd
theorem Ze{i j pos}:PE X (.Constant (.int i) j pos) (tC (.int i)):=λ_ _ _ H _ I h=>wpAny_Constant_int ⟨.int i,H,I.tok _,⟨_,rfl⟩,h⟩
theorem Wy{b j pos}:PE X (.Constant (.bool b) j pos) (tC (.bl b)):=λ_ _ _ H _ I h=>Constant_bool ⟨.bl b,H,I,rfl,h⟩
theorem Xj{j pos}:PE X (.Constant .none j pos) (tC .non):=λ_ _ _ H _ I h=>Constant_none ⟨.non,H,I,rfl,h⟩
theorem Zm{x j pos}:PE X (.Constant (.str x) j pos) (tC (.str x)):=λ_ _ _ H _ I h=>Calls.Constant_str ⟨.str x,H,I.tok _,⟨_,rfl⟩,h⟩
def Gl(X:Cx)(x:au):Prop:=X.env.kindOf x=aa .globalImplicit
theorem WA(I:Inv X ge σ H s)(M:Gl X x)(hm:X.mg x=aa u)(h:Q u s)
  (hd:(x == ("__debug__" : au))=false:=by decide):aG (aI X.prog X.w) X.A (cg (.Name x pos) X.env) Q E s :=
 gZ I.ok.kind M (Calls.loadGlobal_global (by rw[I.ok.glob];exact I.mod.glob.keeps I.bk) hm h) hd
theorem V8(I:Inv X ge σ H s)(M:Gl X x)(hm:X.mg x=none)(S:du x=aa u)(h:Q u s)
  (hn:x ≠ "__name__" := by decide) (hd:(x == ("__debug__" : au))=false:=by decide):aG (aI X.prog X.w) X.A (cg (.Name x pos) X.env) Q E s:=by
 obtain⟨a,U,R⟩:=I.mod.blt
 exact gZ I.ok.kind M (Calls.loadGlobal_builtin (by rw[I.ok.glob];exact I.mod.glob.keeps I.bk) hm (by rw[I.ok.blt];exact U.keeps I.bk) ((R x hn).trans S) h) hd
theorem X9(M:Gl X x)(hm:X.mg x=aa u)(r:Zp v u)(hd:(x == ("__debug__" : au))=false:=by decide):PE X (.Name x pos) (tC v) :=
 λ_ _ _ H _ I h=>WA I M hm ⟨v,H,I,r,h⟩ hd
theorem Td(M:Gl X x)(hm:X.mg x=none)(S:du x=aa u)(r:Zp v u)(hn:x ≠ "__name__" := by decide)(hd:(x == ("__debug__" : au))=false:=by decide):PE X (.Name x pos) (tC v) :=
 λ_ _ _ H _ I h=>V8 I M hm S ⟨v,H,I,r,h⟩ hn hd
variable{a b:cz}
def tB(t:TE):TT:=λσ H Q=>t σ H λx H1=>∃ c,x=.bl c/\Q c H1
theorem Y1(h:PE X e t)(j:∀ a,isTrue e X.env a=(do let v <- a;jd e.pos;jf [v] (truthy v)):=by intro _;rfl):PT X e (tB t):=by
 intro O s Z H Q I N
 refine isTrue_plain (thn (h O s Z H _ I N) ?_) (j _)
 rintro v s1 ⟨x,H1,I1,r1,q1⟩
 obtain⟨d,rfl,q⟩:=q1
 cases r1
 exact cJ ⟨H1,I1,q⟩
variable{tA tB':TT}{rest:List cz}
def S0(t u:TT):TT:=λσ H Q=>t σ H λc H1=>if c=ac then u σ H1 Q else Q aw H1
def tOr(t u:TT):TT:=λσ H Q=>t σ H λc H1=>if c=ac then Q ac H1 else u σ H1 Q
def tNot(t:TT):TT:=λσ H Q=>t σ H λc H1=>Q (!c) H1
theorem Y2(ha:PT X a tA):PW X (.BoolOp .And [a] pos) tA:=by
 intro j O s Z H Q I h
 refine isTrue_and (thn (ha O s Z H Q I h) λc s1 e=>?_)
 cases c with
 | true=>exact isTrue_and_nil e
 | false=>exact e
theorem Te(ha:PT X a tA):PW X (.BoolOp .Or [a] pos) tA:=by
 intro j O s Z H Q I h
 refine isTrue_or (thn (ha O s Z H Q I h) λc s1 e=>?_)
 cases c with
 | false=>exact isTrue_or_nil e
 | true=>exact e
theorem YE(ha:PT X a tA)(hb:PW X (.BoolOp .And (b::rest) pos) tB'):PW X (.BoolOp .And (a::b::rest) pos) (S0 tA tB'):=by
 intro j O s Z H Q I h
 refine isTrue_and (thn (ha O s Z H _ I h) ?_)
 rintro c s1 ⟨H1,I1,q1⟩
 cases c with
 | true=>exact hb j O s1 Z H1 Q I1 q1
 | false=>exact⟨H1,I1,q1⟩
theorem V9(ha:PT X a tA)(hb:PW X (.BoolOp .Or (b::rest) pos) tB'):PW X (.BoolOp .Or (a::b::rest) pos) (tOr tA tB'):=by
 intro j O s Z H Q I h
 refine isTrue_or (thn (ha O s Z H _ I h) ?_)
 rintro c s1 ⟨H1,I1,q1⟩
 cases c with
 | true=>exact⟨H1,I1,q1⟩
 | false=>exact hb j O s1 Z H1 Q I1 q1
theorem Ua(ha:PT X a tA):PT X (.UnaryOp .Not a pos) (tNot tA):=by
 intro O s Z H Q I h
 exact isTrue_not (thn (ha O s Z H (λc y=>Q (!c) y) I h) (by rintro c s1 ⟨y,I1,q1⟩;exact ⟨y,I1,q1⟩))
def Ph(ta tb:TE):TE:=λσ H Q=>ta σ H λx H1=>∃ c,x=.bl c/\if c=ac then tb σ H1 Q else Q (.bl aw) H1
def tOrV(ta tb:TE):TE:=λσ H Q=>ta σ H λx H1=>∃ c,x=.bl c/\if c=ac then Q (.bl ac) H1 else tb σ H1 Q
def Pi(ta:TE):TE:=λσ H Q=>ta σ H λx H1=>∃ c,x=.bl c/\Q (.bl (!c)) H1
theorem Y3{op}(h:PE X a t):PE X (.BoolOp op [a] pos) t:=λO s Z H Q I N=>BoolOp_one (h O s Z H Q I N)
theorem Y9(ha:PE X a ta)(hb:PE X (.BoolOp .And (b::rest) pos) tb):PE X (.BoolOp .And (a::b::rest) pos) (Ph ta tb):=by
 intro O s Z H Q I h
 refine BoolOp_and (thn (ha O s Z H _ I h) ?_)
 rintro v s1 ⟨x,H1,I1,r1,A⟩
 obtain⟨c,rfl,A⟩:=A
 cases r1
 refine cJ ?_
 cases c with
 | true=>exact hb O s1 Z H1 Q I1 A
 | false=>exact⟨.bl aw,H1,I1,rfl,A⟩
theorem Ub(ha:PE X a ta)(hb:PE X (.BoolOp .Or (b::rest) pos) tb):PE X (.BoolOp .Or (a::b::rest) pos) (tOrV ta tb):=by
 intro O s Z H Q I h
 refine BoolOp_or (thn (ha O s Z H _ I h) ?_)
 rintro v s1 ⟨x,H1,I1,r1,A⟩
 obtain⟨c,rfl,A⟩:=A
 cases r1
 refine cJ ?_
 cases c with
 | false=>exact hb O s1 Z H1 Q I1 A
 | true=>exact⟨.bl ac,H1,I1,rfl,A⟩
theorem Pj(ha:PE X a ta):PE X (.UnaryOp .Not a pos) (Pi ta):=by
 intro O s Z H Q I h
 refine UnaryOp_ (thn (ha O s Z H _ I h) ?_)
 rintro v s1 ⟨x,H1,I1,r1,A⟩
 obtain⟨c,rfl,A⟩:=A
 cases r1
 exact not_of (cJ ⟨.bl (!c),H1,I1,rfl,A⟩)
def tIf(t:TT)(ta tb:TE):TE:=λσ H Q=>t σ H λc H1=>if c=ac then ta σ H1 Q else tb σ H1 Q
theorem S1(Y:PT X c tA)(ha:PE X a ta)(hb:PE X b tb):PE X (.IfExp c a b pos) (tIf tA ta tb):=by
 intro O s Z H Q I h
 refine wpAny_IfExp (thn (Y O s Z H _ I h) ?_)
 rintro d s1 ⟨H1,I1,q1⟩
 cases d with
 | true=>exact ha O s1 Z H1 Q I1 q1
 | false=>exact hb O s1 Z H1 Q I1 q1
end
def SqL(K:ay)(H:Hp)(a:ah)(xs:List V):Prop :=
 Rd H a (.lst xs) \/
  ∃ (o:dE) (its:Array af) (n:Nat),K.lookup a=aa o/\o.cls=.type "list" /\ o.dict=none/\o.data=.seq its n/\its.size<=sizeLine/\Zi xs its.toList
def SqT(K:ay)(H:Hp)(a:ah)(xs:List V):Prop :=
 Rd H a (.tup xs) \/
  ∃ (o:dE) (its:Array af) (n:Nat),K.lookup a=aa o/\o.cls=.type "tuple" /\ o.data=.seq its n/\its.size<=sizeLine/\Zi xs its.toList
noncomputable def absV:af->Option V
 | .none=>aa .non
 | .bool b=>aa (.bl b)
 | .int i _=>aa (.int i)
 | .str x _=>aa (.str x)
 | .bytes b _=>aa (.byt b)
 | .float b _=>aa (.flt b)
 | .ref a=>aa (.ref a)
 | .type n=>aa (.ty n)
 | _=>none
theorem Zp.abs{x:V}(r:Zp x u):absV u=aa x:=by
 cases x with
 | non=>cases r;rfl
 | bl _=>cases r;rfl
 | int _=>obtain⟨t,rfl⟩:=r;rfl
 | str _=>obtain⟨t,rfl⟩:=r;rfl
 | byt _=>obtain⟨t,rfl⟩:=r;rfl
 | flt _=>obtain⟨t,rfl⟩:=r;rfl
 | ref _=>cases r;rfl
 | ty _=>cases r;rfl
theorem Zp.inj{x y:V}{u:af}(r:Zp x u)(q:Zp y u):x=y:=bh (r.abs.symm.trans q.abs)
theorem Zi.inj:∀ {xs ys:List V} {us:List af},Zi xs us->Zi ys us->xs=ys
 | _,_,_,.nil,.nil=>rfl
 | _,_,_,.cons r t,.cons r' t'=>by rw[r.inj r',Zi.inj t t']
variable{xs ys:List V}{K:ay}
theorem SqL.of(h:H a=aa (.lst xs)):SqL K H a xs:=.inl (.inl h)
theorem SqT.of(h:H a=aa (.tup xs)):SqT K H a xs:=.inl (.inl h)
theorem Inv.list(I:Inv X ge σ H s)(h:SqL X.K H a xs):∃ its:List af,Zi xs its/\PlainL s.heap a its.toArray/\xs.length<=sizeLine:=by
 rcases h with h|⟨o,its,n,hk,hc,hd,hs,hz,r⟩
 ·obtain⟨z,its,n,r,e⟩:=h.ok I.hok
  exact⟨its,r,⟨_,n,e,rfl,rfl,rfl⟩,z⟩
 ·refine⟨its.toList,r,⟨o,n,I.kIn a o hk,hc,hd,by simpa using hs⟩,?_⟩
  have e:=r.length
  simp only[a_] at e
  omega
theorem Inv.tuple(I:Inv X ge σ H s)(h:SqT X.K H a xs):∃ its:List af,Zi xs its/\i7 s.heap a its.toArray/\xs.length<=sizeLine:=by
 rcases h with h|⟨o,its,n,hk,hc,hs,hz,r⟩
 ·obtain⟨z,its,r,p⟩:=h.ok I.hok
  exact⟨its,r,p,z⟩
 ·refine⟨its.toList,r,⟨o,I.kIn a o hk,hc,n,by simpa using hs⟩,?_⟩
  have e:=r.length
  simp only[a_] at e
  omega
theorem Inv.list_inj(I:Inv X ge σ H s)(h:SqL X.K H a xs)(h':SqL X.K H a ys):xs=ys:=by
 obtain⟨its,r,⟨o,n,e,_,_,d⟩,_⟩:=I.list h
 obtain⟨its',S,⟨U,c,N,_,_,d'⟩,_⟩:=I.list h'
 rw[e] at N;cases N
 rw[d] at d'
 injection d' with d1 _
 have:its=its':=by simpa using congrArg jX d1
 subst this
 exact r.inj S
theorem Inv.tuple_inj(I:Inv X ge σ H s)(h:SqT X.K H a xs)(h':SqT X.K H a ys):xs=ys:=by
 obtain⟨its,r,⟨o,e,_,n,d⟩,_⟩:=I.tuple h
 obtain⟨its',S,⟨U,N,_,c,d'⟩,_⟩:=I.tuple h'
 rw[e] at N;cases N
 rw[d] at d'
 injection d' with d1 _
 have:its=its':=by simpa using congrArg jX d1
 subst this
 exact r.inj S
abbrev Cx.wish(X:Cx)(E:af->aq->Prop):Cx:={ X with xe:=E }
abbrev Cx.nox(X:Cx):Cx:=X.wish λ_ _=>False
theorem Cx.Ok.wish{X:Cx}(ok:X.Ok)(E:af->aq->Prop):(X.wish E).Ok :=
 ⟨ok.mod,ok.kind,ok.glob,ok.blt,ok.above,ok.inj,ok.has,ok.cab,ok.hd,ok.frames,ok.stk,ok.exf,ok.bs,ok.bsz,ok.noex,ok.exfs,ok.funs,ok.frf⟩
theorem Cx.Ok.unwish(ok:(X.wish E).Ok):X.Ok :=
 ⟨ok.mod,ok.kind,ok.glob,ok.blt,ok.above,ok.inj,ok.has,ok.cab,ok.hd,ok.frames,ok.stk,ok.exf,ok.bs,ok.bsz,ok.noex,ok.exfs,ok.funs,ok.frf⟩
theorem Inv.wish(I:Inv X ge σ H s)(E:af->aq->Prop):Inv (X.wish E) ge σ H s:=⟨I.ok.wish E,I.os,I.bare,I.base,I.loc,I.cell,I.free,I.freeC,I.pin,I.hok,I.len⟩
theorem Inv.unwish(I:Inv (X.wish E) ge σ H s):Inv X ge σ H s:=⟨I.ok.unwish,I.os,I.bare,I.base,I.loc,I.cell,I.free,I.freeC,I.pin,I.hok,I.len⟩
theorem SP.unwish{D:Ends}{f:Flow}{s':aq}(h:SP (X.wish E) ge D f s'):SP X ge D f s':=by
 cases f with
 | next=>obtain⟨A,H',I,q⟩:=h;exact⟨A,H',I.unwish,q⟩
 | brk=>obtain⟨A,H',I,q⟩:=h;exact⟨A,H',I.unwish,q⟩
 | cont=>obtain⟨A,H',I,q⟩:=h;exact⟨A,H',I.unwish,q⟩
 | ret u=>obtain⟨v,A,H',I,r,q⟩:=h;exact⟨v,A,H',I.unwish,r,q⟩
theorem PSs.nox{st:List er}{t:TS}(h:PSs X.nox st t):PSs X st t:=λO s Z H D I N =>
 bi (h O s Z H D (I.wish _) N) (λ_ _ q=>q.unwish) λ_ _ z=>bq z
variable{t:TA}{st:er}{te:TE}{tc:TT}
section
variable{rest:List er}{t u:TS}
def Uc:TS:=λD σ H=>D.nx σ H
def Yj(t u:TS):TS:=λD σ H=>t { D with nx:=u D } σ H
theorem Z6:PSs X [] Uc:=λ_ _ Z H _ I h=>ew ⟨Z,H,I,h⟩
theorem Zk(h1:PS X st t)(h2:PSs X rest u):PSs X (st::rest) (Yj t u):=by
 intro O s Z H D I h
 refine wpAny_execs_cons (thn (h1 O s Z H { D with nx:=u D } I h) λf s1 q=>?_)
 cases f with
 | next =>
  obtain⟨A,H',m,q⟩:=q
  exact h2 O s1 A H' D m q
 | ret v=>exact q
 | brk=>exact q
 | cont=>exact q
theorem Zl(h1:PS X st t):PSs X [st] t:=by
 intro O s Z H D I h
 refine wpAny_execs_cons (thn (h1 O s Z H D I h) λf s1 q=>?_)
 cases f with
 | next=>exact ew q
 | ret v=>exact q
 | brk=>exact q
 | cont=>exact q
theorem Inv.quiet(I:Inv X ge σ H s):interactive X.env=false:=by simp[interactive,I.ok.kind]
def WY(te:TE):TS:=λD σ H=>te σ H λ_ H1=>D.nx σ H1
theorem XY(j:PE X e te)(B:hE e none pos.line X.env=dZ false:=by rfl):PS X (.Expr e pos) (WY te):=by
 intro O s Z H D I h
 exact wpAny_Expr_any (thn (j O s Z H _ I h) (by rintro v s1 ⟨x,H1,I1,r1,q1⟩;exact ⟨Z,H1,I1,q1⟩)) I.quiet B
def Vo(te:TE):TS:=λD σ H=>te σ H D.rt
theorem Zx(j:PE X e te):PS X (.Return (aa e) pos) (Vo te):=by
 intro O s Z H D I h
 exact wpAny_Return_some (thn (j O s Z H _ I h) (by rintro v s1 ⟨x,H1,I1,r1,q1⟩;exact ⟨x,Z,H1,I1,r1,q1⟩))
def Vp(c:TT)(t u:TS):TS:=λD σ H=>c σ H λb H1=>if b=ac then t D σ H1 else u D σ H1
theorem Yr{a b:List er}(Y:PT X c tc)(ha:PSs X a t)(hb:PSs X b u):PS X (.If c a b pos) (Vp tc t u):=by
 intro O s Z H D I h
 refine wpAny_If (thn (Y O s Z H _ I h) ?_)
 rintro d s1 ⟨H1,I1,q1⟩
 cases d with
 | true=>exact ha O s1 Z H1 D I1 q1
 | false=>exact hb O s1 Z H1 D I1 q1
end
abbrev TG:=V->St->Hp->(St->Hp->Prop)->Prop
abbrev TGs:=List V->St->Hp->(St->Hp->Prop)->Prop
def PG(X:Cx)(target:cz)(t:TG):Prop :=
 ∀ (ge:List (ah×dE)) (s:aq) (σ:St) (H:Hp) (v:V) (u:af) (Q:St->Hp->Prop),Inv X ge σ H s->Zp v u->t v σ H Q ->
  aG (aI X.prog X.w) X.A (assign target X.env u) (λ_ s'=>∃ σ' H',Inv X ge σ' H' s'/\Q σ' H') X.xe s
def PGs(X:Cx)(ts:List cz)(t:TGs):Prop :=
 ∀ (ge:List (ah×dE)) (s:aq) (σ:St) (H:Hp) (vs:List V) (us:List af) (Q:St->Hp->Prop),Inv X ge σ H s->Zi vs us->t vs σ H Q ->
  aG (aI X.prog X.w) X.A (assignInOrder ((d6 ts X.env).map (·.2)) us) (λ_ s'=>∃ σ' H',Inv X ge σ' H' s'/\Q σ' H') X.xe s
variable{k n:Nat}{tg:cz}{g:TG}{pos':jJ}{es:List cz}
def WB(i:Nat):TG:=λv σ H Q=>Q (σ.set i (aa v)) H
theorem YQ(hN:X.N.Nodup)(hi:X.N[i]?=aa x)(W:Loc X.env.scope x)(F:X.fn x=ac\/X.env.scope.names.lookup x=aa .local:=by walk_at "m"):PG X (.Name x pos) (WB i):=by
 intro O s Z H v u Q I r h
 exact wpAny_assign_Name (SY I hN hi W r (λl m=>⟨_,H,m,h⟩) F)
def gNil:TGs:=λvs σ H Q=>vs=[]/\Q σ H
def S2(t:TG)(u:TGs):TGs:=λvs σ H Q=>∃ v r,vs=v::r/\t v σ H λσ' H'=>u r σ' H' Q
theorem Vq:PGs X [] gNil:=by
 intro O s Z H vs us Q I r h
 obtain⟨e,h⟩:=h
 subst e
 cases r
 exact assignInOrder_nil ⟨Z,H,I,h⟩
theorem Xt{t:TG}{u:TGs}(h1:PG X e t)(h2:PGs X es u)
  (B:(d6 (e::es) X.env).map (·.2)=assign e X.env::(d6 es X.env).map (·.2):=by rfl):PGs X (e::es) (S2 t u):=by
 intro O s Z H vs us Q I r h
 obtain⟨v,a,T,h⟩:=h
 subst T
 cases r with
 | cons r w =>
  rw[B]
  refine assignInOrder_cons (thn (h1 O s Z H _ _ _ I r h) λ_ s1 ⟨σ1,H1,I1,q1⟩=>?_)
  exact h2 O s1 σ1 H1 _ _ Q I1 w q1
def S3(K:ay)(n:Nat)(t:TGs):TG:=λv σ H Q=>∃ a xs,v=.ref a/\SqT K H a xs/\xs.length=n/\t xs σ H Q
theorem Lg{t:TGs}(Y:X.calm=ac)(h:PGs X es t)
  (hn:(d6 es X.env).length=n:=by rfl) (w:(d6 es X.env).findIdx? (·.1)=none:=by rfl):PG X (.Tuple es k pos) (S3 X.K n t):=by
 intro O s Z H v u Q I r N
 obtain⟨a,xs,T,g,L,N⟩:=N
 subst T
 cases r
 obtain⟨its,m,ht,C⟩:=I.tuple g
 refine assign_Tuple_tuple (I.ok.hd Y) ht (by simp[hn,<- L,m.length]) w λh' W=>?_
 have f:Inv X O Z H { s with heap:=h' }:=I.kept (t':=s.toks) λb o e=>W b o (aQ (aA e)) e
 exact h O _ Z H xs _ Q f (by simpa using m) N
def WZ(te:TE)(g:TG):TS:=λD σ H=>te σ H λx H1=>g x σ H1 D.nx
theorem Tf(j:PE X e te)(M:PG X tg g)(B:swapsWithSole [tg] e pos.line X.env=dZ false:=by rfl)(hw:swappedStores [tg] e X.env=dZ none:=by rfl)
  (h1:(d6 [tg] X.env).map (·.2)=[assign tg X.env]:=by rfl):PS X (.Assign [tg] e pos) (WZ te g):=by
 intro O s Z H D I h
 refine wpAny_Assign_stores (thn (j O s Z H _ I h) ?_) B hw
 rintro v s1 ⟨x,H1,I1,r1,q1⟩
 rw[h1]
 exact thn (M O s1 Z H1 x v _ I1 r1 q1) (by rintro _ s2 ⟨a,b,c,d⟩;exact ⟨a,b,c,d⟩)
theorem ZB(hN:X.N.Nodup)(hi:X.N[i]?=aa x)(W:Loc X.env.scope x)(j:PE X e te)(B:hE e (aa (.Name x pos')) pos.line X.env=dZ false:=by rfl)(F:X.fn x=ac\/X.env.scope.names.lookup x=aa .local:=by walk_at "m") :
  PS X (.Assign [.Name x pos'] e pos) (WZ te (WB i)):=by
 intro O s Z H D I h
 refine wpAny_Assign_Name (thn (j O s Z H _ I h) ?_) B
 rintro v s1 ⟨y,H1,I1,r1,q1⟩
 exact SY I1 hN hi W r1 (λs2 S=>⟨_,H1,S,q1⟩) F
variable{body:List er}
def Tg(c:TT)(tb:TS):TS:=λD σ H=>∃ W:Nat->St->Hp->Prop,(∃ m,W m σ H)/\∀ m σ H,W m σ H ->
 c σ H λb H1=>if b=ac then ∃ N:St->Hp->Prop,(∀ σ' H',N σ' H'->∃ m',m' < m/\W m' σ' H')/\tb { D with nx:=N,ct:=N,bk:=D.nx } σ H1 else D.nx σ H1
theorem S4{tb:TS}(e:PassesOwn (aI X.prog X.w) X.A X.env X.xe)(Y:PT X c tc)(hb:PSs X body tb):PS X (.While c body [] pos) (Tg tc tb):=by
 intro O s Z H D I h
 obtain⟨W,⟨Q,q⟩,turn⟩:=h
 refine wpAny_While (codeAny_whileLoop (λn l=>∃ A H',Inv X O A H' l/\W n A H') ?_ Q ⟨Z,H,I,q⟩)
 rintro n s1 ⟨σ1,H1,I1,w1⟩
 refine da e (thn (Y O s1 σ1 H1 _ I1 (turn n σ1 H1 w1)) ?_)
 rintro b s2 ⟨H2,I2,k⟩
 cases b with
 | true =>
  obtain⟨N,hN,k⟩:=k
  rw[if_pos rfl]
  refine da e (thn (hb O s2 σ1 H2 _ I2 k) λf s3 g=>?_)
  cases f with
  | next =>
   obtain⟨w,M,U,u⟩:=g
   obtain⟨a,K,m⟩:=hN w M u
   exact⟨a,K,w,M,U,m⟩
  | cont =>
   obtain⟨w,M,U,u⟩:=g
   obtain⟨a,K,m⟩:=hN w M u
   exact⟨a,K,w,M,U,m⟩
  | brk=>exact g
  | ret v=>exact g
 | false =>
  rw[if_neg ap]
  exact ew ⟨σ1,H2,I2,k⟩
structure It where
 go:Nat->Hp->Prop
 yld:Nat->Hp->V->Hp->Prop
 stop:Nat->Hp->Prop
def Xa(X:Cx)(ge:List (ah×dE))(H:Hp)(b:ah):Prop :=
 H b=none/\b≠X.env.locals/\b∉X.fs/\(b∈X.ex\/X.s₀.heap.objs.size<=b)/\(∀ x c,X.env.cells.lookup x=aa c->c≠b)/\∀ p∈X.pn++ge,p.1≠b
theorem Inv.fpOk(I:Inv X ge σ H s)(hb:s.heap.objs.size<=b)(hn:H' b=none):Xa X ge H' b:=by
 refine⟨hn,cq (aE I.lt hb),I.nofs hb,.inr (aT I.sz hb),λx c e z=>?_,λp O z=>?_⟩
 ·obtain⟨v,q⟩:=I.cell x c e
  exact absurd (aE q.lt (by rw[z];exact hb)) (bX _)
 ·exact absurd (aE (aA (I.pin p O).1) (by rw[z];exact hb)) (bX _)
structure Turn(P:bg)(w:bK)(K:ay)(tg:cz)(J:It)(fp:List ah)(it:ah)(tn:Nat->bG->Prop):Prop where
 mem:it∈fp
 obj:∀ i h,tn i h->∀ b∈fp,∃ o,h.get? b=aa o/\∀ v,o.data≠.cell v
 keep:∀ i h h',tn i h->(∀ b∈fp,∀ o,h.get? b=aa o->h'.get? b=aa o)->tn i h'
 item:∀ (X:Cx),X.prog=P->X.w=w->X.K=K->X.calm=ac->∀ (i:Nat) (ge:List (ah×dE)) (s:aq) (σ:St) (H:Hp) (E:af->aq->Prop),Inv X ge σ H s->(∀ b∈fp,Xa X ge H b)->tn i s.heap->J.go i H ->
  aG (aI P w) X.A (pyNext (.ref it)) (λr s1=>∃ u,r=aa u /\
   aG (aI P w) X.A (h_ tg (.ref it) u) (λ_ s2=>∃ x H',Inv X ge σ H' s2/\Zp x u/\J.yld i H x H'/\tn (i+1) s2.heap/\∀ b∈fp,H' b=none) E s1) E s
 done:∀ (X:Cx),X.prog=P->X.w=w->X.K=K->X.calm=ac->∀ (i:Nat) (ge:List (ah×dE)) (s:aq) (σ:St) (H:Hp) (E:af->aq->Prop),Inv X ge σ H s->(∀ b∈fp,Xa X ge H b)->tn i s.heap->J.stop i H ->
  aG (aI P w) X.A (pyNext (.ref it)) (λr s1=>r=none/\Inv X ge σ H s1) E s
 self:∀ (A:bv) (i:Nat) (s:aq) (Q:af->aq->Prop) (E:af->aq->Prop),tn i s.heap->Q (.ref it) s->aG (aI P w) A (pyIter (.ref it)) Q E s
abbrev TI:=St->Hp->(It->Hp->Prop)->Prop
inductive PIE(X:Cx)(ge:List (ah×dE))(σ:St)(tg:cz)(R:It->Hp->Prop)(itv:af)(s2:aq):Prop where
 | mk (it:ah) (fp:List ah) (tn:Nat->bG->Prop) (J:It) (H':Hp) (e:itv=.ref it) (I:Inv X ge σ H' s2) (t:Turn X.prog X.w X.K tg J fp it tn) (z:tn 0 s2.heap) (f:∀ b∈fp,Xa X ge H' b) (q:R J H')
def PI(X:Cx)(tg iter:cz)(wi:TI):Prop :=
 ∀ (ge:List (ah×dE)) (s:aq) (σ:St) (H:Hp) (R:It->Hp->Prop),Inv X ge σ H s->wi σ H R ->
  aG (aI X.prog X.w) X.A (cg iter X.env) (λv s1=>aG (aI X.prog X.w) X.A (pyIter v) (PIE X ge σ tg R) X.xe s1) X.xe s
variable{vs:List V}
theorem Th{n:String}{vs:Array af}{Q:Unit->aq->Prop}(P:s.heap.get? it=aa o)(Y:o.cls=.type n)(hd:o.data=.fields vs)
    (hn:["enumerate", "zip", "dict_itemiterator", "dict_reverseitemiterator", "odict_iterator", "itertools.zip_longest", "itertools.pairwise"].contains n=aw) (c:Q () s):aG M A (h_ tg (.ref it) u) Q E s:=by
  unfold h_
  cases tg<;>first
    | exact am c
    | (cases u<;>first
        | exact am c
        | (refine ae (wpAny_load P ?_)
           rw[Y,hd]
           show aG M A (if (["enumerate", "zip", "dict_itemiterator", "dict_reverseitemiterator", "odict_iterator", "itertools.zip_longest", "itertools.pairwise"].contains n && vs[0]? == aa (e9 _))=ac then _ else _) Q E s
           rw[if_neg (by intro h;rw[hn,bI] at h;cases h)]
           exact am c))
def Itl(K:ay)(a:ah):It :=
 ⟨λi H=>∃ xs x,SqL K H a xs/\xs[i]?=aa x,λi H x H'=>H'=H/\∀ xs,SqL K H a xs->xs[i]?=aa x,λi H=>∃ xs,SqL K H a xs/\xs.length<=i⟩
def Itt(K:ay)(a:ah):It :=
 ⟨λi H=>∃ xs x,SqT K H a xs/\xs[i]?=aa x,λi H x H'=>H'=H/\∀ xs,SqT K H a xs->xs[i]?=aa x,λi H=>∃ xs,SqT K H a xs/\xs.length<=i⟩
def Itr(lo:Int)(n:Nat):It:=⟨λi _=>i<n,λi H x H'=>H'=H/\x=.int (lo+i),λi _=>n<=i⟩
theorem Lh(a it:ah):Turn P w K tg (Itl K a) [it] it (λi h=>h.IsListIter it a i) where
 mem:=by simp
 obj:=λi h st b G=>by
  have e:b=it:=by simpa using G
  subst e
  obtain⟨o,e,c,d⟩:=st
  exact⟨o,e,λv z=>by rw[d] at z;cases z⟩
 keep:=λi h h' st k=>st.at λo e=>k it (by simp) o e
 item:=by
  intro X Q N y Y i O s Z H E I F st M
  subst Q N y
  obtain⟨xs,x,g,W⟩:=M
  obtain⟨its,m,p,C⟩:=I.list g
  obtain⟨u,j,R⟩:=m.get W
  obtain⟨r,U,n,J,A,q⟩:=F it (by simp)
  refine wpAny_pyNext_list_item st p.isList (x:=u) (by simpa using j) λh' l S=>?_
  have f:Inv X O Z H { s with heap:=h' }:=I.turned (t':=s.toks) (λb o G e=>(S.2 b G).trans e) r U J A q
  obtain⟨o,e,c,d⟩:=id l
  exact⟨u,rfl,Th (s:={ s with heap:=h' }) e c d (by decide) ⟨x,H,f,R,⟨rfl,λys B=>by rw[I.list_inj B g];exact W⟩,l,λb G=>(F b G).1⟩⟩
 done:=by
  intro X Q N y Y i O s Z H E I F st M
  subst Q N y
  obtain⟨xs,g,W⟩:=M
  obtain⟨its,m,p,C⟩:=I.list g
  obtain⟨r,U,n,J,A,q⟩:=F it (by simp)
  have L:=m.length
  exact wpAny_pyNext_list_end (I.ok.hd Y) st p.isList (by simp;omega) λh' T=>⟨rfl,I.turned (t':=s.toks) (λb o G e=>T b o G e) r U J A q⟩
 self:=λ_ _ _ _ _ st h=>wpAny_pyIter_listiter st h
theorem Li(a it:ah):Turn P w K tg (Itt K a) [it] it (λi h=>h.IsTupleIter it a i) where
 mem:=by simp
 obj:=λi h st b G=>by
  have e:b=it:=by simpa using G
  subst e
  obtain⟨o,e,c,d⟩:=st
  exact⟨o,e,λv z=>by rw[d] at z;cases z⟩
 keep:=λi h h' st k=>st.at λo e=>k it (by simp) o e
 item:=by
  intro X Q N y Y i O s Z H E I F st M
  subst Q N y
  obtain⟨xs,x,g,W⟩:=M
  obtain⟨its,m,p,C⟩:=I.tuple g
  obtain⟨u,j,R⟩:=m.get W
  obtain⟨r,U,n,J,A,q⟩:=F it (by simp)
  refine wpAny_pyNext_tuple_item st (show s.heap.IsTuple a its.toArray from p) (x:=u) (by simpa using j) λh' l S=>?_
  have f:Inv X O Z H { s with heap:=h' }:=I.turned (t':=s.toks) (λb o G e=>(S.2 b G).trans e) r U J A q
  obtain⟨o,e,c,d⟩:=id l
  exact⟨u,rfl,Th (s:={ s with heap:=h' }) e c d (by decide) ⟨x,H,f,R,⟨rfl,λys B=>by rw[I.tuple_inj B g];exact W⟩,l,λb G=>(F b G).1⟩⟩
 done:=by
  intro X Q N y Y i O s Z H E I F st M
  subst Q N y
  obtain⟨xs,g,W⟩:=M
  obtain⟨its,m,p,C⟩:=I.tuple g
  obtain⟨r,U,n,J,A,q⟩:=F it (by simp)
  have L:=m.length
  exact wpAny_pyNext_tuple_end (I.ok.hd Y) st (show s.heap.IsTuple a its.toArray from p) (by simp;omega) λh' T=>⟨rfl,I.turned (t':=s.toks) (λb o G e=>T b o G e) r U J A q⟩
 self:=λ_ _ _ _ _ st h=>wpAny_pyIter_tupleiter st h
theorem Lj(it:ah)(lo:Int)(n:Nat):Turn P w K tg (Itr lo n) [it] it (λi h=>IsRangeIter h it (lo+(i:Nat)*1) ((n:Int)-(i:Nat)) 1) where
 mem:=by simp
 obj:=λi h st b G=>by
  have e:b=it:=by simpa using G
  subst e
  exact⟨_,st,λv z=>by
   have x:Data.fields _=Data.cell v:=z
   cases x⟩
 keep:=λi h h' st k=>k it (by simp) _ st
 item:=by
  intro X Q N y Y i O s Z H E I F st M
  subst Q N y
  obtain⟨r,U,a,J,A,q⟩:=F it (by simp)
  have W:=Walks.range (prog:=X.prog) (w:=X.w) (I.ok.hd Y) it lo 1 n
  refine W.item i s _ _ M st λv h' tk S l f=>?_
  obtain⟨t,rfl⟩:=S
  have c:Inv X O Z H { s with heap:=h',toks:=tk }:=I.turned (λb o G e=>f b o (by simpa using G) e) r U J A q
  refine⟨_,rfl,Th (s:={ s with heap:=h',toks:=tk }) (n := "range_iterator") l rfl rfl (by decide) ⟨.int (lo+i),H,c,⟨t,?_⟩,⟨rfl,rfl⟩,l,λb G=>(F b G).1⟩⟩
  rw[Int.mul_one]
 done:=by
  intro X Q N y Y i O s Z H E I F st M
  subst Q N y
  obtain⟨r,U,a,J,A,q⟩:=F it (by simp)
  exact wpAny_pyNext_range_end (I.ok.hd Y) st (by have:n<=i:=M;omega) λh' T=>⟨rfl,I.turned (t':=s.toks) (λb o G e=>T b o G e) r U J A q⟩
 self:=λ_ _ _ _ _ st h=>wpAny_pyIter_rangeiter st h
variable{lo:Int}{tk:Nat}{p:jJ}{iter:cz}{wi:TI}{fp:List ah}{pl:Sem Bool}{R:Result->aq->Prop}
theorem Lk{R:It->Hp->Prop}{hi:Int}{t u v:iL}(I:Inv X ge σ H s)(h1:-(2 ^ 62)<=lo)(h2:lo<2 ^ 62)(h3:-(2 ^ 62)<=hi)(h4:hi<2 ^ 62)
  (q:R (Itr lo (hi-lo).toNat) H):aG (aI X.prog X.w) X.A (pyIter (.ref s.heap.objs.size)) (PIE X ge σ tg R) E { s with heap:=s.heap.push { cls:=.type "range",data:=.fields #[.int lo t,.int hi u,.int 1 v] },toks:=tk }:=by
 refine wpAny_pyIter_range (IsRange.new ..) (small_one h1 h2 h3 h4) ?_
 have f:Inv X ge σ H { s with heap:=s.heap.push { cls:=.type "range",data:=.fields #[.int lo t,.int hi u,.int 1 v] },toks:=tk }:=I.kept λb o e=>ai _ e
 refine⟨(s.heap.push { cls:=.type "range",data:=.fields #[.int lo t,.int hi u,.int 1 v] }).objs.size,[(s.heap.push { cls:=.type "range",data:=.fields #[.int lo t,.int hi u,.int 1 v] }).objs.size],_,_,H,rfl,
  f.kept (t':=tk) λb o e=>ai _ e,Lj _ lo (hi-lo).toNat,?_,λb G=>?_,q⟩
 ·have T:lo+((0:Nat):Int)*1=lo:=by simp
  have M:(((hi-lo).toNat:Nat):Int)-((0:Nat):Int)=jm.Range.rangeSize lo hi 1:=by rw[rangeSize_one];split<;>omega
  show IsRangeIter _ _ (lo+((0:Nat):Int)*1) ((((hi-lo).toNat:Nat):Int)-((0:Nat):Int)) 1
  rw[T,M]
  exact aN _ rfl
 ·have e:b=(s.heap.push { cls:=.type "range",data:=.fields #[.int lo t,.int hi u,.int 1 v] }).objs.size:=by simpa using G
  subst e
  exact f.fpOk (ar _) (f.hok.fresh (ar _))
def S5(ta:TA):TI:=λσ H R=>ta σ H λvs H1=>∃ j:Int,vs=[.int j]/\-(2 ^ 62)<=j/\j<2 ^ 62/\R (Itr 0 j.toNat) H1
theorem Ll{a:cz}{ta:TA}(M:Gl X "range")(hm:X.mg "range" = none)(ha:PA X [a] ta)(B:aB [a] X.env=[(aw,cg a X.env)]:=by rfl):PI X tg (.Call (.Name "range" p) [a] [] pos) (S5 ta):=by
 intro O s Z H R I h
 refine Call_ (V8 I M hm boot_range (dH (thn (ha pos O s Z H _ I h) ?_) B rfl))
 rintro us s1 ⟨vs,H1,I1,r1,A⟩
 obtain⟨j,e,A,k,q⟩:=A
 subst e
 cases r1 with
 | cons r w =>
  cases w
  obtain⟨t,rfl⟩:=r
  exact call_range_1 (Lk I1 (by omega) (by omega) A k (by simpa using q))
def Vr(wi:TI)(g:TG)(tb:TS):TS:=λD σ H=>wi σ H λJ H1=>∃ W:Nat->Nat->St->Hp->Prop,(∃ m,W 0 m σ H1)/\∀ i m σ H,W i m σ H ->
 (J.stop i H/\D.nx σ H)\/(J.go i H/\∃ N:St->Hp->Prop,(∀ σ' H',N σ' H'->∃ m',m' < m/\W (i+1) m' σ' H')/\∀ x H',J.yld i H x H'->g x σ H' λσ2 H2=>tb { D with nx:=N,ct:=N,bk:=D.nx } σ2 H2)
def Ud(fp:List ah)(h:bG):List (ah×dE):=fp.filterMap λb=>(h.get? b).map λo=>(b,o)
theorem Ti(hb:b∈fp)(e:h.get? b=aa o):(b,o)∈Ud fp h:=mem_filterMap.mpr ⟨b,hb,by rw[e];rfl⟩
theorem Lm{p:ah×dE}(O:p∈Ud fp h):p.1∈fp/\h.get? p.1=aa p.2:=by
 obtain⟨b,G,e⟩:=mem_filterMap.mp O
 cases q:h.get? b with
 | none=>rw[q] at e;cases e
 | some o =>
  rw[q] at e
  have N:(b,o)=p:=bh e
  subst N
  exact⟨G,q⟩
theorem Inv.pinned(I:Inv X ge σ H s)(F:∀ b∈fp,Xa X ge H b)(P:∀ b∈fp,∃ o,s.heap.get? b=aa o/\∀ v,o.data≠.cell v):Inv X (ge++Ud fp s.heap) σ H s :=
 I.pins_of λp O=>(mem_append.mp O).elim (λz=>I.pin p (bD _ z)) λz=>by
  obtain⟨G,e⟩:=Lm z
  obtain⟨r,U,n,_⟩:=F p.1 G
  obtain⟨o,N,d⟩:=P p.1 G
  rw[e] at N;cases N
  exact⟨e,r,U,n,d⟩
theorem Inv.unpinned{pl:List (ah×dE)}(I:Inv X (ge++pl) σ H s):Inv X ge σ H s:=I.pins_of λp O=>I.pin p (bD _ (bS _ O))
theorem Ue{tb:TS}(hp:PassesOwn (aI X.prog X.w) X.A X.env X.xe)(Y:X.calm=ac)(hi:PI X tg iter wi)(M:PG X tg g)(hb:PSs X body tb)
  (B:∀ x,gW iter X.env x=dZ x:=by intro _;rfl):PS X (.For tg iter body [] pos) (Vr wi g tb):=by
 intro O s Z H D I h
 refine wpAny_For (thn (hi O s Z H _ I h) λv s1 U=>thn U λitv s2 R=>?_) B
 obtain⟨it,C,L,J,H2,e,S,T,F,f2,W,⟨Q,q⟩,turn⟩:=R
 subst e
 have j:∀ {H':Hp},(∀ b∈C,H' b=none)->∀ b∈C,Xa X O H' b:=λhn b hb=>⟨hn b hb,(f2 b hb).2⟩
 refine codeAny_forLoop_any (λn l=>∃ i A H',Inv X O A H' l/\L i l.heap/\(∀ b∈C,H' b=none)/\W i n A H') ?_ Q ⟨0,Z,H2,S,F,λb hb=>(f2 b hb).1,q⟩
 rintro n s3 ⟨i,σ3,H3,I3,st3,fr3,w3⟩
 rcases turn i n σ3 H3 w3 with⟨E,G⟩|⟨go,N,hN,step⟩
 ·refine da hp (thn (T.done X rfl rfl rfl Y i O s3 σ3 H3 X.xe I3 (j fr3) st3 E) ?_)
  rintro r s4 ⟨hr,I4⟩
  subst hr
  exact ew ⟨σ3,H3,I4,G⟩
 ·refine da hp (thn (T.item X rfl rfl rfl Y i O s3 σ3 H3 X.xe I3 (j fr3) st3 go) ?_)
  rintro r s4 ⟨u,hr,h4⟩
  subst hr
  refine da hp (thn h4 ?_)
  rintro _ s5 ⟨x,H5,I5,r5,y5,st5,fr5⟩
  have w:=I5.pinned (j fr5) (T.obj _ _ st5)
  refine da hp (thn (M _ s5 σ3 H5 x u _ w r5 (step x H5 y5)) λ_ s6 ⟨σ6,H6,I6,q6⟩=>?_)
  refine da hp (thn (hb _ s6 σ6 H6 _ I6 q6) λf P z=>?_)
  have k:∀ {c:St} {p:Hp},Inv X (O++Ud C s5.heap) c p P->N c p->∃ m,m<n/\∃ i A H',Inv X O A H' P/\L i P.heap/\(∀ b∈C,H' b=none)/\W i m A H':=λ{c p} t y=>by
   obtain⟨m',K,w7⟩:=hN c p y
   refine⟨m',K,i+1,c,p,t.unpinned,T.keep _ _ _ st5 λb hb o e=>(t.pin (b,o) (bD _ (bD _ (Ti hb e)))).1,λb hb=>?_,w7⟩
   obtain⟨o,e,d⟩:=T.obj _ _ st5 b hb
   exact (t.pin (b,o) (bD _ (bD _ (Ti hb e)))).2.1
  cases f with
  | next=>obtain⟨c,p,t,y⟩:=z;exact k t y
  | cont=>obtain⟨c,p,t,y⟩:=z;exact k t y
  | brk=>obtain⟨c,p,t,z⟩:=z;exact⟨c,p,t.unpinned,z⟩
  | ret v=>obtain⟨a,c,p,t,r7,z⟩:=z;exact⟨a,c,p,t.unpinned,r7,z⟩
abbrev R2:=V->V->Hp->VK->Prop
def OpR(X:Cx)(f:af->af->Sem af)(r:R2):Prop :=
 ∀ (ge:List (ah×dE)) (s:aq) (σ:St) (H:Hp) (x y:V) (v u:af) (Q:VK),Inv X ge σ H s->Zp x v->Zp y u->r x y H Q ->
  aG (aI X.prog X.w) X.A (f v u) (EP X ge σ Q) X.xe s
def UnR(X:Cx)(f:af->Sem af)(r:V->Hp->VK->Prop):Prop :=
 ∀ (ge:List (ah×dE)) (s:aq) (σ:St) (H:Hp) (x:V) (v:af) (Q:VK),Inv X ge σ H s->Zp x v->r x H Q ->
  aG (aI X.prog X.w) X.A (f v) (EP X ge σ Q) X.xe s
def Z7(X:Cx)(f:af)(r:List V->Hp->VK->Prop):Prop :=
 ∀ (ge:List (ah×dE)) (s:aq) (σ:St) (H:Hp) (xs:List V) (us:List af) (Q:VK),Inv X ge σ H s->Zi xs us->r xs H Q ->
  aG (aI X.prog X.w) X.A (call f us) (EP X ge σ Q) X.xe s
def tOp(r:R2)(ta tb:TE):TE:=λσ H Q=>ta σ H λx H1=>tb σ H1 λy H2=>r x y H2 Q
def tUn(r:V->Hp->VK->Prop)(ta:TE):TE:=λσ H Q=>ta σ H λx H1=>r x H1 Q
def rI(C:Int->Int->Prop)(g:Int->Int->V):R2:=λx y H Q=>∃ i j,x=.int i/\y=.int j/\C i j/\Q (g i j) H
def rI0(g:Int->Int->V):R2:=λx y H Q=>∃ i j,x=.int i/\y=.int j/\Q (g i j) H
def rU(g:Int->V):V->Hp->VK->Prop:=λx H Q=>∃ i,x=.int i/\Q (g i) H
variable{b:Bool}{i:Int}{op:CmpOp}{r:R2}{C:ah}{g:Int->Int->Int}{f:af->af->Sem af}
section
variable{a b:cz}
theorem S6(ha:PE X a ta)(hb:PE X b tb){R:V->V->Hp->Prop}(I:Inv X ge σ H s)
  (h:ta σ H λx H1=>tb σ H1 λy H2=>R x y H2)  
  (F:∀ v u s2 x y H2,Inv X ge σ H2 s2->Zp x v->Zp y u->R x y H2->aG (aI X.prog X.w) X.A (f v u) Q X.xe s2) :
  aG (aI X.prog X.w) X.A (cg a X.env) (λv s₁=>aG (aI X.prog X.w) X.A (cg b X.env) (λu s₂=>aG (aI X.prog X.w) X.A (f v u) Q X.xe s₂) X.xe s₁) X.xe s:=by
 refine thn (ha ge s σ H _ I h) ?_
 rintro v s1 ⟨x,H1,I1,r1,q1⟩
 refine thn (hb ge s1 σ H1 _ I1 q1) ?_
 rintro u s2 ⟨y,H2,I2,r2,q2⟩
 exact F v u s2 x y H2 I2 r1 r2 q2
theorem Zu{op:Operator}(P:OpR X (cr op) r)(ha:PE X a ta)(hb:PE X b tb):PE X (.BinOp a op b pos) (tOp r ta tb):=by
 intro O s Z H Q I h
 exact wpAny_BinOp (S6 ha hb I h λv u s2 x y H2 S N m q=>P O s2 Z H2 x y v u Q S N m q)
theorem Wa{op:UnaryOp}{r:V->Hp->VK->Prop}(P:UnR X (unaryOp op) r)(ha:PE X a ta):PE X (.UnaryOp op a pos) (tUn r ta):=by
 intro O s Z H Q I h
 exact UnaryOp_ (thn (ha O s Z H _ I h) (by rintro v s1 ⟨x,H1,I1,r1,q1⟩;exact P O s1 Z H1 x v Q I1 r1 q1))
theorem opI{C:Int->Int->Prop}
  (a:∀ (i j:Int) (t u:iL) (s:aq) (Q:af->aq->Prop) (E:af->aq->Prop),C i j->Q (.int (g i j) s.toks) { s with toks:=s.toks+1 }->aG (aI X.prog X.w) X.A (f (.int i t) (.int j u)) Q E s) :
  OpR X f (rI C λi j=>.int (g i j)):=by
 intro O s Z H x y v u Q I N m h
 obtain⟨i,j,rfl,rfl,Y,q⟩:=h
 obtain⟨t,rfl⟩:=N
 obtain⟨t',rfl⟩:=m
 exact a i j t t' s _ _ Y ⟨.int (g i j),H,I.tok _,⟨_,rfl⟩,q⟩
theorem opI0
  (a:∀ (i j:Int) (t u:iL) (s:aq) (Q:af->aq->Prop) (E:af->aq->Prop),Q (.int (g i j) s.toks) { s with toks:=s.toks+1 }->aG (aI X.prog X.w) X.A (f (.int i t) (.int j u)) Q E s) :
  OpR X f (rI0 λi j=>.int (g i j)):=by
 intro O s Z H x y v u Q I N m h
 obtain⟨i,j,rfl,rfl,q⟩:=h
 obtain⟨t,rfl⟩:=N
 obtain⟨t',rfl⟩:=m
 exact a i j t t' s _ _ ⟨.int (g i j),H,I.tok _,⟨_,rfl⟩,q⟩
theorem opB0{g:Int->Int->Bool}
  (a:∀ (i j:Int) (t u:iL) (s:aq) (Q:af->aq->Prop) (E:af->aq->Prop),Q (.bool (g i j)) s->aG (aI X.prog X.w) X.A (f (.int i t) (.int j u)) Q E s) :
  OpR X f (rI0 λi j=>.bl (g i j)):=by
 intro O s Z H x y v u Q I N m h
 obtain⟨i,j,rfl,rfl,q⟩:=h
 obtain⟨t,rfl⟩:=N
 obtain⟨t',rfl⟩:=m
 exact a i j t t' s _ _ ⟨.bl (g i j),H,I,rfl,q⟩
def CDiv(i j:Int):Prop:=0<j/\j<1073741824
def CPow(i j:Int):Prop:=0<=j/\j<=1000000/\i.natAbs<2 ^ 64
def Uf(i j:Int):Prop:=(-(2 ^ 64)<i/\i<2 ^ 64)\/(-(2 ^ 64)<j/\j<2 ^ 64)
theorem Uf.ok{j:Int}(h:Uf i j):IntMulOk i j:=by
 rcases h with⟨U,R⟩|⟨U,R⟩
 ·exact .of_left (intBits_le_64 U R)
 ·exact .of_right (intBits_le_64 U R)
theorem Ln:OpR X (cr .Add) (rI0 λi j=>.int (i+j)):=opI0 λ_ _ _ _ _ _ _ q=>add_int q
theorem Pk:OpR X (cr .Sub) (rI0 λi j=>.int (i-j)):=opI0 λ_ _ _ _ _ _ _ q=>sub_int q
theorem Lo:OpR X (cr .Mult) (rI Uf λi j=>.int (i*j)):=opI λ_ _ _ _ _ _ _ Y q=>mul_int q Y.ok
theorem XJ:OpR X (cr .FloorDiv) (rI CDiv λi j=>.int (i / j)):=opI λi j _ _ _ _ _ Y q=>by
 have U:(0:Int)<j:=Y.1
 have R:j<1073741824:=Y.2
 exact floordiv_int (by omega) (by rw[Int.fdiv_eq_ediv_of_nonneg i (by omega)];exact q) (.inl (PyProof.noPylong_small (by omega)))
theorem Z8:OpR X (cr .Mod) (rI (λ_ j=>0<j) λi j=>.int (i%j)):=opI λi j _ _ _ _ _ Y q=>by
 have U:(0:Int)<j:=Y
 exact mod_int' (by omega) (by rw[Int.fmod_eq_emod_of_nonneg i (by omega)];exact q)
theorem Pl:OpR X (cr .Pow) (rI CPow λi j=>.int (i ^ j.toNat)):=opI λ_ _ _ _ _ _ _ Y q=>pow_int_small Y.1 Y.2.1 Y.2.2 q
theorem unI{f:af->Sem af}{g:Int->Int}
  (a:∀ (i:Int) (t:iL) (s:aq) (Q:af->aq->Prop) (E:af->aq->Prop),Q (.int (g i) s.toks) { s with toks:=s.toks+1 }->aG (aI X.prog X.w) X.A (f (.int i t)) Q E s) :
  UnR X f (rU λi=>.int (g i)):=by
 intro O s Z H x v Q I N h
 obtain⟨i,rfl,q⟩:=h
 obtain⟨t,rfl⟩:=N
 exact a i t s _ _ ⟨.int (g i),H,I.tok _,⟨_,rfl⟩,q⟩
theorem Wb:UnR X (unaryOp .USub) (rU λi=>.int (-i)):=unI λ_ _ _ _ _ q=>neg_int q
end
noncomputable def scal:V->V->Bool
 | .non,.non=>ac|.non,.int _=>ac|.int _,.non=>ac|.non,.bl _=>ac|.bl _,.non=>ac|.non,.str _=>ac|.str _,.non=>ac
 | .int _,.int _=>ac|.bl _,.bl _=>ac|.str _,.str _=>ac|.byt _,.byt _=>ac
 | .int _,.str _=>ac|.str _,.int _=>ac|.bl _,.str _=>ac|.str _,.bl _=>ac
 | _,_=>aw
def rEq:R2:=λx y H Q=>scal x y=ac/\Q (.bl (decide (x=y))) H
def rNe:R2:=λx y H Q=>scal x y=ac/\Q (.bl (!decide (x=y))) H
theorem Pm{j:Int}:decide (V.int i=V.int j)=(i == j):=by
 rw[dy]
 simp
theorem Pn{i j:Bool}:decide (V.bl i=V.bl j)=(i == j):=by
 rw[dy]
 simp
theorem Po{i j:au}:decide (V.str i=V.str j)=(i == j):=by
 rw[dy]
 simp
theorem Pp{i j:Array UInt8}:decide (V.byt i=V.byt j)=(i.toList == j.toList):=by
 rw[dy]
 cases i
 cases j
 simp
variable{r':R2}{y:V}{us:List af}
section
variable{a b:cz}
theorem ZP{Q:VK}{k b:Bool}(I:Inv X ge σ H s)(q:Q (.bl k) H)(e:k=b):EP X ge σ Q (.bool b) s:=by
 subst e
 exact⟨.bl k,H,I,rfl,q⟩
theorem Lp:OpR X (bx .Eq) rEq:=by
 intro O s Z H x y v u Q I N m h
 obtain⟨B,q⟩:=h
 cases x with
 | non =>
  cases N
  cases y with
  | non=>cases m;exact PySem.EqNone.eq_none_none (ZP I q (by simp))
  | bl j=>cases m;exact PySem.EqNone.eq_none_bool (ZP I q (by simp))
  | int j=>obtain⟨t',rfl⟩:=m;exact PySem.EqNone.eq_none_int (ZP I q (by simp))
  | str j=>obtain⟨t',rfl⟩:=m;exact PySem.EqNone.eq_none_str (ZP I q (by simp))
  | _=>exact absurd (show aw=ac from B) ap
 | bl i =>
  cases N
  cases y with
  | non=>cases m;exact PySem.EqNone.eq_bool_none (ZP I q (by simp))
  | bl j=>cases m;exact eq_bool (ZP I q Pn)
  | str j=>obtain⟨t',rfl⟩:=m;exact PySem.EqMixed.eq_bool_str (ZP I q (by simp))
  | _=>exact absurd (show aw=ac from B) ap
 | int i =>
  obtain⟨t,rfl⟩:=N
  cases y with
  | non=>cases m;exact PySem.EqNone.eq_int_none (ZP I q (by simp))
  | int j=>obtain⟨t',rfl⟩:=m;exact eq_int (ZP I q Pm)
  | str j=>obtain⟨t',rfl⟩:=m;exact PySem.EqMixed.eq_int_str (ZP I q (by simp))
  | _=>exact absurd (show aw=ac from B) ap
 | str i =>
  obtain⟨t,rfl⟩:=N
  cases y with
  | non=>cases m;exact PySem.EqNone.eq_str_none (ZP I q (by simp))
  | bl j=>cases m;exact PySem.EqMixed.eq_str_bool (ZP I q (by simp))
  | int j=>obtain⟨t',rfl⟩:=m;exact PySem.EqMixed.eq_str_int (ZP I q (by simp))
  | str j=>obtain⟨t',rfl⟩:=m;exact eq_str (ZP I q Po)
  | _=>exact absurd (show aw=ac from B) ap
 | byt i =>
  obtain⟨t,rfl⟩:=N
  cases y with
  | byt j=>obtain⟨t',rfl⟩:=m;exact PySem.W.eq_bytes (ZP I q Pp)
  | _=>exact absurd (show aw=ac from B) ap
 | _=>cases y<;>exact absurd (show aw=ac from B) ap
theorem Lq:OpR X (bx .NotEq) rNe:=by
 intro O s Z H x y v u Q I N m h
 obtain⟨B,q⟩:=h
 cases x with
 | non =>
  cases N
  cases y with
  | non=>cases m;exact PySem.EqNone.ne_none_none (ZP I q (by simp))
  | bl j=>cases m;exact PySem.EqNone.ne_none_bool (ZP I q (by simp))
  | int j=>obtain⟨t',rfl⟩:=m;exact PySem.EqNone.ne_none_int (ZP I q (by simp))
  | str j=>obtain⟨t',rfl⟩:=m;exact PySem.EqNone.ne_none_str (ZP I q (by simp))
  | _=>exact absurd (show aw=ac from B) ap
 | bl i =>
  cases N
  cases y with
  | non=>cases m;exact PySem.EqNone.ne_bool_none (ZP I q (by simp))
  | bl j=>cases m;exact ne_bool (ZP I q (congrArg not Pn))
  | str j=>obtain⟨t',rfl⟩:=m;exact PySem.EqMixed.ne_bool_str (ZP I q (by simp))
  | _=>exact absurd (show aw=ac from B) ap
 | int i =>
  obtain⟨t,rfl⟩:=N
  cases y with
  | non=>cases m;exact PySem.EqNone.ne_int_none (ZP I q (by simp))
  | int j=>obtain⟨t',rfl⟩:=m;exact ne_int (ZP I q (congrArg not Pm))
  | str j=>obtain⟨t',rfl⟩:=m;exact PySem.EqMixed.ne_int_str (ZP I q (by simp))
  | _=>exact absurd (show aw=ac from B) ap
 | str i =>
  obtain⟨t,rfl⟩:=N
  cases y with
  | non=>cases m;exact PySem.EqNone.ne_str_none (ZP I q (by simp))
  | bl j=>cases m;exact PySem.EqMixed.ne_str_bool (ZP I q (by simp))
  | int j=>obtain⟨t',rfl⟩:=m;exact PySem.EqMixed.ne_str_int (ZP I q (by simp))
  | str j=>obtain⟨t',rfl⟩:=m;exact ne_str (ZP I q (congrArg not Po))
  | _=>exact absurd (show aw=ac from B) ap
 | byt i =>
  obtain⟨t,rfl⟩:=N
  cases y with
  | byt j=>obtain⟨t',rfl⟩:=m;exact PySem.W.ne_bytes (ZP I q (congrArg not Pp))
  | _=>exact absurd (show aw=ac from B) ap
 | _=>cases y<;>exact absurd (show aw=ac from B) ap
theorem WC:OpR X (bx .Lt) (rI0 λi j=>.bl (decide (i<j))):=opB0 λ_ _ _ _ _ _ _ q=>lt_int q
theorem Xk:OpR X (bx .Gt) (rI0 λi j=>.bl (decide (j<i))):=opB0 λ_ _ _ _ _ _ _ q=>gt_int q
theorem Lr:OpR X (bx .In) (λx y H Q=>∃ i j,x=.str i/\y=.str j/\Q (.bl (!(b0 j i 0 j.length 1).isEmpty)) H):=by
 intro O s Z H x y v u Q I N m h
 obtain⟨i,j,rfl,rfl,q⟩:=h
 obtain⟨t,rfl⟩:=N
 obtain⟨t',rfl⟩:=m
 exact in_str (ZP I q rfl)
theorem Ls:OpR X (bx .Is) (λx y H Q=>y=.non/\Q (.bl (decide (x=.non))) H):=by
 intro O s Z H x y v u Q I N m h
 obtain⟨rfl,q⟩:=h
 cases m
 refine is_none_gen (ZP I q ?_)
 cases x<;>first
  | (cases N;rfl)
  | (obtain⟨t,rfl⟩:=N;rfl)
theorem Tj:OpR X (bx .IsNot) (λx y H Q=>y=.non/\Q (.bl (!decide (x=.non))) H):=by
 intro O s Z H x y v u Q I N m h
 obtain⟨rfl,q⟩:=h
 cases m
 refine isnot_none_gen (ZP I q ?_)
 cases x<;>first
  | (cases N;rfl)
  | (obtain⟨t,rfl⟩:=N;rfl)
theorem OpR.or(h:OpR X f r)(h':OpR X f r'):OpR X f (λx y H Q=>r x y H Q\/r' x y H Q):=by
 intro O s Z H x y v u Q I N m q
 rcases q with q|q
 ·exact h O s Z H x y v u Q I N m q
 ·exact h' O s Z H x y v u Q I N m q
theorem nomark(b:cz)(h:op≠.In:=by decide)(h2:op≠.NotIn:=by decide):gB op b=false:=by
 have T:(op == CmpOp.In)=false:=by cases op<;>first|rfl|exact absurd rfl h
 have M:(op == CmpOp.NotIn)=false:=by cases op<;>first|rfl|exact absurd rfl h2
 cases b<;>simp[gB,T,M]
theorem ZZ(P:OpR X (bx op) r)(ha:PE X a ta)(hb:PE X b tb)(hm:gB op b=aw):PE X (.Compare a [op] [b] pos) (tOp r ta tb):=by
 intro O s Z H Q I h
 exact wpAny_Compare1 (S6 ha hb I h λv u s2 x y H2 S N m q=>P O s2 Z H2 x y v u Q S N m q) hm
def S7(t:TE):TT:=λσ H Q=>t σ H λx H'=>∃ k,x=.bl k/\Q k H'
theorem Zr(P:OpR X (bx op) r)(ha:PE X a ta)(hb:PE X b tb)(hm:gB op b=aw):PT X (.Compare a [op] [b] pos) (S7 (tOp r ta tb)):=by
 intro O s Z H Q I h
 refine wpAny_isTrue_Compare1 (thn (ha O s Z H _ I h) λv s1 ⟨x,H1,I1,r1,q1⟩=>thn (hb O s1 Z H1 _ I1 q1) λu s2 ⟨y,H2,I2,r2,q2⟩ =>
  thn (P O s2 Z H2 x y v u _ I2 r1 r2 q2) λc s3 ⟨z,H3,I3,r3,k,e,q3⟩=>?_) hm
 subst e
 cases r3
 exact cJ ⟨H3,I3,q3⟩
theorem line63:(sizeLine:Nat)<2 ^ 63:=by rw[eX];decide
theorem Lu:OpR X (cr .Add) (λx y H Q=>∃ i j,x=.str i/\y=.str j/\i.length+j.length<=sizeLine/\Q (.str (i++j)) H):=by
 intro O s Z H x y v u Q I N m h
 obtain⟨i,j,rfl,rfl,C,q⟩:=h
 obtain⟨t,rfl⟩:=N
 obtain⟨t',rfl⟩:=m
 exact add_str (λt' tk=>⟨.str (i++j),H,I.tok _,⟨_,rfl⟩,q⟩) C
theorem vals1{x:V}(r:Zi [x] us):∃ u,us=[u]/\Zp x u:=by
 cases r with
 | cons L P=>cases P;exact⟨_,rfl,L⟩
theorem vals2{x:V}(r:Zi [x,y] us):∃ u K,us=[u,K]/\Zp x u/\Zp y K:=by
 cases r with
 | cons L P =>
  cases P with
  | cons M a=>cases a;exact⟨_,_,rfl,L,M⟩
theorem Vs:Z7 X (.type "int") (λxs H Q=>(∃ i,xs=[.int i]/\Q (.int i) H)\/∃ k,xs=[.bl k]/\Q (.int (if k then 1 else 0)) H):=by
 intro O s Z H xs us Q I r h
 rcases h with⟨i,rfl,q⟩|⟨k,rfl,q⟩
 ·obtain⟨u,rfl,t,rfl⟩:=vals1 r
  exact call_int_int ⟨.int i,H,I,⟨_,rfl⟩,q⟩
 ·obtain⟨u,rfl,L⟩:=vals1 r
  cases L
  exact call_int_bool ⟨.int (if k then 1 else 0),H,I.tok _,⟨_,rfl⟩,q⟩
end
structure ObjM(h:bG)(x dx C:ah)(mA:au->Option af):Prop where
 obj:h.get? x=aa (cA C dx)
 ns:h.Ns1 dx mA
 ne:dx≠x
variable{dx:ah}{mA:au->Option af}
theorem Pq(n:h.Ns1 dx mA):∃ od,h.get? dx=aa od/\∀ name,e_ name od=aa (mA name):=by
 obtain⟨o,es,E,P,hd,N,_,K⟩:=n
 refine⟨o,P,λname=>?_⟩
 have e:=K name
 unfold nsFind findBy at e
 rw[<- iW] at e
 unfold e_
 rw[hd]
 dsimp only
 split
 ·rename_i y q
  rw[q] at e
  exact congrArg aa e
 ·rename_i q
  rw[q] at e
  have a:es.toList.any (·.refKey)=false:=by
   rw[List.any_eq_false]
   intro y B
   obtain⟨z,t,b⟩:=N y (Array.mem_toList_iff.mp B)
   simp[DictEntry.refKey,b]
  have j:¬ es.toList.any (·.refKey)=true:=by rw[a];exact ap
  rw[if_neg j]
  exact congrArg aa e
theorem ObjM.look{x:ah}(I:ObjM h x dx C mA):∃ od,bR h x (cA C dx) C (aa od)/\∀ name,e_ name od=aa (mA name) :=
 let ⟨od,P,L⟩:=Pq I.ns
 ⟨od,⟨I.obj,rfl,rfl,P⟩,L⟩
variable{f name:au}{prog:bg}{expr:Bool}{ns:List au}{kw:List (au×af)}
section
variable{x f:ah}{v:af}
theorem Lv(X:K.In s.heap)(I:ObjM s.heap x dx C mA)(M:bw K C name=ac)(m:be K C=ac)
  (ha:ag K (.ref C) name=aa none) (S:mA name=aa v) (a:gw v=ac) (h:Q v { s with toks:=s.toks+1 }) :
  aG (aI prog w) A (jg (.ref x) name expr) Q E s:=by
 obtain⟨od,J,L⟩:=I.look
 exact PySem.W.get_value X J (fk M).1 (ib m ha rfl (by rw[L,S])) a h
theorem Lw{Q:af×List af->aq->Prop}(X:K.In s.heap)(I:ObjM s.heap x dx C mA)(M:bw K C name=ac)
  (F:ag K (.ref C) name=aa (aa (.ref f))) (ht:aW K (.ref f)=ac) (S:mA name=none) (h:Q (.ref f,[.ref x]) s) :
  aG (aI prog w) A (gr (.ref x) name pl) Q E s:=by
 obtain⟨od,J,L⟩:=I.look
 exact PySem.W.method_fn X J (fk M).1 (fk M).2 F (beq_iff_eq.mp ht) (by show (e_ name od).map (·.isSome)=aa aw;rw[L,S];rfl) h
theorem Lx{Q:Unit->aq->Prop}(X:K.In s.heap)(I:ObjM s.heap x dx C mA)
  (B:ag K (.ref C) "__setattr__" = aa (aa (.builtin "object.__setattr__"))) (O:bB K C=ac) (ht:d3 K C name=aa none) (m:be K C=ac)
  (hw:eT mA ns) (i:ns.length<=sizeLine)
  (h:∀ h',ObjM h' x dx C (λy=>if y=name then aa v else mA y)->el dx s.heap h'->Q () { s with heap:=h',toks:=s.toks+2 }) :
  aG (aI prog w) A (j0 (.ref x) name v) Q E s:=by
 obtain⟨od,J,L⟩:=I.look
 refine fQ X J B (PySem.W.osa_open (s:={ s with toks:=s.toks+1 }) (r:=none) X J O ht λb=>?_)
 obtain⟨cd,Y,n⟩:=fq m
 have W:s.heap.get? x=aa ⟨.ref C,aa dx,.plain,#[]⟩:=I.obj
 refine ae (am (ae (ae (gd W (ae (eU (s:={ s with toks:=s.toks+1 }) (eE X Y) ?_))))))
 rw[n]
 refine am (a:=aa dx) (ae (am (ae ?_)))
 refine jb (s:={ s with toks:=s.toks+1 }) I.ns λh' j c=>?_
 obtain⟨u,q,t,k,l,p⟩:=j.count (fY name v hw)
 refine ae (g9 k (by rw[l];exact hG (aT p (by rw[aS];omega))) ?_)
 exact am (h _ ⟨(c.2 _ (bY I.ne)).trans I.obj,j,I.ne⟩ c)
theorem Ly{vs:List af}(X:K.In s.heap)(hm:bP K C=ac)
  (hi:ag K (.ref C) "__init__" = aa (aa (.ref f))) (F:PySem.W.typeIn K (.ref f)=aa (.type "function"))
  (h:eh (aI prog w) (A.under (.builtin "type.__call__" ⟨.ref C::vs,kw⟩)) (.call (.ref f) ⟨.ref (s.heap.objs.size+1)::vs,kw⟩) (PySem.W.InitBack (s.heap.objs.size+1) R)
   { s with heap:=(s.heap.push ce).push (cA C s.heap.objs.size) }) :
  eh (aI prog w) A (.call (.ref C) ⟨vs,kw⟩) R s:=by
 obtain⟨m,g,d,t,Y⟩:=s
 exact PySem.W.make_core (PySem.W.makes_of X hm) (fS X hi) (λa=>PySem.W.bind_fn X a F) (.inl rfl) h
end
noncomputable def Zv(f:au)(v:V):List (au×V)->List (au×V)
 | []=>[(f,v)]
 | (g,x)::r=>if g=f then (g,v)::r else (g,x)::Zv f v r
theorem S8(f g:au)(v:V):∀ fs:List (au×V),(Zv f v fs).lookup g=if g=f then aa v else fs.lookup g
 | []=>by
  show dY g [(f,v)]=_
  by_cases h:g=f
  ·have G:(g == f)=true:=beq_iff_eq.mpr h
   simp only[dY,G,if_pos h]
  ·have G:(g == f)=false:=beq_eq_false_iff_ne.mpr h
   simp only[dY,G,if_neg h]
 | (k,x)::r=>by
  have B:=S8 f g v r
  rw[show Zv f v ((k,x)::r)=(if k=f then (k,v)::r else (k,x)::Zv f v r) from rfl]
  by_cases N:k=f
  ·rw[if_pos N]
   by_cases h:g=k
   ·have G:(g == k)=true:=beq_iff_eq.mpr h
    simp only[dY,G,if_pos (h.trans N)]
   ·have G:(g == k)=false:=beq_eq_false_iff_ne.mpr h
    simp only[dY,G,if_neg (λe:g=f=>h (e.trans N.symm))]
  ·rw[if_neg N]
   by_cases h:g=k
   ·have G:(g == k)=true:=beq_iff_eq.mpr h
    simp only[dY,G,if_neg (λe:g=f=>N (h.symm.trans e))]
   ·have G:(g == k)=false:=beq_eq_false_iff_ne.mpr h
    simp only[dY,G]
    exact B
theorem Ug(f:au)(v:V):∀ fs:List (au×V),f∈(Zv f v fs).map (·.1)/\∀ g,g∈fs.map (·.1)->g∈(Zv f v fs).map (·.1)
 | []=>⟨by simp[Zv],λg h=>by simp at h⟩
 | (k,x)::r=>by
  obtain⟨o,E⟩:=Ug f v r
  rw[show Zv f v ((k,x)::r)=(if k=f then (k,v)::r else (k,x)::Zv f v r) from rfl]
  by_cases N:k=f
  ·rw[if_pos N]
   subst N
   exact⟨by simp,λg h=>by simpa using h⟩
  ·rw[if_neg N]
   refine⟨?_,λg h=>?_⟩
   ·rw[bp]
    exact b9 _ o
   ·rw[bp] at h ⊢
    rcases eR.mp h with e|e
    ·exact eR.mpr (.inl e)
    ·exact b9 _ (E g e)
theorem Vt(f:au)(v:V):∀ fs:List (au×V),(Zv f v fs).length<=fs.length+1
 | []=>by simp[Zv]
 | (k,x)::r=>by
  have B:=Vt f v r
  rw[show Zv f v ((k,x)::r)=(if k=f then (k,v)::r else (k,x)::Zv f v r) from rfl]
  by_cases N:k=f
  ·rw[if_pos N,aS,aS];omega
  ·rw[if_neg N,aS,aS];omega
variable{o:Option af}
theorem YA.some_of(r:YA (aa v) o):∃ u,o=aa u/\Zp v u:=by
 cases o with
 | none=>exact (show False from r).elim
 | some u=>exact⟨u,rfl,r⟩
theorem YA.none_of(r:YA none o):o=none:=by
 cases o with
 | none=>rfl
 | some u=>exact (show False from r).elim
theorem Pr(r:Zp v u):gw u=true:=by
 cases v with
 | non=>cases (show u=cG from r);rfl
 | bl b=>cases (show u=eV b from r);rfl
 | int i=>obtain⟨t,e⟩:=(show ∃ t,u=eO i t from r);cases e;rfl
 | str x=>obtain⟨t,e⟩:=(show ∃ t,u=eN x t from r);cases e;rfl
 | byt b=>obtain⟨t,e⟩:=(show ∃ t,u=j7 b t from r);cases e;rfl
 | flt b=>obtain⟨t,e⟩:=(show ∃ t,u=iy b t from r);cases e;rfl
 | ref a=>cases (show u=aD a from r);rfl
 | ty n=>cases (show u=fU n from r);rfl
section
variable{fs:List (au×V)}
theorem Vu(hok:HOk P w H h)(e:H a=aa (.ins C dx fs)):∃ mA,ObjM h a dx C mA/\(∀ f,YA (fs.lookup f) (mA f))/\eT mA (fs.map (·.1))/\fs.length<=1000/\H dx=aa (.own a):=by
 obtain⟨d,z,ne,g,mA,n,r,q⟩:=(show ZO P w H h a (.ins C dx fs) from hok a _ e)
 exact⟨mA,⟨g,n,ne⟩,r,q,z,d⟩
end
structure Cls(K:ay)(C:ah):Prop where
 pg:bw K C cW=ac
 hd:be K C=ac
 po:bB K C=ac
 sa:ag K (.ref C) "__setattr__" = aa (aa (.builtin "object.__setattr__"))
theorem Cls.get(c:Cls K C)(f:au):bw K C f=true:=c.pg
def Zt(K:ay)(C:ah)(f:au):Prop:=ag K (.ref C) f=aa none
theorem Zt.taker(n:Zt K C f):d3 K C f=aa none:=by
 unfold d3
 rw[show ag K (.ref C) f=aa none from n]
 rfl
structure Meth(K:ay)(C:ah)(m:au)(f:ah):Prop where
 at_:ag K (.ref C) m=aa (aa (.ref f))
 fn:aW K (.ref f)=ac
 kp:az K (.ref f)=ac
variable{m:Nat}{env:eF}
section
variable{fs:List (au×V)}
theorem Lz(I:Inv X ge σ H s)(e:H a=aa (.ins C dx fs))(c:Cls X.K C)(n:Zt X.K C f)(l:fs.lookup f=aa v)
  (h:∀ u s',Inv X ge σ H s'->Zp v u->Q u s'):aG (aI X.prog X.w) A (jg (.ref a) f b) Q E s:=by
 obtain⟨W,O,r,_,_,_⟩:=Vu I.hok e
 obtain⟨u,j,R⟩:=YA.some_of (v:=v) (o:=W f) (by rw[<- l];exact r f)
 exact Lv I.kIn O (c.get f) c.hd n j (Pr R) (h u _ (I.tok _) R)
theorem Tk{m:au}{g:ah}{Q:af×List af->aq->Prop}(I:Inv X ge σ H s)(e:H a=aa (.ins C dx fs))(c:Cls X.K C)(k:Meth X.K C m g)(l:fs.lookup m=none)
  (h:Q (.ref g,[.ref a]) s):aG (aI X.prog X.w) A (gr (.ref a) m pl) Q E s:=by
 obtain⟨W,O,r,_,_,_⟩:=Vu I.hok e
 have f:W m=none:=YA.none_of (by rw[<- l];exact r m)
 exact Lw I.kIn O (c.get m) k.at_ k.fn f h
theorem LA{Q:Unit->aq->Prop}(I:Inv X ge σ H s)(e:H a=aa (.ins C dx fs))(c:Cls X.K C)(n:Zt X.K C f)(L:fs.length<1000)(m:Zp y u)
  (h:∀ s',Inv X ge σ (upd H a (.ins C dx (Zv f y fs))) s'->Q () s'):aG (aI X.prog X.w) A (j0 (.ref a) f u) Q E s:=by
 obtain⟨W,O,r,j,_,P⟩:=Vu I.hok e
 have k:(fs.map (·.1)).length<=sizeLine:=by rw[aC,eX];omega
 refine Lx I.kIn O c.sa c.po n.taker c.hd j k λh' i S=>h _ ?_
 have hd:∃ o,h'.get? dx=aa o:=by obtain⟨o,_,_,N,_⟩:=i.ns;exact ⟨o,N⟩
 refine I.write (x:=a) (e:=dx) (by rw[e];exact bW) (.inr P) (λb q G z=>(S.2 b G).trans z) hd ?_
 refine⟨by rw[Zd O.ne];exact P,?_,O.ne,i.obj,_,i.ns,λg=>?_,λg M=>?_⟩
 ·have:=Vt f y fs;omega
 ·show YA ((Zv f y fs).lookup g) (if g=f then aa u else W g)
  rw[S8]
  by_cases q:g=f
  ·rw[if_pos q,if_pos q];exact m
  ·rw[if_neg q,if_neg q];exact r g
 ·by_cases q:g=f
  ·rw[q];exact (Ug f y fs).1
  ·refine (Ug f y fs).2 g (j g λz=>M ?_)
   show (if g=f then aa u else W g)=none
   rw[if_neg q];exact z
theorem Inv.made(I:Inv X ge σ H s):Inv X ge σ (upd (upd H s.heap.objs.size (.own (s.heap.objs.size+1))) (s.heap.objs.size+1) (.ins C s.heap.objs.size []))
  { s with heap:=(s.heap.push ce).push (cA C s.heap.objs.size) }:=by
 have T:(s.heap.push ce).get? s.heap.objs.size=aa PySem.W.emptyDict:=aN s.heap rfl
 have M:((s.heap.push ce).push (cA C s.heap.objs.size)).get? (s.heap.objs.size+1)=aa (cA C s.heap.objs.size):=by
  have:=aN (s.heap.push ce) (o:=cA C s.heap.objs.size) rfl
  rwa [cu] at this
 have t:(s.heap.push ce).Ns s.heap.objs.size (λ_=>none):=⟨ce,#[],_,T,rfl,(λe j=>absurd j (by simp)),λ_=>rfl⟩
 have f:=I.laid (a:=s.heap.objs.size) (o:=.own (s.heap.objs.size+1)) (h':=s.heap.push ce) (t':=s.toks) (λb u q=>ai _ q) (ar _) ⟨_,T⟩
 refine f.laid (a:=s.heap.objs.size+1) (o:=.ins C s.heap.objs.size []) (t':=s.toks) (λb u q=>ai _ q) (Nat.le_of_eq (cu _ _)) ?_
 have ne:s.heap.objs.size≠s.heap.objs.size+1:=aQ (b_ _)
 refine⟨by rw[Zd ne,Zw],d0 _,ne,M,λ_=>none,(iz t).at λo q=>ai _ q,λ_=>bW,λy B=>absurd rfl B⟩
theorem Ps(hb:df e f env (cg e env)=cg e env)
  (h:aG (aI prog w) A (cg e env) (λo s₁=>aG (aI prog w) A (jg o f ac) Q E s₁) E s):aG (aI prog w) A (cg (.Attribute e f pos) env) Q E s :=
 Attribute_any_ h (by rw[arm_eval_Attribute,hb])
end
def WD(K:ay)(ta:TE)(f:au):TE:=λσ H Q=>ta σ H λx H1=>∃ a C dx fs v,x=.ref a/\H1 a=aa (.ins C dx fs)/\Cls K C/\Zt K C f/\fs.lookup f=aa v/\Q v H1
def Z1(K:ay)(ta tv:TE)(f:au):TS:=λD σ H=>tv σ H λy H1=>ta σ H1 λx H2=>∃ a C dx fs,x=.ref a/\H2 a=aa (.ins C dx fs)/\Cls K C/\Zt K C f/\fs.length<1000 /\
 D.nx σ (upd H2 a (.ins C dx (Zv f y fs)))
variable{o:Option V}
section
variable{o value:cz}{tv:TE}
theorem LB(j:PE X e ta)(hb:df e f X.env (cg e X.env)=cg e X.env):PE X (.Attribute e f pos) (WD X.K ta f):=by
 intro O s Z H Q I h
 refine Ps hb (thn (j O s Z H _ I h) ?_)
 rintro u s1 ⟨x,H1,I1,rx,a,C,dx,fs,v,ex,ea,c,n,l,q⟩
 subst ex
 obtain rfl:u=aD a:=rx
 exact Lz I1 ea c n l λB s2 S R=>⟨v,H1,S,R,q⟩
theorem Yf(ha:PE X o ta)(S:PE X value tv)(B:hE value (aa (.Attribute o f pos')) pos.line X.env=dZ aw):PS X (.Assign [.Attribute o f pos'] value pos) (Z1 X.K ta tv f):=by
 intro O s Z H D I h
 refine g6 (thn (S O s Z H _ I h) λu s1 ⟨y,H1,I1,ry,q⟩=>thn (ha O s1 Z H1 _ I1 q) λov s2 ⟨x,H2,I2,rx,a,C,dx,fs,ex,ea,c,n,l,q2⟩=>?_) B
 subst ex
 obtain rfl:ov=aD a:=rx
 exact LA I2 ea c n l ry λs3 U=>⟨Z,_,U,q2⟩
end
variable{c:V}
section
variable{c:af}
inductive TyOf(K:ay)(H:Hp):V->af->Prop where
 | non:TyOf K H .non (.type "NoneType")
 | bl (x:Bool):TyOf K H (.bl x) (.type "bool")
 | int (i:Int):TyOf K H (.int i) (.type "int")
 | str (x:au):TyOf K H (.str x) (.type "str")
 | flt (x:UInt64):TyOf K H (.flt x) (.type "float")
 | lst {a:ah} {xs:List V} (e:H a=aa (.lst xs)):TyOf K H (.ref a) (.type "list")
 | frz {a:ah} {o:dE} {xs:List V} (e:H a=aa (.frz o (.lst xs))):TyOf K H (.ref a) (.type "list")
 | tup {a:ah} {xs:List V} (e:H a=aa (.tup xs)):TyOf K H (.ref a) (.type "tuple")
 | dK {a:ah} {kvs:List (Key×V)} (e:H a=aa (.dK kvs)):TyOf K H (.ref a) (.type "dict")
 | dT {a:ah} {kvs:List (List Key×V)} (e:H a=aa (.dT kvs)):TyOf K H (.ref a) (.type "dict")
 | ins {a C dx:ah} {fs:List (au×V)} (e:H a=aa (.ins C dx fs)) (cl:Cls K C) (ha:ag K (.ref C) "__class__" = aa (aa (.builtin "object.__class__")))
   (hn:eZ K (.builtin "object.__class__") "__get__" = aa (aa (.builtin "getset_descriptor.__get__"))) (htk:fF K (.builtin "object.__class__")=aa ac)
   (hm:bJ K C (.type "object")=aa ac):TyOf K H (.ref a) (.ref C)
theorem LC{x:V}{t:af}(I:Inv X ge σ H s)(N:Zp x u)(ty:TyOf X.K H x t)(e:ao X.K t c=aa b)(h:∀ tk,Q (.bool b) { s with toks:=tk }) :
  aG (aI X.prog X.w) A (call (.builtin "isinstance") [u,c]) Q E s:=by
 cases ty with
 | non=>cases (show u=cG from N);exact ba iI I.kIn bW e (λz=>nomatch z) h
 | bl y=>cases (show u=eV y from N);exact ba iK I.kIn bW e (λz=>nomatch z) h
 | int i=>obtain⟨t,q⟩:=(show ∃ t,u=eO i t from N);cases q;exact ba iQ I.kIn bW e (λz=>nomatch z) h
 | str y=>obtain⟨t,q⟩:=(show ∃ t,u=eN y t from N);cases q;exact ba iP I.kIn bW e (λz=>nomatch z) h
 | flt y=>obtain⟨t,q⟩:=(show ∃ t,u=iy y t from N);cases q;exact ba PySem.W.kitx_float I.kIn bW e (λz=>nomatch z) h
 | @lst a xs S =>
  cases (show u=aD a from N)
  obtain⟨_,_,n,_,U⟩:=(show ZO X.prog X.w H s.heap a (.lst xs) from I.hok a _ S)
  exact ba fT I.kIn ⟨_,U,rfl⟩ e (λz=>nomatch z) h
 | @frz a g xs S =>
  cases (show u=aD a from N)
  obtain⟨_,_,_,n,_,U⟩:=(show ZO X.prog X.w H s.heap a (.frz g (.lst xs)) from I.hok a _ S)
  exact ba fT I.kIn ⟨_,U,rfl⟩ e (λz=>nomatch z) h
 | @tup a xs S =>
  cases (show u=aD a from N)
  obtain⟨_,_,_,p⟩:=(show ZO X.prog X.w H s.heap a (.tup xs) from I.hok a _ S)
  obtain⟨o,U,R,_⟩:=p
  exact ba iw I.kIn ⟨o,U,R⟩ e (λz=>nomatch z) h
 | @dK a G S =>
  cases (show u=aD a from N)
  obtain⟨_,_,vs,_,p⟩:=(show ZO X.prog X.w H s.heap a (.dK G) from I.hok a _ S)
  obtain⟨o,es,k,U,R,_⟩:=p
  exact ba iJ I.kIn ⟨o,U,R.1⟩ e (λz=>nomatch z) h
 | @dT a G S =>
  cases (show u=aD a from N)
  obtain⟨_,_,xs,_,o,es,k,U,R,_⟩:=(show ZO X.prog X.w H s.heap a (.dT G) from I.hok a _ S)
  exact ba iJ I.kIn ⟨o,U,R.1⟩ e (λz=>nomatch z) h
 | @ins a C dx fs S cl l f j K =>
  cases (show u=aD a from N)
  obtain⟨W,O,_⟩:=Vu I.hok S
  obtain⟨od,J,_⟩:=O.look
  exact ba (PySem.W.kitx_own (cl.get _) cl.hd l f j K) I.kIn J e (λz=>nomatch z) h
end
structure Room(k:Nat)(A:bv):Prop where
 hd:A.handled=none
 dp:A.depth+3*k+5<recursionLimit
 un:A.units+16*k+200<cK
theorem Room.mono(r:Room k A)(h:j<=k):Room j A:=⟨r.hd,by have:=r.dp;omega,by have:=r.un;omega⟩
theorem Room.deeper{k:Nat}{A:bv}(r:Room (k+1) A)(env:eF):Room k (A.deeper env) :=
 ⟨r.hd,by have:=r.dp;show A.depth+1+3*k+5<_;omega,by have:=r.un;show A.units+3+16*k+200<_;omega⟩
theorem LD:(A.under (.builtin "type.__call__" ⟨.ref C::us,kw⟩)).depth=A.depth+1:=by
 first|rfl|simp[hW,Code.weight,Code.isCreation,Code.isGuard,Code.isCaller,Code.frames,ig,guardIds]
theorem LE:(A.under (.builtin "type.__call__" ⟨.ref C::us,kw⟩)).units=A.units+1:=by
 first|rfl|simp[hW,Code.cUnits,Code.frames,ig]
theorem Room.make(r:Room (k+1) A)(C:ah)(us:List af)(kw:List (au×af)):Room k (A.under (.builtin "type.__call__" ⟨.ref C::us,kw⟩)) :=
 ⟨r.hd,by have:=r.dp;rw[LD];omega,by have:=r.un;rw[LE];omega⟩
theorem Room.depth{k:Nat}{A:bv}(r:Room k A):A.depth<recursionLimit:=by have:=r.dp;omega
theorem Room.units{k:Nat}{A:bv}(r:Room k A):A.units+64<cLine:=by have:=r.un;omega
def ZV:TA:=λ_ H Q=>Q [] H
def ZD(ta:TE)(tr:TA):TA:=λσ H Q=>ta σ H λx H1=>tr σ H1 λxs H2=>Q (x::xs) H2
theorem Zc:PA X [] ZV:=λ_ _ _ _ H Q I h=>Calls.spliced_nil ⟨[],H,I,.nil,h⟩
theorem Za(ha:PE X e te)(J:PA X es t)(B:aB (e::es) X.env=(aw,cg e X.env)::aB es X.env:=by rfl):PA X (e::es) (ZD te t):=by
 intro pos O s Z H Q I h
 rw[B]
 show aG _ _ (spliced ((aw,cg e X.env)::bZ pos (aB es X.env))) _ _ s
 refine Calls.spliced_cons (thn (ha O s Z H _ I h) ?_)
 rintro u s1 ⟨x,H1,I1,r1,q1⟩
 exact thn (J pos O s1 Z H1 _ I1 q1) (by rintro us s2 ⟨xs,H2,I2,r2,q2⟩;exact ⟨x::xs,H2,I2,.cons r1 r2,q2⟩)
def Tl(t:TA):TE:=λσ H Q=>t σ H λxs H1=>xs.length<=sizeLine/\∀ p,H1 p=none->Q (.ref p) (upd H1 p (.tup xs))
def XZ(t:TA):TE:=λσ H Q=>t σ H λxs H1=>xs.length<=sizeLine/\∀ p,H1 p=none->Q (.ref p) (upd H1 p (.lst xs))
theorem Vv{x1}(h:PA X es t):PE X (.Tuple es x1 pos) (Tl t):=by
 intro O s Z H Q I g
 refine wpAny_Tuple_spliced (thn (h pos O s Z H _ I g) λus s1 ⟨xs,H1,I1,r,z,q⟩=>⟨by rw[<- r.length];exact z,?_⟩)
 have F:H1 s1.heap.objs.size=none:=I1.hok.fresh (ar _)
 refine⟨.ref s1.heap.objs.size,upd H1 s1.heap.objs.size (.tup xs),I1.laid (t':=s1.toks) (λb u e=>ai _ e) (ar _) ?_,rfl,q _ F⟩
 exact⟨z,us,r,⟨_,aN _ rfl,rfl,⟨_,rfl⟩,rfl⟩⟩
theorem Xu(h:PA X es t):PE X (.List es pos) (XZ t):=by
 intro O s Z H Q I g
 refine wpAny_List_spliced (thn (h pos O s Z H _ I g) λus s1 ⟨xs,H1,I1,r,z,q⟩=>⟨by rw[<- r.length];exact z,?_⟩)
 have F:H1 s1.heap.objs.size=none:=I1.hok.fresh (ar _)
 refine⟨.ref s1.heap.objs.size,upd H1 s1.heap.objs.size (.lst xs),I1.laid (t':=s1.toks) (λb u e=>ai _ e) (ar _) ?_,rfl,q _ F⟩
 exact⟨z,us,0,r,aN _ rfl⟩
abbrev Sp:=List V->Hp->VK->XK->Prop
abbrev CXT:=List eF->Hp->aq->XK->af->aq->Prop
structure Env0(P:bg)(w:bK)(K:ay)(mg:au->Option af)(base:bG)(A:bv)(outer:List eF)(s:aq)(H:Hp):Prop where
 frames:A.frames=aa outer
 mod:Mod K mg base
 bs:∀ b o,base.get? b=aa o->s.heap.get? b=aa o/\H b=none
 bsz:base.objs.size<=s.heap.objs.size
 funs:s.heap.FunFrames base outer
 frf:∀ b∈frs outer,H b=none
 hok:HOk P w H s.heap
 bare:e6 s.gens
inductive CE(outer:List eF)(P:bg)(w:bK)(H:Hp)(s:aq)(Q:VK)(u:af)(s':aq):Prop where
 | mk (v:V) (H':Hp) (o:s'.os=s.os) (g:e6 s'.gens) (n:Un (frs outer) [] H H' s.heap s'.heap) (k:HOk P w H' s'.heap) (r:Zp v u) (q:Q v H')
def CR(CX:CXT)(outer:List eF)(P:bg)(w:bK)(H:Hp)(s:aq)(Q:VK)(E:XK)(r:Result)(s':aq):Prop :=
 match r with
 | .ok (.ret u)=>CE outer P w H s Q u s'
 | .ok _=>False
 | .error e=>CX outer H s E e s'
structure FnOk(P:bg)(w:bK)(K:ay)(mg:au->Option af)(base:bG)(CX:CXT)(k:Nat)(f:ah)(fd:cS)(ps:List au)(sp:Sp):Prop where
 len:∀ vs H Q E,sp vs H Q E->vs.length=ps.length
 run:∀ (A:bv) (outer:List eF) (s:aq) (H:Hp) (args:Args) (us:List af) (vs:List V) (Q:VK) (E:XK),Room k A->Env0 P w K mg base A outer s H->fD s fd args (ps.zip us)->Zi vs us->sp vs H Q E ->
  eh (aI P w) A (.call (.ref f) args) (CR CX outer P w H s Q E) s
theorem FnOk.mono{P:bg}{w:bK}{K:ay}{mg:au->Option af}{base:bG}{CX:CXT}{j k:Nat}{f:ah}{fd:cS}{ps:List au}{sp:Sp}(F:FnOk P w K mg base CX j f fd ps sp)(h:j<=k) :
  FnOk P w K mg base CX k f fd ps sp:=⟨F.len,λA I s H args us vs Q E J=>F.run A I s H args us vs Q E (J.mono h)⟩
variable{f:ah}{base:bG}{CX:CXT}{fd:cS}{sp:Sp}{ps:List au}{mg:au->Option af}
theorem FnOk.imp{a:Sp}(F:FnOk P w K mg base CX k f fd ps sp)
  (h:∀ vs H Q E,a vs H Q E->sp vs H Q E):FnOk P w K mg base CX k f fd ps a :=
 ⟨λvs H Q E q=>F.len vs H Q E (h _ _ _ _ q),λA I s H args us vs Q E J j G S B=>F.run A I s H args us vs Q E J j G S (h _ _ _ _ B)⟩
variable{outer:List eF}
theorem Env0.make(e:Env0 P w K mg base A outer s H)(C:ah)(us:List af)(kw:List (au×af)) :
  Env0 P w K mg base (A.under (.builtin "type.__call__" ⟨.ref C::us,kw⟩)) outer s H:=⟨by first|exact e.frames|(simpa [hW,Code.envs,ig,pushEnvs] using e.frames),e.mod,e.bs,e.bsz,e.funs,e.frf,e.hok,e.bare⟩
theorem Inv.env0(I:Inv X ge σ H s):Env0 X.prog X.w X.K X.mg X.base X.A X.stack s H :=
 ⟨I.ok.frames,I.ok.mod,I.bs,aT I.ok.bsz I.sz,I.stack,I.stkFree,I.hok,I.bare⟩
theorem Inv.after{Q:VK}(I:Inv X ge σ H s)(h:CE X.stack X.prog X.w H s Q u s'):EP X ge σ Q u s':=by
 obtain⟨v,H',Y,i,un,j,r,q⟩:=h
 obtain⟨m,g,d,t,a⟩:=s'
 obtain rfl:a=s.os:=Y
 exact⟨v,H',I.call (h':=m) (g':=g) (d':=d) (t':=t) (ch:=[]) un j i (λb z=>absurd z (by simp)),r,q⟩
def Wc(sp:Sp)(dvs:List V)(E:XK)(t:TA):TE:=λσ H Q=>t σ H λvs H1=>sp (vs++dvs) H1 Q E
def Vw(C:ah)(sp:Sp)(dvs:List V)(E:XK)(t:TA):TE:=λσ H Q=>t σ H λvs H1=>∀ x dx,H1 x=none->H1 dx=none->dx≠x ->
 sp (.ref x::(vs++dvs)) (upd (upd H1 dx (.own x)) x (.ins C dx [])) (λv H2=>v=.non/\Q (.ref x) H2) E
def Zq(K:ay)(fd:cS)(ps:List au)(ds:List af):Prop :=
 ∀ (s:aq) (us:List af),K.In s.heap->(us++ds).length=ps.length->fD s fd ⟨us,[]⟩ (ps.zip (us++ds))
theorem Zq.all(h:∀ us:List af,us.length=ps.length->bindArgs fd ⟨us,[]⟩=dZ (ps.zip us)):Zq K fd ps []:=λs us _ L=>by
 rw[d_] at L ⊢
 exact .of_eq (h us L)
def Xv(CX:CXT)(X:Cx)(E:XK):Prop:=∀ (ge:List (ah×dE)) (σ:St) (H:Hp) (s:aq) (e:af) (s':aq),Inv X ge σ H s->CX X.stack H s E e s'->X.xe e s'
variable{dvs:List V}{ds:List ak}
section
variable{ds:List af}{E:XK}
theorem Tm{Q:VK}(F:FnOk X.prog X.w X.K X.mg X.base CX k f fd ps sp)(J:Room k X.A)(hb:Zq X.K fd ps ds)(hd:Zi dvs ds)(W:Xv CX X E)
  (I:Inv X ge σ H s) (r:Zi vs us) (h:sp (vs++dvs) H Q E):aG (aI X.prog X.w) X.A (call (.ref f) us) (EP X ge σ Q) X.xe s:=by
 have P:Zi (vs++dvs) (us++ds):=r.append hd
 have L:(us++ds).length=ps.length:=by rw[<- P.length];exact F.len _ _ _ _ h
 refine dn (cX (F.run X.A X.stack s H ⟨us,[]⟩ (us++ds) (vs++dvs) Q E J I.env0 (hb s us I.kIn L) P h) λr l g=>?_)
 cases r with
 | error e=>exact W ge σ H s e l I g
 | ok i =>
  cases i with
  | ret u=>exact I.after g
  | next=>exact bq g
  | brk=>exact bq g
  | cont=>exact bq g
theorem LF(F:FnOk X.prog X.w X.K X.mg X.base CX k f fd ps sp)(J:Room k X.A)(M:Gl X x)(hm:X.mg x=aa (.ref f))(N:az X.K (.ref f)=ac)(hb:Zq X.K fd ps ds)(hd:Zi dvs ds)(W:Xv CX X E)
  (ha:PA X (e::es) t) (b:(x == ("__debug__" : au))=false:=by decide) (j:aB (e::es) X.env=(aw,cg e X.env)::aB es X.env:=by rfl) (g:(bZ pos (aB es X.env)).any (·.1)=false:=by rfl) :
  PE X (.Call (.Name x p) (e::es) [] pos) (Wc sp dvs E t):=by
 intro O s Z H Q I h
 refine bT (WA I M hm ?_ b)
 refine cp (h₀:=X.base) I.ok.mod.kin N (thn (ha pos O s Z H _ I h) λus s1 ⟨vs,H1,I1,r,q⟩=>⟨I1.kIn,?_⟩) j g
 exact Tm F J hb hd W I1 r q
theorem LG(F:FnOk X.prog X.w X.K X.mg X.base CX k f fd ps sp)(J:Room k X.A)(M:Gl X x)(hm:X.mg x=aa (.ref f))(N:az X.K (.ref f)=ac)(hb:Zq X.K fd ps ds)(hd:Zi dvs ds)(W:Xv CX X E)
  (b:(x == ("__debug__" : au))=false:=by decide):PE X (.Call (.Name x p) [] [] pos) (Wc sp dvs E ZV):=by
 intro O s Z H Q I h
 refine bT (WA I M hm ?_ b)
 exact fm I.kIn N (Tm (us:=[]) F J hb hd W I .nil h)
structure Mk(K:ay)(C f:ah):Prop where
 makes:bP K C=ac
 init:ag K (.ref C) "__init__" = aa (aa (.ref f))
 fn:aW K (.ref f)=ac
 kp:az K (.ref C)=ac
theorem LH{Q:VK}(M:Mk X.K C f)(F:FnOk X.prog X.w X.K X.mg X.base CX k f fd ps sp)(J:Room (k+1) X.A)(hb:Zq X.K fd ps ds)(hd:Zi dvs ds)
  (W:Xv CX X E) (I:Inv X ge σ H s) (r:Zi vs us)
  (h:∀ x dx,H x=none->H dx=none->dx≠x->sp (.ref x::(vs++dvs)) (upd (upd H dx (.own x)) x (.ins C dx [])) (λv H2=>v=.non/\Q (.ref x) H2) E) :
  aG (aI X.prog X.w) X.A (call (.ref C) us) (EP X ge σ Q) X.xe s:=by
 have g:=h (s.heap.objs.size+1) s.heap.objs.size (I.hok.fresh (cR _)) (I.hok.fresh (ar _)) (aQ (b_ _))
 have S:=Inv.made (C:=C) I
 have P:Zi (V.ref (s.heap.objs.size+1)::(vs++dvs)) (aD (s.heap.objs.size+1)::(us++ds)):=.cons rfl (r.append hd)
 have L:(aD (s.heap.objs.size+1)::us++ds).length=ps.length:=by
  have e:=P.length
  rw[F.len _ _ _ _ g] at e
  exact e.symm
 refine dn (Ly (f:=f) I.kIn M.makes M.init (beq_iff_eq.mp M.fn) (cX (F.run _ X.stack _ _ ⟨aD (s.heap.objs.size+1)::us,[]⟩ (aD (s.heap.objs.size+1)::(us++ds)) _ _ E (J.make C us [])
  (S.env0.make C us []) (hb _ (aD (s.heap.objs.size+1)::us) S.kIn L) P g) λr l p=>?_))
 cases r with
 | error e=>exact W ge σ _ _ e l S p
 | ok i =>
  cases i with
  | ret u =>
   obtain⟨v,H',U,m,b,a⟩:=S.after p
   subst b
   exact⟨m,⟨V.ref (s.heap.objs.size+1),H',U,rfl,a⟩⟩
  | next=>exact bq p
  | brk=>exact bq p
  | cont=>exact bq p
theorem X0(M:Mk X.K C f)(F:FnOk X.prog X.w X.K X.mg X.base CX k f fd ps sp)(J:Room (k+1) X.A)(a:Gl X x)(hm:X.mg x=aa (.ref C))(hb:Zq X.K fd ps ds)(hd:Zi dvs ds)(W:Xv CX X E)
  (ha:PA X (e::es) t) (b:(x == ("__debug__" : au))=false:=by decide) (j:aB (e::es) X.env=(aw,cg e X.env)::aB es X.env:=by rfl) (g:(bZ pos (aB es X.env)).any (·.1)=false:=by rfl) :
  PE X (.Call (.Name x p) (e::es) [] pos) (Vw C sp dvs E t):=by
 intro O s Z H Q I h
 refine bT (WA I a hm ?_ b)
 refine cp (h₀:=X.base) I.ok.mod.kin M.kp (thn (ha pos O s Z H _ I h) λus s1 ⟨vs,H1,I1,r,q⟩=>⟨I1.kIn,?_⟩) j g
 exact LH M F J hb hd W I1 r q
end
structure FnScope(N P:List au)(sc:dG):Prop where
 kind:sc.kind=.function
 co:sc.isCoroutine=aw
 gen:sc.isGenerator=aw
 nd:N.Nodup
 pre:N.take P.length=P
 par:∀ x∈P,sc.names.lookup x=aa .local\/sc.names.lookup x=aa .cell
 nofree:∀ y∈sc.names,y.2≠.free
theorem Pu{a:au->Option dR}{x:au}:∀ {b:List (au×af)} {m:au->Option af},(∀ v,(x,v)∉b)->iZ a b m x=m x
 | [],_,_=>rfl
 | (n,v)::r,m,h=>by
  unfold iZ
  rw[Pu λw N=>h w (b9 _ N)]
  split
  ·have:x≠n:=by rintro rfl;exact h v fc
   simp[this]
  ·rfl
theorem Pw{a:au->Option dR}{x:au}:∀ {b:List (au×af)} {m:au->Option af},(∀ v,(x,v)∉b)->i2 a b m x=m x
 | [],_,_=>rfl
 | (n,v)::r,m,h=>by
  unfold i2
  rw[Pw λw N=>h w (b9 _ N)]
  split
  ·rfl
  ·have:x≠n:=by rintro rfl;exact h v fc
   simp[this]
theorem Px{a:au->Option dR}{x:au}{v:af}:∀ {P:List au} {vs:List af} {i:Nat} {m:au->Option af},P.Nodup->P[i]?=aa x->vs[i]?=aa v->a x=aa .local ->
  iZ a (P.zip vs) m x=aa v
 | [],_,_,_,_,h,_,_=>by simp at h
 | _::_,[],_,_,_,_,h,_=>by simp at h
 | p::P,w::vs,0,m,nd,h1,h2,hk=>by
  simp at h1 h2;subst h1;subst h2
  show iZ a ((p,w)::P.zip vs) m p=_
  unfold iZ
  rw[Pu λv S=>(nodup_cons.mp nd).1 (iE S).1,if_pos hk]
  simp
 | p::P,w::vs,i+1,m,nd,h1,h2,hk=>by
  show iZ a ((p,w)::P.zip vs) m x=_
  unfold iZ
  exact Px (i:=i) (nodup_cons.mp nd).2 (by simpa using h1) (by simpa using h2) hk
theorem Py{a:au->Option dR}{x:au}{v:af}:∀ {P:List au} {vs:List af} {i:Nat} {m:au->Option af},P.Nodup->P[i]?=aa x->vs[i]?=aa v->a x≠aa .local ->
  i2 a (P.zip vs) m x=aa v
 | [],_,_,_,_,h,_,_=>by simp at h
 | _::_,[],_,_,_,_,h,_=>by simp at h
 | p::P,w::vs,0,m,nd,h1,h2,hk=>by
  simp at h1 h2;subst h1;subst h2
  show i2 a ((p,w)::P.zip vs) m p=_
  unfold i2
  rw[Pw λv S=>(nodup_cons.mp nd).1 (iE S).1,if_neg hk]
  simp
 | p::P,w::vs,i+1,m,nd,h1,h2,hk=>by
  show i2 a ((p,w)::P.zip vs) m x=_
  unfold i2
  exact Py (i:=i) (nodup_cons.mp nd).2 (by simpa using h1) (by simpa using h2) hk
def start(N:List au)(vs:List V):St:=vs.map aa++aU (N.length-vs.length) none
def ZJ(CX:CXT)(P:bg)(w:bK)(K:ay)(mg:au->Option af)(base:bG)(N:List au)(qual:au)(scope:dG)(f:ah)(cd:af)(A:bv)(outer:List eF)(s:aq)(H:Hp)(E:XK):Cx where
 prog:=P
 w:=w
 K:=K
 mg:=mg
 base:=base
 A:=A.deeper (bQ qual scope s.heap.objs.size f cd)
 N:=N
 s₀:=s
 H₀:=H
 env:=bQ qual scope s.heap.objs.size f cd
 outer:=outer
 stack:=bQ qual scope s.heap.objs.size f cd::outer
 ex:=[]
 calm:=ac
 fn:=λ_=>ac
 pn:=[]
 xe:=λe s'=>aG (aI P w) (A.deeper (bQ qual scope s.heap.objs.size f cd)) (j1 (bQ qual scope s.heap.objs.size f cd) e) (λ_ s''=>CX outer H s E e s'') (λe' s''=>CX outer H s E e' s'') s'
theorem PB{sc:dG}(h:sc.names.lookup x=aa .cell):∃ c,(bC n sc.names []).lookup x=aa c:=by
 have q:=cN sc.names n [] (.inl h)
 exact Option.isSome_iff_exists.mp q
variable{qual:au}{scope:dG}{cd:af}
theorem PC{s1:aq}{E:XK}
  (S:FnScope N ps scope) (hd:A.handled=none) (Z:Env0 P w K mg base A outer s H) (L:vs.length=ps.length) (r:Zi vs us)
  (x:InCallC s s.heap.objs.size (iZ (bQ qual scope s.heap.objs.size f cd).kindOf (ps.zip us) λ_=>none) (bC (s.heap.objs.size+1) scope.names []) (i2 (bQ qual scope s.heap.objs.size f cd).kindOf (ps.zip us) λ_=>none) s1) :
  Inv (ZJ CX P w K mg base N qual scope f cd A outer s H E) [] (start N vs) H s1:=by
 have g:ps.length<=N.length:=by have:=congrArg gK S.pre;rw[gl] at this;omega
 obtain⟨U,tk,rfl,C⟩:=x.done
 have I:∀ b:ah,b∉(ZJ CX P w K mg base N qual scope f cd A outer s H E).ex:=λb z=>absurd (show b∈([]:List ah) from z) (by simp)
 refine⟨⟨Z.mod,S.kind,rfl,rfl,ar _,λy z c U R=>?_,λy B=>?_,λy c _ h=>?_,λ_=>hd,ih Z.frames,.inr ⟨rfl,rfl⟩,λb z=>absurd z (I b),Z.bs,Z.bsz,λb _ _=>I b,λb z=>absurd z (I b),Z.funs,Z.frf⟩,
  rfl,Z.bare,Un.kept C,⟨_,x.toInCall.ns,λi y v U R F=>?_⟩,λy c h=>⟨_,x.cell y c h⟩,Z.hok.fresh (ar _),λy c h=>?_,λp O=>absurd (show p∈([]:List (ah×dE)) from O) (by simp),Z.hok.kept C,?_⟩
 ·exact name_of_addr x.apart (bA U) (bA R)
 ·have B:scope.names.lookup y=aa .cell\/scope.names.lookup y=aa .free:=B
  rcases B with B|B
  ·exact PB B
  ·exact absurd rfl (S.nofree _ (bA B))
 ·exact cc (x.above y c (bA h))
 ·have t:i<vs.length:=by
   unfold start at R
   by_cases t:i<vs.length
   ·exact t
   ·rw[cw (by simpa using t)] at R
    rw[List.getElem?_replicate] at R
    split at R<;>cases R
  have l:vs[i]?=aa v:=by
   unfold start at R
   rw[eI (by simpa using t),c_] at R
   cases e:vs[i]? with
   | none=>rw[e] at R;cases R
   | some a=>rw[e] at R;cases R;rfl
  obtain⟨u,j,m⟩:=r.get l
  have O:ps[i]?=aa y:=by
   rw[<- S.pre,hZ (by omega)];exact U
  have o:ps.Nodup:=by rw[<- S.pre];exact S.nd.sublist (List.take_sublist _ _)
  refine⟨u,m,?_⟩
  rcases S.par y (fv O) with k|k
  ·exact .inl ⟨k,Px o O j k⟩
  ·obtain⟨c,e⟩:=PB (n:=s.heap.objs.size+1) k
   refine .inr ⟨.inl k,c,e,?_⟩
   have q:=x.cell y c e
   rw[Py o O j (by show scope.names.lookup y≠_;rw[k];decide)] at q
   exact q
 ·exact Z.hok.fresh (cc (x.above y c (bA h)))
 ·unfold start
  show _=N.length
  rw[aO,aC,List.length_replicate]
  omega
variable{params:Arguments}{dV pm:af}{ct:Sl->Prop}{an:Option ah}{od:Option dE}{osl:Array (Option af)}
theorem S9{kV doc cdv ct oc:af}{od:Option ah}
     (M:K.lookup f=aa ⟨oc,od,.func (aM name qual params body scope dV kV doc pm an cdv ct),osl⟩) (C:aH K cdv qual=ac) (S:FnScope N ps scope)
  (len:∀ vs H Q E,sp vs H Q E->vs.length=ps.length)
  (hbody:∀ (A:bv) (outer:List eF) (s:aq) (H:Hp) (vs:List V) (Q:VK) (E:XK),Room k (A.deeper (bQ qual scope s.heap.objs.size f cdv))->sp vs H Q E ->
   ∃ t,PSs (ZJ CX P w K mg base N qual scope f cdv A outer s H E) body t/\t { nx:=λ_ H'=>Q .non H',rt:=Q } (start N vs) H) :
  FnOk P w K mg base CX (k+1) f (aM name qual params body scope dV kV doc pm an cdv ct) ps sp:=by
 refine⟨len,λA outer s H args us vs Q E z Z G r a=>?_⟩
 have L:=len _ _ _ _ a
 have X:K.In s.heap:=Z.mod.kin.keeps λb o e=>(Z.bs b o e).1
 have h:s.heap.NoLimit:=Z.mod.nolimit.keeps λb o e=>(Z.bs b o e).1
 have c:∀ y∈ps.zip us,scope.names.lookup y.1=aa .local\/(scope.names.lookup y.1=aa .cell/\((bC (s.heap.objs.size+1) scope.names []).lookup y.1).isSome=ac):=by
  rintro ⟨n,v⟩ F
  rcases S.par n (iE F).1 with q|q
  ·exact .inl q
  ·exact .inr ⟨q,cN _ _ _ (.inl q)⟩
 refine js z.depth (X _ _ M) rfl S.co S.gen rfl (ix X C) (G _ _ _ _ ?_)
 refine iq S.kind c λenv j s1 x=>?_
 subst j
 refine⟨h.keeps x.toInCall.keep,codeAny_func ?_⟩
 obtain⟨t,ht,g⟩:=hbody A outer s H vs Q E (z.deeper _) a
 have I:Inv (ZJ CX P w K mg base N qual scope f cdv A outer s H E) [] (start N vs) H s1:=PC S z.hd Z L r x
 refine bi (ht [] s1 (start N vs) H _ I g) (λi l B=>?_) λe l B=>B
 have fin:∀ {p:St} {H':Hp} {v:V} {u:af},Inv (ZJ CX P w K mg base N qual scope f cdv A outer s H E) [] p H' l->Zp v u->Q v H'->CE outer P w H s Q u l :=
  λ{p H' v u} J m q=>⟨v,H',J.os,J.bare,J.base,J.hok,m,q⟩
 cases i with
 | ret u =>
  obtain⟨v,p,H',J,m,q⟩:=B
  exact fin J m q
 | next =>
  obtain⟨p,H',J,q⟩:=B
  exact fin (v:=V.non) (u:=cG) J rfl q
 | brk =>
  obtain⟨_,_,_,q⟩:=B
  exact bq q
 | cont =>
  obtain⟨_,_,_,q⟩:=B
  exact bq q
variable{T:String}{r:V->Option Int->Option Int->Hp->VK->Prop}
section
variable{id:String}{r:List V->Hp->VK->Prop}
def tCB(r:List V->Hp->VK->Prop)(t:TA):TE:=λσ H Q=>t σ H λvs H1=>r vs H1 Q
theorem ZQ(Y:Z7 X (.builtin id) r)(M:Gl X x)(hm:X.mg x=none)(S:du x=aa (.builtin id))(ha:PA X (e::es) t)(hn:x ≠ "__name__" := by decide)(b:(x == ("__debug__" : au))=false:=by decide)
  (j:aB (e::es) X.env=(aw,cg e X.env)::aB es X.env:=by rfl) (g:(bZ pos (aB es X.env)).any (·.1)=false:=by rfl):PE X (.Call (.Name x p) (e::es) [] pos) (tCB r t):=by
 intro O s Z H Q I h
 refine bT (V8 I M hm S ?_ hn b)
 exact PyProof.Rows.callWith_builtin1 (thn (ha pos O s Z H _ I h) (by rintro us s1 ⟨vs,H1,I1,r1,q1⟩;exact Y O s1 Z H1 vs us Q I1 r1 q1)) j g
theorem Xb(Y:Z7 X (.type T) r)(M:Gl X x)(hm:X.mg x=none)(S:du x=aa (.type T))(ha:PA X (e::es) t)(hn:x ≠ "__name__" := by decide)(b:(x == ("__debug__" : au))=false:=by decide)
  (j:aB (e::es) X.env=(aw,cg e X.env)::aB es X.env:=by rfl) (g:(bZ pos (aB es X.env)).any (·.1)=false:=by rfl):PE X (.Call (.Name x p) (e::es) [] pos) (tCB r t):=by
 intro O s Z H Q I h
 refine bT (V8 I M hm S ?_ hn b)
 exact dH (thn (ha pos O s Z H _ I h) (by rintro us s1 ⟨vs,H1,I1,r1,q1⟩;exact Y O s1 Z H1 vs us Q I1 r1 q1)) j g
end
abbrev TO:=St->Hp->(Option Int->Hp->Prop)->Prop
def PO(X:Cx)(e:Option cz)(t:TO):Prop :=
 ∀ (ge:List (ah×dE)) (s:aq) (σ:St) (H:Hp) (Q:Option Int->Hp->Prop),Inv X ge σ H s->t σ H Q ->
  aG (aI X.prog X.w) X.A (evalPart e X.env) (λu s'=>∃ o H',Inv X ge σ H' s'/\gG u o/\Q o H') X.xe s
def PH:TO:=λ_ H Q=>Q none H
def PJ(t:TE):TO:=λσ H Q=>t σ H λx H1=>∃ i,x=.int i/\Q (aa i) H1
variable{tl th:TO}
section
variable{lo hi:Option cz}{p2:jJ}
theorem Ra:PO X none PH:=by
 intro O s Z H Q I h
 rw[evalPart_none]
 exact am ⟨none,H,I,.none,h⟩
theorem W0(h:PE X e te):PO X (aa e) (PJ te):=by
 intro O s Z H Q I N
 rw[evalPart_some]
 refine thn (h O s Z H _ I N) ?_
 rintro u s1 ⟨x,H1,I1,r1,q1⟩
 obtain⟨i,rfl,q⟩:=q1
 obtain⟨t,rfl⟩:=r1
 exact⟨aa i,H1,I1,.int i t,q⟩
def SlR(X:Cx)(r:V->Option Int->Option Int->Hp->VK->Prop):Prop :=
 ∀ (ge:List (ah×dE)) (s:aq) (σ:St) (H:Hp) (x:V) (v vl vu:af) (lo hi:Option Int) (sl:ah) (Q:VK),Inv X ge σ H s->Zp x v->s.heap.IsSliceOf sl vl vu .none->gG vl lo->gG vu hi->r x lo hi H Q ->
  ∃ T id,typeLookup (.type T) "__getitem__" = dZ (aa (.builtin id))/\s.TypeIs v T/\aG (aI X.prog X.w) X.A (gV v (.ref sl)) (EP X ge σ Q) X.xe s
theorem SlR.or{r':V->Option Int->Option Int->Hp->VK->Prop}(h:SlR X r)(h':SlR X r'):SlR X (λx lo hi H Q=>r x lo hi H Q\/r' x lo hi H Q):=by
 intro O s Z H x v e c lo hi p Q I N B pl f q
 rcases q with q|q
 ·exact h O s Z H x v e c lo hi p Q I N B pl f q
 ·exact h' O s Z H x v e c lo hi p Q I N B pl f q
def tSl(r:V->Option Int->Option Int->Hp->VK->Prop)(te:TE)(tl th:TO):TE:=λσ H Q=>te σ H λx H1=>tl σ H1 λl H2=>th σ H2 λu H3=>r x l u H3 Q
theorem Uh(J:SlR X r)(f:PE X e te)(L:PO X lo tl)(j:PO X hi th):PE X (.Subscript e (.Slice lo hi none p2) pos) (tSl r te tl th):=by
 intro O s Z H Q I h
 refine Subscript_ (thn (f O s Z H _ I h) ?_)
 rintro v s1 ⟨x,H1,I1,r1,q1⟩
 refine wpAny_Slice (thn (L O s1 Z H1 _ I1 q1) λvl s2 ⟨l,H2,I2,pl,q2⟩=>thn (j O s2 Z H2 _ I2 q2) λvu s3 ⟨u,H3,I3,pu,q3⟩=>?_)
 rw[evalPart_none]
 refine am ?_
 have a:Inv X O Z H3 { s3 with heap:=s3.heap.push { cls:=.type "slice",data:=.fields #[vl,vu,.none] } }:=I3.kept (t':=s3.toks) λb g q=>ai _ q
 obtain⟨T,id,c,ht,M⟩:=J O { s3 with heap:=s3.heap.push { cls:=.type "slice",data:=.fields #[vl,vu,.none] } } Z H3 x v vl vu l u s3.heap.objs.size Q a r1 (j8 ..) pl pu q3
 show aG (aI X.prog X.w) X.A (iT e (.Slice lo hi none p2) v (.ref s3.heap.objs.size)) (EP X O Z Q) X.xe { s3 with heap:=s3.heap.push { cls:=.type "slice",data:=.fields #[vl,vu,.none] } }
 exact tail_any (ops:=[.ref s3.heap.objs.size,v]) ht c M (by with_unfolding_all rfl)
def We(xs:List V)(lo hi:Option Int):List V:=(xs.drop (HT.sIx xs.length 0 lo)).take (HT.sIx xs.length xs.length hi-HT.sIx xs.length 0 lo)
theorem PK(xs:List V)(lo hi:Option Int):(We xs lo hi).length<=xs.length:=by
 unfold We
 rw[gl,gD]
 omega
def Ui(K:ay):V->Option Int->Option Int->Hp->VK->Prop:=λx lo hi H Q=>∃ a xs,x=.ref a/\SqT K H a xs /\
 ¬ (HT.sIx xs.length 0 lo=0/\HT.sIx xs.length xs.length hi=xs.length)/\∀ p,H p=none->Q (.ref p) (upd H p (.tup (We xs lo hi)))
theorem LQ:SlR X (Ui X.K):=by
 intro O s Z H x v e c j t p Q I N B pl f h
 obtain⟨a,xs,rfl,W,k,q⟩:=h
 cases N
 obtain⟨its,r,ht,C⟩:=I.tuple W
 have i:its.toArray.size=xs.length:=by rw[bn];exact r.length.symm
 refine⟨"tuple",_,fu.lookup,ht.typeIs,?_⟩
 refine HT.LP ht B pl f (by rw[i];exact k) ?_ (by rw[i];exact C)
 rw[i]
 refine⟨.ref s.heap.objs.size,_,I.laid (t':=s.toks) (o:=.tup (We xs j t)) (λb g q=>ai _ q) (ar _) ?_,rfl,q _ (I.hok.fresh (ar _))⟩
 exact⟨aT (PK xs j t) C,_,(r.drop (HT.sIx xs.length 0 j)).take (HT.sIx xs.length xs.length t-HT.sIx xs.length 0 j),XX.new _ _⟩
def Tn(K:ay):R2:=λx y H Q=>∃ a b xs ys,x=.ref a/\y=.ref b/\SqT K H a xs/\SqT K H b ys/\xs≠[]/\xs.length+ys.length<=sizeLine /\
 (ys=[]->Q (.ref a) H)/\(ys≠[]->∀ p,H p=none->Q (.ref p) (upd H p (.tup (xs++ys))))
theorem Zi.nil_iff(r:Zi xs us):us=[]↔xs=[]:=by
 cases r with
 | nil=>simp
 | cons _ _=>simp
theorem LR:OpR X (cr .Add) (Tn X.K):=by
 intro O s Z H x y v u Q I N m h
 obtain⟨a,b,xs,ys,rfl,rfl,l,G,W,C,A,k⟩:=h
 cases N
 cases m
 obtain⟨its,L,c,_⟩:=I.tuple l
 obtain⟨e,P,Y,_⟩:=I.tuple G
 refine HT.LI c Y (λz=>W (L.nil_iff.mp z)) (λz=>⟨.ref a,H,I,rfl,A (P.nil_iff.mp z)⟩) (λz=>?_) (by rw[<- L.length,<- P.length];exact C)
 refine⟨.ref s.heap.objs.size,_,I.laid (t':=s.toks) (o:=.tup (xs++ys)) (λb g q=>ai _ q) (ar _) ?_,rfl,k (λw=>z (P.nil_iff.mpr w)) _ (I.hok.fresh (ar _))⟩
 exact⟨by rw[aO];exact C,_,L.append P,XX.new _ _⟩
end
def ixN(n:Nat)(i:Int):Option Nat:=if 0<=i then (if i<n then aa i.toNat else none) else if -(n:Int)<=i then aa (i+n).toNat else none
def atI(xs:List α)(i:Int):Option α:=(ixN xs.length i).bind λj=>xs[j]?
theorem LS(h:ixN n i=aa j):seqIndex? i n=aa j/\j<n/\-(n:Int)<=i/\i<n:=by
 unfold ixN at h
 by_cases W:0<=i
 ·rw[if_pos W] at h
  by_cases U:i<n
  ·rw[if_pos U] at h
   have e:i.toNat=j:=bh h
   exact⟨by rw[seqIndex_of W U,e],by omega,by omega,U⟩
  ·rw[if_neg U] at h;cases h
 ·rw[if_neg W] at h
  by_cases U:-(n:Int)<=i
  ·rw[if_pos U] at h
   have e:(i+n).toNat=j:=bh h
   exact⟨by rw[seqIndex_neg (by omega) U,e],by omega,U,by omega⟩
  ·rw[if_neg U] at h;cases h
theorem Rb{xs:List α}{v:α}(h:atI xs i=aa v):∃ j,seqIndex? i xs.length=aa j/\xs[j]?=aa v/\j<xs.length/\-(xs.length:Int)<=i/\i<xs.length:=by
 unfold atI at h
 cases e:ixN xs.length i with
 | none=>rw[e] at h;cases h
 | some j =>
  rw[e] at h
  obtain⟨U,R,S,F⟩:=LS e
  exact⟨j,U,h,R,S,F⟩
theorem PL{xs:List α}{v:α}(h:xs[j]?=aa v):atI xs (j:Int)=aa v:=by
 have l:j<xs.length:=(List.getElem?_eq_some_iff.mp h).1
 have e:ixN xs.length (j:Int)=aa j:=by
  unfold ixN
  rw[if_pos (by omega),if_pos (by omega)];simp
 unfold atI;rw[e];exact h
theorem Tp(xs:List α)(v:α):atI (xs++[v]) (-1)=aa v:=by
 have L:(xs++[v]).length=xs.length+1:=by simp
 have e:ixN (xs++[v]).length (-1)=aa xs.length:=by
  unfold ixN
  rw[L,if_neg (by decide),if_pos (by omega)]
  congr 1
  omega
 unfold atI
 rw[e]
 show (xs++[v])[xs.length]?=aa v
 simp
def PM(b:cz):Prop:=∀ o i,jA b aw o i=operate [o,i] (gV o i)
def IxR(X:Cx)(r:R2):Prop :=
 ∀ (value slice:cz) (ge:List (ah×dE)) (s:aq) (σ:St) (H:Hp) (x y:V) (v u:af) (Q:VK),Inv X ge σ H s->Zp x v->Zp y u->r x y H Q ->
  jA slice aw v u=operate [v,u] (gV v u)->aG (aI X.prog X.w) X.A (iT value slice v u) (EP X ge σ Q) X.xe s
def MtR(X:Cx)(id:String)(r:V->List V->Hp->VK->Prop):Prop :=
 ∀ (ge:List (ah×dE)) (s:aq) (σ:St) (H:Hp) (x:V) (xs:List V) (v:af) (us:List af) (Q:VK),Inv X ge σ H s->Zp x v->Zi xs us->r x xs H Q ->
  aG (aI X.prog X.w) X.A (call (.builtin id) (v::us)) (EP X ge σ Q) X.xe s
variable{to:TE}{apos cpos:jJ}{r:List (ak×ak)}
section
variable{a b:cz}
theorem IxR.or{r:R2}(h:IxR X r)(h':IxR X r'):IxR X (λx y H Q=>r x y H Q\/r' x y H Q):=by
 intro n A O s Z H x y v u Q I N m q B
 rcases q with q|q
 ·exact h n A O s Z H x y v u Q I N m q B
 ·exact h' n A O s Z H x y v u Q I N m q B
theorem Yg{r:R2}(J:IxR X r)(ha:PE X a ta)(hb:PE X b tb)(B:PM b):PE X (.Subscript a b pos) (tOp r ta tb):=by
 intro O s Z H Q I h
 exact Subscript_ (S6 ha hb I h λv u s2 x y H2 S N m q=>J a b O s2 Z H2 x y v u Q S N m q (B _ _))
def Vx(K:ay):R2:=λx y H Q=>∃ p xs i v,x=.ref p/\y=.int i/\SqL K H p xs/\atI xs i=aa v/\Q v H
def Tq(K:ay):R2:=λx y H Q=>∃ p xs i v,x=.ref p/\y=.int i/\SqT K H p xs/\atI xs i=aa v/\Q v H
def Rc:R2:=λx y H Q=>∃ z i c,x=.str z/\y=.int i/\z.length<=sizeLine/\atI z.cps.toList i=aa c/\Q (.str ⟨#[c]⟩) H
theorem LU:IxR X (Vx X.K):=by
 intro n A O s Z H x y v u Q I N m h B
 obtain⟨p,xs,i,z,rfl,rfl,g,c,q⟩:=h
 cases N
 obtain⟨t,rfl⟩:=m
 obtain⟨its,r,pl,C⟩:=I.list g
 obtain⟨j,U,R,S,F,Y⟩:=Rb c
 obtain⟨w,a,J⟩:=r.get R
 have L:=r.length
 have f:=line63
 have fin:EP X O Z Q w s:=⟨z,H,I,J,q⟩
 by_cases W:0<=i
 ·have l:i.toNat=j:=by
   rw[seqIndex_of W Y] at U
   exact bh U
  exact item_listR pl.isList W (by omega) (by rw[l];simpa using a) fin B
 ·have l:(i+(its.toArray.size:Int)).toNat=j:=by
   rw[seqIndex_neg (by omega) F] at U
   rw[bn,<- L]
   exact bh U
  exact jn (x:=w) pl.isList.typeIs slot_list_getitem.lookup
   (wpAny_getItem_list_neg (Q:=λr b=>r=w/\EP X O Z Q r b) pl.isList (by omega) (by rw[bn]<;>omega) (by omega) (by rw[l];simpa using a) ⟨rfl,fin⟩) B
theorem LV:IxR X (Tq X.K):=by
 intro n A O s Z H x y v u Q I N m h B
 obtain⟨p,xs,i,z,rfl,rfl,g,b,q⟩:=h
 cases N
 obtain⟨t,rfl⟩:=m
 obtain⟨its,r,pl,C⟩:=I.tuple g
 obtain⟨j,U,R,S,F,Y⟩:=Rb b
 obtain⟨w,a,J⟩:=r.get R
 have L:=r.length
 have f:=line63
 have fin:EP X O Z Q w s:=⟨z,H,I,J,q⟩
 exact jn (x:=w) pl.typeIs slot_tuple_getitem.lookup
  (getItem_tuple (j:=j) (Q:=λr l=>r=w/\EP X O Z Q r l) pl (by omega) (by omega) (by rw[bn,<- L];exact U) (by simpa using a) ⟨rfl,fin⟩) B
theorem LW:IxR X Rc:=by
 intro n A O s Z H x y v u Q I N m h B
 obtain⟨z,i,c,rfl,rfl,C,a,q⟩:=h
 obtain⟨t,rfl⟩:=N
 obtain⟨t',rfl⟩:=m
 obtain⟨j,U,R,S,F,Y⟩:=Rb a
 have L:z.cps.toList.length=z.length:=by simp[au.length]
 rw[L] at U F Y
 have f:=line63
 exact tail_any (fw s z t) slot_str_getitem.lookup (getItem_str (c:=c) (by
  have T:decide (i < -(2 ^ 63:Int))=false:=decide_eq_false (by omega)
  have M:decide (i≥2 ^ 63)=false:=decide_eq_false (by omega)
  rw[T,M,jV]) (by rw[U];simpa using R) ⟨.str ⟨#[c]⟩,H,I.tok _,⟨_,rfl⟩,q⟩) B
theorem LX(lo hi:Option Int)(n:Nat):(em lo hi none n).1=((HT.sIx n 0 lo:Nat):Int)/\(em lo hi none n).2.1=((HT.sIx n n hi:Nat):Int)/\(em lo hi none n).2.2=1:=by
 refine⟨?_,?_,rfl⟩
 ·cases lo with
  | none=>simp[em,HT.sIx]
  | some i =>
   simp only[em,HT.sIx,i8,show (1:Int) > 0 by decide,if_true]
   by_cases h:i<0
   ·simp only[h,if_true]<;>omega
   ·simp only[h,if_false]<;>omega
 ·cases hi with
  | none=>simp[em,HT.sIx]
  | some i =>
   simp only[em,HT.sIx,i8,show (1:Int) > 0 by decide,if_true]
   by_cases h:i<0
   ·simp only[h,if_true]<;>omega
   ·simp only[h,if_false]<;>omega
theorem LY(its:List af)(lo hi:Option Int):slicePick its.toArray lo hi none=((its.drop (HT.sIx its.length 0 lo)).take (HT.sIx its.length its.length hi-HT.sIx its.length 0 lo)).toArray:=by
 obtain⟨U,R,S⟩:=LX lo hi its.toArray.size
 unfold slicePick
 rw[U,R,S]
 simp only[sliceRange_one,pick_run,bn]<;>rfl
def Uj(K:ay):V->Option Int->Option Int->Hp->VK->Prop:=λx lo hi H Q=>∃ a xs,x=.ref a/\SqL K H a xs/\∀ p,H p=none->Q (.ref p) (upd H p (.lst (We xs lo hi)))
theorem LZ:SlR X (Uj X.K):=by
 intro O s Z H x v e c j t p Q I N B pl f h
 obtain⟨a,xs,rfl,W,q⟩:=h
 cases N
 obtain⟨its,r,ht,C⟩:=I.list W
 have i:=r.length
 refine⟨"list",_,slot_list_getitem.lookup,ht.isList.typeIs,?_⟩
 refine wpAny_getItem_list_slice ht.isList B pl f .none (by simp) ?_ (by rw[bn]<;>omega)
 rw[LY,<- i]
 refine⟨.ref s.heap.objs.size,_,I.laid (t':=s.toks) (o:=.lst (We xs j t)) (λb g q=>ai _ q) (ar _) ?_,rfl,q _ (I.hok.fresh (ar _))⟩
 exact⟨aT (PK xs j t) C,_,0,(r.drop (HT.sIx xs.length 0 j)).take (HT.sIx xs.length xs.length t-HT.sIx xs.length 0 j),aN _ rfl⟩
noncomputable def WE:V->Bool
 | .non=>ac
 | .bl _=>ac
 | .int _=>ac
 | .str _=>ac
 | _=>aw
noncomputable def eqV:V->V->Bool
 | .non,.non=>ac
 | .bl a,.bl b=>a == b
 | .bl a,.int b=>(if a then 1 else 0) == b
 | .int a,.bl b=>a == (if b then 1 else 0)
 | .int a,.int b=>a == b
 | .str a,.str b=>a == b
 | _,_=>aw
theorem L4{x:V}{v:af}(m:Zp y u)(N:Zp x v)(e:WE y=ac)(c:WE x=ac):SeqAt.EqAt A s u v (eqV y x):=by
 cases y with
 | non =>
  cases m
  cases x with
  | non=>cases N;exact SeqAt.EqAt.same _
  | bl b=>cases N;exact SeqAt.EqAt.none_bool b
  | int b=>obtain⟨t,rfl⟩:=N;exact SeqAt.EqAt.none_int b t
  | str b=>obtain⟨t,rfl⟩:=N;exact SeqAt.EqAt.none_str b t
  | _=>exact absurd (show aw=ac from c) ap
 | bl a =>
  cases m
  cases x with
  | non=>cases N;exact SeqAt.EqAt.bool_none a
  | bl b=>cases N;exact SeqAt.EqAt.bool_bool a b
  | int b=>obtain⟨t,rfl⟩:=N;exact SeqAt.EqAt.bool_int a b t
  | str b=>obtain⟨t,rfl⟩:=N;exact SeqAt.EqAt.bool_str a b t
  | _=>exact absurd (show aw=ac from c) ap
 | int a =>
  obtain⟨t',rfl⟩:=m
  cases x with
  | non=>cases N;exact SeqAt.EqAt.int_none a t'
  | bl b=>cases N;exact SeqAt.EqAt.int_bool a t' b
  | int b=>obtain⟨t,rfl⟩:=N;exact SeqAt.EqAt.int_int a t' b t
  | str b=>obtain⟨t,rfl⟩:=N;exact hS a t' b t
  | _=>exact absurd (show aw=ac from c) ap
 | str a =>
  obtain⟨t',rfl⟩:=m
  cases x with
  | non=>cases N;exact SeqAt.EqAt.str_none a t'
  | bl b=>cases N;exact SeqAt.EqAt.str_bool a t' b
  | int b=>obtain⟨t,rfl⟩:=N;exact hQ a t' b t
  | str b=>obtain⟨t,rfl⟩:=N;exact SeqAt.EqAt.str_str a t' b t
  | _=>exact absurd (show aw=ac from c) ap
 | _=>exact absurd (show aw=ac from e) ap
noncomputable def eqU(x:V)(u:af):Bool:=match u with
 | .none=>eqV .non x
 | .bool b=>eqV (.bl b) x
 | .int i _=>eqV (.int i) x
 | .str z _=>eqV (.str z) x
 | _=>aw
theorem PN{x:V}(r:Zp y u)(f:WE y=ac):eqU x u=eqV y x:=by
 cases y with
 | non=>cases r;rfl
 | bl b=>cases r;rfl
 | int i=>obtain⟨t,rfl⟩:=r;rfl
 | str z=>obtain⟨t,rfl⟩:=r;rfl
 | _=>exact absurd (show aw=ac from f) ap
theorem Re{x:V}:∀ {xs:List V} {us:List af},Zi xs us->xs.all WE=ac->us.any (eqU x)=xs.any λy=>eqV y x
 | _,_,.nil,_=>rfl
 | y::xs,u::us,.cons r t,f=>by
  rw[all_cons,aJ] at f
  rw[jE,jE,PN r f.1,Re t f.2]
theorem Rf{A:bv}{s:aq}{x:V}{v:af}(N:Zp x v)(c:WE x=ac):∀ {xs:List V} {us:List af},Zi xs us->xs.all WE=ac->∀ u∈us,SeqAt.EqAt A s u v (eqU x u)
 | _,_,.nil,_=>λu j=>by cases j
 | y::xs,u::us,.cons r t,f=>λB j=>by
  rw[all_cons,aJ] at f
  rcases eR.mp j with rfl|j
  ·rw[PN r f.1];exact L4 r N f.1 c
  ·exact Rf N c t f.2 B j
def inV(x:V)(xs:List V):Bool:=xs.any λy=>eqV y x
def rIn(K:ay)(neg:Bool):R2:=λx y H Q=>∃ p xs,y=.ref p/\(SqL K H p xs\/SqT K H p xs)/\WE x=ac/\xs.all WE=ac/\Q (.bl (if neg then !inV x xs else inV x xs)) H
theorem L5:OpR X (bx .In) (rIn X.K aw):=by
 intro O s Z H x y v u Q I a m h
 obtain⟨p,xs,rfl,g,c,fs,q⟩:=h
 cases m
 rcases g with g|g
 ·obtain⟨its,r,pl,C⟩:=I.list g
  refine SeqAt.in_listAt (eqU x) pl.isList (λw N=>Rf a c r fs w (by simpa using N)) ⟨.bl _,H,I,rfl,?_⟩
  rw[show its.toArray.any (eqU x)=its.any (eqU x) by simp,Re r fs]
  exact q
 ·obtain⟨its,r,pl,C⟩:=I.tuple g
  refine SeqAt.in_tupleAt (eqU x) pl (λw N=>Rf a c r fs w (by simpa using N)) ⟨.bl _,H,I,rfl,?_⟩
  rw[show its.toArray.any (eqU x)=its.any (eqU x) by simp,Re r fs]
  exact q
theorem L6:OpR X (bx .NotIn) (λx y H Q=>∃ i j,x=.str i/\y=.str j/\Q (.bl (!(!(b0 j i 0 j.length 1).isEmpty))) H):=by
 intro O s Z H x y v u Q I N m h
 obtain⟨i,j,rfl,rfl,q⟩:=h
 obtain⟨t,rfl⟩:=N
 obtain⟨t',rfl⟩:=m
 exact notIn_str ⟨.bl _,H,I,rfl,q⟩
theorem L7:Z7 X (.builtin "len") (λxs H Q=>∃ p ys,xs=[.ref p]/\(SqL X.K H p ys\/SqT X.K H p ys)/\Q (.int ys.length) H):=by
 intro O s Z H xs us Q I r h
 obtain⟨p,ys,rfl,g,q⟩:=h
 obtain⟨u,rfl,N⟩:=vals1 r
 cases N
 have f:=line63
 rcases g with g|g
 ·obtain⟨its,S,pl,C⟩:=I.list g
  have i:=S.length
  exact Calls.call_len_list pl.isList (by simp only[bn]<;>omega) ⟨.int ys.length,H,I.tok _,⟨s.toks+1,by rw[bn,i]⟩,q⟩
 ·obtain⟨its,S,pl,C⟩:=I.tuple g
  have i:=S.length
  exact len_tuple pl (by simp only[bn]<;>omega) ⟨.int ys.length,H,I.tok _,⟨s.toks+1,by rw[bn,i]⟩,q⟩
theorem L8:Z7 X (.builtin "len") (λxs H Q=>∃ z,xs=[.str z]/\z.length<=sizeLine/\Q (.int z.length) H):=by
 intro O s Z H xs us Q I r h
 obtain⟨z,rfl,C,q⟩:=h
 obtain⟨u,rfl,t,rfl⟩:=vals1 r
 have f:=line63
 exact len_str (by omega) ⟨.int z.length,H,I.tok _,⟨_,rfl⟩,q⟩
theorem Z7.or{f:af}{r r':List V->Hp->VK->Prop}(h:Z7 X f r)(h':Z7 X f r'):Z7 X f (λxs H Q=>r xs H Q\/r' xs H Q):=by
 intro O s Z H xs us Q I rs q
 rcases q with q|q
 ·exact h O s Z H xs us Q I rs q
 ·exact h' O s Z H xs us Q I rs q
theorem L9:Z7 X (.type "list") (λxs H Q=>∃ p ys,xs=[.ref p]/\(SqL X.K H p ys\/SqT X.K H p ys)/\∀ l,H l=none->Q (.ref l) (upd H l (.lst ys))):=by
 intro O s Z H xs us Q I r h
 obtain⟨p,ys,rfl,g,q⟩:=h
 obtain⟨u,rfl,N⟩:=vals1 r
 cases N
 have fin:∀ (its:List af),Zi ys its->ys.length<=sizeLine->∀ (h':bG) (J:Nat),(∀ b U,s.heap.get? b=aa U->h'.get? b=aa U) ->
   h'.get? s.heap.objs.size=aa { cls:=.type "list",dict:=none,data:=.seq its.toArray J,slots:=#[] }->EP X O Z Q (.ref s.heap.objs.size) { s with heap:=h' }:=λits S C h' J F e =>
  ⟨.ref s.heap.objs.size,_,I.laid (t':=s.toks) F (ar _) (show ZO X.prog X.w _ h' _ (.lst ys) from ⟨C,its,J,S,e⟩),rfl,q _ (I.hok.fresh (ar _))⟩
 rcases g with g|g
 ·obtain⟨its,S,pl,C⟩:=I.list g
  have i:=S.length
  obtain⟨o,P,Y,n,hd⟩:=pl.isList
  exact call_list_seq p (.inl rfl) P Y hd (λh' J F e=>fin its S C h' J F e) (by simp only[bn]<;>omega)
 ·obtain⟨its,S,pl,C⟩:=I.tuple g
  have i:=S.length
  obtain⟨o,P,Y,n,hd⟩:=pl
  exact call_list_seq p (.inr rfl) P Y hd (λh' J F e=>fin its S C h' J F e) (by simp only[bn]<;>omega)
noncomputable def tyV(K:ay)(T:String)(x:V)(H:Hp):Prop:=match x with
 | .str _=>T = "str"
 | .int _=>T = "int"
 | .ref p=>(T = "list" /\ ∃ xs,SqL K H p xs)\/(T = "tuple" /\ ∃ o,K.lookup p=aa o/\o.cls=.type "tuple" /\ o.dict=none) \/
   (T = "dict" /\ ((∃ kvs,H p=aa (.dK kvs))\/∃ kvs,H p=aa (.dT kvs)))\/(T = "set" /\ ∃ S n,H p=aa (.set S n))
 | _=>False
theorem Ka{x:V}{v:af}(I:Inv X ge σ H s)(r:Zp x v)(ty:tyV X.K T x H) :
  s.TypeIs v T/\∀ a,v=.ref a->∃ ob,s.heap.get? a=aa ob/\ob.dict=none:=by
 cases x with
 | str z =>
  obtain⟨t,rfl⟩:=r
  cases (show T = "str" from ty)
  exact⟨fw s z t,λ_ e=>nomatch e⟩
 | int i =>
  obtain⟨t,rfl⟩:=r
  cases (show T = "int" from ty)
  exact⟨jQ s i t,λ_ e=>nomatch e⟩
 | ref p =>
  cases r
  rcases ty with⟨rfl,xs,g⟩|⟨rfl,o,N,Y,hd⟩|⟨rfl,N⟩|⟨rfl,S,n,N⟩
  ·obtain⟨its,_,pl,_⟩:=I.list g
   refine⟨pl.isList.typeIs,λa e=>?_⟩
   cases e
   obtain⟨o,n,e,c,hd,_⟩:=pl
   exact⟨o,e,hd⟩
  ·refine⟨⟨o,I.kIn p o N,Y⟩,λa e=>?_⟩
   cases e
   exact⟨o,I.kIn _ o N,hd⟩
  ·have z:∃ o,s.heap.get? p=aa o/\o.ExactDict:=by
    rcases N with⟨G,N⟩|⟨G,N⟩
    ·obtain⟨_,_,_,_,o,_,_,e,b,_⟩:=I.hok p _ N
     exact⟨o,e,b⟩
    ·obtain⟨_,_,_,_,o,_,_,e,b,_⟩:=I.hok p _ N
     exact⟨o,e,b⟩
   obtain⟨o,e,b⟩:=z
   refine⟨⟨o,e,b.1⟩,λa M=>?_⟩
   cases M
   exact⟨o,e,b.2.1⟩
  ·obtain⟨o,_,_,_,e,b,_⟩:=I.hok p _ N
   refine⟨⟨o,e,b.1⟩,λa M=>?_⟩
   cases M
   exact⟨o,e,b.2.1⟩
 | _=>exact bq ty
def tBM(K:ay)(T:String)(r:V->List V->Hp->VK->Prop)(to:TE)(t:TA):TE:=λσ H Q=>to σ H λx H1=>tyV K T x H1/\t σ H1 λxs H2=>r x xs H2 Q
variable{o:cz}{id:String}{r:V->List V->Hp->VK->Prop}
theorem Kb(g:jU T)(slot:Slot T name id)(i:typeOf (.builtin id)=dZ (.type "method_descriptor"))(hm:MtR X id r)(P:PE X o to)(ha:PA X (e::es) t)
  (b:df o name X.env (cg o X.env)=cg o X.env:=by rfl)
  (f:((bZ cpos (aB (e::es) X.env)).all (λx=>!x.1) && (gh cpos (eo [] X.env)).all (λx=>x.1.isSome)
   && decide ((e::es).length+([]:List ie).length+(if ([]:List ie).isEmpty then 0 else 1)<30))=true:=by rfl)
  (a:(apos.endLine == cpos.line)=true:=by rfl) (B:aB (e::es) X.env=(aw,cg e X.env)::aB es X.env:=by rfl) (c:(bZ cpos (aB es X.env)).any (·.1)=false:=by rfl) :
  PE X (.Call (.Attribute o name apos) (e::es) [] cpos) (tBM X.K T r to t):=by
 intro O s Z H Q I h
 refine wpAny_Call_method_late b f a rfl (thn (P O s Z H _ I h) ?_)
 rintro v s1 ⟨x,H1,I1,r1,ty,q1⟩
 obtain⟨U,R⟩:=Ka I1 r1 ty
 refine⟨T,id,g,slot,i,U,R,?_⟩
 have m:=ha cpos O s1 Z H1 _ I1 q1
 rw[B] at m ⊢
 refine Calls.callWith_builtin (by show (aw || (bZ cpos (aB es X.env)).any (·.1))=aw;rw[c]<;>rfl) (iA ?_)
 exact thn m (by rintro us s2 ⟨vs,H2,I2,r2,q2⟩;exact hm O s2 Z H2 x vs v us Q I2 r1 r2 q2)
end
def MtM(X:Cx)(id:String)(r:V->List V->Hp->VK->Prop):Prop :=
 ∀ (ge:List (ah×dE)) (s:aq) (σ:St) (H:Hp) (x:V) (xs:List V) (v:af) (us:List af) (Q:VK),Inv X ge σ H s->Zp x v->Zi xs us->r x xs H Q ->
  aG (aI X.prog X.w) X.A (call (.builtin id) (v::us)) (EP X ge σ Q) X.xe s
theorem Zi.one:∀ {x:V} {us:List af},Zi [x] us->∃ u,us=[u]/\Zp x u
 | _,_,.cons r .nil=>⟨_,rfl,r⟩
theorem Zi.rep{xs:List V}{us:List af}(h:Zi xs us):∀ k:Nat,Zi (aU k xs).flatten (aU k us).flatten
 | 0=>.nil
 | k+1=>by
  rw[eQ,eQ,g5,g5]
  exact Zi.append h (Zi.rep h k)
theorem PP(its:List af):∀ (k:Nat) (f:List af),
  i_ (λo b=>o++b) f.toArray (aU k its.toArray)=(f++(aU k its).flatten).toArray
 | 0,f=>by simp
 | k+1,f=>by
  have e:f.toArray++its.toArray=(f++its).toArray:=by simp
  have M:(f++its)++(aU k its).flatten=f++(aU (k+1) its).flatten:=by
   rw[eQ,g5,ck]
  rw[<- M,<- PP its k (f++its),<- e,eQ,List.foldl_cons]
variable{l:ah}{its:List af}
theorem Inv.lset{its':List af}{f:Array af->Array af}(I:Inv X ge σ H s)(c:H l=aa (.lst xs))
  (e:s.heap.get? l=aa { cls:=.type "list",data:=.seq its.toArray n }) (F:f its.toArray=its'.toArray) (S:Zi ys its') (C:ys.length<=sizeLine) :
  Inv X ge σ (upd H l (.lst ys)) { s with heap:=s.heap.update l (dE.mapSeq f),toks:=t' }:=by
 have q:=PySem.IsL.update e f
 rw[F] at q
 refine I.write (x:=l) (e:=l) (by rw[c];exact trivial) (.inl rfl) (λg u G j=>(cn s.heap (dE.mapSeq f) (bY G)).trans j) ⟨_,q⟩ ?_
 exact⟨C,its',_,S,q⟩
theorem Inv.lnew(I:Inv X ge σ H s)(S:Zi ys its)(C:ys.length<=sizeLine) :
  Inv X ge σ (upd H s.heap.objs.size (.lst ys)) { s with heap:=s.heap.push { cls:=.type "list",data:=.seq its.toArray },toks:=t' } :=
 I.laid (λ_ _ q=>ai _ q) (ar _) ⟨C,its,0,S,aN _ rfl⟩
theorem Inv.fresh(I:Inv X ge σ H s):H s.heap.objs.size=none:=I.hok.fresh (ar _)
theorem Inv.lstM(I:Inv X ge σ H s)(c:H l=aa (.lst xs)):xs.length<=sizeLine/\∃ (its:List af) (n:Nat),Zi xs its/\xs.length=its.length/\s.heap.get? l=aa { cls:=.type "list",data:=.seq its.toArray n }:=by
 obtain⟨z,its,n,r,e⟩:=I.hok l _ c
 exact⟨z,its,n,r,r.length,e⟩
theorem Ke(h:n<=sizeLine):d4 n=false:=by
 unfold d4
 exact decide_eq_false (by omega)
def Tr:V->List V->Hp->VK->Prop:=λx vs H Q=>∃ l xs y,x=.ref l/\vs=[y]/\H l=aa (.lst xs)/\xs.length<sizeLine/\Q .non (upd H l (.lst (xs++[y])))
theorem Vy:MtM X "list.append" Tr:=by
 intro O s Z H x vs v us Q I N m h
 obtain⟨l,xs,y,rfl,rfl,c,C,q⟩:=h
 cases N
 obtain⟨u,rfl,R⟩:=m.one
 obtain⟨z,its,n,r,L,e⟩:=I.lstM c
 refine fy ci ⟨_,e,rfl⟩ F.entry_list_append (F.args_list_append_2 _ _) (PySem.list_append l its.toArray n u (by rw[bn];omega)) ⟨e,?_⟩
 refine⟨.non,_,I.lset (its':=its++[u]) c e (by simp) (r.append (.cons R .nil)) ?_,rfl,q⟩
 rw[aO,fg]
 omega
def rRep:R2:=λx y H Q=>∃ l k xs,x=.ref l/\y=.int k/\H l=aa (.lst xs)/\-(2 ^ 63)<=k/\k<2 ^ 63/\xs.length*k.toNat<=sizeLine /\
 ∀ p,H p=none->Q (.ref p) (upd H p (.lst (aU k.toNat xs).flatten))
theorem Kf(xs:List α)(k:Nat):(aU k xs).flatten.length=k*xs.length:=by
 induction k with
 | zero=>simp
 | succ k B=>rw[eQ,g5,aO,B,Nat.succ_mul,Nat.add_comm]
theorem Kg:OpR X (cr .Mult) rRep:=by
 intro O s Z H x y v u Q I N p h
 obtain⟨l,k,xs,rfl,rfl,c,A,R,C,q⟩:=h
 cases N
 obtain⟨t,rfl⟩:=p
 obtain⟨z,its,n,r,L,e⟩:=I.lstM c
 have i:its.toArray.size*k.toNat<=sizeLine:=by rw[bn,<- L];exact C
 have E:¬ its.toArray.size*k.toNat > (2 ^ 63-1) / 8:=by
  have:(sizeLine:Nat)<=(2 ^ 63-1) / 8:=by decide
  omega
 have g:¬ (!Builtin.List.listFitsIndex k)=true:=by
  rw[fitsIndex_both A R]
  exact ap
 have f:¬ d4 (its.toArray.size*k.toNat)=true:=by
  rw[Ke i]
  exact ap
 have w:i_ (λo b=>o++b) #[] (aU (if its.toArray.isEmpty=ac then 0 else k.toNat) its.toArray)=(aU k.toNat its).flatten.toArray:=by
  have B:∀ m:Nat,i_ (λo b=>o++b) #[] (aU m its.toArray)=(aU m its).flatten.toArray:=λm=>by
   have:=PP its m []
   rw[gJ] at this
   exact this
  rw[B]
  cases its with
  | nil=>simp
  | cons a S=>rw[if_neg (by simp)]
 refine wpAny_binaryOp_repeat_ref (T := "list") (U := "int") (by decide) ⟨_,e,rfl⟩ (λj=>jQ j k t) noFill_list_mul F.fills_int_mul j_ repeat_list F.slot_int_index.lookup
  (fy j_ (jQ s k t) F.entry_int_rmul (F.args_int_rmul_2 _ _) (int___rmul___int_list k t l its.toArray n)
   ⟨e,rfl,⟨_,e,rfl⟩,fy F.slot_list_mul ⟨_,e,rfl⟩ F.entry_list_mul (F.args_list_mul_2 _ _) (AutoListH.list___mul___list_int_3 l its.toArray n k t g E f) ⟨e,?_⟩⟩)
 rw[w]
 exact⟨.ref _,_,I.lnew (t':=s.toks) (r.rep k.toNat) (by rw[Kf,Nat.mul_comm];exact C),rfl,q _ I.fresh⟩
theorem PQ:∀ {vs:List af} {ns:List Int},ii vs ns->Zi (ns.map V.int) vs
 | _,_,.nil=>.nil
 | _,_,.cons n t h=>.cons ⟨t,rfl⟩ (PQ h)
noncomputable def Z2(s:er):Arguments:=match s with
 | .FunctionDef _ a _ _ _ _ _ _ _ _=>a
 | _=>{ posonlyargs:=[],args:=[],vararg:=none,kwonlyargs:=[],kw_defaults:=[],kwarg:=none,defaults:=[] }
noncomputable def Zy(s:er):List Stmt:=match s with
 | .FunctionDef _ _ b _ _ _ _ _ _ _=>b
 | _=>[]
noncomputable def Zb(s:er):Scope:=match s with
 | .FunctionDef _ _ _ _ _ _ sc _ _ _=>sc
 | _=>{ kind:=.function,names:=[],isGenerator:=aw,isCoroutine:=aw }
abbrev E0:XK:=λ_ _ _=>False
theorem small1000(h:n<=1000):n<sizeLine:=jp h (by decide)
theorem pv(i:Nat)(hN:X.N[i]?=aa x:=by rfl)(S:Vis X.env.scope x:=by first|exact aK rfl|exact eG (aK rfl)|exact eG (eG rfl))(hd:(x == ("__debug__" : au))=false:=by decide)
  (y:(x == ("__classdict__" : au))=false:=by decide):PE X (.Name x pos) (Zj i):=SZ hN S hd y
variable{B:Prop}
theorem Y4{A:Prop}(h:B):if aw=ac then A else B:=by
 rw[if_neg ap]
 exact h
theorem Xc{A:Prop}(h:A):if ac=ac then A else B:=by
 rw[if_pos rfl]
 exact h
theorem ite2{c A:Prop}[Decidable c](h1:c->A)(h2:¬ c->B):if c then A else B:=by
 by_cases h:c
 ·rw[if_pos h]
  exact h1 h
 ·rw[if_neg h]
  exact h2 h
def Zg(H H':Hp):Prop:=∀ b o,H b=aa o->H' b=aa o
theorem Zg.refl(H:Hp):Zg H H:=λ_ _ h=>h
theorem Zg.trans{H2:Hp}(a:Zg H H1)(b:Zg H1 H2):Zg H H2:=λc o h=>b c o (a c o h)
theorem Zg.free(e:Zg H H')(h:H' l=Option.none):H l=Option.none:=by
 cases q:H l with
 | none=>rfl
 | some o =>
  rw[e l o q] at h
  cases h
theorem Zg.seq(e:Zg H H')(h:SqL K H a xs):SqL K H' a xs:=by
 rcases h with (h|⟨o,h⟩)|h
 ·exact .inl (.inl (e _ _ h))
 ·exact .inl (.inr ⟨o,e _ _ h⟩)
 ·exact .inr h
variable{kvs:List (List Key×V)}
section
variable [DecidableEq κ]
def Xw(kvs:List (κ×V))(k:κ):Option V:=(kvs.find? λkv=>decide (kv.1=k)).map (·.2)
theorem Rg{p:κ×V}{r:List (κ×V)}{k:κ}(e:p.1=k):Xw (p::r) k=aa p.2:=by simp[Xw,d9,e]
theorem Rh{p:κ×V}{r:List (κ×V)}{k:κ}(e:¬ p.1=k):Xw (p::r) k=Xw r k:=by simp[Xw,d9,e]
theorem YA.isSome_eq{u:Option af}(r:YA o u):o.isSome=u.isSome:=by
 cases o with
 | none=>cases u with
  | none=>rfl
  | some _=>exact (show False from r).elim
 | some _=>cases u with
  | none=>exact (show False from r).elim
  | some _=>rfl
theorem KV.val{kvs:List (κ×V)}{vs:List (κ×af)}(r:KV kvs vs)(k:κ):YA (Xw kvs k) (gU vs k):=by
 unfold KV at r
 induction r with
 | nil=>exact bW
 | @cons p q ps c h t B =>
  obtain⟨U,R⟩:=h
  by_cases e:p.1=k
  ·have N:q.1=k:=U.symm.trans e
   have b:gU (q::c) k=aa q.2:=by simp[gU,d9,N]
   rw[Rg e,b];exact R
  ·have N:¬ q.1=k:=λz=>e (U.trans z)
   have b:gU (q::c) k=gU c k:=by simp[gU,d9,N]
   rw[Rh e,b];exact B
end
theorem W1{k:Key}(r:Zp (kV k) u):(Yq P w).is k u=true:=by
 cases k with
 | inl i=>obtain⟨t,e⟩:=(show ∃ t,u=eO i t from r);subst e;exact M7 P w i t
 | inr x=>obtain⟨t,e⟩:=(show ∃ t,u=eN x t from r);subst e;exact M8 P w x t
theorem PR{P:bg}{w:bK}:∀ {ks:List Key} {us:List af},Zi (ks.map kV) us->ItemsAre (Yq P w) ks us
 | [],_,r=>by rw[eL] at r;cases r;exact .nil
 | k::ks,_,r=>by
  rw[bp] at r
  cases r with
  | cons h t=>exact .cons (W1 h) (PR t)
abbrev KT(H:Hp):List (List Key×V)->List (List Key×ah×af)->Prop:=hJ λp q=>p.1=q.1/\H q.2.1=aa (.tup (p.1.map kV))/\Zp p.2 q.2.2
theorem KT.val{xs:List (List Key×ah×af)}(r:KT H kvs xs)(k:List Key):YA (Xw kvs k) ((fE xs k).map (·.2)):=by
 induction r with
 | nil=>exact bW
 | @cons p q ps c h t B =>
  obtain⟨U,_,R⟩:=h
  by_cases e:p.1=k
  ·have N:q.1=k:=U.symm.trans e
   have b:fE (q::c) k=aa q.2:=by simp[fE,d9,N]
   rw[Rg e,b];exact R
  ·have N:¬ q.1=k:=λz=>e (U.trans z)
   have b:fE (q::c) k=fE c k:=by simp[fE,d9,N]
   rw[Rh e,b];exact B
variable{ks:List ((Key×List Key)×V)}
theorem Ri{u:HO}(ok:HOk P w H h)(e:Rd H a u):ZO P w H h a u:=e.ok ok
theorem W2{kvs:List (Key×V)}(ok:HOk P w H h)(e:Rd H a (.dK kvs)):kvs.length<=sizeLine/\(a == eM)=aw/\∃ vs,KV kvs vs/\h.DictOf (Yq P w) a vs :=
 show ZO P w H h a (.dK kvs) from Ri ok e
theorem W3{ks:List Key}(ok:HOk P w H h)(e:H a=aa (.tup (ks.map kV))):(gq (Yq P w)).is h ks a:=by
 obtain⟨_,its,r,o,U,R,⟨n,S⟩,_⟩:=(show ZO P w H h a (.tup (ks.map kV)) from ok a _ e)
 exact⟨o,its.toArray,n,U,R,S,by simpa using PR r⟩
theorem W4(ok:HOk P w H h)(e:Rd H a (.dT kvs)):kvs.length<=sizeLine/\(a == eM)=aw /\
  ∃ xs,KT H kvs xs/\h.DictOfH (gq (Yq P w)) a xs:=by
 obtain⟨z,y,xs,r,o,es,E,U,R,S,F,Y⟩:=(show ZO P w H h a (.dT kvs) from Ri ok e)
 refine⟨z,y,xs,r,o,es,E,U,R,S,F,λx W=>?_,Y⟩
 have all:∀ {l:List (List Key×V)} {m:List (List Key×ah×af)},KT H l m->∀ x∈m,(gq (Yq P w)).is h x.1 x.2.1:=by
  intro l m q
  induction q with
  | nil=>intro x W;exact nomatch W
  | @cons p q ps c g t B =>
   intro x W
   rcases eR.mp W with e|W
   ·subst e
    exact W3 ok (by rw[<- g.1];exact g.2.1)
   ·exact B x W
 exact all r x W
def Vz(H:Hp)(a:ah)(y:V)(r:Option V):Prop :=
 (∃ kvs k,Rd H a (.dK kvs)/\y=kV k/\r=Xw kvs k)\/∃ kvs k b,Rd H a (.dT kvs)/\y=.ref b/\H b=aa (.tup (k.map kV))/\r=Xw kvs k
theorem Kk(j:A.units+1<cK)(I:Inv X ge σ H s)(g:Vz H a y (aa v))(m:Zp y u)(h:∀ K s',Inv X ge σ H s'->Zp v K->Q K s') :
  aG (aI X.prog X.w) A (gV (.ref a) u) Q E s:=by
 rcases g with⟨G,k,e,c,l⟩|⟨G,k,b,e,c,T,l⟩
 ·subst c
  obtain⟨z,hd,vs,rel,dd⟩:=W2 I.hok e
  obtain⟨K,N,J⟩:=YA.some_of (v:=v) (o:=gU vs k) (by rw[l];exact rel.val k)
  exact wpAny_getItem_of (W1 m) dd.mapOf N (h K _ (I.tok _) J)
 ·subst c
  cases (show u=aD b from m)
  obtain⟨z,hd,xs,rel,dd⟩:=W4 I.hok e
  obtain⟨K,N,J⟩:=YA.some_of (v:=v) (o:=(fE xs k).map (·.2)) (by rw[l];exact rel.val k)
  obtain⟨p,O,f⟩:=Option.map_eq_some_iff.mp N
  refine jO (dD j) (W3 I.hok T) dd O ?_
  rw[f]
  exact h K _ (I.tok _) J
theorem d_in(j:A.units+1<cK)(I:Inv X ge σ H s)(g:Vz H a y o)(m:Zp y u)(h:∀ s',Inv X ge σ H s'->Q (.bool o.isSome) s') :
  aG (aI X.prog X.w) A (bx .In u (.ref a)) Q E s:=by
 rcases g with⟨G,k,e,c,l⟩|⟨G,k,b,e,c,T,l⟩
 ·subst c
  obtain⟨z,hd,vs,rel,dd⟩:=W2 I.hok e
  refine wpAny_in_of (W1 m) hd dd.mapOf ?_
  rw[<- (rel.val k).isSome_eq,<- l]
  exact h _ (I.tok _)
 ·subst c
  cases (show u=aD b from m)
  obtain⟨z,hd,xs,rel,dd⟩:=W4 I.hok e
  refine gA (dD j) (W3 I.hok T) hd dd ?_
  have q:=(rel.val k).isSome_eq
  rw[eB] at q
  rw[<- q,<- l]
  exact h _ (I.tok _)
theorem Kl(j:A.units+1<cK)(I:Inv X ge σ H s)(g:Vz H a y o)(m:Zp y u)(h:∀ s',Inv X ge σ H s'->Q (.bool (!o.isSome)) s') :
  aG (aI X.prog X.w) A (bx .NotIn u (.ref a)) Q E s:=by
 rcases g with⟨G,k,e,c,l⟩|⟨G,k,b,e,c,T,l⟩
 ·subst c
  obtain⟨z,hd,vs,rel,dd⟩:=W2 I.hok e
  refine wpAny_notIn_of (W1 m) hd dd.mapOf ?_
  rw[<- (rel.val k).isSome_eq,<- l]
  exact h _ (I.tok _)
 ·subst c
  cases (show u=aD b from m)
  obtain⟨z,hd,xs,rel,dd⟩:=W4 I.hok e
  refine fr (dD j) (W3 I.hok T) hd dd ?_
  have q:=(rel.val k).isSome_eq
  rw[eB] at q
  rw[<- q,<- l]
  exact h _ (I.tok _)
theorem Km(I:Inv X ge σ H s)(g:Vz H a y o):s.TypeIs (.ref a) "dict" := by
 rcases g with⟨G,k,e,_,_⟩|⟨G,k,b,e,_,_,_⟩
 ·obtain⟨_,_,vs,_,dd⟩:=W2 I.hok e
  exact dd.typeIs
 ·obtain⟨_,_,xs,_,dd⟩:=W4 I.hok e
  exact dd.typeIs
theorem Ts:∀ (names:List (au×dR)) (n:Nat) (f:List (au×ah)),
  (∀ x y c,f.lookup x=aa c->f.lookup y=aa c->x=y)->(∀ x c,f.lookup x=aa c->c<n) ->
  ∀ x y c,(bC n names f).lookup x=aa c->(bC n names f).lookup y=aa c->x=y
 | [],_,_,h,_=>h
 | (z,k)::r,n,f,h,hb=>by
  unfold bC
  split
  ·refine Ts r (n+1) ((z,n)::f) ?_ ?_
   ·intro x y c W B
    rw[bN] at W B
    cases ex:x == z with
    | true =>
     rw[ex] at W
     have T:n=c:=bh W
     cases ey:y == z with
     | true=>rw[beq_iff_eq.mp ex,beq_iff_eq.mp ey]
     | false =>
      rw[ey] at B
      have:=hb y c B
      rw[<- T] at this
      exact absurd this (bX _)
    | false =>
     rw[ex] at W
     cases ey:y == z with
     | true =>
      rw[ey] at B
      have T:n=c:=bh B
      have:=hb x c W
      rw[<- T] at this
      exact absurd this (bX _)
     | false =>
      rw[ey] at B
      exact h x y c W B
   ·intro x c W
    rw[bN] at W
    cases ex:x == z with
    | true =>
     rw[ex] at W
     have T:n=c:=bh W
     rw[<- T]
     exact b_ n
    | false =>
     rw[ex] at W
     exact bM (hb x c W)
  ·exact Ts r n f h hb
theorem Tt(x:au)(lo:Nat):∀ (names:List (au×dR)) (n:Nat) (f:List (au×ah)),lo<=n ->
  ((x,cQ)∈names\/∀ c,f.lookup x=aa c->lo<=c)->∀ c,(bC n names f).lookup x=aa c->lo<=c
 | [],_,_,_,h=>h.elim (λz=>nomatch z) id
 | (z,k)::r,n,f,hl,h=>by
  unfold bC
  split
  ·refine Tt x lo r (n+1) ((z,n)::f) (by omega) ?_
   by_cases b:x=z
   ·refine .inr λc Y=>?_
    rw[bN,b,beq_self_eq_true] at Y
    have:n=c:=bh Y
    omega
   ·rcases h with h|h
    ·rcases eR.mp h with e|h
     ·exact absurd (fb e).1 b
     ·exact .inl h
    ·refine .inr λc Y=>h c ?_
     rw[bN,beq_false_of_ne b] at Y
     exact Y
  ·rename_i hk
   refine Tt x lo r n f hl ?_
   rcases h with h|h
   ·rcases eR.mp h with e|h
    ·rw[<- (fb e).2] at hk
     exact absurd rfl hk
    ·exact .inl h
   ·exact .inr h
theorem Tu{x:au}:∀ (names:List (au×dR)) (n:Nat) (f:List (au×ah)),(∀ y∈names,y.1=x->y.2≠.cell)->(bC n names f).lookup x=f.lookup x
 | [],_,_,_=>rfl
 | (z,k)::r,n,f,h=>by
  unfold bC
  split
  ·rename_i hk
   rw[Tu r (n+1) ((z,n)::f) λy B=>h y (b9 _ B),bN]
   have:x≠z:=λe=>h (z,k) fc e.symm (by simpa using hk)
   rw[beq_false_of_ne this]
  ·exact Tu r n f λy B=>h y (b9 _ B)
theorem TB(x:au):∀ (names:List (au×dR)) (n:Nat) (f:List (au×ah)) (c:ah),(bC n names f).lookup x=aa c->n<=c\/f.lookup x=aa c
 | [],_,_,_,h=>.inr h
 | (z,k)::r,n,f,c,h=>by
  unfold bC at h
  split at h
  ·rcases TB x r (n+1) ((z,n)::f) c h with q|q
   ·exact .inl (by omega)
   ·rw[bN] at q
    cases ex:x == z with
    | true=>rw[ex] at q;have:n=c:=bh q;exact .inl (by omega)
    | false=>rw[ex] at q;exact .inr q
  ·exact TB x r n f c h
theorem TC:∀ (names:List (au×dR)) (h:bG) (f:List (au×ah)),(∀ x c,f.lookup x=aa c->∃ v,h.IsCell c v) ->
  ∀ x c,(bC h.objs.size names f).lookup x=aa c->∃ v,(cI h names).IsCell c v
 | [],_,_,h=>h
 | (z,k)::r,h,f,ha=>by
  unfold bC cI
  split
  ·have:=TC r (h.push { cls:=.type "cell",data:=.cell none }) ((z,h.objs.size)::f) (λx c W=>by
    rw[bN] at W
    cases ex:x == z with
    | true =>
     rw[ex] at W
     cases W
     exact⟨none,_,aN _ rfl,rfl⟩
    | false =>
     rw[ex] at W
     obtain⟨v,q⟩:=ha x c W
     exact⟨v,q.keeps λb o e=>ai _ e⟩)
   rwa [cu] at this
  ·exact TC r h f ha
variable{Q:VK}
theorem Kn{globals:ah}{cl:List (au×ah)}{Q:eF->aq->Prop}
  (c:Q (newEnv scope s.heap.objs.size globals (bC (s.heap.objs.size+1) scope.names cl) qual none .none (aa env) fA)
   { s with heap:=cI (s.heap.push { cls:=.type "dict",data:=.dict #[] }) scope.names }) :
  aG M A (gg scope globals cl [] qual none .none (aa env)) Q E s:=by
 simp only[gg,iN,if_true]
 refine ae (jz ?_)
 refine ae (wpAny_layCells _ (λname kind cells=>by cases hkc:kind == cQ<;>simp[hkc]) _ _ _ _ ?_)
 rw[show ({ s with heap:=s.heap.push { cls:=.type "dict",data:=.dict #[] } }:aq).heap.objs.size=s.heap.objs.size+1 from cu ..]
 rw[forIn_nil]
 exact ae (am (am c))
theorem Rj{env:eF}:∀ (l:List (au×dR)) (f:List (au×ah)),(∀ y∈l,y.2=.free->∃ c,env.cells.lookup y.1=aa c) ->
  (∀ x c,f.lookup x=aa c->env.cells.lookup x=aa c) ->
  ∃ cl,(kb l f λ(x:au×dR) r=>if (x.2 == .free)=ac then (do let a <- cellOf env x.1;dZ (dk ((x.1,a)::r))) else dZ (dk r):Sem (List (au×ah)))=dZ cl /\
   (∀ x c,cl.lookup x=aa c->env.cells.lookup x=aa c)/\(∀ x,((∃ c,f.lookup x=aa c)\/(x,cD)∈l)->∃ c,cl.lookup x=aa c)
 | [],f,_,ha=>⟨f,by rw[forIn_nil],ha,λx W=>W.elim id λz=>nomatch z⟩
 | (z,k)::r,f,hl,ha=>by
  by_cases N:k=.free
  ·subst N
   obtain⟨c,Y⟩:=hl (z,.free) fc rfl
   obtain⟨cl,U,R,S⟩:=Rj r ((z,c)::f) (λy B=>hl y (b9 _ B)) (λx J W=>by
    rw[bN] at W
    cases ex:x == z with
    | true=>rw[ex] at W;cases W;rw[beq_iff_eq.mp ex];exact Y
    | false=>rw[ex] at W;exact ha x J W)
   refine⟨cl,?_,R,λx W=>S x ?_⟩
   ·rw[gO]
    have e:cellOf env z=dZ c:=by unfold cellOf;rw[show env.cells.lookup z=aa c from Y]
    simp only[beq_self_eq_true,if_true,e]
    exact U
   ·rcases W with⟨J,W⟩|W
    ·refine .inl ?_
     rw[bN]
     cases ex:x == z with
     | true=>exact⟨c,rfl⟩
     | false=>exact⟨J,W⟩
    ·rcases eR.mp W with e|W
     ·refine .inl ⟨c,?_⟩
      rw[(fb e).1,bN,beq_self_eq_true]
     ·exact .inr W
  ·obtain⟨cl,U,R,S⟩:=Rj r f (λy B=>hl y (b9 _ B)) ha
   refine⟨cl,?_,R,λx W=>S x ?_⟩
   ·rw[gO]
    have e:(k == cD)=false:=by simpa using N
    simp only[e,bF,if_false]
    exact U
   ·rcases W with W|W
    ·exact .inl W
    ·rcases eR.mp W with e|W
     ·exact absurd (fb e).2.symm N
     ·exact .inr W
theorem PU(h:∀ y∈scope.names,y.2=.free->∃ c,env.cells.lookup y.1=aa c) :
  ∃ cl,closureFor scope env=dZ cl/\(∀ x c,cl.lookup x=aa c->env.cells.lookup x=aa c)/\(∀ x,(x,cD)∈scope.names->∃ c,cl.lookup x=aa c):=by
 obtain⟨cl,U,R,S⟩:=Rj scope.names [] h (λx c e=>by simp at e)
 refine⟨cl,?_,R,λx W=>S x (.inr W)⟩
 unfold closureFor
 simp only[bind_pure]
 exact U
def TD(scope sc:dG):Scope :=
 { scope with names:=scope.names.map λ(n,k)=>if (k == .free && sc.kind == .function && sc.names.lookup n == aa .cell) then (n,.cell) else (n,k) }
theorem PV(scope:dG)(env:eF):je scope env=TD scope env.scope:=rfl
theorem PY{α β:Type}(g:au->α->β)(x:au):∀ l:List (au×α),(l.map λ(n,k)=>(n,g n k)).lookup x=(l.lookup x).map (g x)
 | []=>rfl
 | (n,k)::r=>by
  rw[bp,bN,bN]
  cases e:x == n with
  | true=>rw[beq_iff_eq.mp e];rfl
  | false=>exact PY g x r
theorem PZ(scope sc:dG)(x:au):(TD scope sc).names.lookup x=(scope.names.lookup x).map λk=>if (k == .free && sc.kind == .function && sc.names.lookup x == aa .cell) then cQ else k:=by
 have e:(TD scope sc).names=scope.names.map λ(n,k)=>(n,if (k == .free && sc.kind == .function && sc.names.lookup n == aa .cell) then cQ else k):=by
  unfold TD
  refine List.map_congr_left λy _=>?_
  obtain⟨n,k⟩:=y
  show (if _ then _ else _)=(n,if _ then _ else _)
  split<;>rfl
 rw[e]
 exact PY (λn k=>if (k == .free && sc.kind == .function && sc.names.lookup n == aa .cell) then cQ else k) x scope.names
noncomputable def Xx(N0:List au)(sc0 scope:dG):List au->List (Option Nat)->Bool
 | [],[]=>ac
 | x::N,none::c=>Xx N0 sc0 scope N c
 | x::N,aa j::c=>(N0[j]? == aa x) && (sc0.names.lookup x == aa .cell || sc0.names.lookup x == aa .free) && (scope.names.lookup x == aa .free) && (scope.names.all λy=>y.1 != x || y.2 != .cell) && Xx N0 sc0 scope N c
 | _,_=>aw
def Uk(N0:List au)(sc0 scope:dG)(N:List au)(cap:List (Option Nat)):Bool :=
 (scope.kind == .function) && (scope.names.all λy=>y.2 != .local || scope.names.lookup y.1 == aa .local) && (scope.names.all λy=>y.2 != .free || (sc0.names.lookup y.1 == aa .cell || sc0.names.lookup y.1 == aa .free)) &&
 (scope.names.all λy=>y.2 != .cell || scope.names.lookup y.1 == aa .cell) && Xx N0 sc0 scope N cap
noncomputable def Xd(cap:List (Option Nat))(σ:St):St:=cap.map λo=>match o with
 | none=>none
 | some j=>(σ[j]?).join
theorem Rk{N0:List au}{sc0 scope:dG}:∀ {N:List au} {cap:List (Option Nat)},Xx N0 sc0 scope N cap=ac->cap.length=N.length
 | [],[],_=>rfl
 | x::N,none::c,h=>by
  have:=Rk (N:=N) (cap:=c) h
  simp[this]
 | x::N,aa j::c,h=>by
  simp only[Xx,aJ] at h
  have:=Rk (N:=N) (cap:=c) h.2
  simp[this]
 | [],_::_,h=>by simp[Xx] at h
 | _::_,[],h=>by simp[Xx] at h
theorem Rl{N0:List au}{sc0 scope:dG}:∀ {N:List au} {cap:List (Option Nat)} {i j:Nat} {x:au},Xx N0 sc0 scope N cap=ac->N[i]?=aa x->cap[i]?=aa (aa j) ->
  N0[j]?=aa x/\(sc0.names.lookup x=aa .cell\/sc0.names.lookup x=aa .free)/\scope.names.lookup x=aa .free/\∀ y∈scope.names,y.1=x->y.2≠.cell
 | [],[],i,j,x,_,h,_=>by simp at h
 | y::N,none::c,0,j,x,_,_,h=>by simp at h
 | y::N,none::c,i+1,j,x,h,h1,h2=>Rl (N:=N) (cap:=c) (i:=i) h (by simpa using h1) (by simpa using h2)
 | y::N,aa j'::c,0,j,x,h,h1,h2=>by
  simp at h1 h2
  subst h1 h2
  simp only[Xx,aJ,gQ,beq_iff_eq,gp,bne_iff_ne] at h
  exact⟨h.1.1.1.1,h.1.1.1.2,h.1.1.2,λz C e=>(h.1.2 z C).elim (λq=>absurd e q) id⟩
 | y::N,aa j'::c,i+1,j,x,h,h1,h2=>by
  simp only[Xx,aJ] at h
  exact Rl (N:=N) (cap:=c) (i:=i) h.2 (by simpa using h1) (by simpa using h2)
 | [],_::_,_,_,_,h,_,_=>by simp[Xx] at h
 | _::_,[],_,_,_,h,_,_=>by simp[Xx] at h
def cxC(X:Cx)(scope:dG)(cl:List (au×ah))(N:List au)(s:aq)(H:Hp)(fp:List ah):Cx where
 prog:=X.prog
 w:=X.w
 K:=X.K
 mg:=X.mg
 base:=X.base
 A:=X.A
 N:=N
 s₀:=s
 H₀:=H
 env:=compEnvC scope (bC (s.heap.objs.size+1+1) scope.names cl) (s.heap.objs.size+1) X.env
 outer:=X.stack
 stack:=X.stack
 ex:=fp
 fn:=λx=>scope.names.lookup x == aa .cell
 calm:=X.calm
 pn:=[]
 xe:=λ_ _=>False
variable{sc0:dG}{N0:List au}
theorem Ko{cl:List (au×ah)}{cap:List (Option Nat)}
  (I:Inv X ge σ H s) (hf:∀ b∈fp,Xa X ge H b) (ho:∀ b∈fp,∃ o,s.heap.get? b=aa o/\∀ v,o.data≠.cell v)
  (hs0:X.env.scope=sc0) (hN:X.N=N0) (ok:Uk N0 sc0 scope N cap=ac)
  (F:∀ x c,cl.lookup x=aa c->X.env.cells.lookup x=aa c) (hfr:∀ x,(x,cD)∈scope.names->∃ c,cl.lookup x=aa c) :
  Inv (cxC X scope cl N s H fp) [] (Xd cap σ) (upd H s.heap.objs.size (.lst [])) { s with heap:=cI ((s.heap.push { cls:=.type "list",data:=.seq ([]:List af).toArray }).push { cls:=.type "dict",data:=.dict #[] }) scope.names }:=by
 simp only[Uk,aJ,beq_iff_eq] at ok
 obtain⟨⟨⟨⟨hk,P⟩,w⟩,t⟩,E⟩:=ok
 have T:(s.heap.push { cls:=.type "list",data:=.seq ([]:List af).toArray }).objs.size=s.heap.objs.size+1:=cu ..
 have M:((s.heap.push { cls:=.type "list",data:=.seq ([]:List af).toArray }).push { cls:=.type "dict",data:=.dict #[] }).objs.size=s.heap.objs.size+1+1:=by rw[cu,T]
 have k1:∀ b o,s.heap.get? b=aa o->(cI ((s.heap.push { cls:=.type "list",data:=.seq ([]:List af).toArray }).push { cls:=.type "dict",data:=.dict #[] }) scope.names).get? b=aa o :=
  λb o e=>dB _ _ b o (ai _ (ai _ e))
 have kD:(cI ((s.heap.push { cls:=.type "list",data:=.seq ([]:List af).toArray }).push { cls:=.type "dict",data:=.dict #[] }) scope.names).get? s.heap.objs.size=aa { cls:=.type "list",data:=.seq ([]:List af).toArray } :=
  dB _ _ _ _ (ai _ (aN _ rfl))
 have kC:(cI ((s.heap.push { cls:=.type "list",data:=.seq ([]:List af).toArray }).push { cls:=.type "dict",data:=.dict #[] }) scope.names).Ns (s.heap.objs.size+1) λ_=>none:=by
  have q:=(jK (s.heap.push { cls:=.type "list",data:=.seq ([]:List af).toArray }) (.type "dict")).keeps (dB scope.names _)
  rw[T] at q
  exact q
 have hD:H s.heap.objs.size=none:=I.hok.fresh (ar _)
 have n:∀ x c,cl.lookup x=aa c->c<s.heap.objs.size:=λx c e=>by
  obtain⟨v,q⟩:=I.cell x c (F x c e)
  exact q.lt
 have cells:∀ x c,(bC (s.heap.objs.size+1+1) scope.names cl).lookup x=aa c->s.heap.objs.size+1+1<=c\/cl.lookup x=aa c:=λx c e=>TB x _ _ _ c e
 have fpLt:∀ b∈fp,b<s.heap.objs.size:=λb G=>by
  obtain⟨o,e,_⟩:=ho b G
  exact aA e
 refine⟨⟨I.ok.mod,hk,I.ok.glob,I.ok.blt,cR _,?_,?_,?_,I.ok.hd,I.ok.frames,.inl rfl,?_,I.bs,aT I.ok.bsz I.sz,?_,?_,I.stack,I.stkFree⟩,
  rfl,I.bare,?_,?_,?_,?_,?_,λp O=>absurd (show p∈([]:List (ah×dE)) from O) (by simp),?_,?_⟩
 ·-- inj
  refine Ts scope.names _ cl (λx y c U R=>I.ok.inj x y c (F x c U) (F y c R)) λx c h=>?_
  exact bM (bM (n x c h))
 ·-- has
  intro x W
  have W:(je scope X.env).names.lookup x=aa .cell\/(je scope X.env).names.lookup x=aa .free:=W
  rw[PV,PZ] at W
  have:scope.names.lookup x=aa .cell\/scope.names.lookup x=aa .free:=by
   cases e:scope.names.lookup x with
   | none=>rw[e] at W;simp at W
   | some k =>
    rw[e] at W
    cases k<;>simp at W<;>simp
  refine Option.isSome_iff_exists.mp (cN scope.names _ cl ?_)
  rcases this with h|h
  ·exact .inl h
  ·exact .inr (Option.isSome_iff_exists.mpr (hfr x (bA h)))
 ·-- cab
  intro x c W Y
  have W:scope.names.lookup x=aa .cell:=by simpa [cxC] using W
  have:=Tt x (s.heap.objs.size+1+1) scope.names (s.heap.objs.size+1+1) cl (ar _) (.inl (bA W)) c Y
  exact aT (cR _) (aT (cR _) this)
 ·-- exf
  intro b G
  have hlt:=fpLt b G
  refine⟨aQ (bM hlt),λx c e=>?_⟩
  rcases cells x c e with q|q
  ·exact cq (aE (bM (bM hlt)) q)
  ·exact (hf b G).2.2.2.2.1 x c (F x c q)
 ·-- noex
  intro b o e G
  rcases (hf b G).2.2.2.1 with q|q
  ·exact I.ok.noex b o e q
  ·exact absurd (aE (aA (I.ok.bs b o e).1) q) (bX _)
 ·-- exfs
  intro b G z
  rcases eR.mp (I.stkSub b z) with q|q
  ·exact (hf b G).2.1 q
  ·exact (hf b G).2.2.1 q
 ·-- base
  exact Un.laid k1 (ar _) hD
 ·-- loc
  refine⟨_,kC,λi x v U R S=>?_⟩
  have R:(Xd cap σ)[i]?=aa (aa v):=R
  unfold Xd at R
  rw[c_] at R
  cases e:cap[i]? with
  | none=>rw[e] at R;cases R
  | some o =>
   rw[e] at R
   cases o with
   | none=>cases R
   | some j =>
    have R:aa ((σ[j]?).join)=aa (aa v):=R
    have R:(σ[j]?).join=aa v:=bh R
    obtain⟨A,q2,g,Q⟩:=Rl E U e
    have q5:σ[j]?=aa (aa v):=by
     cases es:σ[j]? with
     | none=>rw[es] at R;cases R
     | some K=>rw[es] at R;cases K with
      | none=>cases R
      | some w''=>have:aa w''=aa v:=R;rw[this]
    obtain⟨m,f,L⟩:=I.loc
    have a:X.env.kindOf x=aa .cell\/X.env.kindOf x=aa .free:=by
     show X.env.scope.names.lookup x=_\/X.env.scope.names.lookup x=_
     rw[hs0];exact q2
    obtain⟨u,r,l⟩:=L j x v (by rw[hN];exact A) q5 (a.elim (λz=>.inr (.inl z)) λz=>.inr (.inr z))
    refine⟨u,r,?_⟩
    rcases l with⟨z,_⟩|⟨_,c,T,z⟩
    ·rcases a with y|y<;>(rw[y] at z;cases z)
    ·obtain⟨J,Z⟩:=hfr x (bA g)
     have ec:J=c:=by
      have:=F x J Z
      rw[T] at this
      exact (bh this).symm
     subst ec
     refine .inr ⟨?_,J,?_,z.keeps k1⟩
     ·show (je scope X.env).names.lookup x=_\/(je scope X.env).names.lookup x=_
      rw[PV,PZ,g]
      by_cases C:(cD == cD && X.env.scope.kind == ScopeKind.function && X.env.scope.names.lookup x == aa cQ)=ac
      ·left;show aa (if _ then _ else _)=_;rw[if_pos C]
      ·right;show aa (if _ then _ else _)=_;rw[if_neg C]
     ·show (bC (s.heap.objs.size+1+1) scope.names cl).lookup x=aa J
      rw[Tu _ _ _ Q]
      exact Z
 ·-- cell
  intro x c e
  have e:(bC (s.heap.objs.size+1+1) scope.names cl).lookup x=aa c:=e
  rw[<- M] at e
  exact TC scope.names _ cl (λy d B=>by
   obtain⟨v,q⟩:=I.cell y d (F y d B)
   exact⟨v,q.keeps λb o z=>ai _ (ai _ z)⟩) x c e
 ·-- free
  show upd H s.heap.objs.size (.lst []) (s.heap.objs.size+1)=none
  rw[Zd (cq (b_ _))]
  exact I.hok.fresh (cR _)
 ·-- freeC
  intro x c e
  rcases cells x c e with q|q
  ·have q2:s.heap.objs.size<c:=aE (bM (b_ _)) q
   rw[Zd (cq q2)]
   exact I.hok.fresh (cc q2)
  ·have:=n x c q
   rw[Zd (aQ this)]
   exact I.freeC x c (F x c q)
 ·-- hok
  refine I.hok.laid k1 (ar _) ⟨d0 _,[],0,.nil,kD⟩
 ·show (Xd cap σ).length=N.length
  unfold Xd
  rw[aC,Rk E]
def TF(X:Cx)(ifs:List cz)(t:TT):Prop:=∀ (ge:List (ah×dE)) (s:aq) (σ:St) (H:Hp) (Q:Bool->Hp->Prop),Inv X ge σ H s->t σ H Q ->
 aG (aI X.prog X.w) X.A (kb ifs ac λc r=>if r=ac then do let ok <- isTrue c X.env (cg c X.env);dZ (dk ok) else dZ (dk r)) (TP X ge σ Q) X.xe s
def Rm:TT:=λ_ H Q=>Q ac H
theorem P0:TF X [] Rm:=λ_ _ _ H _ I h=>wpAny_tests_nil ⟨H,I,h⟩
def P1(J:It)(g:TG)(tt:TT)(te:TE)(D:ah)(σ:St)(H:Hp)(Qe:Hp->Prop):Prop :=
 ∃ W:Nat->Nat->St->Hp->Prop,(∃ m,W 0 m σ H)/\∀ i m σ H,W i m σ H ->
  (J.stop i H/\Qe H)\/(J.go i H/\∃ N:St->Hp->Prop,(∀ σ' H',N σ' H'->∃ m',m' < m/\W (i+1) m' σ' H') /\
   ∀ x H',J.yld i H x H'->g x σ H' λσ2 H2=>tt σ2 H2 λb H3=>if b=ac then te σ2 H3 λy H4=>∃ xs,H4 D=aa (.lst xs)/\xs.length<sizeLine/\N σ2 (upd H4 D (.lst (xs++[y]))) else N σ2 H3)
variable{elt:cz}{D:ah}{J:It}{tt:TT}{ifs:List cz}
theorem Kq{tn:Nat->bG->Prop}{g:TG}{Qe:Hp->Prop}
  (Y:X.calm=ac) (A:∀ e s,X.xe e s->False) (hg:PG X tg g) (ht:TF X ifs tt) (j:PE X elt te) (T:Turn X.prog X.w X.K tg J fp it tn)
  (Z:∀ H',(∀ b∈fp,H' b=none)->∀ b∈fp,Xa X [] H' b) (I:Inv X [] σ H s) (st:tn 0 s.heap) (S:∀ b∈fp,H b=none)
  (h:P1 J g tt te D σ H Qe) (hR:∀ σ' H' s',Inv X [] σ' H' s'->Qe H'->R (.ok .next) s') :
  eh (aI X.prog X.w) X.A (.compLoop (.ListComp elt [⟨tg,iter,ifs,0⟩] scope pos) 0 (.ref it) (.ref D) X.env) R s:=by
 obtain⟨W,⟨Q,q⟩,turn⟩:=h
 refine codeAny_loop rfl (λn s'=>∃ i σ' H',Inv X [] σ' H' s'/\tn i s'.heap/\(∀ b∈fp,H' b=none)/\W i n σ' H') (λn s3 hI=>?_) Q ⟨0,σ,H,I,st,S,q⟩
 obtain⟨i,w,M,U,l,fr3,w3⟩:=hI
 show aG _ X.A ((compTurn (.ListComp elt [⟨tg,iter,ifs,0⟩] scope pos) 0 (.ref it) (.ref D) X.env).onRaise (λx=>do noteFrame x X.env;theTreesLotGoes x)) _ _ s3
 refine wpAny_noted ?_
 rw[compTurn_list]
 refine ae (db (ae ?_))
 rcases turn i n w M w3 with⟨E,qn⟩|⟨go,N,hN,step⟩
 ·refine bi (T.done X rfl rfl rfl Y i [] s3 w M (λ_ _=>False) U (Z M fr3) l E) (λr L hr=>?_) (λ_ _ f=>f.elim)
  obtain⟨hr,I4⟩:=hr
  subst hr
  exact am (hR w M L I4 qn)
 ·refine bi (T.item X rfl rfl rfl Y i [] s3 w M (λ_ _=>False) U (Z M fr3) l go) (λr L hr=>?_) (λ_ _ f=>f.elim)
  obtain⟨u,hr,h4⟩:=hr
  subst hr
  refine ae (bi h4 (λ_ s5 h5=>?_) λ_ _ f=>f.elim)
  obtain⟨x,C,I5,r5,y5,a,fr5⟩:=h5
  have I5':=I5.pinned (Z C fr5) (T.obj _ _ a)
  refine ae (bi (hg _ s5 w C x u _ I5' r5 (step x C y5)) (λ_ s6 B=>?_) λe s f=>(A e s f).elim)
  obtain⟨v,H6,I6,q6⟩:=B
  refine ae (bi (ht _ s6 v H6 _ I6 q6) (λok P h7=>?_) λe s f=>(A e s f).elim)
  obtain⟨p,t,z⟩:=h7
  have k:∀ {P:aq} {c:St} {p:Hp},Inv X ([]++Ud fp s5.heap) c p P->N c p->∃ m,m<n/\∃ i σ' H',Inv X [] σ' H' P/\tn i P.heap/\(∀ b∈fp,H' b=none)/\W i m σ' H':=λ{P c p} t n7=>by
   obtain⟨m',K,w7⟩:=hN c p n7
   refine⟨m',K,i+1,c,p,t.unpinned,T.keep _ _ _ a λb G o e=>(t.pin (b,o) (bD _ (bD _ (Ti G e)))).1,λb G=>?_,w7⟩
   obtain⟨o,e,d⟩:=T.obj _ _ a b G
   exact (t.pin (b,o) (bD _ (bD _ (Ti G e)))).2.1
  cases ok with
  | false=>exact am ⟨rfl,k t z⟩
  | true =>
   refine ae (ae (bi (j _ P v p _ t z) (λy F h8=>ae ?_) λe s f=>(A e s f).elim))
   obtain⟨v8,H8,I8,r8,xs,O,hz,n8⟩:=h8
   refine bi (Vy (X:=X) _ F v H8 (.ref D) [v8] (.ref D) [y] (λ_ H9=>N v H9) I8 rfl (.cons r8 .nil) ⟨D,xs,v8,rfl,rfl,O,hz,n8⟩) (λ_ s9 h9=>?_) λe s f=>(A e s f).elim
   obtain⟨_,H9,I9,_,n9⟩:=h9
   exact am (am ⟨rfl,k I9 n9⟩)
theorem Kr{σ':St}{cl:List (au×ah)}(I:Inv X ge σ H s)(F:∀ b∈fp,Xa X ge H b)
  (J:Inv (cxC X scope cl N s H fp) pins' σ' H' s'):Inv X ge σ H' s' :=
 I.call' (ch:=fp) J.os J.base J.hok J.bare λb G=>⟨(F b G).2.2.2.1,(F b G).2.1,(F b G).2.2.2.2.1,(F b G).2.2.2.2.2⟩
def TH(cap:List (Option Nat))(wi:TI)(g:TG)(tt:TT)(te:TE):TE:=λσ H Q=>wi σ H λJ H1=>∀ D,H1 D=none->P1 J g tt te D (Xd cap σ) (upd H1 D (.lst [])) λH2=>Q (.ref D) H2
variable{Qv:VK}
theorem Ks{cap:List (Option Nat)}{g:TG}{u:Option (af->Sem Unit)}{Qv:af->aq->Prop}
      
  (Y:X.calm=ac) (a:X.env.scope=sc0) (hN:X.N=N0) (ok:Uk N0 sc0 scope N cap=ac) (hi:PI X tg iter wi)
  (M:∀ cl s H fp,PG (cxC X scope cl N s H fp) tg g) (ht:∀ cl s H fp,TF (cxC X scope cl N s H fp) ifs tt) (j:∀ cl s H fp,PE (cxC X scope cl N s H fp) elt te) (i:∀ x,gW iter X.env x=dZ x)
  (I:Inv X ge σ H s) (h:TH cap wi g tt te σ H Q)
  (hend:∀ (D C:ah) (m:au->Option af) (H':Hp) (s':aq),Inv X ge σ H' s'->s'.heap.Ns C m->H' C=none->C≠X.env.locals->X.s₀.heap.objs.size<=C->(∀ x c,X.env.cells.lookup x=aa c->c≠C)->(∀ p∈X.pn++ge,p.1≠C)->Q (.ref D) H' ->
   compPost (aI X.prog X.w) X.A X.xe u Qv (.ref D) C (.ok .next) s') :
  aG (aI X.prog X.w) X.A (comprehension (.ListComp elt [⟨tg,iter,ifs,0⟩] scope pos) scope X.env pos' (newList []) aw (cg iter X.env) u) Qv X.xe s:=by
 have ok':=ok
 simp only[Uk,aJ,beq_iff_eq,gp,gQ,bne_iff_ne] at ok'
 obtain⟨⟨⟨⟨hk,P⟩,w⟩,t⟩,E⟩:=ok'
 obtain⟨cl,hcl1,hcl2,hcl3⟩:=PU (scope:=scope) (env:=X.env) (λy B e=>I.ok.has y.1 (by
  show X.env.scope.names.lookup y.1=_\/X.env.scope.names.lookup y.1=_
  rw[a]
  rcases w y B with z|z
  ·exact absurd e z
  ·exact z))
 refine wpAny_comprehension_free rfl i hcl1 hk (λy B e=>by
  rcases P y B with z|z
  ·exact absurd e z
  ·exact z) (bi (hi ge s σ H _ I h) (λv s1 h1=>bi h1 (λitv s2 h2=>?_) λ_ _ e=>e) λ_ _ e=>e)
 obtain⟨it,fp,tn,J,H2,e,S,T,F,n,k⟩:=h2
 subst e
 refine dj (Kn ?_)
 have U:=Ko S n (T.obj _ _ F) a hN ok hcl2 hcl3
 have eC:(s2.heap.push { cls:=.type "list",data:=.seq ([]:List af).toArray }).objs.size=s2.heap.objs.size+1:=cu ..
 show eh _ _ (.compStart (.ListComp elt [⟨tg,iter,ifs,0⟩] scope pos) 0 (.ref it) (.ref s2.heap.objs.size)
  (compEnvC scope (bC ((s2.heap.push { cls:=.type "list",data:=.seq ([]:List af).toArray }).objs.size+1) scope.names cl) ((s2.heap.push { cls:=.type "list",data:=.seq ([]:List af).toArray }).objs.size) X.env))
  (compPost _ _ _ u Qv (.ref s2.heap.objs.size) ((s2.heap.push { cls:=.type "list",data:=.seq ([]:List af).toArray }).objs.size)) _
 rw[eC]
 have Z:∀ H',(∀ b∈fp,H' b=none)->∀ b∈fp,Xa (cxC X scope cl N s2 H2 fp) [] H' b:=λH' hn b G =>
  ⟨hn b G,(U.ok.exf b G).1,U.ok.exfs b G,.inl G,(U.ok.exf b G).2,λp O=>absurd (show p∈([]:List (ah×dE)) from O) (by simp)⟩
 have r:∀ b∈fp,b<s2.heap.objs.size:=λb G=>by
  obtain⟨o,e,_⟩:=T.obj _ _ F b G
  exact aA e
 have k1:∀ b o,s2.heap.get? b=aa o->(cI ((s2.heap.push { cls:=.type "list",data:=.seq ([]:List af).toArray }).push { cls:=.type "dict",data:=.dict #[] }) scope.names).get? b=aa o :=
  λb o e=>dB _ _ b o (ai _ (ai _ e))
 have l:=T.keep 0 s2.heap (cI ((s2.heap.push { cls:=.type "list",data:=.seq ([]:List af).toArray }).push { cls:=.type "dict",data:=.dict #[] }) scope.names) F λb _ o e=>k1 b o e
 have W:=Kq (X:=cxC X scope cl N s2 H2 fp) (iter:=iter) (scope:=scope) (pos:=pos) (it:=it) (D:=s2.heap.objs.size) (R:=compPost (aI X.prog X.w) X.A X.xe u Qv (.ref s2.heap.objs.size) (s2.heap.objs.size+1)) Y (λ_ _ f=>f) (M cl s2 H2 fp) (ht cl s2 H2 fp) (j cl s2 H2 fp) T Z U l
  (λb G=>by rw[Zd (aQ (r b G))];exact (n b G).1) (k _ (S.hok.fresh (ar _))) (λA H' s' L q=>by
   obtain⟨m,K,_⟩:=id L.loc
   refine hend _ _ m H' s' (Kr S n L) K L.free ?_ ?_ ?_ ?_ q
   ·exact cq (bM S.lt)
   ·exact Nat.le_succ_of_le S.sz
   ·intro x c e
    obtain⟨v,q⟩:=S.cell x c e
    exact aQ (bM q.lt)
   ·intro p O
    exact aQ (bM (aA (S.pin p O).1)))
 exact codeAny_compStart_list W (T.self X.A 0 _ _ _ l W)
theorem P2{cap:List (Option Nat)}{g:TG}
  (Y:X.calm=ac) (a:X.env.scope=sc0) (hN:X.N=N0) (ok:Uk N0 sc0 scope N cap=ac) (hi:PI X tg iter wi)
  (M:∀ cl s H fp,PG (cxC X scope cl N s H fp) tg g) (ht:∀ cl s H fp,TF (cxC X scope cl N s H fp) ifs tt) (j:∀ cl s H fp,PE (cxC X scope cl N s H fp) elt te) (i:∀ x,gW iter X.env x=dZ x:=by intro _;rfl) :
  PE X (.ListComp elt [⟨tg,iter,ifs,0⟩] scope pos) (TH cap wi g tt te):=by
 intro O s Z H Q I h
 rw[eval_ListComp]
 refine Ks Y a hN ok hi M ht j i I h λD C m H' l J K p n k f c q=>⟨m,K,λh' B=>?_⟩
 exact⟨.ref D,H',J.turned (t':=l.toks) (λb o G e=>(B.2 b G).trans e) p n (.inr k) f c,rfl,q⟩
structure FunD(K:ay)(x qual:au)(st:er)(dV:af)(f:ah)(fd:cS):Prop where
 ex:∃ (oc:af) (od:Option ah) (kV doc pm:af) (an:Option ah) (cdv ct:af) (osl:Array (Option af)),
  fd=aM x qual (Z2 st) (Zy st) (Zb st) dV kV doc pm an cdv ct/\K.lookup f=aa ⟨oc,od,.func fd,osl⟩/\aH K cdv qual=ac
 kp:az K (.ref f)=ac
theorem FunD.ok(F:FunD K x qual st dV f fd)(S:FnScope N ps (Zb st))(len:∀ vs H Q E,sp vs H Q E->vs.length=ps.length)
  (hbody:∀ (cdv:af) (A:bv) (outer:List eF) (s:aq) (H:Hp) (vs:List V) (Q:VK) (E:XK),Room k (A.deeper (bQ qual (Zb st) s.heap.objs.size f cdv))->sp vs H Q E ->
   ∃ t,PSs (ZJ CX P w K mg base N qual (Zb st) f cdv A outer s H E).nox (Zy st) t/\t { nx:=λ_ H'=>Q .non H',rt:=Q } (start N vs) H):FnOk P w K mg base CX (k+1) f fd ps sp:=by
 obtain⟨c,od,kV,I,pm,j,cdv,ct,g,rfl,M,y⟩:=F.ex
 refine S9 M y S len λA outer s H vs Q E J a=>?_
 obtain⟨t,h,q⟩:=hbody cdv A outer s H vs Q E J a
 exact⟨t,h.nox,q⟩
structure Cal(P:bg)(w:bK)(K:ay)(mg:au->Option af)(base:bG)(CX:CXT)(k:Nat)(x:au)(ps:List au)(dvs:List V)(sp:Sp):Prop where
 ex:∃ (f:ah) (fd:cS) (ds:List af),FnOk P w K mg base CX k f fd ps sp/\mg x=aa (.ref f)/\az K (.ref f)=ac/\Zq K fd ps ds/\Zi dvs ds
structure Tx(K:ay)(mg:au->Option af)(x:au)(st:er)(ps:List au)(dvss:List (List V)):Prop where
 ex:∃ (dV:af) (f:ah) (fd:cS),FunD K x x st dV f fd/\mg x=aa (.ref f)/\∀ dvs∈dvss,∃ ds,Zq K fd ps ds/\Zi dvs ds
theorem Cal.mono{P:bg}{w:bK}{K:ay}{mg:au->Option af}{base:bG}{CX:CXT}{j k:Nat}{x:au}{ps:List au}{dvs:List V}{sp:Sp}(c:Cal P w K mg base CX j x ps dvs sp)(h:j<=k):Cal P w K mg base CX k x ps dvs sp :=
 let ⟨f,a,ds,U,R⟩:=c.ex
 ⟨f,a,ds,U.mono h,R⟩
variable{dvss:List (List V)}
theorem Tx.cal(T:Tx K mg x st ps dvss)(S:FnScope N ps (Zb st))
  (len:∀ vs H Q E,sp vs H Q E->vs.length=ps.length)
  (hbody:∀ (f:ah) (cdv:af) (A:bv) (outer:List eF) (s:aq) (H:Hp) (vs:List V) (Q:VK) (E:XK),Room k (A.deeper (bQ x (Zb st) s.heap.objs.size f cdv))->sp vs H Q E ->
   ∃ t,PSs (ZJ CX P w K mg base N x (Zb st) f cdv A outer s H E).nox (Zy st) t/\t { nx:=λ_ H'=>Q .non H',rt:=Q } (start N vs) H) :
  ∀ dvs∈dvss,Cal P w K mg base CX (k+1) x ps dvs sp:=by
 obtain⟨u,f,a,F,m,b⟩:=T.ex
 intro dvs hd
 obtain⟨ds,p,G⟩:=b dvs hd
 exact⟨f,a,ds,F.ok S len (λcdv A outer s H vs Q E J h=>hbody f cdv A outer s H vs Q E J h),m,F.kp,p,G⟩
section
variable{E:XK}
theorem ZR(c:Cal X.prog X.w X.K X.mg X.base CX k x ps dvs sp)(J:Room k X.A)(M:Gl X x)(W:Xv CX X E)(ha:PA X (e::es) t)(b:(x == ("__debug__" : au))=false:=by decide)
  (j:aB (e::es) X.env=(aw,cg e X.env)::aB es X.env:=by rfl) (g:(bZ pos (aB es X.env)).any (·.1)=false:=by rfl) :
  PE X (.Call (.Name x p) (e::es) [] pos) (Wc sp dvs E t):=by
 obtain⟨f,a,ds,U,R,S,F,Y⟩:=c.ex
 exact LF U J M R S F Y W ha b j g
theorem Kt(c:Cal X.prog X.w X.K X.mg X.base CX k x ps dvs sp)(J:Room k X.A)(M:Gl X x)(W:Xv CX X E)(b:(x == ("__debug__" : au))=false:=by decide) :
  PE X (.Call (.Name x p) [] [] pos) (Wc sp dvs E ZV):=by
 obtain⟨f,a,ds,U,R,S,F,Y⟩:=c.ex
 exact LG U J M R S F Y W b
end
variable{cv:af}
noncomputable def XL:V->Option af
 | .ty n=>aa (.type n)
 | .ref a=>aa (.ref a)
 | _=>none
theorem TJ(h:XL c=aa cv)(r:Zp c u):u=cv:=by
 cases c<;>simp[XL] at h
 ·subst h;exact r
 ·subst h;exact r
def Ro(K:ay):List V->Hp->VK->Prop:=λxs H Q=>∃ x c t cv b,xs=[x,c]/\XL c=aa cv/\TyOf K H x t/\ao K t cv=aa b/\Q (.bl b) H
def VA(K:ay):List V->Hp->VK->Prop:=λxs H Q=>∃ p ys,xs=[.ref p]/\(SqL K H p ys\/SqT K H p ys)/\Q (.int ys.length) H
def VB(K:ay):List V->Hp->VK->Prop:=λxs H Q=>∃ p ys,xs=[.ref p]/\(SqL K H p ys\/SqT K H p ys)/\∀ l,H l=none->Q (.ref l) (upd H l (.lst ys))
theorem Ku:Z7 X (.builtin "len") (VA X.K):=L7
theorem Kv:Z7 X (.type "list") (VB X.K):=L9
theorem Kw:Z7 X (.builtin "isinstance") (Ro X.K):=by
 intro O s Z H xs us Q I r h
 obtain⟨x,c,t,A,b,rfl,Y,a,e,q⟩:=h
 obtain⟨u,K,rfl,L,P⟩:=vals2 r
 rw[TJ Y P]
 exact LC I L a e λtk=>⟨.bl b,H,I.tok tk,rfl,q⟩
def XObj(ea:ah)(c:af)(d:Option ah):bG->Prop:=λh=>∃ o vs,h.get? ea=aa o/\o.cls=c/\o.dict=d/\o.data=.fields vs
def hX(ea:ah)(c:af)(d:Option ah):HO:=.ext (XObj ea c d)
def XDct(d:ah)(fs:List (au×V)):bG->Prop:=λh=>∃ mA,h.Ns1 d mA/\(∀ f,YA (fs.lookup f) (mA f))/\eT mA (fs.map (·.1))
def hXD(d:ah)(fs:List (au×V)):HO:=.ext (XDct d fs)
noncomputable def YB:Key->ak
 | .inl i=>.int i
 | .inr x=>.str x
abbrev dJ:PyData:=.dict [(.none,.none)]
def rdN:List Str:=["words", "at"]
mutual
inductive Rep(K:ay)(H:Hp):V->ak->Prop
 | non:Rep K H .non .none
 | bl (b:Bool):Rep K H (.bl b) (.bool b)
 | int (i:Int):Rep K H (.int i) (.int i)
 | str (x:au):Rep K H (.str x) (.str x)
 | lst {a:ah} {xs:List V} {ds:List ak}:SqL K H a xs->Reps K H xs ds->Rep K H (.ref a) (.list ds)
 | tup {a:ah} {xs:List V} {ds:List ak}:H a=aa (.tup xs)->Reps K H xs ds->Rep K H (.ref a) (.tuple ds)
 | exc {ea C:ah} {kvs:List (ak×ak)}:H ea=aa (hX ea (.ref C) none)->kvs=[(.none,.int C)]->Rep K H (.ref ea) (.dict kvs)
 | excF {ea C a:ah} {vs:List (au×V)} {ds:List ak} {kvs:List (ak×ak)}:H ea=aa (hX ea (.ref C) (aa a))->H a=aa (hXD a vs)->Reps K H (vs.map bz) ds->kvs=(.none,.int C)::(vs.map λp=>aY p.1).zip ds->Rep K H (.ref ea) (.dict kvs)
 | dK {a:ah} {ks:List (Key×V)} {ds:List ak} {kvs:List (ak×ak)}:Rd H a (.dK ks)->Reps K H (ks.map bz) ds->kvs=(ks.map λp=>YB p.1).zip ds->Rep K H (.ref a) (.dict kvs)
 | dT {a:ah} {ks:List (List Key×V)} {ds:List ak} {kvs:List (ak×ak)}:Rd H a (.dT ks)->Reps K H (ks.map bz) ds->kvs=(ks.map λp=>cC (p.1.map YB)).zip ds->Rep K H (.ref a) (.dict kvs)
 | dN {a:ah} {ks:List ((Key×List Key)×V)} {ds:List ak} {kvs:List (ak×ak)}:ks≠[]->Rd H a (.dN ks)->Reps K H (ks.map bz) ds->kvs=(ks.map λp=>cC [YB p.1.1,.tuple (p.1.2.map YB)]).zip ds->Rep K H (.ref a) (.dict kvs)
 | junk {v:V}:Rep K H v dJ
 | ins {a C dx:ah} {fs:List (au×V)} {ds:List ak} {kvs:List (ak×ak)}:H a=aa (.ins C dx fs)->fs.map bH≠rdN->Reps K H (fs.map bz) ds->kvs=(.none,.int C)::(.none,.none)::(fs.map λp=>aY p.1).zip ds->Rep K H (.ref a) (.dict kvs)
 | fz {a:ah} {o:dE} {xs:List V} {ds:List ak} {kvs:List (ak×ak)}:H a=aa (.frz o (.lst xs))->Reps K H xs ds->kvs=(.none,.bool ac)::ds.map (λd=>(.none,d))->Rep K H (.ref a) (.dict kvs)
 | rd {a C dx:ah} {fs:List (au×V)} {ds:List ak} {kvs:List (ak×ak)}:H a=aa (.ins C dx fs)->fs.map bH=rdN->Reps K H (fs.map bz) ds->kvs=(.none,.int C)::(.none,.bool ac)::(fs.map λp=>aY p.1).zip ds->Rep K H (.ref a) (.dict kvs)
inductive Reps(K:ay)(H:Hp):List V->List ak->Prop
 | nil:Reps K H [] []
 | cons {x:V} {d:ak} {xs:List V} {ds:List ak}:Rep K H x d->Reps K H xs ds->Reps K H (x::xs) (d::ds)
end
variable{y:ak}
theorem Ul{ks:List (Key×V)}:(.none,y)::r≠(ks.map λp=>YB p.1).zip ds:=by
 cases ks with
 | nil=>simp
 | cons k ks=>cases ds with
  | nil=>simp
  | cons d ds =>
   intro z
   have:=congrArg bH (aF z).1
   obtain⟨k|k,v⟩:=k<;>cases this
theorem Um{ks:List (List Key×V)}:(.none,y)::r≠(ks.map λp=>cC (p.1.map YB)).zip ds:=by
 cases ks with
 | nil=>simp
 | cons k ks=>cases ds with
  | nil=>simp
  | cons d ds =>
   intro z
   have:=congrArg bH (aF z).1
   cases this
theorem Uo:(.none,y)::r≠(ks.map λp=>cC [YB p.1.1,.tuple (p.1.2.map YB)]).zip ds:=by
 cases ks with
 | nil=>simp
 | cons k ks=>cases ds with
  | nil=>simp
  | cons d ds =>
   intro z
   have:=congrArg bH (aF z).1
   cases this
noncomputable def okK:List (ak×ak)->Bool
 | (.none,.int _)::(.none,.none)::_=>ac
 | (.none,.bool ac)::_=>ac
 | _=>aw
theorem Kx{ks:List au}:okK ((.none,.int i)::(ks.map aY).zip ds)=false:=by
 cases ks with
 | nil=>rfl
 | cons k ks=>cases ds<;>rfl
theorem P3{ks:List (Key×V)}:okK ((ks.map λp=>YB p.1).zip ds)=false:=by
 cases ks with
 | nil=>rfl
 | cons k ks=>cases ds with
  | nil=>rfl
  | cons d ds=>obtain⟨k|k,v⟩:=k<;>rfl
theorem P4{ks:List (List Key×V)}:okK ((ks.map λp=>cC (p.1.map YB)).zip ds)=false:=by
 cases ks with
 | nil=>rfl
 | cons k ks=>cases ds<;>rfl
theorem P5:okK ((ks.map λp=>cC [YB p.1.1,.tuple (p.1.2.map YB)]).zip ds)=false:=by
 cases ks with
 | nil=>rfl
 | cons k ks=>cases ds<;>rfl
variable{o:HO}
theorem Rep.indF{M:V->ak->Prop}{N:List V->List ak->Prop}(h1:M .non .none)(h2:∀ b,M (.bl b) (.bool b))(h3:∀ i,M (.int i) (.int i))(h4:∀ x,M (.str x) (.str x))
  (Y:∀ {a xs ds},SqL K H a xs->N xs ds->M (.ref a) (.list ds)) (B:∀ {a xs ds},H a=aa (.tup xs)->N xs ds->M (.ref a) (.tuple ds)) (q:∀ v l,okK l=aw->M v (.dict l))
  (f:∀ {a C dx:ah} {fs:List (au×V)} {ds},H a=aa (.ins C dx fs)->fs.map bH≠rdN->N (fs.map bz) ds->M (.ref a) (.dict ((.none,.int C)::(.none,.none)::(fs.map λp=>aY p.1).zip ds)))
  (g:∀ {a o xs ds},H a=aa (.frz o (.lst xs))->N xs ds->M (.ref a) (.dict ((.none,.bool ac)::ds.map λd=>(.none,d))))
  (n:N [] []) (c:∀ {x d xs ds},M x d->N xs ds->N (x::xs) (d::ds)):(∀ {v d},Rep K H v d->M v d)/\∀ {vs ds},Reps K H vs ds->N vs ds:=by
 have T:∀ {S C:ah} {G:List (ak×ak)},H S=aa (hX S (.ref C) none)->G=[(.none,.int C)]->M (.ref S) (.dict G):=λ_ z=>q _ _ (by rw[z];rfl)
 have e:∀ {S C a:ah} {vs:List (au×V)} {ds:List ak} {G:List (ak×ak)},H S=aa (hX S (.ref C) (aa a))->H a=aa (hXD a vs)->Reps K H (vs.map bz) ds->G=(.none,.int C)::(vs.map λp=>aY p.1).zip ds->N (vs.map bz) ds->M (.ref S) (.dict G):=λ{_ _ _ vs ds _} _ _ _ z _=>q _ _ (by
  rw[z,show (vs.map λp=>aY p.1)=(vs.map bH).map aY by rw[e7];rfl];exact Kx)
 refine⟨λh=>Rep.rec (motive_1:=λv d _=>M v d) (motive_2:=λv d _=>N v d) h1 h2 h3 h4 (λh _=>Y h) (λh _=>B h) T e (λ_ _ z _=>q _ _ (by rw[z];exact P3)) (λ_ _ z _=>q _ _ (by rw[z];exact P4)) (λ_ _ _ z _=>q _ _ (by rw[z];exact P5)) (q _ _ rfl) (λh k _ z i=>by rw[z];exact f h k i) (λh _ z i=>by rw[z];exact g h i) (λ_ _ _ z _=>q _ _ (by rw[z];rfl)) n (λ_ _=>c) h,
  λh=>Reps.rec (motive_1:=λv d _=>M v d) (motive_2:=λv d _=>N v d) h1 h2 h3 h4 (λh _=>Y h) (λh _=>B h) T e (λ_ _ z _=>q _ _ (by rw[z];exact P3)) (λ_ _ z _=>q _ _ (by rw[z];exact P4)) (λ_ _ _ z _=>q _ _ (by rw[z];exact P5)) (q _ _ rfl) (λh k _ z i=>by rw[z];exact f h k i) (λh _ z i=>by rw[z];exact g h i) (λ_ _ _ z _=>q _ _ (by rw[z];rfl)) n (λ_ _=>c) h⟩
theorem Rep.reads(I:Inv X ge σ H s){d:ak}(hn:d.canLay0=ac)(h:Rep X.K H v d)(r:Zp v u):∃ as,Reads s.heap u d as:=by
 refine (Rep.indF (M:=λv d=>∀ u,d.canLay0=ac->Zp v u->∃ as,Reads s.heap u d as) (N:=λvs ds=>∀ us,cV ds=ac->Zi vs us->∃ as,ReadsAll s.heap us ds as) ?_ ?_ ?_ ?_ ?_ ?_ ?_ ?_ ?_ ?_ ?_).1 h u hn r
 ·intro u _ r;cases (show u=cG from r);exact⟨_,Reads.none⟩
 ·intro b u _ r;cases (show u=eV b from r);exact⟨_,Reads.bool b⟩
 ·intro i u _ r;obtain⟨t,q⟩:=(show ∃ t,u=eO i t from r);cases q;exact⟨_,Reads.int i t⟩
 ·intro x u _ r;obtain⟨t,q⟩:=(show ∃ t,u=eN x t from r);cases q;exact⟨_,Reads.str x t⟩
 ·intro a xs ds h B u hn r
  cases (show u=aD a from r)
  obtain⟨its,m,p,_⟩:=I.list h
  obtain⟨as,q⟩:=B _ (by simpa [b'] using hn) m
  obtain⟨o,U,R,n,S⟩:=p.isList
  exact⟨_,Reads.list U R S (by simpa using q)⟩
 ·intro a xs ds h B u hn r
  cases (show u=aD a from r)
  obtain⟨its,m,p,_⟩:=I.tuple (SqT.of h)
  obtain⟨as,q⟩:=B _ (by simpa [b'] using hn) m
  obtain⟨o,U,R,n,S⟩:=p
  exact⟨_,Reads.tuple U R S (by simpa using q)⟩
 ·intro v l _ u hn;simp[b'] at hn
 ·intro a C dx fs ds _ _ _ u hn;simp[b'] at hn
 ·intro a o xs ds _ _ u hn;simp[b'] at hn
 ·intro us _ q;cases q;exact⟨_,ReadsAll.nil⟩
 ·intro x d xs ds e E us hn q
  simp only[cV,aJ] at hn
  cases q with
  | cons q c =>
   obtain⟨as,U⟩:=e _ hn.1 q
   obtain⟨bs,R⟩:=E _ hn.2 c
   exact⟨_,ReadsAll.cons U R⟩
theorem Zg.tupS(e:Zg H H')(h:SqT K H a xs):SqT K H' a xs:=by
 rcases h with (h|⟨o,h⟩)|h
 ·exact .inl (.inl (e _ _ h))
 ·exact .inl (.inr ⟨o,e _ _ h⟩)
 ·exact .inr h
def Low(G G':Hp):Prop:=∀ b o,G b=aa o->(∀ ob c,o≠.frz ob (.own c))->G' b=aa o
theorem Low.rd(e:Low H H'){a:ah}{u:HO}(n:∀ ob c,u≠.frz ob (.own c))(Z:∀ c,u≠.own c)(h:Rd H a u):Rd H' a u:=h.imp (λh=>e _ _ h n) (by rintro ⟨o,h⟩;exact ⟨o,e _ _ h λob c z=>by cases z;exact Z _ rfl⟩)
theorem Low.seq(e:Low H H')(h:SqL K H a xs):SqL K H' a xs:=by
 rcases h with (h|⟨o,h⟩)|h
 ·exact .inl (.inl (e _ _ h λ_ _ z=>by cases z))
 ·exact .inl (.inr ⟨o,e _ _ h λ_ _ z=>by cases z⟩)
 ·exact .inr h
theorem Rep.low(e:Low H H'){d:ak}(h:Rep K H v d):Rep K H' v d :=
 Rep.rec (motive_1:=λv d _=>Rep K H' v d) (motive_2:=λv d _=>Reps K H' v d) .non .bl .int .str (λh _ i=>.lst (e.seq h) i) (λh _ i=>.tup (e _ _ h (by intro _ _ z;cases z)) i) (λh z=>.exc (e _ _ h (by intro _ _ z;cases z)) z) (λh k _ z i=>.excF (e _ _ h (by intro _ _ z;cases z)) (e _ _ k (by intro _ _ z;cases z)) i z)
  (λh _ z i=>.dK (e.rd (by intro _ _ z;cases z) (by intro _ z;cases z) h) i z) (λh _ z i=>.dT (e.rd (by intro _ _ z;cases z) (by intro _ z;cases z) h) i z) (λn h _ z i=>.dN n (e.rd (by intro _ _ z;cases z) (by intro _ z;cases z) h) i z) .junk (λh k _ z i=>.ins (e _ _ h (by intro _ _ z;cases z)) k i z) (λh _ z i=>.fz (e _ _ h (by intro _ _ z;cases z)) i z) (λh k _ z i=>.rd (e _ _ h (by intro _ _ z;cases z)) k i z) .nil (λ_ _=>.cons) h
theorem Reps.imp(f:∀ {v d},Rep K H v d->Rep K H' v d):∀ {vs:List V} {ds:List ak},Reps K H vs ds->Reps K H' vs ds
 | _,_,.nil=>.nil
 | _,_,.cons r rs=>.cons (f r) (Reps.imp f rs)
theorem Reps.low(e:Low H H'){vs:List V}{ds:List ak}(h:Reps K H vs ds):Reps K H' vs ds:=Reps.imp (λr=>r.low e) h
theorem Rep.same(e:Zg H H'){d:ak}(h:Rep K H v d):Rep K H' v d:=h.low λb o z _=>e b o z
theorem Reps.same(e:Zg H H'){vs:List V}{ds:List ak}(h:Reps K H vs ds):Reps K H' vs ds:=Reps.imp (λr=>r.same e) h
theorem Reps.length:∀ {vs:List V} {ds:List ak},Reps K H vs ds->vs.length=ds.length
 | _,_,.nil=>rfl
 | _,_,.cons _ rs=>by rw[aS,aS,Reps.length rs]
theorem Reps.get:∀ {vs:List V} {ds:List ak} {i:Nat} {d:ak},Reps K H vs ds->ds[i]?=aa d->∃ v,vs[i]?=aa v/\Rep K H v d
 | _,_,i,d,.nil,e=>by simp at e
 | _,_,0,d,.cons r _,e=>by simp at e;subst e;exact⟨_,rfl,r⟩
 | _,_,i+1,d,.cons _ rs,e=>by
  obtain⟨v,U,R⟩:=Reps.get (i:=i) rs (by simpa using e)
  exact⟨v,by simpa using U,R⟩
theorem Reps.ints(ns:List Int):Reps K H (ns.map V.int) (ns.map dt):=by
 induction ns with
 | nil=>exact .nil
 | cons n ns B=>exact .cons (.int n) B
theorem XM{p:ah}(h:H p=none):Zg H (upd H p o):=λb u e=>by rw[Zd (Yw e h)];exact e
def dOk(d:ak):Prop:=jR d=ac
def W5(K:ay):R2:=λx y H Q=>∃ d e,Rep K H x d/\Rep K H y e/\dOk d/\dOk e/\Q (.bl (fJ d e)) H
def W6(K:ay):R2:=λx y H Q=>∃ d e,Rep K H x d/\Rep K H y e/\dOk d/\dOk e/\Q (.bl (!PyData.eqv d e)) H
theorem Ky(j:X.A.units+64<cK):OpR X (bx .Eq) (W5 X.K):=by
 intro O s Z H x y v u Q I N m h
 obtain⟨d,e,U,R,S,F,q⟩:=h
 obtain⟨as,k1⟩:=Rep.reads I (dA S) U N
 obtain⟨bs,k2⟩:=Rep.reads I (dA F) R m
 exact eq_dataH k1 k2 S F j ⟨.bl _,H,I,rfl,q⟩
theorem Kz(j:X.A.units+64<cK):OpR X (bx .NotEq) (W6 X.K):=by
 intro O s Z H x y v u Q I N m h
 obtain⟨d,e,U,R,S,F,q⟩:=h
 obtain⟨as,k1⟩:=Rep.reads I (dA S) U N
 obtain⟨bs,k2⟩:=Rep.reads I (dA F) R m
 exact ne_dataH k1 k2 S F j ⟨.bl _,H,I,rfl,q⟩
structure Enc{α:Type}(f:α->ak)(n:Nat):Prop where
 eqv:∀ a b,fJ (f a) (f b)=ac↔a=b
 lay:∀ a,(f a).canLay0=ac
 dep:∀ a,(f a).depth<=n
variable{f:α->ak}
theorem Enc.ok(E:Enc f n)(hn:n<=32)(a:α):dOk (f a):=by
 unfold dOk jR
 rw[E.lay a,br]
 exact decide_eq_true (aT (E.dep a) (aT hn (by decide)))
theorem Enc.dec[DecidableEq α](E:Enc f n)(a b:α):fJ (f a) (f b)=decide (a=b):=by
 by_cases h:a=b
 ·rw[decide_eq_true h];exact (E.eqv a b).mpr h
 ·rw[decide_eq_false h];exact Bool.eq_false_iff.mpr λz=>h ((E.eqv a b).mp z)
theorem TK(hm:∃ t,X.mg x=aa (.int i t))(M:Gl X x)(hd:(x == ("__debug__" : au))=false:=by decide):PE X (.Name x pos) (tC (.int i)):=by
 obtain⟨t,h⟩:=hm
 exact X9 M h ⟨t,rfl⟩ hd
variable{j:Int}{t:TS}
theorem KA(h:Q (.bl (decide (i=j))) H):rEq (.int i) (.int j) H Q:=⟨rfl,by have e:decide (V.int i=V.int j)=decide (i=j):=by { by_cases z:i=j<;>simp[z] };rw[e];exact h⟩
theorem P6{P:Prop}(h:H a=aa (.lst xs))(q:P):tyV K "list" (.ref a) H/\P:=⟨.inl ⟨rfl,xs,SqL.of h⟩,q⟩
theorem KB{x:V}{t:af}(Y:XL c=aa cv)(ty:TyOf K H x t)(e:ao K t cv=aa b)(q:Q (.bl b) H):Ro K [x,c] H Q:=⟨x,c,t,cv,b,rfl,Y,ty,e,q⟩
variable{sl:Array (Option af)}
theorem ZS{f:ah}{oc kV doc ct:af}{od:Option ah}(X:K.In h)(G:h.Ns aj mg)
  (a:aP K aj x=aa (aa (.ref f))) (l:K.lookup f=aa ⟨oc,od,.func (aM x x (Z2 st) (Zy st) (Zb st) .none kV doc pm an cd ct),sl⟩)
  (c:aH K cd x=ac) (k:az K (.ref f)=ac)
  (hb:∀ (us:List af),us.length=ps.length->bindArgs (aM x x (Z2 st) (Zy st) (Zb st) .none kV doc pm an cd ct) ⟨us,[]⟩=dZ (ps.zip us)):Tx K mg x st ps [[]] :=
 ⟨.none,f,_,⟨⟨oc,od,kV,doc,pm,an,cd,ct,sl,rfl,l,c⟩,k⟩,bb X G a,λdvs hd=>by
  have e:dvs=[]:=by simpa using hd
  subst e
  exact⟨[],.all hb,.nil⟩⟩
theorem TL{t:iL}(X:K.In h)(G:h.Ns aj mg)(a:aP K aj x=aa (aa (.int i t))):∃ t,mg x=aa (.int i t):=⟨t,bb X G a⟩
theorem KC:ao K (.type "int") (.type "bool")=aa false :=
 (by decide +kernel:(if (fU "int" == fU "bool")=ac then aa ac else if PySem.W.kitMeta "bool" = ac then (fastBuiltinMro "int").map (·.contains (fU "bool")) else none)=aa aw)
variable{x:V}
theorem KD[DecidableEq α]{y:V}{a b:α}(E:Enc f n)(h1:Rep K H x (f a))(h2:Rep K H y (f b))(q:Q (.bl (decide (a=b))) H)(hn:n<=32:=by decide):W5 K x y H Q :=
 ⟨_,_,h1,h2,E.ok hn a,E.ok hn b,by rw[E.dec];exact q⟩
theorem KE[DecidableEq α]{y:V}{a b:α}(E:Enc f n)(h1:Rep K H x (f a))(h2:Rep K H y (f b))(q:Q (.bl (!decide (a=b))) H)(hn:n<=32:=by decide):W6 K x y H Q :=
 ⟨_,_,h1,h2,E.ok hn a,E.ok hn b,by rw[E.dec];exact q⟩
theorem Rep.ints{K:ay}{H:Hp}{a:ah}{ns:List Int}(h:SqL K H a (ns.map V.int)):Rep K H (.ref a) (jS (ns.map dt)):=.lst h (Reps.ints ns)
section
variable{k:Int}{d:ak}
theorem Rep.int_inv(h:Rep K H v (.int i)):v=.int i:=by cases h;rfl
theorem Rep.list_inv(h:Rep K H v (.list ds)):∃ a xs,v=.ref a/\SqL K H a xs/\Reps K H xs ds:=by
 cases h with
 | lst h r=>exact⟨_,_,rfl,h,r⟩
theorem Rep.tuple_inv(h:Rep K H v (.tuple ds)):∃ a xs,v=.ref a/\SqT K H a xs/\Reps K H xs ds:=by
 cases h with
 | tup h r=>exact⟨_,_,rfl,SqT.of h,r⟩
theorem VC{xs:List α}{y:α}(W:0<=k)(h:xs[k.toNat]?=aa y):atI xs k=aa y:=by
 obtain⟨j,rfl⟩:∃ j:Nat,k=j:=⟨k.toNat,by omega⟩
 exact PL (by simpa using h)
theorem KF(h:Rep K H x (.list ds))(q:Q (.int ds.length) H):VA K [x] H Q:=by
 obtain⟨a,xs,rfl,U,R⟩:=h.list_inv
 exact⟨a,xs,rfl,.inl U,by rw[R.length];exact q⟩
mutual
noncomputable def Z9:ak->Bool
 | .none=>ac
 | .bool _=>ac
 | .int _=>ac
 | .str _=>ac
 | .list _=>aw
 | .tuple ds=>noLsts ds
 | .dict kvs=>okK kvs && noLstK kvs
noncomputable def noLsts:List ak->Bool
 | []=>ac
 | d::ds=>Z9 d && noLsts ds
noncomputable def noLstK:List (ak×ak)->Bool
 | []=>ac
 | p::r=>noLstP p && noLstK r
noncomputable def noLstP:ak×ak->Bool
 | (_,d)=>Z9 d
end
theorem P7{C:Int}:∀ {ks:List ak} {ds:List ak},ks.length=ds.length->(Z9 (.dict ((.none,.int C)::(.none,.none)::ks.zip ds))=ac↔noLsts ds=ac):=by
 have m:∀ {ks:List ak} {ds:List ak},ks.length=ds.length->noLstK (ks.zip ds)=noLsts ds:=by
  intro ks
  induction ks with
  | nil=>intro ds e;cases ds with
   | nil=>rfl
   | cons _ _=>cases e
  | cons k ks B=>intro ds e;cases ds with
   | nil=>cases e
   | cons d ds=>rw[cj,noLstK,noLstP,noLsts,B (by simpa using e)]
 intro ks ds e
 rw[Z9,noLstK,noLstK,noLstP,noLstP,m e]
 simp[okK,Z9]
theorem TM:Z9 (.dict ((.none,.bool ac)::ds.map λd=>(.none,d)))=ac↔noLsts ds=true:=by
 have m:∀ ds:List ak,noLstK (ds.map λd=>(ak.none,d))=noLsts ds:=by
  intro ds
  induction ds with
  | nil=>rfl
  | cons d ds B=>rw[bp,noLstK,noLstP,noLsts,B]
 rw[Z9,noLstK,noLstP,m]
 simp[okK,Z9]
theorem KG{l:List (ak×ak)}(h:okK l=aw)(hn:Z9 (.dict l)=ac):False:=by
 rw[Z9,h] at hn
 cases hn
theorem Zg.updF(s:Zg H H')(O:H D=none):Zg H (upd H' D o):=λb u e=>by rw[Zd (Yw e O)];exact s b u e
def dI(ns:List Int):PyData:=.list (ns.map .int)
end
variable{r:Fp}
section
theorem P8(h:X.K=K):Z7 X (.type "list") (VB K):=h▸Kv
theorem KH(h:X.K=K):OpR X (cr .Add) (Tn K):=h▸LR
theorem KI(h:X.K=K)(j:X.A.units+64<cK):OpR X (bx .Eq) (W5 K):=h▸Ky j
theorem KJ(h:X.K=K)(j:X.A.units+64<cK):OpR X (bx .NotEq) (W6 K):=h▸Kz j
theorem KK(h:X.K=K):OpR X (bx .In) (rIn K aw):=h▸L5
theorem VD{t:TGs}(h:X.K=K)(Y:X.calm=ac)(M:PGs X es t)(hn:(d6 es X.env).length=n:=by rfl)(w:(d6 es X.env).findIdx? (·.1)=none:=by rfl):PG X (.Tuple es k pos) (S3 K n t):=h▸Lg Y M hn w
variable{o:cz}{t:TA}{id:String}{r:V->List V->Hp->VK->Prop}
theorem XN(h:X.K=K)(g:jU T)(slot:Slot T name id)(i:typeOf (.builtin id)=dZ (.type "method_descriptor"))(hm:MtR X id r)(P:PE X o to)(ha:PA X (e::es) t)
  (b:df o name X.env (cg o X.env)=cg o X.env:=by rfl)
  (f:((bZ cpos (aB (e::es) X.env)).all (λx=>!x.1) && (gh cpos (eo [] X.env)).all (λx=>x.1.isSome)
   && decide ((e::es).length+([]:List ie).length+(if ([]:List ie).isEmpty then 0 else 1)<30))=true:=by rfl)
  (a:(apos.endLine == cpos.line)=true:=by rfl) (B:aB (e::es) X.env=(aw,cg e X.env)::aB es X.env:=by rfl) (c:(bZ cpos (aB es X.env)).any (·.1)=false:=by rfl) :
  PE X (.Call (.Attribute o name apos) (e::es) [] cpos) (tBM K T r to t):=h▸Kb g slot i hm P ha b f a B c
end
def Ite(K:ay)(a:ah):It :=
  ⟨λi H=>∃ xs x,SqL K H a xs/\xs[i]?=aa x,
   λi H v H'=>∃ p x,H p=none/\v=.ref p/\H'=upd H p (.tup [.int i,x])/\∀ xs,SqL K H a xs->xs[i]?=aa x,
   λi H=>∃ xs,SqL K H a xs/\xs.length<=i⟩
theorem Inv.enumed{e:ah}(I:Inv X ge σ H s)
  (a:Xa X ge H e) (f:Xa X ge H it) (k:∀ b o,b≠e->b≠it->s.heap.get? b=aa o->h'.get? b=aa o)
  (ht:h'.get? s.heap.objs.size=aa { cls:=.type "tuple",data:=.seq us.toArray }) (S:Zi xs us) (C:xs.length<=sizeLine) :
  Inv X ge σ (upd H s.heap.objs.size (.tup xs)) { s with heap:=h',toks:=t' }:=by
 have O:H s.heap.objs.size=none:=I.hok.fresh (ar _)
 have ne:∀ b o,s.heap.get? b=aa o->b≠s.heap.objs.size:=λb o q=>aQ (aA q)
 have h:∀ b u,H b=aa u->b≠e/\b≠it:=λb u q=>⟨(Yw q a.1),(Yw q f.1)⟩
 have g:∀ b u,H b=aa u->b≠s.heap.objs.size:=λb u q=>Yw q O
 refine I.step (g':=s.gens) (d':=s.drawn) (ch:=[e,it]) (λb G=>?_) (λb o _ _ Y q _=>k b o (λz=>Y (by simp[z])) (λz=>Y (by simp[z])) q)
  (λb o _ _ Y q _=>⟨o.slots,k b o (λz=>Y (by simp[z])) (λz=>Y (by simp[z])) q⟩) (λb o _ q n=>by rw[Zd (ne b o q)];exact n)
  (λb o Y q=>⟨o,k b o (λz=>Y (by simp[z])) (λz=>Y (by simp[z])) q⟩) (λb ys q=>by rw[Zd (g b _ q)];exact q) (λb o u q=>by rw[Zd (g b _ q)];exact q)
  (λb ps q=>⟨#[],by rw[Zd (g b _ q),q];simp⟩) (λm K=>?_) (λb u q=>?_) I.bare
 ·have G:b=e\/b=it:=by simpa using G
  rcases G with rfl|rfl
  ·exact⟨a.2.2.2.1,a.2.1,a.2.2.2.2.1,a.2.2.2.2.2⟩
  ·exact⟨f.2.2.2.1,f.2.1,f.2.2.2.2.1,f.2.2.2.2.2⟩
 ·obtain⟨o,es,E,P,r⟩:=K
  exact⟨o,es,E,k _ o (bY a.2.1) (bY f.2.1) P,r⟩
 ·by_cases G:b=s.heap.objs.size
  ·subst G
   rw[Zw] at q
   cases q
   exact⟨C,us,S,⟨_,ht,rfl,⟨_,rfl⟩,rfl⟩⟩
  ·rw[Zd G] at q
   refine (I.hok b u q).stay (λc v Y r=>?_) (λc r=>by rw[Zd (g c _ r)];exact r) λc ys r=>by rw[Zd (g c _ r)];exact r
   rcases Y with z|z
   ·rw[z] at r ⊢;exact k _ _ (h b u q).1 (h b u q).2 r
   ·exact k _ _ (h c _ z).1 (h c _ z).2 r
theorem KL{x1}{tp:jJ}(a e it:ah)(A:e≠it):Turn P w K (.Tuple es x1 tp) (Ite K a) [e,it] e (λi h=>(∃ old,IsEnum h e it i old)/\h.IsListIter it a i) where
 mem:=by simp
 obj:=λi h st b G=>by
  obtain⟨⟨old,j⟩,o,t,Y,hd⟩:=st
  have G:b=e\/b=it:=by simpa using G
  rcases G with rfl|rfl
  ·exact⟨_,j,λv z=>by cases (show Data.fields _=Data.cell v from z)⟩
  ·exact⟨o,t,λv z=>by rw[hd] at z;cases z⟩
 keep:=λi h h' st k=>by
  obtain⟨⟨old,j⟩,t⟩:=st
  exact⟨⟨old,k e (by simp) _ j⟩,t.at λo q=>k it (by simp) o q⟩
 item:=by
  intro X Q N y Y i O s Z H E I F st M
  subst Q N y
  obtain⟨xs,x,g,W⟩:=M
  obtain⟨⟨old,j⟩,t⟩:=st
  obtain⟨its,m,p,C⟩:=I.list g
  obtain⟨u,hu,R⟩:=m.get W
  refine wpAny_pyNext_enum_item j t p.isList (x:=u) (by simpa using hu) A λh' ho l ht hsz k=>?_
  refine⟨_,rfl,wpAny_letOwnedTupleGo_enum ho λh2 f c=>?_⟩
  have fe:=F e (by simp)
  have fi:=F it (by simp)
  have I1:Inv X O Z (upd H s.heap.objs.size (.tup [.int i,x])) { s with heap:=h',toks:=s.toks+1 }:=I.enumed fe fi k ht (.cons ⟨_,rfl⟩ (.cons R .nil)) (by show 2<=sizeLine;decide)
  have he1:e≠s.heap.objs.size:=aQ (aA j)
  have hi1:it≠s.heap.objs.size:=by obtain⟨_,q,_⟩:=t;exact aQ (aA q)
  have S:=I1.turned (h':=h2) (t':=s.toks+1) (it:=e) (λb o G q=>(c.2 b G).trans q) (by rw[Zd he1];exact fe.1) fe.2.1 fe.2.2.2.1 fe.2.2.2.2.1 fe.2.2.2.2.2
  refine⟨.ref s.heap.objs.size,_,S,rfl,⟨s.heap.objs.size,x,I.hok.fresh (ar _),rfl,rfl,λys B=>by rw[I.list_inj B g];exact W⟩,⟨⟨u,by simpa using f⟩,l.at λo q=>(c.2 it A.symm).trans q⟩,λb G=>?_⟩
  have G:b=e\/b=it:=by simpa using G
  rcases G with rfl|rfl
  ·rw[Zd he1];exact fe.1
  ·rw[Zd hi1];exact fi.1
 done:=by
  intro X Q N y Y i O s Z H E I F st M
  subst Q N y
  obtain⟨xs,g,W⟩:=M
  obtain⟨⟨old,j⟩,t⟩:=st
  obtain⟨its,m,p,C⟩:=I.list g
  obtain⟨r,U,n,J,f4,f5⟩:=F it (by simp)
  have L:=m.length
  exact wpAny_pyNext_enum_end (I.ok.hd Y) j t p.isList (by simp;omega) λh' T=>⟨rfl,I.turned (t':=s.toks) (λb o G e=>T b o G e) r U J f4 f5⟩
 self:=λ_ _ _ _ _ st h=>by
  obtain⟨⟨old,j⟩,_⟩:=st
  exact jZ j h
def Rp(K:ay)(ta:TA):TI:=λσ H R=>ta σ H λvs H1=>∃ a,vs=[.ref a]/\(∃ xs,SqL K H1 a xs)/\R (Ite K a) H1
theorem P9{a:cz}{ta:TA}{x1}{tp:jJ}(hK:X.K=K)(M:Gl X "enumerate")(hm:X.mg "enumerate" = none)(ha:PA X [a] ta)(B:aB [a] X.env=[(aw,cg a X.env)]:=by rfl) :
  PI X (.Tuple es x1 tp) (.Call (.Name "enumerate" p) [a] [] pos) (Rp K ta):=by
 subst hK
 intro O s Z H R I h
 refine Call_ (V8 I M hm PyProof.Rows.boot_enumerate (dH (thn (ha pos O s Z H _ I h) λus s1 U=>?_) B rfl))
 obtain⟨vs,y,f,L,a,e,⟨xs,g⟩,q⟩:=U
 subst e
 cases L with
 | cons r w =>
  cases w
  cases (show _=aD a from r)
  obtain⟨its,m,p,C⟩:=f.list g
  refine call_enumerate_list p.isList λh' j t i k=>?_
  refine jZ j ?_
  have S:Inv X O Z y { s1 with heap:=h' }:=f.kept (t':=s1.toks) k
  refine⟨_,[s1.heap.objs.size+1,s1.heap.objs.size],_,Ite X.K a,y,rfl,S,KL a _ _ (cq (b_ _)),⟨⟨_,j⟩,t⟩,λb G=>?_,q⟩
  have G:b=s1.heap.objs.size+1\/b=s1.heap.objs.size:=by simpa using G
  rcases G with rfl|rfl
  ·exact f.fpOk (cR _) (f.hok.fresh (cR _))
  ·exact f.fpOk (ar _) (f.hok.fresh (ar _))
noncomputable def tyD:ak->String
 | .none => "NoneType"
 | .bool _ => "bool"
 | .int _ => "int"
 | .str _ => "str"
 | .list _ => "list"
 | .tuple _ => "tuple"
 | .dict _ => "dict"
noncomputable def isD:ak->Bool
 | .dict _=>ac
 | _=>aw
def Oa(K:ay):List V->Hp->VK->Prop:=λxs H Q=>∃ x c d cv b,xs=[x,c]/\XL c=aa cv/\isD d=aw/\Rep K H x d/\ao K (.type (tyD d)) cv=aa b/\Q (.bl b) H
theorem KM:Z7 X (.builtin "isinstance") (Oa X.K):=by
 intro O s Z H xs us Q I r h
 obtain⟨x,c,d,A,b,rfl,Y,l,hd,e,q⟩:=h
 obtain⟨u,K,rfl,N,P⟩:=vals2 r
 rw[TJ Y P]
 have fin:∀ tk,EP X O Z Q (.bool b) { s with toks:=tk }:=λtk=>⟨.bl b,H,I.tok tk,rfl,q⟩
 cases hd with
 | non=>cases (show u=cG from N);exact ba iI I.kIn bW e (λz=>nomatch z) fin
 | bl y=>cases (show u=eV y from N);exact ba iK I.kIn bW e (λz=>nomatch z) fin
 | int i=>obtain⟨t,q'⟩:=(show ∃ t,u=eO i t from N);cases q';exact ba iQ I.kIn bW e (λz=>nomatch z) fin
 | str y=>obtain⟨t,q'⟩:=(show ∃ t,u=eN y t from N);cases q';exact ba iP I.kIn bW e (λz=>nomatch z) fin
 | @lst a ys ds U R =>
  cases (show u=aD a from N)
  obtain⟨its,m,p,_⟩:=I.list U
  obtain⟨o,k1,k2,_⟩:=p.isList
  exact ba fT I.kIn ⟨o,k1,k2⟩ e (λz=>nomatch z) fin
 | @tup a ys ds U R =>
  cases (show u=aD a from N)
  obtain⟨its,m,p,_⟩:=I.tuple (SqT.of U)
  obtain⟨o,k1,k2,_⟩:=p
  exact ba iw I.kIn ⟨o,k1,k2⟩ e (λz=>nomatch z) fin
 | exc _ _=>cases l
 | excF _ _ _ _=>cases l
 | ins _ _ _ _=>cases l
 | fz _ _ _=>cases l
 | rd _ _ _ _=>cases l
 | dK _ _ _=>cases l
 | dT _ _ _=>cases l
 | dN _ _ _ _=>cases l
 | junk=>cases l
def X1(K:ay):List V->Hp->VK->Prop:=λxs H Q=>Ro K xs H Q\/Oa K xs H Q
theorem Up(h:X.K=K):Z7 X (.builtin "isinstance") (X1 K):=h▸Z7.or Kw KM
theorem KO{t:af}(Y:XL c=aa cv)(ty:TyOf K H x t)(e:ao K t cv=aa b)(q:Q (.bl b) H):X1 K [x,c] H Q:=.inl (KB Y ty e q)
theorem KP{d:ak}(hd:Rep K H x d)(nd:isD d=aw)(Y:XL c=aa cv)(e:ao K (.type (tyD d)) cv=aa b)(q:Q (.bl b) H):X1 K [x,c] H Q:=.inr ⟨x,c,d,cv,b,rfl,Y,nd,hd,e,q⟩
abbrev FK:=af->Option ah->St->Hp->Prop
def toF(E:XK):FK:=λc d _ H=>E c d H
theorem d_KT(x:h.DictOf (Yq P w) a []):h.DictOfH (gq (Yq P w)) a []:=by
 obtain⟨o,es,E,S,F,Y,B,q,f⟩:=x
 refine⟨o,es,E,S,F,Y,?_,⟨λx z=>absurd z (by simp),nodup_nil⟩⟩
 generalize es.toList=l at q
 cases q
 rfl
theorem Rq(x:h.DictOfH (gq (Yq P w)) a []):h.DictOf (Yq P w) a []:=by
 obtain⟨o,es,E,S,F,Y,B,q,f⟩:=x
 have e:es.toList=[]:=by simpa using B
 refine⟨o,es,E,S,F,Y,λk N=>?_,by rw[e];exact .nil,nodup_nil⟩
 have:k∈es.toList:=by simpa using N
 rw[e] at this
 exact nomatch this
def TN(H:Hp)(b:ah)(k:Key×List Key):Prop:=∃ c,H b=aa (.tup [kV k.1,.ref c])/\H c=aa (.tup (k.2.map kV))
variable{b:ah}{k:Key×List Key}
theorem VE(ok:HOk P w H h)(e:TN H b k):(Vn (Yq P w)).is h k b:=by
 obtain⟨c,T,M⟩:=e
 obtain⟨_,its,r,o,U,R,⟨n,S⟩,_⟩:=(show ZO P w H h b (.tup [kV k.1,.ref c]) from ok b _ T)
 cases r with
 | cons L r =>
  cases r with
  | cons a r =>
   cases r
   have a:_=aD c:=a
   subst a
   exact⟨o,_,n,_,c,U,R,S,rfl,W1 L,W3 ok M⟩
abbrev KN(H:Hp):List ((Key×List Key)×V)->List ((Key×List Key)×ah×af)->Prop:=hJ λp q=>p.1=q.1/\(∃ b,H q.2.1=aa (.tup [kV p.1.1,.ref b])/\H b=aa (.tup (p.1.2.map kV)))/\Zp p.2 q.2.2
variable{xs:List AV}{kvs:List ((Key×List Key)×V)}
theorem KN.val{xs:List ((Key×List Key)×ah×af)}(r:KN H kvs xs)(k:Key×List Key):YA (Xw kvs k) ((fE xs k).map (·.2)):=by
 induction r with
 | nil=>exact bW
 | @cons p q ps c h t B =>
  by_cases e:p.1=k
  ·have b:fE (q::c) k=aa q.2:=by simp[fE,d9,h.1.symm.trans e]
   rw[Rg e,b];exact h.2.2
  ·have N:¬ q.1=k:=λz=>e (h.1.trans z)
   have b:fE (q::c) k=fE c k:=by simp[fE,d9,N]
   rw[Rh e,b];exact B
theorem TQ(ok:HOk P w H h)(e:Rd H a (.dN kvs)):kvs.length<=sizeLine/\(a == eM)=aw/\∃ xs,KN H kvs xs/\h.DictOfH (Vn (Yq P w)) a xs:=by
 obtain⟨z,y,xs,r,o,es,E,U,R,S,F,Y⟩:=(show ZO P w H h a (.dN kvs) from Ri ok e)
 refine⟨z,y,xs,r,o,es,E,U,R,S,F,λx W=>?_,Y⟩
 have all:∀ {l:List ((Key×List Key)×V)} {m:List ((Key×List Key)×ah×af)},KN H l m->∀ x∈m,(Vn (Yq P w)).is h x.1 x.2.1:=by
  intro l m q
  induction q with
  | nil=>intro x W;exact nomatch W
  | @cons p q ps c g t B =>
   intro x W
   rcases eR.mp W with e|W
   ·subst e
    exact VE ok (by rw[<- g.1];exact g.2.1)
   ·exact B x W
 exact all r x W
theorem d_KN(x:h.DictOf (Yq P w) a []):h.DictOfH (Vn (Yq P w)) a []:=by
 obtain⟨o,es,E,S,F,Y,B,q,f⟩:=x
 refine⟨o,es,E,S,F,Y,?_,⟨λx z=>absurd z (by simp),nodup_nil⟩⟩
 generalize es.toList=l at q
 cases q
 rfl
theorem Ob(ok:HOk P w H h)(e:Rd H a (.dK [])\/Rd H a (.dT [])):(a == eM)=aw/\h.DictOf (Yq P w) a []:=by
 rcases e with e|e
 ·obtain⟨z,hd,vs,rel,dd⟩:=W2 ok e
  cases rel
  exact⟨hd,dd⟩
 ·obtain⟨z,hd,vs,rel,dd⟩:=W4 ok e
  cases rel
  exact⟨hd,Rq dd⟩
theorem Uq(j:A.units+2<cK):(Vn (Yq P w)).room A.in1:=⟨by show A.units+1<cK;omega,by show A.units+1+1<cK;omega⟩
def Oc(H:Hp)(a:ah)(y:V)(r:Option V):Prop:=∃ kvs k b,Rd H a (.dN kvs)/\y=.ref b/\TN H b k/\r=Xw kvs k
def KQ(H:Hp)(a:ah)(y:V)(r:Option V):Prop:=Vz H a y r\/Oc H a y r
def Rr(H:Hp)(a:ah)(y:V)(r:Option V):Prop:=Vz H a y r\/(r=none/\(∃ k,y=kV k)/\Rd H a (.dT []))\/(r=none/\(∃ (k:List Key) (b:ah),y=.ref b/\H b=aa (.tup (k.map kV)))/\Rd H a (.dK []))\/Oc H a y r\/(r=none/\(∃ (k:Key×List Key) (b:ah),y=.ref b/\TN H b k)/\(Rd H a (.dK [])\/Rd H a (.dT [])))
variable{Q:af->aq->Prop}
section
variable{y:V}{o:Option V}
theorem KR(j:A.units+2<cK)(I:Inv X ge σ H s)(e:Rd H a (.dN kvs))(T:TN H b k)(l:aa v=Xw kvs k)(m:Zp (.ref b) u)(h:∀ K s',Inv X ge σ H s'->Zp v K->Q K s') :
  aG (aI X.prog X.w) A (gV (.ref a) u) Q E s:=by
 cases (show u=aD b from m)
 obtain⟨z,hd,xs,rel,dd⟩:=TQ I.hok e
 obtain⟨K,N,J⟩:=YA.some_of (v:=v) (o:=(fE xs k).map (·.2)) (by rw[l];exact rel.val k)
 obtain⟨p,O,f⟩:=Option.map_eq_some_iff.mp N
 refine jO (Uq j) (VE I.hok T) dd O ?_
 rw[f]
 exact h K _ (I.tok _) J
theorem KS(j:A.units+2<cK)(I:Inv X ge σ H s)(g:Rr H a y o)(m:Zp y u)(h:∀ s',Inv X ge σ H s'->Q (.bool o.isSome) s') :
  aG (aI X.prog X.w) A (bx .In u (.ref a)) Q E s:=by
 rcases g with g|⟨rfl,⟨k,rfl⟩,e⟩|⟨rfl,⟨k,b,rfl,eb⟩,e⟩|⟨kvs,k,b,e,rfl,eb,rfl⟩|⟨rfl,⟨k,b,rfl,eb⟩,e⟩
 ·exact d_in (by omega) I g m h
 ·obtain⟨z,hd,vs,rel,dd⟩:=W4 I.hok e
  cases rel
  exact wpAny_in_of (W1 m) hd (Rq dd).mapOf (h _ (I.tok _))
 ·obtain⟨z,hd,vs,rel,dd⟩:=W2 I.hok e
  cases rel
  cases (show u=aD b from m)
  exact gA (dD (by omega)) (W3 I.hok eb) hd (d_KT dd) (h _ (I.tok _))
 ·obtain⟨z,hd,xs,rel,dd⟩:=TQ I.hok e
  cases (show u=aD b from m)
  refine gA (Uq j) (VE I.hok eb) hd dd ?_
  have q:=(rel.val k).isSome_eq
  rw[eB] at q
  rw[<- q]
  exact h _ (I.tok _)
 ·obtain⟨hd,dd⟩:=Ob I.hok e
  cases (show u=aD b from m)
  exact gA (Uq j) (VE I.hok eb) hd (d_KN dd) (h _ (I.tok _))
theorem KU(j:A.units+2<cK)(I:Inv X ge σ H s)(g:Rr H a y o)(m:Zp y u)(h:∀ s',Inv X ge σ H s'->Q (.bool (!o.isSome)) s') :
  aG (aI X.prog X.w) A (bx .NotIn u (.ref a)) Q E s:=by
 rcases g with g|⟨rfl,⟨k,rfl⟩,e⟩|⟨rfl,⟨k,b,rfl,eb⟩,e⟩|⟨kvs,k,b,e,rfl,eb,rfl⟩|⟨rfl,⟨k,b,rfl,eb⟩,e⟩
 ·exact Kl (by omega) I g m h
 ·obtain⟨z,hd,vs,rel,dd⟩:=W4 I.hok e
  cases rel
  exact wpAny_notIn_of (W1 m) hd (Rq dd).mapOf (h _ (I.tok _))
 ·obtain⟨z,hd,vs,rel,dd⟩:=W2 I.hok e
  cases rel
  cases (show u=aD b from m)
  exact fr (dD (by omega)) (W3 I.hok eb) hd (d_KT dd) (h _ (I.tok _))
 ·obtain⟨z,hd,xs,rel,dd⟩:=TQ I.hok e
  cases (show u=aD b from m)
  refine fr (Uq j) (VE I.hok eb) hd dd ?_
  have q:=(rel.val k).isSome_eq
  rw[eB] at q
  rw[<- q]
  exact h _ (I.tok _)
 ·obtain⟨hd,dd⟩:=Ob I.hok e
  cases (show u=aD b from m)
  exact fr (Uq j) (VE I.hok eb) hd (d_KN dd) (h _ (I.tok _))
end
def Rt(neg:Bool):R2:=λx y H Q=>∃ a r,y=.ref a/\Rr H a x r/\Q (.bl (if neg then !r.isSome else r.isSome)) H
theorem KW(j:X.A.units+64<cK):OpR X (bx .In) (Rt aw):=by
 intro O s Z H x y v u Q I N m h
 obtain⟨a,r,rfl,g,q⟩:=h
 cases m
 exact KS (by omega) I g N λl J=>⟨.bl _,H,J,rfl,q⟩
theorem KY(j:X.A.units+64<cK):OpR X (bx .NotIn) (Rt ac):=by
 intro O s Z H x y v u Q I N m h
 obtain⟨a,r,rfl,g,q⟩:=h
 cases m
 exact KU (by omega) I g N λl J=>⟨.bl _,H,J,rfl,q⟩
def Ru:R2:=λx y H Q=>∃ a v,x=.ref a/\KQ H a y (aa v)/\Q v H
theorem KZ(j:X.A.units+64<cK):IxR X Ru:=by
 intro n A O s Z H x y v u Q I N m h B
 obtain⟨a,K,rfl,g,q⟩:=h
 cases N
 have c:s.TypeIs (.ref a) "dict" := by
  rcases g with g|⟨kvs,k,b,e,_⟩
  ·exact Km I g
  ·obtain⟨_,_,xs,_,o,es,E,U,R,_⟩:=TQ I.hok e
   exact⟨o,U,R.1⟩
 unfold iT
 refine ae ?_
 rw[getitemInPython_of_ne c.not_modules]
 refine ae (eu c PySem.F.slot_dict_getitem.lookup ?_)
 have fin:aG (aI X.prog X.w) X.A (jA A aw (.ref a) u) (λr s₃=>aG (aI X.prog X.w) X.A (letTemporaryGo n (.ref a) r >>= λ_=>dZ r) (EP X O Z Q) X.xe s₃) X.xe s:=by
  rw[B]
  rcases g with g|⟨kvs,k,b,e,rfl,eb,l⟩
  ·exact wpAny_operating (Kk (by omega) I g m λr f J w=>ae (jy (am ⟨K,H,J,w,q⟩)))
  ·exact wpAny_operating (KR (by omega) I e eb l m λr f J w=>ae (jy (am ⟨K,H,J,w,q⟩)))
 first
  | exact am (ae fin)
  | exact ae (am (ae fin))
  | exact ae fin
def Ur(d:ak)(es:List ak):Bool:=es.any λe=>fJ e d
def Rv(K:ay)(neg:Bool):R2:=λx y H Q=>∃ d es,Rep K H x d/\(Rep K H y (.list es)\/Rep K H y (.tuple es))/\d.canLay0=ac/\cV es=ac/\d.depth<=32/\Q (.bl (if neg then !Ur d es else Ur d es)) H
theorem K0(hK:X.K=K)(j:X.A.units+64<cK):OpR X (bx .In) (Rv K aw):=by
 subst hK
 intro O s Z H x y v u Q I N m h
 obtain⟨d,es,U,R,S,F,Y,q⟩:=h
 obtain⟨as,k1⟩:=Rep.reads I S U N
 rcases R with R|R
 ·obtain⟨bs,k2⟩:=Rep.reads I (by simpa [b'] using F) R m
  exact SeqAt.in_list_reads k2 k1 F S (by omega) ⟨.bl _,H,I,rfl,q⟩
 ·obtain⟨bs,k2⟩:=Rep.reads I (by simpa [b'] using F) R m
  exact SeqAt.in_tuple_reads k2 k1 F S (by omega) ⟨.bl _,H,I,rfl,q⟩
theorem K1(hK:X.K=K)(j:X.A.units+64<cK):OpR X (bx .NotIn) (Rv K ac):=by
 subst hK
 intro O s Z H x y v u Q I N m h
 obtain⟨d,es,U,R,S,F,Y,q⟩:=h
 obtain⟨as,k1⟩:=Rep.reads I S U N
 rcases R with R|R
 ·obtain⟨bs,k2⟩:=Rep.reads I (by simpa [b'] using F) R m
  exact SeqAt.notIn_list_reads k2 k1 F S (by omega) ⟨.bl _,H,I,rfl,q⟩
 ·obtain⟨bs,k2⟩:=Rep.reads I (by simpa [b'] using F) R m
  exact SeqAt.notIn_tuple_reads k2 k1 F S (by omega) ⟨.bl _,H,I,rfl,q⟩
theorem Od{α:Type}[DecidableEq α]{f:α->ak}{m:Nat}(F:Enc f m)(c:α):∀ xs:List α,Ur (f c) (xs.map f)=decide (c∈xs)
 | []=>by simp[Ur]
 | x::xs=>by
  have B:=Od F c xs
  unfold Ur at B ⊢
  rw[bp,jE,B,F.dec]
  by_cases e:x=c
  ·subst e;simp
  ·have N:¬ c=x:=λz=>e z.symm
   simp[e,N]
theorem Oe{α:Type}{f:α->ak}{m:Nat}(F:Enc f m):∀ xs:List α,cV (xs.map f)=ac
 | []=>by simp[cV]
 | x::xs=>by simp[cV,F.lay x,Oe F xs]
def rInS(neg:Bool):R2:=λx y H Q=>∃ i j,x=.str i/\y=.str j/\Q (.bl (if neg then !(!(b0 j i 0 j.length 1).isEmpty) else !(b0 j i 0 j.length 1).isEmpty)) H
def VF(K:ay)(neg:Bool):R2:=λx y H Q=>Rv K neg x y H Q\/Rt neg x y H Q\/rInS neg x y H Q
theorem Xy(hK:X.K=K)(j:X.A.units+64<cK):OpR X (bx .In) (VF K aw):=(K0 hK j).or ((KW j).or Lr)
theorem K2(hK:X.K=K)(j:X.A.units+64<cK):OpR X (bx .NotIn) (VF K ac):=(K1 hK j).or ((KY j).or L6)
inductive AV where
 | d (x:ak)
 | own (xs:List AV)
 | tup (xs:List AV)
 | dic (kvs:List (ak×ak))
 | obj (φ:V->Hp->Prop)
inductive TV where
 | av (a:AV)
 | bor (x:ak)
 | raw (v:V)
abbrev Sl:=List (Option AV)
abbrev Fp:=ah->Nat
mutual
noncomputable def AV.data:AV->ak
 | .d x=>x
 | .own xs=>.list (AV.datas xs)
 | .tup xs=>.tuple (AV.datas xs)
 | .dic kvs=>.dict kvs
 | .obj _=>dJ
noncomputable def AV.datas:List AV->List ak
 | []=>[]
 | x::xs=>x.data::AV.datas xs
end
theorem AV.datas_map:∀ xs:List AV,AV.datas xs=xs.map AV.data
 | []=>rfl
 | x::xs=>by rw[AV.datas,AV.datas_map xs];rfl
def Yh(K:ay)(G:Hp)(o:HO)(kvs:List (ak×ak)):Prop :=
 (∃ (ks:List (Key×V)) (ds:List ak),o=.dK ks/\Reps K G (ks.map bz) ds/\kvs=(ks.map λp=>YB p.1).zip ds) \/
 (∃ (ks:List (List Key×V)) (ds:List ak),o=.dT ks/\Reps K G (ks.map bz) ds/\kvs=(ks.map λp=>cC (p.1.map YB)).zip ds) \/
 (∃ (ks:List ((Key×List Key)×V)) (ds:List ak),ks≠[]/\o=.dN ks/\Reps K G (ks.map bz) ds/\kvs=(ks.map λp=>cC [YB p.1.1,.tuple (p.1.2.map YB)]).zip ds) \/
 ∃ (C dx:ah) (fs:List (au×V)) (ds:List ak),o=.ins C dx fs/\fs.map bH=rdN/\Reps K G (fs.map bz) ds/\kvs=(.none,.int C)::(.none,.bool ac)::(fs.map λp=>aY p.1).zip ds
variable{G G':Hp}{kvs:List (ak×ak)}
theorem Yh.mono(h:Yh K G o kvs)(m:Zg G G'):Yh K G' o kvs:=by
 rcases h with⟨c,ds,e,r,z⟩|⟨c,ds,e,r,z⟩|⟨c,ds,n,e,r,z⟩|⟨C,dx,fs,ds,e,n,r,z⟩
 ·exact .inl ⟨c,ds,e,r.same m,z⟩
 ·exact .inr (.inl ⟨c,ds,e,r.same m,z⟩)
 ·exact .inr (.inr (.inl ⟨c,ds,n,e,r.same m,z⟩))
 ·exact .inr (.inr (.inr ⟨C,dx,fs,ds,e,n,r.same m,z⟩))
theorem Yh.rep(h:Yh K G o kvs)(e:G a=aa o):Rep K G (.ref a) (.dict kvs):=by
 rcases h with⟨c,ds,rfl,r,z⟩|⟨c,ds,rfl,r,z⟩|⟨c,ds,n,rfl,r,z⟩|⟨C,dx,fs,ds,rfl,n,r,z⟩
 ·exact .dK (.inl e) r z
 ·exact .dT (.inl e) r z
 ·exact .dN n (.inl e) r z
 ·exact .rd e n r z
def Mu:HO->Prop
 | .lst _=>True
 | .dK _=>True
 | .dT _=>True
 | .dN _=>True
 | .ins _ _ fs=>fs.map bH=rdN
 | _=>False
theorem Yh.mu(h:Yh K G o kvs):Mu o:=by
 rcases h with⟨c,ds,rfl,_⟩|⟨c,ds,rfl,_⟩|⟨c,ds,_,rfl,_⟩|⟨C,dx,fs,ds,rfl,n,_⟩
 ·trivial
 ·trivial
 ·trivial
 ·exact n
mutual
inductive RA(K:ay)(G H:Hp):V->AV->Fp->Prop
 | d {v:V} {x:ak} {p:Fp}:Rep K G v x->(∀ b,p b=0)->RA K G H v (.d x) p
 | own {a:ah} {vs:List V} {xs:List AV} {p q:Fp}:H a=aa (.lst vs)->RAs K G H vs xs p->(∀ b,q b=(if b=a then 1 else 0)+p b)->RA K G H (.ref a) (.own xs) q
 | tup {a:ah} {vs:List V} {xs:List AV} {p:Fp}:G a=aa (.tup vs)->RAs K G H vs xs p->RA K G H (.ref a) (.tup xs) p
 | dic {a:ah} {o:HO} {kvs:List (ak×ak)} {q:Fp}:H a=aa o->Yh K G o kvs->(∀ b,q b=if b=a then 1 else 0)->RA K G H (.ref a) (.dic kvs) q
 | obj {v:V} {φ:V->Hp->Prop} {p:Fp}:φ v G->(∀ G1 G2:Hp,Zg G1 G2->φ v G1->φ v G2)->(∀ b,p b=0)->RA K G H v (.obj φ) p
inductive RAs(K:ay)(G H:Hp):List V->List AV->Fp->Prop
 | nil {p:Fp}:(∀ b,p b=0)->RAs K G H [] [] p
 | cons {v:V} {x:AV} {vs:List V} {xs:List AV} {p q r:Fp}:RA K G H v x p->RAs K G H vs xs q->(∀ b,r b=p b+q b)->RAs K G H (v::vs) (x::xs) r
end
theorem RA.ind{M:V->AV->Fp->Prop}{N:List V->List AV->Fp->Prop}(h1:∀ {v x p},Rep K G v x->(∀ b,p b=0)->M v (.d x) p)(h2:∀ {a vs xs p q},H a=aa (.lst vs)->N vs xs p->(∀ b,q b=(if b=a then 1 else 0)+p b)->M (.ref a) (.own xs) q)
  (h3:∀ {a vs xs p},G a=aa (.tup vs)->N vs xs p->M (.ref a) (.tup xs) p) (h4:∀ {a o kvs q},H a=aa o->Yh K G o kvs->(∀ b,q b=if b=a then 1 else 0)->M (.ref a) (.dic kvs) q) (Y:∀ {v φ p},φ v G->(∀ G1 G2:Hp,Zg G1 G2->φ v G1->φ v G2)->(∀ b,p b=0)->M v (.obj φ) p)
  (n:∀ {p},(∀ b,p b=0)->N [] [] p) (c:∀ {v x vs xs p q r},M v x p->N vs xs q->(∀ b,r b=p b+q b)->N (v::vs) (x::xs) r):(∀ {v a p},RA K G H v a p->M v a p)/\∀ {vs xs p},RAs K G H vs xs p->N vs xs p :=
 ⟨λh=>RA.rec (motive_1:=λv a p _=>M v a p) (motive_2:=λv a p _=>N v a p) h1 (λh _ e i=>h2 h i e) (λh _ i=>h3 h i) h4 Y n (λ_ _ e i j=>c i j e) h,λh=>RAs.rec (motive_1:=λv a p _=>M v a p) (motive_2:=λv a p _=>N v a p) h1 (λh _ e i=>h2 h i e) (λh _ i=>h3 h i) h4 Y n (λ_ _ e i j=>c i j e) h⟩
inductive RSl(K:ay)(G H:Hp):St->Sl->Fp->Prop
 | nil {p:Fp}:(∀ b,p b=0)->RSl K G H [] [] p
 | no {o:Option V} {σ:St} {ρ:Sl} {p:Fp}:RSl K G H σ ρ p->RSl K G H (o::σ) (none::ρ) p
 | so {v:V} {a:AV} {σ:St} {ρ:Sl} {p q r:Fp}:RA K G H v a p->RSl K G H σ ρ q->(∀ b,r b=p b+q b)->RSl K G H (aa v::σ) (aa a::ρ) r
inductive RT(K:ay)(G H:Hp):V->TV->Fp->Prop
 | av {v:V} {a:AV} {p:Fp}:RA K G H v a p->RT K G H v (.av a) p
 | bor {v:V} {x:ak} {p:Fp}:Rep K H v x->(∀ b,p b=0)->RT K G H v (.bor x) p
 | raw {v:V} {p:Fp}:(∀ b,p b=0)->RT K G H v (.raw v) p
inductive RTs(K:ay)(G H:Hp):List V->List TV->Fp->Prop
 | nil {p:Fp}:(∀ b,p b=0)->RTs K G H [] [] p
 | cons {v:V} {x:TV} {vs:List V} {xs:List TV} {p q r:Fp}:RT K G H v x p->RTs K G H vs xs q->(∀ b,r b=p b+q b)->RTs K G H (v::vs) (x::xs) r
def hid(H:Hp)(p q:Fp):Hp:=λb=>if p b+q b=0 then H b else none
inductive SRx(K:ay)(H0:Hp)(σ:St)(ρ:Sl)(ts:List V)(as:List TV)(H:Hp):Prop where
 | mk (p q:Fp) (O:RSl K (hid H p q) H σ ρ p) (Z:RTs K (hid H p q) H ts as q) (L:∀ b,p b+q b<=1) (F:∀ b,0<p b+q b->H0 b=none)
structure SR(K:ay)(H0:Hp)(σ:St)(ρ:Sl)(ts:List V)(as:List TV)(H:Hp):Prop where
 ex:SRx K H0 σ ρ ts as H
 same:Zg H0 H
variable{u:TS}{p q p' q':Fp}{H0:Hp}{ρ:Sl}{ts:List V}{as:List TV}
theorem RA.monoB(n:Zg G G'):(∀ {v:V} {a:AV} {p:Fp},RA K G H v a p->(∀ b o,0<p b->H b=aa o->H' b=aa o)->RA K G' H' v a p)/\∀ {vs:List V} {xs:List AV} {p:Fp},RAs K G H vs xs p->(∀ b o,0<p b->H b=aa o->H' b=aa o)->RAs K G' H' vs xs p :=
 RA.ind (M:=λv a p=>(∀ b o,0<p b->H b=aa o->H' b=aa o)->RA K G' H' v a p) (N:=λvs xs p=>(∀ b o,0<p b->H b=aa o->H' b=aa o)->RAs K G' H' vs xs p) (λr e _=>.d (r.same n) e) (λ{a _ _ _ _} h i e c=>.own (c a _ (by have:=e a;simp at this;omega) h) (i λb o z=>c b o (by have:=e b;omega)) e)
  (λh i c=>.tup (n _ _ h) (i c)) (λ{a _ _ _} h d e c=>.dic (c a _ (by have:=e a;simp at this;omega) h) (d.mono n) e) (λh m e _=>.obj (m _ _ n h) m e) (λe _=>.nil e) λi j e c=>.cons (i λb o z=>c b o (by have:=e b;omega)) (j λb o z=>c b o (by have:=e b;omega)) e
theorem RA.mono(n:Zg G G'){a:AV}(c:∀ b o,0<p b->H b=aa o->H' b=aa o)(h:RA K G H v a p):RA K G' H' v a p:=(RA.monoB n).1 h c
theorem RAs.mono(n:Zg G G')(c:∀ b o,0<p b->H b=aa o->H' b=aa o)(h:RAs K G H vs xs p):RAs K G' H' vs xs p:=(RA.monoB n).2 h c
theorem RA.lstB:(∀ {v:V} {a:AV} {p:Fp},RA K G H v a p->∀ b,0<p b->∃ o,H b=aa o/\Mu o)/\∀ {vs:List V} {xs:List AV} {p:Fp},RAs K G H vs xs p->∀ b,0<p b->∃ o,H b=aa o/\Mu o:=by
 refine RA.ind (M:=λv a p=>∀ b,0<p b->∃ o,H b=aa o/\Mu o) (N:=λvs xs p=>∀ b,0<p b->∃ o,H b=aa o/\Mu o) (λr e b z=>absurd (e b) (cq z)) (λ{a vs xs p q} h i e b z=>?_) (λh i b z=>i b z) (λ{a o kvs q} h d e b z=>?_) (λ_ _ e b z=>absurd (e b) (cq z)) (λe b z=>absurd (e b) (cq z)) λ{v x vs xs p q r} i j e b z=>?_
 ·by_cases c:b=a
  ·subst c;exact⟨_,h,trivial⟩
  ·exact i b (by have:=e b;simp[c] at this;omega)
 ·by_cases c:b=a
  ·subst c;exact⟨_,h,d.mu⟩
  ·have:=e b;simp[c] at this;omega
 ·have:=e b
  rcases ax (p b) with h|h
  ·exact j b (by omega)
  ·exact i b h
theorem RA.lst{v:V}{a:AV}{p:Fp}(h:RA K G H v a p):∀ b,0<p b->∃ o,H b=aa o/\Mu o:=RA.lstB.1 h
theorem RAs.lst{vs:List V}{xs:List AV}{p:Fp}(h:RAs K G H vs xs p):∀ b,0<p b->∃ o,H b=aa o/\Mu o:=RA.lstB.2 h
theorem RSl.mono(n:Zg G G'){p:Fp}(r:RSl K G H σ ρ p):(∀ b o,0<p b->H b=aa o->H' b=aa o)->RSl K G' H' σ ρ p:=by
 induction r with
 | nil e=>exact λ_=>.nil e
 | no _ B=>exact λh=>.no (B h)
 | so r _ e B=>exact λh=>.so (r.mono n (λb o z=>h b o (by have:=e b;omega))) (B λb o z=>h b o (by have:=e b;omega)) e
theorem RSl.lst{p:Fp}(r:RSl K G H σ ρ p):∀ b,0<p b->∃ o,H b=aa o/\Mu o:=by
 induction r with
 | nil e=>intro b z;have:=e b;omega
 | no _ B=>exact B
 | @so v a σ ρ c A L r _ e B =>
  intro b z
  have:=e b
  rcases ax (c b) with h|h
  ·exact B b (by omega)
  ·exact r.lst b h
theorem RT.mono{v:V}{a:TV}{p:Fp}(n:Zg G G')(c:Zg H H')(r:RT K G H v a p):RT K G' H' v a p:=by
 cases r with
 | av r=>exact .av (r.mono n λb o _=>c b o)
 | bor r e=>exact .bor (r.same c) e
 | raw e=>exact .raw e
theorem RT.lst{v:V}{a:TV}{p:Fp}(r:RT K G H v a p):∀ b,0<p b->∃ o,H b=aa o/\Mu o:=by
 cases r with
 | av r=>exact r.lst
 | bor r e=>intro b z;have:=e b;omega
 | raw e=>intro b z;have:=e b;omega
theorem RTs.mono{p:Fp}(n:Zg G G')(c:Zg H H')(r:RTs K G H ts as p):RTs K G' H' ts as p:=by
 induction r with
 | nil e=>exact .nil e
 | cons r _ e B=>exact .cons (r.mono n c) B e
theorem RTs.lst{p:Fp}(r:RTs K G H ts as p):∀ b,0<p b->∃ o,H b=aa o/\Mu o:=by
 induction r with
 | nil e=>intro b z;have:=e b;omega
 | @cons v x vs xs c A L r _ e B =>
  intro b z
  have:=e b
  rcases ax (c b) with h|h
  ·exact B b (by omega)
  ·exact r.lst b h
def Stb(as:List TV):Prop:=∀ a∈as,∃ x,a=.av (.d x)
theorem Stb.nil:Stb []:=λ_ h=>nomatch h
theorem Stb.cons{x:ak}(h:Stb as):Stb (.av (.d x)::as):=λb G=>by
 rcases eR.mp G with e|e
 ·exact⟨x,e⟩
 ·exact h b e
theorem RTs.monoS(n:Zg G G')(r:RTs K G H ts as p):Stb as->(∀ b o,0<p b->H b=aa o->H' b=aa o)->RTs K G' H' ts as p:=by
 induction r with
 | nil e=>exact λ_ _=>.nil e
 | cons r _ e B =>
  intro C c
  refine .cons ?_ (B (λa l=>C a (.tail _ l)) λb o z=>c b o (by have:=e b;omega)) e
  cases r with
  | av r=>exact .av (r.mono n λb o z=>c b o (by have:=e b;omega))
  | bor _ _=>obtain⟨x,e⟩:=C _ (.head _);cases e
  | raw e=>exact .raw e
theorem VG(h:Zg H H'):Zg (hid H p q) (hid H' p q):=λb o e=>by
 unfold hid at e ⊢
 split at e
 ·rename_i z;rw[if_pos z];exact h b o e
 ·cases e
theorem Y5:Zg (hid H p q) H:=λb o e=>by
 unfold hid at e
 split at e
 ·exact e
 ·cases e
theorem hid_more(h:∀ b,p b+q b=0->p' b+q' b=0):Zg (hid H p q) (hid H p' q'):=λb o e=>by
 unfold hid at e ⊢
 split at e
 ·rename_i z;rw[if_pos (h b z)];exact e
 ·cases e
theorem K3(h:∀ b,p b+q b=p' b+q' b):hid H p q=hid H p' q':=by
 funext b;unfold hid;rw[h b]
theorem SR.ext(h:SR K H0 σ ρ ts as H)(e:Zg H H'):SR K H0 σ ρ ts as H':=by
 obtain⟨⟨p,q,U,R,S,F⟩,s⟩:=h
 exact⟨⟨p,q,U.mono (VG e) (λb o _=>e b o),R.mono (VG e) e,S,F⟩,s.trans e⟩
theorem Of{xs:List V}(L:∀ b,0<p b+q b->∃ o,H b=aa o/\Mu o)(h:H a=aa (.tup xs)):L2.hid H p q a=aa (.tup xs):=by
 unfold L2.hid
 rw[if_pos]
 ·exact h
 ·rcases ax (p a+q a) with z|z
  ·exact z
  ·obtain⟨vs,e,mu⟩:=L a z;rw[h] at e;cases e;exact mu.elim
theorem Og{u:HO}(L:∀ b,0<p b+q b->∃ o,H b=aa o/\Mu o)(nu:¬ Mu u)(h:H a=aa u):L2.hid H p q a=aa u:=by
 unfold L2.hid
 rw[if_pos]
 ·exact h
 ·rcases ax (p a+q a) with z|z
  ·exact z
  ·obtain⟨vs,e,mu⟩:=L a z;rw[h] at e;cases e;exact (nu mu).elim
theorem Rep.hidB(L:∀ b,0<p b+q b->∃ o,H b=aa o/\Mu o):(∀ {v:V} {x:ak},Rep K H v x->Z9 x=ac->Rep K (L2.hid H p q) v x)/\∀ {vs:List V} {xs:List ak},Reps K H vs xs->vs.length=xs.length/\(noLsts xs=ac->Reps K (L2.hid H p q) vs xs) :=
 Rep.indF (M:=λv x=>Z9 x=ac->Rep K (L2.hid H p q) v x) (N:=λvs xs=>vs.length=xs.length/\(noLsts xs=ac->Reps K (L2.hid H p q) vs xs)) (λ_=>.non) (λb _=>.bl b) (λi _=>.int i) (λx _=>.str x) (λ_ _ f=>by simp[Z9] at f) (λh i f=>.tup (Of L h) (i.2 (by simpa [Z9] using f))) (λ_ _ z f=>(KG z f).elim)
  (λh k i f=>.ins (Og L k h) k (i.2 ((P7 (by have:=i.1;simpa using this)).mp f)) rfl) (λh i f=>.fz (Og L (λz=>z) h) (i.2 (TM.mp f)) rfl) ⟨rfl,λ_=>.nil⟩ λi j=>⟨congrArg (· + 1) j.1,λf=>by
  simp only[noLsts,aJ] at f
  exact .cons (i f.1) (j.2 f.2)⟩
theorem Rep.hid{p q:Fp}(L:∀ b,0<p b+q b->∃ o,H b=aa o/\Mu o){v:V}{x:ak}(hn:Z9 x=ac)(h:Rep K H v x):Rep K (L2.hid H p q) v x:=(Rep.hidB L).1 h hn
theorem Reps.hid{p q:Fp}(L:∀ b,0<p b+q b->∃ o,H b=aa o/\Mu o){vs:List V}{xs:List ak}(hn:noLsts xs=ac)(h:Reps K H vs xs):Reps K (L2.hid H p q) vs xs:=((Rep.hidB L).2 h).2 hn
theorem RA.frzB(n:Zg G G'):(∀ {v:V} {a:AV} {p:Fp},RA K G H v a p->(∀ b o,0<p b->H b=aa o->G' b=aa o)->Rep K G' v a.data)/\∀ {vs:List V} {xs:List AV} {p:Fp},RAs K G H vs xs p->(∀ b o,0<p b->H b=aa o->G' b=aa o)->Reps K G' vs (AV.datas xs) :=
 RA.ind (M:=λv a p=>(∀ b o,0<p b->H b=aa o->G' b=aa o)->Rep K G' v a.data) (N:=λvs xs p=>(∀ b o,0<p b->H b=aa o->G' b=aa o)->Reps K G' vs (AV.datas xs)) (λr _ _=>r.same n) (λ{a _ _ _ _} e i z h=>.lst (SqL.of (h a _ (by have:=z a;simp at this;omega) e)) (i λb o y=>h b o (by have:=z b;omega)))
  (λe i h=>.tup (n _ _ e) (i h)) (λ{a _ _ _} e d z h=>(d.mono n).rep (h a _ (by have:=z a;simp at this;omega) e)) (λ_ _ _ _=>.junk) (λ_ _=>.nil) λi j z h=>.cons (i λb o y=>h b o (by have:=z b;omega)) (j λb o y=>h b o (by have:=z b;omega))
theorem RA.frz(n:Zg G G'){v:V}{a:AV}{p:Fp}(c:∀ b o,0<p b->H b=aa o->G' b=aa o)(h:RA K G H v a p):Rep K G' v a.data:=(RA.frzB n).1 h c
theorem RAs.frz(n:Zg G G'){vs:List V}{xs:List AV}{p:Fp}(c:∀ b o,0<p b->H b=aa o->G' b=aa o)(h:RAs K G H vs xs p):Reps K G' vs (AV.datas xs):=(RA.frzB n).2 h c
theorem RA.rep(n:Zg G H){a:AV}(h:RA K G H v a p):Rep K H v a.data:=h.frz n λ_ _ _ z=>z
theorem RAs.rep(n:Zg G H)(h:RAs K G H vs xs p):Reps K H vs (AV.datas xs):=h.frz n λ_ _ _ z=>z
noncomputable def TV.data:TV->ak
 | .av a=>a.data
 | .bor x=>x
 | .raw _=>.none
theorem RT.rep{v:V}{a:TV}{p:Fp}(n:Zg G H)(J:∀ v,a≠.raw v)(r:RT K G H v a p):Rep K H v a.data:=by
 cases r with
 | av r=>exact r.rep n
 | bor r _=>exact r
 | raw _=>exact absurd rfl (J _)
structure Exc where
 cls:ah
 fs:List (au×ak):=[]
def WF(K:ay)(H:Hp)(e:Exc)(c:af)(d:Option ah):Prop :=
 c=.ref e.cls/\((e.fs=[]/\d=none)\/∃ a vs,d=aa a/\H a=aa (hXD a vs)/\vs.map bH=e.fs.map bH/\Reps K H (vs.map bz) (e.fs.map bz))
class Tabs where
 ts:List (ah×(Nat->Nat->au))
variable [Tabs]
def Xz(H:Hp):Prop:=∀ p∈Tabs.ts,H p.1=aa (.tbq p.2)
theorem Xz.same(t:Xz H)(s:Zg H H'):Xz H':=λp O=>s _ _ (t p O)
structure XOk(K:ay)(E:FK)(X:Exc->Sl->Prop)(H0:Hp):Prop where
 x:∀ e ρ,X e ρ->∀ c d σ H',SR K H0 σ ρ [] [] H'->WF K H' e c d->E c d σ H'
 t:Xz H0
def NE:Exc->Sl->Prop:=λ_ _=>False
theorem XOk.ne{E:FK}(t:Xz H0):XOk K E NE H0:=⟨λ_ _ z=>z.elim,t⟩
structure VEnds where
 nx:Sl->Prop
 rt:TV->Prop
 bk:Sl->Prop:=λ_=>False
 ct:Sl->Prop:=λ_=>False
structure Fit(K:ay)(H0:Hp)(ts:List V)(as:List TV)(DV:VEnds)(D:Ends):Prop where
 nx:∀ ρ,DV.nx ρ->∀ σ H,SR K H0 σ ρ ts as H->D.nx σ H
 bk:∀ ρ,DV.bk ρ->∀ σ H,SR K H0 σ ρ ts as H->D.bk σ H
 ct:∀ ρ,DV.ct ρ->∀ σ H,SR K H0 σ ρ ts as H->D.ct σ H
 rt:∀ a,DV.rt a->∀ v σ ρ H,SR K H0 σ ρ (v::ts) (a::as) H->D.rt v H
noncomputable def TV.sto:TV->Option AV
 | .av a=>aa a
 | .bor x=>if Z9 x=ac then aa (.d x) else none
 | .raw _=>none
section
variable (K:ay)(E:FK)(X:Exc->Sl->Prop)
def Ev(t:TE)(ρ:Sl)(Q:TV->Prop):Prop :=
 ∀ (H0:Hp) (σ:St) (ts:List V) (as:List TV) (H:Hp) (QV:VK),SR K H0 σ ρ ts as H->XOk K E X H0->(∀ a,Q a->∀ v H',SR K H0 σ ρ (v::ts) (a::as) H'->QV v H')->t σ H QV
def Tv(t:TT)(ρ:Sl)(Q:Bool->Prop):Prop :=
 ∀ (H0:Hp) (σ:St) (ts:List V) (as:List TV) (H:Hp) (QV:Bool->Hp->Prop),SR K H0 σ ρ ts as H->XOk K E X H0->(∀ b,Q b->∀ H',SR K H0 σ ρ ts as H'->QV b H')->t σ H QV
def Ea(t:TA)(ρ:Sl)(Q:List TV->Prop):Prop :=
 ∀ (H0:Hp) (σ:St) (ts:List V) (as:List TV) (H:Hp) (QV:List V->Hp->Prop),SR K H0 σ ρ ts as H->XOk K E X H0->(∀ bs,Q bs->∀ vs H',SR K H0 σ ρ (vs++ts) (bs++as) H'->vs.length=bs.length->QV vs H')->t σ H QV
def Op(r:R2)(a b:TV)(Q:TV->Prop):Prop :=
 ∀ (H0:Hp) (σ:St) (ρ:Sl) (ts:List V) (as:List TV) (H:Hp) (x y:V) (QV:VK),SR K H0 σ ρ (y::x::ts) (b::a::as) H->XOk K E X H0->(∀ c,Q c->∀ v H',SR K H0 σ ρ (v::ts) (c::as) H'->QV v H')->r x y H QV
def Un1(r:V->Hp->VK->Prop)(a:TV)(Q:TV->Prop):Prop :=
 ∀ (H0:Hp) (σ:St) (ρ:Sl) (ts:List V) (as:List TV) (H:Hp) (x:V) (QV:VK),SR K H0 σ ρ (x::ts) (a::as) H->XOk K E X H0->(∀ c,Q c->∀ v H',SR K H0 σ ρ (v::ts) (c::as) H'->QV v H')->r x H QV
def Bi(r:List V->Hp->VK->Prop)(bs:List TV)(Q:TV->Prop):Prop :=
 ∀ (H0:Hp) (σ:St) (ρ:Sl) (ts:List V) (as:List TV) (H:Hp) (vs:List V) (QV:VK),SR K H0 σ ρ (vs++ts) (bs++as) H->vs.length=bs.length->XOk K E X H0->(∀ c,Q c->∀ v H',SR K H0 σ ρ (v::ts) (c::as) H'->QV v H')->r vs H QV
def Sv(t:TS)(ρ:Sl)(DV:VEnds):Prop :=
 ∀ (H0:Hp) (σ:St) (ts:List V) (as:List TV) (H:Hp) (D:Ends),Stb as->SR K H0 σ ρ ts as H->XOk K E X H0->Fit K H0 ts as DV D->t D σ H
end
variable{a b:TV}{i:Nat}
section
variable{y:V}
theorem SR.top(h:SR K H0 σ ρ (v::ts) (a::as) H)(J:∀ v,a≠.raw v):Rep K H v a.data:=by
 obtain⟨⟨p,q,_,R,_,_⟩,_⟩:=h
 cases R with
 | cons r _ _=>exact r.rep Y5 J
theorem SR.top_d{x:ak}(h:SR K H0 σ ρ (v::ts) (.av (.d x)::as) H):Rep K H v x:=h.top (a:=.av (.d x)) (λ_ z=>nomatch z)
theorem SR.raw{u:V}(h:SR K H0 σ ρ (v::ts) (.raw u::as) H):v=u:=by
 obtain⟨⟨p,q,_,R,_,_⟩,_⟩:=h
 cases R with
 | cons r _ _=>cases r;rfl
theorem SR.pop(h:SR K H0 σ ρ (v::ts) (a::as) H):SR K H0 σ ρ ts as H:=by
 obtain⟨⟨p,q,U,R,S,F⟩,s⟩:=h
 cases R with
 | @cons _ _ _ _ c A _ r rs e =>
  refine⟨⟨p,A,U.mono (hid_more λb z=>by have:=e b;omega) (λ_ _ _ z=>z),rs.mono (hid_more λb z=>by have:=e b;omega) (λ_ _ z=>z),λb=>by have:=e b;have:=S b;omega,λb z=>F b (by have:=e b;omega)⟩,s⟩
theorem SR.push(h:SR K H0 σ ρ ts as H){x:ak}(r:∀ G,Rep K G v x):SR K H0 σ ρ (v::ts) (.av (.d x)::as) H:=by
 obtain⟨⟨p,q,U,R,S,F⟩,s⟩:=h
 exact⟨⟨p,q,U,.cons (.av (.d (p:=λ_=>0) (r _) λ_=>rfl)) R (λb=>by simp),S,F⟩,s⟩
theorem SR.pushB(h:SR K H0 σ ρ ts as H){x:ak}(r:Rep K H v x):SR K H0 σ ρ (v::ts) (.bor x::as) H:=by
 obtain⟨⟨p,q,U,R,S,F⟩,s⟩:=h
 exact⟨⟨p,q,U,.cons (.bor (p:=λ_=>0) r λ_=>rfl) R (λb=>by simp),S,F⟩,s⟩
theorem SR.pushR(h:SR K H0 σ ρ ts as H):SR K H0 σ ρ (v::ts) (.raw v::as) H:=by
 obtain⟨⟨p,q,U,R,S,F⟩,s⟩:=h
 exact⟨⟨p,q,U,.cons (.raw (p:=λ_=>0) λ_=>rfl) R (λb=>by simp),S,F⟩,s⟩
theorem SR.lsts(h1:RSl K G H σ ρ p)(h2:RTs K G H ts as q):∀ b,0<p b+q b->∃ o,H b=aa o/\Mu o:=λb z=>by
 rcases ax (p b) with e|e
 ·exact h2.lst b (by omega)
 ·exact h1.lst b e
theorem SR.pushF(h:SR K H0 σ ρ ts as H){x:ak}(W:Z9 x=ac)(r:Rep K H v x):SR K H0 σ ρ (v::ts) (.av (.d x)::as) H:=by
 obtain⟨⟨p,q,U,R,S,F⟩,s⟩:=h
 exact⟨⟨p,q,U,.cons (.av (.d (p:=λ_=>0) (Rep.hid (SR.lsts U R) W r) λ_=>rfl)) R (λb=>by simp),S,F⟩,s⟩
theorem SR.int(h:SR K H0 σ ρ ts as H)(i:Int):SR K H0 σ ρ (.int i::ts) (.av (.d (.int i))::as) H:=h.push λ_=>.int i
theorem SR.bl(h:SR K H0 σ ρ ts as H)(i:Bool):SR K H0 σ ρ (.bl i::ts) (.av (.d (.bool i))::as) H:=h.push λ_=>.bl i
theorem SR.sto{j:AV}(h:SR K H0 σ ρ (v::ts) (a::as) H)(e:a.sto=aa j):SR K H0 σ ρ (v::ts) (.av j::as) H:=by
 cases a with
 | av a=>cases e;exact h
 | raw u=>cases e
 | bor x =>
  unfold TV.sto at e
  by_cases z:Z9 x=ac
  ·simp only[z,if_true,Option.some.injEq] at e
   subst e
   exact h.pop.pushF z (h.top (a:=.bor x) λ_ z=>nomatch z)
  ·simp[z] at e
theorem SR.frzT{a:AV}(h:SR K H0 σ ρ (v::ts) (.av a::as) H):SR K H0 σ ρ (v::ts) (.av (.d a.data)::as) H:=by
 obtain⟨⟨p,q,U,R,S,F⟩,s⟩:=h
 cases R with
 | @cons _ _ _ _ c A _ r rs e =>
  cases r with
  | av r =>
   have m:Zg (hid H p q) (hid H p A):=hid_more λb z=>by have:=e b;omega
   refine⟨⟨p,A,U.mono m (λ_ _ _ z=>z),.cons (.av (.d (p:=λ_=>0) (r.frz m λb o y z=>?_) λ_=>rfl)) (rs.mono m λ_ _ z=>z) (λb=>by simp),λb=>by have:=e b;have:=S b;omega,λb z=>F b (by have:=e b;omega)⟩,s⟩
   unfold hid
   rw[if_pos (by have:=e b;have:=S b;omega)]
   exact z
theorem RSl.frz{i:Nat}{a:AV}{p:Fp}{ρ:Sl}{σ:St}(r:RSl K G H σ ρ p)(hi:ρ[i]?=aa (aa a))(l:∀ b o,0<p b->H b=aa o->True) :
  ∃ (p1 p2:Fp) (v:V),(∀ b,p b=p1 b+p2 b)/\σ[i]?=aa (aa v)/\RA K G H v a p1/\∀ (G' H':Hp) (R:V) (j:AV) (f r':Fp),Zg G G'->(∀ b o,0<p2 b->H b=aa o->H' b=aa o)->RA K G' H' R j f->(∀ b,r' b=f b+p2 b)->RSl K G' H' (σ.set i (aa R)) (ρ.set i (aa j)) r':=by
 induction r generalizing i with
 | nil _=>simp at hi
 | @no o σ ρ p r B =>
  cases i with
  | zero=>simp at hi
  | succ i =>
   obtain⟨p1,p2,v,T,M,t,O⟩:=B (by simpa using hi) (λ_ _ _ _=>trivial)
   exact⟨p1,p2,v,T,by simpa using M,t,λG' H' R j f r' m n I z=>.no (O G' H' R j f r' m n I z)⟩
 | @so v k σ ρ g h W I r e B =>
  cases i with
  | zero =>
   have:k=a:=by simpa using hi
   subst this
   exact⟨g,h,v,e,rfl,I,λG' H' R j f r' m n c z=>.so c (r.mono m n) z⟩
  | succ i =>
   obtain⟨p1,p2,w,T,M,t,O⟩:=B (by simpa using hi) (λ_ _ _ _=>trivial)
   refine⟨p1,λb=>g b+p2 b,w,λb=>by have:=e b;have:=T b;dsimp only;omega,by simpa using M,t,λG' H' R j f r' m n c z=>?_⟩
   exact .so (I.mono m λb o y=>n b o (by dsimp only;omega)) (O G' H' R j f (λb=>f b+p2 b) m (λb o y=>n b o (by dsimp only;omega)) c λ_=>rfl) (λb=>by have:=z b;dsimp only at this ⊢;omega)
theorem TR{α:Type}:∀ {l:List α} {i:Nat} {x:α},l[i]?=aa x->l.set i x=l
 | [],_,_,h=>by simp at h
 | y::l,0,x,h=>by simp at h;simp[h]
 | y::l,i+1,x,h=>by simp at h;simp[TR h]
theorem RSl.len(r:RSl K G H σ ρ p):σ.length=ρ.length:=by
 induction r with
 | nil _=>rfl
 | no _ B=>simp[B]
 | so _ _ _ B=>simp[B]
theorem RSl.set{i:Nat}{w:V}{a:AV}{p p1:Fp}(r:RSl K G H σ ρ p)(hi:i<ρ.length)(I:RA K G H w a p1):∃ p2:Fp,(∀ b,p2 b<=p b)/\RSl K G H (σ.set i (aa w)) (ρ.set i (aa a)) (λb=>p1 b+p2 b):=by
 induction r generalizing i with
 | nil _=>simp at hi
 | @no o σ ρ p r B =>
  cases i with
  | zero=>exact⟨p,λ_=>ar _,.so I r λ_=>rfl⟩
  | succ i =>
   obtain⟨p2,T,M⟩:=B (by simpa using hi)
   exact⟨p2,T,.no M⟩
 | @so v k σ ρ g h W c r e B =>
  cases i with
  | zero=>exact⟨h,λb=>by have:=e b;omega,.so I r λ_=>rfl⟩
  | succ i =>
   obtain⟨p2,T,M⟩:=B (by simpa using hi)
   exact⟨λb=>g b+p2 b,λb=>by have:=e b;have:=T b;dsimp only;omega,.so c M λb=>by dsimp only;omega⟩
theorem SR.of_le(s:Zg H0 H)(h3:∀ b,p b+q b<=1)(h4:∀ b,0<p b+q b->H0 b=none)(O:∀ b,p' b+q' b<=p b+q b)(h1:RSl K (hid H p q) H σ ρ p')(h2:RTs K (hid H p q) H ts as q'):SR K H0 σ ρ ts as H :=
 ⟨⟨p',q',h1.mono (hid_more λb z=>by have:=O b;omega) (λ_ _ _ z=>z),h2.mono (hid_more λb z=>by have:=O b;omega) (λ_ _ z=>z),λb=>by have:=O b;have:=h3 b;omega,λb z=>h4 b (by have:=O b;omega)⟩,s⟩
theorem SR.store{a:AV}(h:SR K H0 σ ρ (v::ts) (.av a::as) H)(hi:i<ρ.length):SR K H0 (σ.set i (aa v)) (ρ.set i (aa a)) ts as H:=by
 obtain⟨⟨p,q,U,R,S,F⟩,s⟩:=h
 cases R with
 | @cons _ _ _ _ c A _ r rs e =>
  cases r with
  | av r =>
   obtain⟨Y,T,M⟩:=U.set hi r
   refine SR.of_le (p:=p) (q:=q) (p':=λb=>c b+Y b) (q':=A) s S F (λb=>?_) M rs
   have:=e b;have:=T b;omega
theorem RSl.drop{o:Option V}(r:RSl K G H σ ρ p):∃ p2:Fp,(∀ b,p2 b<=p b)/\RSl K G H (σ.set i o) (ρ.set i none) p2:=by
 induction r generalizing i with
 | nil e=>exact⟨_,λ_=>ar _,by simpa using .nil e⟩
 | @no o σ ρ p r B =>
  cases i with
  | zero=>exact⟨p,λ_=>ar _,.no r⟩
  | succ i=>obtain⟨p2,T,M⟩:=B (i:=i);exact⟨p2,T,.no M⟩
 | @so v k σ ρ g h W c r e B =>
  cases i with
  | zero=>exact⟨h,λb=>by have:=e b;omega,.no r⟩
  | succ i =>
   obtain⟨p2,T,M⟩:=B (i:=i)
   exact⟨λb=>g b+p2 b,λb=>by have:=e b;have:=T b;dsimp only;omega,.so c M λb=>rfl⟩
theorem SR.drop{i:Nat}(h:SR K H0 σ ρ ts as H):SR K H0 σ (ρ.set i none) ts as H:=by
 obtain⟨⟨p,q,U,R,S,F⟩,s⟩:=h
 by_cases t:i<σ.length
 ·obtain⟨Y,T,M⟩:=U.drop (i:=i) (o:=σ[i])
  rw[TR (aR t)] at M
  exact SR.of_le (p:=p) (q:=q) (p':=Y) (q':=q) s S F (λb=>by have:=T b;omega) M R
 ·have:ρ.set i none=ρ:=List.set_eq_of_length_le (by rw[<- U.len];omega)
  rw[this]
  exact⟨⟨p,q,U,R,S,F⟩,s⟩
theorem RTs.swap{u w:V}(r:RTs K G H (u::w::ts) (a::b::as) p):RTs K G H (w::u::ts) (b::a::as) p:=by
 cases r with
 | cons L rs T=>cases rs with
  | cons P rs M=>exact .cons P (.cons L rs λ_=>rfl) (λc=>by have:=T c;have:=M c;omega)
theorem RTs.rot{u:V}:∀ {vs:List V} {bs:List TV} {p:Fp},vs.length=bs.length->RTs K G H (vs++u::ts) (bs++a::as) p->RTs K G H (u::(vs++ts)) (a::(bs++as)) p
 | [],[],_,_,r=>r
 | w::vs,b::bs,p,e,r=>by
  cases r with
  | cons L rs T=>exact RTs.swap (.cons L (RTs.rot (by simpa using e) rs) T)
theorem SR.rot{u:V}{vs:List V}{bs:List TV}(e:vs.length=bs.length)(h:SR K H0 σ ρ (vs++u::ts) (bs++a::as) H):SR K H0 σ ρ (u::(vs++ts)) (a::(bs++as)) H :=
 let ⟨⟨p,q,U,R,S,F⟩,s⟩:=h
 ⟨⟨p,q,U,R.rot e,S,F⟩,s⟩
theorem SR.swap{u w:V}(h:SR K H0 σ ρ (u::w::ts) (a::b::as) H):SR K H0 σ ρ (w::u::ts) (b::a::as) H :=
 let ⟨⟨p,q,U,R,S,F⟩,s⟩:=h
 ⟨⟨p,q,U,R.swap,S,F⟩,s⟩
theorem RTs.back{u:V}:∀ {vs:List V} {bs:List TV} {p:Fp},vs.length=bs.length->RTs K G H (u::(vs++ts)) (a::(bs++as)) p->RTs K G H (vs++u::ts) (bs++a::as) p
 | [],[],_,_,r=>r
 | w::vs,b::bs,p,e,r=>by
  have S:=RTs.swap r
  cases S with
  | cons L rs T=>exact .cons L (RTs.back (by simpa using e) rs) T
theorem SR.back{u:V}{vs:List V}{bs:List TV}(e:vs.length=bs.length)(h:SR K H0 σ ρ (u::(vs++ts)) (a::(bs++as)) H):SR K H0 σ ρ (vs++u::ts) (bs++a::as) H :=
 let ⟨⟨p,q,U,R,S,F⟩,s⟩:=h
 ⟨⟨p,q,U,R.back e,S,F⟩,s⟩
inductive Stos:List TV->List AV->Prop
 | nil:Stos [] []
 | cons {a:TV} {x:AV} {as:List TV} {xs:List AV}:a.sto=aa x->Stos as xs->Stos (a::as) (x::xs)
theorem SR.stos:∀ {vs:List V} {bs:List TV} {xs:List AV},Stos bs xs->vs.length=bs.length->∀ {us:List V} {cs:List TV},us.length=cs.length->SR K H0 σ ρ (us++(vs++ts)) (cs++(bs++as)) H->SR K H0 σ ρ (us++(vs++ts)) (cs++(xs.map TV.av++as)) H
 | [],_,_,.nil,_,_,_,_,h=>h
 | [],_,_,.cons _ _,e,_,_,_,_=>by simp at e
 | w::vs,_,_,.nil,e,_,_,_,_=>by simp at e
 | w::vs,b::bs,x::xs,.cons e1 es,e,us,cs,e2,h=>by
  have U:SR K H0 σ ρ (us++w::(vs++ts)) (cs++b::(bs++as)) H:=h
  have R:=(U.rot e2).sto e1
  have S:SR K H0 σ ρ ((w::us)++(vs++ts)) ((.av x::cs)++(bs++as)) H:=R
  have F:=SR.stos (us:=w::us) (cs:=.av x::cs) es (by simpa using e) (by simp[e2]) S
  exact SR.back e2 F
theorem RTs.avs{xs:List AV}:∀ {vs:List V} {bs:List AV} {p:Fp},vs.length=bs.length->RTs K G H (vs++ts) (bs.map TV.av++as) p->∃ p1 p2:Fp,(∀ b,p b=p1 b+p2 b)/\RAs K G H vs bs p1/\RTs K G H ts as p2
 | [],[],p,_,r=>⟨λ_=>0,p,λb=>by simp,.nil λ_=>rfl,r⟩
 | w::vs,b::bs,p,e,r=>by
  cases r with
  | @cons _ _ _ _ g h _ L rs T =>
   obtain⟨p1,p2,M,t,O⟩:=RTs.avs (xs:=xs) (by simpa using e) rs
   cases L with
   | av L=>exact⟨λc=>g c+p1 c,p2,λc=>by have:=T c;have:=M c;dsimp only;omega,.cons L t (λ_=>rfl),O⟩
theorem TU(h:∀ b u,p b+q b=0->H b=aa u->p' b+q' b=0/\b≠l):Zg (hid H p q) (hid (upd H l o) p' q'):=λb u e=>by
 unfold hid at e ⊢
 split at e
 ·rename_i z
  obtain⟨U,R⟩:=h b u z e
  rw[if_pos U,Zd R]
  exact e
 ·cases e
theorem SR.new(h:SR K H0 σ ρ (vs++ts) (xs.map TV.av++as) H)(e:vs.length=xs.length)(L:H l=none):SR K H0 σ ρ (.ref l::ts) (.av (.own xs)::as) (upd H l (.lst vs)):=by
 obtain⟨⟨p,q,U,R,S,F⟩,s⟩:=h
 have g:=SR.lsts U R
 obtain⟨c,Y,M,t,O⟩:=RTs.avs (xs:=xs) e R
 have z:∀ b u,H b=aa u->b≠l:=λb u y w=>by subst w;rw[L] at y;cases y
 have f:p l+q l=0:=by
  rcases ax (p l+q l) with w|w
  ·exact w
  ·obtain⟨_,w,_⟩:=g l w;rw[L] at w;cases w
 have m:Zg (hid H p q) (hid (upd H l (.lst vs)) p (λb=>((if b=l then 1 else 0)+c b)+Y b)):=TU λb u y w=>by
  have:=z b u w
  refine⟨?_,this⟩
  have:=M b
  simp[*] at *
  omega
 have a:∀ b u,H b=aa u->upd H l (.lst vs) b=aa u:=λb u y=>by rw[Zd (z b u y)];exact y
 have s2:Zg H (upd H l (.lst vs)):=XM L
 refine⟨⟨p,λb=>((if b=l then 1 else 0)+c b)+Y b,U.mono m (λb o _=>a b o),.cons (.av (.own Zw (t.mono m λb o _=>a b o) λ_=>rfl)) (O.mono m s2) (λ_=>rfl),λb=>?_,λb w=>?_⟩,s.trans s2⟩
 ·have:=M b;have:=S b
  by_cases G:b=l
  ·subst G;simp;omega
  ·simp[G];omega
 ·by_cases G:b=l
  ·subst G;exact s.free L
  ·refine F b ?_;have:=M b;simp[G] at w;omega
end
mutual
noncomputable def AV.clean:AV->Bool
 | .d x=>Z9 x
 | .own xs=>AV.cleans xs
 | .tup xs=>AV.cleans xs
 | .dic kvs=>noLsts (kvs.map bz)
 | .obj _=>aw
noncomputable def AV.cleans:List AV->Bool
 | []=>ac
 | x::xs=>x.clean && AV.cleans xs
end
def Rs(K:ay)(H H':Hp)(v:V)(a:AV):Prop:=Zg H H'/\∃ p:Fp,(∀ b,p b<=1)/\(∀ b,0<p b->H b=none)/\RA K (hid H' p λ_=>0) H' v a p
variable{c:AV}
section
variable{y:V}
theorem RA.clB(L:∀ b,0<p' b+q' b->∃ o,H b=aa o/\Mu o):(∀ {v:V} {a:AV} {r:Fp},RA K (hid H p q) H v a r->a.clean=ac->RA K (hid H p' q') H v a r)/\∀ {vs:List V} {xs:List AV} {r:Fp},RAs K (hid H p q) H vs xs r->AV.cleans xs=ac->RAs K (hid H p' q') H vs xs r:=by
 refine RA.ind (M:=λv a r=>a.clean=ac->RA K (hid H p' q') H v a r) (N:=λvs xs r=>AV.cleans xs=ac->RAs K (hid H p' q') H vs xs r) (λr e Y=>.d (Rep.hid L (by simpa [AV.clean] using Y) (r.same Y5)) e) (λh i e Y=>.own h (i (by simpa [AV.clean] using Y)) e) (λh i Y=>.tup (Of L (Y5 _ _ h)) (i (by simpa [AV.clean] using Y))) (λ{a o kvs qq} h d e Y=>.dic h ?_ e) (λ_ _ _ Y=>by simp[AV.clean] at Y) (λe _=>.nil e) λi j e Y=>?_
 ·have f:noLsts (kvs.map bz)=true:=by simpa [AV.clean] using Y
  have m:∀ {J:Type} {c:List (J×V)} {ds:List ak} {en:J->ak},Reps K (hid H p q) (c.map bz) ds->kvs=(c.map λp=>en p.1).zip ds->Reps K (hid H p' q') (c.map bz) ds:=λr z=>by
   rw[z,ju (by rw[aC,<- r.length,aC];exact ar _)] at f
   exact Reps.hid L f (r.same Y5)
  rcases d with⟨c,ds,T,r,z⟩|⟨c,ds,T,r,z⟩|⟨c,ds,n,T,r,z⟩|⟨C,dx,fs,ds,T,n,r,z⟩
  ·exact .inl ⟨c,ds,T,m r z,z⟩
  ·exact .inr (.inl ⟨c,ds,T,m (en:=λk=>cC (k.map YB)) r z,z⟩)
  ·exact .inr (.inr (.inl ⟨c,ds,n,T,m (en:=λk=>cC [YB k.1,.tuple (k.2.map YB)]) r z,z⟩))
  ·refine .inr (.inr (.inr ⟨C,dx,fs,ds,T,n,?_,z⟩))
   rw[z,bp,bp,ju (by rw[aC,<- r.length,aC];exact ar _)] at f
   exact Reps.hid L (by simpa [noLsts,Z9] using f) (r.same Y5)
 ·simp only[AV.cleans,aJ] at Y
  exact .cons (i Y.1) (j Y.2) e
theorem RA.cl(L:∀ b,0<p' b+q' b->∃ o,H b=aa o/\Mu o){a:AV}(Y:a.clean=ac)(h:RA K (hid H p q) H v a r):RA K (hid H p' q') H v a r:=(RA.clB L).1 h Y
theorem RAs.cl(L:∀ b,0<p' b+q' b->∃ o,H b=aa o/\Mu o)(Y:AV.cleans xs=ac)(h:RAs K (hid H p q) H vs xs r):RAs K (hid H p' q') H vs xs r:=(RA.clB L).2 h Y
theorem SR.got(h:SR K H0 σ ρ ts as H)(r:Rs K H H' v c)(Y:c.clean=ac):SR K H0 σ ρ (v::ts) (.av c::as) H':=by
 obtain⟨e,k,J,Z,I⟩:=r
 obtain⟨⟨p,q,U,R,S,F⟩,s⟩:=h
 have g:=SR.lsts U R
 have z:∀ b,0<p b+q b->k b=0:=λb w=>by
  obtain⟨vs,y,_⟩:=g b w
  rcases ax (k b) with u|u
  ·exact u
  ·rw[Z b u] at y;cases y
 have m:Zg (hid H p q) (hid H' p (λb=>k b+q b)):=λb o w=>by
  unfold hid at w ⊢
  split at w
  ·rename_i y
   have:k b=0:=by
    rcases ax (k b) with u|u
    ·exact u
    ·rw[Z b u] at w;cases w
   rw[if_pos (show p b+(k b+q b)=0 by omega)]
   exact e b o w
  ·cases w
 refine⟨⟨p,λb=>k b+q b,U.mono m (λb o _=>e b o),.cons (.av (RA.cl (p':=p) (q':=λb=>k b+q b) (λb w=>?_) Y I)) (R.mono m e) (λ_=>rfl),λb=>?_,λb w=>?_⟩,s.trans e⟩
 ·rcases ax (k b) with u|u
  ·have a:0<p b+(k b+q b):=w
   obtain⟨vs,y,mu⟩:=g b (by omega);exact⟨vs,e _ _ y,mu⟩
  ·exact I.lst b u
 ·have:=S b;have:=J b;have:=z b
  show p b+(k b+q b)<=1
  omega
 ·rcases ax (k b) with u|u
  ·have a:0<p b+(k b+q b):=w
   exact F b (by omega)
  ·exact s.free (Z b u)
theorem SR.gotB(h:SR K H0 σ ρ ts as H)(r:Rs K H H' v c):SR K H0 σ ρ (v::ts) (.bor c.data::as) H':=by
 obtain⟨e,k,_,_,I⟩:=r
 exact (h.ext e).pushB (I.rep Y5)
def Oh(ρ:Sl):Prop:=∀ a∈ρ,∀ x,a=aa x->(∃ d,x=.d d)\/∃ φ,x=.obj φ
theorem RSl.noOwn(r:RSl K G H σ ρ p)(h:Oh ρ):∀ b,p b=0:=by
 induction r with
 | nil e=>exact e
 | no _ B=>exact B λa l=>h a (.tail _ l)
 | so I _ e B =>
  rcases h _ (.head _) _ rfl with⟨d,rfl⟩|⟨i,rfl⟩
  ·intro b
   have:=B (λa l=>h a (.tail _ l)) b
   cases I with
   | d _ M=>have:=e b;have:=M b;omega
  ·intro b
   have:=B (λa l=>h a (.tail _ l)) b
   cases I with
   | obj _ _ M=>have:=e b;have:=M b;omega
theorem RTs.stb(r:RTs K G H ts as p)(h:Stb as):∀ b,p b=0:=by
 induction r with
 | nil e=>exact e
 | cons r _ e B =>
  obtain⟨d,rfl⟩:=h _ (.head _)
  intro b
  have:=B (λa l=>h a (.tail _ l)) b
  cases r with
  | av I=>cases I with
   | d _ M=>have:=e b;have:=M b;omega
def Sto(ρ:Sl)(a:TV)(a':AV):Prop:=a.sto=aa a'\/(∃ c,a=.av c/\a'=.d c.data)\/(Oh ρ/\(∃ x,a=.bor x)/\a'=.d a.data)
theorem SR.stoS{j:AV}(h:SR K H0 σ ρ (v::ts) (a::as) H)(C:Stb as)(e:Sto ρ a j):SR K H0 σ ρ (v::ts) (.av j::as) H:=by
 rcases e with e|⟨c,rfl,rfl⟩|⟨n,⟨x,rfl⟩,rfl⟩
 ·exact h.sto e
 ·exact h.frzT
 ·have t:=h.top (a:=.bor x) λ_ z=>nomatch z
  obtain⟨⟨p,q,U,R,S,F⟩,s⟩:=h.pop
  have I:=U.noOwn n
  have O:=R.stb C
  refine⟨⟨p,q,U,.cons (.av (.d (p:=λ_=>0) (t.same λb o w=>?_) λ_=>rfl)) R (λb=>by simp),S,F⟩,s⟩
  unfold hid
  rw[if_pos (by have:=I b;have:=O b;omega)]
  exact w
end
def ItOk(K:ay)(J:It)(u:V)(z:ak)(n:Nat)(f:Nat->ak):Prop :=
 ∀ G H,Zg G H->Rep K G u z->(∀ i,i<n->J.go i H/\∀ x H',J.yld i H x H'->Zg H H'/\∀ G',Zg G G'->(∀ b o,H' b=aa o->H b=none->G' b=aa o)->Rep K G' x (f i))/\∀ i,n<=i->J.stop i H
noncomputable def TV.frz:TV->TV
 | .av a=>.av (.d a.data)
 | .bor x=>.bor x
 | .raw v=>.raw v
section
variable (K:ay)(E:FK)(X:Exc->Sl->Prop)
def Iv(wi:TI)(ρ:Sl)(Q:Nat->(Nat->ak)->TV->Prop):Prop :=
 ∀ (H0:Hp) (σ:St) (ts:List V) (as:List TV) (H:Hp) (R:It->Hp->Prop),SR K H0 σ ρ ts as H->XOk K E X H0 ->
  (∀ n f h,Q n f h->∀ u J H',(∀ v,h≠.raw v)->SR K H0 σ ρ (u::ts) (h::as) H'->ItOk K J u h.data n f->R J H')->wi σ H R
def Gv(g:TG)(x:ak)(ρ:Sl)(P:Sl->Prop):Prop :=
 ∀ (H0:Hp) (σ:St) (ts:List V) (as:List TV) (H:Hp) (v:V) (Qg:St->Hp->Prop),SR K H0 σ ρ (v::ts) (.av (.d x)::as) H->(∀ ρ',P ρ'->∀ σ' H',SR K H0 σ' ρ' ts as H'->Qg σ' H')->g v σ H Qg
end
def Wk(ρ ρ':Sl):Prop:=∀ (K:ay) (H0:Hp) (σ:St) (ts:List V) (as:List TV) (H:Hp),SR K H0 σ ρ ts as H->SR K H0 σ ρ' ts as H
variable{x:ak}{A:TA}{k:Int}{r:R2}{DV:VEnds}{ca cb:TT}{P:Bool->Prop}{Q:TV->Prop}{X:Exc->Sl->Prop}
section
variable{E:FK}{i:Int}
theorem XA{b:TV->Prop}(h:Ev K E X te ρ Q)(m:∀ a,Q a->b a):Ev K E X te ρ b:=λI Z ts as H W s x q=>h I Z ts as H W s x λa f=>q a (m a f)
theorem SR.var{i:Nat}{a:AV}(s:SR K H0 σ ρ ts as H)(h:ρ[i]?=aa (aa a)):∃ v,σ[i]?=aa (aa v)/\(∀ x,a=.d x->SR K H0 σ ρ (v::ts) (.av (.d x)::as) H)/\SR K H0 σ ρ (v::ts) (.bor a.data::as) H:=by
 obtain⟨⟨p,q,U,R,S,F⟩,e⟩:=s
 obtain⟨c,Y,v,T,M,t,O⟩:=U.frz h λ_ _ _ _=>trivial
 refine⟨v,M,λx z=>?_,SR.pushB ⟨⟨p,q,U,R,S,F⟩,e⟩ (t.rep Y5)⟩
 subst z
 cases t with
 | d j z=>exact⟨⟨p,q,U,.cons (.av (.d (p:=λ_=>0) j λ_=>rfl)) R (λb=>by simp),S,F⟩,e⟩
theorem YF(h:ρ[n]?=aa (aa (.d x)))(q:Q (.av (.d x))):Ev K E X (Zj n) ρ Q:=λI Z ts as H W s _ k=>by
 obtain⟨v,T,M,_⟩:=s.var h
 exact⟨v,T,k _ q v H (M x rfl)⟩
theorem K4{a:AV}(h:ρ[n]?=aa (aa a))(q:Q (.bor a.data)):Ev K E X (Zj n) ρ Q:=λI Z ts as H W s _ k=>by
 obtain⟨v,T,_,M⟩:=s.var h
 exact⟨v,T,k _ q v H M⟩
theorem YY(q:Q (.av (.d (.int i)))):Ev K E X (tC (.int i)) ρ Q:=λI Z ts as H W s _ k=>k _ q _ H (s.int i)
theorem K5{c:Bool}(q:Q (.av (.d (.bool c)))):Ev K E X (tC (.bl c)) ρ Q:=λI Z ts as H W s _ k=>k _ q _ H (s.bl c)
theorem WG{c:au}(q:Q (.av (.d (.str c)))):Ev K E X (tC (.str c)) ρ Q:=λI Z ts as H W s _ k=>k _ q _ H (s.push λ_=>.str c)
theorem Rw(q:Q (.av (.d .none))):Ev K E X (tC .non) ρ Q:=λI Z ts as H W s _ k=>k _ q _ H (s.push λ_=>.non)
theorem K6{c:String}(q:Q (.raw (.ty c))):Ev K E X (tC (.ty c)) ρ Q:=λI Z ts as H W s _ k=>k _ q _ H s.pushR
theorem VH{c:ah}(q:Q (.raw (.ref c))):Ev K E X (tC (.ref c)) ρ Q:=λI Z ts as H W s _ k=>k _ q _ H s.pushR
theorem K7(h:Ev K E X ta ρ λa=>Ev K E X tb ρ λb=>Op K E X r a b Q):Ev K E X (tOp r ta tb) ρ Q:=λI Z ts as H W s x k =>
 h I Z ts as H _ s x λa f v H' l=>f I Z _ _ H' _ l x λb O w H2 s2=>O I Z ρ ts as H2 v w W s2 x k
theorem K8{r:V->Hp->VK->Prop}(h:Ev K E X ta ρ λa=>Un1 K E X r a Q):Ev K E X (tUn r ta) ρ Q:=λI Z ts as H W s x k =>
 h I Z ts as H _ s x λa f v H' l=>f I Z ρ ts as H' v W l x k
theorem un_i{g:Int->Int}(q:Q (.av (.d (.int (g i))))):Un1 K E X (rU λi=>.int (g i)) (.av (.d (.int i))) Q:=λI Z o ts as H x W s _ k=>by
 have e:=s.top_d.int_inv
 subst e
 exact⟨i,rfl,k _ q _ H (s.pop.int _)⟩
theorem ints2{x y:V}(s:SR K H0 σ ρ (y::x::ts) (.av (.d (.int j))::.av (.d (.int i))::as) H):x=.int i/\y=.int j/\SR K H0 σ ρ ts as H :=
 ⟨s.pop.top_d.int_inv,s.top_d.int_inv,s.pop.pop⟩
theorem Oi(q:Q (.av (.d (.int (g i j))))):Op K E X (rI0 λi j=>.int (g i j)) (.av (.d (.int i))) (.av (.d (.int j))) Q:=λI Z o ts as H x y W s _ k=>by
 obtain⟨rfl,rfl,l⟩:=ints2 s
 exact⟨i,j,rfl,rfl,k _ q _ H (l.int _)⟩
theorem K9{g:Int->Int->Bool}(q:Q (.av (.d (.bool (g i j))))):Op K E X (rI0 λi j=>.bl (g i j)) (.av (.d (.int i))) (.av (.d (.int j))) Q:=λI Z o ts as H x y W s _ k=>by
 obtain⟨rfl,rfl,l⟩:=ints2 s
 exact⟨i,j,rfl,rfl,k _ q _ H (l.bl _)⟩
theorem VI{C:Int->Int->Prop}(c:C i j)(q:Q (.av (.d (.int (g i j))))):Op K E X (rI C λi j=>.int (g i j)) (.av (.d (.int i))) (.av (.d (.int j))) Q:=λI Z o ts as H x y W s _ k=>by
 obtain⟨rfl,rfl,l⟩:=ints2 s
 exact⟨i,j,rfl,rfl,c,k _ q _ H (l.int _)⟩
theorem Ja(q:Q (.av (.d (.bool (decide (i=j)))))):Op K E X rEq (.av (.d (.int i))) (.av (.d (.int j))) Q:=λI Z o ts as H x y W s _ k=>by
 obtain⟨rfl,rfl,l⟩:=ints2 s
 exact KA (k _ q _ H (l.bl _))
theorem Rep.bl_inv{c:Bool}(h:Rep K H v (.bool c)):v=.bl c:=by cases h;rfl
def NR(a:TV):Prop:=∀ v,a≠.raw v
theorem NR.av{c:AV}:NR (.av c):=λ_ z=>nomatch z
theorem NR.bor{c:ak}:NR (.bor c):=λ_ z=>nomatch z
theorem Jb[DecidableEq α]{c d:α}(F:Enc f m)(ha:a.data=f c)(hb:b.data=f d)(q:Q (.av (.d (.bool (decide (c=d))))))(A:NR a:=by walk_at "n")(w:NR b:=by walk_at "n")(hm:m<=32:=by decide):Op K E X (W5 K) a b Q:=λI Z o ts as H x y W s _ k =>
 KD F (ha▸s.pop.top A) (hb▸s.top w) (k _ q _ H (s.pop.pop.bl _)) hm
theorem Jc[DecidableEq α]{c d:α}(F:Enc f m)(ha:a.data=f c)(hb:b.data=f d)(q:Q (.av (.d (.bool (!decide (c=d))))))(A:NR a:=by walk_at "n")(w:NR b:=by walk_at "n")(hm:m<=32:=by decide):Op K E X (W6 K) a b Q:=λI Z o ts as H x y W s _ k =>
 KE F (ha▸s.pop.top A) (hb▸s.top w) (k _ q _ H (s.pop.pop.bl _)) hm
theorem Reps.atI{H:Hp}{vs:List V}{ds:List ak}{k:Int}{y:ak}(h:Reps K H vs ds)(e:atI ds k=aa y):∃ v,L2.atI vs k=aa v/\Rep K H v y:=by
 unfold L2.atI at e ⊢
 rw[h.length]
 cases z:ixN ds.length k with
 | none=>rw[z] at e;cases e
 | some j =>
  rw[z] at e
  obtain⟨v,T,M⟩:=h.get (i:=j) (d:=y) e
  exact⟨v,T,M⟩
def ZT(a:TV)(y:ak)(c:TV):Prop:=(a=.av (.d a.data)/\c=.av (.d y))\/(Z9 y=ac/\c=.av (.d y))\/c=.bor y
theorem SR.item{x:V}{c:TV}(s:SR K H0 σ ρ (x::ts) (a::as) H)(A:NR a)(it:ZT a y c)(P:V->Prop)(h:∀ G,Rep K G x a.data->Zg G H->∃ v,P v/\Rep K G v y):∃ v,P v/\SR K H0 σ ρ (v::ts) (c::as) H:=by
 rcases it with⟨e,rfl⟩|⟨B,rfl⟩|rfl
 ·rw[e] at s
  obtain⟨⟨p,q,U,R,S,F⟩,N⟩:=s
  cases R with
  | cons r rs z=>cases r with
   | av r=>cases r with
    | d j w =>
     obtain⟨v,T,M⟩:=h _ j Y5
     exact⟨v,T,⟨p,q,U,.cons (.av (.d M w)) rs z,S,F⟩,N⟩
 ·obtain⟨v,T,M⟩:=h _ (s.top A) (.refl H)
  exact⟨v,T,s.pop.pushF B M⟩
 ·obtain⟨v,T,M⟩:=h _ (s.top A) (.refl H)
  exact⟨v,T,s.pop.pushB M⟩
theorem ZT.d{x y:ak}:ZT (.av (.d x)) y (.av (.d y)):=.inl ⟨rfl,rfl⟩
theorem ZT.flat(h:Z9 y=ac):ZT a y (.av (.d y)):=.inr (.inl ⟨h,rfl⟩)
theorem Jd{c:TV}(ha:a.data=.list ds)(e:atI ds k=aa y)(it:ZT a y c)(q:Q c)(A:NR a:=by walk_at "n"):Op K E X (Vx K) a (.av (.d (.int k))) Q:=λI Z o ts as H x w W s _ f=>by
 have M:=s.top_d.int_inv
 subst M
 obtain⟨v,⟨p,xs,t,O,i⟩,l⟩:=s.pop.item A it (λv=>∃ p xs,x=.ref p/\SqL K H p xs/\L2.atI xs k=aa v) λG j u=>by
  rw[ha] at j
  obtain⟨p,xs,rfl,U,R⟩:=j.list_inv
  obtain⟨v,S,F⟩:=Reps.atI R e
  exact⟨v,⟨p,xs,rfl,u.seq U,S⟩,F⟩
 exact⟨p,xs,k,v,t,rfl,O,i,f _ q _ H l⟩
theorem Je{c:TV}(ha:a.data=.tuple ds)(e:atI ds k=aa y)(it:ZT a y c)(q:Q c)(A:NR a:=by walk_at "n"):Op K E X (Tq K) a (.av (.d (.int k))) Q:=λI Z o ts as H x w W s _ f=>by
 have M:=s.top_d.int_inv
 subst M
 obtain⟨v,⟨p,xs,t,O,i⟩,l⟩:=s.pop.item A it (λv=>∃ p xs,x=.ref p/\SqT K H p xs/\L2.atI xs k=aa v) λG j u=>by
  rw[ha] at j
  obtain⟨p,xs,rfl,U,R⟩:=j.tuple_inv
  obtain⟨v,S,F⟩:=Reps.atI R e
  exact⟨v,⟨p,xs,rfl,u.tupS U,S⟩,F⟩
 exact⟨p,xs,k,v,t,rfl,O,i,f _ q _ H l⟩
theorem ZN{P:List TV->Prop}(q:P []):Ea K E X ZV ρ P:=λI Z ts as H W s _ k=>k [] q [] H s rfl
theorem Zz{P:List TV->Prop}(h:Ev K E X ta ρ λa=>Ea K E X A ρ λbs=>P (a::bs)):Ea K E X (ZD ta A) ρ P:=λI Z ts as H W s x k =>
 h I Z ts as H _ s x λa f v H' l=>f I Z _ _ H' _ l x λbs O vs H2 s2 L=>k (a::bs) O (v::vs) H2 (s2.rot L) (by simp[L])
theorem Jf{r:List V->Hp->VK->Prop}(h:Ea K E X A ρ λbs=>Bi K E X r bs Q):Ev K E X (tCB r A) ρ Q:=λI Z ts as H W s x k =>
 h I Z ts as H _ s x λbs O vs H2 s2 L=>O I Z ρ ts as H2 vs W s2 L x k
theorem Stos.len{bs:List TV}(h:Stos bs xs):bs.length=xs.length:=by
 induction h with
 | nil=>rfl
 | cons _ _ B=>simp[B]
theorem Ye(h:Ea K E X A ρ λbs=>∃ xs,Stos bs xs/\bs.length<=1000/\Q (.av (.own xs))):Ev K E X (XZ A) ρ Q:=λI Z ts as H W s x k =>
 h I Z ts as H _ s x (by rintro bs ⟨xs,hs,hz,q⟩ vs H2 s2 hl;exact ⟨cc (small1000 (by omega)),λp O=>k _ q _ _ (SR.new (SR.stos (us:=[]) (cs:=[]) hs hl rfl s2) (by rw[hl,hs.len]) O)⟩)
theorem SR.newT(h:SR K H0 σ ρ (vs++ts) (xs.map TV.av++as) H)(e:vs.length=xs.length)(L:H l=none):SR K H0 σ ρ (.ref l::ts) (.av (.d (.tuple (AV.datas xs)))::as) (upd H l (.tup vs)):=by
 obtain⟨⟨p,q,U,R,S,F⟩,s⟩:=h
 have g:=SR.lsts U R
 obtain⟨c,Y,M,t,O⟩:=RTs.avs (xs:=xs) e R
 have s2:Zg H (upd H l (.tup vs)):=XM L
 have f:p l+q l=0:=by
  rcases ax (p l+q l) with w|w
  ·exact w
  ·obtain⟨_,w,_⟩:=g l w;rw[L] at w;cases w
 have m:Zg (hid H p q) (hid (upd H l (.tup vs)) p Y):=(hid_more (p':=p) (q':=Y) λb z=>by have:=M b;omega).trans (VG s2)
 refine⟨⟨p,Y,U.mono m (λb o _=>s2 b o),.cons (.av (.d (p:=λ_=>0) (.tup ?_ (t.frz m λb o y z=>?_)) λ_=>rfl)) (O.mono m s2) (λb=>by simp),λb=>by have:=M b;have:=S b;omega,λb z=>F b (by have:=M b;omega)⟩,s.trans s2⟩
 ·unfold hid;rw[if_pos (by have:=M l;omega)];exact Zw
 ·unfold hid;rw[if_pos (by have:=M b;have:=S b;omega)];exact s2 b o z
theorem WH(h:Ea K E X A ρ λbs=>∃ xs,Stos bs xs/\bs.length<=1000/\Q (.av (.d (.tuple (AV.datas xs))))):Ev K E X (Tl A) ρ Q:=λI Z ts as H W s x k =>
 h I Z ts as H _ s x (by rintro bs ⟨xs,hs,hz,q⟩ vs H2 s2 hl;exact ⟨cc (small1000 (by omega)),λp O=>k _ q _ _ (SR.newT (SR.stos (us:=[]) (cs:=[]) hs hl rfl s2) (by rw[hl,hs.len]) O)⟩)
theorem Oj(h:Ev K E X te ρ λa=>∃ c,a=.av (.d (.bool c))/\P c):Tv K E X (S7 te) ρ P:=λI Z ts as H W s x k =>
 h I Z ts as H _ s x (by rintro a ⟨c,e,p⟩ v H' s';subst e;exact⟨c,Rep.bl_inv s'.top_d,k c p H' s'.pop⟩)
theorem tv_b(h:Ev K E X te ρ λa=>∃ c,a=.av (.d (.bool c))/\P c):Tv K E X (tB te) ρ P:=Oj h
theorem Jg(h:Tv K E X ca ρ λc=>if c=ac then Tv K E X cb ρ P else P aw):Tv K E X (S0 ca cb) ρ P:=λI Z ts as H W s x k =>
 h I Z ts as H _ s x λc a H' l=>by
  cases c with
  | true=>rw[if_pos rfl] at a ⊢;exact a I Z ts as H' W l x k
  | false=>rw[if_neg ap] at a ⊢;exact k _ a H' l
theorem Jh(h:Tv K E X ca ρ λc=>if c=ac then P ac else Tv K E X cb ρ P):Tv K E X (tOr ca cb) ρ P:=λI Z ts as H W s x k =>
 h I Z ts as H _ s x λc a H' l=>by
  cases c with
  | true=>rw[if_pos rfl] at a ⊢;exact k _ a H' l
  | false=>rw[if_neg ap] at a ⊢;exact a I Z ts as H' W l x k
theorem Ji(h:Tv K E X ca ρ λc=>P (!c)):Tv K E X (tNot ca) ρ P:=λI Z ts as H W s x k =>
 h I Z ts as H _ s x λc a H' l=>k _ a H' l
theorem Ol(q:P ac):Tv K E X Rm ρ P:=λI Z ts as H W s x k=>k _ q H s
theorem Jj(h:Ev K E X ta ρ λa=>∃ c,a=.av (.d (.bool c))/\if c=ac then Ev K E X tb ρ Q else Q (.av (.d (.bool aw)))):Ev K E X (Ph ta tb) ρ Q:=λI Z ts as H W s x k =>
 h I Z ts as H _ s x <|by
  rintro a ⟨c,e,p⟩ v H' s'
  subst e
  refine⟨c,Rep.bl_inv s'.top_d,?_⟩
  cases c with
  | true=>rw[if_pos rfl] at p ⊢;exact p I Z ts as H' W s'.pop x k
  | false=>rw[if_neg ap] at p ⊢;exact k _ p _ H' (s'.pop.bl aw)
theorem Jk(h:Ev K E X ta ρ λa=>∃ c,a=.av (.d (.bool c))/\if c=ac then Q (.av (.d (.bool ac))) else Ev K E X tb ρ Q):Ev K E X (tOrV ta tb) ρ Q:=λI Z ts as H W s x k =>
 h I Z ts as H _ s x <|by
  rintro a ⟨c,e,p⟩ v H' s'
  subst e
  refine⟨c,Rep.bl_inv s'.top_d,?_⟩
  cases c with
  | true=>rw[if_pos rfl] at p ⊢;exact k _ p _ H' (s'.pop.bl ac)
  | false=>rw[if_neg ap] at p ⊢;exact p I Z ts as H' W s'.pop x k
theorem Jl(h:Ev K E X ta ρ λa=>∃ c,a=.av (.d (.bool c))/\Q (.av (.d (.bool (!c))))):Ev K E X (Pi ta) ρ Q:=λI Z ts as H W s x k =>
 h I Z ts as H _ s x <|by
  rintro a ⟨c,e,p⟩ v H' s'
  subst e
  exact⟨c,Rep.bl_inv s'.top_d,k _ p _ H' (s'.pop.bl _)⟩
theorem Jm{c:TT}(h:Tv K E X c ρ λb=>if b=ac then Ev K E X ta ρ Q else Ev K E X tb ρ Q):Ev K E X (tIf c ta tb) ρ Q:=λI Z ts as H W s x k =>
 h I Z ts as H _ s x λc a H' l=>by
  cases c with
  | true=>rw[if_pos rfl] at a ⊢;exact a I Z ts as H' W l x k
  | false=>rw[if_neg ap] at a ⊢;exact a I Z ts as H' W l x k
theorem Jn(h:Sv K E X t ρ { DV with nx:=λB=>Sv K E X u B DV }):Sv K E X (Yj t u) ρ DV:=λI Z ts as H D st s x f =>
 h I Z ts as H { D with nx:=u D } st s x ⟨λB q A H' l=>q I A ts as H' D st l x f,f.bk,f.ct,f.rt⟩
theorem Jo(h:DV.nx ρ):Sv K E X Uc ρ DV:=λI Z ts as H D st s x f=>f.nx ρ h Z H s
theorem Jp(h:Ev K E X te ρ λ_=>DV.nx ρ):Sv K E X (WY te) ρ DV:=λI Z ts as H D st s x f =>
 h I Z ts as H _ s x λa q v H' l=>f.nx ρ q Z H' l.pop
theorem Jq(h:Ev K E X te ρ DV.rt):Sv K E X (Vo te) ρ DV:=λI Z ts as H D st s x f =>
 h I Z ts as H _ s x λa q v H' l=>f.rt a q v Z ρ H' l
theorem Om{c:TT}(h:Tv K E X c ρ λb=>if b=ac then Sv K E X t ρ DV else Sv K E X u ρ DV):Sv K E X (Vp c t u) ρ DV:=λI Z ts as H D st s x f =>
 h I Z ts as H _ s x λc a H' l=>by
  cases c with
  | true=>rw[if_pos rfl] at a ⊢;exact a I Z ts as H' D st l x f
  | false=>rw[if_neg ap] at a ⊢;exact a I Z ts as H' D st l x f
theorem Jr(h:Ev K E X te ρ λa=>∃ j,Sto ρ a j/\DV.nx (ρ.set n (aa j)))(hn:n<ρ.length:=by simp):Sv K E X (WZ te (WB n)) ρ DV:=λI Z ts as H D st s x f =>
 h I Z ts as H _ s x (by rintro a ⟨j,e,q⟩ v H' s';exact f.nx _ q _ H' ((s'.stoS st e).store hn))
theorem Js{P:Sl->Prop}(h:P (ρ.set n (aa (.d x))))(hn:n<ρ.length:=by simp):Gv K (WB n) x ρ P:=λI Z ts as H v Qg s k=>k _ h _ H (s.store hn)
end
theorem small6(h:n<=1000000):n<sizeLine:=jp h (by decide)
section
variable{y:V}
theorem RAs.len:∀ {vs:List V} {xs:List AV} {p:Fp},RAs K G H vs xs p->vs.length=xs.length
 | _,_,_,.nil _=>rfl
 | _,_,_,.cons _ rs _=>by simp[RAs.len rs]
theorem RAs.snoc{w:V}{c:AV}{q:Fp}(r:RA K G H w c q):∀ {vs:List V} {xs:List AV} {p:Fp},RAs K G H vs xs p->RAs K G H (vs++[w]) (xs++[c]) (λb=>p b+q b)
 | _,_,_,.nil e=>.cons r (.nil (p:=λ_=>0) λ_=>rfl) (λb=>by have:=e b;simp;omega)
 | _,_,_,.cons (p:=p1) (q:=q1) r1 rs e=>.cons r1 (RAs.snoc r rs) (λb=>by have:=e b;show _+q b=p1 b+(q1 b+q b);omega)
theorem SR.writeE{xs':List AV}(h:SR K H0 σ ρ (v::ts) (.av c::as) H)(C:Stb as)(hi:ρ[i]?=aa (aa (.own xs))) :
  ∃ l vs,σ[i]?=aa (aa (.ref l))/\H l=aa (.lst vs)/\vs.length=xs.length/\∀ m,(∀ G H' p q,(∀ b o,0<q b->H b=aa o->H' b=aa o)->RAs K G H' vs xs p->RA K G H' v c q->∃ p':Fp,(∀ b,p' b<=p b+q b)/\RAs K G H' m xs' p')->SR K H0 σ (ρ.set i (aa (.own xs'))) ts as (upd H l (.lst m)):=by
 obtain⟨⟨p,q,U,R,S,F⟩,s⟩:=h
 obtain⟨a,Y,w,T,M,j,O⟩:=U.frz hi λ_ _ _ _=>trivial
 cases R with
 | @cons _ _ _ _ A k _ r rs B =>
  cases r with
  | av r =>
  cases j with
  | @own l vs _ t _ L J E =>
   refine⟨l,vs,M,L,J.len,λm N=>?_⟩
   have g:a l=1+t l:=by have:=E l;simpa using this
   have ne:∀ b u,p b+q b=0->H b=aa u->b≠l:=λb u z _ y=>by subst y;have:=T b;omega
   have Q:Zg (hid H p q) (hid (upd H l (.lst m)) p q):=TU λb u z w=>⟨z,ne b u z w⟩
   have k1:∀ b o,0<t b->H b=aa o->upd H l (.lst m) b=aa o:=λb o z w=>by
    rw[Zd (λy=>by subst y;have:=S b;have:=T b;omega)];exact w
   have k2:∀ b o,0<q b->H b=aa o->upd H l (.lst m) b=aa o:=λb o z w=>by
    rw[Zd (λy=>by subst y;have:=S b;have:=T b;omega)];exact w
   have k3:∀ b o,0<Y b->H b=aa o->upd H l (.lst m) b=aa o:=λb o z w=>by
    rw[Zd (λy=>by subst y;have:=S b;have:=T b;omega)];exact w
   obtain⟨p',e,f⟩:=N _ _ _ _ (λb o z=>k2 b o (by have:=B b;omega)) (J.mono Q k1) (r.mono Q λb o z=>k2 b o (by have:=B b;omega))
   have z:=O (hid (upd H l (.lst m)) p q) (upd H l (.lst m)) (.ref l) (.own xs') (λb=>(if b=l then 1 else 0)+p' b) (λb=>((if b=l then 1 else 0)+p' b)+Y b) Q k3 (.own Zw f λ_=>rfl) (λ_=>rfl)
   rw[TR M] at z
   have s2:Zg H0 (upd H l (.lst m)):=s.updF (F l (by have:=T l;omega))
   refine SR.of_le (p:=p) (q:=q) (p':=λb=>((if b=l then 1 else 0)+p' b)+Y b) (q':=k) s2 S F (λb=>?_) z (rs.monoS Q C λb o y=>k2 b o (by have:=B b;omega))
   have:=e b;have:=E b;have:=T b;have:=B b
   show ((if b=l then 1 else 0)+p' b)+Y b+k b<=p b+q b
   omega
theorem SR.write{xs':List AV}(h:SR K H0 σ ρ (v::ts) (.av c::as) H)(C:Stb as)(hi:ρ[i]?=aa (aa (.own xs))) :
  ∃ l vs,σ[i]?=aa (aa (.ref l))/\H l=aa (.lst vs)/\vs.length=xs.length/\∀ m,(∀ G H p q,RAs K G H vs xs p->RA K G H v c q->∃ p':Fp,(∀ b,p' b<=p b+q b)/\RAs K G H m xs' p')->SR K H0 σ (ρ.set i (aa (.own xs'))) ts as (upd H l (.lst m)):=by
 obtain⟨l,vs,T,M,t,O⟩:=h.writeE (xs':=xs') C hi
 exact⟨l,vs,T,M,t,λm N=>O m λG H' p q _=>N G H' p q⟩
theorem RSl.take(r:RSl K G H σ ρ p)(hm:ρ[m]?=aa (aa c)):∃ (p1 p2:Fp) (w:V),(∀ b,p b=p1 b+p2 b)/\σ[m]?=aa (aa w)/\RA K G H w c p1/\RSl K G H σ (ρ.set m none) p2:=by
 induction r generalizing m with
 | nil _=>simp at hm
 | @no o σ ρ p r B =>
  cases m with
  | zero=>simp at hm
  | succ m =>
   obtain⟨p1,p2,w,T,M,t,O⟩:=B (by simpa using hm)
   exact⟨p1,p2,w,T,by simpa using M,t,.no O⟩
 | @so v k σ ρ g h W I r e B =>
  cases m with
  | zero =>
   have:k=c:=by simpa using hm
   subst this
   exact⟨g,h,v,e,rfl,I,.no r⟩
  | succ m =>
   obtain⟨p1,p2,w,T,M,t,O⟩:=B (by simpa using hm)
   exact⟨p1,λb=>g b+p2 b,w,λb=>by have:=e b;have:=T b;dsimp only;omega,by simpa using M,t,.so I O λ_=>rfl⟩
theorem SR.take{m:Nat}{c:AV}(h:SR K H0 σ ρ ts as H)(hm:ρ[m]?=aa (aa c)):∃ w,σ[m]?=aa (aa w)/\SR K H0 σ (ρ.set m none) (w::ts) (.av c::as) H:=by
 obtain⟨⟨p,q,U,R,S,F⟩,s⟩:=h
 obtain⟨a,Y,w,T,M,t,O⟩:=U.take hm
 refine⟨w,M,SR.of_le (p:=p) (q:=q) (p':=Y) (q':=λb=>a b+q b) s S F (λb=>?_) O (.cons (.av t) R λ_=>rfl)⟩
 have:=T b
 show Y b+(a b+q b)<=_
 omega
theorem SR.snocT{ys:List AV}(h:SR K H0 σ ρ (v::.ref D::ts) (.av c::.av (.own ys)::as) H)(C:Stb as):∃ vs,H D=aa (.lst vs)/\vs.length=ys.length/\SR K H0 σ ρ (.ref D::ts) (.av (.own (ys++[c]))::as) (upd H D (.lst (vs++[v]))):=by
 obtain⟨⟨p,q,U,R,S,F⟩,s⟩:=h
 cases R with
 | @cons _ _ _ _ f O _ r rs B =>
 cases r with
 | av r =>
 cases rs with
 | @cons _ _ _ _ a j _ P rs e =>
 cases P with
 | av P =>
 cases P with
 | @own l vs _ t _ L J E =>
  refine⟨vs,L,J.len,?_⟩
  have g:a D=1+t D:=by have:=E D;simpa using this
  have ne:∀ b u,p b+q b=0->H b=aa u->b≠D:=λb u z _ y=>by subst y;have:=B b;have:=e b;omega
  have Q:Zg (hid H p q) (hid (upd H D (.lst (vs++[v]))) p q):=TU λb u z w=>⟨z,ne b u z w⟩
  have k1:∀ b o,0<p b+f b+j b+t b->H b=aa o->upd H D (.lst (vs++[v])) b=aa o:=λb o z w=>by
   rw[Zd (λy=>by subst y;have:=S b;have:=B b;have:=e b;omega)];exact w
  have s2:Zg H0 (upd H D (.lst (vs++[v]))):=s.updF (F D (by have:=B D;have:=e D;omega))
  refine⟨⟨p,λb=>((if b=D then 1 else 0)+(t b+f b))+j b,?_,.cons (.av (.own Zw (RAs.snoc (r.mono ?_ λb o z=>k1 b o (by omega)) (J.mono ?_ λb o z=>k1 b o (by omega))) λ_=>rfl)) (rs.monoS ?_ C λb o z=>k1 b o (by omega)) (λ_=>rfl),?_,?_⟩,s2⟩
  all_goals first
   | (refine U.mono (Q.trans (hid_more λb z=>?_)) λb o z=>k1 b o (by omega))
   | (refine Q.trans (hid_more λb z=>?_))
   | intro b
  all_goals (try (intro z))
  all_goals (have i:=B b;have k:=e b;have n:=E b;have m:=S b)
  all_goals first
   | (show p b+(((if b=D then 1 else 0)+(t b+f b))+j b)=0;omega)
   | (show p b+(((if b=D then 1 else 0)+(t b+f b))+j b)<=1;omega)
   | (refine F b ?_;have x:0<p b+(((if b=D then 1 else 0)+(t b+f b))+j b):=z;omega)
end
section
variable{E:FK}
theorem Jt(hi:ρ[n]?=aa (aa (.own xs)))(h:Ev K E X te ρ λa=>∃ j,a.sto=aa j/\xs.length<=1000000/\DV.nx (ρ.set n (aa (.own (xs++[j]))))):Sv K E X (WY (tBM K "list" Tr (Zj n) (ZD te ZV))) ρ DV:=λI Z ts as H D st s x f=>by
 obtain⟨l,vs,T,M,t,_⟩:=(s.push (x:=.none) λ_=>.non).write (xs':=xs) st hi
 refine⟨.ref l,T,P6 M (h I Z ts as H _ s x ?_)⟩
 rintro a ⟨j,e,hz,q⟩ v H' s'
 obtain⟨g,m,b,o,w,c⟩:=(s'.sto e).write (xs':=xs++[j]) st hi
 rw[T] at b
 cases b
 refine⟨l,m,v,rfl,rfl,o,small6 (by omega),f.nx _ q _ _ (c _ λG H p q L P=>⟨_,λ_=>ar _,RAs.snoc P L⟩)⟩
end
variable {z:ak}
section
variable{x y:V}
theorem SR.turn{u:V}{f:Nat->ak}(s:SR K H0 σ ρ (u::ts) (.av (.d z)::as) H)(ok:ItOk K J u z n f)(hi:i<n):J.go i H/\∀ x H',J.yld i H x H'->SR K H0 σ ρ (x::u::ts) (.av (.d (f i))::.av (.d z)::as) H':=by
 have s0:=s
 obtain⟨⟨p,q,U,R,S,F⟩,e⟩:=s
 have g:=SR.lsts U R
 cases R with
 | @cons _ _ _ _ A k _ r rs B =>
 cases r with
 | av r =>
 cases r with
 | d j w =>
  obtain⟨t,_⟩:=ok _ H Y5 j
  obtain⟨Y,a⟩:=t i hi
  refine⟨Y,λx H' y=>?_⟩
  obtain⟨T,M⟩:=a x H' y
  have s1:=s0.ext T
  obtain⟨⟨p',q',k1,k2,k3,v⟩,N⟩:=s1
  have m:Zg (hid H p q) (hid H' p q):=VG T
  refine⟨⟨p,q,U.mono m (λb o _=>T b o),.cons (.av (.d (p:=λ_=>0) (M (hid H' p q) m λb o G h=>?_) λ_=>rfl)) (.cons (.av (.d (j.same m) w)) (rs.mono m T) B) (λb=>by simp),S,F⟩,N⟩
  unfold hid
  rw[if_pos]
  ·exact G
  ·rcases ax (p b+q b) with c|c
   ·exact c
   ·obtain⟨vs,y,mu⟩:=g b c;rw[h] at y;cases y
theorem SR.halt{u:V}{f:Nat->ak}(s:SR K H0 σ ρ (u::ts) (a::as) H)(A:NR a)(b:a.data=z)(ok:ItOk K J u z n f)(hi:n<=i):J.stop i H:=(ok H H (.refl H) (b▸s.top A)).2 i hi
end
variable{g:TG}{φ:bG->Prop}{S:List ak->AV->Prop}{P:Nat->(Nat->ak)->TV->Prop}
section
variable{E:FK}{i:Int}
theorem SR.frzV(s:SR K H0 σ ρ (v::ts) (a::as) H):SR K H0 σ ρ (v::ts) (a.frz::as) H:=by
 cases a with
 | av a=>exact s.frzT
 | bor x=>exact s
 | raw v=>exact s
theorem TV.frz_data(a:TV):a.frz.data=a.data:=by cases a<;>rfl
theorem TV.frz_nr(h:NR a):NR a.frz:=by
 cases a with
 | av a=>exact NR.av
 | bor x=>exact NR.bor
 | raw v=>exact absurd rfl (h v)
theorem Ju:ItOk K (Itr lo m) .non .none m λi=>.int (lo+i):=λG H u j =>
 ⟨λi t=>⟨t,(by rintro x H' ⟨e1,e2⟩;subst e1 e2;exact⟨.refl _,λ_ _ _=>.int _⟩)⟩,λi t=>t⟩
theorem Jv(s:SR K H0 σ ρ (vs++ts) ([.av (.d (.int i))]++as) H)(L:vs.length=1):vs=[.int i]/\SR K H0 σ ρ ts as H:=by
 match vs,L with
 | [v],_ =>
  have e:=SR.top_d (v:=v) s
  rw[e.int_inv]
  exact⟨rfl,SR.pop (v:=v) s⟩
theorem Jw(h:Ea K E X A ρ λbs=>∃ j,bs=[.av (.d (.int j))]/\(-(2 ^ 62)<=j/\j<2 ^ 62)/\P j.toNat (λi=>.int (0+(i:Int))) (.av (.d .none))):Iv K E X (S5 A) ρ P:=λI Z ts as H R s x k =>
 h I Z ts as H _ s x <|by
  rintro bs ⟨j,e,hj,q⟩ vs H' s' hl
  subst e
  obtain⟨rfl,s2⟩:=Jv s' hl
  exact⟨j,rfl,hj.1,hj.2,k _ _ _ q .non _ H' (λ_ z=>nomatch z) (s2.push λ_=>.non) Ju⟩
theorem TW{tb:TS}(h:Iv K E X wi ρ λn f hd=>(∃ z,hd=.av (.d z))/\∃ Iv:Nat->Sl->Prop,Iv 0 ρ/\(∀ i B,i<n->Iv i B->Gv K g (f i) B λb=>Sv K E X tb b { nx:=Iv (i+1),ct:=Iv (i+1),bk:=DV.nx,rt:=DV.rt })/\∀ B,Iv n B->DV.nx B):Sv K E X (Vr wi g tb) ρ DV:=λI Z ts as H D st s x f =>
 h I Z ts as H _ s x <|by
  rintro n ft hd ⟨⟨z,ez⟩,Iw,i0,turn,fin⟩ u J H' _ s' ok
  subst ez
  refine⟨λi m A H'=>m=n-i/\i<=n/\∃ B,Iw i B/\SR K I A B (u::ts) (.av (.d z)::as) H',⟨n,by simp,d0 _,ρ,i0,s'⟩,?_⟩
  rintro i m σ1 H1 ⟨rfl,hi,ρ1,i1,s1⟩
  by_cases j:i<n
  ·obtain⟨t,Y⟩:=s1.turn ok j
   refine .inr ⟨t,λN H2=>∃ B,Iw (i+1) B/\SR K I N B (u::ts) (.av (.d z)::as) H2,λN H2 p=>⟨n-(i+1),by omega,rfl,j,p⟩,λy H2 l=>?_⟩
   refine turn i ρ1 j i1 I σ1 _ _ H2 y _ (Y y H2 l) λo k w M s3=>?_
   exact k I w _ _ M _ (Stb.cons st) s3 x ⟨λc q r C L=>⟨c,q,L⟩,λc q r C L=>f.nx c q r C L.pop,λc q r C L=>⟨c,q,L⟩,λa q v r c C L=>f.rt a q v r c C L.swap.pop⟩
  ·have e:i=n:=by omega
   subst e
   exact .inl ⟨s1.halt NR.av rfl ok (ar _),f.nx _ (fin _ i1) _ _ s1.pop⟩
theorem Jx{tb:TS}(Iv:Nat->Sl->Prop)(Q:Nat)(n:Iv Q ρ)
  (h:∀ m B,Iv m B->Tv K E X tc B λb=>if b=ac then Sv K E X tb B { nx:=λo=>∃ a,a < m/\Iv a o,ct:=λo=>∃ a,a < m/\Iv a o,bk:=DV.nx,rt:=DV.rt } else DV.nx B):Sv K E X (Tg tc tb) ρ DV:=λI Z ts as H D st s x f=>by
 refine⟨λm A H'=>∃ B,Iv m B/\SR K I A B ts as H',⟨Q,ρ,n,s⟩,?_⟩
 rintro m σ1 H1 ⟨ρ1,i1,s1⟩
 refine h m ρ1 i1 I σ1 ts as H1 _ s1 x λb q H2 s2=>?_
 cases b with
 | true =>
  rw[if_pos rfl] at q ⊢
  exact⟨λA H'=>∃ a,a < m/\∃ B,Iv a B/\SR K I A B ts as H',(by rintro A H' ⟨a,l,z⟩;exact ⟨a,l,z⟩),q I σ1 ts as H2 _ st s2 x ⟨(by rintro c ⟨a,l,z⟩ r C L;exact ⟨a,l,c,z,L⟩),λc q r C L=>f.nx c q r C L,(by rintro c ⟨a,l,z⟩ r C L;exact ⟨a,l,c,z,L⟩),f.rt⟩⟩
 | false =>
  rw[if_neg ap] at q ⊢
  exact f.nx _ q _ _ s2
noncomputable def AV.sh:AV->AV
 | .obj φ=>.obj φ
 | .d x=>.d x
 | .own xs=>.d (.list (AV.datas xs))
 | .tup xs=>.d (.tuple (AV.datas xs))
 | .dic kvs=>.d (.dict kvs)
noncomputable def Xe(cap:List (Option Nat))(ρ:Sl):Sl:=cap.map λo=>match o with
 | none=>none
 | some j=>(ρ[j]?).join.map AV.sh
theorem SR.at{j:Nat}(s:SR K H0 σ ρ ts as H)(h:ρ[j]?=aa (aa c)):∃ v,σ[j]?=aa (aa v)/\Rep K H v c.data:=by
 obtain⟨v,e,_,l⟩:=s.var h
 exact⟨v,e,l.top (a:=.bor c.data) NR.bor⟩
theorem SR.atO{j:Nat}{φ:V->Hp->Prop}(s:SR K H0 σ ρ ts as H)(h:ρ[j]?=aa (aa (.obj φ))):∃ v,σ[j]?=aa (aa v)/\φ v H/\∀ G1 G2:Hp,Zg G1 G2->φ v G1->φ v G2:=by
 obtain⟨⟨p,q,U,R,S,F⟩,e⟩:=s
 obtain⟨c,Y,v,T,M,t,O⟩:=U.frz h λ_ _ _ _=>trivial
 cases t with
 | obj f m z=>exact⟨v,M,m _ _ Y5 f,m⟩
theorem RSl.cap{H0 H G H2:Hp}{σ:St}{ts:List V}{as:List TV}(s:SR K H0 σ ρ ts as H)(m:Zg H G):∀ cap:List (Option Nat),RSl K G H2 (Xd cap σ) (Xe cap ρ) λ_=>0
 | []=>.nil λ_=>rfl
 | none::cap=>.no (RSl.cap s m cap)
 | some j::cap=>by
  cases e:(ρ[j]?).join with
  | none =>
   have:Xe (aa j::cap) ρ=none::Xe cap ρ:=by simp[Xe,e]
   rw[this]
   exact .no (RSl.cap s m cap)
  | some c =>
   have b:ρ[j]?=aa (aa c):=by
    cases z:ρ[j]? with
    | none=>rw[z] at e;cases e
    | some o=>rw[z] at e;cases o with
     | none=>cases e
     | some J=>cases e;rfl
   have a:Xe (aa j::cap) ρ=aa c.sh::Xe cap ρ:=by simp[Xe,e]
   rw[a]
   cases c with
   | obj i =>
    obtain⟨v,T,M,t⟩:=s.atO b
    have:Xd (aa j::cap) σ=aa v::Xd cap σ:=by simp[Xd,T]
    rw[this]
    exact .so (.obj (t _ _ m M) t λ_=>rfl) (RSl.cap s m cap) λ_=>rfl
   | _ =>
    obtain⟨v,T,M⟩:=s.at b
    have:Xd (aa j::cap) σ=aa v::Xd cap σ:=by simp[Xd,T]
    rw[this]
    exact .so (.d (M.same m) λ_=>rfl) (RSl.cap s m cap) λ_=>rfl
def Got(c:AV)(a:TV):Prop:=(c.clean=ac/\a=.av c)\/a=.bor c.data
theorem Got.own{c:AV}(h:c.clean=ac):Got c (.av c):=.inl ⟨h,rfl⟩
theorem SR.gotG(h:SR K H0 σ ρ ts as H)(r:Rs K H H' v c)(g:Got c a):SR K H0 σ ρ (v::ts) (a::as) H':=by
 rcases g with⟨Y,rfl⟩|rfl
 ·exact h.got r Y
 ·exact h.gotB r
theorem SR.rs(h:SR K H0 σ ρ (v::ts) (.av c::as) H):Rs K H0 H v c:=by
 obtain⟨⟨p,q,U,R,S,F⟩,e⟩:=h
 cases R with
 | @cons _ _ _ _ A k _ r rs B =>
 cases r with
 | av r=>exact⟨e,A,λb=>by have:=B b;have:=S b;omega,λb z=>F b (by have:=B b;omega),r.mono (hid_more λb z=>by have:=B b;simp;omega) λ_ _ _ z=>z⟩
theorem Jy{cap:List (Option Nat)}(h:Iv K E X wi ρ λn f _=>n<=1000000/\∃ y:Nat->Option AV,(∀ i,i<n->Gv K g (f i) (Xe cap ρ) λB=>Wk B (Xe cap ρ)/\Tv K E NE tt B λb=>if b=ac then Ev K E NE te B λa=>∃ c,y i=aa c/\a.sto=aa c else y i=none) /\
  ∃ a,Got (.own ((bL n).filterMap y)) a/\Q a):Ev K E X (TH cap wi g tt te) ρ Q:=λI Z ts as H W s x k =>
 h I Z ts as H _ s x <|by
  rintro n f hd ⟨hn,y,turn,a,hg,q⟩ u J H1 nr s1 ok D hD
  have l:XOk K E NE H1:=XOk.ne (x.t.same s1.same)
  have L:Zg H1 (upd H1 D (.lst [])):=XM hD
  have st:Stb [TV.av (.d hd.data)]:=Stb.cons Stb.nil
  have start:SR K H1 (Xd cap Z) (Xe cap ρ) [.ref D,u] [.av (.own []),.av (.d hd.data)] (upd H1 D (.lst [])):=by
   have m:Zg H1 (hid (upd H1 D (.lst [])) (λ_=>0) λb=>if b=D then 1 else 0):=λb o e=>by
    have G:b≠D:=Yw e hD
    unfold hid
    simp[G]
    rw[Zd G]
    exact e
   refine⟨⟨λ_=>0,λb=>if b=D then 1 else 0,RSl.cap s1 m cap,.cons (.av (.own Zw (.nil (p:=λ_=>0) λ_=>rfl) (q:=λb=>if b=D then 1 else 0) λb=>by simp)) (.cons (.av (.d (p:=λ_=>0) ((s1.top nr).same m) λ_=>rfl)) (.nil (p:=λ_=>0) λ_=>rfl) (r:=λ_=>0) λb=>by simp) (λb=>by simp),λb=>by simp;split<;>omega,λb z=>?_⟩,L⟩
   by_cases G:b=D
   ·rw[G];exact hD
   ·simp[G] at z
  refine⟨λi m A H'=>m=n-i/\i<=n/\SR K H1 A (Xe cap ρ) [.ref D,u] [.av (.own ((bL i).filterMap y)),.av (.d hd.data)] H',⟨n,by simp,d0 _,start⟩,?_⟩
  rintro i m σ2 H2 ⟨rfl,hi,s2⟩
  by_cases j:i<n
  ·obtain⟨t,Y⟩:=s2.swap.turn ok j
   refine .inr ⟨t,λA H'=>SR K H1 A (Xe cap ρ) [.ref D,u] [.av (.own ((bL (i+1)).filterMap y)),.av (.d hd.data)] H',λA H' p=>⟨n-(i+1),by omega,rfl,j,p⟩,λw M N=>?_⟩
   have s3:=Y w M N
   refine turn i j H1 σ2 _ _ M w _ s3 λρ4 ⟨wk,tv⟩ σ4 H4 s4=>?_
   refine tv H1 σ4 _ _ H4 _ s4 l λb O C s5=>?_
   cases b with
   | true =>
    rw[if_pos rfl] at O ⊢
    refine O H1 σ4 _ _ C _ s5 l ?_
    rintro a ⟨c,e1,e2⟩ z H6 s6
    have P:=(s6.sto e2)
    have F:SR K H1 σ4 ρ4 [z,.ref D,u] [.av c,.av (.own ((bL i).filterMap y)),.av (.d hd.data)] H6:=by
     obtain⟨⟨p,q,k1,k2,k3,v⟩,e⟩:=P
     refine⟨⟨p,q,k1,?_,k3,v⟩,e⟩
     cases k2 with
     | cons r rs T=>exact .cons r rs.swap T
    obtain⟨vs,U,R,S⟩:=F.snocT st
    refine⟨vs,U,small6 ?_,?_⟩
    ·rw[R]
     exact aT (List.length_filterMap_le _ _) (by rw[g4];omega)
    ·have:=wk _ _ _ _ _ _ S
     rw[jD,iG]
     simpa [e1] using this
   | false =>
    rw[if_neg ap] at O ⊢
    have:=wk _ _ _ _ _ _ s5.swap
    rw[jD,iG]
    simpa [O] using this
  ·have e:i=n:=by omega
   subst e
   exact .inl ⟨s2.swap.halt NR.av rfl ok (ar _),k _ q _ _ (s1.pop.gotG s2.rs hg)⟩
def spV(K:ay)(S:List ak->AV->Prop)(SX:List ak->Exc->Prop):Sp:=λvs H Q E=>Xz H/\∃ ds,Reps K H vs ds /\
 ((∃ c,S ds c/\∀ v H',Rs K H H' v c->Q v H')\/∃ e,SX ds e/\∀ c d H',Zg H H'->WF K H' e c d->E c d H')
theorem SR.reps{H0 H:Hp}{σ:St}:∀ {vs:List V} {bs:List TV} {ts:List V} {as:List TV},(∀ b∈bs,NR b)->vs.length=bs.length->SR K H0 σ ρ (vs++ts) (bs++as) H->Reps K H vs (bs.map TV.data)/\SR K H0 σ ρ ts as H
 | [],[],_,_,_,_,s=>⟨.nil,s⟩
 | v::vs,b::bs,ts,as,hb,e,s=>by
  have l:SR K H0 σ ρ (v::(vs++ts)) (b::(bs++as)) H:=s
  obtain⟨U,R⟩:=SR.reps (λc Y=>hb c (.tail _ Y)) (by simpa using e) l.pop
  exact⟨.cons (l.top (hb b (.head _))) U,R⟩
inductive NRs:List TV->Prop
 | nil:NRs []
 | cons {b:TV} {bs:List TV}:NR b->NRs bs->NRs (b::bs)
theorem NRs.all{bs:List TV}(h:NRs bs):∀ b∈bs,NR b:=by
 induction h with
 | nil=>exact λ_ z=>nomatch z
 | cons h _ B=>intro b G;rcases eR.mp G with e|e;exact e▸h;exact B b e
def Res(a:TV)(c:AV):Prop:=a=.av c\/(NR a/\c=.d a.data)
theorem SR.start{N:List au}{vs:List V}{ds:List ak}{H:Hp}(h:Reps K H vs ds):SR K H (start N vs) (ds.map (λd=>aa (.d d))++aU (N.length-ds.length) none) [] [] H:=by
 have L:=h.length
 refine⟨⟨λ_=>0,λ_=>0,?_,.nil λ_=>rfl,λ_=>by simp,λb z=>by simp at z⟩,.refl H⟩
 have f:hid H (λ_=>0) (λ_=>0)=H:=by funext b;simp[hid]
 rw[f]
 unfold L2.start
 rw[L]
 clear L
 generalize N.length-ds.length=m
 induction h using Reps.rec (motive_1:=λ_ _ _=>True) with
 | nil =>
  simp only[eL,gJ]
  induction m with
  | zero=>exact .nil λ_=>rfl
  | succ m B=>exact .no B
 | cons r rs _ B=>exact .so (.d r λ_=>rfl) B λ_=>rfl
 | _=>trivial
theorem Jz{g:List ak->Exc->Prop}{E:XK}(sp:spV K S g vs H Qv E)
  (h:∀ ds,(∀ c,S ds c->Sv K (toF E) NE t (ds.map (λd=>aa (.d d))++aU (N.length-ds.length) none) { nx:=λ_=>c=.d .none,rt:=λa=>Res a c }) /\
   ∀ e,g ds e->Sv K (toF E) (λi _=>i=e) t (ds.map (λd=>aa (.d d))++aU (N.length-ds.length) none) { nx:=λ_=>False,rt:=λ_=>False }) :
  t { nx:=λ_ H'=>Qv .non H',rt:=Qv } (L2.start N vs) H:=by
 obtain⟨O,ds,j,q⟩:=sp
 rcases q with⟨c,U,R⟩|⟨e,U,R⟩
 ·refine (h ds).1 c U H _ [] [] H _ Stb.nil (SR.start j) (XOk.ne O) ⟨λo q A H' l=>?_,λ_ z=>z.elim,λ_ z=>z.elim,λa q v A B H' l=>?_⟩
  ·rw[show c=.d .none from q] at R
   exact R _ _ (SR.rs (v:=.non) (l.push λ_=>.non))
  ·rcases q with rfl|⟨nr,rfl⟩
   ·exact R _ _ l.rs
   ·refine R _ _ ⟨l.same,λ_=>0,λ_=>by simp,λb z=>by simp at z,.d ?_ λ_=>rfl⟩
    have f:hid H' (λ_=>0) (λ_=>0)=H':=by funext b;simp[hid]
    rw[f]
    exact l.top nr
 ·exact (h ds).2 e U H _ [] [] H _ Stb.nil (SR.start j) ⟨λi B z c d A H2 u G=>by subst z;exact R c d H2 u.same G,O⟩ ⟨λ_ z=>z.elim,λ_ z=>z.elim,λ_ z=>z.elim,λ_ z=>z.elim⟩
end
variable{A:bv}{cs:List Bool}
section
variable{X:Cx}
def TX(K:ay):R2:=λx y H Q=>∃ l b xs zs,x=.ref l/\y=.ref b/\SqL K H l xs/\SqL K H b zs/\xs.length+zs.length<=sizeLine/\∀ p,H p=none->Q (.ref p) (upd H p (.lst (xs++zs)))
theorem JA(hK:X.K=K):OpR X (cr .Add) (TX K):=by
 subst hK
 intro O s g H x y v u Q I N m h
 obtain⟨l,b,xs,zs,rfl,rfl,W,B,C,q⟩:=h
 cases N
 cases m
 obtain⟨o,L,c,_⟩:=I.list W
 obtain⟨E,P,e,_⟩:=I.list B
 obtain⟨⟨i,k,t1,s1⟩,J,t,T,U,k1⟩:=c
 obtain⟨⟨F,w,a,s2⟩,Z,Y,M,n,k2⟩:=e
 cases T;cases U;cases k1;cases M;cases n;cases k2
 have j:=L.length
 have f:=P.length
 have S:o.toArray++E.toArray=(o++E).toArray:=by simp
 refine gX ⟨_,t,rfl⟩ ⟨_,Y,rfl⟩ noFill_list_add seq_list_add PySem.F.slot_list_add PySem.F.entry_list_add (PySem.F.args_list_add_2 _ _) (list_addW l b o.toArray E.toArray J Z _ _ s1 s2 (by rw[bn,bn];omega)) ⟨t,Y,?_⟩
 rw[S]
 exact⟨.ref _,_,I.lnew (t':=s.toks) (L.append P) (by rw[aO];exact C),rfl,q _ I.fresh⟩
def Rx(K:ay):List V->Hp->VK->Prop:=λvs H Q=>∃ (p:ah) (cs:List Bool),vs=[.ref p]/\SqL K H p (cs.map V.bl)/\Q (.bl (cs.all id)) H
theorem On:∀ {cs:List Bool} {us:List af} {i:Nat} {v:af},Zi (cs.map V.bl) us->us[i]?=aa v->v=.bool (cs.getD i aw)
 | [],_,_,_,.nil,e=>by simp at e
 | c::cs,_,0,v,.cons r _,e=>by simp at e;subst e;exact r
 | c::cs,_,i+1,v,.cons _ t,e=>by simpa using On (i:=i) t (by simpa using e)
theorem JB(cs:List Bool):(bL cs.length).all (λi=>cs.getD i aw)=cs.all id:=by
 rw[dy,gp,gp]
 constructor
 ·intro h c Y
  obtain⟨i,t,e⟩:=List.getElem_of_mem Y
  have:=h i (mem_range.mpr t)
  rw[bc,aR t] at this
  simpa [e] using this
 ·intro h i t
  have t:=mem_range.mp t
  rw[bc,aR t]
  exact h _ (gm t)
theorem JC{P:bg}(r:Zi (cs.map V.bl) us):TruthOf P w A (λi v=>us.toArray[i]?=aa v) (λi=>cs.getD i aw):=λi v s Q E S q=>by
 have:=On (i:=i) (v:=v) r (by simpa using S)
 subst this
 exact cJ q
theorem Oo(hK:X.K=K)(Y:X.calm=ac):Z7 X (.builtin "all") (Rx K):=by
 subst hK
 intro O s Z H vs us Q I r h
 obtain⟨p,cs,rfl,a,q⟩:=h
 obtain⟨u,rfl,R⟩:=vals1 r
 cases R
 obtain⟨its,rs,pl,_⟩:=I.list a
 have L:=pl.isList
 have j:p<s.heap.objs.size:=by obtain⟨_,e,_⟩:=L;exact aA e
 refine call_all_walk (jY L ?_)
 refine⟨s.heap.objs.size,_,_,_,_,_,λi=>cs.getD i aw,rfl,Walks.list (A:=X.A.in1) (I.ok.hd Y) _ p (aQ j) its.toArray,⟨⟨_,aN _ rfl,rfl,rfl⟩,L.push _⟩,JC rs,λh' tk N=>?_⟩
 have e:its.toArray.size=cs.length:=by rw[bn,<- rs.length,aC]
 rw[e,JB]
 exact⟨.bl _,H,I.kept (t':=tk) (λb o z=>N b o (by simp;exact aQ (aA z)) (ai _ z)),rfl,q⟩
end
theorem len1{vs:List α}(h:vs.length=1):∃ v,vs=[v]:=List.length_eq_one_iff.mp h
theorem len2{vs:List α}(h:vs.length=2):∃ v w,vs=[v,w]:=by
 cases vs with
 | nil=>cases h
 | cons v vs =>
  obtain⟨w,e⟩:=len1 (fK h)
  exact⟨v,w,by rw[e]⟩
variable{es:List ak}
section
variable{E:FK}{i:Int}
theorem one_of(s:SR K H0 σ ρ (vs++ts) ([a]++as) H)(L:vs.length=1):∃ v,vs=[v]/\SR K H0 σ ρ (v::ts) (a::as) H:=by
 obtain⟨v,rfl⟩:=len1 L
 exact⟨v,rfl,s⟩
theorem Ry(s:SR K H0 σ ρ (vs++ts) ([a,b]++as) H)(L:vs.length=2):∃ v w,vs=[v,w]/\SR K H0 σ ρ (v::w::ts) (a::b::as) H:=by
 obtain⟨v,w,rfl⟩:=len2 L
 exact⟨v,w,rfl,s⟩
theorem JD(ha:a.data=.list ds)(q:Q (.av (.d (.int ds.length))))(A:NR a:=by walk_at "n"):Bi K E X (VA K) [a] Q:=λI Z o ts as H vs W s L _ k=>by
 obtain⟨v,rfl,s⟩:=one_of s L
 exact KF (ha▸s.top A) (k _ q _ H (s.pop.int _))
theorem SR.items(s:SR K H0 σ ρ (v::ts) (a::as) H)(h:a=.av (.d a.data)\/noLsts es=ac)(P:List V->Prop)(W:∀ G,Rep K G v a.data->Zg G H->∃ xs,P xs/\Reps K G xs es)(A:NR a):∃ xs,P xs/\xs.length=es.length/\SR K H0 σ ρ (xs++ts) ((es.map AV.d).map TV.av++as) H:=by
 have fin:∀ {p q:Fp} {xs:List V} {es:List ak},Reps K (hid H p q) xs es->RTs K (hid H p q) H ts as q->RTs K (hid H p q) H (xs++ts) ((es.map AV.d).map TV.av++as) q:=by
  intro p q xs es r rt
  induction r using Reps.rec (motive_1:=λ_ _ _=>True) with
  | nil=>exact rt
  | cons r rs _ B=>exact .cons (.av (.d (p:=λ_=>0) r λ_=>rfl)) B λb=>by simp
  | _=>trivial
 rcases h with e|f
 ·rw[e] at s
  obtain⟨⟨p,q,U,R,S,F⟩,N⟩:=s
  cases R with
  | @cons _ _ _ _ i k _ r rs z=>cases r with
   | av r=>cases r with
    | d j w =>
     obtain⟨xs,c,this⟩:=W _ j Y5
     have g:hid H p q=hid H p k:=K3 λb=>by have:=z b;have:=w b;omega
     rw[g] at this U rs
     exact⟨xs,c,this.length,⟨p,k,U,fin this rs,λb=>by have:=S b;have:=z b;omega,λb y=>F b (by have:=z b;omega)⟩,N⟩
 ·obtain⟨xs,c,this⟩:=W H (s.top A) (.refl H)
  obtain⟨⟨p,q,U,R,S,F⟩,N⟩:=s.pop
  exact⟨xs,c,this.length,⟨p,q,U,fin (Reps.hid (SR.lsts U R) f this) R,S,F⟩,N⟩
def Kp(a:TV)(es:List ak):Prop:=a=.av (.d a.data)\/noLsts es=ac
theorem Kp.d{x:ak}{es:List ak}:Kp (.av (.d x)) es:=.inl rfl
theorem Kp.flat(h:noLsts es=ac):Kp a es:=.inr h
theorem Rz{c:String}{b:Bool}(A:NR a)(nd:isD a.data=aw)(e:ao K (.type (tyD a.data)) (.type c)=aa b)(q:Q (.av (.d (.bool b)))):Bi K E X (X1 K) [a,.raw (.ty c)] Q:=λI Z o ts as H vs W s L _ k=>by
 obtain⟨v,w,rfl,s⟩:=Ry s L
 have:=s.pop.raw
 subst this
 exact KP (s.top A) nd rfl e (k _ q _ H (s.pop.pop.bl _))
theorem JE(q:Q (.av (.d (.bool ac)))):Bi K E X (X1 K) [.av (.d (.int i)),.raw (.ty "int")] Q:=Rz NR.av rfl rfl q
theorem JF(q:Q (.av (.d (.bool aw)))):Bi K E X (X1 K) [.av (.d (.int i)),.raw (.ty "bool")] Q:=Rz NR.av rfl KC q
theorem JG{c:au}(ha:a.data=.str c)(q:Q (.av (.d (.bool ac))))(A:NR a:=by walk_at "n"):Bi K E X (X1 K) [a,.raw (.ty "str")] Q:=Rz A (by rw[ha];rfl) (by rw[ha];rfl) q
theorem Oq{G:Hp}:∀ {cs:List Bool} {xs:List V},Reps K G xs (cs.map jT)->xs=cs.map V.bl
 | [],_,.nil=>rfl
 | c::cs,_,.cons r rs=>by rw[Rep.bl_inv r,Oq rs];rfl
theorem JH(ha:a.data=.list (cs.map .bool))(q:Q (.av (.d (.bool (cs.all id)))))(A:NR a:=by walk_at "n"):Bi K E X (Rx K) [a] Q:=λI Z o ts as H vs W s L _ k=>by
 obtain⟨v,rfl,s⟩:=one_of s L
 have j:=s.top A
 rw[ha] at j
 obtain⟨l,xs,rfl,U,R⟩:=j.list_inv
 have:=Oq R
 subst this
 exact⟨l,cs,rfl,U,k _ q _ H (s.pop.bl _)⟩
theorem JI(ha:a.data=.list ds)(hb:b.data=.list es)(i:Kp a.frz ds)(h:Kp b.frz es)(C:ds.length+es.length<=1000000)(q:Q (.av (.own ((ds++es).map AV.d))))(A:NR a:=by walk_at "n")(w:NR b:=by walk_at "n"):Op K E X (TX K) a b Q:=λI Z o ts as H x y W s _ k=>by
 obtain⟨ys,⟨f,M,R⟩,g,s2⟩:=s.frzV.items h (λys=>∃ l,y=.ref l/\SqL K H l ys) (λG j u=>by
  rw[TV.frz_data,hb] at j
  obtain⟨l,xs,e,S,F⟩:=j.list_inv
  exact⟨xs,⟨l,e,u.seq S⟩,F⟩) (TV.frz_nr w)
 have s3:SR K I Z o (x::(ys++ts)) (a::((es.map AV.d).map TV.av++as)) H:=SR.rot (by rw[aC,aC,g]) s2
 obtain⟨xs,⟨v,T,U⟩,c,L⟩:=s3.frzV.items i (λys=>∃ l,x=.ref l/\SqL K H l ys) (λG j u=>by
  rw[TV.frz_data,ha] at j
  obtain⟨l,xs,e,S,F⟩:=j.list_inv
  exact⟨xs,⟨l,e,u.seq S⟩,F⟩) (TV.frz_nr A)
 refine⟨v,f,xs,ys,T,M,U,R,cc (small6 (by omega)),λp O=>k _ q _ _ (SR.new (xs:=(ds++es).map AV.d) ?_ (by rw[aO,aC,aO,c,g]) O)⟩
 rw[ck,eS,eS,ck]
 exact L
def WI(xs:List ak)(lo hi:Option Int):List PyData:=(xs.drop (HT.sIx xs.length 0 lo)).take (HT.sIx xs.length xs.length hi-HT.sIx xs.length 0 lo)
theorem Reps.drop{G:Hp}:∀ {xs:List V} {ds:List ak} (m:Nat),Reps K G xs ds->Reps K G (xs.drop m) (ds.drop m)
 | _,_,0,r=>r
 | _,_,_+1,.nil=>.nil
 | _,_,m+1,.cons _ rs=>Reps.drop m rs
theorem Reps.take{G:Hp}:∀ {xs:List V} {ds:List ak} (m:Nat),Reps K G xs ds->Reps K G (xs.take m) (ds.take m)
 | _,_,0,_=>.nil
 | _,_,_+1,.nil=>.nil
 | _,_,m+1,.cons r rs=>.cons r (Reps.take m rs)
theorem Reps.cut{xs:List V}(lo hi:Option Int)(r:Reps K G xs ds):Reps K G (We xs lo hi) (WI ds lo hi):=by
 unfold We WI
 rw[r.length]
 exact Reps.take _ (Reps.drop _ r)
def To(t:TO)(ρ:Sl)(K:ay)(E:FK)(X:Exc->Sl->Prop)(Q:Option Int->Prop):Prop :=
 ∀ (H0:Hp) (σ:St) (ts:List V) (as:List TV) (H:Hp) (QV:Option Int->Hp->Prop),SR K H0 σ ρ ts as H->XOk K E X H0->(∀ o,Q o->∀ H',SR K H0 σ ρ ts as H'->QV o H')->t σ H QV
theorem JJ{P:Option Int->Prop}(q:P none):To PH ρ K E X P:=λI Z ts as H W s x k=>k _ q H s
theorem JK{P:Option Int->Prop}(h:Ev K E X te ρ λa=>∃ i,a=.av (.d (.int i))/\P (aa i)):To (PJ te) ρ K E X P:=λI Z ts as H W s x k =>
 h I Z ts as H _ s x (by rintro a ⟨i,e,q⟩ v H' s';subst e;exact⟨i,s'.top_d.int_inv,k _ q H' s'.pop⟩)
end
variable {nx:Sl->Prop}{rt:TV->Prop}
section
variable{E:FK}{bk:Sl->Prop}{r:Sl}
theorem wk_0{o:Option AV}:Wk (o::r) (none::r):=λ_ _ _ _ _ _ s=>s.drop (i:=0)
theorem JL(h:Sv K E X t ρ ⟨λB=>Sv K E X u B ⟨nx,rt,bk,ct⟩,rt,bk,ct⟩):Sv K E X (Yj t u) ρ ⟨nx,rt,bk,ct⟩:=Jn h
theorem JM(h:nx ρ):Sv K E X Uc ρ ⟨nx,rt,bk,ct⟩:=Jo h
theorem Os(h:Ev K E X te ρ λ_=>nx ρ):Sv K E X (WY te) ρ ⟨nx,rt,bk,ct⟩:=Jp h
theorem Ot(h:Ev K E X te ρ rt):Sv K E X (Vo te) ρ ⟨nx,rt,bk,ct⟩:=Jq h
theorem Ys{c:TT}(h:Tv K E X c ρ λb=>if b=ac then Sv K E X t ρ ⟨nx,rt,bk,ct⟩ else Sv K E X u ρ ⟨nx,rt,bk,ct⟩):Sv K E X (Vp c t u) ρ ⟨nx,rt,bk,ct⟩:=Om h
theorem Ou{tb:TS}(Iv:Nat->Sl->Prop)(Q:Nat)(n:Iv Q ρ)
  (h:∀ m B,Iv m B->Tv K E X tc B λb=>if b=ac then Sv K E X tb B ⟨λo=>∃ a,a < m/\Iv a o,rt,nx,λo=>∃ a,a < m/\Iv a o⟩ else nx B):Sv K E X (Tg tc tb) ρ ⟨nx,rt,bk,ct⟩:=Jx Iv Q n h
end
variable{ws:ak}
section
variable{X:Cx}
def rOr(r r':R2):R2:=λx y H Q=>r x y H Q\/r' x y H Q
def Ov:R2:=λx y H Q=>∃ i j,x=.str i/\y=.str j/\i.length+j.length<=sizeLine/\Q (.str (i++j)) H
def RB:R2:=rI0 λi j=>.int (i+j)
def Ow:R2:=rI Uf λi j=>.int (i*j)
def RC(K:ay):R2:=λx y H Q=>∃ a b ys,x=.ref a/\y=.ref b/\SqT K H a []/\SqT K H b ys/\Q (.ref b) H
theorem JN{t b:ah}{ws:List af}{Q:af->aq->Prop}(ht:i7 s.heap t ([]:List af).toArray)(hb:i7 s.heap b ws.toArray)
  (h1:Q (.ref b) s):aG (aI prog w) A (cr .Add (.ref t) (.ref b)) Q E s:=by
 obtain⟨⟨cls,dd,data,p⟩,P,Y,n,hd⟩:=id ht
 obtain⟨⟨j,f,g,h⟩,a,l,Z,c⟩:=id hb
 simp only at Y hd l c
 subst Y hd l c
 exact gX ⟨_,P,rfl⟩ ⟨_,a,rfl⟩ hH iO eP eK (eA _ _)
   (tuple_addW0 t b #[] ws.toArray n Z dd f p h rfl) ⟨P,a,h1⟩
theorem JO(hK:X.K=K):OpR X (cr .Add) (RC K):=by
 subst hK
 intro O s Z H x y v u Q I N m h
 obtain⟨a,b,ys,rfl,rfl,l,G,q⟩:=h
 cases N
 cases m
 obtain⟨its,L,c,_⟩:=I.tuple l
 obtain⟨e,P,Y,_⟩:=I.tuple G
 cases L
 exact JN c Y ⟨.ref b,H,I,rfl,q⟩
theorem YG(hK:X.K=K):OpR X (cr .Add) (rOr RB (rOr (TX K) (rOr (Tn K) (rOr Ov (RC K))))):=Ln.or ((JA hK).or ((KH hK).or (Lu.or (JO hK))))
theorem TY:OpR X (cr .Mult) (rOr Ow rRep):=Lo.or Kg
theorem ZC(hK:X.K=K)(j:X.A.units+64<cK):OpR X (bx .Eq) (rOr rEq (W5 K)):=Lp.or (KI hK j)
theorem RE(hK:X.K=K)(j:X.A.units+64<cK):OpR X (bx .NotEq) (rOr rNe (W6 K)):=Lq.or (KJ hK j)
theorem ZI(hK:X.K=K)(j:X.A.units+64<cK):IxR X (rOr (Vx K) (rOr (Tq K) (rOr Rc Ru))):=by subst hK;exact LU.or (LV.or (LW.or (KZ j)))
def VJ(r r':V->Option Int->Option Int->Hp->VK->Prop):V->Option Int->Option Int->Hp->VK->Prop:=λx lo hi H Q=>r x lo hi H Q\/r' x lo hi H Q
theorem Us(hK:X.K=K):SlR X (VJ (Uj K) (Ui K)):=by subst hK;exact LZ.or LQ
def cOr(r r':List V->Hp->VK->Prop):List V->Hp->VK->Prop:=λxs H Q=>r xs H Q\/r' xs H Q
def RF:List V->Hp->VK->Prop:=λxs H Q=>∃ z,xs=[.str z]/\z.length<=sizeLine/\Q (.int z.length) H
theorem Yt(hK:X.K=K):Z7 X (.builtin "len") (cOr (VA K) RF):=by subst hK;exact Ku.or L8
def RG(K:ay)(tl:TE):TI:=λσ H R=>tl σ H λx H1=>∃ a,x=.ref a/\(((∃ xs,SqL K H1 a xs)/\R (Itl K a) H1)\/((∃ xs,SqT K H1 a xs)/\R (Itt K a) H1))
theorem JP{l:cz}{tl:TE}(hK:X.K=K)(L:PE X l tl):PI X tg l (RG K tl):=by
 subst hK
 intro O s Z H R I h
 refine thn (L O s Z H _ I h) ?_
 rintro v s1 ⟨x,H1,I1,r1,q1⟩
 obtain⟨a,e,q⟩:=q1
 subst e
 cases r1
 have S:∀ b∈[s1.heap.objs.size],Xa X O H1 b:=λb G=>by
  rw[mem_singleton.mp G]
  exact I1.fpOk (ar _) (I1.hok.fresh (ar _))
 rcases q with⟨⟨xs,g⟩,q⟩|⟨⟨xs,g⟩,q⟩
 ·obtain⟨its,_,p,_⟩:=I1.list g
  exact jY p.isList ⟨s1.heap.objs.size,_,_,_,H1,rfl,I1.kept (t':=s1.toks) λb o e=>ai _ e,Lh a _,⟨_,aN _ rfl,rfl,rfl⟩,S,q⟩
 ·obtain⟨its,_,p,_⟩:=I1.tuple g
  exact wpAny_pyIter_tuple (show s1.heap.IsTuple a its.toArray from p) ⟨s1.heap.objs.size,_,_,_,H1,rfl,I1.kept (t':=s1.toks) λb o e=>ai _ e,Li a _,⟨_,aN _ rfl,rfl,rfl⟩,S,q⟩
end
section
variable{E:FK}{i:Int}
theorem WJ(h:Op K E X r a b Q):Op K E X (rOr r r') a b Q:=λI Z o ts as H x y W s i k=>.inl (h I Z o ts as H x y W s i k)
theorem Wf(h:Op K E X r' a b Q):Op K E X (rOr r r') a b Q:=λI Z o ts as H x y W s i k=>.inr (h I Z o ts as H x y W s i k)
abbrev Ox(K:ay):R2:=rOr RB (rOr (TX K) (rOr (Tn K) (rOr Ov (RC K))))
theorem JQ(q:Q (.av (.d (.int (i+j))))):Op K E X (rOr RB r') (.av (.d (.int i))) (.av (.d (.int j))) Q:=WJ (Oi q)
theorem Oy(c:Uf i j)(q:Q (.av (.d (.int (i*j))))):Op K E X (rOr Ow r') (.av (.d (.int i))) (.av (.d (.int j))) Q:=WJ (VI c q)
theorem eq_i(q:Q (.av (.d (.bool (decide (i=j)))))):Op K E X (rOr rEq r') (.av (.d (.int i))) (.av (.d (.int j))) Q:=WJ (Ja q)
theorem eq_d[DecidableEq α]{c d:α}(F:Enc f m)(ha:a.data=f c)(hb:b.data=f d)(q:Q (.av (.d (.bool (decide (c=d))))))(A:NR a:=by walk_at "n")(w:NR b:=by walk_at "n")(hm:m<=32:=by decide):Op K E X (rOr rEq (W5 K)) a b Q:=Wf (Jb F ha hb q A w hm)
theorem ne_d[DecidableEq α]{c d:α}(F:Enc f m)(ha:a.data=f c)(hb:b.data=f d)(q:Q (.av (.d (.bool (!decide (c=d))))))(A:NR a:=by walk_at "n")(w:NR b:=by walk_at "n")(hm:m<=32:=by decide):Op K E X (rOr rNe (W6 K)) a b Q:=Wf (Jc F ha hb q A w hm)
abbrev TZ(K:ay):R2:=rOr (Vx K) (rOr (Tq K) (rOr Rc Ru))
theorem YC{c:TV}(ha:a.data=.list ds)(e:atI ds k=aa y)(it:ZT a y c)(q:Q c)(A:NR a:=by walk_at "n"):Op K E X (TZ K) a (.av (.d (.int k))) Q:=WJ (Jd ha e it q A)
theorem ix_T{c:TV}(ha:a.data=.tuple ds)(e:atI ds k=aa y)(it:ZT a y c)(q:Q c)(A:NR a:=by walk_at "n"):Op K E X (TZ K) a (.av (.d (.int k))) Q:=Wf (WJ (Je ha e it q A))
theorem Oz(ha:a.data=.list ds)(hb:b.data=.list es)(i:Kp a.frz ds)(h:Kp b.frz es)(C:ds.length+es.length<=1000000)(q:Q (.av (.own ((ds++es).map AV.d))))(A:NR a:=by walk_at "n")(w:NR b:=by walk_at "n"):Op K E X (Ox K) a b Q:=Wf (WJ (JI ha hb i h C q A w))
theorem bi_l{c J:List V->Hp->VK->Prop}{bs:List TV}(h:Bi K E X c bs Q):Bi K E X (cOr c J) bs Q:=λI Z o ts as H vs W s L x k=>.inl (h I Z o ts as H vs W s L x k)
theorem XB(ha:a.data=.list ds)(q:Q (.av (.d (.int ds.length))))(A:NR a:=by walk_at "n"):Bi K E X (cOr (VA K) RF) [a] Q:=bi_l (JD ha q A)
theorem RH(h:Ev K E X te ρ λa=>To tl ρ K E X λlo=>To th ρ K E X λhi=>∃ ds,a.data=.list ds/\NR a/\Kp a.frz (WI ds lo hi)/\Q (.av (.own ((WI ds lo hi).map AV.d)))):Ev K E X (tSl (VJ (Uj K) (Ui K)) te tl th) ρ Q:=λI Z ts as H W s x k=>by
 refine h I Z ts as H _ s x λa f v y s1=>f I Z _ _ y _ s1 x λlo c H2 s2=>c I Z _ _ H2 _ s2 x λhi ⟨ds,ha,na,kp,q⟩ H3 s3=>.inl ?_
 obtain⟨xs,⟨l,ys,e,U,b⟩,R,g⟩:=s3.frzV.items kp (λxs=>∃ l ys,v=.ref l/\SqL K H3 l ys/\xs=We ys lo hi) (λG j u=>by
  rw[TV.frz_data,ha] at j
  obtain⟨l,xs,e,S,F⟩:=j.list_inv
  exact⟨_,⟨l,xs,e,u.seq S,rfl⟩,Reps.cut lo hi F⟩) (TV.frz_nr na)
 subst b
 exact⟨l,ys,e,U,λp O=>k _ q _ _ (SR.new g (by rw[aC,R]) O)⟩
theorem JR:ItOk K (Itl K l) (.ref l) (.list ds) ds.length λi=>ds.getD i .none:=by
 intro G H u j
 obtain⟨g,ys,N,S,F⟩:=j.list_inv
 cases N
 have Y:=u.seq S
 refine⟨λi t=>?_,λi t=>⟨ys,Y,by rw[F.length];exact t⟩⟩
 obtain⟨w,B,q⟩:=F.get (i:=i) (d:=ds.getD i .none) (by rw[bc,aR t];rfl)
 refine⟨⟨ys,w,Y,B⟩,?_⟩
 rintro x H' ⟨e1,e2⟩
 subst e1
 have:=e2 ys Y
 rw[B] at this
 cases this
 exact⟨.refl _,λa m _=>q.same m⟩
theorem JS:ItOk K (Itt K l) (.ref l) (.tuple ds) ds.length λi=>ds.getD i .none:=by
 intro G H u j
 obtain⟨g,ys,N,S,F⟩:=j.tuple_inv
 cases N
 have Y:=u.tupS S
 refine⟨λi t=>?_,λi t=>⟨ys,Y,by rw[F.length];exact t⟩⟩
 obtain⟨w,B,q⟩:=F.get (i:=i) (d:=ds.getD i .none) (by rw[bc,aR t];rfl)
 refine⟨⟨ys,w,Y,B⟩,?_⟩
 rintro x H' ⟨e1,e2⟩
 subst e1
 have:=e2 ys Y
 rw[B] at this
 cases this
 exact⟨.refl _,λa m _=>q.same m⟩
theorem JT(h:Ev K E X te ρ λa=>∃ ds,(a.data=.list ds\/a.data=.tuple ds)/\NR a/\P ds.length (λi=>ds.getD i .none) a.frz):Iv K E X (RG K te) ρ P:=λI Z ts as H R s x k =>
 h I Z ts as H _ s x <|by
  rintro a ⟨ds,e,na,q⟩ v H' s'
  have j:=s'.top na
  rcases e with e|e
  ·rw[e] at j
   obtain⟨l,xs,rfl,U,b⟩:=j.list_inv
   refine⟨l,rfl,.inl ⟨⟨xs,U⟩,k _ _ _ q (.ref l) _ H' (TV.frz_nr na) s'.frzV ?_⟩⟩
   rw[TV.frz_data,e]
   exact JR
  ·rw[e] at j
   obtain⟨l,xs,rfl,U,b⟩:=j.tuple_inv
   refine⟨l,rfl,.inr ⟨⟨xs,U⟩,k _ _ _ q (.ref l) _ H' (TV.frz_nr na) s'.frzV ?_⟩⟩
   rw[TV.frz_data,e]
   exact JS
theorem OA{xs:List α}{e:α->ak}{i:Nat}(hi:i<xs.length):(xs.map e).getD i .none=e xs[i]:=by
 rw[bc,c_,aR hi];rfl
theorem JU{bk:Sl->Prop}{tb:TS}(h:Ev K E X te ρ λa=>∃ (xs:List α) (e:α->ak),(a.data=.list (xs.map e)\/a.data=.tuple (xs.map e))/\(∃ c,a=.av c)/\∃ f:Nat->Sl->Prop,f 0 ρ/\(∀ i B (hi:i<xs.length),f i B->Gv K g (e xs[i]) B λb=>Sv K E X tb b ⟨f (i+1),rt,nx,f (i+1)⟩)/\∀ B,f xs.length B->nx B):Sv K E X (Vr (RG K te) g tb) ρ ⟨nx,rt,bk,ct⟩ :=
 TW (JT (XA h (λa m=>by
  obtain⟨xs,e,l,⟨c,Y⟩,f,n,turn,fin⟩:=m
  exact⟨xs.map e,l,by subst Y;exact NR.av,⟨c.data,by rw[Y];rfl⟩,f,n,λi B hi w=>by
  rw[aC] at hi
  show Gv K g ((xs.map e).getD i .none) B _
  rw[OA hi]
  exact turn i B hi w,λB w=>fin B (by rw[aC] at w;exact w)⟩)))
theorem JV{bk:Sl->Prop}{A:TA}{tb:TS}(h:Ea K E X A ρ λbs=>∃ j,bs=[.av (.d (.int j))]/\(-(2 ^ 62)<=j/\j<2 ^ 62)/\∃ f:Nat->Sl->Prop,f 0 ρ/\(∀ (i:Nat) B,i<j.toNat->f i B->Gv K g (.int i) B λb=>Sv K E X tb b ⟨f (i+1),rt,nx,f (i+1)⟩)/\∀ B,f j.toNat B->nx B):Sv K E X (Vr (S5 A) g tb) ρ ⟨nx,rt,bk,ct⟩ :=
 TW (Jw λI Z ts as H W s x k=>h I Z ts as H W s x (λbs m=>by
  obtain⟨j,e,l,f,n,turn,fin⟩:=m
  exact k bs ⟨j,e,l,⟨_,rfl⟩,f,n,λi B t w=>by
  show Gv K g (.int (0+(i:Int))) B _
  rw[Int.zero_add]
  exact turn i B t w,fin⟩))
theorem W7(xs:List α)(y:α->ak):AV.datas (xs.map λx=>.d (y x))=xs.map y:=by
 rw[AV.datas_map,e7];rfl
theorem JW(h:∀ x∈xs,x.clean=ac):AV.cleans xs=true:=by
 induction xs with
 | nil=>rfl
 | cons x xs B=>simp only[AV.cleans,aJ];exact⟨h x (.head _),B λy a=>h y (.tail _ a)⟩
theorem T1{xs:List α}{y:α->AV}(h:∀ x,(y x).clean=ac):(AV.own (xs.map y)).clean=true:=by
 rw[AV.clean]
 exact JW λz C=>by obtain⟨x,_,rfl⟩:=mem_map.mp C;exact h x
end
def RI(c:TT)(t u:TS):TS:=Vp c t u
theorem X2{X:Cx}{c:cz}{a b:List er}(Y:PT X c tc)(ha:PSs X a t)(hb:PSs X b u):PS X (.If c a b pos) (RI tc t u):=Yr Y ha hb
def NX:List ak->Exc->Prop:=λ_ _=>False
def ini(N:List au)(ds:List ak):Sl:=ds.map (λd=>aa (.d d))++aU (N.length-ds.length) none
abbrev fin(c:AV):VEnds:=⟨λ_=>c=.d .none,λa=>Res a c,λ_=>False,λ_=>False⟩
theorem JX{E:XK}(sp:spV K S NX vs H Qv E)(h:∀ ds c,S ds c->Sv K (toF E) NE t (ini N ds) (fin c)):t { nx:=λ_ H'=>Qv .non H',rt:=Qv } (L2.start N vs) H :=
 Jz (N:=N) sp λds=>⟨λc Y=>h ds c Y,λe j=>j.elim⟩
variable{P:AV->Prop}
section
variable{E:FK}{i:Int}
theorem v_b{c:Bool}{P:Bool->Prop}(h:P c):∃ J,TV.av (.d (.bool c))=.av (.d (.bool J))/\P J:=⟨c,rfl,h⟩
theorem v_i{P:Int->Prop}(h:P i):∃ J,TV.av (.d (.int i))=.av (.d (.int J))/\P J:=⟨i,rfl,h⟩
theorem v_s(h:P c):∃ j,Sto ρ (.av c) j/\P j:=⟨c,.inl rfl,h⟩
theorem XO(e:c.data=x)(h:P (.d x)):∃ j,Sto ρ (.av c) j/\P j:=⟨.d x,.inr (.inl ⟨c,rfl,by rw[e]⟩),h⟩
theorem Ut(C:xs.length<=1000000)(h:P c):∃ j,(TV.av c).sto=aa j/\xs.length<=1000000/\P j:=⟨c,rfl,C,h⟩
theorem Zs(h:c=.d x):Res (.av (.d x)) c:=.inl (by rw[h])
theorem OB(h:c=.own xs):Res (.av (.own xs)) c:=.inl (by rw[h])
theorem JY{a bk:Sl->Prop}(h:Sv K E X t ρ ⟨a,rt,bk,ct⟩)(m:∀ B,a B->nx B):Sv K E X t ρ ⟨nx,rt,bk,ct⟩:=λI Z ts as H D st s x f=>h I Z ts as H D st s x ⟨λB q=>f.nx B (m B q),f.bk,f.ct,f.rt⟩
theorem Xf{bk:Sl->Prop}{c:TT}(J:Sl->Prop)(a:∀ B,J B->nx B)(h:Tv K E X c ρ λb=>if b=ac then Sv K E X t ρ ⟨J,rt,bk,ct⟩ else Sv K E X u ρ ⟨J,rt,bk,ct⟩):Sv K E X (RI c t u) ρ ⟨nx,rt,bk,ct⟩:=JY (Om h) a
theorem JZ{A:Prop}(h:A):if (!false)=ac then A else B:=h
theorem OC(q:Q (.av (.own []))):Ev K E X (XZ ZV) ρ Q:=Ye (ZN ⟨[],.nil,d0 _,q⟩)
end
structure Exn(tb:Bool)(B:bG)(l:List eF)(e:ah)(cls:af)(d:Option ah)(h:bG):Prop where
 stays:B.StaysIn h
 new:B.get? e=none
 frs:h.FunFrames B l
 ob:∃ (oe:dE) (vs:Array af),h.get? e=aa oe/\oe.cls=cls/\oe.dict=d/\oe.data=.fields vs/\1<vs.size /\
  (if tb=ac then ∃ T oT ts,vs[1]?=aa (.ref T)/\B.get? T=none/\T≠e/\h.get? T=aa oT/\oT.data=.fields ts/\3<ts.size else vs[1]?=aa .none)
variable{b:ah}{X:Cx}{v cls:af}{tb:Bool}{B:bG}{oe fo:dE}{vs:Array af}{Q:Unit->aq->Prop}
section
variable{l:List eF}{L e:ah}{d:Option ah}
theorem Uu{o:dE}(hb:h.get? b=aa o)(hn:∀ ws,o.data≠.fields ws)(j:h.get? e=aa oe)(hd:oe.data=.fields vs):b≠e:=λq=>by
 subst q
 rw[hb] at j
 cases j
 exact hn vs hd
theorem OD{k:af}{m:Bool}(u:A.frames=aa (env::outer))(F:env.frame=aa L)(st:B.StaysIn s.heap)(ne:B.get? e=none)(S:s.heap.FunFrames B (env::outer))
  (j:s.heap.get? e=aa oe) (Y:oe.cls=cls) (i:oe.dict=d) (hd:oe.data=.fields vs) (C:1<vs.size)
  (q:∀ h',Exn ac B (env::outer) e cls d h'->s.heap.UpToSlots h'->Q () { s with heap:=h' }) :
  aG M A (do let a <- frameOf env;let pl <- entryPlaceOf L m;let b <- hO k a .none (e9 L) .none pl;setField (.ref e) 1 b) Q E s:=by
 have w:e∉(env::outer).filterMap (·.frame):=λK=>by
  obtain⟨_,o,P,f⟩:=S.mem K
  exact Uu P f j hd rfl
 refine ae (wpAny_frameOf_fun u S F λU n=>ae (wpAny_entryPlaceOf λpl g=>?_))
 unfold hO newFields
 refine ae (dj ?_ (g.sizeOk5 _ _ _ _ _))
 have T:U.get? e=aa oe:=by rw[n.2.1 e w];exact j
 have s1:B.StaysIn U:=λb o z=>by rw[n.2.1 b λK=>by rw[(S.mem K).1] at z;cases z];exact st b o z
 generalize l:({ cls:=.type "traceback",dict:=none,data:=.fields ([k,.ref L,.none,e9 L,.none]++(if pl.isEmpty then aU 6 cG else pl)).toArray }:dE)=h
 have v:(U.push h).get? e=aa oe:=ai _ T
 have c:(U.push h).get? U.objs.size=aa h:=aN _ (by rw[<- l];rfl)
 have nT:U.objs.size≠e:=cq (aA T)
 refine ip v hd C (q _ ⟨λb o z=>?_,ne,S.of_keeps λb o G f=>?_,?_⟩ λb o G f=>?_)
 ·rw[cn _ _ (λy:e=b=>by rw[<- y,ne] at z;cases z)]
  exact ai _ (s1 b o z)
 ·obtain⟨p,t⟩:=n.2.2 b o G
  exact⟨{ o with slots:=p },by rw[cn _ _ (bY (Uu G f j hd))];exact ai _ t,rfl⟩
 ·have H:=jk hd (·.setIfInBounds 1 (aD U.objs.size))
  refine⟨_,_,ff _ v (iM H),?_,?_,H,by simpa using C,?_⟩
  ·rw[dE.cls_mapFields];exact Y
  ·rw[<- i];obtain⟨_,_,r,_⟩:=oe;cases r<;>rfl
  ·rw[if_pos rfl]
   refine⟨U.objs.size,h,_,by simp[C],s1.fresh,nT,by rw[cn _ _ (bY nT)];exact c,by rw[<- l],?_⟩
   simp only[bn,aO,aS,d8]
   omega
 ·obtain⟨p,t⟩:=n.2.2 b o G
  exact⟨p,by rw[cn _ _ (bY (Uu G f j hd))];exact ai _ t⟩
theorem OE{T:ah}{oT:dE}{ts:Array af}(x:Exn ac B l e cls d s.heap)(c:∃ oe vs,s.heap.get? e=aa oe/\oe.data=.fields vs/\vs[1]?=aa (.ref T))(nT:B.get? T=none)(P:s.heap.get? T=aa oT)(hd:oT.data=.fields ts) :
  Exn ac B l e cls d (s.heap.update T (fZ (·.setIfInBounds 3 v)))/\s.heap.UpToSlots (s.heap.update T (fZ (·.setIfInBounds 3 v))):=by
 obtain⟨st,ne,S,oe,vs,j,Y,i,p,C,ht⟩:=x
 rw[if_pos rfl] at ht
 obtain⟨A,w,r,U,J,g,t,k,I⟩:=ht
 obtain⟨u,m,a,n,q⟩:=c
 rw[j] at a
 cases a
 rw[p] at n
 cases n
 rw[U] at q
 cases q
 rw[P] at t
 cases t
 rw[hd] at k
 cases k
 have h:∀ b,b≠T->(s.heap.update T (fZ (·.setIfInBounds 3 v))).get? b=s.heap.get? b:=λb G=>cn _ _ (bY G)
 have H:=jk hd (·.setIfInBounds 3 v)
 refine⟨⟨λb o z=>?_,ne,S.of_keeps λb o G f=>⟨o,by rw[h b (Uu G f P hd)];exact G,rfl⟩,oe,vs,by rw[h e (bY g)];exact j,Y,i,p,C,?_⟩,λb o G f=>⟨o.slots,by rw[h b (Uu G f P hd)];exact G⟩⟩
 ·rw[h b (λy=>by rw[y,nT] at z;cases z)]
  exact st b o z
 ·rw[if_pos rfl]
  exact⟨T,_,_,U,nT,g,ff _ P (iM H),H,by simpa using I⟩
theorem RJ(a:A.frames=aa (env::outer))(F:env.frame=aa L)(x:Exn tb B (env::outer) e cls d s.heap)
  (q:∀ h',Exn ac B (env::outer) e cls d h'->s.heap.UpToSlots h'->Q () { s with heap:=h' }):aG M A (noteFrame (.ref e) env) Q E s:=by
 obtain⟨oe,vs,j,Y,i,hd,C,ht⟩:=x.ob
 unfold noteFrame
 simp only[F]
 cases tb with
 | false =>
  rw[if_neg ap] at ht
  refine ae (dF j hd ht ?_)
  rw[if_neg (by decide)]
  exact OD a F x.stays x.new x.frs j Y i hd C q
 | true =>
  rw[if_pos rfl] at ht
  obtain⟨T,p,ts,U,J,g,t,k,I⟩:=ht
  refine ae (dF j hd U ?_)
  rw[if_pos (show (aD T != cG)=ac from by simp)]
  refine ae (dF t k (cB I) ?_)
  by_cases G:(ts[3] == e9 L)=ac
  ·rw[if_pos G]
   exact am (q s.heap x (.refl _))
  ·rw[if_neg G]
   refine ae (ip t k I ?_)
   obtain⟨b,m⟩:=OE (v:=.none) x ⟨oe,vs,j,hd,U⟩ J t k
   obtain⟨u,r,f,l,h,c,n,_⟩:=b.ob
   exact OD (s:={ s with heap:=s.heap.update T (fZ (·.setIfInBounds 3 .none)) }) a F b.stays b.new b.frs f l h c n λh' N o=>q h' N (m.trans o)
theorem T2{fo:Option ah}(x:Exn ac B l e cls d s.heap)(q:∀ h',Exn ac B l e cls d h'->s.heap.UpToSlots h'->Q () { s with heap:=h' }):aG M A (setFlight (.ref e) fo) Q E s:=by
 obtain⟨oe,vs,j,Y,i,hd,C,ht⟩:=x.ob
 rw[if_pos rfl] at ht
 obtain⟨T,p,ts,U,J,g,t,k,I⟩:=ht
 unfold setFlight
 refine ae (dF j hd U ?_)
 rw[if_pos (show (aD T != cG)=ac from by simp)]
 obtain⟨b,m⟩:=OE (v:=fo.elim cG λf=>e9 f) x ⟨oe,vs,j,hd,U⟩ J t k
 exact ip t k I (q _ b m)
theorem J0(a:A.frames=aa (env::outer))(F:env.frame=aa L)(x:Exn tb B (env::outer) e cls d s.heap)
  (q:∀ h',Exn ac B outer e cls d h'->s.heap.UpToSlots h'->Q () { s with heap:=h' }):aG M A (j1 env (.ref e)) Q E s:=by
 unfold j1
 refine ae (RJ a F x λU o Z=>T2 (s:={ s with heap:=U }) o λR b m=>q R ⟨b.stays,b.new,b.frs.2.2,b.ob⟩ (Z.trans m))
theorem J9(a:A.frames=aa (env::outer))(F:env.frame=aa L)(x:Exn tb B (env::outer) e cls d s.heap){X:af->aq->Prop}
  (q:∀ h',Exn ac B (env::outer) e cls d h'->s.heap.UpToSlots h'->X (.ref e) { s with heap:=h' }):notedBy M A env (cameBackBy M A env X) (.ref e) s:=by
 refine RJ a F x λU o Z=>?_
 obtain⟨oe,vs,j,Y,i,hd,C,ht⟩:=o.ob
 rw[if_pos rfl] at ht
 obtain⟨T,p,ts,c,_⟩:=ht
 unfold cameBackBy
 refine ae (dF (s:={ s with heap:=U }) j hd c ?_)
 rw[if_neg (by simp)]
 exact T2 (s:={ s with heap:=U }) o λR b m=>q R b (Z.trans m)
end
structure Grd(X:Cx)(B:bG):Prop where
 keep:∀ b o,X.s₀.heap.get? b=aa o->X.H₀ b=none->b∉frs X.stack->b∉X.ex->B.get? b=aa o
 there:∀ b o,X.s₀.heap.get? b=aa o->b∉frs X.stack->b∉X.ex->∃ o',B.get? b=aa o'
 pn:∀ p∈X.pn,B.get? p.1=aa p.2
def XE(X:Cx)(F:FK)(e:af)(s:aq):Prop:=∃ (ea:ah) (cls:af) (d:Option ah) (tb:Bool) (B:bG) (H:Hp) (σ:St),
 e=.ref ea/\Exn tb B X.stack ea cls d s.heap/\Inv X [] σ H s/\HOk X.prog X.w H B/\Grd X B/\F cls d σ H
def CXE(P:bg)(w:bK):CXT:=λouter H s E e s'=>∃ (ea:ah) (cls:af) (d:Option ah) (B:bG) (H':Hp),
 e=.ref ea/\Exn ac B outer ea cls d s'.heap/\s'.os=s.os/\e6 s'.gens/\Un (frs outer) [] H H' s.heap s'.heap/\HOk P w H' B /\
  (∀ b o,s.heap.get? b=aa o->H b=none->b∉frs outer->B.get? b=aa o)/\(∀ b o,s.heap.get? b=aa o->b∉frs outer->∃ o',B.get? b=aa o')/\E cls d H'
variable{c ea:ah}{F:FK}
theorem RK{l:List eF}(h:b∈frs (env::l)):env.frame=aa b\/b∈frs l:=by
 obtain⟨x,W,e⟩:=mem_filterMap.mp h
 rcases eR.mp W with z|z
 ·exact .inl (z▸e)
 ·exact .inr (mem_filterMap.mpr ⟨x,z,e⟩)
theorem Inv.entry_frs(I:Inv X ge σ H s){o:dE}(hb:X.s₀.heap.get? b=aa o)(F:b∈frs X.stack):b∈X.fs:=by
 rcases I.ok.stk with e|⟨e,ef⟩
 ·rw[e] at F;exact F
 ·rw[e] at F
  rcases RK F with z|z
  ·rw[ef] at z
   cases z
   exact absurd (aE (aA hb) I.ok.above) (bX _)
  ·exact z
theorem RL(I:Inv X ge σ H s)(h:b∈X.fs):b∈frs X.stack:=by
 rcases I.ok.stk with e|⟨e,_⟩
 ·rw[e];exact h
 ·rw[e]
  obtain⟨x,W,a⟩:=mem_filterMap.mp h
  exact mem_filterMap.mpr ⟨x,.tail _ W,a⟩
theorem OF{v:Option af}(u:h.UpToSlots h')(x:h.IsCell c v):h'.IsCell c v:=by
 obtain⟨o,e,hd⟩:=x
 obtain⟨p,M⟩:=u c o e λvs z=>by rw[hd] at z;cases z
 exact⟨_,M,hd⟩
theorem OG{d:Option ah}(I:Inv X ge σ H s)(x:Exn tb B X.stack ea cls d s.heap)(st:B.StaysIn h')(u:s.heap.UpToSlots h')(g:Grd X B):Un X.fs X.ex X.H₀ H X.s₀.heap h' where
 keep:=λb o e n Q ne=>st b o (g.keep b o e n (λz=>Q (I.entry_frs e z)) ne)
 slot:=λb o e n F ne=>by
  obtain⟨p,T⟩:=I.base.slot b o e n F ne
  obtain⟨_,S,M,f⟩:=x.frs.mem (RL I F)
  rw[T] at M
  cases M
  obtain⟨h,t⟩:=u b _ T f
  exact⟨h,t⟩
 free:=I.base.free
 there:=λb o e ne=>by
  by_cases F:b∈frs X.stack
  ·obtain⟨_,S,M,f⟩:=x.frs.mem F
   obtain⟨p,t⟩:=u b S M f
   exact⟨_,t⟩
  ·obtain⟨U,T⟩:=g.there b o e F ne
   exact⟨U,st b U T⟩
 tups:=I.base.tups
 frzs:=I.base.frzs
 tbls:=I.base.tbls
theorem Inv.fly{d:Option ah}(I:Inv X [] σ H s)(x:Exn tb B X.stack ea cls d s.heap)(st:B.StaysIn h')(u:s.heap.UpToSlots h')(W:HOk X.prog X.w H B)(g:Grd X B):Inv X [] σ H { s with heap:=h' } where
 ok:=I.ok
 os:=I.os
 bare:=I.bare
 base:=OG I x st u g
 loc:=by
  obtain⟨m,f,L⟩:=I.loc
  refine⟨m,u.ns f,λi x v U R S=>?_⟩
  obtain⟨w,r,l⟩:=L i x v U R S
  refine⟨w,r,?_⟩
  rcases l with l|⟨k,c,e,Y⟩
  ·exact .inl l
  ·exact .inr ⟨k,c,e,OF u Y⟩
 cell:=λx c e=>by
  obtain⟨v,Y⟩:=I.cell x c e
  exact⟨v,OF u Y⟩
 free:=I.free
 freeC:=I.freeC
 pin:=λp O=>by
  obtain⟨_,b,c,d,e⟩:=I.pin p O
  have A:p∈X.pn:=by simpa using O
  exact⟨st _ _ (g.pn p A),b,c,d,e⟩
 hok:=W.kept st
 len:=I.len
theorem Ia(w:X.stack=X.env::X.outer)(b:X.env.frame=aa X.env.locals):PassesOwn (aI X.prog X.w) X.A X.env (XE X F):=by
 rintro e s' ⟨ea,cls,d,tb,B,H,σ,rfl,x,I,hB,g,f⟩
 have a:=I.ok.frames
 rw[w] at a x
 refine J9 a b x λh' i u=>?_
 rw[<- w] at x i
 exact⟨ea,cls,d,ac,B,H,σ,rfl,i,I.fly x i.stays u hB g,hB,g,f⟩
theorem OH{e:af}(I:Inv X ge σ H s)(h:CXE X.prog X.w X.stack H s (λc d H'=>F c d σ H') e s'):XE X F e s':=by
 obtain⟨S,cls,d,B,H',rfl,x,Y,i,un,W,a,g,f⟩:=h
 have m:Inv X ge σ H' s':=I.call' (ch:=[]) Y un (W.kept x.stays) i (λb z=>nomatch z)
 refine⟨S,cls,d,ac,B,H',σ,rfl,x,m.pins_of λp O=>m.pin p (by simpa using bS _ (by simpa using O)),W,⟨λb o e n Q ne=>?_,λb o e Q ne=>?_,λp O=>?_⟩,f⟩
 ·exact a b o (I.base.keep b o e n (λz=>Q (RL I z)) ne) (I.base.free b o e n ne) Q
 ·obtain⟨j,N⟩:=I.base.there b o e ne
  exact g b j N Q
 ·obtain⟨T,J,v,U,_⟩:=I.pin p (bS _ O)
  refine a _ _ T J λz=>?_
  rcases I.ok.stk with e|⟨e,ef⟩
  ·rw[e] at z;exact U z
  ·rw[e] at z
   rcases RK z with y|y
   ·rw[ef] at y;exact v (bh y).symm
   ·exact U y
variable{E':XK}
theorem PSs.xmono{E':af->aq->Prop}{st:List er}(h:PSs (X.wish E') st t)(m:∀ e s,E' e s->X.xe e s):PSs X st t:=λO s Z H D I N =>
 bi (h O s Z H D (I.wish _) N) (λ_ _ q=>q.unwish) λe s z=>m e s z
variable{P:bg}{f:ah}
theorem OI{s₀:aq}{H₀:Hp}{E:XK}{e:af}
  (h:XE (ZJ (CXE P w) P w K mg base N qual scope f cd A outer s₀ H₀ E) (λc d _ H'=>E c d H') e s):(ZJ (CXE P w) P w K mg base N qual scope f cd A outer s₀ H₀ E).xe e s:=by
 obtain⟨S,cls,d,O,B,H,Z,rfl,x,I,W,g,q⟩:=h
 have a:=I.ok.frames
 refine J0 a rfl x λh' i u=>⟨S,cls,d,B,H,rfl,i,I.os,I.bare,OG I x i.stays u g,W,λb o e n Q=>?_,λb o e Q=>?_,q⟩
 ·exact g.keep b o e n (λz=>Q (I.entry_frs e z)) (λz=>nomatch z)
 ·exact g.there b o e (λz=>Q (I.entry_frs e z)) (λz=>nomatch z)
theorem OJ{a:ah}(x:ZO P w H h a o):∃ u,h.get? a=aa u:=by
 induction o with
 | lst xs=>obtain⟨_,_,_,_,e⟩:=x;exact⟨_,e⟩
 | tup xs=>obtain⟨_,_,_,_,e,_⟩:=x;exact⟨_,e⟩
 | dK G=>obtain⟨_,_,_,_,_,_,_,e,_⟩:=x;exact⟨_,e⟩
 | dT G=>obtain⟨_,_,_,_,_,_,_,e,_⟩:=x;exact⟨_,e⟩
 | dN G=>obtain⟨_,_,_,_,_,_,_,e,_⟩:=x;exact⟨_,e⟩
 | set S n=>obtain⟨_,_,_,_,e,_⟩:=x;exact⟨_,e⟩
 | ins C dx fs=>obtain⟨_,_,_,e,_⟩:=x;exact⟨_,e⟩
 | own y=>exact x
 | xd fs=>obtain⟨_,⟨_,_,_,e,_⟩,_⟩:=x;exact⟨_,e⟩
 | rng j t=>obtain⟨_,_,_,e⟩:=x;exact⟨_,e⟩
 | frz g u B=>exact⟨_,x.1⟩
 | tbl ps=>exact⟨_,x⟩
 | tbq q=>obtain⟨_,e,_⟩:=x;exact⟨_,e⟩
 | met f y=>exact⟨_,x⟩
 | ext i=>exact x.2.1
def WK(sp:Sp)(dvs:List V)(F:FK)(t:TA):TE:=λσ H Q=>t σ H λvs H1=>sp (vs++dvs) H1 Q λc d H'=>F c d σ H'
variable{x:au}{t:TA}{k:Nat}{es:List cz}
section
variable{ds:List af}{p:jJ}
theorem RM{Q:VK}{vs:List V}(n:FnOk X.prog X.w X.K X.mg X.base (CXE X.prog X.w) k f fd ps sp)(J:Room k X.A)(hb:Zq X.K fd ps ds)(hd:Zi dvs ds)
  (I:Inv X ge σ H s) (r:Zi vs us) (h:sp (vs++dvs) H Q λc d H'=>F c d σ H'):aG (aI X.prog X.w) X.A (fP (.ref f) us) (EP X ge σ Q) (XE X F) s:=by
 have P:Zi (vs++dvs) (us++ds):=r.append hd
 have L:(us++ds).length=ps.length:=by rw[<- P.length];exact n.len _ _ _ _ h
 refine dn (cX (n.run X.A X.stack s H ⟨us,[]⟩ (us++ds) (vs++dvs) Q _ J I.env0 (hb s us I.kIn L) P h) λz l g=>?_)
 cases z with
 | error e=>exact OH I g
 | ok i =>
  cases i with
  | ret u=>exact I.after g
  | next=>exact g.elim
  | brk=>exact g.elim
  | cont=>exact g.elim
theorem EP.wish{ge:List (ah×dE)}{σ:St}{Q:VK}{u:af}{s:aq}{E:af->aq->Prop}(h:EP X ge σ Q u s):EP (X.wish E) ge σ Q u s:=by obtain⟨v,H,I,r,q⟩:=h;exact ⟨v,H,I.wish E,r,q⟩
theorem XC(c:Cal X.prog X.w X.K X.mg X.base (CXE X.prog X.w) k x ps dvs sp)(J:Room k X.A)(M:Gl X x)(ha:PA (X.wish (XE X F)) (e::es) t)(b:(x == ("__debug__" : au))=false:=by decide)
  (j:aB (e::es) X.env=(aw,cg e X.env)::aB es X.env:=by rfl) (g:(bZ pos (aB es X.env)).any (·.1)=false:=by rfl) :
  PE (X.wish (XE X F)) (.Call (.Name x p) (e::es) [] pos) (WK sp dvs F t):=by
 obtain⟨f,a,ds,U,K,N,G,S⟩:=c.ex
 intro O s Z H Q I h
 refine bT (WA (X:=X.wish (XE X F)) I M K ?_ b)
 refine cp (h₀:=X.base) I.ok.mod.kin N (thn (ha pos O s Z H _ I h) λus s1 ⟨vs,H1,I1,r,q⟩=>⟨I1.kIn,?_⟩) j g
 exact thn (RM U J G S I1.unwish r q) λ_ _ z=>z.wish
end
theorem Inv.gone{m a:au->Option af}(I:Inv X ge σ H s)(hN:X.N.Nodup)(hi:X.N[i]?=aa x)(hn:s.heap.Ns X.env.locals m)(L:∀ (j:Nat) (y:au) (v:V),X.N[j]?=aa y->σ[j]?=aa (aa v)->Vis X.env.scope y->∃ u,Zp v u/\Look X.env s.heap m y u)
  (f:h'.Ns X.env.locals a) (hm:∀ y,y≠x->a y=m y) (B:el X.env.locals s.heap h'):Inv X ge (σ.set i none) H { s with heap:=h',toks:=tk } where
 ok:=I.ok
 os:=I.os
 bare:=I.bare
 base:=⟨λb o e n G W=>(B.2 b (aQ (aE (aA e) I.ok.above))).trans (I.base.keep b o e n G W),
  λb o e n G W=>by
   obtain⟨h,T⟩:=I.base.slot b o e n G W
   exact⟨h,(B.2 b (aQ (aE (aA e) I.ok.above))).trans T⟩,I.base.free,
  λb o e W=>by
   obtain⟨U,T⟩:=I.base.there b o e W
   exact⟨U,(B.2 b (aQ (aE (aA e) I.ok.above))).trans T⟩,I.base.tups,I.base.frzs,I.base.tbls⟩
 loc:=⟨a,f,λj y v T M t=>by
  by_cases l:j=i
  ·subst l
   rw[List.getElem?_set] at M
   simp only[if_true] at M
   split at M<;>simp at M
  ·rw[eD (bY l)] at M
   obtain⟨u,r,q⟩:=L j y v T M t
   refine⟨u,r,?_⟩
   rcases q with⟨k,e⟩|⟨k,c,e,z⟩
   ·exact .inl ⟨k,by rw[hm y λw=>l (SW hN T (w▸hi))];exact e⟩
   ·exact .inr ⟨k,c,e,z.sameBut B (I.cne y c e)⟩⟩
 cell:=λy c e=>by
  obtain⟨w,z⟩:=I.cell y c e
  exact⟨w,z.sameBut B (I.cne y c e)⟩
 free:=I.free
 freeC:=I.freeC
 pin:=λp O=>by
  obtain⟨e,n,ne,Q,d⟩:=I.pin p O
  exact⟨(B.2 p.1 ne).trans e,n,ne,Q,d⟩
 hok:=λb g e=>(I.hok b g e).stay (λc w Y q=>(B.2 c (by
  rintro rfl
  rcases Y with z|Y
  ·rw[<- z,I.free] at e;cases e
  ·rw[I.free] at Y;cases Y)).trans q) (λ_ q=>q) λ_ _ q=>q
 len:=by rw[gN];exact I.len
theorem Ib(I:Inv X ge σ H s)(hN:X.N.Nodup)(hi:X.N[i]?=aa x)(W:X.env.scope.names.lookup x=aa .local)
  (q:∀ s',Inv X ge (σ.set i none) H s'->Q () s'):aG M A (do bindName X.env x .none;gf X.env x pos) Q E s:=by
 have P:(X.env.scope.kind == .class || (X.env.scope.kind == .module && X.env.locals != X.env.globals))=false:=by rw[I.ok.kind];rfl
 obtain⟨m,f,L⟩:=I.loc
 refine ae (wpAny_bindName (jr W f (λU J s1=>?_) P))
 unfold gf
 refine wpAny_onRaise ?_
 unfold unbindName
 refine ae (jx (ae ?_))
 unfold deleteName
 have N:X.env.kindOf x=aa .local:=W
 simp only[N,P]
 rw[if_neg (by decide)]
 refine ae (wpAny_nsDel_keeps J λR v Z s2=>?_)
 simp only[if_true,iN,bV,bF,if_false]
 refine am (jx (q _ (I.gone (tk:=s.toks+1) hN hi f L Z (λy B=>by simp[B]) (s1.trans s2))))
abbrev Cx.inX(X:Cx)(ea:ah):Cx:={ X with A:=X.A.mark (aa (.ref ea)),calm:=aw }
abbrev Cx.pinned(X:Cx)(ge:List (ah×dE)):Cx:={ X with pn:=X.pn++ge }
theorem Inv.toPin(I:Inv X ge σ H s):Inv (X.pinned ge) [] σ H s :=
 ⟨⟨I.ok.mod,I.ok.kind,I.ok.glob,I.ok.blt,I.ok.above,I.ok.inj,I.ok.has,I.ok.cab,I.ok.hd,I.ok.frames,I.ok.stk,I.ok.exf,I.ok.bs,I.ok.bsz,I.ok.noex,I.ok.exfs,I.ok.funs,I.ok.frf⟩,I.os,I.bare,I.base,I.loc,I.cell,I.free,I.freeC,λp O=>I.pin p (by simpa using O),I.hok,I.len⟩
theorem Inv.unPin{xe:af->aq->Prop}(ok:X.Ok)(I:Inv ((X.pinned ge).wish xe) [] σ H s):Inv X ge σ H s :=
 ⟨ok,I.os,I.bare,I.base,I.loc,I.cell,I.free,I.freeC,λp O=>I.pin p (by simpa using O),I.hok,I.len⟩
theorem Inv.toX(I:Inv X ge σ H s)(ea:ah)(F:(X.A.mark (aa (.ref ea))).frames=X.A.frames):Inv (X.inX ea) ge σ H s :=
 ⟨⟨I.ok.mod,I.ok.kind,I.ok.glob,I.ok.blt,I.ok.above,I.ok.inj,I.ok.has,I.ok.cab,(λz=>(nomatch z)),F.trans I.ok.frames,I.ok.stk,I.ok.exf,I.ok.bs,I.ok.bsz,I.ok.noex,I.ok.exfs,I.ok.funs,I.ok.frf⟩,I.os,I.bare,I.base,I.loc,I.cell,I.free,I.freeC,I.pin,I.hok,I.len⟩
theorem Inv.see{d:Option ah}(I:Inv X [] σ H s)(x:Exn tb B X.stack ea cls d s.heap)(R:HOk X.prog X.w H B)(g:Grd X B):H ea=none/\Inv X [] σ (upd H ea (hX ea cls d)) s:=by
 obtain⟨oe,vs,j,Y,i,hd,_⟩:=x.ob
 have f:H ea=none:=by
  cases z:H ea with
  | none=>rfl
  | some o =>
   obtain⟨u,M⟩:=OJ (R ea o z)
   rw[x.new] at M
   cases M
 have Q:ea∉frs X.stack:=λK=>by
  obtain⟨_,o,P,L⟩:=x.frs.mem K
  rw[j] at P
  cases P
  exact L vs hd
 have ne:∀ b,H b≠none->b≠ea:=λb h z=>h (z▸f)
 have C:X.env.locals≠ea:=λz=>by
  obtain⟨m,⟨o,es,E,e,w,_⟩,_⟩:=I.loc
  rw[z,j] at e
  cases e
  rw[hd] at w
  cases w
 refine⟨f,⟨I.ok,I.os,I.bare,⟨I.base.keep,I.base.slot,λb o e n W=>?_,I.base.there,λb xs e=>?_,λb o u e=>?_,λb ps e=>?_⟩,I.loc,I.cell,by rw[Zd C];exact I.free,λy c e=>?_,λp O=>?_,λa o e=>?_,I.len⟩⟩
 ·have G:b≠ea:=λz=>by
   subst z
   have:=g.keep b o e n Q W
   rw[x.new] at this
   cases this
  rw[Zd G]
  exact I.base.free b o e n W
 ·have:=I.base.tups b xs e
  rw[Zd (ne b (by rw[this];simp))];exact this
 ·have:=I.base.frzs b o u e
  rw[Zd (ne b (by rw[this];simp))];exact this
 ·obtain⟨more,this⟩:=I.base.tbls b ps e
  exact⟨more,by rw[Zd (ne b (by rw[this];simp))];exact this⟩
 ·have t:c≠ea:=λz=>by
   obtain⟨v,o,T,N⟩:=I.cell y c e
   rw[z,j] at T
   cases T
   rw[hd] at N
   cases N
  rw[Zd t]
  exact I.freeC y c e
 ·obtain⟨T,J,r⟩:=I.pin p O
  have A:p∈X.pn:=by simpa using O
  have F:p.1≠ea:=λz=>by
   have:=g.pn p A
   rw[z,x.new] at this
   cases this
  exact⟨T,by rw[Zd F];exact J,r⟩
 ·by_cases l:a=ea
  ·subst l
   rw[Zw] at e
   cases e
   exact⟨⟨oe,vs,j,Y,i,hd⟩,⟨oe,j⟩,(by rintro h1 h2 ⟨o,ws,z,r⟩ k;exact ⟨o,ws,k o z,r⟩)⟩
  ·rw[Zd l] at e
   refine (I.hok a o e).stay (λ_ _ _ q=>q) (λb q=>?_) (λb xs q=>?_) (λb o q=>?_)
   ·rw[Zd (ne b (by rw[q];simp))];exact q
   ·rw[Zd (ne b (by rw[q];simp))];exact q
   ·rw[Zd (ne b (by rw[q];simp))];exact q
def OK(K:ay)(C:af)(i:Nat)(tb:FK->TS)(th:TS):TS:=λD σ H =>
 tb (λc d σ' H'=>fa K c C=aa ac/\∀ ea,H' ea=none->th ⟨λσ2 H2=>D.nx (σ2.set i none) H2,D.rt,λσ2 H2=>D.bk (σ2.set i none) H2,λσ2 H2=>D.ct (σ2.set i none) H2⟩ (σ'.set i (aa (.ref ea))) (upd H' ea (hX ea c d))) D σ H
variable{np:jJ}{tb:FK->TS}
section
variable{n:au}{C:af}{hpos:jJ}{suite:List er}{b₀:er}{th:TS}
theorem Ic(w:X.stack=X.env::X.outer)(hfl:X.env.frame=aa X.env.locals)(hN:X.N.Nodup)(hi:X.N[i]?=aa n)(hn:X.env.scope.names.lookup n=aa .local)(hg:Gl X x)(hm:X.mg x=aa C)
  (hb:∀ ge F,PSs ((X.pinned ge).wish (XE (X.pinned ge) F)) body (tb F)) (hh:∀ ea ge,PSs ((X.pinned ge).inX ea).nox (b₀::suite) th) (P:∀ ea,(X.A.mark (aa (.ref ea))).frames=X.A.frames:=by intro _;rfl) (hd:(x == ("__debug__" : au))=false:=by decide) :
  PS X (.Try body [.ExceptHandler (aa (.Name x np)) (aa n) (b₀::suite) hpos] [] [] pos) (OK X.K C i tb th):=by
 intro ge s Z H D I h
 have I1:Inv (X.pinned ge) [] Z H s:=I.toPin
 refine wpAny_Try_except (bi (hb ge _ [] s Z H D (I1.wish _) h) (λf s1 q=>?_) λe s1 q=>?_)
 ·cases f with
  | next=>obtain⟨A,H',J,q⟩:=q;exact ew ⟨A,H',J.unPin I.ok,q⟩
  | brk=>obtain⟨A,H',J,q⟩:=q;exact⟨A,H',J.unPin I.ok,q⟩
  | cont=>obtain⟨A,H',J,q⟩:=q;exact⟨A,H',J.unPin I.ok,q⟩
  | ret u=>obtain⟨v,A,H',J,r,q⟩:=q;exact⟨v,A,H',J.unPin I.ok,r,q⟩
 ·obtain⟨ea,cls,d,tb0,B,y,c,rfl,o,J1,W,g,hex,hth⟩:=q
  have hfr:X.A.frames=aa (X.env::X.outer):=by rw[I.ok.frames,w]
  have T:Exn tb0 B (X.env::X.outer) ea cls d s1.heap:=by rw[<- w];exact o
  refine RJ hfr hfl T λR M m=>T2 (s:={ s1 with heap:=R }) M λS t u3=>?_
  have b:Exn ac B X.stack ea cls d R:=by rw[w];exact M
  have N:Exn ac B X.stack ea cls d S:=by rw[w];exact t
  have J2:Inv (X.pinned ge) [] c y { s1 with heap:=R }:=J1.fly o b.stays m W g
  have J3:Inv (X.pinned ge) [] c y { s1 with heap:=S }:=J2.fly (s:={ s1 with heap:=R }) b N.stays u3 W g
  have J4:Inv ((X.pinned ge).inX ea) [] c y { s1 with heap:=S }:=J3.toX ea (P ea)
  obtain⟨oe,vs,j,hc,_⟩:=N.ob
  have LT:jH (aI X.prog X.w) S (typeOf (.ref ea)) cls:=by rw[<- hc];exact (jH.ld j).andThen .now
  refine wpAny_handleBy_cons (codeAny_handlers_test (WA (X:=(X.pinned ge).inX ea) J4 hg hm ((PySem.W.exm_one (K:=X.K) (h:=S) J3.kIn LT hex).here ?_) hd)) (by intro q;cases q)
  refine codeAny_handlers_suite_as (T2 (s:={ s1 with heap:=S }) N λY x5 u5=>?_)
  have J5:Inv (X.pinned ge) [] c y { s1 with heap:=Y }:=J3.fly (s:={ s1 with heap:=S }) N x5.stays u5 W g
  obtain⟨hne,J6⟩:=J5.see (s:={ s1 with heap:=Y }) x5 W g
  have J7:Inv ((X.pinned ge).inX ea) [] c (upd y ea (hX ea cls d)) { s1 with heap:=Y }:=J6.toX ea (P ea)
  refine SY (X:=(X.pinned ge).inX ea) (v:=.ref ea) J7 hN hi (.inl hn) rfl (λs8 J8=>?_) (.inr hn)
  refine bi (hh ea ge [] s8 _ _ _ (J8.wish _) (hth ea hne)) (λf U q=>?_) λ_ _ z=>z.elim
  have a:∀ {k:St} {G:Hp} {Q:Unit->aq->Prop} {E:af->aq->Prop},Inv (((X.pinned ge).inX ea).wish λ_ _=>False) [] k G U->(∀ l,Inv X ge (k.set i none) G l->Q () l)->aG (aI X.prog X.w) X.A (do bindName X.env n .none;gf X.env n hpos) Q E U:=λ{k G Q E} J q=>by
   have L:Inv X ge k G U:=⟨I.ok,J.os,J.bare,J.base,J.loc,J.cell,J.free,J.freeC,λp O=>J.pin p (by simpa using O),J.hok,J.len⟩
   exact Ib L hN hi hn q
  cases f with
  | next=>obtain⟨A,H',J,q⟩:=q;exact a J λl L=>⟨_,H',L,q⟩
  | brk=>obtain⟨A,H',J,q⟩:=q;exact a J λl L=>⟨_,H',L,q⟩
  | cont=>obtain⟨A,H',J,q⟩:=q;exact a J λl L=>⟨_,H',L,q⟩
  | ret u=>obtain⟨v,A,H',J,r,q⟩:=q;exact a J λl L=>⟨v,_,H',L,r,q⟩
end
variable{tk:iL}{ox:dE}{Q:af->aq->Prop}
section
open PySem.W
structure ExcGet(K:ay)(C:ah):Prop where
 ga:ag K (.ref C) "__getattribute__" = aa (aa (.builtin "BaseException.__getattribute__"))
 hook:ag K (.ref C) "__getattr__" = aa none
 base:bJ K C (.type "BaseException")=aa ac
 obj:bJ K C (.type "object")=aa ac
section
variable{x:ah}
theorem Id{a:af}{Q:Unit->aq->Prop}(X:K.In s.heap)(I:bR s.heap x ox C od)(g:ExcGet K C)(h:Q () s):aG M A (checkBuiltinCall "BaseException.__getattribute__" ⟨[.ref x,a],[]⟩) Q E s:=by
 have N:builtinKind "BaseException.__getattribute__" = aa .slot:=by decide +kernel
 have b:splitId "BaseException.__getattribute__" = aa ("BaseException", "__getattribute__"):=by decide +kernel
 have l:=F.args_bexc_ga (.ref x) a
 have e:=I.type (M:=M)
 have c:=looks_mroIn (M:=M) X g.base
 obtain⟨m,g',d,t,Y⟩:=s
 simp only[checkBuiltinCall,N,b]
 refine ae ?_
 unfold fx
 refine ae (e.at (c.at ?_))
 repeat (first|assumption|wp_step)
theorem OL{a:Bool}(X:K.In s.heap)(I:bR s.heap x ox C od)(g:ExcGet K C)
  (h:∀ f R,(∀ v s',aG (aI prog w) A (handedOut v) Q E s'->R (.done (.ret v)) s')->aG (aI prog w) f (jm.«object.__getattribute__» ⟨[.ref x,.str name tk],[]⟩) R (λ_ _=>False) s) :
  aG (aI prog w) A (getAttrBy (.ref x) (.str name tk) a expr) Q E s:=by
 have e:=I.type (M:=aI prog w)
 have c:=fS (M:=aI prog w) X g.ga
 have i:=fS (M:=aI prog w) X g.hook
 have J:=F.excAttr_ValueError.ga.bind (.ref x)
 have b:(expr && onTheHeap (dM "BaseException.__getattribute__"))=false:=by cases expr<;>rfl
 have l:(dM "BaseException.__getattribute__" == dM "object.__getattribute__")=false:=by decide +kernel
 unfold getAttrBy
 refine de (ae (e.at (ae (c.at ?_))))
 show aG _ _ (if (onTheHeap (aD C) && dM "BaseException.__getattribute__" == dM "object.__getattribute__")=ac then _ else _) _ _ _
 rw[l]
 unfold getAttrByItsOwn hookBefore
 refine ae (i.at ?_)
 unfold callGetattribute
 rw[b]
 unfold boundAndCalled
 rw[J]
 refine ae (wpAny_attempt (de (ae (am (dn (jB F.excAttr_ValueError.ga.plain F.entry_bexc_ga (Id X I g (bi (h _ (λfin s'=>match fin with|.done (.ret v)=>aG (aI prog w) A (handedOut v) Q E s'|_=>False) λv s' z=>z) (λfin s' z=>?_) λ_ _ z=>z.elim))))))))
 rcases fin with (_|_|_|_)|_<;>first|exact z|exact z.elim
theorem Ie{a:Bool}(X:K.In s.heap)(I:bR s.heap x ox C od)(g:ExcGet K C)(F:j4 K C od name=aa (.value v))(m:gw v=ac)(h:Q v s) :
  aG (aI prog w) A (getAttrBy (.ref x) (.str name tk) a expr) Q E s:=by
 refine OL X I g λf R k=>?_
 have e:=I.type (M:=aI prog w)
 have c:=looks_find (M:=aI prog w) X I F
 obtain⟨b,i,d,t,Y⟩:=s
 unfold jm.«object.__getattribute__»
 refine ae (am (ae (am (ae (e.at (ae (c.at ?_)))))))
 exact am (k _ _ (by rw[handedOut_of m];exact am h))
theorem Ig(X:K.In s.heap)(I:bR s.heap x ox C od)(g:ExcGet K C)(F:j4 K C od name=aa (.value v))(m:gw v=ac)(h:Q v { s with toks:=s.toks+1 }) :
  aG (aI prog w) A (jg (.ref x) name expr) Q E s:=by
 unfold jg
 exact ae (wpAny_mkText (Ie (s:={ s with toks:=s.toks+1 }) X I g F m h))
theorem Ih{Q:Option af->aq->Prop}(X:K.In s.heap)(I:bR s.heap x ox C od)(g:ExcGet K C)(F:j4 K C od "__class__" = aa (.bind (.builtin "getset_descriptor.__get__") (.builtin "object.__class__")))(h:Q (aa (.ref C)) { s with toks:=s.toks+1 }) :
  aG (aI prog w) A (getAttr? (.ref x) "__class__") Q E s:=by
 unfold getAttr? getAttrBy?
 refine ae (wpAny_mkText (ae (wpAny_attempt (OL (s:={ s with toks:=s.toks+1 }) X I g λf R k=>?_))))
 have e:=I.type (M:=aI prog w)
 have c:=looks_find (M:=aI prog w) X I F
 obtain⟨b,i,d,t,Y⟩:=s
 unfold jm.«object.__getattribute__»
 refine ae (am (ae (am (ae (e.at (ae (c.at ?_)))))))
 refine ae (de (dn (class_get (s:=⟨b,i,d,t+1,Y⟩) (ox:=ox) (od:=od) X I g.obj ?_)))
 exact am (k _ _ (handed_on rfl (am h)))
structure ExcCls(K:ay)(C:ah):Prop extends ExcGet K C where
 cls:ag K (.ref C) "__class__" = aa (aa (.builtin "object.__class__"))
 get:eZ K (.builtin "object.__class__") "__get__" = aa (aa (.builtin "getset_descriptor.__get__"))
 tks:fF K (.builtin "object.__class__")=aa ac
theorem ExcCls.isCls(g:ExcCls K C):∃ o cd,K.lookup C=aa o/\o.data=.cls cd/\clsIn K C=aa cd:=by
 obtain⟨cd,Y,_⟩:=Option.bind_eq_some_iff.mp g.obj
 have Z:=Y
 unfold clsIn at Y
 split at Y
 ·rename_i c' d' cd' sl' ho
  cases Y
  exact⟨_,_,ho,rfl,Z⟩
 ·cases Y
theorem OM(g:ExcCls K C):KitX K (.ref x) (.ref C) (λh=>∃ ox od,bR h x ox C od) where
 ty:=by rintro _ _ _ ⟨_,_,I⟩;exact I.type
 it:=λ_ _ X _=>by
  obtain⟨o,cd,P,hd,_⟩:=g.isCls
  intro f b m l k q
  unfold isType loadHead
  obtain⟨i,F,j,c⟩:=o
  cases hd
  exact ae (gd (k _ _ (X _ _ P)) (am q))
 ne:=λh tp dd its n p X a=>by
  obtain⟨o,cd,P,hd,_⟩:=g.isCls
  refine Bool.eq_false_iff.mpr λq=>?_
  have e:C=tp:=aD.inj (beq_iff_eq.mp q)
  subst e
  have z:=(X _ _ P).symm.trans a
  cases z
  cases hd
 ca:=λX J k=>by
  obtain⟨_,_,I⟩:=J
  obtain⟨o,cd,P,hd,Y⟩:=g.isCls
  refine Ih X I g.toExcGet ?_ k
  unfold j4
  rw[Y,gs,g.cls,gs]
  simp[g.get,g.tks]
end
end
def dX(e:Exc):PyData:=.dict ((.none,.int e.cls)::e.fs.map λp=>(.str p.1,p.2))
section
variable{X:Exc->Sl->Prop}{σ:L2.St}
theorem SR.pops(s:SR K H0 σ ρ ts as H):SR K H0 σ ρ [] [] H:=by
 obtain⟨⟨p,q,U,R,S,F⟩,u⟩:=s
 exact SR.of_le (p:=p) (q:=q) (p':=p) (q':=λ_=>0) u S F (λb=>by omega) U (.nil λ_=>rfl)
theorem SR.aside(st:Stb as)(s:SR K H0 σ ρ ts as H):∃ H1,SR K H1 σ ρ [] [] H/\(∀ σ' B H',SR K H1 σ' B [] [] H'->SR K H0 σ' B ts as H')/\(∀ σ' B H' v a,SR K H1 σ' B [v] [a] H'->SR K H0 σ' B (v::ts) (a::as) H')/\Zg H0 H1:=by
 obtain⟨⟨p,q,U,R,S,F⟩,u⟩:=s
 have f:=R.stb st
 have c:∀ b,0<p b->L2.hid H p q b=none:=λb z=>by
  unfold L2.hid
  rw[if_neg (by omega)]
 have h:∀ b o,H0 b=aa o->L2.hid H p q b=aa o:=λb o e=>by
  unfold L2.hid
  rw[if_pos]
  ·exact u b o e
  ·rcases ax (p b+q b) with z|z
   ·exact z
   ·rw[F b z] at e;cases e
 have back:∀ {p' q':Fp} {H':Hp},(∀ b,0<p' b+q' b->L2.hid H p q b=none)->Zg (L2.hid H p q) H'->RTs K (L2.hid H' p' q') H' ts as q:=λ{p' q' H'} k4 m=>by
  refine RTs.monoS (λb o e=>?_) R st λb o z=>by have:=f b;omega
  unfold L2.hid
  rw[if_pos]
  ·exact m b o e
  ·rcases ax (p' b+q' b) with z|z
   ·exact z
   ·rw[k4 b z] at e;cases e
 have no0:∀ {p' q':Fp},(∀ b,0<p' b+q' b->L2.hid H p q b=none)->∀ b,0<p' b+q' b->H0 b=none:=λ{p' q'} k4 b z=>by
  cases e:H0 b with
  | none=>rfl
  | some o=>have:=h b o e;rw[k4 b z] at this;cases this
 refine⟨L2.hid H p q,⟨⟨p,λ_=>0,U.mono (hid_more λb z=>by show p b+0=0;omega) (λ_ _ _ z=>z),.nil λ_=>rfl,λb=>by have:=S b;show p b+0<=1;omega,λb z=>c b (by have x:0<p b+0:=z;omega)⟩,Y5⟩,λσ' B H' ⟨⟨p',q',k1,k2,k3,k4⟩,m⟩=>?_,λσ' B H' v a ⟨⟨p',q',k1,k2,k3,k4⟩,m⟩=>?_,h⟩
 ·cases k2 with
  | nil e=>exact⟨⟨p',q',k1,by
    have:=back k4 m
    have M:q=q':=by funext b;rw[f b,e b]
    exact M▸this,k3,no0 k4⟩,λb o e=>m b o (h b o e)⟩
 ·cases k2 with
  | @cons _ _ _ _ A k _ r rs e =>
   cases rs with
   | nil M=>exact⟨⟨p',q',k1,.cons r (back k4 m) λb=>by have:=e b;have:=M b;have:=f b;omega,k3,no0 k4⟩,λb o e=>m b o (h b o e)⟩
theorem XOk.aside(x:XOk K F X H0)(m:Zg H0 H1)(b:∀ σ' B H',SR K H1 σ' B [] [] H'->SR K H0 σ' B ts as H'):XOk K F X H1:=⟨λe o z c d Z H' s r=>x.x e o z c d Z H' (b Z o H' s).pops r,x.t.same m⟩
theorem Fit.aside{D:Ends}(f:Fit K H0 ts as DV D)(b:∀ σ' B H',SR K H1 σ' B [] [] H'->SR K H0 σ' B ts as H')(p:∀ σ' B H' v a,SR K H1 σ' B [v] [a] H'->SR K H0 σ' B (v::ts) (a::as) H'):Fit K H1 [] [] DV D :=
 ⟨λo q Z H s=>f.nx o q Z H (b _ _ _ s),λo q Z H s=>f.bk o q Z H (b _ _ _ s),λo q Z H s=>f.ct o q Z H (b _ _ _ s),λa q v Z o H s=>f.rt a q v Z o H (p _ _ _ _ _ s)⟩
theorem SR.dropS{o:Option V}(h:SR K H0 σ ρ ts as H):SR K H0 (σ.set i o) (ρ.set i none) ts as H:=by
 obtain⟨⟨p,q,U,R,S,F⟩,s⟩:=h
 obtain⟨Y,T,M⟩:=U.drop (i:=i) (o:=o)
 exact SR.of_le (p:=p) (q:=q) (p':=Y) (q':=q) s S F (λb=>by have:=T b;omega) M R
theorem SR.pushG{v:V}{x:ak}(h:SR K H0 σ ρ ts as H)(r:∀ p q:Fp,(∀ b,0<p b+q b->∃ o,H b=aa o/\Mu o)->Rep K (L2.hid H p q) v x):SR K H0 σ ρ (v::ts) (.av (.d x)::as) H:=by
 obtain⟨⟨p,q,U,R,S,F⟩,s⟩:=h
 exact⟨⟨p,q,U,.cons (.av (.d (p:=λ_=>0) (r p q (SR.lsts U R)) λ_=>rfl)) R (λb=>by simp),S,F⟩,s⟩
theorem ON(L:∀ b,0<p b+q b->∃ o,H b=aa o/\Mu o){a:ah}(e:H a=aa o)(n:¬ Mu o):L2.hid H p q a=aa o:=by
 unfold L2.hid
 rw[if_pos]
 ·exact e
 ·rcases ax (p a+q a) with z|z
  ·exact z
  ·obtain⟨vs,z,mu⟩:=L a z;rw[e] at z;cases z;exact absurd mu n
theorem SR.caught{e:Exc}{c:af}{d:Option ah}(s:SR K H0 σ ρ ts as H)(hn:H ea=none)(G:WF K H e c d)(g:noLsts (e.fs.map bz)=ac):SR K H0 σ ρ (.ref ea::ts) (.av (.d (dX e))::as) (upd H ea (hX ea c d)):=by
 have u:Zg H (upd H ea (hX ea c d)):=XM hn
 refine (s.ext u).pushG λp q L=>?_
 have U:=ON L (a:=ea) (o:=hX ea c d) (Zw ..) λz=>(show False from z)
 obtain⟨rfl,⟨R,rfl⟩|⟨a,vs,rfl,R,S,F⟩⟩:=G
 ·exact .exc U (by rw[R];rfl)
 ·refine .excF U (ON L (u _ _ R) λz=>(show False from z)) (Reps.hid L g (F.same u)) ?_
  have:(vs.map λp=>aY p.1)=e.fs.map λp=>aY p.1:=by
   have:=congrArg (jN aY) S
   rw[e7,e7] at this
   exact this
  rw[this,List.zip_map']
theorem Ii{X':Exc->Sl->Prop}{C:af}{th:TS}(hb:∀ h,Sv K h X' (tb h) ρ DV)
  (W:∀ e B,X' e B->fa K (.ref e.cls) C=aa ac/\noLsts (e.fs.map bz)=ac/\i<B.length/\Sv K F X th (B.set i (aa (.d (dX e)))) ⟨λo=>DV.nx (o.set i none),DV.rt,λo=>DV.bk (o.set i none),λo=>DV.ct (o.set i none)⟩) :
  Sv K F X (OK K C i tb th) ρ DV:=λI Z ts as H D st s x f=>by
 obtain⟨y,s1,b,p,m⟩:=s.aside st
 refine hb _ y Z [] [] H D Stb.nil s1 ⟨λe B z c d A H' l G=>?_,x.t.same m⟩ (f.aside b p)
 obtain⟨j,g,t,R⟩:=W e B z
 have Y:=G.1
 refine⟨by rw[Y];exact j,λS a=>?_⟩
 have U:=f.aside b p
 exact R y _ [] [] _ _ Stb.nil ((l.caught a G g).store t) (x.aside m b) ⟨λo q N H2 s2=>U.nx _ q _ _ s2.dropS,λo q N H2 s2=>U.bk _ q _ _ s2.dropS,λo q N H2 s2=>U.ct _ q _ _ s2.dropS,U.rt⟩
end
theorem Ij:du "ValueError" = aa (.type "ValueError"):=by kernel_rfl
theorem ZA:Xv (CXE P w) X E0:=by
 intro _ _ _ _ _ _ _ h
 obtain⟨_,_,_,_,_,_,_,_,_,_,_,_,_,z⟩:=h
 exact z.elim
theorem FunD.okX(F:FunD K x qual st dV f fd)(S:FnScope N ps (Zb st))(len:∀ vs H Q E,sp vs H Q E->vs.length=ps.length)
  (hbody:∀ (cdv:af) (A:bv) (outer:List eF) (s:aq) (H:Hp) (vs:List V) (Q:VK) (E:XK),Room k (A.deeper (bQ qual (Zb st) s.heap.objs.size f cdv))->sp vs H Q E ->
   ∃ t,PSs ((ZJ (CXE P w) P w K mg base N qual (Zb st) f cdv A outer s H E).wish (XE (ZJ (CXE P w) P w K mg base N qual (Zb st) f cdv A outer s H E) (toF E))) (Zy st) t/\t { nx:=λ_ H'=>Q .non H',rt:=Q } (start N vs) H):FnOk P w K mg base (CXE P w) (k+1) f fd ps sp:=by
 obtain⟨c,od,kV,I,pm,j,cdv,ct,g,rfl,M,y⟩:=F.ex
 refine S9 M y S len λA outer s H vs Q E J a=>?_
 obtain⟨t,h,q⟩:=hbody cdv A outer s H vs Q E J a
 exact⟨t,h.xmono λe s z=>OI z,q⟩
theorem Tx.calX(T:Tx K mg x st ps dvss)(S:FnScope N ps (Zb st))
  (len:∀ vs H Q E,sp vs H Q E->vs.length=ps.length)
  (hbody:∀ (f:ah) (cdv:af) (A:bv) (outer:List eF) (s:aq) (H:Hp) (vs:List V) (Q:VK) (E:XK),Room k (A.deeper (bQ x (Zb st) s.heap.objs.size f cdv))->sp vs H Q E ->
   ∃ t,PSs ((ZJ (CXE P w) P w K mg base N x (Zb st) f cdv A outer s H E).wish (XE (ZJ (CXE P w) P w K mg base N x (Zb st) f cdv A outer s H E) (toF E))) (Zy st) t/\t { nx:=λ_ H'=>Q .non H',rt:=Q } (start N vs) H) :
  ∀ dvs∈dvss,Cal P w K mg base (CXE P w) (k+1) x ps dvs sp:=by
 obtain⟨u,f,a,F,m,b⟩:=T.ex
 intro dvs hd
 obtain⟨ds,p,G⟩:=b dvs hd
 exact⟨f,a,ds,F.okX S len (λcdv A outer s H vs Q E J h=>hbody f cdv A outer s H vs Q E J h),m,F.kp,p,G⟩
variable{cs:List AV}
theorem OO{x:V}(I:Inv X ge σ H s)(h:Rep X.K H x (.dict ((.none,.int (C:Nat))::kvs))):∃ ea ox od,x=.ref ea/\bR s.heap ea ox C od:=by
 cases h with
 | @exc ea j _ h z =>
  have e:C=j:=by
   have:=(aF z).1
   simp only[cm,cF,true_and] at this
   exact di this
  subst e
  obtain⟨o,vs,U,R,S,F⟩:=(I.hok _ _ h).1
  exact⟨ea,o,none,rfl,U,R,by obtain⟨c,d,i,p⟩:=o;cases F;rfl,by rw[S];trivial⟩
 | @excF ea j a vs ds _ h k _ z =>
  have e:C=j:=by
   have:=(aF z).1
   simp only[cm,cF,true_and] at this
   exact di this
  subst e
  obtain⟨o,vs,U,R,S,F⟩:=(I.hok _ _ h).1
  obtain⟨W,⟨od,es,E,T,_⟩,_⟩:=(I.hok _ _ k).1
  exact⟨ea,o,aa od,rfl,U,R,by obtain⟨c,d,i,p⟩:=o;cases F;rfl,by rw[S];exact T⟩
 | @ins a j dx fs ds _ h n r z =>
  have e:C=j:=by
   have:=(aF z).1
   simp only[cm,cF,true_and] at this
   exact di this
  subst e
  obtain⟨W,L,_⟩:=Vu I.hok h
  obtain⟨od,b,_⟩:=L.look
  exact⟨a,_,aa od,rfl,b⟩
 | @rd a j dx fs ds _ h n r z =>
  have e:C=j:=by
   have:=(aF z).1
   simp only[cm,cF,true_and] at this
   exact di this
  subst e
  obtain⟨W,L,_⟩:=Vu I.hok h
  obtain⟨od,b,_⟩:=L.look
  exact⟨a,_,aa od,rfl,b⟩
 | fz _ _ z=>exact nomatch (aF z).1
 | dK _ _ z=>exact absurd z Ul
 | dT _ _ z=>exact absurd z Um
 | dN _ _ _ z=>exact absurd z Uo
def OP(K:ay):List V->Hp->VK->Prop:=λxs H Q=>∃ x c C kvs cv b,xs=[x,c]/\XL c=aa cv/\ExcCls K C/\Rep K H x (.dict ((.none,.int (C:Nat))::kvs))/\ao K (.ref C) cv=aa b/\Q (.bl b) H
theorem Ik:Z7 X (.builtin "isinstance") (OP X.K):=by
 intro O s Z H xs us Q I r h
 obtain⟨x,c,C,G,A,b,rfl,Y,g,W,e,q⟩:=h
 obtain⟨S,ox,od,rfl,J⟩:=OO I W
 obtain⟨u,K,rfl,N,P⟩:=vals2 r
 rw[TJ Y P]
 cases (show u=aD S from N)
 exact ba (OM g) I.kIn ⟨ox,od,J⟩ e (λz=>nomatch z) λtk=>⟨.bl b,H,I.tok tk,rfl,q⟩
inductive ClsVs:List V->List af->Prop
 | nil:ClsVs [] []
 | cons {c:V} {cv:af} {cs:List V} {cvs:List af}:XL c=aa cv->ClsVs cs cvs->ClsVs (c::cs) (cv::cvs)
theorem ClsVs.rel{cs:List V}{cvs:List af}(h:ClsVs cs cvs)(r:Zi cs us):us=cvs:=by
 induction h generalizing us with
 | nil=>cases r;rfl
 | cons e _ B=>cases r with|cons L P=>rw[TJ e L,B P]
def OQ(K:ay):List V->Hp->VK->Prop:=λxs H Q=>∃ x t cs cvs C kvs b,xs=[x,.ref t]/\H t=aa (.tup cs)/\ClsVs cs cvs/\ExcCls K C/\Rep K H x (.dict ((.none,.int (C:Nat))::kvs))/\PySem.W.kitAny K (.ref C) cvs=aa b/\Q (.bl b) H
theorem Il:Z7 X (.builtin "isinstance") (OQ X.K):=by
 intro O s Z H xs us Q I r h
 obtain⟨x,t,cs,f,C,G,b,rfl,ht,Y,g,W,e,q⟩:=h
 obtain⟨j,ox,od,rfl,J⟩:=OO I W
 obtain⟨u,K,rfl,N,P⟩:=vals2 r
 cases (show u=aD j from N)
 cases (show K=aD t from P)
 obtain⟨_,its,m,⟨⟨o,i,c,a⟩,U,R,⟨n,S⟩,_⟩⟩:=I.hok _ _ ht
 cases R
 cases S
 cases Y.rel m
 exact PySem.W.kia_tup (OM g) I.kIn ⟨ox,od,J⟩ U e (λz=>nomatch z) λtk=>⟨.bl b,H,I.tok tk,rfl,q⟩
def OR(K:ay):List V->Hp->VK->Prop:=λxs H Q=>X1 K xs H Q\/(OP K xs H Q\/OQ K xs H Q)
theorem Uv(h:X.K=K):Z7 X (.builtin "isinstance") (OR K):=h▸Z7.or (Up rfl) (Z7.or Ik Il)
section
variable{E:FK}{X:Exc->Sl->Prop}{Q:TV->Prop}
theorem Uw{e:Exc}{c:V}{b:Bool}(g:ExcCls K e.cls)(Y:XL c=aa cv)(k:ao K (.ref e.cls) cv=aa b)(q:Q (.av (.d (.bool b)))):Bi K E X (OR K) [.av (.d (dX e)),.raw c] Q:=λI Z o ts as H vs W s L _ f=>by
 obtain⟨v,w,rfl,s⟩:=Ry s L
 have:=s.pop.raw
 subst this
 exact .inr (.inl ⟨v,w,e.cls,_,cv,b,rfl,Y,g,s.top_d,k,f _ q _ H (s.pop.pop.bl _)⟩)
end
variable{hdct ab:Bool}{k1 k2 k3:au}{newId initId:String}{fI:ah}{oI:dE}{bm bmB sub bmN:List af}{sn:List au}{col:Option Bool}{dd:Option ah}{q:Nat->Nat->au}{mN:au->Option af}
section
variable{g:Array GenState}{d:Drawn}{t:Nat}{os:OsState}{nm q:au}{N:ah}{bs:List af}{k0 k1 k2 k3 k5:Option af}{B Bn nid inN:String}
theorem Io(p:dw Bn newId inN bmN)(j:bmB.contains (.type Bn)=ac)(F:dw B nid initId bmB)(T:OwnTail h bmB bm){Q:Fin->aq->Prop}
  (R:h.get? C=aa (eY nm q C N bs bm hdct sn sub ab col dd k0 k1 k2 k3 k5 newId)) (hn:h.Ns N mN) (hi:mN "__init__" = aa (.ref fI))
  (l:h.get? fI=aa oI) (k:oI.cls=.type "function")
  (i:∀ h' e,g7 h h' e (.ref C) rest ->
   aG (aI prog w) A (call (.ref fI) (.ref e::rest)) (λr s'=>r=.none/\Q (.done (.ret (.ref e))) s') E ⟨h',g,d,t,os⟩) (hrest:rest.length<=sizeLine) :
  aG (aI prog w) A (jm.«type.__call__» ⟨.ref C::rest,[]⟩) Q E ⟨h,g,d,t,os⟩:=by
 repeat (first|with_reducible refine dP R ?_|with_reducible refine wpAny_madeBy_exc R ?_|wp_step)
 refine codeAny_call_builtin_code (i6 _ p.quiet) (wpAny_check_new_subU p j T R ?_)
 refine codeAny_exc_new_subU p j F T R ?_ hrest
 show aG _ _ _ _ _ _
 have hC₁:=ai { cls:=.ref C,data:=.fields #[.ref h.objs.size,.none,.none,.none,.bool aw,.none] }
  (ai { cls:=.type "tuple",data:=.seq rest.toArray } R)
 have hfI₁:=ai { cls:=.ref C,data:=.fields #[.ref h.objs.size,.none,.none,.none,.bool aw,.none] }
  (ai { cls:=.type "tuple",data:=.seq rest.toArray } l)
 have hn₁:((h.push { cls:=.type "tuple",data:=.seq rest.toArray }).push { cls:=.ref C,data:=.fields #[.ref h.objs.size,.none,.none,.none,.bool aw,.none] }).Ns N mN :=
  (by obtain⟨o,es,m,e,r⟩:=hn;exact ⟨o,es,m,ai _ (ai _ e),r⟩)
 have a:((h.push { cls:=.type "tuple",data:=.seq rest.toArray }).push
   { cls:=.ref C,data:=.fields #[.ref h.objs.size,.none,.none,.none,.bool aw,.none] }).get? (h.objs.size+1)=aa
   { cls:=.ref C,data:=.fields #[.ref h.objs.size,.none,.none,.none,.bool aw,.none] }:=by heap_get
 have f:(aD C::bm).contains (.ref C)=true:=by simp
 have T₁:=T.keeps (h':=(h.push { cls:=.type "tuple",data:=.seq rest.toArray }).push { cls:=.ref C,data:=.fields #[.ref h.objs.size,.none,.none,.none,.bool aw,.none] })
  λb o e=>ai _ (ai _ e)
 unfold fx
 repeat (first|with_reducible refine dP a ?_|(with_reducible refine jF hC₁ ?_;rw[f])|wp_step)
 show aG _ _ (typeLookup (.ref C) _) _ _ _
 refine wpAny_typeLookup_tail hC₁ hn₁ T₁ F.mroIs F.init.lookup ?_
 rw[hi]
 refine de (ae ?_)
 unfold bindSpecial
 refine ae (wpAny_typeOf (T := "function") ⟨_,hfI₁,k⟩ ?_)
 rw[if_pos (by decide)]
 refine am (ae (bi (i _ (h.objs.size+1) ⟨λb o G=>ai _ (ai _ G),dg (cR _),h.objs.size,a,dg (ar _),?_⟩) (λr s' J=>?_) λ_ _ x=>x))
 ·exact ai _ (jl rfl rfl)
 ·obtain⟨rfl,c⟩:=J
  wp_walk
  exact c
theorem Ip(p:dw Bn newId inN bmN)(j:bmB.contains (.type Bn)=ac)(F:dw B nid initId bmB)(T:OwnTail h bmB bm)
  (R:h.get? C=aa (eY nm q C N bs bm hdct sn sub ab col dd k0 k1 k2 k3 k5 newId)) (hn:h.Ns N mN) (hi:mN "__init__" = aa (.ref fI))
  (l:h.get? fI=aa oI) (k:oI.cls=.type "function")
  (a:∀ h' e,g7 h h' e (.ref C) rest ->
   aG (aI prog w) (A.under (.builtin "type.__call__" ⟨.ref C::rest,[]⟩)) (call (.ref fI) (.ref e::rest)) (λr s'=>r=.none/\Q (.ref e) s') E ⟨h',g,d,t,os⟩) (hrest:rest.length<=sizeLine) :
  aG (aI prog w) A (call (.ref C) rest) Q E ⟨h,g,d,t,os⟩:=by
 have U:=tc_lookup
 have n:=tc_bind (.ref C)
 have c:(⟨h,g,d,t,os⟩:aq).TypeIs (.ref C) "type" := ⟨_,R,rfl⟩
 refine dn (codeAny_of_tree ?_)
 show aG _ _ (callAny (.ref C) _) _ _ _
 repeat (any_goals (first|assumption|with_reducible refine dP R ?_|wp_step))
 refine⟨rfl,?_⟩
 refine codeAny_call_builtin_at (i6 _ (by decide +kernel)) entry_typeCall (wpAny_check_type_call_sub R (Io (hrest:=hrest) p j F T R hn hi l k λh' e K=>?_))
 exact a h' e K
end
variable{Q:Flow->aq->Prop}
section
variable{nm q:au}{N:ah}{bs:List af}{k0 k1 k2 k3 k5:Option af}{B Bn nid inN:String}
theorem RN{x:Sem af}(b:bm.contains (.type "BaseException")=ac)(m:A.handled=none)
  (h:aG M A x (λv s₁=>∃ e t dx,v=.ref e/\s₁.heap.get? C=aa (eY nm q C N bs bm hdct sn sub ab col dd k0 k1 k2 k3 k5 newId) /\
   s₁.heap.get? e=aa { cls:=.ref C,dict:=dx,data:=.fields #[.ref t,.none,.none,.none,.bool aw,.none] }/\E (.ref e) s₁) E s) :
  aG M A (raiseStmt env (aa x) none) Q E s:=by
 have a:(aD C::bm).contains (.type "BaseException")=true:=by rw[i',b,im]
 unfold raiseStmt
 refine ae (bi h (λv s₁ h₁=>?_) λ_ _ x=>x)
 obtain⟨e,t,dx,rfl,R,j,c⟩:=h₁
 obtain⟨O,g,d,tk,Y⟩:=s₁
 repeat (first|with_reducible refine dP j ?_|with_reducible refine dP R ?_|(with_reducible refine jF R ?_;rw[a])|wp_step)
 exact wpAny_raiseNew_none m c
theorem Iq(p:dw Bn newId inN bmN)(j:bmB.contains (.type Bn)=ac)(F:dw B nid initId bmB){args:List cz}
  (b:bm.contains (.type "BaseException")=ac) (m:A.handled=none) (c:(bZ cpos (aB args env)).any (·.1)=aw) (hi:mN "__init__" = aa (.ref fI))
  (h:aG (aI prog w) A (cg (.Name x np) env) (λf s₁=>f=.ref C/\aG (aI prog w) A (evalArgs (.ref C) ac (bZ cpos (aB args env)) [])
   (λa s₂=>a.kw=[]/\a.pos.length<=sizeLine/\s₂.heap.get? C=aa (eY nm q C N bs bm hdct sn sub ab col dd k0 k1 k2 k3 k5 newId)/\s₂.heap.Ns N mN/\OwnTail s₂.heap bmB bm/\(∃ oI,s₂.heap.get? fI=aa oI/\oI.cls=.type "function") /\
    ∀ h' e,g7 s₂.heap h' e (.ref C) a.pos->aG (aI prog w) (A.under (.builtin "type.__call__" ⟨.ref C::a.pos,[]⟩)) (call (.ref fI) (.ref e::a.pos)) (λr s'=>r=.none /\
     s'.heap.get? C=aa (eY nm q C N bs bm hdct sn sub ab col dd k0 k1 k2 k3 k5 newId)/\(∃ t dx,s'.heap.get? e=aa { cls:=.ref C,dict:=dx,data:=.fields #[.ref t,.none,.none,.none,.bool aw,.none] })/\E (.ref e) s') E { s₂ with heap:=h' }) E s₁) E s) :
  aG (aI prog w) A (exec (.Raise (aa (.Call (.Name x np) args [] cpos)) none pos) env) Q E s:=by
 rw[arm_exec_Raise]
 first
  | refine ae (db (RN (C:=C) (nm:=nm) (q:=q) (N:=N) (bs:=bs) (bm:=bm) (hdct:=hdct) (sn:=sn) (sub:=sub) (ab:=ab) (col:=col) (dd:=dd) (k0:=k0) (k1:=k1) (k2:=k2) (k3:=k3) (k5:=k5) (newId:=newId) b m (ae (bi (gR (bi h (λf s₁ h₁=>?_) λ_ _ x=>x)) (λv s₃ h₃=>ae (db (am h₃))) λ_ _ x=>x))))
  | (simp only[evalOpt,Option.map];refine ae (db (RN (C:=C) (nm:=nm) (q:=q) (N:=N) (bs:=bs) (bm:=bm) (hdct:=hdct) (sn:=sn) (sub:=sub) (ab:=ab) (col:=col) (dd:=dd) (k0:=k0) (k1:=k1) (k2:=k2) (k3:=k3) (k5:=k5) (newId:=newId) b m (ae (bi (gR (bi h (λf s₁ h₁=>?_) λ_ _ x=>x)) (λv s₃ h₃=>ae (db (am h₃))) λ_ _ x=>x)))))
  | (refine ae (db (RN (C:=C) (nm:=nm) (q:=q) (N:=N) (bs:=bs) (bm:=bm) (hdct:=hdct) (sn:=sn) (sub:=sub) (ab:=ab) (col:=col) (dd:=dd) (k0:=k0) (k1:=k1) (k2:=k2) (k3:=k3) (k5:=k5) (newId:=newId) b m ?_));refine ae (bi (gR (bi h (λf s₁ h₁=>?_) λ_ _ x=>x)) (λv s₃ h₃=>ae (db (am h₃))) λ_ _ x=>x))
 obtain⟨rfl,h₁⟩:=h₁
 unfold ir
 refine ae (de (bi h₁ (λa s₂ h₂=>ae (db ?_)) λ_ _ x=>x))
 obtain⟨u,o⟩:=a
 obtain⟨n,i,R,G,T,⟨oI,l,k⟩,h₂⟩:=h₂
 obtain rfl:o=[]:=n
 obtain⟨H,g,d,tk,Y⟩:=s₂
 simp only[c]
 refine ae (wpAny_keeperOf_exc R ?_)
 refine ae (Ip (hrest:=i) p j F T R G hi l k λh' e K=>bi (h₂ h' e K) (λr s' z=>⟨z.1,ae (de (jx (am ?_)))⟩) λ_ _ z=>z)
 obtain⟨_,I,⟨t,dx,O⟩,y⟩:=z
 exact⟨e,t,dx,rfl,I,O,y⟩
end
variable{Q:Unit->aq->Prop}
section
open PySem.W PySem.Builtin.ObjectAttr
noncomputable def W8:List af->Bool
 | [.type a,.type b,.type c,.type d]=>a == "ValueError" && b == "Exception" && c == "BaseException" && d == "object"
 | .ref _::r=>W8 r
 | _=>aw
theorem OS{l:List af}(h:W8 l=ac):(∃ c r,l=.ref c::r/\W8 r=ac)\/l=[.type "ValueError",.type "Exception",.type "BaseException",.type "object"]:=by
 unfold W8 at h
 split at h
 ·rename_i a b c d
  simp only[aJ,beq_iff_eq] at h
  obtain⟨⟨⟨rfl,rfl⟩,rfl⟩,rfl⟩:=h
  exact .inr rfl
 ·exact .inl ⟨_,_,rfl,h⟩
 ·cases h
theorem Ir(self:af)(l:List af)(h:W8 l=ac):refuseLoop self "__setattr__" l=dZ ():=by
 induction l with
 | nil=>cases h
 | cons v r B =>
  rcases OS h with⟨c,S,e,h'⟩|e
  ·cases e;rw[refuseLoop_ref];exact B h'
  ·rw[e];exact PySem.F.store_ValueError.passes self
theorem Iu(l:List af)(h:W8 l=ac):l.contains (.type "object")=true:=by
 induction l with
 | nil=>cases h
 | cons v r B =>
  rcases OS h with⟨c,S,e,h'⟩|e
  ·cases e;rw[i',B h',im]
  ·rw[e];decide +kernel
def RO(K:ay)(C:ah):Bool:=(clsIn K C).any λcd=>W8 cd.mro
structure ExcSet(K:ay)(C:ah)(name:au):Prop where
 sa:ag K (.ref C) "__setattr__" = aa (aa (.builtin "object.__setattr__"))
 ov:RO K C=ac
 tk:d3 K C name=aa none
 hd:be K C=ac
section
variable{x:ah}
theorem OT(X:K.In s.heap)(I:bR s.heap x ox C od)(O:RO K C=ac)(ht:d3 K C name=aa none)
  (h:∀ b,aG (aI prog w) A.in1 (storeInOwnDict (.ref x) (.ref C) (.str name tk) name v b)
   (λfin s'=>match fin with|.done f=>R (.ok f) s'|.again J=>J.quiet=ac/\eh (aI prog w) A J R s') (λe s'=>R (.error e) s') s) :
  eh (aI prog w) A (.call (.builtin "object.__setattr__") ⟨[.ref x,.str name tk,v],[]⟩) R s:=by
 have g:=PySem.F.store_object
 obtain⟨cd,Y,P⟩:=fq O
 have ne:cd.mro.isEmpty=false:=by cases q:cd.mro with|nil=>rw[q] at P;cases P|cons _ _=>rfl
 have sub:jH (aI prog w) s.heap (fx (.ref x) (.type "object")) true:=I.type.andThen (looks_mroIn X (by unfold bJ;rw[Y,gs,if_neg (by rw[ne];decide),Iu _ P]))
 refine jB g.slot.plain g.entry (@check_slot (aI prog w) _ _ s "object.__setattr__" "object" "__setattr__" (.ref x) [.str name tk,v] [] _ g.kind g.split sub (g.args (.ref x) (.str name tk) v) ?_)
 obtain⟨c,l,k⟩:=Option.bind_eq_some_iff.mp ht
 have m:jH (aI prog w) s.heap (mroOf (.ref C)) cd.mro:=(eE X Y).andThen .now
 have j:jH (aI prog w) s.heap (storeTaker? c) none:=by
  cases c with
  | none=>exact .now
  | some a =>
   obtain⟨b,G,i⟩:=Option.map_eq_some_iff.mp k
   refine (looks_takesIn X G).andThen ?_
   cases b with
   | false=>exact .now
   | true=>cases i
 rw[osa_eq,refuse_eq]
 refine ae (ae (I.type.here (ae (m.here ?_))))
 rw[Ir _ _ P]
 refine am (ae (I.type.here (ae ((fS X l).here (ae (j.here ?_))))))
 exact h _
theorem Ix(X:K.In s.heap)(g:ExcSet K C name)(W:s.heap.get? x=aa ⟨.ref C,none,.fields vs,sl⟩)
  (h:∀ h',h'.get? x=aa ⟨.ref C,aa s.heap.objs.size,.fields vs,sl⟩->h'.Ns1 s.heap.objs.size (λy=>if y=name then aa v else none)->(∀ b o,b≠x->s.heap.get? b=aa o->h'.get? b=aa o)->Q () { s with heap:=h',toks:=s.toks+2 }) :
  aG (aI prog w) A (j0 (.ref x) name v) Q E s:=by
 have I:bR s.heap x ⟨.ref C,none,.fields vs,sl⟩ C none:=⟨W,rfl,rfl,trivial⟩
 refine fQ X I g.sa (OT (s:={ s with toks:=s.toks+1 }) X I g.ov g.tk λb=>?_)
 obtain⟨cd,Y,n⟩:=fq g.hd
 have a:x≠s.heap.objs.size:=aQ (aA W)
 refine ae (am (ae (ae (gd W (ae (eU (s:={ s with toks:=s.toks+1 }) (eE X Y) ?_))))))
 rw[n]
 have hx₁:(s.heap.push { cls:=.type "dict",data:=.dict #[] }).get? x=aa ⟨.ref C,none,.fields vs,sl⟩:=ai _ W
 refine ae (jz ?_)
 refine ae (wpAny_update hx₁ ?_)
 refine am (ae (am (ae ?_)))
 have i:((s.heap.push { cls:=.type "dict",data:=.dict #[] }).update x λo=>{ o with dict:=aa s.heap.objs.size }).get? s.heap.objs.size=aa { cls:=.type "dict",data:=.dict #[] } :=
  (iS _ _ _ _ a.symm).trans (jl rfl rfl)
 have c:((s.heap.push { cls:=.type "dict",data:=.dict #[] }).update x λo=>{ o with dict:=aa s.heap.objs.size }).Ns s.heap.objs.size (λ_=>none) :=
  ⟨_,#[],_,i,rfl,λe j=>absurd j (by simp),λ_=>rfl⟩
 refine jb (iz c) λh' f B=>?_
 obtain⟨u,q,t,k,l,p⟩:=f.count (fY name v Within.nil)
 refine ae (g9 k (by rw[l];exact hG (aT p (by rw[aS,d8,eX];omega))) ?_)
 refine am (h h' ?_ f λb o G e=>?_)
 ·exact (B.2 x a).trans (ff _ hx₁ rfl)
 ·exact (B.2 b (aQ (aA e))).trans ((iS _ _ _ _ G).trans (ai _ e))
theorem Iy(X:K.In s.heap)(g:ExcSet K C name)(W:s.heap.get? x=aa ⟨.ref C,aa dx,.fields vs,sl⟩)(e:dx≠x)
  (hn:s.heap.Ns1 dx mA) (hw:eT mA ns) (i:ns.length<1000)
  (h:∀ h',h'.Ns1 dx (λy=>if y=name then aa v else mA y)->el dx s.heap h'->Q () { s with heap:=h',toks:=s.toks+2 }) :
  aG (aI prog w) A (j0 (.ref x) name v) Q E s:=by
 obtain⟨od,es,f,T,M⟩:=id hn
 have I:bR s.heap x ⟨.ref C,aa dx,.fields vs,sl⟩ C (aa od):=⟨W,rfl,rfl,T⟩
 refine fQ X I g.sa (OT (s:={ s with toks:=s.toks+1 }) X I g.ov g.tk λb=>?_)
 obtain⟨cd,Y,n⟩:=fq g.hd
 refine ae (am (ae (ae (gd W (ae (eU (s:={ s with toks:=s.toks+1 }) (eE X Y) ?_))))))
 rw[n]
 refine am (a:=aa dx) (ae (am (ae ?_)))
 refine jb (s:={ s with toks:=s.toks+1 }) hn λh' j c=>?_
 obtain⟨u,q,t,k,l,p⟩:=j.count (fY name v hw)
 refine ae (g9 k (by rw[l];exact hG (aT p (by rw[aS,eX];omega))) ?_)
 exact am (h _ j c)
end
end
section
open PySem.W
def YObj(e C:ah)(d:Option ah):bG->Prop:=λh=>∃ t,h.get? e=aa ⟨.ref C,d,.fields #[.ref t,.none,.none,.none,.bool aw,.none],#[]⟩
def hY(e C:ah)(d:Option ah):HO:=.ext (YObj e C d)
theorem OU{e:ah}{d:Option ah}(x:YObj e C d h):ZO P w H h e (hY e C d) :=
 ⟨x,(by obtain⟨t,q⟩:=x;exact ⟨_,q⟩),(by rintro h1 h2 ⟨t,q⟩ k;exact ⟨t,k _ q⟩)⟩
theorem OV{d:ah}{fs:List (au×V)}(x:XDct d fs h):ZO P w H h d (hXD d fs) :=
 ⟨x,(by obtain⟨_,⟨_,_,_,q,_⟩,_⟩:=x;exact ⟨_,q⟩),(by rintro h1 h2 ⟨mA,n,r⟩ k;exact ⟨mA,n.at k,r⟩)⟩
def RP(K:ay)(C:ah)(ta tv:TE)(f:au):TS:=λD σ H=>tv σ H λy H1=>ta σ H1 λx H2=>∃ e,x=.ref e /\
  ((H2 e=aa (hY e C none)/\∀ d,H2 d=none->d≠e->D.nx σ (upd (upd H2 e (hY e C (aa d))) d (hXD d [(f,y)]))) \/
   ∃ d fs,H2 e=aa (hY e C (aa d))/\H2 d=aa (hXD d fs)/\d≠e/\fs.length<900/\D.nx σ (upd H2 d (hXD d (Zv f y fs))))
section
variable{o value:cz}{f:au}{tv:TE}
theorem Inv.excd{e d:ah}{g S:HO}(I:Inv X ge σ H s)(j:H e=aa (.ext φ))(hd:H d=none)(p:s.heap.get? d=none)(k:∀ b u,b≠e->s.heap.get? b=aa u->h'.get? b=aa u)(i:∃ u,h'.get? e=aa u)
  (J:ZO X.prog X.w (upd (upd H e g) d S) h' e g) (Z:ZO X.prog X.w (upd (upd H e g) d S) h' d S):Inv X ge σ (upd (upd H e g) d S) { s with heap:=h',toks:=t' }:=by
 have K:d≠e:=λz=>by rw[z,j] at hd;cases hd
 have ne:∀ b,H b=none->b≠e:=λb n z=>by rw[z,j] at n;cases n
 have l:∀ b u,s.heap.get? b=aa u->b≠d:=λb u q z=>by rw[z,p] at q;cases q
 have c:∀ b u,H b=aa u->(∀ t,u≠.ext t)->upd (upd H e g) d S b=aa u:=λb u q n=>by
  rw[Zd (λz=>by rw[z,hd] at q;cases q),Zd (λz=>by rw[z,j] at q;cases q;exact n _ rfl)];exact q
 refine I.un ⟨λb u q n _ _=>k b u (ne b n) q,λb u q n _ _=>⟨u.slots,k b u (ne b n) q⟩,λb u q n _=>by rw[Zd (l b u q),Zd (ne b n)];exact n,λb u q _=>?_,λb xs q=>c b _ q (by intro _ z;cases z),λb u xs q=>c b _ q (by intro _ z;cases z),λb ps q=>⟨#[],by simpa using c b _ q (by intro _ z;cases z)⟩⟩ λa u q=>?_
 ·by_cases f:b=e
  ·subst f;exact i
  ·exact⟨u,k b u f q⟩
 ·by_cases m:a=d
  ·subst m;rw[Zw] at q;cases q;exact Z
  ·rw[Zd m] at q
   by_cases h:a=e
   ·subst h;rw[Zw] at q;cases q;exact J
   ·rw[Zd h] at q
    refine (I.hok a u q).stay (λb B G z=>k b B (λy=>?_) z) (λb z=>c b _ z (by intro _ y;cases y)) (λb xs z=>c b _ z (by intro _ y;cases y)) λb o z=>c b _ z (by intro _ w;cases w)
    rcases G with r|r
    ·exact h (r▸y)
    ·rw[y,j] at r;cases r
theorem Iz(g:ExcSet X.K C f)(ha:PE X o ta)(S:PE X value tv)(B:hE value (aa (.Attribute o f pos')) pos.line X.env=dZ aw):PS X (.Assign [.Attribute o f pos'] value pos) (RP X.K C ta tv f):=by
 intro O s Z H D I h
 refine g6 (thn (S O s Z H _ I h) λu s1 ⟨y,H1,I1,ry,q⟩=>thn (ha O s1 Z H1 _ I1 q) λov s2 ⟨x,H2,I2,rx,e,ex,k⟩=>?_) B
 subst ex
 obtain rfl:ov=aD e:=rx
 rcases k with⟨j,k⟩|⟨d,fs,j,hd,K,L,k⟩
 ·obtain⟨t,ht⟩:=(I2.hok _ _ j).1
  have F:H2 s2.heap.objs.size=none:=I2.hok.fresh (ar _)
  have K:s2.heap.objs.size≠e:=cq (aA ht)
  refine Ix I2.kIn g ht λh' k1 k2 k3=>⟨Z,_,I2.excd (t':=s2.toks+2) j F (dg (ar _)) k3 ⟨_,k1⟩ (OU ⟨t,k1⟩) (OV ⟨_,k2,λg=>?_,λg M=>?_⟩),k _ F K⟩
  ·by_cases z:g=f
   ·subst z;simp only[List.lookup_cons_self,if_true];exact ry
   ·have:([(f,y)]:List (au×V)).lookup g=none:=by
     rw[bN]
     have:(g == f)=false:=beq_false_of_ne z
     rw[this];rfl
    rw[this,if_neg z];trivial
  ·by_cases z:g=f
   ·subst z;exact .head _
   ·exact absurd (if_neg z) M
 ·obtain⟨t,ht⟩:=(I2.hok _ _ j).1
  obtain⟨W,a,J,N⟩:=(I2.hok _ _ hd).1
  refine Iy I2.kIn g ht K a N (by rw[aC];omega) λh' k1 k2=>⟨Z,_,I2.write (t':=s2.toks+2) (x:=d) (e:=d) (by rw[hd];exact bW) (.inl rfl) (λb u G z=>(k2.2 b G).trans z) ((by obtain⟨o,_,_,q,_⟩:=k1;exact ⟨o,q⟩)) (OV ⟨_,k1,λg=>?_,λg M=>?_⟩),k⟩
  ·rw[S8]
   by_cases z:g=f
   ·rw[if_pos z,if_pos z];exact ry
   ·rw[if_neg z,if_neg z];exact J g
  ·by_cases z:g=f
   ·rw[z];exact (Ug f y fs).1
   ·exact (Ug f y fs).2 g (N g λq=>M ((if_neg z).trans q))
end
end
structure ExcI(K:ay)(C:ah)(bmB:List af)(newId:String)(fI:ah):Prop where
 ex:∃ tl N nm qn bs hdct sn sub ab col dd k0 k1 k2 k3 k5,K.lookup C=aa (eY nm qn C N bs tl hdct sn sub ab col dd k0 k1 k2 k3 k5 newId)/\ji K N=ac/\aP K N "__init__" = aa (aa (.ref fI))/\jh K bmB tl=ac/\∃ oN,K.lookup N=aa oN
 fn:∃ oI,K.lookup fI=aa oI/\oI.cls=.type "function"
theorem IA{N:ah}{m:au->Option af}{n:au}(X:K.In h)(G:h.Ns N m)(e:aP K N n=aa (aa v)):m n=aa v:=by
 obtain⟨o,es,E,P,hd,_,F⟩:=G
 have a:=F n
 unfold aP at e
 split at e
 case h_2=>cases e
 rename_i q
 have T:=(X _ _ q).symm.trans P
 cases T
 cases hd
 split at e
 case h_2=>split at e<;>cases e
 rename_i en he
 cases e
 rw[<- a]
 unfold nsFind findBy
 rw[<- iW,he]
 rfl
variable{ks:List au}
theorem Inv.born{e:ah}(I:Inv X ge σ H s)(hn:H e=none)(c:s.heap.get? e=none)(k:∀ b u,s.heap.get? b=aa u->h'.get? b=aa u)(J:ZO X.prog X.w (upd H e o) h' e o):Inv X ge σ (upd H e o) { s with heap:=h',toks:=t' }:=by
 have ne:∀ b u,s.heap.get? b=aa u->b≠e:=λb u q z=>by rw[z,c] at q;cases q
 refine I.un ⟨λb u q n _ _=>k b u q,λb u q n _ _=>⟨u.slots,k b u q⟩,λb u q n _=>by rw[Zd (ne b u q)];exact n,λb u q _=>⟨u,k b u q⟩,λb xs q=>by rw[Zd (Yw q hn)];exact q,λb u xs q=>by rw[Zd (Yw q hn)];exact q,λb ps q=>⟨#[],by rw[Zd (Yw q hn)];simpa using q⟩⟩ λa u q=>?_
 by_cases l:a=e
 ·subst l;rw[Zw] at q;cases q;exact J
 ·rw[Zd l] at q
  refine (I.hok a u q).stay (λb B _ z=>k b B z) (λb z=>by rw[Zd (Yw z hn)];exact z) λb xs z=>by rw[Zd (Yw z hn)];exact z
def del(H:Hp)(e:ah):Hp:=λb=>if b=e then none else H b
theorem RQ{e:ah}(h:b≠e):del H e b=H b:=if_neg h
theorem Inv.forget{e:ah}(I:Inv X ge σ H s)(j:H e=aa (.ext φ)):Inv X ge σ (del H e) s:=by
 have c:∀ b u,H b=aa u->(∀ t,u≠.ext t)->del H e b=aa u:=λb u q n=>by
  rw[RQ (λz=>by rw[z,j] at q;cases q;exact n _ rfl)];exact q
 have:=I.un (t':=s.toks) (H':=del H e) (h':=s.heap) ⟨λb u q n _ _=>q,λb u q n _ _=>⟨u.slots,q⟩,λb u q n _=>by unfold del;split;rfl;exact n,λb u q _=>⟨u,q⟩,λb xs q=>c b _ q (by intro _ z;cases z),λb u xs q=>c b _ q (by intro _ z;cases z),λb ps q=>⟨#[],by simpa using c b _ q (by intro _ z;cases z)⟩⟩ λa u q=>?_
 ·exact this
 ·have l:a≠e:=λz=>by rw[z] at q;unfold del at q;rw[if_pos rfl] at q;cases q
  rw[RQ l] at q
  exact (I.hok a u q).stay (λb B _ z=>z) (λb z=>c b _ z (by intro _ y;cases y)) (λb xs z=>c b _ z (by intro _ y;cases y)) λb o z=>c b _ z (by intro _ w;cases w)
theorem IB(I:Inv X ge σ H s)(m:Inv X ge σ H' s')(k:∀ b o,s.heap.get? b=aa o->b∉frs X.stack->H b=none->s'.heap.get? b=aa o)
  (j:s'.heap.get? ea=aa oe) (hd:oe.data=.fields vs) (C:1<vs.size) (h1:vs[1]?=aa .none) (hn:H' ea=none) (w:s.heap.get? ea=none) (th:∀ b o,s.heap.get? b=aa o->∃ o',s'.heap.get? b=aa o') (f:F oe.cls oe.dict σ H'):XE X F (.ref ea) s':=by
 have Q:ea∉frs X.stack:=λK=>by
  obtain⟨_,o,P,L⟩:=m.stack.mem K
  rw[j] at P
  cases P
  exact L vs hd
 have i:∀ env∈X.stack,∀ a,env.frame=aa a->a∈ea::frs X.stack:=λenv h1 a R=>.tail _ (mem_filterMap.mpr ⟨env,h1,R⟩)
 refine⟨ea,oe.cls,oe.dict,aw,i3 s'.heap (ea::frs X.stack),H',σ,rfl,⟨λb o e=>iv _ e,ia _ (.head _),PySem.W.funFrames_hide m.stack i,oe,vs,j,rfl,rfl,hd,C,by rw[if_neg ap];exact h1⟩,
  m.pins_of λp O=>m.pin p (by simpa using bS _ (by simpa using O)),λa o e=>?_,⟨λb o e n c ne=>?_,λb o e c ne=>?_,λp O=>?_⟩,f⟩
 ·refine (m.hok a o e).stay (λb u G q=>dh _ q λK=>?_) (λ_ z=>z) λ_ _ z=>z
  have h:H' b=none:=by
   rcases eR.mp K with z|z
   ·rw[z];exact hn
   ·exact m.stkFree b z
  rcases G with z|z
  ·rw[z,e] at h;cases h
  ·rw[z] at h;cases h
 ·have T:=I.base.keep b o e n (λz=>c (RL I z)) ne
  exact dh _ (k b o T c (I.base.free b o e n ne)) λK=>by
   rcases eR.mp K with z|z
   ·rw[z,w] at T;cases T
   ·exact c z
 ·obtain⟨g,T⟩:=I.base.there b o e ne
  obtain⟨o',N⟩:=th b g T
  exact⟨o',dh _ N λK=>by
   rcases eR.mp K with z|z
   ·rw[z,w] at T;cases T
   ·exact c z⟩
 ·obtain⟨T,J,v,U,_⟩:=m.pin p (bS _ O)
  obtain⟨Z,l,t,r,_⟩:=I.pin p (bS _ O)
  refine dh _ T λz=>?_
  rcases eR.mp z with z|z
  ·rw[z,w] at Z;cases Z
  rcases I.ok.stk with e|⟨e,ef⟩
  ·rw[e] at z;exact U z
  ·rw[e] at z
   rcases RK z with y|y
   ·rw[ef] at y;exact v (bh y).symm
   ·exact U y
def T3(C:ah)(ks:List au):Sp:=λvs H Q _=>∃ e ws,vs=.ref e::ws/\ws.length=ks.length/\H e=aa (hY e C none)/\∀ d,H d=none->d≠e->Q .non (upd (upd H e (hY e C (aa d))) d (hXD d (ks.zip ws)))
def OW(C:ah)(ks:List au)(F:FK)(t:TA):TS:=λ_ σ H=>t σ H λvs H1=>vs.length=ks.length/\vs.length<=1000/\∀ d,H1 d=none->F (.ref C) (aa d) σ (upd H1 d (hXD d (ks.zip vs)))
theorem RR{B Bn nid inN:String}(Fn:dw Bn newId inN bmN)(hBn:bm.contains (.type Bn)=ac)(FB:dw B nid initId bm)(W:ExcI X.K C bm newId fI)(Y:X.calm=ac)(M:Gl X x)(hm:X.mg x=aa (.ref C))
  (Fk:FnOk X.prog X.w X.K X.mg X.base (CXE X.prog X.w) k fI fd ps (T3 C ks)) (J:Room (k+1) X.A) (hb:Zq X.K fd ps []) (ha:PA (X.wish (XE X F)) (e::es) t) (hd:(x == ("__debug__" : au))=false:=by decide)
  (he:aB (e::es) X.env=(aw,cg e X.env)::aB es X.env:=by rfl) (g:(bZ cpos (aB es X.env)).any (·.1)=false:=by rfl) :
  PS (X.wish (XE X F)) (.Raise (aa (.Call (.Name x np) (e::es) [] cpos)) none pos) (OW C ks F t):=by
 intro O s Z H D I f
 have I0:Inv X O Z H s:=I.unwish
 obtain⟨tl,N,nm,q,bs,hdct,sn,sub,ab,col,dd,k0,k1,k2,k3,k5,R,hN,hi,hT,oN,hoN⟩:=W.ex
 obtain⟨oI,hoI,hfc⟩:=W.fn
 have G:s.heap.Ns N (s.heap.nsMap N):=.of_isNs (PySem.W.isNs_of_in I0.kIn hN)
 have c:(bZ cpos (aB (e::es) X.env)).any (·.1)=false:=by rw[he];show (aw || (bZ cpos (aB es X.env)).any (·.1))=aw;rw[g];rfl
 refine Iq (C:=C) (nm:=nm) (q:=q) (N:=N) (bs:=bs) (bm:=tl) (hdct:=hdct) (sn:=sn) (sub:=sub) (ab:=ab) (col:=col) (dd:=dd) (k0:=k0) (k1:=k1) (k2:=k2) (k3:=k3) (k5:=k5) (mN:=s.heap.nsMap N) (fI:=fI)
  Fn hBn FB ((iu I0.kIn hT).hasType FB.hasBase) (I0.ok.hd Y) c (IA I0.kIn G hi) (WA (X:=X.wish (XE X F)) I M hm ⟨rfl,?_⟩ hd)
 have ha1:=ha cpos O s Z H _ I f
 rw[he] at ha1 ⊢
 refine iA (thn ha1 ?_)
 rintro us s1 ⟨vs,H1,I1w,r,hl1,hl2,hq⟩
 have I1:Inv X O Z H1 s1:=I1w.unwish
 refine⟨rfl,by rw[<- r.length,eX];omega,I1.kIn _ _ R,?_,iu I1.kIn hT,⟨oI,I1.kIn _ _ hoI,hfc⟩,λh' S a=>?_⟩
 ·obtain⟨o,h,E,T,L⟩:=G
  have:=(I0.kIn _ _ hoN).symm.trans T
  cases this
  exact⟨_,h,E,I1.kIn _ _ hoN,L⟩
 have A:H1 S=none:=by
  cases z:H1 S with
  | none=>rfl
  | some o =>
   obtain⟨u,j⟩:=OJ (I1.hok S o z)
   rw[a.new] at j
   cases j
 obtain⟨tt,he0,ht0,_⟩:=a.there
 have I2:Inv X O Z (upd H1 S (hY S C none)) { s1 with heap:=h',toks:=s1.toks }:=I1.born A a.new a.keeps (OU ⟨tt,he0⟩)
 have P:Zi (V.ref S::vs) (aD S::us):=.cons rfl r
 have hsp:T3 C ks (V.ref S::vs) (upd H1 S (hY S C none)) (λv H2=>v=.non/\∃ d,H1 d=none/\d≠S/\H2=upd (upd (upd H1 S (hY S C none)) S (hY S C (aa d))) d (hXD d (ks.zip vs))) E0 :=
  ⟨S,vs,rfl,hl1,Zw ..,λd hd K=>⟨rfl,d,by rw[Zd K] at hd;exact hd,K,rfl⟩⟩
 have i:(aD S::us++[]).length=ps.length:=by
  rw[d_,<- Fk.len _ _ _ _ hsp];exact P.length.symm
 have l:=hb _ (aD S::us) I2.kIn i
 rw[d_] at l
 refine dn (cX (Fk.run _ X.stack _ _ ⟨aD S::us,[]⟩ (aD S::us) _ _ E0 (J.make C us []) (I2.env0.make C us []) l P hsp) λz s' p=>?_)
 cases z with
 | error e=>obtain⟨_,_,_,_,_,_,_,_,_,_,_,_,_,y⟩:=p;exact y.elim
 | ok fl =>
  cases fl with
  | ret u =>
   have hq2:=p
   obtain⟨_,H',_,_,un,_,_,_,_⟩:=hq2
   obtain⟨v,H',U,m,ev,d,hd1,K,rfl⟩:=I2.after p
   subst ev
   have hY3:upd (upd (upd H1 S (hY S C none)) S (hY S C (aa d))) d (hXD d (ks.zip vs)) S=aa (hY S C (aa d)):=by rw[Zd (bY K),Zw]
   obtain⟨t3,g3⟩:=(U.hok _ _ hY3).1
   have eH:del (upd (upd (upd H1 S (hY S C none)) S (hY S C (aa d))) d (hXD d (ks.zip vs))) S=upd H1 d (hXD d (ks.zip vs)):=by
    funext b
    by_cases z:b=S
    ·subst z;rw[Zd (bY K)];unfold del;rw[if_pos rfl];exact A.symm
    ·rw[RQ z]
     by_cases y:b=d
     ·subst y;rw[Zw,Zw]
     ·rw[Zd y,Zd y,Zd z,Zd z]
   have I4:=U.forget hY3
   rw[eH] at I4
   have j:u=Value.none:=m
   have w:∀ b o,s1.heap.get? b=aa o->b≠S:=λb o q z=>by rw[z,a.new] at q;cases q
   refine⟨j,U.kIn _ _ R,⟨t3,aa d,g3⟩,IB (oe:=⟨.ref C,aa d,.fields #[.ref t3,.none,.none,.none,.bool aw,.none],#[]⟩) I1 I4 (λb o q Q n=>?_) g3 rfl (by simp) rfl (by rw[Zd (bY K)];exact A) a.new (λb o q=>un.there b o (a.keeps b o q) (by simp)) (hq d hd1)⟩
   exact un.keep b o (a.keeps b o q) (by rw[Zd (w b o q)];exact n) Q (by simp)
  | next=>exact p.elim
  | brk=>exact p.elim
  | cont=>exact p.elim
structure ExcFld(K:ay)(C:ah)(f:au):Prop where
 get:ExcGet K C
 hd:be K C=ac
 no:ag K (.ref C) f=aa none
def RS(K:ay)(ta:TE)(f:au):TE:=λσ H Q=>ta σ H λx H1=>∃ ea C a vs v,x=.ref ea/\H1 ea=aa (hX ea (.ref C) (aa a))/\H1 a=aa (hXD a vs)/\ExcFld K C f/\vs.lookup f=aa v/\Q v H1
theorem IC{f:au}(j:PE X e ta)(hb:df e f X.env (cg e X.env)=cg e X.env:=by rfl):PE X (.Attribute e f pos) (RS X.K ta f):=by
 intro O s Z H Q I h
 refine Ps hb (thn (j O s Z H _ I h) ?_)
 rintro u s1 ⟨x,H1,I1,rx,ea,C,a,vs,v,ex,h1,h2,g,l,q⟩
 subst ex
 obtain rfl:u=aD ea:=rx
 obtain⟨o,G,k1,k2,k3,k⟩:=(I1.hok _ _ h1).1
 obtain⟨W,n,r,_⟩:=(I1.hok _ _ h2).1
 obtain⟨od,P,L⟩:=Pq n
 have b:=r f
 rw[l] at b
 cases hv:W f with
 | none=>rw[hv] at b;exact b.elim
 | some u =>
  rw[hv] at b
  have R:Zp v u:=b
  have J:bR s1.heap ea o C (aa od):=⟨k1,k2,by obtain⟨c,d,i,p⟩:=o;cases k;rfl,by rw[k3];exact P⟩
  exact Ig I1.kIn J g.get (ib g.hd g.no rfl (by rw[L,hv])) (Pr R) ⟨v,H1,I1.tok _,R,q⟩
theorem OX{f:au}(h:X.K=K)(j:PE X e ta)(hb:df e f X.env (cg e X.env)=cg e X.env:=by rfl):PE X (.Attribute e f pos) (RS K ta f):=h▸IC j hb
variable{Q:TV->Prop}
theorem ID{e:ah}{Q:VK}{w1:V}(j:H e=aa (hY e C none))(q:∀ d,H d=none->d≠e->Q .non (upd (upd H e (hY e C (aa d))) d (hXD d [(k1,w1)]))) :
  RP K C (Zj 0) (Zj 1) k1 { nx:=λ_ H'=>Q .non H',rt:=Q } [aa (.ref e),aa w1] H :=
 ⟨w1,rfl,.ref e,rfl,e,rfl,.inl ⟨j,q⟩⟩
variable{p1 self:au}
theorem init1(F:FunD K "__init__" qual st dV f fd)(i:FnScope [self,p1] [self,p1] (Zb st))
  (hbody:∀ (cdv:af) (A:bv) (outer:List eF) (s:aq) (H:Hp) (E:XK),PSs (ZJ CX P w K mg base [self,p1] qual (Zb st) f cdv A outer s H E).nox (Zy st) (RP K C (Zj 0) (Zj 1) k1)) :
  FnOk P w K mg base CX (k+1) f fd [self,p1] (T3 C [k1]):=by
 refine F.ok i ((by rintro vs H Q E ⟨e,G,z,l,_⟩;rw[z,aS,l];rfl)) λcdv A outer s H vs Q E _ h=>⟨_,hbody cdv A outer s H E,?_⟩
 obtain⟨e,G,rfl,l,j,q⟩:=h
 match G,l with
 | [w1],_=>exact ID j q
variable {A:TA}{X:Exc->Sl->Prop}
theorem RU{α β:Type}:∀ {as:List α} {bs:List β},as.length=bs.length->(as.zip bs).map bH=as
 | [],[],_=>rfl
 | a::as,b::bs,h=>by rw[cj,bp,RU (by simpa using h)]
theorem RV{α β:Type}:∀ {as:List α} {bs:List β},as.length=bs.length->(as.zip bs).map bz=bs
 | [],[],_=>rfl
 | a::as,b::bs,h=>by rw[cj,bp,RV (by simpa using h)]
theorem RW(h:Ea K F X A ρ λbs=>NRs bs/\bs.length=ks.length/\bs.length<=1000/\X ⟨C,ks.zip (bs.map TV.data)⟩ ρ):Sv K F X (OW C ks F A) ρ DV:=λI Z ts as H D _ s x _ =>
 h I Z ts as H _ s x <|by
  rintro bs ⟨nr,hl,hz,q⟩ vs H' s' hv
  obtain⟨j,s2⟩:=SR.reps nr.all hv s'
  have v:ks.length=vs.length:=by omega
  have f:ks.length=(bs.map TV.data).length:=by rw[aC];omega
  refine⟨by omega,by omega,λd hd=>x.x _ ρ q _ _ Z _ (s2.ext (XM hd)).pops ⟨rfl,.inr ⟨d,ks.zip vs,rfl,Zw ..,?_,?_⟩⟩⟩
  ·rw[RU v,RU f]
  ·rw[RV v,RV f]
   exact j.same (XM hd)
theorem OY{G:Hp}{f:au}{y:ak}:∀ {fs:List (au×ak)} {vs:List (au×V)} {ds:List ak},fs.map (λp=>(aY p.1,p.2))=(vs.map λp=>aY p.1).zip ds->Reps K G (vs.map bz) ds->fs.lookup f=aa y->∃ v,vs.lookup f=aa v/\Rep K G v y
 | [],_,_,_,_,l=>by cases l
 | (g,x)::fs,[],_,e,_,_=>by simp at e
 | (g,x)::fs,(g',v)::vs,[],e,_,_=>by simp at e
 | (g,x)::fs,(g',v)::vs,d::ds,e,r,l=>by
  simp only[bp,cj,gn,cm,ic] at e
  obtain⟨⟨rfl,rfl⟩,e⟩:=e
  cases r with
  | cons r rs =>
   rw[bN] at l ⊢
   cases z:f == g with
   | true=>rw[z] at l;cases l;exact⟨v,rfl,r⟩
   | false=>rw[z] at l;exact OY e rs l
theorem OZ{f:au}(h:Ev K F X te ρ λa=>∃ (e:Exc) (y:ak),a=.av (.d (dX e))/\ExcFld K e.cls f/\e.fs.lookup f=aa y/\Q (.av (.d y))):Ev K F X (RS K te f) ρ Q:=λn Z ts as H W s x k =>
 h n Z ts as H _ s x <|by
  rintro a ⟨e,y,ea,g,l,q⟩ v H' s'
  subst ea
  obtain⟨w,⟨b,c,vs,rfl,U,R,i⟩,s2⟩:=s'.item (c:=.av (.d y)) (y:=y) NR.av ZT.d (λw=>∃ b c vs,v=.ref b/\H' b=aa (hX b (.ref e.cls) (aa c))/\H' c=aa (hXD c vs)/\vs.lookup f=aa w) λG r u=>by
   have S:Rep K G v (.dict ((.none,.int e.cls)::e.fs.map λp=>(.str p.1,p.2))):=r
   cases S with
   | exc _ z => 
    have:=(aF z).2
    cases hf:e.fs with
    | nil=>rw[hf] at l;cases l
    | cons _ _=>rw[hf] at this;cases this
   | ins _ _ _ z =>
    have:=(aF z).2
    cases hf:e.fs with
    | nil=>rw[hf] at l;cases l
    | cons _ _=>rw[hf] at this;cases this
   | rd _ _ _ z =>
    have:=(aF z).2
    cases hf:e.fs with
    | nil=>rw[hf] at l;cases l
    | cons _ _=>rw[hf] at this;cases this
   | fz _ _ z=>exact nomatch (aF z).1
   | @excF b j c vs ds _ U R rs z =>
    obtain⟨I,O⟩:=aF z
    simp only[cm,cF,true_and] at I
    have m:e.cls=j:=di I
    subst m
    obtain⟨w,N,J⟩:=OY O rs l
    exact⟨w,⟨b,c,vs,rfl,u _ _ U,u _ _ R,N⟩,J⟩
   | dK _ _ z=>exact absurd z Ul
   | dT _ _ z=>exact absurd z Um
   | dN _ _ _ z=>exact absurd z Uo
  exact⟨b,e.cls,c,vs,w,rfl,U,R,g,i,k _ q _ _ s2⟩
variable {v:V}
section
variable{b:TV}
theorem RAs.pick{c:AV}:∀ {vs:List V} {xs:List AV} {p:Fp} {j:Nat},RAs K G H vs xs p->xs[j]?=aa c ->
  ∃ (p1 p2:Fp) (w:V),(∀ b,p b=p1 b+p2 b)/\vs[j]?=aa w/\RA K G H w c p1/\∀ (G' H':Hp) (J:AV) (f:Fp),Zg G G'->(∀ b o,0<p2 b->H b=aa o->H' b=aa o)->RA K G' H' w J f->RAs K G' H' vs (xs.set j J) (λb=>f b+p2 b)
 | _,_,_,_,.nil _,e=>by simp at e
 | _,_,_,0,.cons (p:=p1) (q:=q1) (v:=v0) r rs e0,e=>by
  simp at e
  subst e
  exact⟨p1,q1,v0,e0,rfl,r,λG' H' J f m k S=>.cons S (rs.mono m k) λ_=>rfl⟩
 | _,_,_,j+1,.cons (p:=p1) (q:=q1) r rs e0,e=>by
  obtain⟨g,h,w,U,R,a,F⟩:=RAs.pick (j:=j) rs (by simpa using e)
  refine⟨g,λb=>p1 b+h b,w,λb=>by have:=e0 b;have:=U b;dsimp only;omega,by simpa using R,a,λG' H' J f m k S=>?_⟩
  exact .cons (r.mono m λb o z=>k b o (by dsimp only;omega)) (F G' H' J f m (λb o z=>k b o (by dsimp only;omega)) S) λb=>by dsimp only;omega
end
section
variable{E:FK}{b:TV}
theorem in_d[DecidableEq α]{f:α->ak}{c:α}{xs:List α}(F:Enc f m)(ha:a.data=f c)(hb:b.data=.list (xs.map f)\/b.data=.tuple (xs.map f))(q:Q (.av (.d (.bool (decide (c∈xs))))))(A:NR a:=by walk_at "n")(w:NR b:=by walk_at "n")(hm:m<=32:=by decide):Op K E X (VF K aw) a b Q:=λI Z o ts as H x y W s _ k=>by
 have U:=s.pop.top A
 have R:=s.top w
 rw[ha] at U
 refine .inl ⟨f c,xs.map f,U,(show _\/_ by rcases hb with e|e;exact .inl (e▸R);exact .inr (e▸R)),F.lay c,Oe F xs,aT (F.dep c) hm,?_⟩
 rw[if_neg ap,Od F]
 exact k _ q _ H (s.pop.pop.bl _)
end
section
variable{y:V}{b:TV}
theorem SR.writeD{kvs':List (ak×ak)}(h:SR K H0 σ ρ (v::ts) (.av (.d z)::as) H)(C:Stb as)(hi:ρ[i]?=aa (aa (.dic kvs))) :
  ∃ l o,σ[i]?=aa (aa (.ref l))/\H l=aa o/\Yh K H o kvs/\∀ o',Mu o'->(∀ G,Yh K G o kvs->Rep K G v z->Yh K G o' kvs')->SR K H0 σ (ρ.set i (aa (.dic kvs'))) ts as (upd H l o'):=by
 obtain⟨⟨p,q,U,R,S,F⟩,s⟩:=h
 obtain⟨c,Y,w,T,M,t,O⟩:=U.frz hi λ_ _ _ _=>trivial
 cases R with
 | @cons _ _ _ _ A k _ r rs B =>
  cases r with
  | av r =>
  cases r with
  | d j a =>
  cases t with
  | @dic l o _ _ L hd E =>
   refine⟨l,o,M,L,hd.mono Y5,λo' mu N=>?_⟩
   have g:c l=1:=by have:=E l;simpa using this
   have ne:∀ b u,p b+q b=0->H b=aa u->b≠l:=λb u z _ y=>by subst y;have:=T b;omega
   have Q:Zg (hid H p q) (hid (upd H l o') p q):=TU λb u z w=>⟨z,ne b u z w⟩
   have k2:∀ b u,0<q b+Y b->H b=aa u->upd H l o' b=aa u:=λb u z w=>by
    rw[Zd (λy=>by subst y;have:=S b;have:=T b;omega)];exact w
   have z:=O (hid (upd H l o') p q) (upd H l o') (.ref l) (.dic kvs') (λb=>if b=l then 1 else 0) (λb=>(if b=l then 1 else 0)+Y b) Q (λb u y=>k2 b u (by omega)) (.dic Zw (N _ (hd.mono Q) (j.same Q)) λ_=>rfl) (λ_=>rfl)
   rw[TR M] at z
   have s2:Zg H0 (upd H l o'):=s.updF (F l (by have:=T l;omega))
   refine SR.of_le (p:=p) (q:=q) (p':=λb=>(if b=l then 1 else 0)+Y b) (q':=k) s2 S F (λb=>?_) z (rs.monoS Q C λb o y=>k2 b o (by have:=B b;omega))
   have:=E b;have:=T b;have:=B b
   show (if b=l then 1 else 0)+Y b+k b<=p b+q b
   omega
end
def Z0:Fp:=λ_=>0
def spR(K:ay)(Pre:List AV->Prop)(Post:List AV->AV->Prop)(PX:List AV->Exc->Prop):Sp:=λvs H Q E=>Xz H /\
 ∃ as,RAs K H H vs as Z0/\Pre as/\(∀ c,Post as c->∀ v H',Rs K H H' v c->Q v H')/\∀ e,PX as e->∀ c d H',Zg H H'->WF K H' e c d->E c d H'
def NP:List AV->Exc->Prop:=λ_ _=>False
abbrev inA(N:List au)(as:List AV):Sl:=as.map aa++aU (N.length-as.length) none
abbrev WL(Post:AV->Prop):VEnds:=⟨λ_=>Post (.d .none),λa=>∃ c,Res a c/\Post c,λ_=>False,λ_=>False⟩
variable{vs:List V}{Pre:List AV->Prop}{Post:List AV->AV->Prop}{PX:List AV->Exc->Prop}
section
variable{σ:L2.St}
theorem SR.startA(h:RAs K H H vs cs Z0):SR K H (L2.start N vs) (inA N cs) [] [] H:=by
 have L:=h.len
 have f:hid H (λ_=>0) (λ_=>0)=H:=by funext b;simp[hid]
 refine⟨⟨λ_=>0,λ_=>0,?_,.nil λ_=>rfl,λ_=>by simp,λb z=>by simp at z⟩,.refl H⟩
 rw[f]
 unfold L2.start inA
 rw[L]
 clear L
 generalize N.length-cs.length=m
 have a:∀ {vs:List V} {cs:List AV} {p:Fp},RAs K H H vs cs p->(∀ b,p b=0)->RSl K H H (vs.map aa++aU m none) (cs.map aa++aU m none) λ_=>0:=by
  intro vs cs
  induction vs generalizing cs with
  | nil =>
   intro p r _
   cases r
   simp only[eL,gJ]
   clear h
   induction m with
   | zero=>exact .nil λ_=>rfl
   | succ m B=>exact .no B
  | cons v vs B =>
   intro p r z
   cases r with
   | @cons _ _ _ _ c A _ r rs e =>
    have I:∀ b,c b=0:=λb=>by have:=e b;have:=z b;omega
    have O:∀ b,A b=0:=λb=>by have:=e b;have:=z b;omega
    exact .so r (B rs O) λb=>by simp[I b]
 exact a h λ_=>rfl
theorem T4{t:TS}{E:XK}(sp:spR K Pre Post PX vs H Qv E)
  (h:∀ cs,Pre cs->Sv K (toF E) (λe _=>PX cs e) t (inA N cs) (WL (Post cs))):t { nx:=λ_ H'=>Qv .non H',rt:=Qv } (L2.start N vs) H:=by
 obtain⟨O,cs,j,pre,q,w⟩:=sp
 refine h cs pre H _ [] [] H _ Stb.nil (SR.startA j) ⟨λe o z c d Z H' s G=>w e z c d H' s.same G,O⟩ ⟨λo z A H' l=>?_,λ_ z=>z.elim,λ_ z=>z.elim,λa ⟨c,r,z⟩ v A ρ' H' l=>?_⟩
 ·exact q _ z _ _ (SR.rs (v:=.non) (l.push λ_=>.non))
 ·rcases r with rfl|⟨nr,rfl⟩
  ·exact q _ z _ _ l.rs
  ·refine q _ z _ _ ⟨l.same,λ_=>0,λ_=>by simp,λb z=>by simp at z,.d ?_ λ_=>rfl⟩
   have f:hid H' (λ_=>0) (λ_=>0)=H':=by funext b;simp[hid]
   rw[f]
   exact l.top nr
inductive Sh:TV->AV->Prop
 | d {b:TV} {x:ak}:NR b->b.data=x->Sh b (.d x)
 | o {φ:V->Hp->Prop}:Sh (.av (.obj φ)) (.obj φ)
inductive Shs:List TV->List AV->Prop
 | nil:Shs [] []
 | cons {b:TV} {c:AV} {bs:List TV} {cs:List AV}:Sh b c->Shs bs cs->Shs (b::bs) (c::cs)
theorem SR.lent:∀ {vs:List V} {bs:List TV} {cs:List AV},Shs bs cs->vs.length=bs.length->SR K H0 σ ρ (vs++ts) (bs++as) H->RAs K H H vs cs Z0/\SR K H0 σ ρ ts as H
 | [],_,_,.nil,_,s=>⟨.nil λ_=>rfl,s⟩
 | [],_,_,.cons _ _,e,_=>by simp at e
 | v::vs,_,_,.nil,e,_=>by simp at e
 | v::vs,b::bs,c::cs,.cons h t,e,s=>by
  have l:SR K H0 σ ρ (v::(vs++ts)) (b::(bs++as)) H:=s
  obtain⟨r,s2⟩:=SR.lent t (by simpa using e) l.pop
  refine⟨.cons (p:=Z0) (q:=Z0) ?_ r λ_=>rfl,s2⟩
  cases h with
  | d a y=>exact .d (y▸l.top a) λ_=>rfl
  | o =>
   obtain⟨⟨p,q,U,R,S,F⟩,u⟩:=l
   cases R with
   | cons r rs e=>cases r with
    | av r=>cases r with
     | obj h m z=>exact .obj (m _ _ Y5 h) m λ_=>rfl
end
theorem VM{Q:VK}{E:XK}(h:spR K Pre Post PX vs H Q E)(C:∀ cs,Pre cs->cs.length=n):vs.length=n:=by
 obtain⟨_,cs,r,pre,_⟩:=h
 rw[r.len];exact C cs pre
theorem Ux(T:Tx K mg x st ps dvss)(i:FnScope N ps (Zb st))(C:∀ cs,Pre cs->cs.length=ps.length)
  (hbody:∀ (f:ah) (cdv:af) (A:bv) (outer:List eF) (s:aq) (H:Hp) (E:XK),Room k (A.deeper (bQ x (Zb st) s.heap.objs.size f cdv)) ->
   ∃ t,PSs (ZJ CX P w K mg base N x (Zb st) f cdv A outer s H E).nox (Zy st) t/\∀ cs,Pre cs->Sv K (toF E) NE t (inA N cs) (WL (Post cs))) :
  ∀ dvs∈dvss,Cal P w K mg base CX (k+1) x ps dvs (spR K Pre Post NP) :=
 T.cal (k:=k) i (λvs H Q E h=>VM h C) λf cdv A outer s H vs Q E J h =>
  let ⟨t,U,R⟩:=hbody f cdv A outer s H E J
  ⟨t,U,T4 h λcs pre=>R cs pre⟩
section
variable{E:FK}
def ClR(Pre:List AV->Prop)(Post:List AV->AV->Prop)(PX:List AV->Exc->Prop)(dds:List AV)(Q:TV->Prop)(X:Exc->Prop)(bs:List TV):Prop :=
 ∃ cs,Shs bs cs/\Pre (cs++dds)/\(∀ c,Post (cs++dds) c->∃ a,Got c a/\Q a)/\∀ e,PX (cs++dds) e->X e
theorem RAs.app:∀ {vs ws:List V} {xs ys:List AV},RAs K H H vs xs Z0->RAs K H H ws ys Z0->RAs K H H (vs++ws) (xs++ys) Z0:=by
 intro vs ws xs ys h g
 have a:∀ {vs:List V} {xs:List AV} {p:Fp},RAs K H H vs xs p->(∀ b,p b=0)->RAs K H H (vs++ws) (xs++ys) Z0:=by
  intro vs
  induction vs with
  | nil=>intro xs p r _;cases r;exact g
  | cons v vs B =>
   intro xs p r z
   cases r with
   | @cons _ _ _ _ c A _ r rs e =>
    have I:∀ b,c b=0:=λb=>by have:=e b;have:=z b;omega
    have O:∀ b,A b=0:=λb=>by have:=e b;have:=z b;omega
    exact .cons r (B rs O) λb=>by simp[Z0,I b]
 exact a h λ_=>rfl
theorem Uy:RAs K H H [] [] Z0:=.nil λ_=>rfl
theorem IE{b:List AV}(hd:∀ H,RAs K H H dvs b Z0)(h:Ea K E X A ρ (ClR Pre Post NP b Q λ_=>True)):Ev K E X (Wc (spR K Pre Post NP) dvs E' A) ρ Q:=λI Z ts as H W s x k =>
 h I Z ts as H _ s x <|by
  rintro bs ⟨cs,sh,pre,q,_⟩ vs H' s' hl
  obtain⟨j,s2⟩:=SR.lent sh hl s'
  exact⟨x.t.same s2.same,cs++b,j.app (hd H'),pre,λc Y v H2 r=> (by obtain⟨a,g,z⟩:=q c Y;exact k a z v H2 (s2.gotG r g)),λe z=>z.elim⟩
theorem IF(h:Ea K E X A ρ (ClR Pre Post NP [] Q λ_=>True)):Ev K E X (Wc (spR K Pre Post NP) [] E' A) ρ Q:=IE (λ_=>Uy) h
end
section
variable{P:Sl->Prop}{g1 g2:TG}{x:ak}
theorem VN(h:Gv K g1 x ρ λB=>Gv K g2 y B P):Gv K (S3 K 2 (S2 g1 (S2 g2 gNil))) (.tuple [x,y]) ρ P:=λI Z ts as H v Qg s k=>by
 obtain⟨xs,⟨l,e,U⟩,R,c⟩:=s.items (es:=[x,y]) Kp.d (λxs=>∃ l,v=.ref l/\SqT K H l xs) (λG j u=>by
  obtain⟨l,xs,e,S,F⟩:=Rep.tuple_inv (ds:=[x,y]) j
  exact⟨xs,⟨l,e,u.tupS S⟩,F⟩) NR.av
 obtain⟨a,b,rfl⟩:=len2 R
 refine⟨l,[a,b],e,U,rfl,a,[b],rfl,h I Z (b::ts) (.av (.d y)::as) H a _ c λB M A H' s2=>?_⟩
 exact⟨b,[],rfl,M I A ts as H' b _ s2 λo p N H2 s3=>⟨rfl,k o p N H2 s3⟩⟩
end
variable {tb:TS}
section
variable{E:FK}
theorem IG:ItOk K (Ite K l) (.ref l) (.list ds) ds.length λi=>.tuple [.int i,ds.getD i .none]:=by
 intro G H u j
 obtain⟨g,ys,N,S,F⟩:=j.list_inv
 cases N
 have Y:=u.seq S
 refine⟨λi t=>?_,λi t=>⟨ys,Y,by rw[F.length];exact t⟩⟩
 obtain⟨w,B,q⟩:=F.get (i:=i) (d:=ds.getD i .none) (by rw[bc,aR t];rfl)
 refine⟨⟨ys,w,Y,B⟩,?_⟩
 rintro x H' ⟨p,x0,hp,e1,e2,e3⟩
 subst e1 e2
 have:=e3 ys Y
 rw[B] at this
 cases this
 exact⟨XM hp,λa m k=>.tup (k p _ Zw hp) (.cons (.int i) (.cons (q.same m) .nil))⟩
theorem IH{P:Nat->(Nat->ak)->TV->Prop}(h:Ea K E X A ρ λbs=>∃ a ds,bs=[a]/\a.data=.list ds/\NR a/\P ds.length (λi=>.tuple [.int i,ds.getD i .none]) a.frz):Iv K E X (Rp K A) ρ P:=λI Z ts as H R s x k =>
 h I Z ts as H _ s x <|by
  rintro bs ⟨a,ds,eb,e,na,q⟩ vs H' b hl
  subst eb
  obtain⟨v,rfl,b⟩:=one_of b hl
  have j:=b.top na
  rw[e] at j
  obtain⟨l,xs,rfl,U,c⟩:=j.list_inv
  refine⟨l,rfl,⟨xs,U⟩,k _ _ _ q (.ref l) _ H' (TV.frz_nr na) b.frzV ?_⟩
  rw[TV.frz_data,e]
  exact IG
theorem O0{bk:Sl->Prop}(h:Ea K E X A ρ λbs=>∃ (a:TV) (xs:List α) (e:α->ak),bs=[a]/\a.data=.list (xs.map e)/\(∃ c,a=.av c)/\∃ f:Nat->Sl->Prop,f 0 ρ/\(∀ i B (hi:i<xs.length),f i B->Gv K g (.tuple [.int i,e xs[i]]) B λb=>Sv K E X tb b ⟨f (i+1),rt,nx,f (i+1)⟩)/\∀ B,f xs.length B->nx B):Sv K E X (Vr (Rp K A) g tb) ρ ⟨nx,rt,bk,ct⟩ :=
 TW (IH λI Z ts as H W s x k=>h I Z ts as H W s x λbs ⟨a,xs,e,eb,ha,⟨c,hc⟩,f,i0,turn,fin⟩=>k bs ⟨a,xs.map e,eb,ha,by subst hc;exact NR.av,⟨c.data,by rw[hc];rfl⟩,f,i0,λi B hi w=>by
  rw[aC] at hi
  show Gv K g (.tuple [.int i,(xs.map e).getD i .none]) B _
  rw[OA hi]
  exact turn i B hi w,λB w=>fin B (by rw[aC] at w;exact w)⟩)
end
variable{l:List α}{loose:List au}{YP:bK->bG->Prop}{XP:(au->Option af)->bG->Prop}
section
open PySem.Calls PySem.W
theorem II{l:gi}{q:bg}{d:DefRec}
  (hn:l.most=aa n) (B:d.params.defaults=[])
  (call:∀ (w:bK) (s₀ s₁:aq) (mg mb:au->Option af) (N:ah) (o:dE) (pm cd doc:af) (a:ah) (vs:List af) (ns:List Int),
   Ground q loose [] XP w s₀ mg mb s₁.heap->YP w s₁.heap ->
   s₁.heap.get? N=aa o->o.data=.func (docDef d.name d.params d.body d.scope pm cd doc)->s₁.heap.CodeRec cd d.name->mg d.name=aa (.ref N) ->
   s₁.heap.get? a=aa { cls:=.type "list",data:=.seq vs.toArray }->ii vs ns->ns.length<=n->s₁.gens=#[]->(∀ x∈ns,cZ x<=2 ^ 20) ->
   eh (aI l.prog w) gY (.call (.ref N) ⟨[.ref a],[]⟩) (λr s'=>r=.ok (.ret (.bool ac))/\OldK s₁.heap s'.heap/\s'.os=s₁.os/\e6 s'.gens) s₁) :
  iR q loose XP YP l.row.toRowW d [] (λf vs=>fP f vs):=by
 intro w s₀ s₁ mg mb G Y N o pm cd doc u kV P hd y O t M args e as c h k j p
 obtain rfl:u=.none:=Dflts.none O B
 obtain rfl:kV=.none:=Dflts.noKw O
 obtain⟨a,vs,ns,rfl,rfl,b,m,i⟩:=Att.Ki hn c j
 refine enter_call (cX (call w s₀ s₁ mg mb N o pm cd doc a vs ns G Y P (fd_plain hd) y t b m i M ?_) λr s' g=>?_)
 ·intro x W
  have U:=(layW_cons h).1
  have R:=layableW_item U (.int x) (mem_map.mpr ⟨x,W,rfl⟩)
  exact ak.bits_of_layable (ak.layable0_of (λ_=>rfl) (layable_int R))
 obtain⟨rfl,R,S,F⟩:=g
 exact⟨.inl ⟨.bool ac,.bool ac,[],rfl,λ_=>rfl,.bool ac,Att.Kj l _,λ_=>⟨List.Pairwise.nil,λ_ K=>(nomatch K)⟩⟩,R,S,F⟩
end
section
open Classical
noncomputable def lend(C:ah->Prop)(h:bG)(H:Hp):Hp:=λb=>if C b then (h.get? b).map (λo=>HO.frz o (.own b)) else H b
noncomputable def unl(C:ah->Prop)(H:Hp):Hp:=λb=>if C b then none else H b
noncomputable def rel(C:ah->Prop)(H H':Hp):Hp:=λb=>if C b then H b else H' b
structure LendOk(C:ah->Prop)(h:bG)(H:Hp):Prop where
 no:∀ b,C b->H b=none
 obj:∀ b,C b->∃ o,h.get? b=aa o
section
variable{C:ah->Prop}{fs ex:List ah}
theorem Wg(hb:¬ C b):lend C h H b=H b:=if_neg hb
theorem T5(L:LendOk C h H)(hb:C b):∃ o,h.get? b=aa o/\lend C h H b=aa (.frz o (.own b)):=by
 obtain⟨o,e⟩:=L.obj b hb
 exact⟨o,e,by unfold lend;rw[if_pos hb,e];rfl⟩
theorem W9(L:LendOk C h H)(e:H b=aa o):lend C h H b=aa o:=by
 have G:¬ C b:=λz=>by rw[L.no b z] at e;cases e
 rw[Wg G];exact e
theorem IJ(L:LendOk C h H):Zg H (lend C h H):=λb o e=>W9 L e
theorem IK(L:LendOk C h H)(ok:HOk P w H h):HOk P w (lend C h H) h:=λa o e=>by
 by_cases l:C a
 ·obtain⟨g,T,M⟩:=T5 L l
  rw[M] at e
  cases e
  exact⟨T,g,T⟩
 ·rw[Wg l] at e
  exact (ok a o e).stay (λ_ _ _ q=>q) (λ_ q=>W9 L q) (λ_ _ q=>W9 L q) λ_ _ q=>W9 L q
theorem Yk(hb:¬ C b):unl C H b=H b:=if_neg hb
theorem Va(hb:C b):unl C H b=none:=if_pos hb
theorem Uz(L:LendOk C h H)(un:Un fs ex (lend C h H) H' h h')(hb:C b):∃ o,h.get? b=aa o/\H' b=aa (.frz o (.own b)):=by
 obtain⟨o,T,M⟩:=T5 L hb
 exact⟨o,T,un.frzs b o _ M⟩
theorem O1(L:LendOk C h H)(un:Un fs ex (lend C h H) H' h h')(hok:HOk P w H' h')(i:∀ b,C b->b∉fs):Un fs ex H (unl C H') h h' where
 keep:=λb o e n G W=>by
  by_cases Y:C b
  ·obtain⟨U,T,M⟩:=Uz L un Y
   rw[e] at T;cases T
   exact (hok b _ M).1
  ·exact un.keep b o e (by rw[Wg Y];exact n) G W
 slot:=λb o e n G W=>un.slot b o e (by rw[Wg λY=>i b Y G];exact n) G W
 free:=λb o e n W=>by
  by_cases Y:C b
  ·exact Va Y
  ·rw[Yk Y]
   exact un.free b o e (by rw[Wg Y];exact n) W
 there:=un.there
 tups:=λb xs e=>by
  have Y:¬ C b:=λz=>by rw[L.no b z] at e;cases e
  rw[Yk Y]
  exact un.tups b xs (W9 L e)
 frzs:=λb o u e=>by
  have Y:¬ C b:=λz=>by rw[L.no b z] at e;cases e
  rw[Yk Y]
  exact un.frzs b o u (W9 L e)
 tbls:=λb ps e=>by
  have Y:¬ C b:=λz=>by rw[L.no b z] at e;cases e
  rw[Yk Y]
  exact un.tbls b ps (W9 L e)
theorem IL(L:LendOk C h H)(un:Un fs ex (lend C h H) H' h h')(hok:HOk P w H' h'):HOk P w (unl C H') h':=λa o e=>by
 have l:¬ C a:=λz=>by rw[Va z] at e;cases e
 rw[Yk l] at e
 have f:∀ {b:ah} {u:HO},H' b=aa u->(∀ o,u≠.frz o (.own b))->unl C H' b=aa u:=λ{b u} q n=>by
  have Y:¬ C b:=λz=>by
   obtain⟨U,_,M⟩:=Uz L un z
   rw[q] at M
   cases M
   exact n _ rfl
  rw[Yk Y];exact q
 refine (hok a o e).stay (λ_ _ _ q=>q) (λb q=>f q λo z=>by cases z) (λb xs q=>f q λo z=>by cases z) λb g q=>?_
 have Y:¬ C b:=λz=>by
  obtain⟨U,_,M⟩:=Uz L un z
  rw[q] at M
  cases M
  exact l z
 rw[Yk Y];exact q
theorem T6(hb:C b):rel C H H' b=H b:=if_pos hb
theorem WM(hb:¬ C b):rel C H H' b=H' b:=if_neg hb
theorem T7(R:∀ b,C b->∃ o,H b=aa (.frz o (.own b)))(e:H b=aa o)(n:∀ ob,o≠.frz ob (.own b)):unl C H b=aa o:=by
 have Y:¬ C b:=λz=>by obtain⟨U,M⟩:=R b z;rw[e] at M;cases M;exact n _ rfl
 rw[Yk Y];exact e
theorem O2(R:∀ b,C b->∃ o,H b=aa (.frz o (.own b)))(hok:HOk P w H h):HOk P w (unl C H) h:=λa o e=>by
 have l:¬ C a:=λz=>by rw[Va z] at e;cases e
 rw[Yk l] at e
 refine (hok a o e).stay (λ_ _ _ q=>q) (λb q=>T7 R q λo z=>by cases z) (λb xs q=>T7 R q λo z=>by cases z) λb g q=>?_
 have Y:¬ C b:=λz=>by
  obtain⟨U,M⟩:=R b z
  rw[q] at M
  cases M
  exact l z
 rw[Yk Y];exact q
theorem IM(R:∀ b,C b->∃ o,H b=aa (.frz o (.own b)))(c:HOk P w H h)(un:Un fs ex (unl C H) H' h h')(i:∀ b,C b->b∉fs/\b∉ex):Un fs ex H (rel C H H') h h' where
 keep:=λb o e n G W=>by
  have Y:¬ C b:=λz=>by obtain⟨U,M⟩:=R b z;rw[n] at M;cases M
  exact un.keep b o e (by rw[Yk Y];exact n) G W
 slot:=λb o e n G W=>un.slot b o e (by rw[Yk λY=>(i b Y).1 G];exact n) G W
 free:=λb o e n W=>by
  have Y:¬ C b:=λz=>by obtain⟨U,M⟩:=R b z;rw[n] at M;cases M
  rw[WM Y]
  exact un.free b o e (by rw[Yk Y];exact n) W
 there:=un.there
 tups:=λb xs e=>by
  by_cases Y:C b
  ·rw[T6 Y];exact e
  ·rw[WM Y];exact un.tups b xs (by rw[Yk Y];exact e)
 frzs:=λb o u e=>by
  by_cases Y:C b
  ·rw[T6 Y];exact e
  ·rw[WM Y];exact un.frzs b o u (by rw[Yk Y];exact e)
 tbls:=λb ps e=>by
  have Y:¬ C b:=λz=>by obtain⟨U,M⟩:=R b z;rw[e] at M;cases M
  rw[WM Y];exact un.tbls b ps (by rw[Yk Y];exact e)
theorem O3(R:∀ b,C b->∃ o,H b=aa (.frz o (.own b)))(c:HOk P w H h)(un:Un fs ex (unl C H) H' h h')(i:∀ b,C b->b∉fs/\b∉ex)(hb:C b):H' b=none:=by
 obtain⟨o,e⟩:=R b hb
 exact un.free b o (c b _ e).1 (Va hb) (i b hb).2
theorem IN(R:∀ b,C b->∃ o,H b=aa (.frz o (.own b)))(c:HOk P w H h)(un:Un fs ex (unl C H) H' h h')(i:∀ b,C b->b∉fs/\b∉ex)(hok:HOk P w H' h'):HOk P w (rel C H H') h':=λa o e=>by
 by_cases l:C a
 ·rw[T6 l] at e
  obtain⟨g,M⟩:=R a l
  rw[M] at e
  cases e
  have:=un.keep a g (c a _ M).1 (Va l) (i a l).1 (i a l).2
  exact⟨this,g,this⟩
 ·rw[WM l] at e
  have f:∀ {b:ah} {u:HO},H' b=aa u->rel C H H' b=aa u:=λ{b u} q=>by
   have Y:¬ C b:=λz=>by rw[O3 R c un i z] at q;cases q
   rw[WM Y];exact q
  exact (hok a o e).stay (λ_ _ _ q=>q) (λb q=>f q) (λb xs q=>f q) λb g q=>f q
end
structure CloOk(P:bg)(w:bK)(K:ay)(mg:au->Option af)(base:bG)(CX:CXT)(k:Nat)(sp:Sp)(v:V)(G:Hp):Prop where
 at':∃ f fo fd,v=.ref f/\G f=aa (.frz fo (.own f))/\fo.data=.func fd
 run:∀ f,v=.ref f->∀ (A:bv) (outer:List eF) (s:aq) (H:Hp) (us:List af) (vs:List V) (Q:VK) (E:XK),Room k A->Env0 P w K mg base A outer s H->Zg G H->Zi vs us->sp vs H Q E ->
  eh (aI P w) A (.call (.ref f) ⟨us,[]⟩) (CR CX outer P w H s Q E) s
theorem CloOk.same(c:CloOk P w K mg base CX k sp v G)(m:Zg G G'):CloOk P w K mg base CX k sp v G' :=
 ⟨(by obtain⟨f,fo,a,e,h,d⟩:=c.at';exact ⟨f,fo,a,e,m _ _ h,d⟩),λf e A I s H us vs Q E J Z j=>c.run f e A I s H us vs Q E J Z (m.trans j)⟩
theorem CloOk.mono{P:bg}{w:bK}{K:ay}{mg:au->Option af}{base:bG}{CX:CXT}{j k:Nat}{sp:Sp}{v:V}{G:Hp}(c:CloOk P w K mg base CX j sp v G)(h:j<=k):CloOk P w K mg base CX k sp v G :=
 ⟨c.at',λf e A I s H us vs Q E J=>c.run f e A I s H us vs Q E (J.mono h)⟩
section
variable{X:Cx}{E:XK}{p:jJ}
theorem IO{Q:VK}(c:CloOk X.prog X.w X.K X.mg X.base CX k sp (.ref f) H)(J:Room k X.A)(W:Xv CX X E)
  (I:Inv X ge σ H s) (r:Zi vs us) (h:sp vs H Q E):aG (aI X.prog X.w) X.A (call (.ref f) us) (EP X ge σ Q) X.xe s:=by
 refine dn (cX (c.run f rfl X.A X.stack s H us vs Q E J I.env0 (.refl H) r h) λr l g=>?_)
 cases r with
 | error e=>exact W ge σ H s e l I g
 | ok i =>
  cases i with
  | ret u=>exact I.after g
  | next=>exact bq g
  | brk=>exact bq g
  | cont=>exact bq g
def O4(P:bg)(w:bK)(K:ay)(mg:au->Option af)(base:bG)(CX:CXT)(k:Nat)(i:Nat)(E:XK)(t:TA):TE:=λσ H Q =>
 ∃ v sp,σ[i]?=aa (aa v)/\CloOk P w K mg base CX k sp v H/\t σ H λvs H1=>CloOk P w K mg base CX k sp v H1/\sp vs H1 Q E
theorem O5(I:Inv X ge σ H s)(h:H f=aa (.frz fo (.own f)))(d:fo.data=.func fd):PySem.W.FnAt f s.heap:=by
 have e:=(I.hok f _ h).1
 obtain⟨c,od,r,p⟩:=fo
 cases (show r=_ from d)
 exact⟨c,od,fd,p,e⟩
theorem IP(J:Room k X.A)(W:Xv CX X E)(ha:PA X (e::es) t)(hN:X.N[i]?=aa x:=by rfl)(S:Vis X.env.scope x:=by first|exact aK rfl|exact eG (aK rfl)|exact eG (eG rfl))
  (hd:(x == ("__debug__" : au))=false:=by decide) (y:(x == ("__classdict__" : au))=false:=by decide)
  (j:aB (e::es) X.env=(aw,cg e X.env)::aB es X.env:=by rfl) (g:(bZ pos (aB es X.env)).any (·.1)=false:=by rfl) :
  PE X (.Call (.Name x p) (e::es) [] pos) (O4 X.prog X.w X.K X.mg X.base CX k i E t):=by
 intro O s Z H Q I ⟨v,sp,hσ,c,h⟩
 refine bT (thn (SZ (pos:=p) hN S hd y O s Z H (λR H'=>R=v/\H'=H) I ⟨v,hσ,rfl,rfl⟩) ?_)
 rintro u s0 ⟨R,H',I0,r0,ev,eH⟩
 subst ev eH
 obtain⟨f,fo,a,T,M,z⟩:=c.at'
 subst T
 obtain rfl:u=aD f:=r0
 refine PySem.W.callWith_F (O5 I0 M z) (thn (ha pos O s0 Z H' _ I0 h) ?_) j g
 rintro us s1 ⟨vs,H1,I1,r,c1,q⟩
 obtain⟨n,l,m,b,o,w⟩:=c1.at'
 cases b
 exact⟨O5 I1 o w,IO c1 J W I1 r q⟩
end
def Own(X:Cx)(b:ah):Prop:=∃ x,X.fn x=ac/\X.env.cells.lookup x=aa b
structure Lent(X:Cx)(σ:St)(H H2:Hp):Prop where
 same:Zg H H2
 cell:∀ (i:Nat) (x:au) (c:ah) (v:V),X.N[i]?=aa x->X.fn x=ac->X.env.scope.names.lookup x=aa .cell->X.env.cells.lookup x=aa c->σ[i]?=aa (aa v)->∃ o u,H2 c=aa (.frz o (.own c))/\o.data=.cell (aa u)/\Zp v u
 out:∀ b,¬ Own X b->H2 b=H b
 own:∀ b,Own X b->H b=none/\∃ o v,H2 b=aa (.frz o (.own b))/\o.data=.cell v
section
variable{X:Cx}
theorem Inv.lendOk(I:Inv X ge σ H s):LendOk (Own X) s.heap H :=
 ⟨(by rintro b ⟨x,_,e⟩;exact I.freeC x b e),(by rintro b ⟨x,_,e⟩;exact (by obtain⟨_,o,h,_⟩:=I.cell x b e;exact ⟨o,h⟩))⟩
theorem Inv.own_low(I:Inv X ge σ H s)(h:Own X b):X.s₀.heap.objs.size<=b:=by obtain⟨x,F,e⟩:=h;exact I.ok.cab x b F e
theorem Inv.own_fs(I:Inv X ge σ H s)(h:Own X b):b∉frs X.stack:=λG=>by
 rcases eR.mp (I.stkSub b G) with e|G
 ·obtain⟨x,_,q⟩:=h
  exact I.cne x b q e
 ·obtain⟨_,o,P,_⟩:=I.ok.funs.mem G
  exact absurd (aE (aA P) (I.own_low h)) (bX _)
theorem Inv.env0L(I:Inv X ge σ H s):Env0 X.prog X.w X.K X.mg X.base X.A X.stack s (lend (Own X) s.heap H):=by
 have e:=I.env0
 refine⟨e.frames,e.mod,λb o q=>⟨(e.bs b o q).1,?_⟩,e.bsz,e.funs,λb G=>?_,IK I.lendOk e.hok,e.bare⟩
 ·rw[Wg]
  ·exact (e.bs b o q).2
  ·intro h
   exact absurd (aE (aA q) (aT I.ok.bsz (I.own_low h))) (bX _)
 ·rw[Wg λh=>I.own_fs h G]
  exact e.frf b G
theorem Inv.lent(I:Inv X ge σ H s):Lent X σ H (lend (Own X) s.heap H):=by
 refine⟨IJ I.lendOk,λi x c v hN F N Y n=>?_,λb h=>Wg h,λb h=>⟨I.lendOk.no b h,?_⟩⟩
 ·obtain⟨m,f,L⟩:=I.loc
  obtain⟨u,r,l⟩:=L i x v hN n (.inr (.inl N))
  obtain⟨o,T,M⟩:=T5 I.lendOk (b:=c) ⟨x,F,Y⟩
  rcases l with⟨L,_⟩|⟨_,J,Z,g,t,O⟩
  ·have L:X.env.scope.names.lookup x=aa .local:=L
   rw[N] at L
   cases L
  ·rw[Y] at Z
   cases Z
   rw[T] at t
   cases t
   exact⟨o,u,M,O,r⟩
 ·obtain⟨o,T,M⟩:=T5 I.lendOk h
  obtain⟨x,_,Y⟩:=h
  obtain⟨v,g,t,O⟩:=I.cell x b Y
  rw[T] at t
  cases t
  exact⟨o,v,M,O⟩
end
end
theorem IQ{a b:Nat}{c:af}(l:List af)(h:i4 l)(Y:d5 pos (l++[e9 a,e9 b,c])=aa cv):d5 pos l=aa cv\/(pos.line=a/\pos.col=b/\cv=c):=by
 fun_induction i4 l with
 | case1 =>
  simp only[gJ,e9,d5] at Y
  split at Y
  ·rename_i hq
   simp only[aJ,beq_iff_eq] at hq
   exact .inr ⟨by omega,by omega,(bh Y).symm⟩
  ·cases Y
 | case2 j t g u x W B =>
  simp only[List.cons_append,d5] at Y ⊢
  split at Y
  ·rename_i hq;rw[if_pos hq];exact .inl Y
  ·rename_i hq;rw[if_neg hq];exact B h Y
 | case3 l U R=>exact h.elim
theorem IR(h:H c=aa o):upd H c o=H:=by
 funext b
 by_cases e:b=c
 ·rw[e,Zw,h]
 ·rw[Zd e]
structure Clos(X:Cx)(scope:dG)(cl:List (au×ah)):Prop where
 le:∀ x c,cl.lookup x=aa c->X.env.cells.lookup x=aa c
 has:∀ x,(x,cD)∈scope.names->∃ c,cl.lookup x=aa c
 inj:∀ x y c,cl.lookup x=aa c->cl.lookup y=aa c->x=y
variable{co:dE}
section
variable{X:Cx}
theorem Inv.fnMade{P:ah}{ps:Array af}(I:Inv X ge σ H s)(Q:H P=aa (.tbq q))(S:s.heap.get? P=aa (fB ps))(ht:i4 ps.toList)
  (k:∀ pos cv,d5 pos ps.toList=aa cv->∃ c o,cv=.ref c/\H c=aa (.frz o (.own P))/\V7 o (q pos.line pos.col))
  (W:bG.ExtBut P s.heap h') (m:s.heap.objs.size<=c) (j:c<h'.objs.size) (l:h'.get? c=aa co) (g:V7 co (q pos.line pos.col)) (K:h'.get? P=aa (fB (ps++#[e9 pos.line,e9 pos.col,.ref c]))) (O:fo.isFreed=aw) :
  Inv X ge σ (upd (upd H c (.frz co (.own P))) h'.objs.size (.frz fo (.own h'.objs.size))) { s with heap:=h'.push fo,toks:=t' }:=by
 have p:H c=none:=I.hok.fresh m
 have i:s.heap.objs.size<=h'.objs.size:=aT m (cc j)
 have v:H h'.objs.size=none:=I.hok.fresh i
 have N:c≠P:=λz=>by rw[z,Q] at p;cases p
 have E:h'.objs.size≠P:=λz=>by rw[z,Q] at v;cases v
 have t:c≠h'.objs.size:=aQ j
 have h:∀ {b:ah} {u:HO},H b=aa u->upd (upd H c (.frz co (.own P))) h'.objs.size (.frz fo (.own h'.objs.size)) b=aa u:=λ{b u} e=>by
  rw[Zd (Yw e v),Zd (Yw e p)];exact e
 have F:∀ b o,b≠P->s.heap.get? b=aa o->(h'.push fo).get? b=aa o:=λb o G e=>ai _ (W b o G e)
 have C:∀ {b:ah},H b=none->b≠P:=λ{b} n z=>by rw[z,Q] at n;cases n
 refine I.un ⟨λb u q n _ _=>F b u (C n) q,λb u q n _ _=>⟨u.slots,F b u (C n) q⟩,λb u q n _=>?_,λb u q _=>?_,λb xs q=>h q,λb u xs q=>h q,λb ps q=>⟨#[],by simpa using h q⟩⟩ λa u e=>?_
 ·have G:=aA q
  rw[Zd (aQ (aE G i)),Zd (aQ (aE G m))]
  exact n
 ·by_cases G:b=P
  ·subst G
   exact⟨_,ai _ K⟩
  ·exact⟨u,F b u G q⟩
 ·by_cases w:a=h'.objs.size
  ·subst w
   rw[Zw] at e
   cases e
   exact⟨aN _ O,fo,aN _ O⟩
  ·rw[Zd w] at e
   by_cases y:a=c
   ·subst y
    rw[Zw] at e
    cases e
    exact⟨ai _ l,co,ai _ l⟩
   ·rw[Zd y] at e
    by_cases A:a=P
    ·subst A
     rw[Q] at e
     cases e
     refine⟨_,ai _ K,?_,λf cv z=>?_⟩
     ·have:=TriplesOk_snoc pos.line pos.col (.ref c) ps.toList ht
      simpa using this
     ·have x:d5 f (ps.toList++[e9 pos.line,e9 pos.col,.ref c])=aa cv:=by simpa using z
      rcases IQ ps.toList ht x with z|⟨e1,e2,e3⟩
      ·obtain⟨J,U,L,R,M⟩:=k f cv z
       exact⟨J,U,L,h R,M⟩
      ·refine⟨c,co,e3,?_,?_⟩
       ·rw[Zd t,Zw]
       ·rw[e1,e2];exact g
    ·refine (I.hok a u e).stay (λb B G z=>F b B ?_ z) (λb z=>h z) (λb xs z=>h z) λb o z=>h z
     rcases G with r|r
     ·rw[r];exact A
     ·exact λz=>by rw[z,Q] at r;cases r
end
def Wh(qual:au)(scope:dG)(cl:List (au×ah))(L f:ah)(cd:af):Env :=
 { scope:=scope,locals:=L,globals:=aj,cells:=bC (L+1) scope.names cl,qual:=qual ++ ".<locals>.",func:=aa f,code:=cd,frame:=aa L,builtins:=fA }
theorem IS{A:bv}{cl:List (au×ah)}{b:List (au×af)}{Q:eF->aq->Prop}
  (h:aG M A (kb b g0 λ(x:au×af) _=>do iX (Wh qual scope cl s.heap.objs.size f cd) x.1 x.2;dZ (dk g0)) (λ_ s'=>Q (Wh qual scope cl s.heap.objs.size f cd) s') E
   { s with heap:=cI (s.heap.push { cls:=.type "frame",data:=.dict #[] }) scope.names }) :
  aG M A (gg scope aj cl b (qual ++ ".<locals>.") (aa f) cd none fA) Q E s:=by
 simp only[gg,Option.isSome_none,bF,if_false]
 refine ae (jz ?_)
 refine ae (wpAny_layCells _ (λname kind cells=>by cases hkc:kind == cQ<;>simp[hkc]) _ _ _ _ ?_)
 rw[show ({ s with heap:=s.heap.push { cls:=.type "frame",data:=.dict #[] } }:aq).heap.objs.size=s.heap.objs.size+1 from cu ..]
 exact ae (thn h λ_ s' q=>am q)
def cxF(CX:CXT)(P:bg)(w:bK)(K:ay)(mg:au->Option af)(base:bG)(N:List au)(qual:au)(scope:dG)(cl:List (au×ah))(f:ah)(cd:af)(A:bv)(outer:List eF)(s:aq)(H:Hp)(E:XK):Cx where
 prog:=P
 w:=w
 K:=K
 mg:=mg
 base:=base
 A:=A.deeper (Wh qual scope cl s.heap.objs.size f cd)
 N:=N
 s₀:=s
 H₀:=H
 env:=Wh qual scope cl s.heap.objs.size f cd
 outer:=outer
 stack:=Wh qual scope cl s.heap.objs.size f cd::outer
 ex:=[]
 calm:=ac
 fn:=λx=>scope.names.lookup x == aa .cell
 pn:=[]
 xe:=λe s'=>aG (aI P w) (A.deeper (Wh qual scope cl s.heap.objs.size f cd)) (j1 (Wh qual scope cl s.heap.objs.size f cd) e) (λ_ s''=>CX outer H s E e s'') (λe' s''=>CX outer H s E e' s'') s'
structure FnScopeF(N ps:List au)(sc:dG):Prop where
 kind:sc.kind=.function
 co:sc.isCoroutine=aw
 gen:sc.isGenerator=aw
 nd:N.Nodup
 pre:N.take ps.length=ps
 par:∀ x∈ps,sc.names.lookup x=aa .local\/sc.names.lookup x=aa .cell
def O6(N:List au)(scope:dG)(cl:List (au×ah))(h:bG)(σ:St):Prop :=
 σ.length=N.length/\∀ (i:Nat) (x:au) (v:V),N[i]?=aa x->σ[i]?=aa (aa v)->scope.names.lookup x=aa .free/\(∀ y∈scope.names,y.1=x->y.2≠.cell)/\∃ c o u,cl.lookup x=aa c/\h.get? c=aa o/\o.data=.cell (aa u)/\Zp v u
variable{E:FK}
section
variable{cl:List (au×ah)}{A:bv}{E:XK}
theorem IT(S:FnScopeF N ps scope)(hd:A.handled=none)(Z:Env0 P w K mg base A outer s H)(a:∀ x,(x,cD)∈scope.names->∃ c,cl.lookup x=aa c)(C:∀ x y c,cl.lookup x=aa c->cl.lookup y=aa c->x=y)
  (j:∀ x c,cl.lookup x=aa c->H c=none/\∃ v,s.heap.IsCell c v) (F:O6 N scope cl s.heap σ) :
  Inv (cxF CX P w K mg base N qual scope cl f cd A outer s H E) [] σ H { s with heap:=cI (s.heap.push { cls:=.type "frame",data:=.dict #[] }) scope.names }:=by
 have T:(s.heap.push { cls:=.type "frame",data:=.dict #[] }).objs.size=s.heap.objs.size+1:=cu ..
 have k1:∀ b o,s.heap.get? b=aa o->(cI (s.heap.push { cls:=.type "frame",data:=.dict #[] }) scope.names).get? b=aa o :=
  λb o e=>dB _ _ b o (ai _ e)
 have m:(cI (s.heap.push { cls:=.type "frame",data:=.dict #[] }) scope.names).Ns s.heap.objs.size λ_=>none :=
  (jK s.heap (.type "frame")).keeps (dB scope.names _)
 have n:∀ x c,cl.lookup x=aa c->c<s.heap.objs.size:=λx c e=>by
  obtain⟨_,v,q⟩:=j x c e
  exact q.lt
 have cells:∀ x c,(bC (s.heap.objs.size+1) scope.names cl).lookup x=aa c->s.heap.objs.size+1<=c\/cl.lookup x=aa c:=λx c e=>TB x _ _ _ c e
 have I:∀ b:ah,b∉(cxF CX P w K mg base N qual scope cl f cd A outer s H E).ex:=λb z=>absurd (show b∈([]:List ah) from z) (by simp)
 refine⟨⟨Z.mod,S.kind,rfl,rfl,ar _,?_,?_,?_,λ_=>hd,ih Z.frames,.inr ⟨rfl,rfl⟩,λb z=>absurd z (I b),Z.bs,Z.bsz,λb _ _=>I b,λb z=>absurd z (I b),Z.funs,Z.frf⟩,
  rfl,Z.bare,Un.kept k1,?_,?_,Z.hok.fresh (ar _),?_,λp O=>absurd (show p∈([]:List (ah×dE)) from O) (by simp),Z.hok.kept k1,F.1⟩
 ·exact Ts scope.names _ cl C λx c h=>bM (n x c h)
 ·intro x W
  have W:scope.names.lookup x=aa .cell\/scope.names.lookup x=aa .free:=W
  refine Option.isSome_iff_exists.mp (cN scope.names _ cl ?_)
  rcases W with h|h
  ·exact .inl h
  ·exact .inr (Option.isSome_iff_exists.mpr (a x (bA h)))
 ·intro x c W Y
  have W:scope.names.lookup x=aa .cell:=by simpa [cxF] using W
  have:=Tt x (s.heap.objs.size+1) scope.names (s.heap.objs.size+1) cl (ar _) (.inl (bA W)) c Y
  exact aT (cR _) this
 ·refine⟨_,m,λi x v U R G=>?_⟩
  obtain⟨t,k,c,o,u,g,Q,l,r⟩:=F.2 i x v U R
  refine⟨u,r,.inr ⟨.inr t,c,?_,o,k1 c o Q,l⟩⟩
  show (bC (s.heap.objs.size+1) scope.names cl).lookup x=aa c
  rw[Tu _ _ _ k]
  exact g
 ·intro x c e
  have e:(bC (s.heap.objs.size+1) scope.names cl).lookup x=aa c:=e
  rw[<- T] at e
  exact TC scope.names _ cl (λy d B=>by
   obtain⟨_,v,q⟩:=j y d B
   exact⟨v,q.keeps λb o z=>ai _ z⟩) x c e
 ·intro x c e
  rcases cells x c e with q|q
  ·exact Z.hok.fresh (aT (cR _) q)
  ·exact (j x c q).1
noncomputable def setAll:Nat->List V->St->St
 | _,[],σ=>σ
 | j,v::vs,σ=>setAll (j+1) vs (σ.set j (aa v))
theorem O7{X:Cx}{M:Model}{A:bv}{E:af->aq->Prop}(hN:X.N.Nodup):∀ (ps:List au) (us:List af) (vs:List V) (j:Nat) (σ:St) (H:Hp) (s:aq) (Q:PUnit->aq->Prop),Zi vs us->ps.length=us.length ->
  (∀ i x,ps[i]?=aa x->X.N[j+i]?=aa x/\Loc X.env.scope x/\(X.fn x=ac\/X.env.scope.names.lookup x=aa .local))->Inv X [] σ H s->(∀ s',Inv X [] (setAll j vs σ) H s'->Q ⟨⟩ s') ->
  aG M A (kb (ps.zip us) g0 λ(x:au×af) _=>do iX X.env x.1 x.2;dZ (dk g0)) Q E s
 | [],us,vs,j,σ,H,s,Q,r,hl,hp,I,h=>by
  cases us with
  | nil =>
   cases r
   rw[List.zip_nil_left,forIn_nil]
   exact am (h s I)
  | cons _ _=>simp at hl
 | x::ps,us,vs,j,σ,H,s,Q,r,hl,hp,I,h=>by
  cases r with
  | nil=>simp at hl
  | cons r rs =>
   rw[cj,gO]
   obtain⟨U,R,S⟩:=hp 0 x rfl
   refine ae (ae (Pf I hN U R r (λs' m _=>am ?_) S))
   exact O7 hN ps _ _ (j+1) _ H s' Q rs (by simpa using hl) (λi y B=>by
    have:=hp (i+1) y (by simpa using B)
    rwa [show j+(i+1)=j+1+i by omega] at this) m h
def Yu(cl:List (au×ah))(b:ah):Prop:=∃ x,cl.lookup x=aa b
end
noncomputable def VO:Nat->List AV->Sl->Sl
 | _,[],ρ=>ρ
 | j,c::cs,ρ=>VO (j+1) cs (ρ.set j (aa c))
theorem RSl.set0:∀ {σ:L2.St} {ρ:Sl} {p:Fp} {j:Nat} {v:V} {a:AV},RSl K G H σ ρ p->(∀ b,p b=0)->RA K G H v a Z0->j<ρ.length->RSl K G H (σ.set j (aa v)) (ρ.set j (aa a)) Z0
 | _,_,_,_,_,_,.nil _,_,_,hj=>by simp at hj
 | _,_,_,0,_,_,.no rs,z,ra,_=>.so ra rs λb=>by simp[Z0,z b]
 | _,_,_,j+1,_,_,.no rs,z,ra,hj=>.no (RSl.set0 rs z ra (by simpa using hj))
 | _,_,_,0,_,_,.so (q:=q) r rs e,z,ra,_=>.so ra rs λb=>by have:=e b;have:=z b;simp only[Z0];omega
 | _,_,_,j+1,_,_,.so (p:=p) (q:=q) r rs e,z,ra,hj=>.so r (RSl.set0 rs (λb=>by have:=e b;have:=z b;omega) ra (by simpa using hj)) λb=>by have:=e b;have:=z b;simp only[Z0];omega
theorem RSl.setAll:∀ {vs:List V} {cs:List AV} {j:Nat} {σ:L2.St} {ρ:Sl},RAs K G H vs cs Z0->j+vs.length<=ρ.length->RSl K G H σ ρ Z0->RSl K G H (L2.setAll j vs σ) (VO j cs ρ) Z0:=by
 intro vs
 induction vs with
 | nil =>
  intro cs j σ ρ r _ s
  cases r
  exact s
 | cons v vs B =>
  intro cs j σ ρ r L s
  cases r with
  | @cons _ c _ y a A _ r rs e =>
   have I:a=Z0:=by funext b;have:=e b;simp only[Z0] at this ⊢;omega
   have O:A=Z0:=by funext b;have:=e b;simp only[Z0] at this ⊢;omega
   subst I O
   simp only[aS] at L
   exact B rs (by rw[gN];omega) (RSl.set0 s (λ_=>rfl) r (by omega))
theorem SR.startF{σ:L2.St}(r:RAs K H H vs cs Z0)(L:vs.length<=ρ.length)(s:RSl K H H σ ρ Z0):SR K H (L2.setAll 0 vs σ) (VO 0 cs ρ) [] [] H:=by
 have f:L2.hid H (λ_=>0) (λ_=>0)=H:=by funext b;simp[L2.hid]
 refine⟨⟨Z0,λ_=>0,?_,.nil λ_=>rfl,λ_=>by simp[Z0],λb z=>by simp[Z0] at z⟩,.refl H⟩
 show RSl K (L2.hid H (λ_=>0) (λ_=>0)) H _ _ _
 rw[f]
 exact RSl.setAll r (by omega) s
mutual
noncomputable def AV.plain:AV->Bool
 | .d _=>ac
 | .own xs=>AV.plains xs
 | .tup xs=>AV.plains xs
 | .dic _=>ac
 | .obj _=>aw
noncomputable def AV.plains:List AV->Bool
 | []=>ac
 | x::xs=>x.plain && AV.plains xs
end
theorem Yh.low{o:HO}{kvs:List (ak×ak)}(h:Yh K G o kvs)(m:Low G G'):Yh K G' o kvs:=by
 rcases h with⟨c,ds,e,r,z⟩|⟨c,ds,e,r,z⟩|⟨c,ds,n,e,r,z⟩|⟨C,dx,fs,ds,e,n,r,z⟩
 ·exact .inl ⟨c,ds,e,Reps.low m r,z⟩
 ·exact .inr (.inl ⟨c,ds,e,Reps.low m r,z⟩)
 ·exact .inr (.inr (.inl ⟨c,ds,n,e,Reps.low m r,z⟩))
 ·exact .inr (.inr (.inr ⟨C,dx,fs,ds,e,n,Reps.low m r,z⟩))
theorem RA.lowB(n:Low G G'):(∀ {v:V} {a:AV} {p:Fp},RA K G H v a p->a.plain=ac->(∀ b o,0<p b->H b=aa o->H' b=aa o)->RA K G' H' v a p)/\∀ {vs:List V} {xs:List AV} {p:Fp},RAs K G H vs xs p->AV.plains xs=ac->(∀ b o,0<p b->H b=aa o->H' b=aa o)->RAs K G' H' vs xs p :=
 RA.ind (M:=λv a p=>a.plain=ac->(∀ b o,0<p b->H b=aa o->H' b=aa o)->RA K G' H' v a p) (N:=λvs xs p=>AV.plains xs=ac->(∀ b o,0<p b->H b=aa o->H' b=aa o)->RAs K G' H' vs xs p) (λr e _ _=>.d (Rep.low n r) e) (λ{a _ _ _ _} h i e O c=>.own (c a _ (by have:=e a;simp at this;omega) h) (i (by simpa [AV.plain] using O) λb o z=>c b o (by have:=e b;omega)) e)
  (λh i O c=>.tup (n _ _ h (by intro _ _ z;cases z)) (i (by simpa [AV.plain] using O) c)) (λ{a _ _ _} h d e _ c=>.dic (c a _ (by have:=e a;simp at this;omega) h) (d.low n) e) (λ_ _ _ O=>by simp[AV.plain] at O) (λe _ _=>.nil e) λi j e O c=>by
   simp only[AV.plains,aJ] at O
   exact .cons (i O.1 λb o z=>c b o (by have:=e b;omega)) (j O.2 λb o z=>c b o (by have:=e b;omega)) e
theorem RA.low(n:Low G G'){a:AV}(O:a.plain=ac)(c:∀ b o,0<p b->H b=aa o->H' b=aa o)(h:RA K G H v a p):RA K G' H' v a p:=(RA.lowB n).1 h O c
theorem RAs.low(n:Low G G')(O:AV.plains xs=ac)(c:∀ b o,0<p b->H b=aa o->H' b=aa o)(h:RAs K G H vs xs p):RAs K G' H' vs xs p:=(RA.lowB n).2 h O c
theorem RA.there{a:AV}(h:RA K G H v a p):∀ b,0<p b->∃ o,H b=aa o/\Mu o:=RA.lstB.1 h
theorem Rs.rel{C:ah->Prop}{v:V}{c:AV}(a:∀ b,C b->∃ o,H b=aa (.frz o (.own b)))(j:∀ b,C b->H' b=none)(r:Rs K (unl C H) H' v c):Rs K H (rel C H H') v c:=by
 obtain⟨u,p,U,R,I⟩:=r
 have h:∀ b o,H' b=aa o->L2.rel C H H' b=aa o:=λb o e=>by
  rw[WM λz=>by rw[j b z] at e;cases e];exact e
 refine⟨λb o e=>?_,p,U,λb z=>?_,I.mono (λb o e=>?_) λb o _ e=>h b o e⟩
 ·by_cases Y:C b
  ·rw[T6 Y];exact e
  ·rw[WM Y];exact u b o (by rw[Yk Y];exact e)
 ·obtain⟨o,e,_⟩:=I.there b z
  have Y:¬ C b:=λy=>by rw[j b y] at e;cases e
  have:=R b z
  rw[Yk Y] at this
  exact this
 ·unfold L2.hid at e ⊢
  split at e
  ·rename_i y;rw[if_pos y];exact h b o e
  ·cases e
def UA(K:ay):Sp:=λvs H Q _=>Xz H/\∃ (a:ah) (ns:List Int),vs=[.ref a]/\SqL K H a (ns.map V.int)/\ns.length<=63/\(∀ x∈ns,cZ x<=2 ^ 20)/\∀ H',Zg H H'->Q (.bl ac) H'
theorem IU(F:FunD K x qual st dV f fd)(i:FnScope N ps (Zb st))(b:ps.length=1)
  (hbody:∀ (cdv:af) (A:bv) (outer:List eF) (s:aq) (H:Hp) (E:XK),Room k (A.deeper (bQ qual (Zb st) s.heap.objs.size f cdv)) ->
   ∃ t,PSs (ZJ CX P w K mg base N qual (Zb st) f cdv A outer s H E).nox (Zy st) t/\∀ ns:List Int,ns.length<=63->(∀ x∈ns,cZ x<=2 ^ 20)->Sv K (toF E) NE t (ini N [dI ns]) (fin (.d (.bool ac)))) :
  FnOk P w K mg base CX (k+1) f fd ps (UA K):=by
 refine F.ok (k:=k) i (λvs H Q E h=>?_) λcdv A outer s H vs Q E J h=>?_
 ·obtain⟨_,a,ns,rfl,_⟩:=h
  exact b.symm
 ·obtain⟨O,a,ns,rfl,C,L,G,q⟩:=h
  obtain⟨t,U,R⟩:=hbody cdv A outer s H E J
  refine⟨t,U,JX (E:=E) (S:=λds c=>∃ ns:List Int,ds=[dI ns]/\(ns.length<=63/\∀ x∈ns,cZ x<=2 ^ 20)/\c=.d (.bool ac)) ⟨O,[dI ns],.cons (.ints C) .nil,.inl ⟨_,⟨ns,rfl,⟨L,G⟩,rfl⟩,λv H' r=>?_⟩⟩ λds c Y=>?_⟩
  ·obtain⟨u,p,_,_,I⟩:=r
   cases I with
   | d j _=>rw[Rep.bl_inv j];exact q _ u
  ·obtain⟨ns,rfl,⟨L,G⟩,rfl⟩:=Y
   exact R ns L G
variable{ts:List (ah×(Nat->Nat->au))}
section
open PySem.Calls PySem.W
noncomputable def H00(ts:List (ah×(Nat->Nat->au)))(sc:Option (ah×HO)):Hp:=λb=>match ts.lookup b with
 | some q=>aa (.tbq q)
 | none=>match sc with
  | some (a,o)=>if b=a then aa o else none
  | none=>none
theorem IV(nd:(ts.map bH).Nodup){p:ah×(Nat->Nat->au)}(h:p∈ts):ts.lookup p.1=aa p.2:=by
 induction ts with
 | nil=>cases h
 | cons q r B =>
  rw[bp,nodup_cons] at nd
  rw[show (q::r)=((q.1,q.2)::r) from rfl,bN]
  rcases eR.mp h with e|h
  ·subst e
   rw[beq_self_eq_true]
  ·have A:p.1≠q.1:=λz=>nd.1 (z▸iV h)
   rw[beq_false_of_ne A]
   exact B nd.2 h
theorem VP(h:ts.lookup b=aa q):(b,q)∈ts:=by
 induction ts with
 | nil=>cases h
 | cons p r B =>
  rw[show (p::r)=((p.1,p.2)::r) from rfl,bN] at h
  cases e:b == p.1 with
  | true =>
   rw[e] at h
   cases h
   rw[beq_iff_eq.mp e]
   exact .head _
  | false=>rw[e] at h;exact .tail _ (B h)
theorem IW{mb:au->Option af}{N a:ah}{s₁:aq}{vs:List af}{ns:List Int}
  (nd:(ts.map bH).Nodup) (X:K.In s₁.heap) (hns:s₁.heap.Ns aj mg) (hb:s₁.heap.Ns fA mb) (l:∀ x:au,x ≠ "__name__" -> mb x=du x) (hlim:s₁.heap.NoLimit) (M:s₁.gens=#[])
  (ha:s₁.heap.get? a=aa { cls:=.type "list",data:=.seq vs.toArray }) (hi:ii vs ns) (L:ns.length<=sizeLine) (J:Room k gY)
  (f:∀ p∈ts,s₁.heap.get? p.1=aa (fB #[])/\K.lookup p.1=none/\isCodeTable s₁.heap p.1) (hbm:s₁.heap.BuiltinsAt mg aj)
  (F:∀ base:bG,K.In base->base.Ns aj mg->base.BuiltinsAt mg aj->FnOk P w K mg base CX k N fd [x] sp) (hbind:∀ (s:aq) (u:af),fD s fd ⟨[u],[]⟩ [(x,u)])
  (hsp:∀ H:Hp,(∀ p∈ts,H p.1=aa (.tbq p.2))->SqL K H a (ns.map V.int)->sp [.ref a] H (λv H'=>v=.bl ac/\Zg H H') λ_ _ _=>False)
  (hCX:∀ H e s',CX [] H s₁ (λ_ _ _=>False) e s'->False) :
  eh (aI P w) gY (.call (.ref N) ⟨[.ref a],[]⟩) (λr s'=>r=.ok (.ret (.bool ac))/\OldK s₁.heap s'.heap/\s'.os=s₁.os/\e6 s'.gens) s₁:=by
 have rv:=PQ hi
 have lenV:=hi.length
 have Q:∀ H:Hp,(∀ p∈ts,H p.1=aa (.tbq p.2))->SqL K H a (ns.map V.int)->HOk P w H s₁.heap->(∀ b o,H b=aa o->(∃ p∈ts,b=p.1)\/(b=a/\∃ g u,o=.frz g u))->(∀ b o,H b=aa o->K.lookup b=none) ->
   eh (aI P w) gY (.call (.ref N) ⟨[.ref a],[]⟩) (λr s'=>r=.ok (.ret (.bool ac))/\OldK s₁.heap s'.heap/\s'.os=s₁.os/\e6 s'.gens) s₁:=by
  intro H c C j hA hK
  have I:∀ {b:ah} {o:dE},s₁.heap.get? b=aa o->(∀ vs n,o.data≠.seq vs n)->(∀ vs,o.data≠.fields vs)->H b=none:=λ{b o} e n1 n2=>by
   cases q:H b with
   | none=>rfl
   | some u =>
    rcases hA b u q with⟨p,O,rfl⟩|⟨rfl,_⟩
    ·rw[(f p O).1] at e
     cases e
     exact absurd rfl (n2 _)
    ·rw[ha] at e
     cases e
     exact absurd rfl (n1 _ _)
  have B:∀ {b:ah} {m:au->Option af},s₁.heap.Ns b m->(X8 s₁.heap H).Ns b m:=λ{b m} ⟨o,es,ep,e,d,r⟩ =>
   ⟨o,es,ep,SV e (I e (λ_ _ z=>by rw[d] at z;cases z) λ_ z=>by rw[d] at z;cases z),d,r⟩
  have hKb:K.In (X8 s₁.heap H):=λb o e=>SV (X b o e) (by
   cases q:H b with
   | none=>rfl
   | some u=>rw[hK b u q] at e;cases e)
  have hM:Mod K mg (X8 s₁.heap H):=⟨hKb,B hns,⟨mb,B hb,l⟩,(by obtain⟨mc,U,R⟩:=hlim;exact ⟨mc,B U,R⟩)⟩
  have W:(X8 s₁.heap H).BuiltinsAt mg mainGlobals:=by
   obtain⟨bm,o,b1,G,b3,b4,Y,b6,b7,b8⟩:=hbm
   exact⟨bm,o,b1,G,b3,b4,SV Y (I Y (λ_ _ z=>by rw[b8] at z;cases z) λ_ z=>by rw[b8] at z;cases z),b6,b7,b8⟩
  have Z:Env0 P w K mg (X8 s₁.heap H) gY [] s₁ H:=⟨rfl,hM,λb o e=>Lf e,Nat.le_of_eq (Le _ _),trivial,λb hb=>absurd (show b∈([]:List ah) from hb) (by simp),j,.of_eq M⟩
  refine cX ((F _ hKb (B hns) W).run gY [] s₁ H ⟨[.ref a],[]⟩ [.ref a] [.ref a] _ _ J Z (hbind s₁ (.ref a)) (.cons rfl .nil) (hsp H c C)) λr s' h=>?_
  cases r with
  | error e=>exact (hCX H e s' h).elim
  | ok fl =>
   cases fl with
   | next=>exact bq h
   | brk=>exact bq h
   | cont=>exact bq h
   | ret u =>
    obtain⟨v,H',os,i,un,E,S,q',sm⟩:=h
    subst q'
    obtain rfl:u=eV true:=S
    refine⟨rfl,⟨λb o e=>?_,λb o e=>un.there b o e (by simp)⟩,os,i⟩
    cases q:H b with
    | none=>exact .inl (un.keep b o e q (by intro z;exact absurd (show b∈([]:List ah) from z) (by simp)) (by simp))
    | some u =>
     rcases hA b u q with⟨p,O,rfl⟩|⟨rfl,g,y,rfl⟩
     ·obtain⟨T,_,t⟩:=f p O
      rw[T] at e
      cases e
      obtain⟨ps,e4,_⟩:=E p.1 _ (sm _ _ (c p O))
      exact .inr (.inl ⟨t,rfl,#[],ps,rfl,by rw[Array.empty_append];exact e4⟩)
     ·have T:=(j b _ q).1
      have e2:=(E b _ (sm _ _ q)).1
      rw[e] at T
      cases T
      exact .inl e2
 have naT:∀ p∈ts,p.1≠a:=λp O z=>by
  have:=(f p O).1
  rw[z,ha] at this
  cases this
 have lka:ts.lookup a=none:=by
  cases e:ts.lookup a with
  | none=>rfl
  | some q=>exact absurd rfl (naT _ (VP e))
 have tbl:∀ {sc:Option (ah×HO)} {b:ah} {q:Nat->Nat->au},ts.lookup b=aa q->ZO P w (H00 ts sc) s₁.heap b (.tbq q):=λ{sc b q} e =>
  ⟨#[],(f _ (VP e)).1,trivial,λpos A z=>by simp[d5] at z⟩
 have c:∀ sc,∀ p∈ts,H00 ts sc p.1=aa (.tbq p.2):=λsc p O=>by unfold H00;rw[IV nd O]
 cases hk:K.lookup a with
 | some o =>
  have e:=X a o hk
  rw[ha] at e
  cases e
  refine Q (H00 ts none) (c none) (.inr ⟨_,vs.toArray,_,hk,rfl,rfl,rfl,by rw[bn,lenV];exact L,by simpa using rv⟩) (λb u z=>?_) (λb u z=>?_) λb u z=>?_
  ·unfold H00 at z
   cases e:ts.lookup b with
   | none=>rw[e] at z;cases z
   | some q=>rw[e] at z;cases z;exact tbl e
  ·unfold H00 at z
   cases e:ts.lookup b with
   | none=>rw[e] at z;cases z
   | some q=>exact .inl ⟨_,VP e,rfl⟩
  ·unfold H00 at z
   cases e:ts.lookup b with
   | none=>rw[e] at z;cases z
   | some q=>exact (f _ (VP e)).2.1
 | none =>
  have hsa:H00 ts (aa (a,.frz { cls:=.type "list",data:=.seq vs.toArray } (.lst (ns.map V.int)))) a=aa (.frz { cls:=.type "list",data:=.seq vs.toArray } (.lst (ns.map V.int))):=by
   unfold H00;rw[lka];exact if_pos rfl
  refine Q (H00 ts (aa (a,.frz { cls:=.type "list",data:=.seq vs.toArray } (.lst (ns.map V.int))))) (c _) (.inl (.inr ⟨_,hsa⟩)) (λb u z=>?_) (λb u z=>?_) λb u z=>?_
  ·by_cases hb:b=a
   ·subst hb
    rw[hsa] at z
    cases z
    exact⟨ha,by rw[aC];exact L,vs,_,rv,ha⟩
   ·unfold H00 at z
    cases e:ts.lookup b with
    | none=>rw[e] at z;have z':=(if_neg hb).symm.trans z;cases z'
    | some q=>rw[e] at z;cases z;exact tbl e
  ·by_cases hb:b=a
   ·subst hb
    rw[hsa] at z
    cases z
    exact .inr ⟨rfl,_,_,rfl⟩
   ·unfold H00 at z
    cases e:ts.lookup b with
    | none=>rw[e] at z;have z':=(if_neg hb).symm.trans z;cases z'
    | some q=>exact .inl ⟨_,VP e,rfl⟩
  ·by_cases hb:b=a
   ·rw[hb];exact hk
   ·unfold H00 at z
    cases e:ts.lookup b with
    | none=>rw[e] at z;have z':=(if_neg hb).symm.trans z;cases z'
    | some q=>exact (f _ (VP e)).2.1
theorem IX{l:gi}{q:bg}{d:DefRec}{K:Params->ay}{CX:bK->CXT}{sp:bK->Sp}
  (nd:(ts.map bH).Nodup) (hn:l.most=aa n) (j:n<=sizeLine) (B:d.params.defaults=[]) (J:Room k gY)
  (hY:∀ (w:bK) (h:bG),YP w h->(K w.params).In h) (hYt:∀ (w:bK) (h:bG),YP w h->∀ p∈ts,h.get? p.1=aa (fB #[])) (hK:∀ (w:bK) (p:ah×(Nat->Nat->au)),p∈ts->(K w.params).lookup p.1=none/\∃ c,dQ (K w.params) c p.1=ac)
  (F:∀ (w:bK) (mg:au->Option af) (N:ah) (h:bG),(K w.params).In h->h.Ns aj mg->mg d.name=aa (.ref N) ->
   ∃ fd:cS,(∀ (s:aq) (u:af),fD s fd ⟨[u],[]⟩ [(x,u)]) /\
    ∀ base:bG,(K w.params).In base->base.Ns aj mg->base.BuiltinsAt mg aj->FnOk l.prog w (K w.params) mg base (CX w) k N fd [x] (sp w))
  (hsp:∀ (w:bK) (H:Hp) (a:ah) (ns:List Int),ns.length<=n->(∀ x∈ns,cZ x<=2 ^ 20)->(∀ p∈ts,H p.1=aa (.tbq p.2))->SqL (K w.params) H a (ns.map V.int)->sp w [.ref a] H (λv H'=>v=.bl ac/\Zg H H') λ_ _ _=>False)
  (T:∀ (w:bK) (H:Hp) (s:aq) (e:af) (s':aq),CX w [] H s (λ_ _ _=>False) e s'->False) :
  iR q loose XP YP l.row.toRowW d [] (λf vs=>fP f vs):=by
 refine II hn B λw s₀ s₁ mg mb N o pm cd I a vs ns G Y P hd y t b m i M r=>?_
 have X:=hY w _ Y
 obtain⟨fd,hb,hF⟩:=F w mg N _ X G.T.g t
 have Q:s₁.heap.BuiltinsAt mg mainGlobals:=by
  obtain⟨bm,g,b1,b2,L,b4,b5,Z⟩:=G.T.bmain
  have A:bm≠mainGlobals:=λz=>by
   obtain⟨o,es,E,e,d,_⟩:=G.T.g
   rw[z,e] at L
   cases L
   rw[d] at Z
   cases Z
  exact⟨bm,g,b1,b2,A,A,L,b4,b5,Z⟩
 refine IW nd X G.T.g G.T.b G.T.builtins G.T.nolimit M b m (aT i j) J (λp O=>?_) Q hF hb (λH hT C=>hsp w H a ns i r hT C) λH e s'=>T w H s₁ e s'
 obtain⟨U,c,R⟩:=hK w p O
 have S:=hYt w _ Y p O
 exact⟨S,U,((jG X R).tab S).isCodeTable⟩
end
variable {Θ:Type}
def spF(K:ay)(Pre:Θ->List AV->Prop)(Post:Θ->List AV->AV->Prop):Sp:=λvs H Q E=>∃ θ,spR K (Pre θ) (Post θ) NP vs H Q E
section
variable{Pre:Θ->List AV->Prop}{Post:Θ->List AV->AV->Prop}
theorem XD(T:Tx K mg x st ps dvss)(i:FnScope N ps (Zb st))(C:∀ O cs,Pre O cs->cs.length=ps.length)
  (hbody:∀ (O:Θ) (f:ah) (cdv:af) (A:bv) (outer:List eF) (s:aq) (H:Hp) (E:XK),Room k (A.deeper (bQ x (Zb st) s.heap.objs.size f cdv)) ->
   ∃ t,PSs (ZJ CX P w K mg base N x (Zb st) f cdv A outer s H E).nox (Zy st) t/\∀ cs,Pre O cs->Sv K (toF E) NE t (inA N cs) (WL (Post O cs))) :
  ∀ dvs∈dvss,Cal P w K mg base CX (k+1) x ps dvs (spF K Pre Post) :=
 T.cal (k:=k) i ((by rintro vs H Q E ⟨O,h⟩;exact VM h (C O))) λf cdv A outer s H vs Q E hr ⟨O,h⟩ =>
  let ⟨t,U,R⟩:=hbody O f cdv A outer s H E hr
  ⟨t,U,T4 h λcs pre=>R cs pre⟩
end
section
variable{Pre:Θ->List AV->Prop}{Post:Θ->List AV->AV->Prop}
theorem Yi(h:Ea K E X A ρ λbs=>∃ O,ClR (Pre O) (Post O) NP [] Q (λ_=>True) bs):Ev K E X (Wc (spF K Pre Post) [] E' A) ρ Q:=λI Z ts as H W s x k =>
 h I Z ts as H _ s x <|by
  rintro bs ⟨O,cs,sh,pre,q,_⟩ vs H' s' hl
  obtain⟨j,s2⟩:=SR.lent sh hl s'
  exact⟨O,x.t.same s2.same,cs++[],j.app Uy,pre,λc Y v H2 r=> (by obtain⟨a,g,z⟩:=q c Y;exact k a z v H2 (s2.gotG r g)),λe z=>z.elim⟩
end
variable {b:TV}
theorem is_N(ha:a.data=.none)(q:Q (.av (.d (.bool ac))))(A:NR a:=by walk_at "n"):Op K E X (λx y H Q=>y=.non/\Q (.bl (decide (x=.non))) H) a (.av (.d .none)) Q:=λI Z o ts as H x y W s _ k=>by
 have r:=s.pop.top A
 have P:=s.top_d
 rw[ha] at r
 cases r
 cases P
 exact⟨rfl,k _ q _ _ (s.pop.pop.bl _)⟩
theorem T8(ha:a.data=.none)(q:Q (.av (.d (.bool aw))))(A:NR a:=by walk_at "n"):Op K E X (λx y H Q=>y=.non/\Q (.bl (!decide (x=.non))) H) a (.av (.d .none)) Q:=λI Z o ts as H x y W s _ k=>by
 have r:=s.pop.top A
 have P:=s.top_d
 rw[ha] at r
 cases r
 cases P
 exact⟨rfl,k _ q _ _ (s.pop.pop.bl _)⟩
noncomputable def T9:ak->Bool
 | .tuple _=>ac
 | .list _=>ac
 | .int _=>ac
 | .str _=>ac
 | _=>aw
theorem O8{x:ak}(W:T9 x=ac)(r:Rep K H v x):v≠.non:=by
 intro e
 subst e
 cases r<;>simp[T9] at W
theorem is_S(ha:T9 a.data=ac)(q:Q (.av (.d (.bool aw))))(A:NR a:=by walk_at "n"):Op K E X (λx y H Q=>y=.non/\Q (.bl (decide (x=.non))) H) a (.av (.d .none)) Q:=λI Z o ts as H x y W s _ k=>by
 have r:=s.pop.top A
 have P:=s.top_d
 cases P
 refine⟨rfl,?_⟩
 show W (.bl (decide (x=.non))) H
 rw[decide_eq_false (O8 ha r)]
 exact k _ q _ _ (s.pop.pop.bl _)
theorem Sa(ha:T9 a.data=ac)(q:Q (.av (.d (.bool ac))))(A:NR a:=by walk_at "n"):Op K E X (λx y H Q=>y=.non/\Q (.bl (!decide (x=.non))) H) a (.av (.d .none)) Q:=λI Z o ts as H x y W s _ k=>by
 have r:=s.pop.top A
 have P:=s.top_d
 cases P
 refine⟨rfl,?_⟩
 show W (.bl (!decide (x=.non))) H
 rw[decide_eq_false (O8 ha r)]
 exact k _ q _ _ (s.pop.pop.bl _)
abbrev OkS:={ x:au // hU x=ac }
abbrev dS(x:OkS):PyData:=.str x.1
theorem Enc.str:Enc dS 0:=⟨λa b=>by simp[fJ,Subtype.ext_iff],λx=>by simp[b',x.2],λ_=>by simp[ak.depth]⟩
theorem Vb{b:Bool}(q:Q (.av (.d (.int (if b then 1 else 0))))):Bi K E X (λxs H Q=>(∃ i,xs=[.int i]/\Q (.int i) H)\/∃ k,xs=[.bl k]/\Q (.int (if k then 1 else 0)) H) [.av (.d (.bool b))] Q:=λI Z o ts as H vs W s L _ k=>by
 obtain⟨v,rfl,s⟩:=one_of s L
 have r:=s.top_d
 cases r
 exact .inr ⟨b,rfl,k _ q _ _ (s.pop.int _)⟩
section
variable{X:Cx}{ds:List af}
theorem IY{e:af}(I:Inv X ge σ H s)(h:CXE X.prog X.w X.stack (lend (Own X) s.heap H) s (λc d H'=>F c d σ (unl (Own X) H')) e s'):XE X F e s':=by
 obtain⟨S,cls,d,B,H',rfl,x,j,i,un,W,a,g,f⟩:=h
 refine OH I ⟨S,cls,d,B,unl (Own X) H',rfl,x,j,i,O1 I.lendOk un (W.kept x.stays) (λb G=>I.own_fs G),O2 (λb G=>?_) W,λb o e n Q=>?_,g,f⟩
 ·obtain⟨o,_,e⟩:=Uz I.lendOk un G
  exact⟨o,e⟩
 ·by_cases Y:Own X b
  ·obtain⟨U,T,M⟩:=Uz I.lendOk un Y
   rw[e] at T
   cases T
   exact (W b _ M).1
  ·exact a b o e (by rw[Wg Y];exact n) Q
theorem IZ{Q:VK}(n:FnOk X.prog X.w X.K X.mg X.base (CXE X.prog X.w) k f fd ps sp)(J:Room k X.A)(hb:Zq X.K fd ps ds)(hd:Zi dvs ds)
  (I:Inv X ge σ H s) (r:Zi vs us) (h:∀ H2,Lent X σ H H2->sp (vs++dvs) H2 (λv M=>Q v (unl (Own X) M)) λc d M=>F c d σ (unl (Own X) M)):aG (aI X.prog X.w) X.A (fP (.ref f) us) (EP X ge σ Q) (XE X F) s:=by
 have P:Zi (vs++dvs) (us++ds):=r.append hd
 have h:=h _ I.lent
 have L:(us++ds).length=ps.length:=by rw[<- P.length];exact n.len _ _ _ _ h
 refine dn (cX (n.run X.A X.stack s _ ⟨us,[]⟩ (us++ds) (vs++dvs) _ _ J I.env0L (hb s us I.kIn L) P h) λz l g=>?_)
 cases z with
 | error e=>exact IY I g
 | ok a =>
  cases a with
  | ret u =>
   obtain⟨v,H',Y,i,un,j,r,q⟩:=g
   exact I.after ⟨v,unl (Own X) H',Y,i,O1 I.lendOk un j λb hb=>I.own_fs hb,IL I.lendOk un j,r,q⟩
  | next=>exact bq g
  | brk=>exact bq g
  | cont=>exact bq g
end
def Sb(K:ay)(Pre:Θ->List AV->Prop)(Post:Θ->List AV->AV->Prop)(PX:Θ->List AV->Exc->Prop):Sp:=λvs H Q E=>∃ θ,spR K (Pre θ) (Post θ) (PX θ) vs H Q E
section
variable{Pre:Θ->List AV->Prop}{Post:Θ->List AV->AV->Prop}{PX:Θ->List AV->Exc->Prop}
theorem WF.low{G G':Hp}(m:Low G G'){e:Exc}{c:af}{d:Option ah}(h:WF K G e c d):WF K G' e c d:=by
 obtain⟨U,R|⟨a,vs,R,S,F,Y⟩⟩:=h
 ·exact⟨U,.inl R⟩
 ·exact⟨U,.inr ⟨a,vs,R,m _ _ S (λg c z=>by cases z),F,Reps.low m Y⟩⟩
theorem Ha(h:Ea K E X A ρ λbs=>∃ O,ClR (Pre O) (Post O) (PX O) [] Q (λe=>X e ρ) bs):Ev K E X (WK (Sb K Pre Post PX) [] E A) ρ Q:=λI Z ts as H W s x k =>
 h I Z ts as H _ s x <|by
  rintro bs ⟨O,cs,sh,pre,q,qx⟩ vs H' s' hl
  obtain⟨j,s2⟩:=SR.lent sh hl s'
  exact⟨O,x.t.same s2.same,cs++[],j.app Uy,pre,λc Y v H2 r=> (by obtain⟨a,g,z⟩:=q c Y;exact k a z v H2 (s2.gotG r g)),λe z c d H2 u G=>x.x e ρ (qx e z) c d Z H2 (s2.ext u).pops G⟩
end
structure FnOkH(P:bg)(w:bK)(K:ay)(mg:au->Option af)(base:bG)(CX:CXT)(k:Nat)(f:ah)(fd:cS)(ps:List au)(sp:Sp):Prop where
 len:∀ vs H Q E,sp vs H Q E->vs.length=ps.length
 run:∀ (A:bv) (ea:ah) (outer:List eF) (s:aq) (H:Hp) (args:Args) (us:List af) (vs:List V) (Q:VK) (E:XK),Room k A->Env0 P w K mg base (A.mark (aa (.ref ea))) outer s H->fD s fd args (ps.zip us)->Zi vs us->sp vs H Q E ->
  eh (aI P w) (A.mark (aa (.ref ea))) (.call (.ref f) args) (CR CX outer P w H s Q E) s
structure CalH(P:bg)(w:bK)(K:ay)(mg:au->Option af)(base:bG)(CX:CXT)(k:Nat)(x:au)(ps:List au)(dvs:List V)(sp:Sp):Prop where
 ex:∃ (f:ah) (fd:cS) (ds:List af),FnOkH P w K mg base CX k f fd ps sp/\mg x=aa (.ref f)/\az K (.ref f)=ac/\Zq K fd ps ds/\Zi dvs ds
theorem CalH.mono{P:bg}{w:bK}{K:ay}{mg:au->Option af}{base:bG}{CX:CXT}{j k:Nat}{x:au}{ps:List au}{dvs:List V}{sp:Sp}(c:CalH P w K mg base CX j x ps dvs sp)(h:j<=k):CalH P w K mg base CX k x ps dvs sp :=
 let ⟨f,a,ds,U,R⟩:=c.ex
 ⟨f,a,ds,⟨U.len,λA S I s H args us vs Q E J=>U.run A S I s H args us vs Q E (J.mono h)⟩,R⟩
theorem Hb{kV doc cdv ct oc:af}{od:Option ah}
     (M:K.lookup f=aa ⟨oc,od,.func (aM name qual params body scope dV kV doc pm an cdv ct),osl⟩) (F:aH K cdv qual=ac) (S:FnScope N ps scope)
  (len:∀ vs H Q E,sp vs H Q E->vs.length=ps.length)
  (hbody:∀ (A:bv) (ea:ah) (outer:List eF) (s:aq) (H:Hp) (vs:List V) (Q:VK) (E:XK),Room k (A.deeper (bQ qual scope s.heap.objs.size f cdv))->sp vs H Q E ->
   ∃ t,PSs ((ZJ CX P w K mg base N qual scope f cdv A outer s H E).inX ea).nox body t/\t { nx:=λ_ H'=>Q .non H',rt:=Q } (start N vs) H) :
  FnOkH P w K mg base CX (k+1) f (aM name qual params body scope dV kV doc pm an cdv ct) ps sp:=by
 refine⟨len,λA ea outer s H args us vs Q E C Z G r a=>?_⟩
 have L:=len _ _ _ _ a
 have X:K.In s.heap:=Z.mod.kin.keeps λb o e=>(Z.bs b o e).1
 have h:s.heap.NoLimit:=Z.mod.nolimit.keeps λb o e=>(Z.bs b o e).1
 have c:∀ y∈ps.zip us,scope.names.lookup y.1=aa .local\/(scope.names.lookup y.1=aa .cell/\((bC (s.heap.objs.size+1) scope.names []).lookup y.1).isSome=ac):=by
  rintro ⟨n,v⟩ O
  rcases S.par n (iE O).1 with q|q
  ·exact .inl q
  ·exact .inr ⟨q,cN _ _ _ (.inl q)⟩
 have T:Env0 P w K mg base A outer s H:=⟨Z.frames,Z.mod,Z.bs,Z.bsz,Z.funs,Z.frf,Z.hok,Z.bare⟩
 refine js (A:=A.mark (aa (.ref ea))) C.depth (X _ _ M) rfl S.co S.gen rfl (ix X F) (G _ _ _ _ ?_)
 refine iq S.kind c λenv j s1 x=>?_
 subst j
 refine⟨h.keeps x.toInCall.keep,codeAny_func ?_⟩
 obtain⟨t,ht,g⟩:=hbody A ea outer s H vs Q E (C.deeper _) a
 have p:Inv (ZJ CX P w K mg base N qual scope f cdv A outer s H E) [] (start N vs) H s1:=PC S C.hd T L r x
 have I:Inv ((ZJ CX P w K mg base N qual scope f cdv A outer s H E).inX ea) [] (start N vs) H s1:=p.toX ea rfl
 refine bi (ht [] s1 (start N vs) H _ (I.wish _) g) (λi l B=>?_) λe l B=>bq B
 replace B:=SP.unwish B
 have fin:∀ {z:St} {H':Hp} {v:V} {u:af},Inv ((ZJ CX P w K mg base N qual scope f cdv A outer s H E).inX ea) [] z H' l->Zp v u->Q v H'->CE outer P w H s Q u l :=
  λ{z H' v u} J m q=>⟨v,H',J.os,J.bare,J.base,J.hok,m,q⟩
 cases i with
 | ret u =>
  obtain⟨v,z,H',J,m,q⟩:=B
  exact fin J m q
 | next =>
  obtain⟨z,H',J,q⟩:=B
  exact fin (v:=V.non) (u:=cG) J rfl q
 | brk =>
  obtain⟨_,_,_,q⟩:=B
  exact bq q
 | cont =>
  obtain⟨_,_,_,q⟩:=B
  exact bq q
section
variable{X:Cx}{A:bv}{E:XK}{p:jJ}
theorem Hc(m:X.A=A.mark (aa (.ref ea)))(c:CalH X.prog X.w X.K X.mg X.base CX k x ps dvs sp)(J:Room k A)(M:Gl X x)(W:Xv CX X E)(ha:PA X (e::es) t)(b:(x == ("__debug__" : au))=false:=by decide)
  (j:aB (e::es) X.env=(aw,cg e X.env)::aB es X.env:=by rfl) (n:(bZ pos (aB es X.env)).any (·.1)=false:=by rfl) :
  PE X (.Call (.Name x p) (e::es) [] pos) (Wc sp dvs E t):=by
 obtain⟨f,a,ds,U,R,S,F,Y⟩:=c.ex
 intro O s Z H Q I h
 refine bT (WA I M R ?_ b)
 refine cp (h₀:=X.base) I.ok.mod.kin S (thn (ha pos O s Z H _ I h) λus s1 ⟨vs,H1,I1,r,q⟩=>⟨I1.kIn,?_⟩) j n
 have P:Zi (vs++dvs) (us++ds):=r.append Y
 have L:(us++ds).length=ps.length:=by rw[<- P.length];exact U.len _ _ _ _ q
 have T:Env0 X.prog X.w X.K X.mg X.base (A.mark (aa (.ref ea))) X.stack s1 H1:=m▸I1.env0
 rw[m]
 refine dn (cX (U.run A ea X.stack s1 H1 ⟨us,[]⟩ (us++ds) (vs++dvs) Q E J T (F s1 us I1.kIn L) P q) λr l g=>?_)
 cases r with
 | error e=>exact W O Z H1 s1 e l I1 g
 | ok i =>
  cases i with
  | ret u=>exact I1.after g
  | next=>exact bq g
  | brk=>exact bq g
  | cont=>exact bq g
end
theorem He(T:Tx K mg x st ps dvss)(i:FnScope N ps (Zb st))(C:∀ cs,Pre cs->cs.length=ps.length)
  (hbody:∀ (f:ah) (cdv:af) (A:bv) (ea:ah) (outer:List eF) (s:aq) (H:Hp) (E:XK),Room k (A.deeper (bQ x (Zb st) s.heap.objs.size f cdv)) ->
   ∃ t,PSs ((ZJ CX P w K mg base N x (Zb st) f cdv A outer s H E).inX ea).nox (Zy st) t/\∀ cs,Pre cs->Sv K (toF E) NE t (inA N cs) (WL (Post cs))) :
  ∀ dvs∈dvss,CalH P w K mg base CX (k+1) x ps dvs (spR K Pre Post NP):=by
 obtain⟨u,f,a,F,m,b⟩:=T.ex
 intro dvs hd
 obtain⟨ds,p,G⟩:=b dvs hd
 obtain⟨c,od,kV,I,pm,j,cdv,ct,g,rfl,M,y⟩:=F.ex
 refine⟨f,_,ds,Hb M y i (λvs H Q E h=>VM h C) λA ea outer s H vs Q E J h=>?_,m,F.kp,p,G⟩
 obtain⟨t,U,R⟩:=hbody f cdv A ea outer s H E J
 exact⟨t,U,T4 h λcs pre=>R cs pre⟩
theorem RAs.cat{zs:List V}{ys:List AV}{q:Fp}(h2:RAs K G H zs ys q):∀ {vs:List V} {xs:List AV} {p:Fp},RAs K G H vs xs p->RAs K G H (vs++zs) (xs++ys) (λb=>p b+q b)
 | _,_,p,.nil e=>by
  have z:(λb=>p b+q b)=q:=funext λb=>by rw[e b,iB]
  rw[z]
  exact h2
 | _,_,_,.cons r1 rs e=>.cons r1 (RAs.cat h2 rs) λb=>by have:=e b;omega
noncomputable def Yl:er->List er
 | .ClassDef _ _ _ b _ _ _ _ _ _ _=>b
 | _=>[]
noncomputable def isFn(K:ay)(f:ah):Bool:=match K.lookup f with
 | some o=>o.cls == .type "function"
 | none=>aw
def O9(K:ay)(N:ah):Bool:=(K.lookup N).isSome
noncomputable def RX(K:ay)(C:ah)(bmB:List af)(newId:String)(fI:ah):Bool:=match K.lookup C with
 | some ⟨.type "type",_,.cls cd,sl⟩=>(match cd.mro,sl.toList with
  | .ref C'::bm,[_,_,_,_,aa (.builtin n),_]=>C' == C && n == newId && !cd.hasDel && jh K bmB bm && ji K cd.ns && aP K cd.ns "__init__" == aa (aa (.ref fI)) && O9 K cd.ns && isFn K fI
  | _,_=>aw)
 | _=>aw
theorem Hf(q:RX K C bmB newId fI=ac):ExcI K C bmB newId fI:=by
 unfold RX at q
 split at q
 ·rename_i dd cd sl ho
  split at q
  ·rename_i C' bm k0 k1 k2 k3 n k5 hm hs
   simp only[aJ,beq_iff_eq,Bool.not_eq_true'] at q
   obtain⟨⟨⟨⟨⟨⟨⟨I,O⟩,a⟩,ht⟩,j⟩,c⟩,b⟩,g⟩:=q
   subst I O
   obtain⟨nm,bs,h,ns,G,hd,sn,sub,ab,col,del⟩:=cd
   dsimp only at hm a j c b
   subst hm a
   have f:sl=#[k0,k1,k2,k3,aa (.builtin n),k5]:=by
    obtain⟨l⟩:=sl
    simp only at hs
    rw[hs]
   subst f
   refine⟨⟨bm,ns,nm,G,bs,hd,sn,sub,ab,col,dd,k0,k1,k2,k3,k5,ho,j,c,ht,?_⟩,?_⟩
   ·unfold O9 at b
    cases e:K.lookup ns with
    | none=>rw[e] at b;cases b
    | some o=>exact⟨o,rfl⟩
   ·unfold isFn at g
    cases e:K.lookup fI with
    | none=>rw[e] at g;cases g
    | some o =>
     rw[e] at g
     exact⟨o,rfl,beq_iff_eq.mp g⟩
  ·cases q
 ·cases q
theorem Na{k:Int}{j:Nat}{c:AV}(N:ixN xs.length k=aa j)(i:xs[j]?=aa c)(q:Q (.av c)):Op K E X (rOr (Vx K) r') (.av (.own xs)) (.av (.d (.int k))) Q:=λI Z o ts as H x y W s _ f=>by
 have a:=s.top_d.int_inv
 subst a
 obtain⟨⟨p,q',U,R,S,F⟩,u⟩:=s.pop
 cases R with
 | @cons _ _ _ _ A e _ r rs B =>
 cases r with
 | av r =>
 cases r with
 | @own l us _ t _ L J z =>
 obtain⟨g,h,w,v,n,m,_⟩:=J.pick i
 refine .inl ⟨l,us,k,w,rfl,rfl,SqL.of L,?_,f _ q _ _ (SR.of_le (p:=p) (q:=q') (p':=p) (q':=λb=>g b+e b) u S F (λb=>?_) U (.cons (.av m) rs λ_=>rfl))⟩
 ·unfold L2.atI
  rw[J.len,N]
  exact n
 ·have:=B b;have:=z b;have:=v b
  show p b+(g b+e b)<=p b+q' b
  omega
def Nb(K:ay):V->List V->Hp->VK->Prop:=λx vs H Q=>∃ (sep:au) (b:ah) (ts:List au),x=.str sep/\vs=[.ref b]/\SqL K H b (ts.map V.str)/\JoinOk sep ts=ac/\Q (.str (bj sep ts)) H
theorem Nc:∀ {ts:List au} {its:List af},Zi (ts.map V.str) its->∃ l:List (au×iL),strValues l=its/\l.map (·.1)=ts
 | [],[],_=>⟨[],rfl,rfl⟩
 | [],_::_,h=>by cases h
 | _::_,[],h=>by cases h
 | t::ts,u::us,h=>by
  cases h with
  | cons r rs =>
   obtain⟨k,rfl⟩:=r
   obtain⟨l,T,M⟩:=Nc rs
   exact⟨(t,k)::l,by rw[<- T];rfl,by rw[<- M];rfl⟩
theorem XQ{X:Cx}(hK:X.K=K):MtR X "str.join" (Nb K):=by
 subst hK
 intro O s Z H x vs v us Q I N m h
 obtain⟨sep,b,ts,rfl,rfl,g,j,q⟩:=h
 obtain⟨t,rfl⟩:=N
 obtain⟨u,rfl,R⟩:=m.one
 cases R
 obtain⟨its,r,pl,C⟩:=I.list g
 obtain⟨l,T,M⟩:=Nc r
 exact SC.join (l:=l) (by rw[T];exact pl.isList) M j λt' k=>⟨.str _,H,I.tok k,⟨_,rfl⟩,q⟩
def RY:V->Option Int->Option Int->Hp->VK->Prop:=λx lo hi H Q=>∃ z,x=.str z/\z.length<=sizeLine/\Q (.str (fG z lo hi)) H
theorem Nd{v:af}{o:Option Int}(h:gG v o):∃ l:Option (Int×iL),v=partValue l/\l.map (·.1)=o:=by
 cases h with
 | none=>exact⟨none,rfl,rfl⟩
 | int i t=>exact⟨aa (i,t),rfl,rfl⟩
theorem Hg{X:Cx}:SlR X RY:=by
 intro O s Z H x v e c j a p Q I N B pl f h
 obtain⟨z,rfl,C,q⟩:=h
 obtain⟨t,rfl⟩:=N
 obtain⟨l,rfl,rfl⟩:=Nd pl
 obtain⟨u,rfl,rfl⟩:=Nd f
 obtain⟨o,U,R,S⟩:=B
 refine⟨"str",_,F.slot_str_getitem.lookup,fw _ _ _,wpAny_getItem_str_slice (l:=l) (u:=u) (st:=none) ⟨o,U,R,S⟩ rfl ?_⟩
 exact post_val_or_str ⟨aT (Txt.slice_le z _ _) C,λt' k=>⟨.str _,H,I.tok k,⟨_,rfl⟩,q⟩⟩
theorem Hh{X:Cx}(hK:X.K=K):SlR X (VJ RY (VJ (Uj K) (Ui K))):=Hg.or (Us hK)
def Its(z:au):It:=⟨λi _=>i<z.length,λi H x H'=>H'=H/\∃ c,z.cps[i]?=aa c/\x=.str ⟨#[c]⟩,λi _=>z.length<=i⟩
theorem Hi(z:au)(t:iL)(it:ah):Turn P w K tg (Its z) [it] it (λi h=>h.IsStrIter it "str_ascii_iterator" z t i) where
 mem:=by simp
 obj:=λi h st b G=>by
  have e:b=it:=by simpa using G
  subst e
  obtain⟨o,e,c,d⟩:=st
  exact⟨o,e,λv z=>by rw[d] at z;cases z⟩
 keep:=λi h h' st k=>by
  obtain⟨o,e,c,d⟩:=st
  exact⟨o,k it (by simp) o e,c,d⟩
 item:=by
  intro X Q N y Y i O s Z H E I F st M
  subst Q N y
  have M:i<z.cps.size:=M
  obtain⟨r,U,n,J,A,q⟩:=F it (by simp)
  refine wpAny_pyNext_ascii_item st (cB M) λh' l S=>?_
  have f:Inv X O Z H { s with heap:=h',toks:=s.toks+1 }:=I.turned (t':=s.toks+1) (λb o G e=>(S.2 b G).trans e) r U J A q
  obtain⟨o,e,c,d⟩:=id l
  exact⟨_,rfl,Th (s:={ s with heap:=h',toks:=s.toks+1 }) e c d (by decide) ⟨.str ⟨#[z.cps[i]]⟩,H,f,⟨_,rfl⟩,⟨rfl,_,cB M,rfl⟩,l,λb G=>(F b G).1⟩⟩
 done:=by
  intro X Q N y Y i O s Z H E I F st M
  subst Q N y
  have M:z.cps.size<=i:=M
  obtain⟨r,U,n,J,A,q⟩:=F it (by simp)
  exact wpAny_pyNext_ascii_end (I.ok.hd Y) st (Array.getElem?_eq_none M) λh' T=>⟨rfl,I.turned (t':=s.toks) (λb o G e=>T b o G e) r U J A q⟩
 self:=λ_ _ _ _ _ st h=>wpAny_pyIter_striter_ascii st h
def Sd(tl:TE):TI:=λσ H R=>tl σ H λx H1=>∃ z:au,x=.str z/\z.cps.all (· < 128)=ac/\R (Its z) H1
theorem RZ{X:Cx}{l:cz}{tl:TE}(L:PE X l tl):PI X tg l (Sd tl):=by
 intro O s Z H R I h
 refine thn (L O s Z H _ I h) ?_
 rintro v s1 ⟨x,H1,I1,r1,q1⟩
 obtain⟨z,e,a,q⟩:=q1
 subst e
 obtain⟨t,rfl⟩:=r1
 have S:∀ b∈[s1.heap.objs.size],Xa X O H1 b:=λb G=>by
  rw[mem_singleton.mp G]
  exact I1.fpOk (ar _) (I1.hok.fresh (ar _))
 exact wpAny_pyIter_ascii a ⟨s1.heap.objs.size,_,_,_,H1,rfl,I1.kept (t':=s1.toks) λb o e=>ai _ e,Hi z t _,⟨_,aN _ rfl,rfl,rfl⟩,S,q⟩
variable{z:au}
theorem Rep.str_inv(h:Rep K H v (.str z)):v=.str z:=by cases h;rfl
theorem Reps.strs_inv{K:ay}{H:Hp}:∀ {zs:List au} {xs:List V},Reps K H xs (zs.map aY)->xs=zs.map V.str
 | [],[],_=>rfl
 | [],_::_,h=>by cases h
 | _::_,[],h=>by cases h
 | z::zs,x::xs,h=>by
  cases h with
  | cons r rs=>rw[Rep.str_inv r,Reps.strs_inv rs];rfl
theorem small6'(h:n<=1000000):n<=sizeLine:=cc (small6 h)
theorem Se{k:Int}{c:Nat}(ha:a.data=.str z)(C:z.length<=1000000)(e:atI z.cps.toList k=aa c)(q:Q (.av (.d (.str ⟨#[c]⟩))))(A:NR a:=by walk_at "n"):Op K E X (TZ K) a (.av (.d (.int k))) Q:=Wf (Wf (WJ λI Z o ts as H x y W s _ f=>by
 have T:=s.top_d.int_inv
 have r:=s.pop.top A
 rw[ha] at r
 have M:=Rep.str_inv r
 subst T M
 exact⟨z,k,c,rfl,rfl,small6' C,e,f _ q _ _ (s.pop.pop.push λ_=>.str _)⟩))
theorem Nf{y:au}(ha:a.data=.str y)(hb:b.data=.str z)(C:y.length+z.length<=1000000)(q:Q (.av (.d (.str (y++z)))))(A:NR a:=by walk_at "n")(w:NR b:=by walk_at "n"):Op K E X (Ox K) a b Q:=Wf (Wf (Wf (WJ λI Z o ts as H u v W s _ f=>by
 have L:=s.top w
 have P:=s.pop.top A
 rw[hb] at L
 rw[ha] at P
 have T:=Rep.str_inv L
 have M:=Rep.str_inv P
 subst T M
 exact⟨y,z,rfl,rfl,small6' C,f _ q _ _ (s.pop.pop.push λ_=>.str _)⟩)))
theorem X3(ha:a.data=.str z)(C:z.length<=1000000)(q:Q (.av (.d (.int z.length))))(A:NR a:=by walk_at "n"):Bi K E X (cOr (VA K) RF) [a] Q:=λI Z o ts as H vs W s L _ f=>by
 obtain⟨v,rfl⟩:=List.length_eq_one_iff.mp L
 have r:=SR.top (ts:=ts) (as:=as) s A
 rw[ha] at r
 have e:=Rep.str_inv r
 subst e
 exact .inr ⟨z,rfl,small6' C,f _ q _ _ ((SR.pop s).push λ_=>.int _)⟩
theorem XR{sep:au}(h:Ev K E X te ρ λa=>∃ zs:List au,a.data=.list (zs.map .str)/\NR a/\JoinOk sep zs=ac/\Q (.av (.d (.str (bj sep zs))))):Ev K E X (tBM K "str" (Nb K) (tC (.str sep)) (ZD te ZV)) ρ Q:=λI Z ts as H W s x k =>
 ⟨rfl,h I Z ts as H _ s x λa ⟨zs,e,na,ok,q⟩ v H' s'=>by
  have r:=s'.top na
  rw[e] at r
  obtain⟨l,xs,rfl,U,R⟩:=r.list_inv
  rw[Reps.strs_inv R] at U
  exact⟨sep,l,zs,rfl,rfl,U,ok,k _ q _ _ (s'.pop.push λ_=>.str _)⟩⟩
theorem Hj:ItOk K (Its z) (.str z) (.str z) z.length λi=>.str ⟨#[z.cps.getD i 0]⟩:=by
 intro G H u j
 refine⟨λi t=>⟨t,?_⟩,λi t=>t⟩
 rintro x H' ⟨e1,c,e2,e3⟩
 subst e1 e3
 refine⟨.refl _,λa m _=>?_⟩
 show Rep K a (.str ⟨#[c]⟩) (.str ⟨#[z.cps.getD i 0]⟩)
 rw[show z.cps.getD i 0=c by rw[eg,e2];rfl]
 exact .str _
theorem Ng{P:Nat->(Nat->ak)->TV->Prop}(h:Ev K E X te ρ λa=>∃ z:au,a.data=.str z/\NR a/\z.cps.all (· < 128)=ac/\P z.length (λi=>.str ⟨#[z.cps.getD i 0]⟩) a.frz):Iv K E X (Sd te) ρ P:=λI Z ts as H R s x k =>
 h I Z ts as H _ s x <|by
  rintro a ⟨z,e,na,ok,q⟩ v H' s'
  have j:=s'.top na
  rw[e] at j
  have b:=Rep.str_inv j
  subst b
  refine⟨z,rfl,ok,k _ _ _ q (.str z) _ H' (TV.frz_nr na) s'.frzV ?_⟩
  rw[TV.frz_data,e]
  exact Hj
theorem Nh{cap:List (Option Nat)}{b:TE}(h:Ev K E X b ρ λa=>∃ (z:au) (y:Nat->AV),a.data=.str z/\NR a/\z.cps.all (· < 128)=ac/\z.length<=1000000 /\
  (∀ i:Nat,i<z.length->Gv K g (.str ⟨#[z.cps.getD i 0]⟩) (Xe cap ρ) λB=>Wk B (Xe cap ρ)/\Ev K E NE te B λa=>a.sto=aa (y i)) /\
  ∃ a,Got (.own ((bL z.length).map y)) a/\Q a):Ev K E X (TH cap (Sd b) g Rm te) ρ Q :=
 Jy (Ng (XA h λa m=>by
  obtain⟨z,y,e,A,ok,C,turn,c,M,q⟩:=m
  exact⟨z,e,A,ok,C,λi=>aa (y i),λi t I Z ts as H v Qg s k=>turn i t I Z ts as H v Qg s λB ⟨w,ev⟩=>k B ⟨w,Ol (by
   rw[if_pos rfl]
   exact XA ev λa z=>⟨_,rfl,z⟩)⟩,c,by rw[List.filterMap_eq_map'];exact M,q⟩))
theorem sl_S{r:V->Option Int->Option Int->Hp->VK->Prop}(h:Ev K E X te ρ λa=>To tl ρ K E X λlo=>To th ρ K E X λhi=>∃ z:au,a.data=.str z/\NR a/\z.length<=1000000/\Q (.av (.d (.str (fG z lo hi))))):Ev K E X (tSl (VJ RY r) te tl th) ρ Q:=λI Z ts as H W s x k=>by
 refine h I Z ts as H _ s x λa f v y s1=>f I Z _ _ y _ s1 x λlo c H2 s2=>c I Z _ _ H2 _ s2 x λhi ⟨z,ha,na,hz,q⟩ H3 s3=>.inl ?_
 have r:=s3.top na
 rw[ha] at r
 exact⟨z,Rep.str_inv r,small6' hz,k _ q _ _ (s3.pop.push λ_=>.str _)⟩
variable{ts:List V}
section
open PyProof.Rows (sortedS)
theorem SR.strs(h:SR K H0 σ ρ ts as H):∀ zs:List au,SR K H0 σ ρ (zs.map V.str++ts) ((zs.map λz=>AV.d (.str z)).map TV.av++as) H
 | []=>h
 | z::zs=>(SR.strs h zs).push λ_=>.str z
end
theorem Hk{bk:Sl->Prop}(h:Ev K E X te ρ λa=>∃ z:au,a.data=.str z/\(∃ c,a=.av c)/\z.cps.all (· < 128)=ac/\∃ f:Nat->Sl->Prop,f 0 ρ/\(∀ (i:Nat) B,i<z.length->f i B->Gv K g (.str ⟨#[z.cps.getD i 0]⟩) B λb=>Sv K E X tb b ⟨f (i+1),rt,nx,f (i+1)⟩)/\∀ B,f z.length B->nx B):Sv K E X (Vr (Sd te) g tb) ρ ⟨nx,rt,bk,ct⟩ :=
 TW (Ng (XA h (by rintro a ⟨z,ea,⟨c,hc⟩,ok,f,i0,turn,fin⟩;exact ⟨z,ea,by subst hc;exact NR.av,ok,⟨c.data,by rw[hc];rfl⟩,f,i0,turn,fin⟩)))
theorem Sf{X:Cx}(hm:∃ t,X.mg x=aa (.str z t))(M:Gl X x)(hd:(x == ("__debug__" : au))=false:=by decide):PE X (.Name x pos) (tC (.str z)):=by
 obtain⟨t,h⟩:=hm
 exact X9 M h ⟨t,rfl⟩ hd
theorem R0{t:iL}(X:K.In h)(G:h.Ns aj mg)(a:aP K aj x=aa (aa (.str z t))):∃ t,mg x=aa (.str z t):=⟨t,bb X G a⟩
variable {σ:L2.St}
theorem RTs.join:∀ {vs:List V} {cs:List AV} {p q:Fp},RAs K G H vs cs p->RTs K G H ts as q->RTs K G H (vs++ts) (cs.map TV.av++as) (λb=>p b+q b):=by
 intro vs
 induction vs with
 | nil =>
  intro cs p q r t
  cases r with
  | nil z =>
   have e:(λb=>p b+q b)=q:=by funext b;rw[z b,iB]
   rw[e]
   exact t
 | cons v vs B =>
  intro cs p q r t
  cases r with
  | cons r rs e=>exact .cons (.av r) (B rs t) λb=>by rw[e b,gb]
def Kpt(κ:List (Nat×V))(σ:L2.St):Prop:=∀ q∈κ,σ[q.1]?=aa (aa q.2)
theorem RSl.first:∀ {cs:List AV} {rest:Sl} {σ:L2.St} {p:Fp} {vs:List V},RSl K G H σ (cs.map aa++rest) p->(∀ (i:Nat) (v:V),vs[i]?=aa v->σ[i]?=aa (aa v))->vs.length=cs.length->∃ p1 p2:Fp,(∀ b,p b=p1 b+p2 b)/\RAs K G H vs cs p1:=by
 intro cs
 induction cs with
 | nil =>
  intro rest σ p vs r _ e
  cases vs with
  | nil=>exact⟨λ_=>0,p,λb=>by simp,.nil λ_=>rfl⟩
  | cons _ _=>cases e
 | cons c cs B =>
  intro rest σ p vs r k e
  cases vs with
  | nil=>cases e
  | cons v vs =>
   have r:RSl K G H σ (aa c::(cs.map aa++rest)) p:=r
   cases r with
   | @so w _ A _ f g _ I rs T =>
    have S:=k 0 v rfl
    have S:aa (aa w)=aa (aa v):=S
    cases S
    obtain⟨p1,p2,M,a⟩:=B rs (λi u j=>k (i+1) u j) (fK e)
    exact⟨λb=>f b+p1 b,p2,λb=>by rw[T b,M b,gb],.cons I a λ_=>rfl⟩
theorem SR.startW(h:RAs K (hid H p Z0) H vs cs p)(le:∀ b,p b<=1):SR K (hid H p Z0) (L2.start N vs) (inA N cs) [] [] H:=by
 have L:=h.len
 refine⟨⟨p,Z0,?_,.nil λ_=>rfl,λb=>by have:=le b;simp only[Z0];omega,λb z=>by unfold hid;rw[if_neg (by omega)]⟩,Y5⟩
 unfold L2.start inA
 rw[L]
 clear L le
 generalize N.length-cs.length=m
 generalize n:hid H p Z0=G at h ⊢
 clear n
 have a:∀ {vs:List V} {cs:List AV} {p:Fp},RAs K G H vs cs p->RSl K G H (vs.map aa++aU m none) (cs.map aa++aU m none) p:=by
  intro vs
  induction vs with
  | nil =>
   intro cs p r
   cases r with
   | nil z =>
    simp only[eL,gJ]
    clear h
    induction m with
    | zero=>exact .nil z
    | succ m B=>exact .no B
  | cons v vs B =>
   intro cs p r
   cases r with
   | cons r rs e=>exact .so r (B rs) e
 exact a h
abbrev nT(n:Int):Str:=au.ofString (toString n)
theorem Hl{n:Int}(h:-(2 ^ 64)<=n/\n<=2 ^ 64):n.natAbs.log2<1920:=by
 have U:n.natAbs<2 ^ 65:=by omega
 by_cases z:n.natAbs=0
 ·rw[z];decide
 ·have:=(Nat.log2_lt z).mpr U
  omega
def Ni:List V->Hp->VK->Prop:=λxs H Q=>∃ n:Int,xs=[.int n]/\(-(2 ^ 64)<=n/\n<=2 ^ 64)/\Q (.str (nT n)) H
theorem Sg{X:Cx}:Z7 X (.type "str") Ni:=by
 intro O s Z H xs us Q I m h
 obtain⟨n,rfl,f,q⟩:=h
 obtain⟨u,rfl,t,rfl⟩:=m.one
 exact P.str_of_int (Hl f) ⟨.str _,H,I.tok _,⟨_,rfl⟩,q⟩
def Nj:List V->Hp->VK->Prop:=λxs H Q=>∃ (z:au) (n:Int),xs=[.str z]/\z.length<=640/\fj z=aa n/\Q (.int n) H
theorem Nk{X:Cx}:Z7 X (.type "int") Nj:=by
 intro O s Z H xs us Q I m h
 obtain⟨z,n,rfl,C,f,q⟩:=h
 obtain⟨u,rfl,t,rfl⟩:=m.one
 exact PySem.W.KIN.call_text f C ⟨.int _,H,I.tok _,⟨_,rfl⟩,q⟩
def Nl:V->List V->Hp->VK->Prop:=λx vs H Q=>∃ a b:au,x=.str a/\vs=[.str b]/\0<b.length/\a.length+2<=sizeLine/\∀ p,H p=none->Q (.ref p) (upd H p (.lst ((gF a b).map V.str)))
theorem Nn:∀ (k:Nat) (zs:List au),Zi (zs.map V.str) (strsFrom k zs)
 | _,[]=>.nil
 | k,z::zs=>.cons ⟨_,rfl⟩ (Nn (k+1) zs)
theorem Np{X:Cx}:MtM X "str.split" Nl:=by
 intro O s Z H x vs v us Q I N m h
 obtain⟨a,b,rfl,rfl,G,l,q⟩:=h
 obtain⟨t,rfl⟩:=N
 obtain⟨u,rfl,t',rfl⟩:=m.one
 have B:(b.length == 0)=false:=beq_eq_false_iff_ne.mpr (by omega)
 have q:=q _ I.fresh
 have f:(jm.Str.partsBetween a (b0 a b 0 a.length (a.length+1)) b.length).length<=sizeLine:=by
  have T:=StrLaws.occ_length_le a b 0 a.length (a.length+1)
  rw[length_partsBetween];omega
 unfold gF at q
 cases h1:(decide (a.length<b.length) || decide (g8 a<g8 b)) with
 | true =>
  rw[h1,if_pos rfl] at q
  exact fy dv (fw _ _ _) gH (gy _ _) (meets_str_split_cannot_occur a b t t' h1) ⟨.ref _,_,I.lnew (ys:=[.str a]) (t':=s.toks) (its:=[.str a t]) (.cons ⟨_,rfl⟩ .nil) (by show 1<=sizeLine;decide),rfl,q⟩
 | false =>
  rw[h1,if_neg ap] at q
  cases hf:(b0 a b 0 a.length (a.length+1)).isEmpty with
  | true =>
   rw[hf,if_pos rfl] at q
   exact fy dv (fw _ _ _) gH (gy _ _) (meets_str_split_not_found a b t t' h1 B hf) ⟨.ref _,_,I.lnew (ys:=[.str a]) (t':=s.toks) (its:=[.str a t]) (.cons ⟨_,rfl⟩ .nil) (by show 1<=sizeLine;decide),rfl,q⟩
  | false =>
   rw[hf,if_neg ap] at q
   exact fy dv (fw _ _ _) gH (gy _ _) (meets_str_split_sep a b t t' h1 B hf (by omega) f) ⟨.ref _,_,I.lnew (its:=strsFrom s.toks _) (Nn _ _) (by rw[aC];exact f),rfl,q⟩
section
variable{tb:TE}
theorem Si{n:Int}(ha:a.data=.int n)(hn:-(2 ^ 64)<=n/\n<=2 ^ 64)(q:Q (.av (.d (.str (nT n)))))(A:NR a:=by walk_at "n"):Bi K E X Ni [a] Q:=λI Z o ts as H vs W s L _ k=>by
 obtain⟨v,rfl,s⟩:=one_of s L
 have r:=s.top A
 rw[ha] at r
 exact⟨n,by rw[r.int_inv],hn,k _ q _ H (s.pop.push λ_=>.str _)⟩
theorem Nq{n:Int}(ha:a.data=.str z)(C:z.length<=640)(hn:fj z=aa n)(q:Q (.av (.d (.int n))))(A:NR a:=by walk_at "n"):Bi K E X Nj [a] Q:=λI Z o ts as H vs W s L _ k=>by
 obtain⟨v,rfl,s⟩:=one_of s L
 have r:=s.top A
 rw[ha] at r
 exact⟨z,n,by rw[L2.Rep.str_inv r],C,hn,k _ q _ H (s.pop.int _)⟩
theorem Nr(h:Ev K E X ta ρ λa=>∃ y:au,a.data=.str y/\NR a/\Ev K E X tb ρ λb=>∃ z:au,b.data=.str z/\NR b/\0<z.length/\y.length<=1000000/\Q (.av (.own ((gF y z).map λw=>.d (.str w))))):Ev K E X (tBM K "str" Nl ta (ZD tb ZV)) ρ Q:=λI Z ts as H W s x k =>
 h I Z ts as H _ s x <|by
  rintro a ⟨y,ea,na,h2⟩ v H1 s1
  have r:=s1.top na
  rw[ea] at r
  have e:=L2.Rep.str_inv r
  subst e
  refine⟨rfl,h2 I Z _ _ H1 _ s1 x ?_⟩
  rintro b ⟨z,eb,nb,hz,hy,q⟩ w H2 s2
  have r:=s2.top nb
  rw[eb] at r
  have e:=L2.Rep.str_inv r
  subst e
  exact⟨y,z,rfl,rfl,hz,by rw[eX];omega,λp O=>k _ q _ _ ((s2.pop.pop.strs (gF y z)).new (by simp) O)⟩
end
theorem VQ{y:au}(ha:a.data=.str y)(hb:b.data=.str z)(q:Q (.av (.d (.bool (gx z y)))))(A:NR a:=by walk_at "n")(w:NR b:=by walk_at "n"):Op K E X (VF K aw) a b Q:=λI Z o ts as H u v W s _ k=>by
 have U:=s.pop.top A
 have R:=s.top w
 rw[ha] at U
 rw[hb] at R
 exact .inr (.inr ⟨y,z,L2.Rep.str_inv U,L2.Rep.str_inv R,k _ q _ H (s.pop.pop.bl _)⟩)
theorem Hm{y:au}(ha:a.data=.str y)(hb:b.data=.str z)(q:Q (.av (.d (.bool (!Txt.contains z y)))))(A:NR a:=by walk_at "n")(w:NR b:=by walk_at "n"):Op K E X (VF K ac) a b Q:=λI Z o ts as H u v W s _ k=>by
 have U:=s.pop.top A
 have R:=s.top w
 rw[ha] at U
 rw[hb] at R
 exact .inr (.inr ⟨y,z,L2.Rep.str_inv U,L2.Rep.str_inv R,k _ q _ H (s.pop.pop.bl _)⟩)
class Elt (α:Type) [DecidableEq α] where
 val:α->iL->af
 kk:(P:bg)->(w:bK)->hV P w α
 is:∀ P w z t,(kk P w).is z (val z t)=ac
 sc:∀ z t,(val z t).scannable=ac
 d:α
 are:List af->List α->Prop
 nil:are [] []
 cons:∀ z t {vs zs},are vs zs->are (val z t::vs) (z::zs)
 inv:∀ {v vs zs},are (v::vs) zs->∃ z t zs',v=val z t/\zs=z::zs'/\are vs zs'
 inv0:∀ {zs},are [] zs->zs=[]
noncomputable instance:Elt Str:=⟨.str,λP w=>PySem.strKind P w,λP w z t=>strKind_is P w z t,λ_ _=>rfl,cW,StrsAre,.nil,λz t _ _ h=>.cons z t h,λh=>by cases h with|cons z t h=>exact⟨z,t,_,rfl,rfl,h⟩,λh=>by cases h;rfl⟩
noncomputable instance:Elt Int:=⟨.int,λP w=>PySem.intKind P w,λP w z t=>intKind_is P w z t,λ_ _=>rfl,0,ii,.nil,λz t _ _ h=>.cons z t h,λh=>by cases h with|cons z t h=>exact⟨z,t,_,rfl,rfl,h⟩,λh=>by cases h;rfl⟩
theorem Rep.strsL{zs:List au}(h:Rep K H v (.list (zs.map .str))):∃ l,v=.ref l/\SqL K H l (zs.map V.str):=by
 cases h with
 | @lst a xs ds U R =>
  refine⟨a,rfl,?_⟩
  have:xs=zs.map V.str:=by
   clear U
   induction zs generalizing xs with
   | nil=>cases R;rfl
   | cons k c B=>cases R with
    | cons r rs=>rw[Rep.str_inv r,B rs];rfl
  rw[<- this];exact U
variable{ι:Type}
def R1(m:au)(Cl:ι->ah)(sp:ι->Sp)(E:XK)(ta:TE):TE:=λσ H Q=>ta σ H λx H1=>∃ j a dx fs,x=.ref a/\H1 a=aa (.ins (Cl j) dx fs)/\fs.lookup m=none/\sp j [x] H1 Q E
variable{m:au}
theorem VR{X:Cx}{sp:ι->Sp}{E:XK}{o:cz}{Cl:ι->ah}(e:PE X o ta)
  (R:∀ j,Cls X.K (Cl j)/\∃ f fd,Meth X.K (Cl j) m f/\FnOk X.prog X.w X.K X.mg X.base CX k f fd ["self"] (sp j)/\Zq X.K fd ["self"] []) (J:Room k X.A) (W:Xv CX X E)
  (ht:cg (.Call (.Attribute o m apos) [] [] pos) X.env=(do
   let ov <- cg o X.env
   jd apos.atName
   let (f,first) <- jf [ov] (gr ov m pl)
   ir pos f first (bZ pos (aB [] X.env)) (gh pos (eo [] X.env))):=by rfl) :
  PE X (.Call (.Attribute o m apos) [] [] pos) (R1 m Cl sp E ta):=by
 intro O s Z H Q I h
 refine dC (pl:=pl) (thn (e O s Z H _ I h) ?_) ht
 rintro u s1 ⟨x,H1,I1,rx,j,a,dx,fs,ex,ea,l,q⟩
 subst ex
 obtain rfl:u=aD a:=rx
 obtain⟨c,f,fd,M,F,B⟩:=R j
 refine Tk I1 ea c M l ?_
 exact fm (first:=[.ref a]) I1.kIn M.kp (Tm (us:=[.ref a]) (vs:=[.ref a]) (dvs:=[]) F J B .nil W I1 (.cons rfl .nil) q)
theorem ZX{X:Cx}{f:au}(h:X.K=K)(j:PE X e ta)(hb:df e f X.env (cg e X.env)=cg e X.env:=by rfl):PE X (.Attribute e f pos) (WD K ta f):=h▸LB j hb
def Xh(C:ah)(ks:List au):Sp:=λvs H Q _=>∃ e dx ws,vs=.ref e::ws/\ws.length=ks.length/\H e=aa (.ins C dx [])/\Q .non (upd H e (.ins C dx (ks.zip ws)))
section
variable{e:ah}{k4:au}{Q:VK}{w1 w2 w3 w4:V}
theorem Hn(c:Cls K C)(J:Zt K C k1)(Z:Zt K C k2)(N:∀ a b:V,Zv k2 b [(k1,a)]=[(k1,a),(k2,b)])(j:H e=aa (.ins C dx []))(q:Q .non (upd H e (.ins C dx [(k1,w1),(k2,w2)]))) :
  Yj (Z1 K (Zj 0) (Zj 1) k1) (Z1 K (Zj 0) (Zj 2) k2) { nx:=λ_ H'=>Q .non H',rt:=Q } [aa (.ref e),aa w1,aa w2] H :=
 ⟨w1,rfl,.ref e,rfl,e,C,dx,[],rfl,j,c,J,by simp,w2,rfl,.ref e,rfl,e,C,dx,[(k1,w1)],rfl,Zw,c,Z,by simp,by
  show Q .non (upd (upd H e (.ins C dx [(k1,w1)])) e (.ins C dx (Zv k2 w2 [(k1,w1)])))
  rw[Xs,N];exact q⟩
theorem Ho(c:Cls K C)(J:Zt K C k1)(Z:Zt K C k2)(u:Zt K C k3)(N:∀ a b d:V,Zv k3 d (Zv k2 b [(k1,a)])=[(k1,a),(k2,b),(k3,d)])(j:H e=aa (.ins C dx []))(q:Q .non (upd H e (.ins C dx [(k1,w1),(k2,w2),(k3,w3)]))) :
  Yj (Z1 K (Zj 0) (Zj 1) k1) (Yj (Z1 K (Zj 0) (Zj 2) k2) (Z1 K (Zj 0) (Zj 3) k3)) { nx:=λ_ H'=>Q .non H',rt:=Q } [aa (.ref e),aa w1,aa w2,aa w3] H :=
 ⟨w1,rfl,.ref e,rfl,e,C,dx,[],rfl,j,c,J,by simp,w2,rfl,.ref e,rfl,e,C,dx,[(k1,w1)],rfl,Zw,c,Z,by simp,w3,rfl,.ref e,rfl,e,C,dx,Zv k2 w2 [(k1,w1)],rfl,Zw,c,u,by have:=Vt k2 w2 [(k1,w1)];simp at this;omega,by
  show Q .non (upd (upd (upd H e (.ins C dx [(k1,w1)])) e (.ins C dx (Zv k2 w2 [(k1,w1)]))) e (.ins C dx (Zv k3 w3 (Zv k2 w2 [(k1,w1)]))))
  rw[Xs,Xs,N];exact q⟩
theorem Hq(c:Cls K C)(J:Zt K C k1)(Z:Zt K C k2)(u:Zt K C k3)(I:Zt K C k4)(N:∀ a b d g:V,Zv k4 g (Zv k3 d (Zv k2 b [(k1,a)]))=[(k1,a),(k2,b),(k3,d),(k4,g)])(j:H e=aa (.ins C dx []))(q:Q .non (upd H e (.ins C dx [(k1,w1),(k2,w2),(k3,w3),(k4,w4)]))) :
  Yj (Z1 K (Zj 0) (Zj 1) k1) (Yj (Z1 K (Zj 0) (Zj 2) k2) (Yj (Z1 K (Zj 0) (Zj 3) k3) (Z1 K (Zj 0) (Zj 4) k4))) { nx:=λ_ H'=>Q .non H',rt:=Q } [aa (.ref e),aa w1,aa w2,aa w3,aa w4] H:=by
 have f:=Vt k2 w2 [(k1,w1)]
 have h:=Vt k3 w3 (Zv k2 w2 [(k1,w1)])
 simp at f
 refine⟨w1,rfl,.ref e,rfl,e,C,dx,[],rfl,j,c,J,by simp,w2,rfl,.ref e,rfl,e,C,dx,[(k1,w1)],rfl,Zw,c,Z,by simp,w3,rfl,.ref e,rfl,e,C,dx,Zv k2 w2 [(k1,w1)],rfl,Zw,c,u,by omega,w4,rfl,.ref e,rfl,e,C,dx,Zv k3 w3 (Zv k2 w2 [(k1,w1)]),rfl,Zw,c,I,by omega,?_⟩
 show Q .non (upd (upd (upd (upd H e (.ins C dx [(k1,w1)])) e (.ins C dx (Zv k2 w2 [(k1,w1)]))) e (.ins C dx (Zv k3 w3 (Zv k2 w2 [(k1,w1)])))) e (.ins C dx (Zv k4 w4 (Zv k3 w3 (Zv k2 w2 [(k1,w1)])))))
 rw[Xs,Xs,Xs,N];exact q
end
theorem SqL.updN{a b:ah}{xs:List V}(h:SqL K H a xs)(hb:H b=none):SqL K (L2.upd H b o) a xs:=by
 rcases h with h|h
 ·rcases h with h|⟨ob,h⟩
  ·exact .inl (.inl (by rw[Zd (λz=>by rw[z,hb] at h;cases h)];exact h))
  ·exact .inl (.inr ⟨ob,by rw[Zd (λz=>by rw[z,hb] at h;cases h)];exact h⟩)
 ·exact .inr h
theorem SqL.updI{a b:ah}{fs:List (au×V)}{xs:List V}(h:SqL K H a xs)(hb:H b=aa (.ins C dx fs)):SqL K (L2.upd H b o) a xs:=by
 rcases h with h|h
 ·rcases h with h|⟨ob,h⟩
  ·exact .inl (.inl (by rw[Zd (λz=>by rw[z,hb] at h;cases h)];exact h))
  ·exact .inl (.inr ⟨ob,by rw[Zd (λz=>by rw[z,hb] at h;cases h)];exact h⟩)
 ·exact .inr h
section
variable{p2 p3 p4 k4:au}
theorem mk2(F:FunD K "__init__" qual st dV f fd)(i:FnScope [self,p1,p2] [self,p1,p2] (Zb st))(c:Cls K C)(J:Zt K C k1)(Z:Zt K C k2)(N:∀ a b:V,Zv k2 b [(k1,a)]=[(k1,a),(k2,b)])
  (hbody:∀ (cdv:af) (A:bv) (outer:List eF) (s:aq) (H:Hp) (E:XK),PSs (ZJ CX P w K mg base [self,p1,p2] qual (Zb st) f cdv A outer s H E).nox (Zy st) (Yj (Z1 K (Zj 0) (Zj 1) k1) (Z1 K (Zj 0) (Zj 2) k2))) :
  FnOk P w K mg base CX (k+1) f fd [self,p1,p2] (Xh C [k1,k2]):=by
 refine F.ok i ((by rintro vs H Q E ⟨e,dx,G,z,l,_⟩;rw[z,aS,l];rfl)) λcdv A outer s H vs Q E _ h=>⟨_,hbody cdv A outer s H E,?_⟩
 obtain⟨e,dx,G,rfl,l,j,q⟩:=h
 match G,l with
 | [w1,w2],_=>exact Hn c J Z N j q
theorem mk3(F:FunD K "__init__" qual st dV f fd)(i:FnScope [self,p1,p2,p3] [self,p1,p2,p3] (Zb st))(c:Cls K C)(J:Zt K C k1)(Z:Zt K C k2)(u:Zt K C k3)(N:∀ a b d:V,Zv k3 d (Zv k2 b [(k1,a)])=[(k1,a),(k2,b),(k3,d)])
  (hbody:∀ (cdv:af) (A:bv) (outer:List eF) (s:aq) (H:Hp) (E:XK),PSs (ZJ CX P w K mg base [self,p1,p2,p3] qual (Zb st) f cdv A outer s H E).nox (Zy st) (Yj (Z1 K (Zj 0) (Zj 1) k1) (Yj (Z1 K (Zj 0) (Zj 2) k2) (Z1 K (Zj 0) (Zj 3) k3)))) :
  FnOk P w K mg base CX (k+1) f fd [self,p1,p2,p3] (Xh C [k1,k2,k3]):=by
 refine F.ok i ((by rintro vs H Q E ⟨e,dx,G,z,l,_⟩;rw[z,aS,l];rfl)) λcdv A outer s H vs Q E _ h=>⟨_,hbody cdv A outer s H E,?_⟩
 obtain⟨e,dx,G,rfl,l,j,q⟩:=h
 match G,l with
 | [w1,w2,w3],_=>exact Ho c J Z u N j q
theorem mk4(F:FunD K "__init__" qual st dV f fd)(i:FnScope [self,p1,p2,p3,p4] [self,p1,p2,p3,p4] (Zb st))(c:Cls K C)(J:Zt K C k1)(Z:Zt K C k2)(u:Zt K C k3)(I:Zt K C k4)(N:∀ a b d g:V,Zv k4 g (Zv k3 d (Zv k2 b [(k1,a)]))=[(k1,a),(k2,b),(k3,d),(k4,g)])
  (hbody:∀ (cdv:af) (A:bv) (outer:List eF) (s:aq) (H:Hp) (E:XK),PSs (ZJ CX P w K mg base [self,p1,p2,p3,p4] qual (Zb st) f cdv A outer s H E).nox (Zy st) (Yj (Z1 K (Zj 0) (Zj 1) k1) (Yj (Z1 K (Zj 0) (Zj 2) k2) (Yj (Z1 K (Zj 0) (Zj 3) k3) (Z1 K (Zj 0) (Zj 4) k4))))) :
  FnOk P w K mg base CX (k+1) f fd [self,p1,p2,p3,p4] (Xh C [k1,k2,k3,k4]):=by
 refine F.ok i ((by rintro vs H Q E ⟨e,dx,G,z,l,_⟩;rw[z,aS,l];rfl)) λcdv A outer s H vs Q E _ h=>⟨_,hbody cdv A outer s H E,?_⟩
 obtain⟨e,dx,G,rfl,l,j,q⟩:=h
 match G,l with
 | [w1,w2,w3,w4],_=>exact Hq c J Z u I N j q
end
variable {fds:List (au×ak)}
theorem R3{f:au}{x:ak}:∀ {fs:List (au×V)} {fds:List (au×ak)},fs.map bH=fds.map bH->Reps K G (fs.map bz) (fds.map bz)->fds.lookup f=aa x->∃ v,fs.lookup f=aa v/\Rep K G v x
 | [],[],_,_,h=>by cases h
 | [],_::_,e,_,_=>by cases e
 | _::_,[],e,_,_=>by cases e
 | (g,v)::fs,(g',d)::fds,e,r,h=>by
  simp only[bp,gn] at e
  obtain⟨rfl,e⟩:=e
  cases r with
  | cons r rs =>
   rw[bN] at h ⊢
   cases q:f == g with
   | true=>rw[q] at h;cases h;exact⟨v,rfl,r⟩
   | false=>rw[q] at h;exact R3 e rs h
theorem Nt{f:au}:∀ {fs:List (au×V)} {fds:List (au×ak)},fs.map bH=fds.map bH->fds.lookup f=none->fs.lookup f=none
 | [],_,_,_=>rfl
 | _::_,[],e,_=>by cases e
 | (g,v)::fs,(g',d)::fds,e,h=>by
  simp only[bp,gn] at e
  obtain⟨rfl,e⟩:=e
  rw[bN] at h ⊢
  cases q:f == g with
  | true=>rw[q] at h;cases h
  | false=>rw[q] at h;exact Nt e h
structure InsCls(K:ay)(C:ah):Prop where
 cl:Cls K C
 ha:ag K (.ref C) "__class__" = aa (aa (.builtin "object.__class__"))
 hn:eZ K (.builtin "object.__class__") "__get__" = aa (aa (.builtin "getset_descriptor.__get__"))
 ht:fF K (.builtin "object.__class__")=aa ac
 hm:bJ K C (.type "object")=aa ac
noncomputable def R4:ak->Bool
 | .int _=>ac
 | .str _=>ac
 | _=>aw
theorem Hr{d:ak}(h:R4 d=ac)(r:Rep K G v d):∀ G':Hp,Rep K G' v d:=λG'=>by
 cases d with
 | int i=>rw[r.int_inv];exact .int i
 | str z=>rw[Rep.str_inv r];exact .str z
 | _=>cases h
theorem Nu{β:Type}:∀ {ks:List au} {vs:List β},vs.length=ks.length->(ks.zip vs).map bH=ks
 | [],[],_=>rfl
 | _::_,_::_,h=>by simp only[cj,bp];rw[Nu (by simpa using h)]
 | [],_::_,h=>by cases h
 | _::_,[],h=>by cases h
theorem Nv{β:Type}:∀ {ks:List au} {vs:List β},vs.length=ks.length->(ks.zip vs).map bz=vs
 | [],[],_=>rfl
 | _::_,_::_,h=>by simp only[cj,bp];rw[Nv (by simpa using h)]
 | [],_::_,h=>by cases h
 | _::_,[],h=>by cases h
theorem Sj{G:Hp}:∀ zs:List au,Reps K G (zs.map V.str) (zs.map aY)
 | []=>.nil
 | z::zs=>.cons (.str z) (Sj zs)
variable{Post:List AV->List AV->AV->Prop}
section
variable{Pre:Θ->List AV->Prop}{Post:Θ->List AV->AV->Prop}
theorem valM(F:FunD K name qual st dV f fd)(i:FnScope N ps (Zb st))(C:∀ O cs,Pre O cs->cs.length=ps.length)
  (hbody:∀ (O:Θ) (cdv:af) (A:bv) (outer:List eF) (s:aq) (H:Hp) (E:XK),Room k (A.deeper (bQ qual (Zb st) s.heap.objs.size f cdv)) ->
   ∃ t,PSs (ZJ CX P w K mg base N qual (Zb st) f cdv A outer s H E).nox (Zy st) t/\∀ cs,Pre O cs->Sv K (toF E) NE t (inA N cs) (WL (Post O cs))) :
  FnOk P w K mg base CX (k+1) f fd ps (spF K Pre Post) :=
 F.ok i ((by rintro vs H Q E ⟨O,h⟩;exact VM h (C O))) λcdv A outer s H vs Q E hr ⟨O,h⟩ =>
  let ⟨t,U,R⟩:=hbody O cdv A outer s H E hr
  ⟨t,U,T4 h λcs pre=>R cs pre⟩
end
def VS(P:bg)(w:bK)(K:ay)(mg:au->Option af)(base:bG)(CX:CXT)(k:Nat)(ps:List au)(sp:Sp)(v:V)(_:Hp):Prop:=∃ f fd,v=.ref f/\FnOk P w K mg base CX k f fd ps sp/\az K (.ref f)=ac/\Zq K fd ps []
def Sk(P:bg)(w:bK)(K:ay)(mg:au->Option af)(base:bG)(CX:CXT)(k:Nat)(ps:List au)(sp:Sp):TE:=λ_ H Q=>∀ v,VS P w K mg base CX k ps sp v H->Q v H
section
variable{X:Cx}
theorem Hs(c:Cal X.prog X.w X.K X.mg X.base CX k x ps [] sp)(M:Gl X x)(hd:(x == ("__debug__" : au))=false:=by decide):PE X (.Name x pos) (Sk X.prog X.w X.K X.mg X.base CX k ps sp):=by
 obtain⟨f,a,ds,U,K,N,G,S⟩:=c.ex
 cases S
 intro O s Z H Q I h
 exact X9 (v:=.ref f) M K rfl hd O s Z H Q I (h _ ⟨f,a,rfl,U,N,G⟩)
theorem Wi(Q:X.prog=P)(hw:X.w=w)(hK:X.K=K)(hm:X.mg=mg)(hb:X.base=base)(c:Cal P w K mg base CX k x ps [] sp)(M:Gl X x)(hd:(x == ("__debug__" : au))=false:=by decide):PE X (.Name x pos) (Sk P w K mg base CX k ps sp):=by
 subst Q hw hK hm hb
 exact Hs c M hd
end
theorem Ht(q:Q (.av (.obj (VS P w K mg base CX k ps sp)))):Ev K E X (Sk P w K mg base CX k ps sp) ρ Q:=λI Z ts as H W s x f v S =>
 f _ q v H (by
  obtain⟨⟨p,q,U,R,a,F⟩,e⟩:=s
  exact⟨⟨p,q,U,.cons (.av (.obj (p:=λ_=>0) S (λ_ _ _ h=>h) λ_=>rfl)) R (λb=>by simp),a,F⟩,e⟩)
variable{p:List α->Prop}
theorem VT(h:∀ a us,us.length=n->p (a::us)):∀ us,us.length=n+1->p us:=λus L=>by
 cases us with
 | nil=>cases L
 | cons a us=>exact h a us (fK L)
theorem ls0(h:p []):∀ us:List α,us.length=0->p us:=λus L=>by rw[List.length_eq_zero_iff.mp L];exact h
theorem lsS(f:∀ us:List α,us.length=n->p us):∀ us:List α,us.length+1=n+1->p us:=λus L=>f us (fK L)
theorem ls1(h:∀ a,p [a]):∀ us:List α,us.length=1->p us:=VT λa=>ls0 (h a)
theorem ls2(h:∀ a b,p [a,b]):∀ us:List α,us.length=2->p us:=VT λa=>ls1 (h a)
theorem ls3(h:∀ a b c,p [a,b,c]):∀ us:List α,us.length=3->p us:=VT λa=>ls2 (h a)
theorem ls4(h:∀ a b c d,p [a,b,c,d]):∀ us:List α,us.length=4->p us:=VT λa=>ls3 (h a)
theorem ls5(h:∀ a b c d e,p [a,b,c,d,e]):∀ us:List α,us.length=5->p us:=VT λa=>ls4 (h a)
theorem ls6(h:∀ a b c d e f,p [a,b,c,d,e,f]):∀ us:List α,us.length=6->p us:=VT λa=>ls5 (h a)
variable {x:ak}
section
variable{bk:Sl->Prop}{o:Option AV}
theorem Nw{x:α}(h:l[i]?=aa x):i<l.length:=(List.getElem?_eq_some_iff.mp h).1
theorem g_o(h:ρ[n]?=aa (aa (.own xs)))(q:Q (.bor (.list (AV.datas xs)))):Ev K E X (Zj n) ρ Q:=K4 h q
theorem g_a(W:ρ[n]?=aa o)(h:Ev K E X te ρ λa=>∃ j,Sto ρ a j/\nx (ρ.set n (aa j))):Sv K E X (WZ te (WB n)) ρ ⟨nx,rt,bk,ct⟩:=Jr h (Nw W)
theorem g_g{P:Sl->Prop}(W:ρ[n]?=aa o)(h:P (ρ.set n (aa (.d x)))):Gv K (WB n) x ρ P:=Js h (Nw W)
theorem g_ap(W:ρ[n]?=aa (aa (.own xs)))(h:Ev K E X te ρ λa=>∃ j,a.sto=aa j/\xs.length<=1000000/\nx (ρ.set n (aa (.own (xs++[j]))))):Sv K E X (WY (tBM K "list" Tr (Zj n) (ZD te ZV))) ρ ⟨nx,rt,bk,ct⟩:=Jt W h
def Hd(p:Prop):Prop:=p
def Im(R N:Sl->Prop):Prop:=∀ ρ,R ρ->N ρ
theorem Nx{N R:Sl->Prop}(h:Im R N)(r:R ρ):Hd (N ρ):=h _ r
theorem Ny{t:TS}(h:∀ N:Sl->Prop,Im (λB=>Sv K E X u B ⟨nx,rt,bk,ct⟩) N->Sv K E X t ρ ⟨λB=>Hd (N B),rt,bk,ct⟩):Sv K E X (Yj t u) ρ ⟨nx,rt,bk,ct⟩:=JL (h _ λ_ z=>z)
end
def dO(C:ah)(fds:List (au×ak)):PyData:=.dict ((.none,.int C)::(.none,.none)::fds.map λp=>(.str p.1,p.2))
def dFz(ds:List ak):PyData:=.dict ((.none,.bool ac)::ds.map λd=>(.none,d))
theorem Hu:∀ {ks:List au} {ds:List ak} {fds:List (au×ak)},ks.length=ds.length->(fds.map λp=>(aY p.1,p.2))=(ks.map aY).zip ds->ks=fds.map bH/\ds=fds.map Prod.snd:=by
 intro ks
 induction ks with
 | nil =>
  intro ds fds e z
  cases ds with
  | nil=>cases fds with
   | nil=>exact⟨rfl,rfl⟩
   | cons _ _=>cases z
  | cons _ _=>cases e
 | cons k ks B =>
  intro ds fds e z
  cases ds with
  | nil=>cases e
  | cons d ds=>cases fds with
   | nil=>cases z
   | cons p fds =>
    obtain⟨I,O⟩:=aF z
    obtain⟨o,E⟩:=B (by simpa using e) O
    simp only[cm,ic] at I
    rw[o,E,<- I.1,<- I.2]
    exact⟨rfl,rfl⟩
theorem Rep.ins_inv(r:Rep K H v (dO C fds)):∃ a dx fs,v=.ref a/\H a=aa (.ins C dx fs)/\fs.map bH=fds.map bH/\Reps K H (fs.map bz) (fds.map bz):=by
 unfold dO at r
 cases r with
 | exc _ z=>exact nomatch (aF z).2
 | @excF _ _ _ vs ds _ _ _ rs z =>
  have z:=(aF z).2
  cases vs with
  | nil=>cases z
  | cons p vs=>cases ds with
   | nil=>cases z
   | cons d ds=>exact nomatch (aF z).1
 | dK _ _ z=>exact absurd z Ul
 | dT _ _ z=>exact absurd z Um
 | dN _ _ _ z=>exact absurd z Uo
 | @ins a j dx fs ds _ h n rs z =>
  obtain⟨I,O⟩:=aF z
  have e:C=j:=by
   simp only[cm,cF,true_and] at I
   exact di I
  subst e
  have m:=(aF O).2
  rw[show (fs.map λp=>aY p.1)=(fs.map bH).map aY by rw[e7];rfl] at m
  obtain⟨o,E⟩:=Hu (by rw[aC];have:=rs.length;simpa using this) m
  exact⟨a,dx,fs,rfl,h,o,E▸rs⟩
 | fz _ _ z=>exact nomatch (aF z).1
 | rd _ _ _ z=>exact nomatch (aF (aF z).2).1
theorem Rep.fz_inv(r:Rep K H v (dFz ds)):Rep K H v (.list ds):=by
 unfold dFz at r
 cases r with
 | exc _ z=>exact nomatch (aF z).1
 | excF _ _ _ z=>exact nomatch (aF z).1
 | dK _ _ z=>exact absurd z Ul
 | dT _ _ z=>exact absurd z Um
 | dN _ _ _ z=>exact absurd z Uo
 | ins _ _ _ z=>exact nomatch (aF z).1
 | @fz a o xs b _ h rs z =>
  have e:ds=b:=(List.map_inj_right λx y e=>(fb e).2).mp (aF z).2
  exact e▸.lst (.inl (.inr ⟨o,h⟩)) rs
 | rd _ _ _ z=>exact nomatch (aF z).1
theorem SR.newI{y:ah}(h:SR K H0 σ ρ (vs++ts) (xs.map TV.av++as) H)(e:vs.length=xs.length)(N:vs.length=ks.length)(n:ks≠rdN)(B:H y=none)(hd:H dx=none)(A:dx≠y) :
  SR K H0 σ ρ (.ref y::ts) (.av (.d (dO C (ks.zip (AV.datas xs))))::as) (upd (upd H dx (.own y)) y (.ins C dx (ks.zip vs))):=by
 obtain⟨⟨p,q,U,R,S,F⟩,s⟩:=h
 have g:=SR.lsts U R
 obtain⟨c,Y,M,t,O⟩:=RTs.avs (xs:=xs) e R
 have s2:Zg H (upd (upd H dx (.own y)) y (.ins C dx (ks.zip vs))):=(XM hd).trans (XM (by rw[Zd (bY A)];exact B))
 have f:p y+q y=0:=by
  rcases ax (p y+q y) with w|w
  ·exact w
  ·obtain⟨_,w,_⟩:=g y w;rw[B] at w;cases w
 have m:Zg (L2.hid H p q) (L2.hid (upd (upd H dx (.own y)) y (.ins C dx (ks.zip vs))) p Y):=(hid_more (p':=p) (q':=Y) λb z=>by have:=M b;omega).trans (VG s2)
 have i:(AV.datas xs).length=ks.length:=by rw[AV.datas_map,aC,<- e,N]
 refine⟨⟨p,Y,U.mono m (λb o _=>s2 b o),.cons (.av (.d (p:=λ_=>0) (.ins (C:=C) (dx:=dx) (fs:=ks.zip vs) (ds:=AV.datas xs) ?_ (by rw[Nu N];exact n) ?_ ?_) λ_=>rfl)) (O.mono m s2) (λb=>by simp),λb=>by have:=M b;have:=S b;omega,λb z=>F b (by have:=M b;omega)⟩,s.trans s2⟩
 ·unfold L2.hid;rw[if_pos (by have:=M y;omega)];exact Zw
 ·rw[Nv N]
  refine t.frz m λb o j z=>?_
  unfold L2.hid;rw[if_pos (by have:=M b;have:=S b;omega)];exact s2 b o z
 ·congr 2
  have T:∀ {ks:List au} {ds:List ak} {vs:List V},vs.length=ks.length->ds.length=ks.length->((ks.zip ds).map λp=>(aY p.1,p.2))=((ks.zip vs).map λp=>aY p.1).zip ds:=by
   intro ks
   induction ks with
   | nil=>intro ds vs _ _;rfl
   | cons k ks l =>
    intro ds vs a b
    cases ds with
    | nil=>cases b
    | cons d ds=>cases vs with
     | nil=>cases a
     | cons v vs =>
      rw[cj,cj,bp,bp,cj,l (by simpa using a) (by simpa using b)]
  exact T N i
variable{f:au}
theorem Hv(h:Ev K E X te ρ λa=>∃ (C:ah) (fds:List (au×ak)) (y:ak) (c:TV),a.data=dO C fds/\NR a/\Cls K C/\Zt K C f/\fds.lookup f=aa y/\ZT a y c/\Q c):Ev K E X (WD K te f) ρ Q:=λI Z ts as H W s x k =>
 h I Z ts as H _ s x <|by
  rintro a ⟨C,fds,y,c,ea,na,cl,n,l,it,q⟩ v H' s'
  obtain⟨w,⟨b,dx,fs,rfl,U,S⟩,s2⟩:=s'.item (c:=c) (y:=y) na it (λw=>∃ b dx fs,v=.ref b/\H' b=aa (.ins C dx fs)/\fs.lookup f=aa w) λG r u=>by
   rw[ea] at r
   obtain⟨b,dx,fs,e,U,R,F⟩:=Rep.ins_inv r
   obtain⟨w,N,J⟩:=R3 R F l
   exact⟨w,⟨b,dx,fs,e,u _ _ U,N⟩,J⟩
  exact⟨b,C,dx,fs,w,rfl,U,cl,n,S,k _ q _ _ s2⟩
theorem Hw(h:Ev K E X te ρ λa=>∃ (C:ah) (fds:List (au×ak)) (ds:List ak),a.data=dO C fds/\NR a/\Cls K C/\Zt K C f/\fds.lookup f=aa (dFz ds)/\Q (.bor (.list ds))):Ev K E X (WD K te f) ρ Q:=λI Z ts as H W s x k =>
 h I Z ts as H _ s x <|by
  rintro a ⟨C,fds,ds,ea,na,cl,n,l,q⟩ v H' s'
  obtain⟨w,⟨b,dx,fs,rfl,U,S⟩,s2⟩:=s'.item (c:=.bor (.list ds)) (y:=.list ds) na (.inr (.inr rfl)) (λw=>∃ b dx fs,v=.ref b/\H' b=aa (.ins C dx fs)/\fs.lookup f=aa w) λG r u=>by
   rw[ea] at r
   obtain⟨b,dx,fs,e,U,R,F⟩:=Rep.ins_inv r
   obtain⟨w,N,J⟩:=R3 R F l
   exact⟨w,⟨b,dx,fs,e,u _ _ U,N⟩,Rep.fz_inv J⟩
  exact⟨b,C,dx,fs,w,rfl,U,cl,n,S,k _ q _ _ s2⟩
theorem Hx{Cl:ι->ah}{Pre:ι->Θ->List AV->Prop}{Post:ι->Θ->List AV->AV->Prop}(h:Ev K E X te ρ λa=>∃ (j:ι) (fds:List (au×ak)),a.data=dO (Cl j) fds/\NR a/\fds.lookup m=none/\∃ O,ClR (Pre j O) (Post j O) NP [] Q (λ_=>True) [a]):Ev K E X (R1 m Cl (λj=>spF K (Pre j) (Post j)) E' te) ρ Q:=λI Z ts as H W s x k =>
 h I Z ts as H _ s x <|by
  rintro a ⟨j,fds,ea,na,hl,O,cs,sh,pre,q,_⟩ v H' s'
  have r:=s'.top na
  rw[ea] at r
  obtain⟨b,dx,fs,rfl,U,R,_⟩:=Rep.ins_inv r
  obtain⟨f,s2⟩:=SR.lent (vs:=[.ref b]) sh rfl s'
  exact⟨j,b,dx,fs,rfl,U,Nt R hl,O,x.t.same s2.same,cs++[],f.app Uy,pre,λc Y v H2 r=> (by obtain⟨a,g,z⟩:=q c Y;exact k a z v H2 (s2.gotG r g)),λe z=>z.elim⟩
theorem Wj{c:V}{b:Bool}(g:InsCls K C)(ea:a.data=dO C fds)(A:NR a)(Y:XL c=aa cv)(e:ao K (.ref C) cv=aa b)(q:Q (.av (.d (.bool b)))):Bi K E X (X1 K) [a,.raw c] Q:=λI Z o ts as H vs W s L _ k=>by
 obtain⟨v,w,rfl,s⟩:=Ry s L
 have N:=s.pop.raw
 subst N
 have r:=s.top A
 rw[ea] at r
 obtain⟨j,dx,fs,rfl,l,_⟩:=Rep.ins_inv r
 exact KO Y (TyOf.ins l g.cl g.ha g.hn g.ht g.hm) e (k _ q _ _ (s.pop.pop.bl _))
theorem Sm(h:Ea K E X A ρ λbs=>∃ xs:List AV,Stos bs xs/\xs.length=ks.length/\ks≠rdN/\Q (.av (.d (dO C (ks.zip (AV.datas xs)))))):Ev K E X (Vw C (Xh C ks) [] E' A) ρ Q:=λI Z ts as H W s x k =>
 h I Z ts as H _ s x <|by
  rintro bs ⟨xs,hs,hd,hn,q⟩ vs H1 s1 hl y dx hy hdx hne
  have a:vs.length=ks.length:=by rw[hl,hs.len,hd]
  refine⟨y,dx,vs,by simp,a,Zw,rfl,?_⟩
  rw[Xs]
  exact k _ q _ _ (SR.newI (SR.stos (us:=[]) (cs:=[]) hs hl rfl s1) (by rw[hl,hs.len]) a hn hy hdx hne)
theorem YD(hi:ρ[i]?=aa (aa (.d (dO C fds))))(c:Cls K C)(n:Zt K C f)(L:fds.lookup f=aa y)(q:Q (.av (.d y))):Ev K E X (WD K (Zj i) f) ρ Q:=Hv (YF hi ⟨C,fds,y,_,rfl,NR.av,c,n,L,ZT.d,q⟩)
theorem Nz(hi:ρ[i]?=aa (aa (.d (dO C fds))))(c:Cls K C)(n:Zt K C f)(L:fds.lookup f=aa (dFz ds))(q:Q (.bor (.list ds))):Ev K E X (WD K (Zj i) f) ρ Q:=Hw (YF hi ⟨C,fds,ds,rfl,NR.av,c,n,L,q⟩)
def VU(te:TE):TE:=λσ H Q=>te σ H λv H1=>∃ l xs,v=.ref l/\H1 l=aa (.lst xs)/\∀ ob,Q v (upd H1 l (.frz ob (.lst xs)))
theorem R5{X:Cx}(j:PE X e te):PE X e (VU te):=by
 intro O s Z H Q I h
 refine thn (j O s Z H _ I h) ?_
 rintro u s1 ⟨v,H1,I1,r,l,xs,e1,e3,q⟩
 obtain⟨z,its,n,m,P⟩:=(show ZO X.prog X.w H1 s1.heap l (.lst xs) from I1.hok l _ e3)
 refine⟨v,upd H1 l (.frz { cls:=.type "list",data:=.seq its.toArray n } (.lst xs)),?_,r,q _⟩
 exact I1.write (x:=l) (e:=l) (o:=.frz { cls:=.type "list",data:=.seq its.toArray n } (.lst xs)) (t':=s1.toks) (by rw[e3];exact bW) (.inl rfl) (λb u _ q=>q) ⟨_,P⟩ ⟨P,z,its,n,m,P⟩
def UB(K:ay)(C:ah)(k1 k2 k3:au):Sp:=λvs H Q _=>∃ e dx l r w3 xs ys,vs=[.ref e,.ref l,.ref r,w3]/\H e=aa (.ins C dx [])/\SqL K H l xs/\SqL K H r ys /\
 ∀ b1 b2,H b1=none->H b2=none->b1≠b2->b1≠e->b2≠e->∀ o1 o2,Q .non (upd (upd (upd H b1 (.frz o1 (.lst xs))) b2 (.frz o2 (.lst ys))) e (.ins C dx [(k1,.ref b1),(k2,.ref b2),(k3,w3)]))
variable{Q:TV->Sl->Prop}
section
variable{e l r:ah}{Q:VK}{w3:V}{xs:List V}
theorem Hy(c:Cls K C)(J:Zt K C k1)(Z:Zt K C k2)(u:Zt K C k3)(N:∀ a b d:V,Zv k3 d (Zv k2 b [(k1,a)])=[(k1,a),(k2,b),(k3,d)])(j:H e=aa (.ins C dx []))(L:SqL K H l xs)(s:SqL K H r ys)
  (q:∀ p G,H p=none->H G=none->p≠G->p≠e->G≠e->∀ g S,Q .non (upd (upd (upd H p (.frz g (.lst xs))) G (.frz S (.lst ys))) e (.ins C dx [(k1,.ref p),(k2,.ref G),(k3,w3)]))) :
  Yj (Z1 K (Zj 0) (VU (tCB (VB K) (ZD (Zj 1) ZV))) k1) (Yj (Z1 K (Zj 0) (VU (tCB (VB K) (ZD (Zj 2) ZV))) k2) (Z1 K (Zj 0) (Zj 3) k3)) { nx:=λ_ H'=>Q .non H',rt:=Q } [aa (.ref e),aa (.ref l),aa (.ref r),aa w3] H:=by
 refine⟨.ref l,rfl,l,xs,rfl,.inl L,λp h=>⟨p,xs,rfl,Zw,λg=>?_⟩⟩
 rw[Xs]
 have k:p≠e:=λz=>by rw[z,j] at h;cases h
 refine⟨.ref e,rfl,e,C,dx,[],rfl,by rw[Zd (bY k)];exact j,c,J,by simp,?_⟩
 refine⟨.ref r,rfl,r,ys,rfl,.inl ((s.updN h).updI (by rw[Zd (bY k)];exact j)),λG f=>⟨G,ys,rfl,Zw,λS=>?_⟩⟩
 rw[Xs]
 have m:G≠e:=λz=>by rw[z,Zw] at f;cases f
 have n:G≠p:=λz=>by rw[z,Zd k,Zw] at f;cases f
 have i:H G=none:=by rw[Zd m,Zd n] at f;exact f
 refine⟨.ref e,rfl,e,C,dx,Zv k1 (.ref p) [],rfl,by rw[Zd (bY m),Zw],c,Z,by simp[Zv],?_⟩
 refine⟨w3,rfl,.ref e,rfl,e,C,dx,Zv k2 (.ref G) [(k1,.ref p)],rfl,Zw,c,u,by have:=Vt k2 (V.ref G) [(k1,V.ref p)];simp at this;omega,?_⟩
 have:=q p G h i (bY n) k m g S
 rw[<- N] at this
 have o:upd (upd (upd (upd (upd H p (.frz g (.lst xs))) e (.ins C dx (Zv k1 (.ref p) []))) G (.frz S (.lst ys))) e (.ins C dx (Zv k2 (.ref G) (Zv k1 (.ref p) [])))) e (.ins C dx (Zv k3 w3 (Zv k2 (.ref G) [(k1,.ref p)])))=upd (upd (upd H p (.frz g (.lst xs))) G (.frz S (.lst ys))) e (.ins C dx (Zv k3 w3 (Zv k2 (.ref G) [(k1,.ref p)]))):=by
  funext b
  by_cases z:b=e
  ·subst z;rw[Zw,Zw]
  ·rw[Zd z,Zd z,Zd z]
   by_cases y:b=G
   ·subst y;rw[Zw,Zw]
   ·rw[Zd y,Zd y,Zd z]
 show Q .non _
 rw[o]
 exact this
end
variable{f:ah}
section
variable{p2 p3:au}
theorem mkF(F:FunD K "__init__" qual st dV f fd)(i:FnScope [self,p1,p2,p3] [self,p1,p2,p3] (Zb st))(c:Cls K C)(J:Zt K C k1)(Z:Zt K C k2)(u:Zt K C k3)(N:∀ a b d:V,Zv k3 d (Zv k2 b [(k1,a)])=[(k1,a),(k2,b),(k3,d)])
  (hbody:∀ (cdv:af) (A:bv) (outer:List eF) (s:aq) (H:Hp) (E:XK),PSs (ZJ CX P w K mg base [self,p1,p2,p3] qual (Zb st) f cdv A outer s H E).nox (Zy st) (Yj (Z1 K (Zj 0) (VU (tCB (VB K) (ZD (Zj 1) ZV))) k1) (Yj (Z1 K (Zj 0) (VU (tCB (VB K) (ZD (Zj 2) ZV))) k2) (Z1 K (Zj 0) (Zj 3) k3)))) :
  FnOk P w K mg base CX (k+1) f fd [self,p1,p2,p3] (UB K C k1 k2 k3):=by
 refine F.ok i ((by rintro vs H Q E ⟨e,dx,l,r,m,xs,ys,z,_⟩;rw[z];rfl)) λcdv A outer s H vs Q E _ h=>⟨_,hbody cdv A outer s H E,?_⟩
 obtain⟨e,dx,l,r,m,xs,ys,rfl,j,L,g,q⟩:=h
 exact Hy c J Z u N j L g q
end
variable {QV:VK}
theorem SR.pushGd(h:SR K H0 σ ρ ts as H)(u:Zg H H')(a:∀ G:Hp,(∀ b,H b=none->G b=H' b)->Rep K G v x):SR K H0 σ ρ (v::ts) (.av (.d x)::as) H':=by
 obtain⟨⟨p,q,U,R,S,F⟩,e⟩:=h
 have z:∀ b,H b=none->p b+q b=0:=λb c=>by
  rcases ax (p b+q b) with w|w
  ·exact w
  ·obtain⟨_,w,_⟩:=SR.lsts U R b w;rw[c] at w;cases w
 have m:Zg (L2.hid H p q) (L2.hid H' p q):=VG u
 refine⟨⟨p,q,U.mono m (λb o _=>u b o),.cons (.av (.d (p:=λ_=>0) (a _ λb c=>?_) λ_=>rfl)) (R.mono m u) (λb=>by simp),S,F⟩,e.trans u⟩
 unfold L2.hid
 rw[if_pos (z b c)]
theorem SR.makeF{bs:List TV}{xs ys:List au}{d:ak}(sh:Shs bs [.d (.list (xs.map .str)),.d (.list (ys.map .str)),.d d])(hd:R4 d=ac)(hn:[k1,k2,k3]≠rdN)(s1:SR K H0 σ ρ (vs++ts) (bs++as) H1)(O:vs.length=bs.length)
  (k:∀ v H',SR K H0 σ ρ (v::ts) (.av (.d (dO C [(k1,dFz (xs.map .str)),(k2,dFz (ys.map .str)),(k3,d)]))::as) H'->QV v H') (y dx:ah) (B:H1 y=none) (m:H1 dx=none) (A:dx≠y) :
  UB K C k1 k2 k3 (.ref y::(vs++[])) (upd (upd H1 dx (.own y)) y (.ins C dx [])) (λv H2=>v=.non/\QV (.ref y) H2) E':=by
 obtain⟨j,s2⟩:=SR.lent sh O s1
 have r:Reps K H1 vs [.list (xs.map .str),.list (ys.map .str),d]:=j.rep (λ_ _ z=>z)
 cases r with
 | cons L r=>cases r with
  | cons P r=>cases r with
   | cons M r =>
    cases r
    obtain⟨l,rfl,c⟩:=Rep.strsL L
    obtain⟨S,rfl,w⟩:=Rep.strsL P
    have n:upd H1 dx (.own y) y=none:=by rw[Zd (bY A)];exact B
    refine⟨y,dx,l,S,_,xs.map V.str,ys.map V.str,rfl,Zw,((c.updN m).updN n),((w.updN m).updN n),λp E h f x s q N H=>⟨rfl,?_⟩⟩
    have Q:p≠dx:=λz=>by rw[z,Zd A,Zw] at h;cases h
    have F:E≠dx:=λz=>by rw[z,Zd A,Zw] at f;cases f
    have a:H1 p=none:=by rw[Zd s,Zd Q] at h;exact h
    have i:H1 E=none:=by rw[Zd q,Zd F] at f;exact f
    refine k _ _ (s2.pushGd (λb o e=>?_) λG g=>.ins (dx:=dx) (fs:=[(k1,.ref p),(k2,.ref E),(k3,_)]) (ds:=[dFz (xs.map .str),dFz (ys.map .str),d]) ((g y B).trans Zw) hn ?_ rfl)
    ·have J:b≠y:=λz=>by rw[z,B] at e;cases e
     have Z:b≠dx:=λz=>by rw[z,m] at e;cases e
     have u:b≠p:=λz=>by rw[z,a] at e;cases e
     have I:b≠E:=λz=>by rw[z,i] at e;cases e
     rw[Zd J,Zd I,Zd u,Zd J,Zd Z];exact e
    ·have t:G p=aa (.frz N (.lst (xs.map V.str))):=(g p a).trans (by rw[Zd s,Zd x,Zw])
     have Y:G E=aa (.frz H (.lst (ys.map V.str))):=(g E i).trans (by rw[Zd q,Zw])
     exact .cons (.fz t (Sj xs) rfl) (.cons (.fz Y (Sj ys) rfl) (.cons (Hr hd M G) .nil))
section
variable (K:ay)(E:FK)(X:Exc->Sl->Prop)
def Ew(t:TE)(ρ:Sl)(Q:TV->Sl->Prop):Prop :=
 ∀ (H0:Hp) (σ:L2.St) (ts:List V) (as:List TV) (H:Hp) (QV:VK),Stb as->SR K H0 σ ρ ts as H->XOk K E X H0->(∀ a ρ',Q a ρ'->∀ v H',SR K H0 σ ρ' (v::ts) (a::as) H'->QV v H')->t σ H QV
def Ewa(t:TA)(ρ:Sl)(Q:List TV->Sl->Prop):Prop :=
 ∀ (H0:Hp) (σ:L2.St) (ts:List V) (as:List TV) (H:Hp) (QV:List V->Hp->Prop),Stb as->SR K H0 σ ρ ts as H->XOk K E X H0->(∀ bs ρ',Q bs ρ'->∀ vs H',SR K H0 σ ρ' (vs++ts) (bs++as) H'->vs.length=bs.length->QV vs H')->t σ H QV
def Tw(t:TT)(ρ:Sl)(Q:Bool->Sl->Prop):Prop :=
 ∀ (H0:Hp) (σ:L2.St) (ts:List V) (as:List TV) (H:Hp) (QV:Bool->Hp->Prop),Stb as->SR K H0 σ ρ ts as H->XOk K E X H0->(∀ b ρ',Q b ρ'->∀ H',SR K H0 σ ρ' ts as H'->QV b H')->t σ H QV
end
variable{P:Bool->Sl->Prop}
theorem Y6(h:Ev K E X te ρ λa=>Q a ρ):Ew K E X te ρ Q:=λI Z ts as H W _ s x k=>h I Z ts as H W s x λa q=>k a ρ q
theorem Wl{P:List TV->Sl->Prop}(h:Ew K E X te ρ λa B=>P [a] B):Ewa K E X (ZD te ZV) ρ P:=λI Z ts as H W st s x k=>h I Z ts as H _ st s x λa B q v H' l=>k [a] B q [v] H' l rfl
theorem Vc{P:List TV->Sl->Prop}(h:Ew K E X te ρ λa B=>∃ y,a=.av (.d y)/\Ewa K E X A B λbs=>P (a::bs)):Ewa K E X (ZD te A) ρ P:=λI Z ts as H W st s x k =>
 h I Z ts as H _ st s x <|by
  rintro a B ⟨y,e,g⟩ v H' s'
  subst e
  exact g I Z _ _ H' _ st.cons s' x λbs b q vs H2 s2 L=>k _ b q (v::vs) H2 (s2.rot L) (by simp[L])
theorem NA{r:List V->Hp->VK->Prop}(h:Ewa K E X A ρ λbs B=>Bi K E X r bs λa=>Q a B):Ew K E X (tCB r A) ρ Q:=λI Z ts as H W st s x k =>
 h I Z ts as H _ st s x λbs B O vs H2 s2 L=>O I Z B ts as H2 vs W s2 L x λc q=>k c B q
theorem NB{tb:TE}(h:Ew K E X te ρ λa B=>Ev K E X tb B λb=>Op K E X r a b λc=>Q c B):Ew K E X (tOp r te tb) ρ Q:=λI Z ts as H W st s x k =>
 h I Z ts as H _ st s x λa B f v H' l=>f I Z _ _ H' _ l x λb O w H2 s2=>O I Z B ts as H2 v w W s2 x λc q=>k c B q
theorem So(h:Ewa K E X A ρ λbs B=>∃ xs:List AV,Stos bs xs/\xs.length=ks.length/\ks≠rdN/\Q (.av (.d (dO C (ks.zip (AV.datas xs))))) B):Ew K E X (Vw C (Xh C ks) [] E' A) ρ Q:=λI Z ts as H W st s x k =>
 h I Z ts as H _ st s x <|by
  rintro bs B ⟨xs,hs,hd,hn,q⟩ vs H1 s1 hl y dx hy hdx hne
  have a:vs.length=ks.length:=by rw[hl,hs.len,hd]
  refine⟨y,dx,vs,by simp,a,Zw,rfl,?_⟩
  rw[Xs]
  exact k _ B q _ _ (SR.newI (SR.stos (us:=[]) (cs:=[]) hs hl rfl s1) (by rw[hl,hs.len]) a hn hy hdx hne)
theorem R6(h:Ew K E X te ρ λa B=>∃ c,a=.av (.d (.bool c))/\P c B):Tw K E X (S7 te) ρ P:=λI Z ts as H W st s x k =>
 h I Z ts as H _ st s x (by rintro a B ⟨c,e,p⟩ v H' s';subst e;exact⟨c,Rep.bl_inv s'.top_d,k c B p H' s'.pop⟩)
structure WEnds where
 nx:Sl->Prop
 rt:TV->Sl->Prop
 bk:Sl->Prop:=λ_=>False
 ct:Sl->Prop:=λ_=>False
structure FitR(κ:List (Nat×V))(K:ay)(H0:Hp)(ts:List V)(as:List TV)(DV:WEnds)(D:Ends):Prop where
 nx:∀ ρ,DV.nx ρ->∀ σ H,SR K H0 σ ρ ts as H->Kpt κ σ->D.nx σ H
 bk:∀ ρ,DV.bk ρ->∀ σ H,SR K H0 σ ρ ts as H->Kpt κ σ->D.bk σ H
 ct:∀ ρ,DV.ct ρ->∀ σ H,SR K H0 σ ρ ts as H->Kpt κ σ->D.ct σ H
 rt:∀ a ρ,DV.rt a ρ->∀ v σ H,SR K H0 σ ρ (v::ts) (a::as) H->Kpt κ σ->D.rt v H
def Sr(K:ay)(E:FK)(X:Exc->Sl->Prop)(S:List Nat)(t:TS)(ρ:Sl)(DV:WEnds):Prop :=
 ∀ (κ:List (Nat×V)),κ.map bH=S->∀ (H0:Hp) (σ:L2.St) (ts:List V) (as:List TV) (H:Hp) (D:Ends),Stb as->SR K H0 σ ρ ts as H->Kpt κ σ->XOk K E X H0->FitR κ K H0 ts as DV D->t D σ H
variable{DV:WEnds}{S:List Nat}
section
variable{t:TS}
theorem XS(h:DV.nx ρ):Sr K E X S Uc ρ DV:=λJ k I Z ts as H D st s F x f=>f.nx ρ h Z H s F
theorem ZY(h:Sr K E X S t ρ ⟨λB=>Sr K E X S u B DV,DV.rt,DV.bk,DV.ct⟩):Sr K E X S (Yj t u) ρ DV:=λJ k I Z ts as H D st s F x f =>
 h J k I Z ts as H _ st s F x ⟨λB g A H' l a=>g J k I A ts as H' D st l a x f,f.bk,f.ct,f.rt⟩
theorem YZ(b:n∉S)(hn:n<ρ.length)(h:Ew K E X te ρ λa B=>B.length=ρ.length/\∃ j,Sto B a j/\DV.nx (B.set n (aa j))):Sr K E X S (WZ te (WB n)) ρ DV:=λJ k I Z ts as H D st s F x f =>
 h I Z ts as H _ st s x λa B ⟨hl,j,e,q⟩ v H' s'=>f.nx _ q _ H' ((s'.stoS st e).store (by rw[hl];exact hn)) λz C=>by
  have:z.1≠n:=λw=>b (by rw[<- k,<- w];exact iV C)
  rw[eD (bY this)]
  exact F z C
theorem YR(h:Ew K E X te ρ DV.rt):Sr K E X S (Vo te) ρ DV:=λJ k I Z ts as H D st s F x f =>
 h I Z ts as H _ st s x λa B q v H' l=>f.rt a B q v Z H' l F
theorem Sq(h:Ew K E X te ρ λ_ B=>DV.nx B):Sr K E X S (WY te) ρ DV:=λJ k I Z ts as H D st s F x f =>
 h I Z ts as H _ st s x λa B q v H' l=>f.nx _ q _ H' l.pop F
theorem Wm{c:TT}(h:Tw K E X c ρ λb B=>if b=ac then Sr K E X S t B DV else Sr K E X S u B DV):Sr K E X S (Vp c t u) ρ DV:=λJ k I Z ts as H D st s F x f =>
 h I Z ts as H _ st s x λb B q H' l=>by
  cases b with
  | true=>rw[if_pos rfl] at q ⊢;exact q J k I Z ts as H' D st l F x f
  | false=>rw[if_neg ap] at q ⊢;exact q J k I Z ts as H' D st l F x f
theorem XF{c:TT}(h:Tv K E X c ρ λb=>P b ρ):Tw K E X c ρ P:=λI Z ts as H W _ s x k=>h I Z ts as H W s x λb q=>k b ρ q
end
def Ss(K:ay)(Pre:List AV->Prop)(Post:List AV->List AV->AV->Prop)(PX:List AV->Exc->Prop):Sp:=λvs H Q E=>Xz H/\∃ cs p,RAs K (hid H p Z0) H vs cs p/\(∀ b,p b<=1)/\Pre cs /\
 (∀ cs' r,Post cs cs' r->∀ v H' p',Zg (hid H p Z0) H'->RAs K (hid H' p' Z0) H' (v::vs) (r::cs') p'->(∀ b,p' b<=1)->(∀ b,0<p' b->hid H p Z0 b=none)->Q v H') /\
 ∀ e,PX cs e->∀ c d H',Zg (hid H p Z0) H'->WF K H' e c d->E c d H'
theorem SR.callWR(s:SR K H0 σ ρ (vs++ts) (cs.map TV.av++as) H)(r:vs.length=cs.length)(C:Stb as) :
  ∃ p:Fp,RAs K (hid H p Z0) H vs cs p/\(∀ b,p b<=1)/\∀ m y H' p',Zg (hid H p Z0) H'->RAs K (hid H' p' Z0) H' m y p'->(∀ b,p' b<=1)->(∀ b,0<p' b->hid H p Z0 b=none)->AV.cleans y=ac->SR K H0 σ ρ (m++ts) (y.map TV.av++as) H':=by
 obtain⟨⟨p,q,U,R,S,j⟩,u⟩:=s
 obtain⟨c,Y,e,L,l⟩:=RTs.avs (xs:=cs) r R
 have O:=l.stb C
 refine⟨c,L.mono (hid_more λb z=>by have:=e b;simp only[Z0];omega) (λ_ _ _ z=>z),λb=>by have:=e b;have:=S b;omega,λm y H' p' same I B j2 cl=>?_⟩
 have own:∀ b,0<p b+q b->∃ o,H b=aa o/\Mu o:=SR.lsts U R
 have stay:∀ b o,c b=0->H b=aa o->H' b=aa o:=λb o z P=>same b o (by unfold hid Z0;rw[z];exact P)
 have a:∀ b,0<p' b->p b=0/\Y b=0:=λb z=>by
  have F:=j2 b z
  have g:=S b
  have T:=e b
  rcases ax (c b) with k|k
  ·have f:H b=none:=by
    unfold hid Z0 at F
    rw[k] at F
    exact F
   rcases ax (p b+q b) with k2|k2
   ·omega
   ·obtain⟨o,P,_⟩:=own b k2
    rw[f] at P
    cases P
  ·omega
 have n:Zg (hid H p q) (hid H' p (λb=>p' b+Y b)):=λb o P=>by
  unfold hid at P ⊢
  split at P
  ·rename_i z
   have T:=e b
   have G:=stay b o (by omega) P
   have i:p' b=0:=by
    rcases ax (p' b) with k|k
    ·exact k
    ·have F:=j2 b k
     unfold hid Z0 at F
     rw[show c b=0 by omega] at F
     have F:H b=none:=F
     rw[P] at F
     cases F
   show (if p b+(p' b+Y b)=0 then H' b else none)=aa o
   have:=O b
   rw[if_pos (by omega)]
   exact G
  ·cases P
 have h:Zg (hid H' p' Z0) (hid H' p' Z0):=.refl _
 refine⟨⟨p,λb=>p' b+Y b,U.mono n (λb o z P=>stay b o (by have:=e b;have:=S b;omega) P),?_,λb=>?_,λb z=>?_⟩,λb o P=>?_⟩
 ·refine RTs.join ?_ (l.monoS n C λb o z P=>stay b o (by have:=O b;omega) P)
  refine I.cl (λb z=>?_) cl
  have z:0<p b+(p' b+Y b):=z
  rcases ax (p' b) with k|k
  ·obtain⟨o,P,mu⟩:=own b (by have:=O b;omega)
   exact⟨o,stay b o (by have:=e b;have:=S b;have:=O b;omega) P,mu⟩
  ·exact I.lst b k
 ·show p b+(p' b+Y b)<=1
  have:=B b
  have g:=S b
  have T:=e b
  rcases ax (p' b) with k|k
  ·omega
  ·have:=a b k
   omega
 ·have z:0<p b+(p' b+Y b):=z
  rcases ax (p' b) with k|k
  ·exact j b (by have:=e b;omega)
  ·have F:=j2 b k
   rcases ax (c b) with k1|k1
   ·unfold hid Z0 at F
    rw[k1] at F
    have F:H b=none:=F
    cases W:H0 b with
    | none=>rfl
    | some o =>
     have:=u b o W
     rw[F] at this
     cases this
   ·exact j b (by have:=e b;omega)
 ·have W:c b=0:=by
   rcases ax (c b) with k|k
   ·exact k
   ·have:=j b (by have:=e b;omega)
    rw[this] at P
    cases P
  exact stay b o W (u b o P)
def UC(n:Nat)(P:List AV->AV->Prop):WEnds:={ nx:=λ_=>False,rt:=λa ρ=>∃ cs' rest r,cs'.length=n/\a=.av r/\P cs' r/\ρ=cs'.map aa++rest }
theorem R7{t:TS}{E:XK}(sp:Ss K Pre Post PX vs H Qv E)(hn:vs.length=n)
  (h:∀ cs,Pre cs->Sr K (toF E) (λe _=>PX cs e) (bL n) t (inA N cs) (UC n (Post cs))):t { nx:=λ_ H'=>Qv .non H',rt:=Qv } (L2.start N vs) H:=by
 obtain⟨O,cs,p,I,B,pre,q,w⟩:=sp
 have y:Xz (hid H p Z0):=λx W=>by
  have l:=O x W
  unfold hid
  rcases ax (p x.1) with z|z
  ·rw[if_pos (by simp only[Z0];omega)];exact l
  ·obtain⟨o,X,mu⟩:=I.lst _ z
   rw[l] at X
   cases X
   exact mu.elim
 have C:((bL n).zip vs).map bH=bL n:=List.map_fst_zip (by rw[g4,hn];exact ar _)
 refine h cs pre ((bL n).zip vs) C (hid H p Z0) _ [] [] H _ Stb.nil (SR.startW I B) (λq g=>?_) ⟨λe ρ z c d Z H' s G=>w e z c d H' s.same G,y⟩ ⟨λ_ z=>z.elim,λ_ z=>z.elim,λ_ z=>z.elim,λa ρ' ⟨cs',rest,r,l1,ea,po,e⟩ v σ' H' s' kp=>?_⟩
 ·unfold L2.start
  obtain⟨i,v⟩:=q
  have e:vs[i]?=aa v:=by
   obtain⟨k,hk,e⟩:=List.mem_iff_getElem.mp g
   rw[jw,gc] at e
   cases e
   rw[aR]
  have hi:=(List.getElem?_eq_some_iff.mp e).1
  show (vs.map aa++_)[i]?=aa (aa v)
  rw[eI (by rw[aC];exact hi),c_,e]
  rfl
 ·subst e ea
  obtain⟨⟨P,Q,U,R,S,F⟩,u⟩:=s'
  obtain⟨T,Y,e,L⟩:=U.first (λi v e=>kp (i,v) (by
   have hi:i<vs.length:=(List.getElem?_eq_some_iff.mp e).1
   refine List.mem_iff_getElem.mpr ⟨i,by rw[List.length_zip,g4];omega,?_⟩
   rw[jw,gc,(List.getElem?_eq_some_iff.mp e).2])) (by rw[hn,l1])
  cases R with
  | @cons _ _ _ _ A q2 _ m J M =>
   cases m with
   | av m =>
    have f:∀ b,A b+T b<=P b+Q b:=λb=>by have:=e b;have:=M b;omega
    have j:Zg (hid H' P Q) (hid H' (λb=>A b+T b) Z0):=hid_more λb z=>by have:=f b;simp only[Z0];omega
    exact q cs' r po v H' (λb=>A b+T b) u (.cons (m.mono j λ_ _ _ z=>z) (L.mono j λ_ _ _ z=>z) λb=>rfl) (λb=>by have:=f b;have:=S b;omega) λb z=>F b (by have:=f b;omega)
theorem VV{Q:VK}{E:XK}(h:Ss K Pre Post PX vs H Q E)(C:∀ cs,Pre cs->cs.length=n):vs.length=n:=by
 obtain⟨_,cs,p,r,_,pre,_⟩:=h
 rw[r.len];exact C cs pre
def VW(C:ah)(m:au)(sp:Sp)(F:FK)(ta:TE)(t:TA):TE:=λσ H Q=>ta σ H λx H1=>∃ a dx fs,x=.ref a/\H1 a=aa (.ins C dx fs)/\fs.lookup m=none /\
 t σ H1 λvs H2=>sp (x::vs) H2 Q λc d H'=>F c d σ H'
section
variable{X:Cx}{o:cz}
theorem YS(j:PE (X.wish (XE X F)) o ta)(c:Cls X.K C)(hm:Meth X.K C m f)(n:FnOk X.prog X.w X.K X.mg X.base (CXE X.prog X.w) k f fd ps sp)(J:Room k X.A)(hb:Zq X.K fd ps [])(ha:PA (X.wish (XE X F)) (e::es) t)
  (w:aB (e::es) X.env=(aw,cg e X.env)::aB es X.env:=by rfl) (g:(bZ pos (aB es X.env)).any (·.1)=false:=by rfl)
  (ht:cg (.Call (.Attribute o m apos) (e::es) [] pos) X.env=(do
   let ov <- cg o X.env
   jd apos.atName
   let (f,first) <- jf [ov] (gr ov m pl)
   ir pos f first (bZ pos (aB (e::es) X.env)) (gh pos (eo [] X.env))):=by rfl) :
  PE (X.wish (XE X F)) (.Call (.Attribute o m apos) (e::es) [] pos) (VW C m sp F ta t):=by
 intro O s Z H Q I h
 refine dC (pl:=pl) (thn (j O s Z H _ I h) ?_) ht
 rintro u s1 ⟨x,H1,I1,rx,a,dx,fs,ex,ea,l,q⟩
 subst ex
 obtain rfl:u=aD a:=rx
 refine Tk (X:=X.wish (XE X F)) I1 ea c hm l ?_
 refine cp (first:=[.ref a]) (h₀:=X.base) I.ok.mod.kin hm.kp (thn (ha pos O s1 Z H1 _ I1 q) λus s2 ⟨vs,H2,I2,r,q2⟩=>⟨I2.kIn,?_⟩) w g
 exact thn (RM (us:=.ref a::us) (vs:=.ref a::vs) n J hb .nil I2.unwish (.cons rfl r) (by rw[d_];exact q2)) λ_ _ z=>z.wish
theorem Su(j:PE (X.wish (XE X F)) o ta)(c:Cls X.K C)(hm:Meth X.K C m f)(n:FnOk X.prog X.w X.K X.mg X.base (CXE X.prog X.w) k f fd ps sp)(J:Room k X.A)(hb:Zq X.K fd ps [])
  (ht:cg (.Call (.Attribute o m apos) [] [] pos) X.env=(do
   let ov <- cg o X.env
   jd apos.atName
   let (f,first) <- jf [ov] (gr ov m pl)
   ir pos f first (bZ pos (aB [] X.env)) (gh pos (eo [] X.env))):=by rfl) :
  PE (X.wish (XE X F)) (.Call (.Attribute o m apos) [] [] pos) (VW C m sp F ta ZV):=by
 intro O s Z H Q I h
 refine dC (pl:=pl) (thn (j O s Z H _ I h) ?_) ht
 rintro u s1 ⟨x,H1,I1,rx,a,dx,fs,ex,ea,l,q⟩
 subst ex
 obtain rfl:u=aD a:=rx
 refine Tk (X:=X.wish (XE X F)) I1 ea c hm l ?_
 refine fm (first:=[.ref a]) I1.kIn hm.kp ?_
 exact thn (RM (us:=[.ref a]) (vs:=[.ref a]) n J hb .nil I1.unwish (.cons rfl .nil) (by rw[d_];exact q)) λ_ _ z=>z.wish
end
def rdD(C:ah)(ws:ak)(i:Int):List (ak×ak):=[(.none,.int C),(.none,.bool ac),(.str "words",ws),(.str "at",.int i)]
theorem NC:∀ {l:List α},l.length=2->∃ a b,l=[a,b]
 | [a,b],_=>⟨a,b,rfl⟩
variable{i:Int}
theorem Yh.rd_inv(h:Yh K G o (rdD C ws i)):∃ dx v,o=.ins C dx [("words",v),("at",.int i)]/\Rep K G v ws:=by
 rcases h with⟨c,ds,_,_,z⟩|⟨c,ds,_,_,z⟩|⟨c,ds,_,_,_,z⟩|⟨j,dx,fs,ds,e,n,r,z⟩
 ·exact absurd z Ul
 ·exact absurd z Um
 ·exact absurd z Uo
 ·obtain⟨I,O⟩:=aF z
  have M:C=j:=by
   simp only[cm,cF,true_and] at I
   exact di I
  subst M
  have m:=(aF O).2
  rw[show (fs.map λp=>aY p.1)=(fs.map bH).map aY by rw[e7];rfl,n] at m
  obtain⟨U,l,rfl⟩:∃ a b,fs=[a,b]:=by
   have:=congrArg gK n
   rw[aC] at this
   exact NC this
  obtain⟨k,w,rfl⟩:∃ a b,ds=[a,b]:=by
   have:=r.length
   exact NC (show ds.length=2 by rw[<- this];rfl)
  cases r with
  | cons L r =>
   cases r with
   | cons P r =>
    have f:(aY "words",ws)=(.str "words",k)/\(aY "at",dt i)=(.str "at",w):=by
     obtain⟨a,b⟩:=aF m
     exact⟨a,(aF b).1⟩
    simp only[cm,true_and] at f
    obtain⟨rfl,rfl⟩:=f
    obtain⟨k1,v1⟩:=U
    obtain⟨k2,g⟩:=l
    have J:k1 = "words" := (aF n).1
    have Z:k2 = "at" := (aF (aF n).2).1
    subst J Z
    have t:g=.int i:=P.int_inv
    exact⟨dx,v1,by rw[e,t],L⟩
theorem Yh.rd{dx:ah}{v:V}(h:Rep K G v ws):Yh K G (.ins C dx [("words",v),("at",.int i)]) (rdD C ws i):=.inr (.inr (.inr ⟨C,dx,_,[ws,.int i],rfl,rfl,.cons h (.cons (.int i) .nil),rfl⟩))
theorem SR.rdAt(s:SR K H0 σ ρ ts as H)(hi:ρ[n]?=aa (aa (.dic (rdD C ws i)))):∃ a dx v,σ[n]?=aa (aa (.ref a))/\H a=aa (.ins C dx [("words",v),("at",.int i)])/\SR K H0 σ ρ (v::ts) (.av (.d ws)::as) H:=by
 obtain⟨⟨p,q,U,R,S,F⟩,e⟩:=s
 obtain⟨c,Y,v,T,M,t,O⟩:=U.frz hi λ_ _ _ _=>trivial
 cases t with
 | @dic a o _ _ l hd g =>
  obtain⟨dx,w,rfl,J⟩:=Yh.rd_inv hd
  exact⟨a,dx,w,M,l,⟨⟨p,q,U,.cons (.av (.d (p:=λ_=>0) J λ_=>rfl)) R (λb=>by simp),S,F⟩,e⟩⟩
section
variable{Q:TV->Prop}
theorem Vd(hi:ρ[n]?=aa (aa (.dic (rdD C ws i))))(c:Cls K C)(A:Zt K C "at")(q:Q (.av (.d (.int i)))):Ev K E X (WD K (Zj n) "at") ρ Q:=λI Z ts as H W s x k=>by
 obtain⟨a,dx,v,T,M,_⟩:=s.rdAt hi
 exact⟨.ref a,T,a,C,dx,_,.int i,rfl,M,c,A,rfl,k _ q _ _ (s.int i)⟩
theorem Hz(hi:ρ[n]?=aa (aa (.dic (rdD C ws i))))(c:Cls K C)(A:Zt K C "at")(h:Ev K E X te ρ λa=>∃ j:Int,a=.av (.d (.int j))/\DV.nx (ρ.set n (aa (.dic (rdD C ws j))))):Sr K E X S (Z1 K (Zj n) te "at") ρ DV:=λJ k I Z ts as H D st s F x f =>
 h I Z ts as H _ s x <|by
  rintro a ⟨j,e,q⟩ y H' s'
  subst e
  obtain⟨l,o,T,M,t,O⟩:=s'.writeD (kvs':=rdD C ws j) st hi
  obtain⟨dx,v,rfl,_⟩:=Yh.rd_inv t
  have p:=s'.top_d.int_inv
  subst p
  refine⟨.ref l,T,l,C,dx,_,rfl,M,c,A,by show 2<1000;decide,?_⟩
  refine f.nx _ q _ _ (O (.ins C dx [("words",v),("at",.int j)]) rfl λG hd _=>?_) F
  obtain⟨g,R,b,m⟩:=Yh.rd_inv hd
  cases b
  exact Yh.rd m
end
def R8(C:ah):Sp:=λvs H Q _=>∃ e dx w,vs=[.ref e,w]/\H e=aa (.ins C dx [])/\Q .non (upd H e (.ins C dx [("words",w),("at",.int 0)]))
section
variable{P:bg}
theorem mkRd(F:FunD K "__init__" qual st dV f fd)(i:FnScope [self,p1] [self,p1] (Zb st))(c:Cls K C)(J:Zt K C "words")(Z:Zt K C "at")
  (hbody:∀ (cdv:af) (A:bv) (outer:List eF) (s:aq) (H:Hp) (E:XK),PSs (ZJ CX P w K mg base [self,p1] qual (Zb st) f cdv A outer s H E).nox (Zy st) (Yj (Z1 K (Zj 0) (Zj 1) "words") (Z1 K (Zj 0) (tC (.int 0)) "at"))) :
  FnOk P w K mg base CX (k+1) f fd [self,p1] (R8 C):=by
 refine F.ok i ((by rintro vs H Q E ⟨e,dx,w,z,_⟩;rw[z];rfl)) λcdv A outer s H vs Q E _ h=>⟨_,hbody cdv A outer s H E,?_⟩
 obtain⟨e,dx,b,rfl,j,q⟩:=h
 refine⟨b,rfl,.ref e,rfl,e,C,dx,[],rfl,j,c,J,by decide,.ref e,rfl,e,C,dx,[("words",b)],rfl,Zw,c,Z,by show 1<1000;decide,?_⟩
 show Q .non (upd (upd H e (.ins C dx [("words",b)])) e (.ins C dx [("words",b),("at",.int 0)]))
 rw[Xs]
 exact q
end
theorem SR.newRd{y:ah}{w:V}(h:SR K H0 σ ρ (w::ts) (.av (.d x)::as) H)(B:H y=none)(hd:H dx=none)(A:dx≠y) :
  SR K H0 σ ρ (.ref y::ts) (.av (.dic (rdD C x 0))::as) (upd (upd H dx (.own y)) y (.ins C dx [("words",w),("at",.int 0)])):=by
 obtain⟨⟨p,q,U,R,S,F⟩,s⟩:=h
 have g:=SR.lsts U R
 have s2:Zg H (upd (upd H dx (.own y)) y (.ins C dx [("words",w),("at",.int 0)])):=(XM hd).trans (XM (by rw[Zd (bY A)];exact B))
 have f:p y+q y=0:=by
  rcases ax (p y+q y) with w|w
  ·exact w
  ·obtain⟨_,w,_⟩:=g y w;rw[B] at w;cases w
 have m:Zg (L2.hid H p q) (L2.hid (upd (upd H dx (.own y)) y (.ins C dx [("words",w),("at",.int 0)])) p (λb=>(if b=y then 1 else 0)+q b)):=λb u e=>by
  unfold L2.hid at e ⊢
  split at e
  ·rename_i z
   have G:b≠y:=λw=>by subst w;rw[B] at e;cases e
   rw[if_pos (by show p b+((if b=y then 1 else 0)+q b)=0;rw[if_neg G];omega)]
   exact s2 b u e
  ·cases e
 cases R with
 | @cons _ _ _ _ c k _ r rs M =>
  cases r with
  | av r =>
   cases r with
   | d j I =>
    have a:∀ b,q b=k b:=λb=>by have:=M b;have:=I b;omega
    refine⟨⟨p,λb=>(if b=y then 1 else 0)+q b,U.mono m (λb o _=>s2 b o),.cons (p:=λb=>if b=y then 1 else 0) (q:=k) (.av (.dic Zw (Yh.rd (j.same m)) λ_=>rfl)) (rs.mono m s2) (λb=>by rw[a b]),λb=>?_,λb z=>?_⟩,s.trans s2⟩
    ·show p b+((if b=y then 1 else 0)+q b)<=1
     have:=S b
     by_cases G:b=y
     ·subst G;rw[if_pos rfl];omega
     ·rw[if_neg G];omega
    ·have z:0<p b+((if b=y then 1 else 0)+q b):=z
     by_cases G:b=y
     ·subst G
      cases h0:H0 b with
      | none=>rfl
      | some o=>rw[s b o h0] at B;cases B
     ·rw[if_neg G] at z;exact F b (by omega)
section
variable{t:TS}
theorem R9(h:Tw K E X ca ρ λc B=>if c=ac then Tw K E X cb B P else P aw B):Tw K E X (S0 ca cb) ρ P:=λI Z ts as H W st s x k =>
 h I Z ts as H _ st s x λc B a H' l=>by
  cases c with
  | true=>rw[if_pos rfl] at a ⊢;exact a I Z ts as H' W st l x k
  | false=>rw[if_neg ap] at a ⊢;exact k _ B a H' l
theorem HA(Iv:Nat->Sl->Prop)(Q:Nat)(n:Iv Q ρ)
  (h:∀ m B,Iv m B->Tw K E X tc B λb o=>if b=ac then Sr K E X S tb o ⟨λo=>∃ a,a < m/\Iv a o,DV.rt,DV.nx,λo=>∃ a,a < m/\Iv a o⟩ else DV.nx o):Sr K E X S (Tg tc tb) ρ DV:=λJ k I Z ts as H D st s F x f=>by
 refine⟨λm A H'=>∃ B,Iv m B/\SR K I A B ts as H'/\Kpt J A,⟨Q,ρ,n,s,F⟩,?_⟩
 rintro m σ1 H1 ⟨ρ1,i1,s1,k1⟩
 refine h m ρ1 i1 I σ1 ts as H1 _ st s1 x λb o q H2 s2=>?_
 cases b with
 | true =>
  rw[if_pos rfl] at q ⊢
  exact⟨λA H'=>∃ a,a < m/\∃ B,Iv a B/\SR K I A B ts as H'/\Kpt J A,(by rintro A H' ⟨a,l,z⟩;exact ⟨a,l,z⟩),q J k I σ1 ts as H2 _ st s2 k1 x ⟨(by rintro c ⟨a,l,z⟩ r C L v;exact ⟨a,l,c,z,L,v⟩),λc q r C L v=>f.nx c q r C L v,(by rintro c ⟨a,l,z⟩ r C L v;exact ⟨a,l,c,z,L,v⟩),f.rt⟩⟩
 | false =>
  rw[if_neg ap] at q ⊢
  exact f.nx _ q _ _ s2 k1
theorem Qa(h:Sv K E X t ρ ⟨λ_=>False,λ_=>False,λ_=>False,λ_=>False⟩):Sr K E X S t ρ DV:=λJ k I Z ts as H D st s F x f =>
 h I Z ts as H D st s x ⟨λ_ z=>z.elim,λ_ z=>z.elim,λ_ z=>z.elim,λ_ z=>z.elim⟩
end
def X4(P:bg)(w:bK)(K:ay)(mg:au->Option af)(base:bG)(k:Nat)(ps:List au)(sp:Sp)(v:V)(G:Hp):Prop:=VS P w K mg base (CXE P w) k ps sp v G\/CloOk P w K mg base (CXE P w) k sp v G
theorem X4.same{P:bg}{w:bK}{K:ay}{mg:au->Option af}{base:bG}{k:Nat}{ps:List au}{sp:Sp}{v:V}{G G':Hp}(m:Zg G G')(h:X4 P w K mg base k ps sp v G):X4 P w K mg base k ps sp v G':=by
 rcases h with h|h
 ·exact .inl h
 ·exact .inr (h.same m)
def Qb(P:bg)(w:bK)(K:ay)(mg:au->Option af)(base:bG)(k:Nat)(ps:List au)(i:Nat)(t:TA):TE:=λσ H Q =>
 (∃ v sp,σ[i]?=aa (aa v)/\VS P w K mg base (CXE P w) k ps sp v H/\t σ H λvs H1=>sp vs H1 Q E0)\/O4 P w K mg base (CXE P w) k i E0 t σ H Q
variable{P:bg}{x:au}
section
variable{X:Cx}{p:jJ}{i:Nat}
theorem HB(J:Room k X.A)(ha:PA X (e::es) t)(hN:X.N[i]?=aa x:=by rfl)(S:Vis X.env.scope x:=by first|exact aK rfl|exact eG (aK rfl)|exact eG (eG rfl))
  (hd:(x == ("__debug__" : au))=false:=by decide) (y:(x == ("__classdict__" : au))=false:=by decide)
  (j:aB (e::es) X.env=(aw,cg e X.env)::aB es X.env:=by rfl) (g:(bZ pos (aB es X.env)).any (·.1)=false:=by rfl) :
  PE X (.Call (.Name x p) (e::es) [] pos) (Qb X.prog X.w X.K X.mg X.base k ps i t):=by
 intro O s Z H Q I h
 rcases h with⟨v,sp,n,⟨f,a,b,U,N,G⟩,h⟩|h
 ·refine bT (thn (SZ (pos:=p) hN S hd y O s Z H (λR H'=>R=v/\H'=H) I ⟨v,n,rfl,rfl⟩) ?_)
  rintro u s0 ⟨R,H',I0,r0,ev',eH⟩
  subst ev' eH b
  obtain rfl:u=aD f:=r0
  refine cp (h₀:=X.base) I0.ok.mod.kin N (thn (ha pos O s0 Z H' _ I0 h) λus s1 ⟨vs,H1,I1,r,q⟩=>⟨I1.kIn,?_⟩) j g
  exact Tm U J G .nil ZA I1 r (by simpa using q)
 ·exact IP J ZA ha hN S hd y j g O s Z H Q I h
theorem HC(Q:X.prog=P)(hw:X.w=w)(hK:X.K=K)(hm:X.mg=mg)(hb:X.base=base)(J:Room k X.A)(ha:PA X (e::es) t)(hN:X.N[i]?=aa x:=by rfl)(S:Vis X.env.scope x:=by first|exact aK rfl|exact eG (aK rfl)|exact eG (eG rfl))
  (hd:(x == ("__debug__" : au))=false:=by decide) (y:(x == ("__classdict__" : au))=false:=by decide)
  (j:aB (e::es) X.env=(aw,cg e X.env)::aB es X.env:=by rfl) (g:(bZ pos (aB es X.env)).any (·.1)=false:=by rfl) :
  PE X (.Call (.Name x p) (e::es) [] pos) (Qb P w K mg base k ps i t):=by
 subst Q hw hK hm hb
 exact HB J ha hN S hd y j g
end
def Qc(qual:au)(params:Arguments)(body:cz)(scope:dG)(cl:List (au×ah))(P:ah)(H H':Hp)(f:ah):Prop :=
 ∃ (c:ah) (co:dE) (pm ctv:af),V7 co qual/\(H c=none\/H c=aa (.frz co (.own P)))/\c≠f/\H f=none/\H'=upd (upd H c (.frz co (.own P))) f (.frz (cP "<lambda>" qual params body scope cl pm c ctv) (.own f))
variable{body:cz}
theorem Qc.same{cl:List (au×ah)}{P:ah}(m:Qc qual params body scope cl P H H' f):Zg H H':=by
 obtain⟨c,a,pm,ctv,_,Y,A,F,rfl⟩:=m
 intro b o e
 rw[Zd (Yw e F)]
 by_cases G:b=c
 ·subst G
  rcases Y with z|z
  ·rw[z] at e;cases e
  ·rw[Zw,<- z,e]
 ·rw[Zd G];exact e
def tLam(X:Cx)(qual:au)(params:Arguments)(body:cz)(scope:dG)(P:ah)(pos:jJ):TE:=λ_ H Q =>
 ∃ q,H P=aa (.tbq q)/\q pos.line pos.col=qual/\∀ cl f H',Clos X scope cl->Qc qual params body scope cl P H H' f->Q (.ref f) H'
section
variable{X:Cx}
theorem HD{c0 P:ah}(hd0:defaultsOf params X.env=([],[]))(hq:X.env.qual ++ "<lambda>" = qual)(w:X.env.code=.ref c0)(R:dQ X.K c0 P=ac)(hfr:∀ y∈scope.names,y.2=.free->X.env.scope.names.lookup y.1=aa .cell\/X.env.scope.names.lookup y.1=aa .free)
  (W:X.base.BuiltinsAt X.mg aj):PE X (.Lambda params body scope pos) (tLam X qual params body scope P pos):=by
 intro O s Z H Q I ⟨q,hP,hqp,h⟩
 refine PySem.W.kla_eval hd0 ?_
 rw[hq]
 obtain⟨cl,F,r,hhas⟩:=PU (scope:=scope) (env:=X.env) λy B e=>I.ok.has y.1 (hfr y B e)
 have C:Clos X scope cl:=⟨r,hhas,λx y c T M=>I.ok.inj x y c (r x c T) (r y c M)⟩
 obtain⟨ps,S,ht,k⟩:=I.hok P _ hP
 have n:s.heap.Ns aj X.mg:=I.mod.glob.keeps I.bk
 have hCd:=jG I.kIn R
 obtain⟨bm,g,p,G,L,_,Y,b6,b7,b8⟩:=W
 have nP:∀ {b:ah} {o:dE},X.base.get? b=aa o->b≠P:=λ{b o} e z=>by
  have:=(I.bs b o e).2
  rw[z,hP] at this;cases this
 have hBA:s.heap.BuiltinsAt X.mg P:=⟨bm,g,p,G,L,nP Y,I.bk bm g Y,b6,b7,b8⟩
 have hgP:aj≠P:=by
  obtain⟨o,es,E,e,_⟩:=I.mod.glob
  exact nP e
 cases hca:d5 pos ps.toList with
 | none =>
  refine PySem.W.kla_makeFunction F I.ok.glob n w hCd S ht hca hgP hBA λJ ctv h' tk hx' m j a K=>?_
  obtain⟨c2,co,vs,t,ec,T,M,e3⟩:=a
  cases ec
  have f:=I.fnMade (t':=tk) (fo:=cP "<lambda>" qual params body scope cl ((X.mg "__name__").getD .none) J ctv) hP S ht k hx' m j T (hqp▸⟨vs,t,M,e3⟩) K rfl
  exact⟨.ref h'.objs.size,_,f,rfl,h cl _ _ C ⟨J,co,_,ctv,⟨vs,t,M,e3⟩,.inl (I.hok.fresh m),aQ j,I.hok.fresh (aT m (cc j)),rfl⟩⟩
 | some A =>
  obtain⟨c,co,rfl,U,l⟩:=k pos A hca
  refine PySem.W.kla_makeFunctionHit F I.ok.glob n w hCd S ht hca hBA λctv h' tk N i=>?_
  have v:H h'.objs.size=none:=I.hok.fresh i
  have f:Inv X O Z (upd H h'.objs.size (.frz (cP "<lambda>" qual params body scope cl ((X.mg "__name__").getD .none) c ctv) (.own h'.objs.size))) { s with heap:=h'.push (cP "<lambda>" qual params body scope cl ((X.mg "__name__").getD .none) c ctv),toks:=tk }:=by
   refine I.born v (dg i) (λb u e=>ai _ (N b u e)) ⟨aN _ rfl,_,aN _ rfl⟩
  refine⟨.ref h'.objs.size,_,f,rfl,h cl _ _ C ⟨c,co,(X.mg "__name__").getD .none,ctv,hqp▸l,.inr U,(λz=>by rw[z,v] at U;cases U),v,?_⟩⟩
  rw[IR U]
end
variable{Pt:ah}
section
variable{cl:List (au×ah)}{A:bv}{E:XK}{σ:St}
theorem HE{ctv:af}(S:FnScopeF N ps scope)
  (hf:G f=aa (.frz (cP name qual params body scope cl pm c ctv) (.own f))) (Y:G c=aa (.frz co (.own Pt))) (l:V7 co qual)
  (hfr:∀ x,(x,cD)∈scope.names->∃ c,cl.lookup x=aa c) (C:∀ x y c,cl.lookup x=aa c->cl.lookup y=aa c->x=y)
  (F:∀ x d,cl.lookup x=aa d->∃ o v,G d=aa (.frz o (.own d))/\o.data=.cell v)
  (hbind:∀ (s:aq) (us:List af),us.length=ps.length->fD s (jj name qual params body scope cl pm (.ref c) ctv) ⟨us,[]⟩ (ps.zip us))
  (len:∀ vs H Q E,sp vs H Q E->vs.length=ps.length)
  (n:∀ h:bG,(∀ x d o,cl.lookup x=aa d->G d=aa (.frz o (.own d))->h.get? d=aa o)->O6 N scope cl h σ)
  (hbody:∀ (A:bv) (outer:List eF) (s:aq) (H:Hp) (vs:List V) (Q:VK) (E:XK),Room k (A.deeper (Wh qual scope cl s.heap.objs.size f (.ref c)))->Zg G H->sp vs H Q E ->
   ∃ t,PE (cxF CX P w K mg base N qual scope cl f (.ref c) A outer s (unl (Yu cl) H) E).nox body t/\t (setAll 0 vs σ) (unl (Yu cl) H) λv H'=>(∀ b,Yu cl b->H' b=none)->Q v (rel (Yu cl) H H')) :
  CloOk P w K mg base CX (k+1) sp (.ref f) G:=by
 refine⟨⟨f,_,_,rfl,hf,rfl⟩,λf' ef A outer s H us vs Q E hr Z m r a=>?_⟩
 cases ef
 have L:=len _ _ _ _ a
 have M:us.length=ps.length:=by rw[<- r.length];exact L
 have O:=(Z.hok f _ (m _ _ hf)).1
 have U:=(Z.hok c _ (m _ _ Y)).1
 obtain⟨ws,t,d1,d2⟩:=l
 have R:∀ b,Yu cl b->∃ o,H b=aa (.frz o (.own b)):=by
  rintro b ⟨x,e⟩
  obtain⟨o,v,z,_⟩:=F x b e
  exact⟨o,m _ _ z⟩
 have hfs:∀ b,Yu cl b->b∉frs outer/\b∉([]:List ah):=λb hb=>by
  refine⟨λz=>?_,by simp⟩
  obtain⟨o,e⟩:=R b hb
  rw[Z.frf b z] at e;cases e
 have T:Env0 P w K mg base A outer s (unl (Yu cl) H):=by
  refine⟨Z.frames,Z.mod,λb o q=>⟨(Z.bs b o q).1,?_⟩,Z.bsz,Z.funs,λb hb=>?_,O2 R Z.hok,Z.bare⟩
  ·by_cases hb:Yu cl b
   ·exact Va hb
   ·rw[Yk hb];exact (Z.bs b o q).2
  ·rw[Yk λz=>(hfs b z).1 hb];exact Z.frf b hb
 refine PySem.W.kla_callFunE hr.depth O rfl S.co S.gen rfl ⟨c,co,ws,t,rfl,U,d1,d2⟩ (hbind s us M _ _ _ _ ?_)
 refine IS (f:=f) (cd:=.ref c) ?_
 obtain⟨t,ht,g⟩:=hbody A outer s H vs Q E (hr.deeper _) m a
 have p:Inv (cxF CX P w K mg base N qual scope cl f (.ref c) A outer s (unl (Yu cl) H) E) [] σ (unl (Yu cl) H) { s with heap:=cI (s.heap.push { cls:=.type "frame",data:=.dict #[] }) scope.names } :=
  IT S hr.hd T hfr C (λx d e=>⟨Va ⟨x,e⟩,by
   obtain⟨o,v,z,y⟩:=F x d e
   exact⟨v,o,(Z.hok d _ (m _ _ z)).1,y⟩⟩) (n s.heap λx d o e z=>(Z.hok d _ (m _ _ z)).1)
 refine O7 (X:=cxF CX P w K mg base N qual scope cl f (.ref c) A outer s (unl (Yu cl) H) E) S.nd ps us vs 0 σ _ _ _ r M.symm (λi x W=>?_) p λs1 I=>?_
 ·have j:=fv W
  refine⟨?_,S.par x j,?_⟩
  ·rw[iB]
   have hi:i<ps.length:=(List.getElem?_eq_some_iff.mp W).1
   rw[<- S.pre,hZ hi] at W
   exact W
  ·rcases S.par x j with z|z
   ·exact .inr z
   ·refine .inl ?_
    show (scope.names.lookup x == aa cQ)=ac
    rw[z];rfl
 ·refine⟨I.nolimit,PySem.W.kla_codeExpr ?_⟩
  refine bi (ht [] s1 _ _ _ (I.wish _) g) (λu s' B=>?_) λe s' B=>?_
  ·obtain⟨v,H',J,rv,q⟩:=B
   have J:Inv (cxF CX P w K mg base N qual scope cl f (.ref c) A outer s (unl (Yu cl) H) E) [] (setAll 0 vs σ) H' s':=J.unwish
   exact⟨v,rel (Yu cl) H H',J.os,J.bare,IM R Z.hok J.base hfs,IN R Z.hok J.base hfs J.hok,rv,q λb hb=>O3 R Z.hok J.base hfs hb⟩
  ·exact bq B
end
def ND(X:Cx)(C:ah)(m:au)(sp:Sp)(F:FK)(ta:TE)(t:TA):TE:=λσ H Q=>ta σ H λx H1=>∃ a dx fs,x=.ref a/\H1 a=aa (.ins C dx fs)/\fs.lookup m=none /\
 t σ H1 λvs H2=>∀ H3,Lent X σ H2 H3->sp (x::vs) H3 (λv H4=>Q v (unl (Own X) H4)) λc d H4=>F c d σ (unl (Own X) H4)
section
variable{X:Cx}{o:cz}
theorem HF(j:PE (X.wish (XE X F)) o ta)(c:Cls X.K C)(hm:Meth X.K C m f)(n:FnOk X.prog X.w X.K X.mg X.base (CXE X.prog X.w) k f fd ps sp)(J:Room k X.A)(hb:Zq X.K fd ps [])(ha:PA (X.wish (XE X F)) (e::es) t)
  (w:aB (e::es) X.env=(aw,cg e X.env)::aB es X.env:=by rfl) (g:(bZ pos (aB es X.env)).any (·.1)=false:=by rfl)
  (ht:cg (.Call (.Attribute o m apos) (e::es) [] pos) X.env=(do
   let ov <- cg o X.env
   jd apos.atName
   let (f,first) <- jf [ov] (gr ov m pl)
   ir pos f first (bZ pos (aB (e::es) X.env)) (gh pos (eo [] X.env))):=by rfl) :
  PE (X.wish (XE X F)) (.Call (.Attribute o m apos) (e::es) [] pos) (ND (X.wish (XE X F)) C m sp F ta t):=by
 intro O s Z H Q I h
 refine dC (pl:=pl) (thn (j O s Z H _ I h) ?_) ht
 rintro u s1 ⟨x,H1,I1,rx,a,dx,fs,ex,ea,l,q⟩
 subst ex
 obtain rfl:u=aD a:=rx
 refine Tk (X:=X.wish (XE X F)) I1 ea c hm l ?_
 refine cp (first:=[.ref a]) (h₀:=X.base) I.ok.mod.kin hm.kp (thn (ha pos O s1 Z H1 _ I1 q) λus s2 ⟨vs,H2,I2,r,q2⟩=>⟨I2.kIn,?_⟩) w g
 exact thn (IZ (us:=.ref a::us) (vs:=.ref a::vs) n J hb .nil I2.unwish (.cons rfl r) λM L=>by rw[d_];exact q2 M ⟨L.same,L.cell,L.out,L.own⟩) λ_ _ z=>z.wish
end
theorem HG:unl (λ_=>False) H=H:=by
 funext b
 exact Yk λz=>z
section
def Wn(K:ay)(Pre:Θ->List AV->Prop)(Post:Θ->List AV->List AV->AV->Prop)(PX:Θ->List AV->Exc->Prop):Sp:=λvs H Q E=>∃ θ,Ss K (Pre θ) (Post θ) (PX θ) vs H Q E
variable{Pre:Θ->List AV->Prop}{Post:Θ->List AV->List AV->AV->Prop}{PX:Θ->List AV->Exc->Prop}
theorem VX(T:Tx K mg x st ps dvss)(i:FnScope N ps (Zb st))(C:∀ O cs,Pre O cs->cs.length=ps.length)
  (hbody:∀ (O:Θ) (f:ah) (cdv:af) (A:bv) (outer:List eF) (s:aq) (H:Hp) (E:XK),Room k (A.deeper (bQ x (Zb st) s.heap.objs.size f cdv)) ->
   ∃ t,PSs ((ZJ (CXE P w) P w K mg base N x (Zb st) f cdv A outer s H E).wish (XE (ZJ (CXE P w) P w K mg base N x (Zb st) f cdv A outer s H E) (toF E))) (Zy st) t/\∀ cs,Pre O cs->Sr K (toF E) (λe _=>PX O cs e) (bL ps.length) t (inA N cs) (UC ps.length (Post O cs))) :
  ∀ dvs∈dvss,Cal P w K mg base (CXE P w) (k+1) x ps dvs (Wn K Pre Post PX) :=
 T.calX (k:=k) i ((by rintro vs H Q E ⟨O,h⟩;exact VV h (C O))) λf cdv A outer s H vs Q E hr ⟨O,h⟩ =>
  let ⟨t,U,R⟩:=hbody O f cdv A outer s H E hr
  ⟨t,U,R7 h (VV h (C O)) λcs pre=>R cs pre⟩
theorem NF(F:FunD K name qual st dV f fd)(i:FnScope N ps (Zb st))(C:∀ O cs,Pre O cs->cs.length=ps.length)
  (hbody:∀ (O:Θ) (cdv:af) (A:bv) (outer:List eF) (s:aq) (H:Hp) (E:XK),Room k (A.deeper (bQ qual (Zb st) s.heap.objs.size f cdv)) ->
   ∃ t,PSs ((ZJ (CXE P w) P w K mg base N qual (Zb st) f cdv A outer s H E).wish (XE (ZJ (CXE P w) P w K mg base N qual (Zb st) f cdv A outer s H E) (toF E))) (Zy st) t/\∀ cs,Pre O cs->Sr K (toF E) (λe _=>PX O cs e) (bL ps.length) t (inA N cs) (UC ps.length (Post O cs))) :
  FnOk P w K mg base (CXE P w) (k+1) f fd ps (Wn K Pre Post PX) :=
 F.okX i ((by rintro vs H Q E ⟨O,h⟩;exact VV h (C O))) λcdv A outer s H vs Q E hr ⟨O,h⟩ =>
  let ⟨t,U,R⟩:=hbody O cdv A outer s H E hr
  ⟨t,U,R7 h (VV h (C O)) λcs pre=>R cs pre⟩
end
structure Cv(bs:List TV)(xs:List AV):Prop where
 len:bs.length=xs.length
 cv:∀ {K:ay} {H0 H:Hp} {σ:L2.St} {ρ:Sl} {ts vs:List V} {as:List TV},vs.length=bs.length->SR K H0 σ ρ (vs++ts) (bs++as) H->SR K H0 σ ρ (vs++ts) (xs.map TV.av++as) H
theorem Cv.nil:Cv [] []:=⟨rfl,λ_ s=>s⟩
theorem Wo(h:l.length=1):∃ a,l=[a]:=by
 cases l with
 | nil=>cases h
 | cons a r=>cases r with
  | nil=>exact⟨a,rfl⟩
  | cons _ _=>cases h
theorem Cv.sto{b:TV}{x:AV}(h:b.sto=aa x):Cv [b] [x]:=⟨rfl,λL s=>by
 obtain⟨v,rfl⟩:=Wo L
 exact SR.sto s h⟩
theorem Cv.frz{c:AV}:Cv [.av c] [.d c.data]:=⟨rfl,λL s=>by
 obtain⟨v,rfl⟩:=Wo L
 exact SR.frzT s⟩
section
variable{H2:Hp}
theorem SR.runRd{D:ah->Prop}{a:ah}{vs0:List V}{xs0 ys:List AV}(R:∀ b,D b->H1 b=none/\∃ o v,H2 b=aa (.frz o (.own b))/\o.data=.cell v)(hs:Zg H1 H2)(hi:ρ[n]?=aa (aa (.dic (rdD C ws i))))(T:σ[n]?=aa (aa (.ref a)))
  (s2:SR K H0 σ ρ (vs0++ts) (xs0.map TV.av++as) H1) (hl:vs0.length=xs0.length) (st:Stb as) (tb:Xz H2) (pre:Pre (.dic (rdD C ws i)::ys))
  (h:∀ p,RAs K (L2.hid H1 p Z0) H1 (.ref a::vs0) (.dic (rdD C ws i)::xs0) p->RAs K (L2.hid H2 p Z0) H2 (.ref a::vs) (.dic (rdD C ws i)::ys) p)
  (q:∀ y r,Post (.dic (rdD C ws i)::ys) y r->∃ c xs',y=c::xs'/\(c.clean=ac/\c.plain=ac)/\(r.clean=ac/\r.plain=ac)/\Q (.av r) (ρ.set n (aa c))) (qx:∀ e,PX (.dic (rdD C ws i)::ys) e->X e (ρ.set n none)) (x:XOk K E X H0)
  (k:∀ a B,Q a B->∀ v H',SR K H0 σ B (v::ts) (a::as) H'->QV v H') :
  Ss K Pre Post PX (.ref a::vs) H2 (λv M=>QV v (unl D M)) λc d M=>E c d σ (unl D M):=by
 obtain⟨v',t,s3⟩:=s2.take hi
 rw[T] at t
 cases t
 have f:n<ρ.length:=(List.getElem?_eq_some_iff.mp hi).1
 obtain⟨p,r,le,back⟩:=SR.callWR (vs:=.ref a::vs0) (cs:=.dic (rdD C ws i)::xs0) s3 (by rw[aS,aS,hl]) st
 have pz:∀ b,D b->p b=0:=λb z=>by
  rcases ax (p b) with k|k
  ·exact k
  ·obtain⟨o,P,_⟩:=r.lst b k
   rw[(R b z).1] at P
   cases P
 have s:∀ M,Zg (L2.hid H2 p Z0) M->Low M (unl D M)/\Zg (L2.hid H1 p Z0) (unl D M):=λM same=>by
  have at':∀ b,D b->∃ o,M b=aa (.frz o (.own b)):=λb z=>by
   obtain⟨_,o,_,e,_⟩:=R b z
   exact⟨o,same b _ (by unfold L2.hid Z0;rw[pz b z];exact e)⟩
  refine⟨λb o e n=>T7 at' e λob z=>n ob b z,λb o e=>?_⟩
  unfold L2.hid at e
  split at e
  ·rename_i z
   rw[Yk λw=>by rw[(R b w).1] at e;cases e]
   exact same b o (by unfold L2.hid;rw[if_pos z];exact hs b o e)
  ·cases e
 refine⟨tb,.dic (rdD C ws i)::ys,p,h p r,le,pre,λy S Z v M p' same I le' j2=>?_,λe z c d M same G=>?_⟩
 ·obtain⟨lo,sm⟩:=s M same
  obtain⟨c,xs',rfl,⟨Y,pc⟩,⟨J,W⟩,nx⟩:=q y S Z
  cases I with
  | @cons _ _ _ _ A q2 _ m I O =>
   cases I with
   | @cons _ _ _ _ q3 q4 _ rd rs e5 =>
    have H:∀ b,A b+q3 b<=p' b:=λb=>by have:=O b;have:=e5 b;omega
    have mm:Low (L2.hid M p' Z0) (L2.hid (unl D M) (λb=>A b+q3 b) Z0):=λb o e n=>by
     unfold L2.hid at e ⊢
     split at e
     ·rename_i z
      rw[if_pos (by have:=H b;simp only[Z0] at z ⊢;omega)]
      exact lo b o e n
     ·cases e
    have mu:∀ {u:V} {a:AV} {g:Fp},RA K (L2.hid M p' Z0) M u a g->∀ b o,0<g b->M b=aa o->unl D M b=aa o:=λ{u a g} I b o z e=>by
     obtain⟨U,N,mu⟩:=I.there b z
     rw[e] at N
     cases N
     exact lo b o e λob c z=>by subst z;exact (show False from mu)
    have L:=back [v,.ref a] [S,c] (unl D M) (λb=>A b+q3 b) sm (.cons (RA.low mm W (mu m) m) (.cons (q:=λ_=>0) (r:=q3) (RA.low mm pc (mu rd) rd) (.nil λ_=>rfl) λb=>by simp) λb=>rfl) (λb=>aT (H b) (le' b)) (λb z=>?_) (by simp[AV.cleans,Y,J])
    ·have L:SR K H0 σ (ρ.set n none) (v::.ref a::ts) (.av S::.av c::as) (unl D M):=L
     have s5:=L.swap.store (i:=n) (by rw[gN];exact f)
     have es:σ.set n (aa (.ref a))=σ:=by
      apply List.ext_getElem?
      intro j
      by_cases l:n=j
      ·subst l;rw[e8 (List.getElem?_eq_some_iff.mp T).1,T]
      ·rw[eD l]
     rw[es,List.set_set] at s5
     exact k _ _ nx v _ s5
    ·have F:=j2 b (aE z (H b))
     unfold L2.hid at F ⊢
     split
     ·rename_i w
      rw[if_pos w] at F
      cases e:H1 b with
      | none=>rfl
      | some o=>rw[hs b o e] at F;cases F
     ·rfl
 ·obtain⟨lo,sm⟩:=s M same
  have L:=back [] [] (unl D M) Z0 sm (.nil λ_=>rfl) (λb=>d0 _) (λb z=>absurd z (bX 0)) rfl
  exact x.x e _ (qx e z) c d σ _ (SR.pops L) (G.low lo)
variable{Pre:Θ->List AV->Prop}{Post:Θ->List AV->List AV->AV->Prop}{PX:Θ->List AV->Exc->Prop}
def ClW(Pre:Θ->List AV->Prop)(Post:Θ->List AV->List AV->AV->Prop)(PX:Θ->List AV->Exc->Prop)(c0:AV)(ρ:Sl)(n:Nat)(Q:TV->Sl->Prop)(X:Exc->Sl->Prop)(bs:List TV):Prop :=
 ∃ θ xs,Cv bs xs/\Pre θ (c0::xs)/\(∀ cs' r,Post θ (c0::xs) cs' r->∃ c xs',cs'=c::xs'/\(c.clean=ac/\c.plain=ac)/\(r.clean=ac/\r.plain=ac)/\Q (.av r) (ρ.set n (aa c)))/\∀ e,PX θ (c0::xs) e->X e (ρ.set n none)
theorem SR.runF{a:ah}{bs:List TV}(hi:ρ[n]?=aa (aa (.dic (rdD C ws i))))(T:σ[n]?=aa (aa (.ref a)))(cl:ClW Pre Post PX (.dic (rdD C ws i)) ρ n Q X bs)(s1:SR K H0 σ ρ (vs++ts) (bs++as) H1)(L:vs.length=bs.length)(st:Stb as)(x:XOk K E X H0)
  (k:∀ a B,Q a B->∀ v H',SR K H0 σ B (v::ts) (a::as) H'->QV v H'):Wn K Pre Post PX (.ref a::vs) H1 QV λc d M=>E c d σ M:=by
 obtain⟨O,xs,A,pre,q,w⟩:=cl
 have s2:=A.cv L s1
 refine⟨O,?_⟩
 have h:=SR.runRd (D:=λ_=>False) (H2:=H1) (vs:=vs) (ys:=xs) (λb z=>z.elim) (.refl _) hi T s2 (by rw[L,A.len]) st (x.t.same s2.same) pre (λp r=>r) q w x k
 simp only[HG] at h
 exact h
theorem Sw(hi:ρ[n]?=aa (aa (.dic (rdD C ws i))))(hm:∀ v w:V,[(("words" : au),v),("at",w)].lookup m=none)(h:Ea K E X A ρ (ClW Pre Post PX (.dic (rdD C ws i)) ρ n Q X)):Ew K E X (VW C m (Wn K Pre Post PX) E (Zj n) A) ρ Q:=λI Z ts as H W st s x k=>by
 obtain⟨a,dx,v0,T,M,_⟩:=s.rdAt hi
 exact⟨.ref a,T,a,dx,_,rfl,M,hm _ _,h I Z ts as H _ s x λbs cl vs y s1 L=>SR.runF hi T cl s1 L st x k⟩
theorem Sx(hi:ρ[n]?=aa (aa (.dic (rdD C ws i))))(h:Ea K E X A ρ (ClW Pre Post PX (.dic (rdD C ws i)) ρ n Q X)):Ew K E X (WK (Wn K Pre Post PX) [] E (ZD (Zj n) A)) ρ Q:=λI Z ts as H W st s x k=>by
 obtain⟨a,dx,v0,T,M,_⟩:=s.rdAt hi
 refine⟨.ref a,T,h I Z ts as H _ s x λbs cl vs y s1 L=>?_⟩
 show Wn K Pre Post PX ((.ref a::vs)++[]) y W _
 rw[d_]
 exact SR.runF hi T cl s1 L st x k
theorem HH{i:Nat}{Post:Θ->List AV->AV->Prop}{Q:TV->Prop}(hi:ρ[i]?=aa (aa (.obj (X4 P w K mg base k ps (spF K Pre Post)))))
  (h:Ea K E X A ρ λbs=>∃ O,ClR (Pre O) (Post O) NP [] Q (λ_=>True) bs):Ev K E X (Qb P w K mg base k ps i A) ρ Q:=λI Z ts as H W s x f=>by
 obtain⟨v,T,M,_⟩:=s.atO hi
 have m:∀ bs,(∃ O,ClR (Pre O) (Post O) NP [] Q (λ_=>True) bs)->∀ vs H',SR K I Z ρ (vs++ts) (bs++as) H'->vs.length=bs.length->spF K Pre Post vs H' W E0:=by
  rintro bs ⟨O,cs,sh,pre,q,_⟩ vs H' l L
  obtain⟨j,s2⟩:=SR.lent sh L l
  exact⟨O,x.t.same s2.same,cs,by simpa using j,by simpa using pre,λc Y v H2 r=>let ⟨a,g,z⟩:=q c (by simpa using Y);f a z v H2 (s2.gotG r g),λe z=>z.elim⟩
 by_cases d:VS P w K mg base (CXE P w) k ps (spF K Pre Post) v H
 ·exact .inl ⟨v,_,T,d,h I Z ts as H _ s x λbs cl vs H' l L=>m bs cl vs H' l L⟩
 ·refine .inr ⟨v,_,T,M.resolve_left d,h I Z ts as H _ s x λbs cl vs H' l L=>⟨?_,m bs cl vs H' l L⟩⟩
  obtain⟨R,b,o,_⟩:=l.atO hi
  rw[T] at b
  cases b
  exact o.resolve_left d
theorem HI:∀ {cs:List AV} {pre:Sl} {l:List au} {z:Sl},cs.length=l.length->VO pre.length cs (pre++(l.map λ_=>none)++z)=pre++cs.map aa++z:=by
 intro cs
 induction cs with
 | nil=>intro pre l z h;cases l with
  | nil=>rfl
  | cons _ _=>cases h
 | cons c cs B=>intro pre l z h;cases l with
  | nil=>cases h
  | cons u l =>
   have:=B (pre:=pre++[aa c]) (l:=l) (z:=z) (by simpa using h)
   rw[aO,fg] at this
   show VO (pre.length+1) cs ((pre++(none::l.map λ_=>none)++z).set pre.length (aa c))=_
   rw[show (pre++(none::l.map λ_=>(none:Option AV))++z).set pre.length (aa c)=pre++[aa c]++(l.map λ_=>none)++z by simp,this]
   simp
theorem RSl.last{G H:Hp}{v:V}{y:ak}(r:Rep K G v y):∀ l:List au,RSl K G H ((l.map λ_=>none)++[aa v]) ((l.map λ_=>none)++[aa (.d y)]) Z0
 | []=>.so (p:=Z0) (q:=Z0) (.d r λ_=>rfl) (.nil λ_=>rfl) λ_=>rfl
 | _::l=>.no (RSl.last r l)
theorem HJ{Y:Cx}{qt:Nat->Nat->au}{pl:List au}{j:Nat}{Ξ:Type}{PreP:Ξ->List AV->Prop}{PostP:Ξ->List AV->AV->Prop}{kF:Nat}
  (hK:Y.K=K) (hP:(Pt,qt)∈Tabs.ts) (hq:qt pos.line pos.col=qual) (hi:ρ[n]?=aa (aa (.dic (rdD C ws i)))) (hm:∀ v w:V,[(("words" : au),v),("at",w)].lookup m=none)
  (hj:ρ[j]?=aa (aa (.d y))) (hNj:Y.N[j]?=aa x) (g:∀ x,Y.fn x=ac) (hcell:Y.env.scope.names.lookup x=aa .cell)
  (S:FnScopeF N pl scope) (hN:N=pl++[x]) (hfree:scope.names.lookup x=aa .free) (hnc:∀ y∈scope.names,y.1=x->y.2≠.cell)
  (hbind:∀ (cl:List (au×ah)) (pm ctv:af) (c:ah) (s:aq) (us:List af),us.length=pl.length->fD s (jj "<lambda>" qual params body scope cl pm (.ref c) ctv) ⟨us,[]⟩ (pl.zip us))
  (hlen:∀ ξ cs,PreP ξ cs->cs.length=pl.length) (hdat:∀ ξ cs,PreP ξ cs->AV.plains cs=ac) (hk:k+1<=kF)
  (hbody:∀ (ξ:Ξ) (cl:List (au×ah)) (f c:ah) (A:bv) (outer:List eF) (s:aq) (H:Hp) (E:XK),Room k (A.deeper (Wh qual scope cl s.heap.objs.size f (.ref c))) ->
   ∃ t,PE (cxF (CXE Y.prog Y.w) Y.prog Y.w Y.K Y.mg Y.base N qual scope cl f (.ref c) A outer s H E).nox body t/\∀ cs,PreP ξ cs->Ev Y.K (toF E) NE t (cs.map aa++[aa (.d y)]) λa=>∃ r,a=.av r/\PostP ξ cs r)
  (O:Θ) (pre:Pre O [.dic (rdD C ws i),.obj (X4 Y.prog Y.w K Y.mg Y.base kF pl (spF K PreP PostP))])
  (q:∀ cs' r,Post O [.dic (rdD C ws i),.obj (X4 Y.prog Y.w K Y.mg Y.base kF pl (spF K PreP PostP))] cs' r->∃ c xs',cs'=c::xs'/\(c.clean=ac/\c.plain=ac)/\(r.clean=ac/\r.plain=ac)/\Q (.av r) (ρ.set n (aa c)))
  (qx:∀ e,PX O [.dic (rdD C ws i),.obj (X4 Y.prog Y.w K Y.mg Y.base kF pl (spF K PreP PostP))] e->X e (ρ.set n none)) :
  Ew K E X (ND Y C m (Wn K Pre Post PX) E (Zj n) (ZD (tLam Y qual params body scope Pt pos) ZV)) ρ Q:=λI Z ts as H W st s xo k'=>by
 subst hK hN
 obtain⟨a,dx,v0,T,e2,_⟩:=s.rdAt hi
 refine⟨.ref a,T,a,dx,_,rfl,e2,hm _ _,qt,s.same _ _ (xo.t _ hP),hq,λcl f H1 Cl ml=>?_⟩
 intro H2 L
 have s1:=s.ext ml.same
 have s1c:=s1
 obtain⟨vj,ej,sj,_⟩:=s1c.var hj
 have s2:=sj y rfl
 refine⟨O,SR.runRd (D:=Own Y) (vs0:=[vj]) (xs0:=[.d y]) (vs:=[.ref f]) (ys:=[.obj (X4 Y.prog Y.w Y.K Y.mg Y.base kF pl (spF Y.K PreP PostP))]) L.own L.same hi T s2 rfl st ((xo.t.same s1.same).same L.same) pre (λp r=>?_) q qx xo k'⟩
 obtain⟨c,co,pm,ctv,hco,_,hcf,_,rfl⟩:=ml
 have pz:∀ b,Own Y b->p b=0:=λb z=>by
  rcases ax (p b) with k|k
  ·exact k
  ·obtain⟨o,P,_⟩:=r.lst b k
   rw[(L.own b z).1] at P
   cases P
 have up1:∀ b o,p b=0->H2 b=aa o->L2.hid H2 p Z0 b=aa o:=λb o z e=>by unfold L2.hid Z0;rw[z];exact e
 have fz:∀ b o u,upd (upd H c (.frz co (.own Pt))) f (.frz (cP "<lambda>" qual params body scope cl pm c ctv) (.own f)) b=aa (.frz o u)->L2.hid H2 p Z0 b=aa (.frz o u):=λb o u e=>by
  refine up1 b _ ?_ (L.same b _ e)
  rcases ax (p b) with k|k
  ·exact k
  ·obtain⟨o',P,mu⟩:=r.lst b k
   rw[e] at P
   cases P
   exact mu.elim
 have own:∀ x d,cl.lookup x=aa d->Own Y d:=λx d e=>⟨x,g x,Cl.le x d e⟩
 have cells:∀ x d,cl.lookup x=aa d->∃ o v,L2.hid H2 p Z0 d=aa (.frz o (.own d))/\o.data=.cell v:=λx d e=>by
  obtain⟨_,o,v,U,R⟩:=L.own d (own x d e)
  exact⟨o,v,up1 d _ (pz d (own x d e)) U,R⟩
 have mm:Zg (L2.hid (upd (upd H c (.frz co (.own Pt))) f (.frz (cP "<lambda>" qual params body scope cl pm c ctv) (.own f))) p Z0) (L2.hid H2 p Z0):=λb o e=>by
  unfold L2.hid at e
  split at e
  ·rename_i z
   exact up1 b o (by simp only[Z0] at z;omega) (L.same b o e)
  ·cases e
 cases r with
 | @cons _ _ _ _ p1 p2 _ rd rs ep =>
  cases rs with
  | @cons _ _ _ _ p3 p4 _ rj J B =>
   cases rj with
   | d rp z3 =>
    cases J with
    | nil z4 =>
     refine .cons (p:=p1) (q:=p2) (rd.mono mm λb o _ e=>L.same b o e) (.cons (p:=p3) (q:=p4) (.obj ?_ (λ_ _ m h=>h.same m) z3) (.nil z4) B) ep
     refine .inr (CloOk.mono ?_ hk)
     refine HE (σ:=(pl.map λ_=>none)++[aa vj]) (pm:=pm) (ctv:=ctv) (c:=c) S (fz _ _ _ (Zw ..)) (fz c co (.own Pt) (by rw[Zd hcf,Zw])) hco Cl.has Cl.inj cells (λs us hl=>hbind cl pm ctv c s us hl) (λvs H Q E ⟨ξ,h⟩=>VM h (hlen ξ)) (λh hh=>?_) λA outer s' H' vs Q E hr m hsp=>?_
     ·refine⟨by simp,λi x' v U R=>?_⟩
      have hi':i=pl.length:=by
       rcases cT i pl.length with w|w
       ·rw[eI (by simpa using w),c_,aR w] at R
        cases R
       ·have:=(List.getElem?_eq_some_iff.mp R).1
        simp at this
        omega
      subst hi'
      rw[cw (ar _),Nat.sub_self] at U
      rw[cw (by simp),aC,Nat.sub_self] at R
      cases U
      cases R
      obtain⟨d,hd⟩:=Cl.has x (bA hfree)
      obtain⟨o,u,r1,r2,M⟩:=L.cell j x d vj hNj (g x) hcell (Cl.le x d hd) ej
      exact⟨hfree,hnc,d,o,u,hd,hh x d o hd (up1 d _ (pz d (own x d hd)) r1),r2,M⟩
     ·obtain⟨ξ,tb,cs,rps,preP,qq,_⟩:=hsp
      obtain⟨t,U,R⟩:=hbody ξ cl f c A outer s' (unl (Yu cl) H') E hr
      refine⟨t,U,?_⟩
      have hC:∀ b,Yu cl b->∃ o,H' b=aa (.frz o (.own b)):=by
       rintro b ⟨x,e⟩
       obtain⟨o,_,z,_⟩:=cells x b e
       exact⟨o,m _ _ z⟩
      have lo:Low H' (unl (Yu cl) H'):=λb o e n=>T7 hC e λob z=>n ob b z
      have r1:RAs Y.K (unl (Yu cl) H') (unl (Yu cl) H') vs cs Z0:=RAs.low lo (hdat ξ cs preP) (λb o z=>by simp[Z0] at z) rps
      have ry:Rep Y.K (unl (Yu cl) H') vj y:=rp.same λb o e=>by
       have G:¬ Yu cl b:=by
        rintro ⟨x,z⟩
        unfold L2.hid at e
        split at e
        ·rw[(L.own b (own x b z)).1] at e;cases e
        ·cases e
       rw[Yk G]
       exact m _ _ (mm _ _ e)
      have F:=hlen ξ cs preP
      have s3:=SR.startF (σ:=(pl.map λ_=>none)++[aa vj]) (ρ:=(pl.map λ_=>none)++[aa (.d y)]) r1 (by rw[rps.len,F];simp) (RSl.last ry pl)
      have ee:VO 0 cs ((pl.map λ_=>none)++[aa (AV.d y)])=cs.map aa++[aa (.d y)]:=HI (pre:=[]) (l:=pl) (z:=[aa (.d y)]) F
      rw[ee] at s3
      have tb':Xz (unl (Yu cl) H'):=λp hp=>lo _ _ (tb p hp) λ_ _ z=>by cases z
      exact R cs preP _ _ [] [] _ _ s3 (XOk.ne tb') <|by
       rintro a ⟨r,ea,post⟩ v H4 s4 hno
       subst ea
       exact qq r post _ _ (Rs.rel hC hno s4.rs)
end
noncomputable def NG(st:er):Pos:=match Zy st with
 | .Return (aa (.Call _ (.Lambda _ _ _ p::_) _ _)) _::_=>p
 | _=>⟨0,0,0,0⟩
noncomputable def HK(st:er):Scope:=match Zy st with
 | .Return (aa (.Call _ (.Lambda _ _ s _::_) _ _)) _::_=>s
 | _=>Zb st
structure FunC(K:ay)(x qual:au)(st:er)(f:ah)(fd:cS)(c0:ah):Prop where
 ex:∃ (oc:af) (od:Option ah) (kV doc pm:af) (an:Option ah) (ct:af) (osl:Array (Option af)),
  fd=aM x qual (Z2 st) (Zy st) (Zb st) .none kV doc pm an (.ref c0) ct/\K.lookup f=aa ⟨oc,od,.func fd,osl⟩/\aH K (.ref c0) qual=ac
 kp:az K (.ref f)=ac
section
variable{Pre:Θ->List AV->Prop}{Post:Θ->List AV->List AV->AV->Prop}{PX:Θ->List AV->Exc->Prop}
theorem HL{c0:ah}(F:FunC K name qual st f fd c0)(i:FnScope N ps (Zb st))(C:∀ O cs,Pre O cs->cs.length=ps.length)
  (hbody:∀ (O:Θ) (A:bv) (outer:List eF) (s:aq) (H:Hp) (E:XK),Room k (A.deeper (bQ qual (Zb st) s.heap.objs.size f (.ref c0))) ->
   ∃ t,PSs ((ZJ (CXE P w) P w K mg base N qual (Zb st) f (.ref c0) A outer s H E).wish (XE (ZJ (CXE P w) P w K mg base N qual (Zb st) f (.ref c0) A outer s H E) (toF E))) (Zy st) t/\∀ cs,Pre O cs->Sr K (toF E) (λe _=>PX O cs e) (bL ps.length) t (inA N cs) (UC ps.length (Post O cs))) :
  FnOk P w K mg base (CXE P w) (k+1) f fd ps (Wn K Pre Post PX):=by
 obtain⟨c,od,kV,I,pm,j,ct,g,rfl,M,y⟩:=F.ex
 refine S9 M y i ((by rintro vs H Q E ⟨O,h⟩;exact VV h (C O))) λA outer s H vs Q E J a=>?_
 obtain⟨O,a⟩:=a
 obtain⟨t,h,q⟩:=hbody O A outer s H E J
 exact⟨t,h.xmono λe s z=>OI z,R7 a (VV a (C O)) λcs pre=>q cs pre⟩
end
theorem HM{P:List TV->Sl->Prop}(h:Ew K E X te ρ λa B=>Ea K E X A B λbs=>P (a::bs) B):Ewa K E X (ZD te A) ρ P:=λI Z ts as H W st s x k =>
 h I Z ts as H _ st s x λa B g v H' l=>g I Z _ _ H' _ l x λbs q vs H2 s2 L=>k _ B q (v::vs) H2 (s2.rot L) (by simp[L])
theorem HN(h:Ewa K E X A ρ λbs B=>∃ xs,Stos bs xs/\bs.length<=1000/\Q (.av (.own xs)) B):Ew K E X (XZ A) ρ Q:=λI Z ts as H W st s x k =>
 h I Z ts as H _ st s x (by rintro bs B ⟨xs,hs,hz,q⟩ vs H2 s2 hl;exact ⟨cc (small1000 (by omega)),λp O=>k _ _ q _ _ (SR.new (SR.stos (us:=[]) (cs:=[]) hs hl rfl s2) (by rw[hl,hs.len]) O)⟩)
theorem HP{Pre:Θ->List AV->Prop}{Post:Θ->List AV->AV->Prop}(h:Ewa K E X A ρ λbs B=>∃ O,ClR (Pre O) (Post O) NP [] (λa=>Q a B) (λ_=>True) bs):Ew K E X (Wc (spF K Pre Post) [] E' A) ρ Q:=λI Z ts as H W st s x k =>
 h I Z ts as H _ st s x <|by
  rintro bs B ⟨O,cs,sh,pre,q,_⟩ vs H' s' hl
  obtain⟨j,s2⟩:=SR.lent sh hl s'
  exact⟨O,x.t.same s2.same,cs++[],j.app Uy,pre,λc Y v H2 r=> (by obtain⟨a,g,z⟩:=q c Y;exact k a B z v H2 (s2.gotG r g)),λe z=>z.elim⟩
theorem HQ(hi:ρ[n]?=aa (aa (.own xs)))(h:Ew K E X te ρ λa B=>∃ j ys,B[n]?=aa (aa (.own ys))/\a.sto=aa j/\ys.length<=1000000/\DV.nx (B.set n (aa (.own (ys++[j]))))):Sr K E X S (WY (tBM K "list" Tr (Zj n) (ZD te ZV))) ρ DV:=λJ k I Z ts as H D st s F x f=>by
 obtain⟨l,vs,T,M,t,_⟩:=(s.push (x:=.none) λ_=>.non).write (xs':=xs) st hi
 refine⟨.ref l,T,P6 M (h I Z ts as H _ st s x ?_)⟩
 rintro a B ⟨j,ys,hy,e,hz,q⟩ v H' s'
 obtain⟨g,m,b,o,w,c⟩:=(s'.sto e).write (xs':=ys++[j]) st hy
 rw[T] at b
 cases b
 exact⟨l,m,v,rfl,rfl,o,small6 (by omega),f.nx _ q _ _ (c _ λG H p q L P=>⟨_,λ_=>ar _,RAs.snoc P L⟩) F⟩
theorem HR(h:Ewa K E X A ρ λbs B=>∃ (xs ys:List au) (d:ak),Shs bs [.d (.list (xs.map .str)),.d (.list (ys.map .str)),.d d]/\R4 d=ac/\[k1,k2,k3]≠rdN/\Q (.av (.d (dO C [(k1,dFz (xs.map .str)),(k2,dFz (ys.map .str)),(k3,d)]))) B):Ew K E X (Vw C (UB K C k1 k2 k3) [] E' A) ρ Q:=λI Z ts as H W st s x k =>
 h I Z ts as H _ st s x λbs B ⟨xs,ys,d,sh,hd,hn,q⟩ vs H1 s1 hl =>
  SR.makeF sh hd hn s1 hl λv H'=>k _ B q v H'
def CTup(K:ay)(a:ah)(ws:List au):Prop:=∃ (o:dE) (its:Array af) (n:Nat),K.lookup a=aa o/\o.cls=.type "tuple" /\ o.data=.seq its n/\its.size<=sizeLine/\Zi (ws.map V.str) its.toList
theorem HS(y:au)(ws:List au):inV (.str y) (ws.map V.str)=decide (y∈ws):=by
 unfold inV
 induction ws with
 | nil=>rfl
 | cons z ws B =>
  rw[bp,jE,B]
  have e:eqV (V.str z) (V.str y)=decide (z=y):=by
   show (z == y)=_
   exact Bool.beq_eq_decide_eq z y
  rw[e,dy,gQ,decide_eq_true_iff,decide_eq_true_iff,decide_eq_true_iff,eR]
  exact or_congr_left eq_comm
section
variable{Q:TV->Prop}
theorem HU{y:au}{ws:List au}(ct:CTup K c ws)(ha:a.data=.str y)(q:Q (.av (.d (.bool (decide (y∈ws))))))(A:NR a:=by walk_at "n"):Op K E X (rIn K aw) a (.raw (.ref c)) Q:=λI Z o ts as H u v W s _ k=>by
 have e:=s.raw
 subst e
 have r:=s.pop.top A
 rw[ha] at r
 have M:u=.str y:=by cases r;rfl
 subst M
 refine⟨c,ws.map V.str,rfl,.inr (.inr ct),rfl,?_,?_⟩
 ·rw[all_map];exact gp.mpr λ_ _=>rfl
 ·rw[if_neg ap,HS]
  exact k _ q _ _ (s.pop.pop.bl _)
theorem Qd(hi:ρ[n]?=aa (aa (.dic (rdD C (dFz ds) i))))(c:Cls K C)(A:Zt K C "words")(q:Q (.bor (.list ds))):Ev K E X (WD K (Zj n) "words") ρ Q:=λI Z ts as H W s x k=>by
 obtain⟨a,dx,v,T,M,s2⟩:=s.rdAt hi
 exact⟨.ref a,T,a,C,dx,_,v,rfl,M,c,A,rfl,k _ q _ _ (s.pushB (Rep.fz_inv (s2.top NR.av)))⟩
theorem HV:∀ {xs:List au} {vs:List V} {p:Fp},RAs K G H vs (xs.map λz=>.d (.str z)) p->vs=xs.map V.str:=by
 intro xs
 induction xs with
 | nil=>intro vs p r;cases r;rfl
 | cons x xs B =>
  intro vs p r
  cases r with
  | cons r rs _ =>
   rw[B rs,bp]
   congr 1
   cases r with
   | d r _=>cases r;rfl
theorem SR.fzN{xs:List au}(h:SR K H0 σ ρ (v::ts) (.av (.own (xs.map λz=>.d (.str z)))::as) H)(st:Stb as) :
  ∃ l vs,v=.ref l/\H l=aa (.lst vs)/\∀ ob,SR K H0 σ ρ (v::ts) (.av (.d (dFz (xs.map .str)))::as) (upd H l (.frz ob (.lst vs))):=by
 obtain⟨⟨p,q,U,R,S,F⟩,s⟩:=h
 cases R with
 | @cons _ _ _ _ c A _ r rs e =>
  cases r with
  | av r =>
   cases r with
   | @own l vs _ Y _ L I E =>
    have k:c l=1:=by have:=E l;have:=e l;have:=S l;simp at *;omega
    have g:∀ b,p b+A b<=1/\p b+A b<=p b+q b:=λb=>by have:=e b;have:=S b;omega
    have f:p l+A l=0:=by have:=e l;have:=S l;omega
    have j:=HV I
    subst j
    refine⟨l,_,rfl,L,λob=>?_⟩
    have m:Zg (L2.hid H p q) (L2.hid (upd H l (.frz ob (.lst (xs.map V.str)))) p A):=λb o z=>by
     unfold L2.hid at z ⊢
     split at z
     ·rename_i y
      rw[if_pos (by have:=g b;omega)]
      have G:b≠l:=λw=>by subst w;have:=e b;omega
      rw[Zd G]
      exact z
     ·cases z
    have i:∀ b o,0<p b+A b->H b=aa o->upd H l (.frz ob (.lst (xs.map V.str))) b=aa o:=λb o z y=>by
     have G:b≠l:=λw=>by subst w;omega
     rw[Zd G];exact y
    refine⟨⟨p,A,U.mono m (λb o z=>i b o (by omega)),.cons (p:=λ_=>0) (.av (.d (.fz (a:=l) (o:=ob) (xs:=xs.map V.str) ?_ (Sj xs) rfl) λ_=>rfl)) (rs.monoS m st λb o z=>i b o (by omega)) (λb=>by simp),λb=>(g b).1,λb z=>F b (by have:=g b;omega)⟩,λb o z=>?_⟩
    ·unfold L2.hid
     rw[if_pos f,Zw]
    ·have G:b≠l:=λw=>by subst w;have:=F b (by have:=e b;omega);rw[this] at z;cases z
     rw[Zd G]
     exact s b o z
theorem HW{Q:TV->Sl->Prop}(h:Ew K E X te ρ λa B=>∃ xs:List au,a=.av (.own (xs.map λz=>.d (.str z)))/\Q (.av (.d (dFz (xs.map .str)))) B):Ew K E X (VU te) ρ Q:=λI Z ts as H W st s x k =>
 h I Z ts as H _ st s x <|by
  rintro a B ⟨xs,e,q⟩ v H' s'
  subst e
  obtain⟨l,vs,rfl,L,g⟩:=s'.fzN st
  exact⟨l,vs,rfl,L,λb=>k _ B q _ _ (g b)⟩
theorem HX{Q:TV->Sl->Prop}(h:Ewa K E X A ρ λbs B=>∃ x:ak,Stos bs [.d x]/\Q (.av (.dic (rdD C x 0))) B):Ew K E X (Vw C (R8 C) [] E' A) ρ Q:=λI Z ts as H W st s x k =>
 h I Z ts as H _ st s x <|by
  rintro bs B ⟨d,hs,q⟩ vs H1 s1 hl y dx hy hdx hne
  have s2:=SR.stos (us:=[]) (cs:=[]) hs hl rfl s1
  obtain⟨w,rfl⟩:=Wo (l:=vs) (by rw[hl,hs.len];rfl)
  refine⟨y,dx,w,rfl,Zw,rfl,?_⟩
  rw[Xs]
  exact k _ _ q _ _ (SR.newRd s2 hy hdx hne)
end
end L2
section
end
section
end
section
end
section
end
section
end
section
end
section
end
section
end
section
end
section
end
section
end
section
end
section
end
section
end
section
end
section
end
section
end
section
end
section
end
section
end
section
end
section
end
section
end
section
end
section
end
section
end
section
end
section
end
section
end
section
end
section
end
section
end
section
end
section
end
section
end
section
end
section
end
section
end
section
end
section
end
section
end
section
end
section
end
section
end
section
end
section
end
section
end
section
end
section
end
section
end
section
end
section
end
section
end
section
end
section
end
section
end
section
end
section
end
section
end
section
end
section
end
section
end
section
end
section
end
section
end
section
end
section
end
section
end
section
end
section
end
section
end
section
end
section
end
section
end
section
end
section
set_option exponentiation.threshold 2000
namespace K52
local macro_rules|`(tactic|omega)=>`(tactic|first|assumption|lia|omega (config:={}))
open PySem L2
def top(i:Nat):Stmt:=PySem.Challenge.pw_figurewheel_k52_whole_no_statement.main.body.getD i (.Pass ⟨0,0,0,0⟩)
abbrev UD:Stmt:=(Yl (top 5)).getD 0 (.Pass ⟨0,0,0,0⟩)
theorem HY:FnScope ["self", "at"] ["self", "at"] (Zb UD):=⟨rfl,rfl,rfl,by decide +kernel,rfl,by decide +kernel,by decide +kernel⟩
abbrev UE:Stmt:=(Yl (top 10)).getD 0 (.Pass ⟨0,0,0,0⟩)
theorem HZ:FnScope ["self", "row", "name", "sign"] ["self", "row", "name", "sign"] (Zb UE):=⟨rfl,rfl,rfl,by decide +kernel,rfl,by decide +kernel,by decide +kernel⟩
abbrev UF:Stmt:=(Yl (top 10)).getD 2 (.Pass ⟨0,0,0,0⟩)
theorem Ga:FnScope ["self"] ["self"] (Zb UF):=⟨rfl,rfl,rfl,by decide +kernel,rfl,by decide +kernel,by decide +kernel⟩
abbrev UG:Stmt:=(Yl (top 11)).getD 0 (.Pass ⟨0,0,0,0⟩)
theorem Gb:FnScope ["self", "row", "name", "other", "second"] ["self", "row", "name", "other", "second"] (Zb UG):=⟨rfl,rfl,rfl,by decide +kernel,rfl,by decide +kernel,by decide +kernel⟩
abbrev UH:Stmt:=(Yl (top 11)).getD 2 (.Pass ⟨0,0,0,0⟩)
theorem Gc:FnScope ["self"] ["self"] (Zb UH):=⟨rfl,rfl,rfl,by decide +kernel,rfl,by decide +kernel,by decide +kernel⟩
abbrev UI:Stmt:=(Yl (top 12)).getD 0 (.Pass ⟨0,0,0,0⟩)
theorem Gd:FnScope ["self", "left", "right", "word"] ["self", "left", "right", "word"] (Zb UI):=⟨rfl,rfl,rfl,by decide +kernel,rfl,by decide +kernel,by decide +kernel⟩
abbrev UJ:Stmt:=(Yl (top 12)).getD 2 (.Pass ⟨0,0,0,0⟩)
theorem Ge:FnScope ["self"] ["self"] (Zb UJ):=⟨rfl,rfl,rfl,by decide +kernel,rfl,by decide +kernel,by decide +kernel⟩
abbrev UK:Stmt:=(Yl (top 13)).getD 0 (.Pass ⟨0,0,0,0⟩)
theorem Gf:FnScope ["self", "name", "place"] ["self", "name", "place"] (Zb UK):=⟨rfl,rfl,rfl,by decide +kernel,rfl,by decide +kernel,by decide +kernel⟩
abbrev UL:Stmt:=(Yl (top 13)).getD 2 (.Pass ⟨0,0,0,0⟩)
theorem Gg:FnScope ["self"] ["self"] (Zb UL):=⟨rfl,rfl,rfl,by decide +kernel,rfl,by decide +kernel,by decide +kernel⟩
abbrev UM:Stmt:=(Yl (top 14)).getD 0 (.Pass ⟨0,0,0,0⟩)
theorem Gh:FnScope ["self", "one"] ["self", "one"] (Zb UM):=⟨rfl,rfl,rfl,by decide +kernel,rfl,by decide +kernel,by decide +kernel⟩
abbrev UN:Stmt:=(Yl (top 14)).getD 2 (.Pass ⟨0,0,0,0⟩)
theorem Gi:FnScope ["self"] ["self"] (Zb UN):=⟨rfl,rfl,rfl,by decide +kernel,rfl,by decide +kernel,by decide +kernel⟩
abbrev UO:Stmt:=(Yl (top 15)).getD 0 (.Pass ⟨0,0,0,0⟩)
theorem Gj:FnScope ["self", "one", "other"] ["self", "one", "other"] (Zb UO):=⟨rfl,rfl,rfl,by decide +kernel,rfl,by decide +kernel,by decide +kernel⟩
abbrev UP:Stmt:=(Yl (top 15)).getD 2 (.Pass ⟨0,0,0,0⟩)
theorem Gk:FnScope ["self"] ["self"] (Zb UP):=⟨rfl,rfl,rfl,by decide +kernel,rfl,by decide +kernel,by decide +kernel⟩
abbrev UQ:Stmt:=(Yl (top 16)).getD 0 (.Pass ⟨0,0,0,0⟩)
theorem Gm:FnScope ["self", "one", "other"] ["self", "one", "other"] (Zb UQ):=⟨rfl,rfl,rfl,by decide +kernel,rfl,by decide +kernel,by decide +kernel⟩
abbrev UR:Stmt:=(Yl (top 16)).getD 2 (.Pass ⟨0,0,0,0⟩)
theorem Gn:FnScope ["self"] ["self"] (Zb UR):=⟨rfl,rfl,rfl,by decide +kernel,rfl,by decide +kernel,by decide +kernel⟩
abbrev US:Stmt:=(Yl (top 17)).getD 0 (.Pass ⟨0,0,0,0⟩)
theorem Go:FnScope ["self", "name", "one"] ["self", "name", "one"] (Zb US):=⟨rfl,rfl,rfl,by decide +kernel,rfl,by decide +kernel,by decide +kernel⟩
abbrev UT:Stmt:=(Yl (top 17)).getD 2 (.Pass ⟨0,0,0,0⟩)
theorem Gp:FnScope ["self"] ["self"] (Zb UT):=⟨rfl,rfl,rfl,by decide +kernel,rfl,by decide +kernel,by decide +kernel⟩
abbrev UU:Stmt:=(Yl (top 18)).getD 0 (.Pass ⟨0,0,0,0⟩)
theorem Gq:FnScope ["self", "name", "one"] ["self", "name", "one"] (Zb UU):=⟨rfl,rfl,rfl,by decide +kernel,rfl,by decide +kernel,by decide +kernel⟩
abbrev UV:Stmt:=(Yl (top 18)).getD 2 (.Pass ⟨0,0,0,0⟩)
theorem Gr:FnScope ["self"] ["self"] (Zb UV):=⟨rfl,rfl,rfl,by decide +kernel,rfl,by decide +kernel,by decide +kernel⟩
abbrev UW:Stmt:=(Yl (top 33)).getD 0 (.Pass ⟨0,0,0,0⟩)
theorem Gs:FnScope ["self", "words"] ["self", "words"] (Zb UW):=⟨rfl,rfl,rfl,by decide +kernel,rfl,by decide +kernel,by decide +kernel⟩
abbrev UX:Stmt:=(Yl (top 33)).getD 1 (.Pass ⟨0,0,0,0⟩)
theorem Gu:FnScope ["self"] ["self"] (Zb UX):=⟨rfl,rfl,rfl,by decide +kernel,rfl,by decide +kernel,by decide +kernel⟩
abbrev UY:Stmt:=(Yl (top 33)).getD 2 (.Pass ⟨0,0,0,0⟩)
theorem NH:FnScope ["self", "fits", "word"] ["self", "fits"] (Zb UY):=⟨rfl,rfl,rfl,by decide +kernel,rfl,by decide +kernel,by decide +kernel⟩
abbrev Xl:Stmt:=(Yl (top 33)).getD 3 (.Pass ⟨0,0,0,0⟩)
theorem Gw:FnScope ["self", "choices"] ["self", "choices"] (Zb Xl):=⟨rfl,rfl,rfl,by decide +kernel,rfl,by decide +kernel,by decide +kernel⟩
theorem Gx:∀ y∈(HK Xl).names,y.2=.free->(Zb Xl).names.lookup y.1=aa .cell\/(Zb Xl).names.lookup y.1=aa .free:=by decide +kernel
abbrev NI:Stmt:=top 0
abbrev Qf:Stmt:=top 8
theorem Gy:FnScope ["one", "word", "other"] ["one", "word", "other"] (Zb Qf):=⟨rfl,rfl,rfl,by decide +kernel,rfl,by decide +kernel,by decide +kernel⟩
abbrev Qh:Stmt:=top 21
theorem Gz:FnScope ["word"] ["word"] (Zb Qh):=⟨rfl,rfl,rfl,by decide +kernel,rfl,by decide +kernel,by decide +kernel⟩
abbrev Qi:Stmt:=top 22
theorem GA:FnScope ["word", "most"] ["word", "most"] (Zb Qi):=⟨rfl,rfl,rfl,by decide +kernel,rfl,by decide +kernel,by decide +kernel⟩
abbrev Qj:Stmt:=top 31
theorem GB:FnScope ["word"] ["word"] (Zb Qj):=⟨rfl,rfl,rfl,by decide +kernel,rfl,by decide +kernel,by decide +kernel⟩
abbrev Qk:Stmt:=top 32
theorem GC:FnScope ["word"] ["word"] (Zb Qk):=⟨rfl,rfl,rfl,by decide +kernel,rfl,by decide +kernel,by decide +kernel⟩
abbrev Ql:Stmt:=top 34
theorem Sy:FnScope ["reading", "row", "name", "other"] ["reading"] (Zb Ql):=⟨rfl,rfl,rfl,by decide +kernel,rfl,by decide +kernel,by decide +kernel⟩
abbrev Qm:Stmt:=top 35
theorem NJ:FnScope ["reading", "names"] ["reading"] (Zb Qm):=⟨rfl,rfl,rfl,by decide +kernel,rfl,by decide +kernel,by decide +kernel⟩
abbrev Qn:Stmt:=top 36
theorem GD:FnScope ["word"] ["word"] (Zb Qn):=⟨rfl,rfl,rfl,by decide +kernel,rfl,by decide +kernel,by decide +kernel⟩
abbrev Qo:Stmt:=top 37
theorem Qp:FnScope ["reading", "left", "word"] ["reading"] (Zb Qo):=⟨rfl,rfl,rfl,by decide +kernel,rfl,by decide +kernel,by decide +kernel⟩
abbrev Qq:Stmt:=top 38
theorem Sz:FnScope ["reading", "depth", "one", "word", "other"] ["reading", "depth"] (Zb Qq):=⟨rfl,rfl,rfl,by decide +kernel,rfl,by decide +kernel,by decide +kernel⟩
abbrev Qr:Stmt:=top 39
theorem SA:FnScope ["reading", "depth", "word", "name", "one"] ["reading", "depth"] (Zb Qr):=⟨rfl,rfl,rfl,by decide +kernel,rfl,by decide +kernel,by decide +kernel⟩
abbrev Qs:Stmt:=top 40
theorem NK:FnScope ["reading", "depth", "word"] ["reading", "depth"] (Zb Qs):=⟨rfl,rfl,rfl,by decide +kernel,rfl,by decide +kernel,by decide +kernel⟩
abbrev Qt:Stmt:=top 41
theorem Qu:FnScope ["text", "reading", "statement"] ["text"] (Zb Qt):=⟨rfl,rfl,rfl,by decide +kernel,rfl,by decide +kernel,by decide +kernel⟩
abbrev Qw:Stmt:=top 43
theorem GE:FnScope ["_law_script", "_law_k"] ["_law_script", "_law_k"] (Zb Qw):=⟨rfl,rfl,rfl,by decide +kernel,rfl,by decide +kernel,by decide +kernel⟩
abbrev Qx:Stmt:=top 44
theorem GF:FnScope ["_law_found"] ["_law_found"] (Zb Qx):=⟨rfl,rfl,rfl,by decide +kernel,rfl,by decide +kernel,by decide +kernel⟩
abbrev Qy:Stmt:=top 45
theorem NL:FnScope ["_law_word", "_law_signs_here", "_law_sign"] ["_law_word", "_law_signs_here"] (Zb Qy):=⟨rfl,rfl,rfl,by decide +kernel,rfl,by decide +kernel,by decide +kernel⟩
abbrev Qz:Stmt:=top 46
theorem GG:FnScope ["_law_word"] ["_law_word"] (Zb Qz):=⟨rfl,rfl,rfl,by decide +kernel,rfl,by decide +kernel,by decide +kernel⟩
abbrev QB:Stmt:=top 47
theorem GH:FnScope ["_law_word"] ["_law_word"] (Zb QB):=⟨rfl,rfl,rfl,by decide +kernel,rfl,by decide +kernel,by decide +kernel⟩
abbrev QC:Stmt:=top 48
theorem GI:FnScope ["_law_word"] ["_law_word"] (Zb QC):=⟨rfl,rfl,rfl,by decide +kernel,rfl,by decide +kernel,by decide +kernel⟩
abbrev QD:Stmt:=top 49
theorem GJ:FnScope ["_law_word", "_law_deep"] ["_law_word", "_law_deep"] (Zb QD):=⟨rfl,rfl,rfl,by decide +kernel,rfl,by decide +kernel,by decide +kernel⟩
abbrev QF:Stmt:=top 50
theorem NM:FnScope ["_law_kind", "_law_word", "_law_good"] ["_law_kind", "_law_word"] (Zb QF):=⟨rfl,rfl,rfl,by decide +kernel,rfl,by decide +kernel,by decide +kernel⟩
abbrev QG:Stmt:=top 51
theorem GK:FnScope ["_law_kind", "_law_many", "_law_word"] ["_law_kind", "_law_many", "_law_word"] (Zb QG):=⟨rfl,rfl,rfl,by decide +kernel,rfl,by decide +kernel,by decide +kernel⟩
abbrev QH:Stmt:=top 52
theorem Ve:FnScope ["_law_left", "_law_word", "_law_kind", "_law_much", "_law_more"] ["_law_left", "_law_word"] (Zb QH):=⟨rfl,rfl,rfl,by decide +kernel,rfl,by decide +kernel,by decide +kernel⟩
abbrev QI:Stmt:=top 53
theorem GL:FnScope ["_law_left"] ["_law_left"] (Zb QI):=⟨rfl,rfl,rfl,by decide +kernel,rfl,by decide +kernel,by decide +kernel⟩
abbrev QJ:Stmt:=top 54
theorem WN:FnScope ["_law_left", "_law_cell_here", "_law_turn", "_law_name_here", "_law_row_here", "_law_kind", "_law_much", "_law_number_here", "_law_joint"] ["_law_left", "_law_cell_here"] (Zb QJ):=⟨rfl,rfl,rfl,by decide +kernel,rfl,by decide +kernel,by decide +kernel⟩
abbrev QK:Stmt:=top 55
theorem QL:FnScope ["_law_cell_here", "_law_menu_here"] ["_law_cell_here"] (Zb QK):=⟨rfl,rfl,rfl,by decide +kernel,rfl,by decide +kernel,by decide +kernel⟩
abbrev QM:Stmt:=top 56
theorem UZ:FnScope ["_law_left", "_law_kind", "_law_much"] ["_law_left"] (Zb QM):=⟨rfl,rfl,rfl,by decide +kernel,rfl,by decide +kernel,by decide +kernel⟩
abbrev QN:Stmt:=top 57
theorem VY:FnScope ["_law_text", "_law_place", "_law_told", "e", "_law_others"] ["_law_text", "_law_place"] (Zb QN):=⟨rfl,rfl,rfl,by decide +kernel,rfl,by decide +kernel,by decide +kernel⟩
abbrev QO:Stmt:=top 58
theorem NN:FnScope ["_law_menu_here"] [] (Zb QO):=⟨rfl,rfl,rfl,by decide +kernel,rfl,by decide +kernel,by decide +kernel⟩
abbrev QP:Stmt:=top 59
theorem WO:FnScope ["_law_script", "_law_signs_here", "_law_text", "_law_number_here", "_law_turn"] ["_law_script"] (Zb QP):=⟨rfl,rfl,rfl,by decide +kernel,rfl,by decide +kernel,by decide +kernel⟩
abbrev QQ:Stmt:=top 60
theorem YT:FnScope ["_law_script", "_law_words", "_law_left", "_law_good", "_law_wild_here", "_law_k", "_law_number_here", "_law_cell_here", "_law_word", "_law_after", "_law_turn"] ["_law_script"] (Zb QQ):=⟨rfl,rfl,rfl,by decide +kernel,rfl,by decide +kernel,by decide +kernel⟩
abbrev QR:Stmt:=top 61
theorem U0:FnScope ["_law_words", "_law_left", "_law_at", "_law_word"] ["_law_words"] (Zb QR):=⟨rfl,rfl,rfl,by decide +kernel,rfl,by decide +kernel,by decide +kernel⟩
abbrev SB:Stmt:=top 62
theorem VZ:FnScope ["_law_script", "_law_text", "_law_bad_here", "_law_found", "_law_told"] ["_law_script"] (Zb SB):=⟨rfl,rfl,rfl,by decide +kernel,rfl,by decide +kernel,by decide +kernel⟩
def YU:Addr:=539
def Xm(l c:Nat):Str:=if l=(NG Xl).line/\c=(NG Xl).col then "Reading.one_of.<locals>.<lambda>" else ""
def ts0:List (ah×(Nat->Nat->au)):=[(YU,Xm)]
structure Cs(K:ay)(mg:au->Option af)(kt:ah)(kf:ah)(kg:ah)(ki:ah)(kh:ah)(kq:ah)(km:ah)(kn:ah)(kr:ah)(kj:ah)(ke:ah)(gt:ah)(io:ah)(ko:ah)(kc:ah)(kl:ah):Prop where
 c_WheelError:mg "WheelError" = aa (.ref kt)
 c_NoLine:mg "NoLine" = aa (.ref kf)
 c_NoMachine:mg "NoMachine" = aa (.ref kg)
 c_NoText:mg "NoText" = aa (.ref ki)
 c_NoName:mg "NoName" = aa (.ref kh)
 c_Statement:mg "Statement" = aa (.ref kq)
 c_SignIs:mg "SignIs" = aa (.ref km)
 c_SignsLike:mg "SignsLike" = aa (.ref kn)
 c_Sums:mg "Sums" = aa (.ref kr)
 c_PlaceIs:mg "PlaceIs" = aa (.ref kj)
 c_No:mg "No" = aa (.ref ke)
 c_Both:mg "Both" = aa (.ref gt)
 c_Either:mg "Either" = aa (.ref io)
 c_Some:mg "Some" = aa (.ref ko)
 c_Every:mg "Every" = aa (.ref kc)
 c_Reading:mg "Reading" = aa (.ref kl)
 ic_SignIs:InsCls K km
 is_SignIs:ao K (.ref km) (.ref km)=aa ac
 na_SignIs_row:Zt K km "row"
 na_SignIs_name:Zt K km "name"
 na_SignIs_sign:Zt K km "sign"
 x_SignIs:∃ f fd,Mk K km f/\FunD K "__init__" "SignIs.__init__" UE .none f fd/\Zq K fd ["self", "row", "name", "sign"] []
 x_SignIs_text:∃ f fd,Meth K km "text" f/\FunD K "text" "SignIs.text" UF .none f fd/\Zq K fd ["self"] []
 ic_SignsLike:InsCls K kn
 is_SignsLike:ao K (.ref kn) (.ref kn)=aa ac
 na_SignsLike_row:Zt K kn "row"
 na_SignsLike_name:Zt K kn "name"
 na_SignsLike_other:Zt K kn "other"
 na_SignsLike_second:Zt K kn "second"
 x_SignsLike:∃ f fd,Mk K kn f/\FunD K "__init__" "SignsLike.__init__" UG .none f fd/\Zq K fd ["self", "row", "name", "other", "second"] []
 x_SignsLike_text:∃ f fd,Meth K kn "text" f/\FunD K "text" "SignsLike.text" UH .none f fd/\Zq K fd ["self"] []
 ic_Sums:InsCls K kr
 is_Sums:ao K (.ref kr) (.ref kr)=aa ac
 na_Sums_left:Zt K kr "left"
 na_Sums_right:Zt K kr "right"
 na_Sums_word:Zt K kr "word"
 x_Sums:∃ f fd,Mk K kr f/\FunD K "__init__" "Sums.__init__" UI .none f fd/\Zq K fd ["self", "left", "right", "word"] []
 x_Sums_text:∃ f fd,Meth K kr "text" f/\FunD K "text" "Sums.text" UJ .none f fd/\Zq K fd ["self"] []
 ic_PlaceIs:InsCls K kj
 is_PlaceIs:ao K (.ref kj) (.ref kj)=aa ac
 na_PlaceIs_name:Zt K kj "name"
 na_PlaceIs_place:Zt K kj "place"
 x_PlaceIs:∃ f fd,Mk K kj f/\FunD K "__init__" "PlaceIs.__init__" UK .none f fd/\Zq K fd ["self", "name", "place"] []
 x_PlaceIs_text:∃ f fd,Meth K kj "text" f/\FunD K "text" "PlaceIs.text" UL .none f fd/\Zq K fd ["self"] []
 ic_No:InsCls K ke
 is_No:ao K (.ref ke) (.ref ke)=aa ac
 na_No_one:Zt K ke "one"
 x_No:∃ f fd,Mk K ke f/\FunD K "__init__" "No.__init__" UM .none f fd/\Zq K fd ["self", "one"] []
 x_No_text:∃ f fd,Meth K ke "text" f/\FunD K "text" "No.text" UN .none f fd/\Zq K fd ["self"] []
 ic_Both:InsCls K gt
 is_Both:ao K (.ref gt) (.ref gt)=aa ac
 na_Both_one:Zt K gt "one"
 na_Both_other:Zt K gt "other"
 x_Both:∃ f fd,Mk K gt f/\FunD K "__init__" "Both.__init__" UO .none f fd/\Zq K fd ["self", "one", "other"] []
 x_Both_text:∃ f fd,Meth K gt "text" f/\FunD K "text" "Both.text" UP .none f fd/\Zq K fd ["self"] []
 ic_Either:InsCls K io
 is_Either:ao K (.ref io) (.ref io)=aa ac
 na_Either_one:Zt K io "one"
 na_Either_other:Zt K io "other"
 x_Either:∃ f fd,Mk K io f/\FunD K "__init__" "Either.__init__" UQ .none f fd/\Zq K fd ["self", "one", "other"] []
 x_Either_text:∃ f fd,Meth K io "text" f/\FunD K "text" "Either.text" UR .none f fd/\Zq K fd ["self"] []
 ic_Some:InsCls K ko
 is_Some:ao K (.ref ko) (.ref ko)=aa ac
 na_Some_name:Zt K ko "name"
 na_Some_one:Zt K ko "one"
 x_Some:∃ f fd,Mk K ko f/\FunD K "__init__" "Some.__init__" US .none f fd/\Zq K fd ["self", "name", "one"] []
 x_Some_text:∃ f fd,Meth K ko "text" f/\FunD K "text" "Some.text" UT .none f fd/\Zq K fd ["self"] []
 ic_Every:InsCls K kc
 is_Every:ao K (.ref kc) (.ref kc)=aa ac
 na_Every_name:Zt K kc "name"
 na_Every_one:Zt K kc "one"
 x_Every:∃ f fd,Mk K kc f/\FunD K "__init__" "Every.__init__" UU .none f fd/\Zq K fd ["self", "name", "one"] []
 x_Every_text:∃ f fd,Meth K kc "text" f/\FunD K "text" "Every.text" UV .none f fd/\Zq K fd ["self"] []
 ic_Reading:InsCls K kl
 na_Reading_words:Zt K kl "words"
 na_Reading_at:Zt K kl "at"
 x_Reading:∃ f fd,Mk K kl f/\FunD K "__init__" "Reading.__init__" UW .none f fd/\Zq K fd ["self", "words"] []
 x_Reading_shown:∃ f fd,Meth K kl "shown" f/\FunD K "shown" "Reading.shown" UX .none f fd/\Zq K fd ["self"] []
 x_Reading_wanted:∃ f fd,Meth K kl "wanted" f/\FunD K "wanted" "Reading.wanted" UY .none f fd/\Zq K fd ["self", "fits"] []
 x_Reading_one_of:∃ f fd c0,Meth K kl "one_of" f/\FunC K "one_of" "Reading.one_of" Xl f fd c0/\Zq K fd ["self", "choices"] []/\dQ K c0 YU=ac
 ix_NoText:∃ fI fd,ExcI K ki [.type "ValueError",.type "Exception",.type "BaseException",.type "object"] "ValueError.__new__" fI/\FunD K "__init__" "NoText.__init__" UD .none fI fd/\Zq K fd ["self", "at"] []
 est1:ExcSet K ki "at"
 eft1:ExcFld K ki "at"
 k_NoText:ExcCls K ki
 mT_We:fa K (.ref ki) (.ref kt)=aa ac
 iT_v:ao K (.ref ki) (.type "ValueError")=aa ac
 iT_T:ao K (.ref ki) (.ref ki)=aa ac
 iT_NoName:ao K (.ref ki) (.ref kh)=aa aw
 iT_NoLine:ao K (.ref ki) (.ref kf)=aa aw
 iT_NoMachine:ao K (.ref ki) (.ref kg)=aa aw
 st_SignIs:ao K (.ref km) (.ref kq)=aa ac
 st_SignsLike:ao K (.ref kn) (.ref kq)=aa ac
 st_Sums:ao K (.ref kr) (.ref kq)=aa ac
 st_PlaceIs:ao K (.ref kj) (.ref kq)=aa ac
 st_No:ao K (.ref ke) (.ref kq)=aa ac
 st_Both:ao K (.ref gt) (.ref kq)=aa ac
 st_Either:ao K (.ref io) (.ref kq)=aa ac
 st_Some:ao K (.ref ko) (.ref kq)=aa ac
 st_Every:ao K (.ref kc) (.ref kq)=aa ac
structure Txt(K:ay)(mg:au->Option af):Prop where
 g_FIGURES:∃ t,mg "FIGURES" = aa (.str "0123456789" t)
 g_SMALL_LETTERS:∃ t,mg "SMALL_LETTERS" = aa (.str "abcdefghijklmnopqrstuvwxyz" t)
 g_CAPITAL_LETTERS:∃ t,mg "CAPITAL_LETTERS" = aa (.str "ABCDEFGHIJKLMNOPQRSTUVWXYZ" t)
 g_NO_NAMES:∃ a,mg "NO_NAMES" = aa (.ref a)/\CTup K a ["some", "all", "not", "and", "or", "is", "like"]
 g_LONGEST_NAME:∃ t,mg "LONGEST_NAME" = aa (.int 6 t)
 g_MOST_FIGURES:∃ t,mg "MOST_FIGURES" = aa (.int 9 t)
 g_MOST_IN_A_SIDE:∃ t,mg "MOST_IN_A_SIDE" = aa (.int 3 t)
 g_DEEPEST:∃ t,mg "DEEPEST" = aa (.int 8 t)
 n_ValueError:mg "ValueError" = none
 n_all:mg "all" = none
 n_bool:mg "bool" = none
 n_enumerate:mg "enumerate" = none
 n_int:mg "int" = none
 n_isinstance:mg "isinstance" = none
 n_len:mg "len" = none
 n_list:mg "list" = none
 n_range:mg "range" = none
 n_str:mg "str" = none
 x_wall:Tx K mg "_wall" NI ["k"] [[]]
 x_joined_text:Tx K mg "joined_text" Qf ["one", "word", "other"] [[]]
 x_is_figure:Tx K mg "is_figure" Qh ["word"] [[]]
 x_is_number:Tx K mg "is_number" Qi ["word", "most"] [[]]
 x_is_name:Tx K mg "is_name" Qj ["word"] [[]]
 x_is_row_name:Tx K mg "is_row_name" Qk ["word"] [[]]
 x_read_sign:Tx K mg "read_sign" Ql ["reading"] [[]]
 x_read_side:Tx K mg "read_side" Qm ["reading"] [[]]
 x_is_place:Tx K mg "is_place" Qn ["word"] [[]]
 x_read_sums:Tx K mg "read_sums" Qo ["reading"] [[]]
 x_read_joined:Tx K mg "read_joined" Qq ["reading", "depth"] [[]]
 x_read_bound:Tx K mg "read_bound" Qr ["reading", "depth"] [[]]
 x_read_part:Tx K mg "read_part" Qs ["reading", "depth"] [[]]
 x_read_statement:Tx K mg "read_statement" Qt ["text"] [[]]
 x_law_cell:Tx K mg "_law_cell" Qw ["_law_script", "_law_k"] [[]]
 x_law_whole:Tx K mg "_law_whole" Qx ["_law_found"] [[]]
 x_law_all_in:Tx K mg "_law_all_in" Qy ["_law_word", "_law_signs_here"] [[]]
 x_law_name:Tx K mg "_law_name" Qz ["_law_word"] [[]]
 x_law_number:Tx K mg "_law_number" QB ["_law_word"] [[]]
 x_law_row:Tx K mg "_law_row" QC ["_law_word"] [[]]
 x_law_begun:Tx K mg "_law_begun" QD ["_law_word", "_law_deep"] [[]]
 x_law_single:Tx K mg "_law_single" QF ["_law_kind", "_law_word"] [[]]
 x_law_in_sum:Tx K mg "_law_in_sum" QG ["_law_kind", "_law_many", "_law_word"] [[]]
 x_law_next:Tx K mg "_law_next" QH ["_law_left", "_law_word"] [[]]
 x_law_ended:Tx K mg "_law_ended" QI ["_law_left"] [[]]
 x_law_menu:Tx K mg "_law_menu" QJ ["_law_left", "_law_cell_here"] [[]]
 x_law_wild:Tx K mg "_law_wild" QK ["_law_cell_here"] [[]]
 x_law_last:Tx K mg "_law_last" QM ["_law_left"] [[]]
 x_law_refused:Tx K mg "_law_refused" QN ["_law_text", "_law_place"] [[]]
 x_law_signs:Tx K mg "_law_signs" QO [] [[]]
 x_law_spelled:Tx K mg "_law_spelled" QP ["_law_script"] [[]]
 x_law_grown:Tx K mg "_law_grown" QQ ["_law_script"] [[]]
 x_law_bad:Tx K mg "_law_bad" QR ["_law_words"] [[]]
 cs:∃ kt kf kg ki kh kq km kn kr kj ke gt io ko kc kl,Cs K mg kt kf kg ki kh kq km kn kr kj ke gt io ko kc kl
local macro_rules | `(tactic| walk_at "sd") => `(tactic| first
 | (show (0 : Int) < _; omega (config:={}))
 | (refine ⟨?_, ?_⟩ <;> omega (config:={}))
 | exact aK ⟨by omega (config:={}), by omega (config:={})⟩
 | exact eG ⟨by omega (config:={}), by omega (config:={})⟩
 | exact ⟨by decide, by decide, by decide⟩)
local macro_rules | `(tactic| walk_at "nrs") => `(tactic| (repeat (first | exact NRs.nil | refine NRs.cons (by first | exact NR.av | exact NR.bor) ?_)))
local macro_rules | `(tactic| walk_at "v0") => `(tactic| first | walk_at "v0i" | (with_reducible refine Ys ?_))
local macro_rules | `(tactic| walk_at "v0i") => `(tactic| with_reducible first
 | refine Ny (λN hN => ?_) | (refine Nx (by assumption) ?_; walk_at "ds") | refine K7 ?_ | refine Jf ?_ | refine Zz ?_ | refine ZN ?_ | refine JM ?_
 | refine YY ?_ | refine K5 ?_ | refine WG ?_ | refine Rw ?_ | refine K6 ?_ | refine K8 ?_ | refine un_i ?_ | refine JQ ?_ | refine Oi ?_ | refine K9 ?_ | refine eq_i ?_
 | refine Jj ?_ | refine Jk ?_ | refine Jl ?_ | refine Jm ?_ | refine Oj ?_ | refine tv_b ?_ | refine Jg ?_ | refine Jh ?_ | refine Ji ?_ | refine Ol ?_
 | refine v_b ?_ | refine v_i ?_ | refine v_s ?_ | refine IF ?_ | refine OC ?_ | refine JJ ?_ | refine JK ?_ | refine Xc ?_ | refine Y4 ?_ | refine JZ ?_)
local macro_rules | `(tactic| walk_at "v1") => `(tactic| first
 | (with_reducible refine YF (by with_unfolding_all exact rfl) ?_)
 | (with_reducible refine g_o (by with_unfolding_all exact rfl) ?_)
 | (with_reducible refine g_a (by with_unfolding_all exact rfl) ?_)
 | (with_reducible refine g_g (by with_unfolding_all exact rfl) ?_)
 | (with_reducible refine g_ap (by with_unfolding_all exact rfl) ?_)
 )
local macro_rules | `(tactic| walk_at "ds") => `(tactic| try dsimp only [List.set_cons_succ, List.set_cons_zero])
local macro_rules | `(tactic| walk_at "hd") => `(tactic| with_reducible refine Nx (by assumption) ?_)
local macro_rules | `(tactic| walk_at "v") => `(tactic| first | walk_at "v0" | walk_at "v1" | (with_reducible refine Os ?_) | (with_reducible refine Ot ?_) | (refine VI ?c ?_; (case c => walk_at "sd")) | (refine Oy ?c ?_; (case c => walk_at "sd")))
local macro_rules | `(tactic| walk_at "vs") => `(tactic| ((repeat walk_at "v"); walk_at "ds"))
local macro_rules | `(tactic| walk_at "vm") => `(tactic| ((repeat (first | walk_at "v" | refine ix_T rfl rfl ZT.d ?_)); walk_at "ds"))
local macro_rules | `(tactic| walk_at "vj") => `(tactic| first | walk_at "v0i" | walk_at "v1" | (with_reducible refine Os ?_) | (with_reducible refine Ot ?_) | (refine VI ?c ?_; (case c => walk_at "sd")) | (refine Oy ?c ?_; (case c => walk_at "sd")))
local macro_rules | `(tactic| walk_at "vi") => `(tactic| ((repeat (first | walk_at "vj" | refine ix_T rfl rfl ZT.d ?_)); walk_at "ds"))
local macro_rules|`(tactic|w_on)=>`(tactic|walk_at "vs")
local macro_rules|`(tactic|o_law)=>`(tactic|walk_at "vm")
local macro_rules|`(tactic|k_head)=>`(tactic|walk_at "vi")
section
variable{P:bg}{w:bK}{base:bG}{K:ay}{mg:au->Option af}[Tabs]
abbrev Pz(α:Type):Type:=Except Nat (α×Nat)
abbrev oI(ns:List Int):AV:=.own (ns.map λk=>.d (.int k))
theorem NO(ns:List Int):(oI ns).data=dI ns:=by rw[AV.data,W7];rfl
def Nm(z:au):Prop:=z.length<=6/\∀ c∈z.cps.toList,c<128
def Sn(x:Int):Prop:=0<=x/\x<10 ^ 10
variable{x:Int}
theorem U1(h:Sn x):(nT x).length<=10:=PySem.W.KT.len_num h.1 h.2
theorem NQ{m:Nat}:∀ {zs:List au},(∀ z∈zs,z.length<=m)->(zs.map (·.length)).sum<=m*zs.length
 | [],_=>d0 _
 | z::zs,h=>by
  have U:=h z (.head _)
  have R:=NQ λx W=>h x (.tail _ W)
  rw[bp,gk,aS,Nat.mul_succ]
  omega
variable{α:Type}{sep:au}{n:Nat}{zs:List au}{m:Pz α}
theorem Xn{m:Nat}(B:sep.length<=3)(h:∀ z∈zs,z.length<=m)(hn:zs.length<=n)(hb:(m+3)*n<=1000000):JoinOk sep zs=ac/\(bj sep zs).length<=(m+3)*n:=by
 have U:=NQ h
 have R:(m+3)*zs.length<=(m+3)*n:=i9 _ hn
 have S:(m+3)*zs.length=m*zs.length+3*zs.length:=Nat.add_mul ..
 have F:zs.length*sep.length<=zs.length*3:=i9 _ B
 refine⟨PyProof.Rows.joinOk_of ?_,?_⟩
 ·omega
 ·show (jC sep zs).length<=_
  rw[fH]
  have:=fC sep zs
  omega
def Pc(z:au):Prop:=∀ c∈z.cps.toList,c<128
variable{z:au}
theorem Pc.ok(h:Pc z):hU z=true:=by
 unfold hU
 rw[Array.all_eq_true]
 intro i t
 have:=h z.cps[i] (Array.getElem_mem_toList t)
 simp
 omega
variable{y:au}
theorem Pc.app(h:Pc y)(g:Pc z):Pc (y++z):=λc Y=>by
 rw[cf] at Y
 exact (mem_append.mp Y).elim (h c) (g c)
theorem Pc.num(h:0<=x):Pc (nT x):=by
 obtain⟨m,rfl⟩:=eW h
 intro c Y
 rw[show (nT ((m:Nat):Int)).cps.toList=(iC 10 m).map ja from gM m] at Y
 obtain⟨ch,j,e⟩:=mem_map.mp Y
 have r:=Nat.isDigit_of_mem_toDigits (by decide) (by decide) j
 have r:=PyProof.Rows.digit_range r
 omega
theorem Pc.join{sep:au}(B:Pc sep):∀ {zs:List au},(∀ z∈zs,Pc z)->Pc (cy sep zs)
 | [],_=>λc Y=>by cases (show c∈([]:List Nat) from Y)
 | [x],h=>h x (.head _)
 | x::y::r,h=>((h x (.head _)).app B).app (Pc.join B λz C=>h z (.tail _ C))
theorem tj(sep:au)(zs:List au):bj sep zs=cy sep zs:=fH sep zs
variable{a b:au}
theorem QT(h:a.cps.toList=b.cps.toList):a=b:=by
 cases a;cases b
 exact congrArg au.mk (Array.ext' h)
theorem spc1:(" " : au).length<=3:=by decide +kernel
theorem spc3:(" + " : au).length<=3:=by decide +kernel
inductive Kd
 | si|sl|su|pl|no|bo|ei|so|ev
inductive Stm
 | si (row name:au) (sign:Int)
 | sl (row name other second:au)
 | su (l r:List au) (wd:au)
 | pl (name:au) (place:Int)
 | no (a:Stm)
 | bo (a b:Stm)
 | ei (a b:Stm)
 | so (n:au) (a:Stm)
 | ev (n:au) (a:Stm)
noncomputable def Stm.kd:Stm->Kd
 | .si ..=>.si
 | .sl ..=>.sl
 | .su ..=>.su
 | .pl ..=>.pl
 | .no ..=>.no
 | .bo ..=>.bo
 | .ei ..=>.ei
 | .so ..=>.so
 | .ev ..=>.ev
noncomputable def Stm.ht:Stm->Nat
 | .no a=>a.ht+1
 | .bo a b=>max a.ht b.ht+1
 | .ei a b=>max a.ht b.ht+1
 | .so _ a=>a.ht+1
 | .ev _ a=>a.ht+1
 | _=>1
noncomputable def Stm.tx:Stm->au
 | .si row name sign=>bj " " [row,name, "is",nT sign]
 | .sl row name other second=>bj " " [row,name, "like",other,second]
 | .su l r wd=>bj " " [bj " + " l,wd,bj " + " r]
 | .pl name place=>bj " " [name, "=",nT place]
 | .no a=>bj " " ["not",a.tx]
 | .bo a b=>bj " " ["(",a.tx, "and",b.tx, ")"]
 | .ei a b=>bj " " ["(",a.tx, "or",b.tx, ")"]
 | .so n a=>bj " " ["some",n,a.tx]
 | .ev n a=>bj " " ["all",n,a.tx]
inductive Stm.Ok:Stm->Prop
 | si {row name:au} {sign:Int} (h1:Nm row) (h2:Nm name) (h3:Sn sign):Stm.Ok (.si row name sign)
 | sl {row name other second:au} (h1:Nm row) (h2:Nm name) (h3:Nm other) (h4:Nm second):Stm.Ok (.sl row name other second)
 | su {l r:List au} {wd:au} (h1:∀ z∈l,Nm z) (h2:∀ z∈r,Nm z) (l1:l.length<=6) (l2:r.length<=6) (h3:Nm wd):Stm.Ok (.su l r wd)
 | pl {name:au} {place:Int} (h1:Nm name) (h2:Sn place):Stm.Ok (.pl name place)
 | no {a:Stm} (h:a.Ok) (ha:a.tx.length<=100000):Stm.Ok (.no a)
 | bo {a b:Stm} (h:a.Ok) (ha:a.tx.length<=100000) (g:b.Ok) (hb:b.tx.length<=100000):Stm.Ok (.bo a b)
 | ei {a b:Stm} (h:a.Ok) (ha:a.tx.length<=100000) (g:b.Ok) (hb:b.tx.length<=100000):Stm.Ok (.ei a b)
 | so {n:au} {a:Stm} (h1:Nm n) (h:a.Ok) (ha:a.tx.length<=100000):Stm.Ok (.so n a)
 | ev {n:au} {a:Stm} (h1:Nm n) (h:a.Ok) (ha:a.tx.length<=100000):Stm.Ok (.ev n a)
section
variable (C:Kd->ah)
noncomputable def Stm.D:Stm->ak
 | .si row name sign=>dO (C .si) [("row",.str row),("name",.str name),("sign",.int sign)]
 | .sl row name other second=>dO (C .sl) [("row",.str row),("name",.str name),("other",.str other),("second",.str second)]
 | .su l r wd=>dO (C .su) [("left",dFz (l.map .str)),("right",dFz (r.map .str)),("word",.str wd)]
 | .pl name place=>dO (C .pl) [("name",.str name),("place",.int place)]
 | .no a=>dO (C .no) [("one",a.D)]
 | .bo a b=>dO (C .bo) [("one",a.D),("other",b.D)]
 | .ei a b=>dO (C .ei) [("one",a.D),("other",b.D)]
 | .so n a=>dO (C .so) [("name",.str n),("one",a.D)]
 | .ev n a=>dO (C .ev) [("name",.str n),("one",a.D)]
theorem Stm.D_at(t:Stm):∃ fds,t.D C=dO (C t.kd) fds/\fds.lookup ("free" : au)=none/\fds.lookup ("text" : au)=none:=by
 cases t<;>exact⟨_,rfl,rfl,rfl⟩
noncomputable def Cl(c1 c2 c3 c4 c5 c6 c7 c8 c9:ah):Kd->ah
 | .si=>c1
 | .sl=>c2
 | .su=>c3
 | .pl=>c4
 | .no=>c5
 | .bo=>c6
 | .ei=>c7
 | .so=>c8
 | .ev=>c9
end
variable{km kn kr kj ke gt io ko kc:ah}{h:Nat}{E:FK}{ρ:Sl}{te:TE}{C:Kd->ah}{Q:TV->Prop}{X:Exc->Sl->Prop}
abbrev CL(km kn kr kj ke gt io ko kc:ah):Kd->Addr:=Cl km kn kr kj ke gt io ko kc
def NS(C:Kd->ah)(h:Nat)(j:Kd)(t:Stm)(cs:List AV):Prop:=t.Ok/\t.kd=j/\t.ht<=h/\cs=[.d (t.D C)]
def NU(t:Stm)(_:List AV)(c:AV):Prop:=c=.d (.str t.tx)
abbrev XG(K:ay)(C:Kd->ah)(h:Nat)(j:Kd):L2.Sp:=spF K (NS C h j) NU
theorem V0{E':XK}(g:Ev K E X te ρ λa=>∃ t:Stm,a.data=t.D C/\NR a/\t.Ok/\t.ht<=h/\Q (.av (.d (.str t.tx)))):Ev K E X (R1 "text" C (λj=>XG K C h j) E' te) ρ Q :=
 Hx (XA g λa ⟨t,e,na,ok,hh,q⟩=>by
  obtain⟨f,T,_,M⟩:=t.D_at C
  exact⟨t.kd,f,e.trans T,na,M,t,[.d (t.D C)],.cons (.d na e) .nil,⟨ok,rfl,hh,rfl⟩,λc Y=>⟨_,Got.own (by rw[Y];rfl),by rw[Y];exact q⟩,λ_ z=>z.elim⟩)
structure QE(X:L2.Cx)(e:cz)(t:L2.TE):Prop where
 h:L2.PE X e t
structure QA(X:L2.Cx)(es:List cz)(t:L2.TA):Prop where
 h:L2.PA X es t
structure QS(X:L2.Cx)(st:er)(t:L2.TS):Prop where
 h:L2.PS X st t
structure QSs(X:L2.Cx)(sts:List er)(t:L2.TS):Prop where
 h:L2.PSs X sts t
variable{x name:au}{j i:Nat}{st:er}{t:Stm}{p:jJ}{Ty:String}{c:cz}{xs:List cz}{bs:List TV}{tc:L2.TT}
section
variable{X:L2.Cx}{e a b:cz}{es:List cz}{te tb:L2.TE}{ta:L2.TA}{pos pos':jJ}{r:L2.R2}{sts:List er}{t u:L2.TS}
theorem Zo(h:L2.PE X e te):QE X e te:=⟨h⟩
theorem Zh:QE X (.Constant (.str x) j pos) (tC (.str x)):=⟨Zm⟩
theorem QU{op:Operator}(P:L2.OpR X (cr op) r)(ha:QE X a te)(hb:QE X b tb):QE X (.BinOp a op b pos) (tOp r te tb):=⟨Zu P ha.h hb.h⟩
theorem YH(J:L2.IxR X r)(ha:QE X a te)(hb:QE X b tb)(B:L2.PM b):QE X (.Subscript a b pos) (tOp r te tb):=⟨Yg J ha.h hb.h B⟩
theorem Zn:QA X [] ZV:=⟨Zc⟩
theorem XH(h:QE X (.List xs p) te)(r:QA X es ta):QA X (.List xs p::es) (ZD te ta):=⟨Za h.h r.h rfl⟩
theorem Yx{c p}(h:QE X (.Tuple xs c p) te)(r:QA X es ta):QA X (.Tuple xs c p::es) (ZD te ta):=⟨Za h.h r.h rfl⟩
theorem Zf{v k p}(h:QE X (.Constant v k p) te)(r:QA X es ta):QA X (.Constant v k p::es) (ZD te ta):=⟨Za h.h r.h rfl⟩
theorem Xo(h:QE X (.Name x p) te)(r:QA X es ta):QA X (.Name x p::es) (ZD te ta):=⟨Za h.h r.h rfl⟩
theorem XI{ks p}(h:QE X (.Call a xs ks p) te)(r:QA X es ta):QA X (.Call a xs ks p::es) (ZD te ta):=⟨Za h.h r.h rfl⟩
theorem Vf{o p}(h:QE X (.BinOp a o b p) te)(r:QA X es ta):QA X (.BinOp a o b p::es) (ZD te ta):=⟨Za h.h r.h rfl⟩
theorem Vg(h:QE X (.Subscript a b p) te)(r:QA X es ta):QA X (.Subscript a b p::es) (ZD te ta):=⟨Za h.h r.h rfl⟩
theorem qa_m{os}{p}(h:QE X (.Compare a os xs p) te)(r:QA X es ta):QA X (.Compare a os xs p::es) (ZD te ta):=⟨Za h.h r.h rfl⟩
theorem qa_o{o}{p}(h:QE X (.BoolOp o xs p) te)(r:QA X es ta):QA X (.BoolOp o xs p::es) (ZD te ta):=⟨Za h.h r.h rfl⟩
theorem X5(h:QE X (.Attribute a x p) te)(r:QA X es ta):QA X (.Attribute a x p::es) (ZD te ta):=⟨Za h.h r.h rfl⟩
theorem ZF(h:QA X es ta):QE X (.List es pos) (XZ ta):=⟨Xu h.h⟩
theorem Yy{x1}(h:QA X es ta):QE X (.Tuple es x1 pos) (Tl ta):=⟨Vv h.h⟩
theorem Ym{i:Int}:QE X (.Constant (.int i) j pos) (tC (.int i)):=⟨Ze⟩
theorem GM{w:List L2.V->L2.Hp->L2.VK->Prop}(Y:L2.Z7 X (.type Ty) w)(M:L2.Gl X x)(hm:X.mg x=none)(S:du x=aa (.type Ty))(ha:QA X (e::es) ta)(hn:x ≠ "__name__" := by decide)(b:(x == ("__debug__" : au))=false:=by decide)
  (j:aB (e::es) X.env=(aw,cg e X.env)::aB es X.env:=by rfl) (g:(bZ pos (aB es X.env)).any (·.1)=false:=by rfl):QE X (.Call (.Name x p) (e::es) [] pos) (tCB w ta):=⟨Xb Y M hm S ha.h hn b j g⟩
theorem WP{id:String}{o:cz}{to:L2.TE}{w:L2.V->List L2.V->L2.Hp->L2.VK->Prop}{apos cpos:jJ}(h:X.K=K)(g:jU Ty)(slot:Slot Ty name id)(i:typeOf (.builtin id)=dZ (.type "method_descriptor"))(hm:L2.MtR X id w)(P:QE X o to)(ha:QA X (e::es) ta)
  (b:df o name X.env (cg o X.env)=cg o X.env:=by rfl)
  (f:((bZ cpos (aB (e::es) X.env)).all (λx=>!x.1) && (gh cpos (eo [] X.env)).all (λx=>x.1.isSome)
   && decide ((e::es).length+([]:List ie).length+(if ([]:List ie).isEmpty then 0 else 1)<30))=true:=by rfl)
  (a:(apos.endLine == cpos.line)=true:=by rfl) (B:aB (e::es) X.env=(aw,cg e X.env)::aB es X.env:=by rfl) (c:(bZ cpos (aB es X.env)).any (·.1)=false:=by rfl) :
  QE X (.Call (.Attribute o name apos) (e::es) [] cpos) (tBM K Ty w to ta):=⟨XN h g slot i hm P.h ha.h b f a B c⟩
theorem Yn(h:L2.PS X st t):QS X st t:=⟨h⟩
theorem Yb(h:QE X e te):QS X (.Return (aa e) pos) (Vo te):=⟨Zx h.h⟩
theorem Yz{as bs:List er}(Y:L2.PT X c tc)(ha:QSs X as t)(hb:QSs X bs u):QS X (.If c as bs pos) (Vp tc t u):=⟨Yr Y ha.h hb.h⟩
theorem GN{as bs:List er}(Y:L2.PT X c tc)(ha:QSs X as t)(hb:QSs X bs u):QS X (.If c as bs pos) (RI tc t u):=⟨X2 Y ha.h hb.h⟩
theorem Wp(hN:X.N.Nodup)(hi:X.N[i]?=aa x)(W:L2.Loc X.env.scope x)(j:QE X e te)(B:hE e (aa (.Name x pos')) pos.line X.env=dZ false:=by rfl)(F:X.fn x=ac\/X.env.scope.names.lookup x=aa .local:=by walk_at "m") :
  QS X (.Assign [.Name x pos'] e pos) (WZ te (WB i)):=⟨ZB hN hi W j.h B F⟩
theorem Yv:QSs X [] Uc:=⟨Z6⟩
theorem ZL(h:QS X st t):QSs X [st] t:=⟨Zl h.h⟩
theorem ZK(h:QS X st t)(r:QSs X sts u):QSs X (st::sts) (Yj t u):=⟨Zk h.h r.h⟩
end
variable{CX:CXT}{k f:Nat}{Θ:Type}{dV:af}{fd:cS}{N ps:List au}{dvss:List (List V)}{Pre:List AV->Prop}{Post:List AV->AV->Prop}
theorem U2{Pre:Θ->List AV->Prop}{Post:Θ->List AV->AV->Prop}(T:Tx K mg x st ps dvss)(i:FnScope N ps (Zb st))(C:∀ O cs,Pre O cs->cs.length=ps.length)
  (hbody:∀ (O:Θ) (f:ah) (cdv:af) (A:bv) (outer:List eF) (s:aq) (H:Hp) (E:XK),Room k (A.deeper (bQ x (Zb st) s.heap.objs.size f cdv)) ->
   ∃ t,QSs (ZJ CX P w K mg base N x (Zb st) f cdv A outer s H E).nox (Zy st) t/\∀ cs,Pre O cs->Sv K (toF E) NE t (inA N cs) (WL (Post O cs))) :
  ∀ dvs∈dvss,Cal P w K mg base CX (k+1) x ps dvs (spF K Pre Post) :=
 XD T i C λO f cdv A outer s H E J=> (by obtain⟨t,U,R⟩:=hbody O f cdv A outer s H E J;exact ⟨t,U.h,R⟩)
theorem SD(T:Tx K mg x st ps dvss)(i:FnScope N ps (Zb st))(C:∀ cs,Pre cs->cs.length=ps.length)
  (hbody:∀ (f:ah) (cdv:af) (A:bv) (outer:List eF) (s:aq) (H:Hp) (E:XK),Room k (A.deeper (bQ x (Zb st) s.heap.objs.size f cdv)) ->
   ∃ t,QSs (ZJ CX P w K mg base N x (Zb st) f cdv A outer s H E).nox (Zy st) t/\∀ cs,Pre cs->Sv K (toF E) NE t (inA N cs) (WL (Post cs))) :
  ∀ dvs∈dvss,Cal P w K mg base CX (k+1) x ps dvs (spR K Pre Post NP) :=
 Ux T i C λf cdv A outer s H E J=> (by obtain⟨t,U,R⟩:=hbody f cdv A outer s H E J;exact ⟨t,U.h,R⟩)
theorem Wq{Pre:Θ->List AV->Prop}{Post:Θ->List AV->AV->Prop}{qual:au}{f:ah}(F:FunD K name qual st dV f fd)(i:FnScope N ps (Zb st))(C:∀ O cs,Pre O cs->cs.length=ps.length)
  (hbody:∀ (O:Θ) (cdv:af) (A:bv) (outer:List eF) (s:aq) (H:Hp) (E:XK),Room k (A.deeper (bQ qual (Zb st) s.heap.objs.size f cdv)) ->
   ∃ t,QSs (ZJ CX P w K mg base N qual (Zb st) f cdv A outer s H E).nox (Zy st) t/\∀ cs,Pre O cs->Sv K (toF E) NE t (inA N cs) (WL (Post O cs))) :
  FnOk P w K mg base CX (k+1) f fd ps (spF K Pre Post) :=
 valM F i C λO cdv A outer s H E J=> (by obtain⟨t,U,R⟩:=hbody O cdv A outer s H E J;exact ⟨t,U.h,R⟩)
abbrev CQ(km kn kr kj ke gt io ko kc:ah):Kd->Addr:=CL km kn kr kj ke gt io ko kc
theorem GO(t:Stm):1<=t.ht:=by cases t<;>exact d7 _ _
def NV(C:Kd->ah)(h:Nat)(θ:Stm×au×Stm)(cs:List AV):Prop:=(θ.1.Ok/\θ.1.ht<=h/\θ.1.tx.length<=100000)/\Nm θ.2.1/\(θ.2.2.Ok/\θ.2.2.ht<=h/\θ.2.2.tx.length<=100000)/\cs=[.d (θ.1.D C),.d (.str θ.2.1),.d (θ.2.2.D C)]
def NW(θ:Stm×au×Stm)(_:List AV)(c:AV):Prop:=c=.d (.str (bj " " ["(",θ.1.tx,θ.2.1,θ.2.2.tx, ")"]))
abbrev MT(P:bg)(w:bK)(K:ay)(mg:au->Option af)(base:bG)(C:Kd->ah)(k h:Nat):Prop:=∀ j,Cls K (C j)/\∃ f fd,Meth K (C j) "text" f/\FnOk P w K mg base (CXE P w) k f fd ["self"] (XG K C h j)/\Zq K fd ["self"] []
theorem len5{w:au}(ha:a.length<=100000)(hb:b.length<=100000)(hw:w.length<=100000):JoinOk " " ["(",a,w,b, ")"]=true:=by
 refine (Xn (m:=100000) (n:=5) spc1 (λz C=>?_) (ar _) (by decide)).1
 simp only[eR,dL,or_false] at C
 rcases C with rfl|rfl|rfl|rfl|rfl
 ·decide +kernel
 ·exact ha
 ·exact hw
 ·exact hb
 ·decide +kernel
theorem NY(T:Txt K mg)(m_text:MT P w K mg base C k h):Cal P w K mg base (CXE P w) (k+1) "joined_text" ["one", "word", "other"] [] (spF K (NV C h) NW):=by
 refine U2 T.x_joined_text Gy ((by rintro O cs ⟨_,_,_,e⟩;rw[e];rfl)) (λO f X A I s H E J=>?_) [] (by simp)
 refine⟨_,(ZL (Yb (WP (K:=K) rfl aX bu bt (XQ (K:=K) rfl) Zh (XH (ZF (Zf Zh (XI (Zo (VR (pv 0) m_text (J.mono (by omega)) ZA)) (Xo (Zo (pv 1)) (XI (Zo (VR (pv 2) m_text (J.mono (by omega)) ZA)) (Zf Zh Zn)))))) Zn)))),?_⟩
 rintro cs ⟨⟨a1,a2,a3⟩,hw,⟨b1,b2,b3⟩,rfl⟩
 obtain⟨a,wd,b⟩:=O
 show Sv K _ _ _ [aa (.d (a.D C)),aa (.d (.str wd)),aa (.d (b.D C))] _
 k_head
 refine XR ?_
 k_head
 refine Ye ?_
 k_head
 refine V0 ?_
 k_head
 refine⟨a,rfl,NR.av,a1,a2,?_⟩
 k_head
 refine V0 ?_
 k_head
 refine⟨b,rfl,NR.av,b1,b2,?_⟩
 k_head
 refine⟨[.d (.str "("),.d (.str a.tx),.d (.str wd),.d (.str b.tx),.d (.str ")")],.cons rfl (.cons rfl (.cons rfl (.cons rfl (.cons rfl .nil)))),by show 5<=1000;decide,?_⟩
 refine⟨["(",a.tx,wd,b.tx, ")"],rfl,NR.av,len5 a3 b3 (aT hw.1 (by decide)),?_⟩
 exact⟨_,Zs rfl,rfl⟩
theorem NZ{a b:Stm}{wd:au}{X:Exc->Prop}(a1:a.Ok)(a2:a.ht<=h)(a3:a.tx.length<=100000)(hw:Nm wd)(p:b.Ok)(G:b.ht<=h)(L:b.tx.length<=100000)(q:Q (.av (.d (.str (bj " " ["(",a.tx,wd,b.tx, ")"]))))):∃ O,ClR (NV C h O) (NW O) NP [] Q X [.av (.d (a.D C)),.av (.d (.str wd)),.av (.d (b.D C))] :=
 ⟨(a,wd,b),[.d (a.D C),.d (.str wd),.d (b.D C)],.cons (.d NR.av rfl) (.cons (.d NR.av rfl) (.cons (.d NR.av rfl) .nil)),⟨⟨a1,a2,a3⟩,hw,⟨p,G,L⟩,rfl⟩,λc Y=>by
  have Y:c=.d (.str (bj " " ["(",a.tx,wd,b.tx, ")"])):=Y
  subst Y
  exact⟨_,Got.own rfl,q⟩,λ_ z=>z.elim⟩
theorem GP:Nm "and" := ⟨by decide +kernel,by decide +kernel⟩
theorem GQ:Nm "or" := ⟨by decide +kernel,by decide +kernel⟩
abbrev FIG:Str := "0123456789"
abbrev CAP:Str := "ABCDEFGHIJKLMNOPQRSTUVWXYZ"
abbrev SML:Str := "abcdefghijklmnopqrstuvwxyz"
abbrev t1(c:Nat):Str:=⟨#[c]⟩
def NON:List Str:=["some", "all", "not", "and", "or", "is", "like"]
def Wd(z:au):Prop:=Pc z/\z.length<=10000
theorem QW:Wd "" := ⟨λc Y=>(by cases (show c∈([]:List Nat) from Y)),by decide +kernel⟩
def ZE(A z:au):Bool:=decide (z.length=1) && gx A z
def alls(A z:au):Bool:=z.cps.toList.all λc=>decide (c∈A.cps.toList)
def ZG(z:au):Bool:=decide (1<=z.length) && (decide (z.length<=6) && (!decide (z∈NON) && alls SML z))
def ZM(m:Nat)(z:au):Bool:=decide (1<=z.length) && (decide (z.length<=m) && (if z.cps.toList.head?=aa 48 then decide (z = "0") else alls FIG z))
theorem SE(x:au)(c:Nat):gx x (t1 c)=decide (c∈x.cps.toList):=by
 unfold gx
 rcases PySem.StrLaws.occ_head x (t1 c) 1 (ar 1) with⟨W,f⟩|⟨i,r,W,t,_⟩
 ·rw[W]
  refine (decide_eq_false λz=>?_).symm
  obtain⟨i,t⟩:=(gz x c).mp z
  exact f i t
 ·rw[W]
  exact (decide_eq_true ((gz x c).mpr ⟨i,t⟩)).symm
theorem ZU{a b:TV}(A:NR a)(w:NR b)(ha:a.data=.str y)(hb:b.data=.str z)(B:Pc y)(C:Pc z)(q:Q (.av (.d (.bool (decide (y=z)))))):Op K E X (rOr rEq (W5 K)) a b Q:=by
 refine eq_d (f:=dS) (c:=⟨y,B.ok⟩) (d:=⟨z,C.ok⟩) Enc.str ha hb ?_ A w
 rw[decide_eq_decide.mpr (show (⟨y,B.ok⟩:OkS)=⟨z,C.ok⟩↔y=z from ⟨λe=>iH e,λe=>h6 e⟩)]
 exact q
theorem QX{a b:TV}(A:NR a)(w:NR b)(ha:a.data=.str y)(hb:b.data=.str z)(B:Pc y)(C:Pc z)(q:Q (.av (.d (.bool (!decide (y=z)))))):Op K E X (rOr rNe (W6 K)) a b Q:=by
 refine ne_d (f:=dS) (c:=⟨y,B.ok⟩) (d:=⟨z,C.ok⟩) Enc.str ha hb ?_ A w
 rw[decide_eq_decide.mpr (show (⟨y,B.ok⟩:OkS)=⟨z,C.ok⟩↔y=z from ⟨λe=>iH e,λe=>h6 e⟩)]
 exact q
theorem N1:∀ {ns:List au},(∀ z∈ns,Pc z)->∃ xs:List OkS,ns=xs.map Subtype.val
 | [],_=>⟨[],rfl⟩
 | z::ns,h=>by
  obtain⟨xs,e⟩:=N1 (ns:=ns) λy B=>h y (.tail _ B)
  exact⟨⟨z,(h z (.head _)).ok⟩::xs,congrArg (z::·) e⟩
variable{ns:List Int}
theorem V1{ns:List au}{a b:TV}(A:NR a)(w:NR b)(ha:a.data=.str y)(hb:b.data=.list (ns.map .str)\/b.data=.tuple (ns.map .str))(B:Pc y)(hn:∀ z∈ns,Pc z)(q:Q (.av (.d (.bool (decide (y∈ns)))))):Op K E X (VF K aw) a b Q:=by
 obtain⟨xs,e⟩:=N1 hn
 subst e
 refine in_d (f:=dS) (c:=⟨y,B.ok⟩) (xs:=xs) Enc.str ha ?_ ?_ A w
 ·rw[e7] at hb;exact hb
 have g:(⟨y,B.ok⟩:OkS)∈xs↔y∈xs.map Subtype.val:=by
  rw[mem_map]
  exact⟨λh=>⟨_,h,rfl⟩,λ⟨x,W,e⟩=>by
   have:x=⟨y,B.ok⟩:=h6 e
   rw[<- this];exact W⟩
 rw[decide_eq_decide.mpr g]
 exact q
theorem Yc(h:(z.cps.all (· < 128))=ac):Pc z:=λc Y=>by
 rw[<- jq] at h
 exact of_decide_eq_true (gp.mp h c Y)
theorem Pc.all{z:au}(h:Pc z):(z.cps.all (· < 128))=true:=by
 rw[<- jq]
 exact gp.mpr λc Y=>decide_eq_true (h c Y)
def QY(θ:au)(cs:List AV):Prop:=Wd θ/\cs=[.d (.str θ)]
def PostP(p:au->Bool)(θ:au)(_:List AV)(c:AV):Prop:=c=.d (.bool (p θ))
abbrev spP(K:ay)(p:au->Bool):L2.Sp:=spF K QY (PostP p)
variable{p:au->Bool}
theorem Wr{X:Exc->Prop}{a:TV}(A:NR a)(ha:a.data=.str z)(C:Wd z)(q:Q (.av (.d (.bool (p z))))):∃ O,ClR (QY O) (PostP p O) NP [] Q X [a] :=
 ⟨z,[.d (.str z)],.cons (.d A ha) .nil,⟨C,rfl⟩,λc Y=>by
  have Y:c=.d (.bool (p z)):=Y
  subst Y
  exact⟨_,Got.own rfl,q⟩,λ_ z=>z.elim⟩
variable{A:TA}
theorem N2{A:au}(q:Q (.av (.d (.bool (alls A z))))) :
  ∀ a:TV,NR a->a.data=.list ((bL z.length).map λi=>.bool (decide (z.cps.getD i 0∈A.cps.toList)))->Bi K E X (Rx K) [a] Q:=λa b l=>by
 refine JH (cs:=(bL z.length).map λi=>decide (z.cps.getD i 0∈A.cps.toList)) ?_ ?_ b
 ·rw[l,e7];rfl
 have e:((bL z.length).map λi=>decide (z.cps.getD i 0∈A.cps.toList)).all id=alls A z:=by
  unfold alls
  rw[all_map]
  have:z.cps.toList=(bL z.length).map λi=>z.cps.getD i 0:=by
   refine List.ext_getElem (by rw[aC,g4,a_];rfl) λi U R=>?_
   rw[List.getElem_map,gc,eg,cB (by rw[a_] at U;exact U)]
   rfl
  rw[this,all_map]
  rfl
 rw[e]
 exact q
theorem GR(T:Txt K mg):Cal P w K mg base (CXE P w) 1 "is_figure" ["word"] [] (spP K (ZE FIG)):=by
 refine XD T.x_is_figure Gz (λθ cs ⟨_,e⟩=>by rw[e];rfl) (λz f X A I s H E J=>?_) [] (by simp)
 refine⟨_,(Zl (Zx (Y9 (ZZ (ZC (K:=K) rfl J.units) (ZQ (Yt (K:=K) rfl) rfl T.n_len aV (Za (pv 0) Zc)) Ze (nomark _)) (Y3 (ZZ (Xy (K:=K) rfl J.units) (pv 0) (Sf T.g_FIGURES rfl) (by with_unfolding_all rfl)))))),?_⟩
 rintro cs ⟨hw,rfl⟩
 have L:=hw.2
 show Sv K _ _ _ [aa (.d (.str z))] _
 w_on
 refine X3 rfl (by omega) ?_
 w_on
 by_cases h:z.length=1
 ·rw[decide_eq_true (show ((z.length:Nat):Int)=1 by omega)]
  w_on
  refine VQ (z:=FIG) rfl rfl ?_
  exact⟨_,Zs rfl,by show _=AV.d (.bool (ZE FIG z));unfold ZE;rw[decide_eq_true h,br]⟩
 ·rw[decide_eq_false (show ¬ ((z.length:Nat):Int)=1 by omega)]
  w_on
  exact⟨_,Zs rfl,by show _=AV.d (.bool (ZE FIG z));unfold ZE;rw[decide_eq_false h,bI]⟩
theorem N3(T:Txt K mg):Cal P w K mg base (CXE P w) 1 "is_row_name" ["word"] [] (spP K (ZE CAP)):=by
 refine XD T.x_is_row_name GC (λθ cs ⟨_,e⟩=>by rw[e];rfl) (λz f X A I s H E J=>?_) [] (by simp)
 refine⟨_,(Zl (Zx (Y9 (ZZ (ZC (K:=K) rfl J.units) (ZQ (Yt (K:=K) rfl) rfl T.n_len aV (Za (pv 0) Zc)) Ze (nomark _)) (Y3 (ZZ (Xy (K:=K) rfl J.units) (pv 0) (Sf T.g_CAPITAL_LETTERS rfl) (by with_unfolding_all rfl)))))),?_⟩
 rintro cs ⟨hw,rfl⟩
 have L:=hw.2
 show Sv K _ _ _ [aa (.d (.str z))] _
 w_on
 refine X3 rfl (by omega) ?_
 w_on
 by_cases h:z.length=1
 ·rw[decide_eq_true (show ((z.length:Nat):Int)=1 by omega)]
  w_on
  refine VQ (z:=CAP) rfl rfl ?_
  exact⟨_,Zs rfl,by show _=AV.d (.bool (ZE CAP z));unfold ZE;rw[decide_eq_true h,br]⟩
 ·rw[decide_eq_false (show ¬ ((z.length:Nat):Int)=1 by omega)]
  w_on
  exact⟨_,Zs rfl,by show _=AV.d (.bool (ZE CAP z));unfold ZE;rw[decide_eq_false h,bI]⟩
theorem QZ(T:Txt K mg):Cal P w K mg base (CXE P w) 1 "is_name" ["word"] [] (spP K ZG):=by
 obtain⟨g_NO_NAMES,h_NO_NAMES,ct⟩:=T.g_NO_NAMES
 refine XD T.x_is_name GB (λθ cs ⟨_,e⟩=>by rw[e];rfl) (λz f X A I s H E J=>?_) [] (by simp)
 refine⟨_,(Zk (Yr (PW.pt (V9 (Zr (ZC (K:=K) rfl J.units) (ZQ (Yt (K:=K) rfl) rfl T.n_len aV (Za (pv 0) Zc)) Ze (nomark _)) (V9 (Zr Xk (ZQ (Yt (K:=K) rfl) rfl T.n_len aV (Za (pv 0) Zc)) (TK T.g_LONGEST_NAME rfl) (nomark _)) (Te (Zr (KK (K:=K) rfl) (pv 0) (X9 (v:=.ref g_NO_NAMES) rfl h_NO_NAMES rfl) (by with_unfolding_all rfl))))))
    (Zl (Zx Wy))
    Z6)
   (Zl (Zx (ZQ (Oo (K:=K) rfl rfl) rfl T.n_all gI (Za (P2 (N:=["sign"]) (cap:=[none]) rfl rfl rfl (by kernel_rfl) (RZ (pv 0)) (λ_ _ _ _=>(YQ (i:=0) (show (["sign"]:List au).Nodup from by decide +kernel) rfl (aK rfl))) (λ_ _ _ _=>P0) (λ_ _ _ _=>(ZZ (Xy (K:=K) rfl J.units) (pv 0) (Sf T.g_SMALL_LETTERS rfl) (by with_unfolding_all rfl)))) Zc))))),?_⟩
 rintro cs ⟨hw,rfl⟩
 have L:=hw.2
 show Sv K _ _ _ [aa (.d (.str z))] _
 w_on
 refine X3 rfl (by omega) ?_
 w_on
 refine ite2 (λh=>?_) λh=>?_
 ·have h:z.length=0:=by have:=of_decide_eq_true h;omega
  w_on
  exact⟨_,Zs rfl,by show _=AV.d (.bool (ZG z));unfold ZG;rw[h];rfl⟩
 have W:1<=z.length:=by
  rcases ax z.length with e|e
  ·exact absurd (decide_eq_true (by omega)) h
  ·exact e
 w_on
 refine X3 rfl (by omega) ?_
 w_on
 refine ite2 (λh=>?_) λh=>?_
 ·have h:¬ z.length<=6:=by have:=of_decide_eq_true h;omega
  w_on
  exact⟨_,Zs rfl,by show _=AV.d (.bool (ZG z));unfold ZG;rw[decide_eq_false h,bI,cx]⟩
 have B:z.length<=6:=by
  rcases cT 6 z.length with e|e
  ·exact absurd (decide_eq_true (by omega)) h
  ·exact e
 w_on
 refine VH ?_
 refine HU ct rfl ?_
 refine⟨_,rfl,?_⟩
 refine ite2 (λh=>?_) λh=>?_
 ·w_on
  exact⟨_,Zs rfl,by show _=AV.d (.bool (ZG z));unfold ZG NON;rw[h,bV,bI,cx,cx]⟩
 w_on
 refine Nh ?_
 w_on
 refine⟨z,λi=>.d (.bool (decide (z.cps.getD i 0∈SML.cps.toList))),rfl,NR.av,hw.1.all,by omega,λi t=>?_,_,Got.own (T1 λ_=>rfl),?_⟩
 ·show Gv K _ _ [none] _
  w_on
  refine⟨wk_0,?_⟩
  w_on
  refine VQ (y:=t1 (z.cps.getD i 0)) (z:=SML) rfl rfl ?_
  rw[SE]
  rfl
 w_on
 refine N2 (A:=SML) (z:=z) ?_ _ NR.av ?_
 ·exact⟨_,Zs rfl,by show _=AV.d (.bool (ZG z));unfold ZG NON;rw[decide_eq_true W,decide_eq_true B,(dm _).mp h,et,br,br,br]⟩
 ·rw[TV.data,AV.data,W7]
def PreN(m:Nat)(θ:au)(cs:List AV):Prop:=Wd θ/\cs=[.d (.str θ),.d (.int m)]
theorem GS(T:Txt K mg):Cal P w K mg base (CXE P w) 1 "is_number" ["word", "most"] [] (spF K (PreN 9) (PostP (ZM 9))):=by
 refine XD T.x_is_number GA (λθ cs ⟨_,e⟩=>by rw[e];rfl) (λz f X A I s H E J=>?_) [] (by simp)
 refine⟨_,(Zk (Yr (PW.pt (V9 (Zr (ZC (K:=K) rfl J.units) (ZQ (Yt (K:=K) rfl) rfl T.n_len aV (Za (pv 0) Zc)) Ze (nomark _)) (Te (Zr Xk (ZQ (Yt (K:=K) rfl) rfl T.n_len aV (Za (pv 0) Zc)) (pv 1) (nomark _)))))
    (Zl (Zx Wy))
    Z6)
   (Zk (Yr (Zr (ZC (K:=K) rfl J.units) (Yg (ZI (K:=K) rfl J.units) (pv 0) Ze (λ_ _=>rfl)) Zm (nomark _))
    (Zl (Zx (ZZ (ZC (K:=K) rfl J.units) (pv 0) Zm (nomark _))))
    Z6)
   (Zl (Zx (ZQ (Oo (K:=K) rfl rfl) rfl T.n_all gI (Za (P2 (N:=["sign"]) (cap:=[none]) rfl rfl rfl (by kernel_rfl) (RZ (pv 0)) (λ_ _ _ _=>(YQ (i:=0) (show (["sign"]:List au).Nodup from by decide +kernel) rfl (aK rfl))) (λ_ _ _ _=>P0) (λ_ _ _ _=>(ZZ (Xy (K:=K) rfl J.units) (pv 0) (Sf T.g_FIGURES rfl) (by with_unfolding_all rfl)))) Zc)))))),?_⟩
 rintro cs ⟨hw,rfl⟩
 have L:=hw.2
 show Sv K _ _ _ [aa (.d (.str z)),aa (.d (.int 9))] _
 w_on
 refine X3 rfl (by omega) ?_
 w_on
 refine ite2 (λh=>?_) λh=>?_
 ·have h:z.length=0:=by have:=of_decide_eq_true h;omega
  w_on
  exact⟨_,Zs rfl,by show _=AV.d (.bool (ZM 9 z));unfold ZM;rw[h];rfl⟩
 have W:1<=z.length:=by
  rcases ax z.length with e|e
  ·exact absurd (decide_eq_true (by omega)) h
  ·exact e
 w_on
 refine X3 rfl (by omega) ?_
 w_on
 refine ite2 (λh=>?_) λh=>?_
 ·have h:¬ z.length<=9:=by have:=of_decide_eq_true h;omega
  w_on
  exact⟨_,Zs rfl,by show _=AV.d (.bool (ZM 9 z));unfold ZM;rw[decide_eq_false h,bI,cx]⟩
 have B:z.length<=9:=by
  rcases cT 9 z.length with e|e
  ·exact absurd (decide_eq_true (by omega)) h
  ·exact e
 obtain⟨d,r,C⟩:∃ d r,z.cps.toList=d::r:=by
  cases e:z.cps.toList with
  | nil =>
   have:z.length=0:=by show z.cps.size=0;rw[<- a_,e];rfl
   omega
  | cons d r=>exact⟨d,r,rfl⟩
 have hd:d<128:=hw.1 d (by rw[C];exact .head _)
 have j:Pc (t1 d):=λc Y=>by rw[mem_singleton.mp (show c∈[d] from Y)];exact hd
 have k:Pc "0" := by unfold Pc;decide +kernel
 have Z:(t1 d=("0" : au))↔z.cps.toList.head?=aa 48:=by
  rw[C]
  constructor
  ·intro e
   have M:[d]=[48]:=congrArg (λx:au=>x.cps.toList) e
   rw[aF M |>.1]
   rfl
  ·intro e
   have:d=48:=by simpa using e
   subst this
   decide +kernel
 w_on
 refine Se (c:=d) rfl (by omega) (VC (by decide) (by rw[C];rfl)) ?_
 w_on
 refine ZU (y:=t1 d) (z := "0") NR.av NR.av rfl rfl j k ?_
 refine⟨_,rfl,?_⟩
 refine ite2 (λh=>?_) λh=>?_
 ·have h:=Z.mp (of_decide_eq_true h)
  w_on
  refine ZU (y:=z) (z := "0") NR.av NR.av rfl rfl hw.1 k ?_
  exact⟨_,Zs rfl,by show _=AV.d (.bool (ZM 9 z));unfold ZM;rw[decide_eq_true W,decide_eq_true B,br,br,if_pos h]⟩
 have a:¬ z.cps.toList.head?=aa 48:=λq=>h (decide_eq_true (Z.mpr q))
 w_on
 refine Nh ?_
 w_on
 refine⟨z,λi=>.d (.bool (decide (z.cps.getD i 0∈FIG.cps.toList))),rfl,NR.av,hw.1.all,by omega,λi t=>?_,_,Got.own (T1 λ_=>rfl),?_⟩
 ·show Gv K _ _ [none] _
  w_on
  refine⟨wk_0,?_⟩
  w_on
  refine VQ (y:=t1 (z.cps.getD i 0)) (z:=FIG) rfl rfl ?_
  rw[SE]
  rfl
 w_on
 refine N2 (A:=FIG) (z:=z) ?_ _ NR.av ?_
 ·exact⟨_,Zs rfl,by show _=AV.d (.bool (ZM 9 z));unfold ZM;rw[decide_eq_true W,decide_eq_true B,br,br,if_neg a]⟩
 ·rw[TV.data,AV.data,W7]
theorem GT(T:Txt K mg)(c_is_number:Cal P w K mg base (CXE P w) 1 "is_number" ["word", "most"] [] (spF K (PreN 9) (PostP (ZM 9)))):Cal P w K mg base (CXE P w) 2 "is_place" ["word"] [] (spP K (ZM 9)):=by
 refine XD T.x_is_place GD (λθ cs ⟨_,e⟩=>by rw[e];rfl) (λz f X A I s H E J=>?_) [] (by simp)
 refine⟨_,(Zl (Zx (ZR (c_is_number.mono (by omega)) J rfl ZA (Za (pv 0) (Za (TK T.g_MOST_FIGURES rfl) Zc))))),?_⟩
 rintro cs ⟨hw,rfl⟩
 show Sv K _ _ _ [aa (.d (.str z))] _
 w_on
 refine Yi ?_
 w_on
 exact⟨z,[.d (.str z),.d (.int 9)],.cons (.d NR.av rfl) (.cons (.d NR.av rfl) .nil),⟨hw,rfl⟩,λc Y=>by
  have Y:c=.d (.bool (ZM 9 z)):=Y
  subst Y
  exact⟨_,Got.own rfl,_,Zs rfl,rfl⟩,λ_ z=>z.elim⟩
def RD(C:ah)(ws:List au)(i:Nat):AV:=.dic (rdD C (dFz (ws.map .str)) i)
def shw(ws:List au)(i:Nat):Str:=ws.getD i ""
def YI(ws:List au):Prop:=(∀ z∈ws,Wd z)/\ws.length<=10000
variable{ws:List au}
theorem U3(h:YI ws)(i:Nat):Wd (shw ws i):=by
 unfold shw
 rw[bc]
 cases e:ws[i]? with
 | none=>exact QW
 | some z=>exact h.1 z (fv e)
theorem N4(C:ah)(ws:List au)(i:Nat):(RD C ws i).clean=ac/\(RD C ws i).plain=true:=by
 have h:noLsts (ws.map aY)=true:=by
  induction ws with
  | nil=>rfl
  | cons z ws B=>rw[bp,noLsts,B];rfl
 refine⟨?_,rfl⟩
 show noLsts [.int C,.bool ac,dFz (ws.map .str),.int i]=ac
 rw[noLsts,noLsts,noLsts,(show Z9 (dFz (ws.map .str))=ac from TM.mpr h)]
 rfl
def NT(C:ah)(k:Nat):Exc:=⟨C,[("at",.int k)]⟩
variable{β:Type}
noncomputable def bd:Pz α->(α->Nat->Pz β)->Pz β
 | .error k,_=>.error k
 | .ok (a,j),f=>f a j
noncomputable def lift(g:α->AV):Pz α->Pz AV
 | .error k=>.error k
 | .ok (a,j)=>.ok (g a,j)
def want(p:au->Bool)(ws:List au)(i:Nat):Pz Str:=if p (shw ws i)=ac then .ok (shw ws i,i+1) else .error i
structure Θr where
 ws:List au
 i:Nat
 xs:List AV
 res:Pz AV
abbrev FT:Type:=List au->Nat->List AV->Pz AV->Prop
def Pg(C:ah)(F:FT)(θ:Θr)(cs:List AV):Prop:=YI θ.ws/\F θ.ws θ.i θ.xs θ.res/\cs=RD C θ.ws θ.i::θ.xs
def Qg(C:ah)(θ:Θr)(_ cs':List AV)(r:AV):Prop:=∃ j xs',θ.res=.ok (r,j)/\cs'=RD C θ.ws j::xs'
def Xg(CN:ah)(θ:Θr)(_:List AV)(e:Exc):Prop:=∃ k,θ.res=.error k/\e=NT CN k
abbrev spG(K:ay)(C CN:ah)(F:FT):L2.Sp:=Wn K (Pg C F) (Qg C) (Xg CN)
variable{CN:ah}{xs:List AV}{g:α->AV}{Q:TV->Sl->Prop}
theorem WQ{C:ah}{F:FT}(cv:Cv bs xs)(hw:YI ws)(l:F ws i xs (lift g m))(M:∀ a,(g a).clean=ac/\(g a).plain=ac)
  (q:∀ a j,m=.ok (a,j)->Q (.av (g a)) (ρ.set n (aa (RD C ws j)))) (x:∀ k,m=.error k->X (NT CN k) (ρ.set n none)):ClW (Pg C F) (Qg C) (Xg CN) (RD C ws i) ρ n Q X bs:=by
 refine⟨⟨ws,i,xs,lift g m⟩,xs,cv,⟨hw,l,rfl⟩,?_,?_⟩
 ·rintro cs' r ⟨j,xs',e,rfl⟩
  cases m with
  | error k=>cases e
  | ok p =>
   obtain⟨a,c⟩:=p
   obtain⟨rfl,rfl⟩:g a=r/\c=j:=by simpa [lift] using e
   exact⟨_,_,rfl,N4 ..,M a,q a c rfl⟩
 ·rintro e ⟨k,hk,rfl⟩
  cases m with
  | error b =>
   obtain rfl:b=k:=by simpa [lift] using hk
   exact x b rfl
  | ok p=>cases hk
def F_sh:FT:=λws i xs res=>xs=[]/\res=lift (λz=>.d (.str z)) (.ok (shw ws i,i))
variable{kt kf kg ki kh kq kl:ah}
theorem SH(T:Txt K mg)(Z:Cs K mg kt kf kg ki kh kq km kn kr kj ke gt io ko kc kl):∃ f fd,Meth K kl "shown" f/\FnOk P w K mg base (CXE P w) 1 f fd ["self"] (spG K kl ki F_sh)/\Zq K fd ["self"] []:=by
 obtain⟨f,fd,M,F,b⟩:=Z.x_Reading_shown
 refine⟨f,fd,M,NF (k:=0) F Gu (λO cs h=>by obtain⟨_,U,R⟩:=h;rw[R,U.1];rfl) (λO X A I s H E J=>?_),b⟩
 refine⟨_,(Zl (Zx (S1 (Zr WC (ZX (K:=K) rfl (pv 0)) (ZQ (Yt (K:=K) rfl) rfl T.n_len aV (Za (ZX (K:=K) rfl (pv 0)) Zc)) (nomark _)) (Yg (ZI (K:=K) rfl J.units) (ZX (K:=K) rfl (pv 0)) (ZX (K:=K) rfl (pv 0)) (λ_ _=>rfl)) Zm))),?_⟩
 rintro cs ⟨hw,hf,rfl⟩
 obtain⟨G,i,xs,res⟩:=O
 replace hf:xs=[]/\res=lift (λz=>.d (.str z)) (.ok (shw G i,i)):=hf
 obtain⟨rfl,rfl⟩:=hf
 show Sr K _ _ _ _ [aa (RD kl G i)] _
 have L:G.length<=10000:=hw.2
 refine YR (Y6 ?_)
 k_head
 refine Vd (n:=0) rfl Z.ic_Reading.cl Z.na_Reading_at ?_
 k_head
 refine Qd (n:=0) rfl Z.ic_Reading.cl Z.na_Reading_words ?_
 k_head
 refine XB rfl ?_
 rw[aC]
 k_head
 refine ite2 (λh=>?_) λh=>?_
 ·have h:i<G.length:=by have:=of_decide_eq_true h;omega
  k_head
  refine Qd (n:=0) rfl Z.ic_Reading.cl Z.na_Reading_words ?_
  k_head
  refine Vd (n:=0) rfl Z.ic_Reading.cl Z.na_Reading_at ?_
  k_head
  refine YC rfl (VC (y:=.str G[i]) (by omega) (by rw[Int.toNat_natCast,c_,aR h];rfl)) (ZT.flat rfl) ?_
  refine⟨[RD kl G i],[],.d (.str G[i]),rfl,rfl,⟨i,[],?_,rfl⟩,rfl⟩
  show lift (λz=>AV.d (.str z)) (.ok (shw G i,i))=_
  unfold shw
  rw[bc,aR h]
  rfl
 ·have h:G.length<=i:=by
   rcases cT i G.length with e|e
   ·exact absurd (decide_eq_true (by omega)) h
   ·exact e
  k_head
  refine⟨[RD kl G i],[],.d (.str ""),rfl,rfl,⟨i,[],?_,rfl⟩,rfl⟩
  show lift (λz=>AV.d (.str z)) (.ok (shw G i,i))=_
  unfold shw
  rw[bc,iF h]
  rfl
theorem Q0(Z:Cs K mg kt kf kg ki kh kq km kn kr kj ke gt io ko kc kl):∃ fI fd,ExcI K ki [.type "ValueError",.type "Exception",.type "BaseException",.type "object"] "ValueError.__new__" fI/\FnOk P w K mg base (CXE P w) 1 fI fd ["self", "at"] (T3 ki ["at"])/\Zq K fd ["self", "at"] []:=by
 obtain⟨fI,fd,x,F,b⟩:=Z.ix_NoText
 exact⟨fI,fd,x,init1 F HY λX A I s H E=>(Zl (Iz Z.est1 (pv 0) (pv 1) rfl)),b⟩
abbrev FV(P:bg)(w:bK)(K:ay)(mg:au->Option af)(base:bG)(p:au->Bool):AV:=.obj (X4 P w K mg base 3 ["word"] (spP K p))
def F_wa(P:bg)(w:bK)(K:ay)(mg:au->Option af)(base:bG):FT:=λws i xs res=>∃ p,xs=[FV P w K mg base p]/\res=lift (λz=>.d (.str z)) (want p ws i)
theorem U4(T:Txt K mg)(Z:Cs K mg kt kf kg ki kh kq km kn kr kj ke gt io ko kc kl):∃ f fd,Meth K kl "wanted" f/\FnOk P w K mg base (CXE P w) 5 f fd ["self", "fits"] (spG K kl ki (F_wa P w K mg base))/\Zq K fd ["self", "fits"] []:=by
 obtain⟨fI,q,x_NoText,i_NoText,b_NoText⟩:=Q0 (P:=P) (w:=w) (base:=base) Z
 obtain⟨f_s,fd_s,m_shown,i_shown,b_shown⟩:=SH (P:=P) (w:=w) (base:=base) T Z
 obtain⟨f,fd,M,F,b⟩:=Z.x_Reading_wanted
 refine⟨f,fd,M,NF (k:=4) F NH (λO cs h=>by obtain⟨_,⟨_,U,_⟩,R⟩:=h;rw[R,U];rfl) (λO X A I s H E J=>?_),b⟩
 refine⟨_,(Zk (ZB (i:=2) NH.nd rfl (aK rfl) (Su (pv 0) Z.ic_Reading.cl m_shown i_shown (J.mono (by omega)) b_shown))
   (Zk (Yr (Ua (Y1 (HC (P:=P) (w:=w) (K:=K) (mg:=mg) (base:=base) (i:=1) (k:=3) (ps:=["word"]) rfl rfl rfl rfl rfl (J.mono (by omega)) (Za (pv 2) Zc))))
    (Zl (RR bU rfl bU x_NoText rfl rfl Z.c_NoText i_NoText (J.mono (by omega)) b_NoText (Za (ZX (K:=K) rfl (pv 0)) Zc)))
    Z6)
   (Zk (Yf (pv 0) (Zu (YG (K:=K) rfl) (ZX (K:=K) rfl (pv 0)) Ze) rfl)
   (Zl (Zx (pv 2)))))),?_⟩
 rintro cs ⟨hw,hf,rfl⟩
 obtain⟨G,i,xs,res⟩:=O
 replace hf:∃ p,xs=[FV P w K mg base p]/\res=lift (λz=>.d (.str z)) (want p G i):=hf
 obtain⟨p,rfl,rfl⟩:=hf
 show Sr K _ _ _ _ [aa (RD kl G i),aa (FV P w K mg base p),none] _
 have hd:=U3 hw i
 refine ZY (YZ (by decide) (b_ 2) (Sw (n:=0) rfl (λ_ _=>rfl) (ZN (WQ Cv.nil hw ⟨rfl,rfl⟩ (λ_=>⟨rfl,rfl⟩) ?_ λk N=>by cases N))))
 intro a j e
 obtain⟨rfl,rfl⟩:shw G i=a/\i=j:=by simpa using e
 refine⟨rfl,v_s ?_⟩
 show Sr K _ _ _ _ [aa (RD kl G i),aa (FV P w K mg base p),aa (.d (.str (shw G i)))] _
 refine ZY (Wm (XF ?_))
 k_head
 refine HH (i:=1) rfl ?_
 k_head
 refine Wr NR.av rfl hd ?_
 refine⟨_,rfl,?_⟩
 cases hp:p (shw G i) with
 | false =>
  refine Qa (RW ?_)
  k_head
  refine Vd (n:=0) rfl Z.ic_Reading.cl Z.na_Reading_at ?_
  k_head
  refine⟨.cons NR.av .nil,rfl,by show 1<=1000;decide,i,?_,rfl⟩
  show lift (λz=>AV.d (.str z)) (want p G i)=_
  unfold want
  rw[hp]
  rfl
 | true =>
  refine XS ?_
  refine ZY (Hz (n:=0) rfl Z.ic_Reading.cl Z.na_Reading_at ?_)
  k_head
  refine Vd (n:=0) rfl Z.ic_Reading.cl Z.na_Reading_at ?_
  k_head
  refine YR (Y6 ?_)
  k_head
  refine⟨[RD kl G (i+1),FV P w K mg base p],[_],.d (.str (shw G i)),rfl,rfl,⟨i+1,[_],?_,rfl⟩,rfl⟩
  show lift (λz=>AV.d (.str z)) (want p G i)=_
  unfold want
  rw[hp]
  rfl
theorem GU{sp:L2.Sp}:Cv [.av (.obj (VS P w K mg base (CXE P w) 3 ps sp))] [.obj (X4 P w K mg base 3 ps sp)]:=⟨rfl,λL s=>by
 obtain⟨v,rfl⟩:=Wo L
 obtain⟨⟨p,q,U,R,S,F⟩,l⟩:=s
 cases R with
 | cons r rs e =>
  cases r with
  | av r =>
   cases r with
   | obj h st z=>exact⟨⟨p,q,U,.cons (.av (.obj (.inl h) (λ_ _ m h=>h.same m) z)) rs e,S,F⟩,l⟩⟩
def inL(chs:List au)(z:au):Bool:=decide (z∈chs)
def F_oo:FT:=λws i xs res=>∃ chs:List au,xs=[.d (.list (chs.map .str))]/\(∀ z∈chs,Pc z)/\res=lift (λz=>.d (.str z)) (want (inL chs) ws i)
theorem V2(T:Txt K mg)(Z:Cs K mg kt kf kg ki kh kq km kn kr kj ke gt io ko kc kl)(B:base.BuiltinsAt mg aj)(Q:(YU,Xm)∈Tabs.ts):∃ f fd,Meth K kl "one_of" f/\FnOk P w K mg base (CXE P w) 6 f fd ["self", "choices"] (spG K kl ki F_oo)/\Zq K fd ["self", "choices"] []:=by
 obtain⟨f_w,fd_w,m_wanted,i_wanted,b_wanted⟩:=U4 (P:=P) (w:=w) (base:=base) T Z
 obtain⟨f,fd,o,M,F,b,g⟩:=Z.x_Reading_one_of
 refine⟨f,fd,M,HL (k:=5) F Gw (λO cs h=>by obtain⟨_,⟨_,U,_⟩,R⟩:=h;rw[R,U];rfl) (λO A I s H E J=>?_),b⟩
 refine⟨_,(Zl (Zx (HF (pv 0) Z.ic_Reading.cl m_wanted i_wanted (J.mono (by omega)) b_wanted (Za (HD (P:=YU) (qual := "Reading.one_of.<locals>.<lambda>") rfl rfl rfl g Gx B) Zc)))),?_⟩
 rintro cs ⟨hw,hf,rfl⟩
 obtain⟨G,i,xs,res⟩:=O
 replace hf:∃ chs:List au,xs=[.d (.list (chs.map .str))]/\(∀ z∈chs,Pc z)/\res=lift (λz=>.d (.str z)) (want (inL chs) G i):=hf
 obtain⟨chs,rfl,Y,rfl⟩:=hf
 show Sr K _ _ _ _ [aa (RD kl G i),aa (.d (.list (chs.map .str)))] _
 refine YR (HJ (n:=0) (j:=1) (x := "choices") (N:=["word", "choices"]) (pl:=["word"]) (k:=2) (kF:=3) (y:=.list (chs.map .str)) (PreP:=QY) (PostP:=PostP (inL chs)) (qt:=Xm) rfl Q rfl rfl (λ_ _=>rfl) rfl rfl (λ_=>rfl) rfl ⟨rfl,rfl,rfl,by decide +kernel,rfl,by decide +kernel⟩ rfl rfl (by decide +kernel) ?hbind (λa cs h=>by rw[h.2];rfl) (λa cs h=>by rw[h.2];rfl) (by decide) ?hbody ⟨G,i,[FV P w K mg base (inL chs)],lift (λz=>.d (.str z)) (want (inL chs) G i)⟩ ⟨hw,⟨_,rfl,rfl⟩,rfl⟩ ?q ?qx)
 case hbind =>
  intro cl pm ctv c s us L
  obtain⟨u,rfl⟩:=Wo (l:=us) L
  exact .of_eq rfl
 case hbody =>
  intro z cl f c A I s H E J
  refine⟨_,ZZ (Xy (K:=K) rfl J.units) (pv 0) (pv 1) (by with_unfolding_all rfl),?_⟩
  rintro cs ⟨hz,rfl⟩
  show Ev K _ _ _ [aa (.d (.str z)),aa (.d (.list (chs.map .str)))] _
  k_head
  refine V1 NR.av NR.av rfl (.inl rfl) hz.1 Y ?_
  exact⟨_,rfl,rfl⟩
 case q =>
  rintro cs' r ⟨j,xs',e,rfl⟩
  refine⟨_,_,rfl,N4 ..,?_,?_⟩
  ·unfold want at e
   split at e
   ·cases e;exact⟨rfl,rfl⟩
   ·cases e
  ·exact⟨[RD kl G j,.d (.list (chs.map .str))],[],r,rfl,rfl,⟨j,_,e,rfl⟩,rfl⟩
 case qx =>
  rintro e ⟨k,hk,rfl⟩
  exact⟨k,hk,rfl⟩
def vlu(z:au):Int:=(fj z).getD 0
def YJ(ws:List au)(i:Nat):Pz Stm :=
 bd (want (ZE CAP) ws i) λrow j=>bd (want ZG ws j) λname j=>bd (want (inL ["is", "like"]) ws j) λx j =>
  if x = "is" then bd (want (ZE FIG) ws j) λd j=>.ok (.si row name (vlu d),j)
  else bd (want (ZE CAP) ws j) λother j=>bd (want ZG ws j) λsecond j=>.ok (.sl row name other second,j)
noncomputable def Y0(ws:List au):Nat->List au->Nat->Pz (List au)
 | 0,ns,j=>.ok (ns,j)
 | f+1,ns,j=>if shw ws j = "+" then bd (want (inL ["+"]) ws j) λ_ j=>bd (want ZG ws j) λn j=>Y0 ws f (ns++[n]) j else .ok (ns,j)
def Y7(ws:List au)(i:Nat):Pz (List au):=bd (want ZG ws i) λn j=>Y0 ws 2 [n] j
def YK(ws:List au)(i:Nat):Pz Stm :=
 bd (Y7 ws i) λl j=>bd (want (inL ["=", "<"]) ws j) λx j =>
  if x = "=" /\ l.length=1/\ZM 9 (shw ws j)=ac then bd (want (ZM 9) ws j) λd j=>.ok (.pl (l.headD "") (vlu d),j)
  else bd (Y7 ws j) λr j=>.ok (.su l r x,j)
def YV(g:Nat->Pz Stm)(ws:List au)(i:Nat):Pz Stm :=
 bd (want (inL ["("]) ws i) λ_ j=>bd (g j) λa j=>bd (want (inL ["and", "or"]) ws j) λx j=>bd (g j) λb j=>bd (want (inL [")"]) ws j) λ_ j =>
  .ok (if x = "and" then .bo a b else .ei a b,j)
def Y8(g:Nat->Pz Stm)(ws:List au)(i:Nat):Pz Stm :=
 bd (want (inL ["some", "all"]) ws i) λx j=>bd (want ZG ws j) λn j=>bd (g j) λa j=>.ok (if x = "some" then .so n a else .ev n a,j)
noncomputable def ZH(ws:List au):Nat->Nat->Pz Stm
 | 0,i=>.error i
 | f+1,i =>
  if shw ws i = "not" then bd (want (inL ["not"]) ws i) λ_ j=>bd (ZH ws f j) λa j=>.ok (.no a,j)
  else if shw ws i = "(" then YV (ZH ws f) ws i
  else if shw ws i∈(["some", "all"]:List au) then Y8 (ZH ws f) ws i
  else if ZE CAP (shw ws i)=ac then YJ ws i
  else YK ws i
theorem Yo(h:want p ws i=.ok (a,j)):a=shw ws i/\j=i+1/\p a=true:=by
 unfold want at h
 split at h
 ·rename_i hp
  obtain⟨rfl,rfl⟩:shw ws i=a/\i+1=j:=by simpa using h
  exact⟨rfl,rfl,hp⟩
 ·cases h
theorem XT(hw:YI ws)(h:want p ws i=.ok (a,j)):Wd a:=by
 rw[(Yo h).1];exact U3 hw i
variable{chs:List au}
theorem XU:inL chs z=ac↔z∈chs:=decide_eq_true_iff
theorem N5(h:alls FIG z=ac):∀ c∈z.cps.toList,48<=c/\c<=57:=λc Y=>by
 have:=of_decide_eq_true (gp.mp h c Y)
 rw[show FIG.cps.toList=[48,49,50,51,52,53,54,55,56,57] by decide +kernel] at this
 simp at this
 omega
theorem N6(h:z.length=1):∃ c,z=t1 c:=by
 obtain⟨⟨l⟩⟩:=z
 match l,h with
 | [c],_=>exact⟨c,rfl⟩
theorem N7(h:ZE FIG z=ac):z.length=1/\∀ c∈z.cps.toList,48<=c/\c<=57:=by
 unfold ZE at h
 rw[aJ] at h
 have U:=of_decide_eq_true h.1
 obtain⟨c,rfl⟩:=N6 U
 rw[SE] at h
 exact⟨U,N5 (by unfold alls;simp only[all_cons,List.all_nil,jW];exact h.2)⟩
theorem Q1(h:ZM 9 z=ac):1<=z.length/\z.length<=9/\∀ c∈z.cps.toList,48<=c/\c<=57:=by
 unfold ZM at h
 simp only[aJ,decide_eq_true_iff] at h
 obtain⟨U,R,S⟩:=h
 refine⟨U,R,?_⟩
 split at S
 ·rw[of_decide_eq_true S];decide +kernel
 ·exact N5 S
theorem N8(h:1<=z.length):z.cps.toList≠[]:=λe=>by
 have:z.length=0:=by show z.cps.size=0;rw[<- a_,e];rfl
 omega
theorem SI(h:∀ c∈z.cps.toList,48<=c/\c<=57)(h1:1<=z.length)(h2:z.length<=9):fj z=aa (vlu z)/\vlu z=((aZ z.cps.toList:Nat):Int):=by
 have:=PySem.intText_digits h (N8 h1) (by omega)
 unfold vlu
 rw[this]
 exact⟨rfl,rfl⟩
theorem N9(C:Kd->ah):∀ t:Stm,Z9 (t.D C)=true:=by
 have j:∀ G:List au,noLsts (G.map aY)=true:=λG=>by
  induction G with
  | nil=>rfl
  | cons z G B=>rw[bp,noLsts,B];rfl
 have m:∀ (c:ah) (f:List (au×ak)),noLsts (f.map bz)=ac->Z9 (dO c f)=true:=λc f h=>by
  have e:f.map (λp=>(aY p.1,p.2))=(f.map λp=>aY p.1).zip (f.map bz):=by
   induction f with
   | nil=>rfl
   | cons p r B =>
    rw[bp,bp,bp,cj,<- B]
    rw[bp,noLsts,aJ] at h
    exact h.2
  unfold dO
  rw[e]
  exact (P7 (by rw[aC,aC])).mpr h
 intro t
 induction t with
 | si r n s=>exact m _ _ rfl
 | sl r n o s=>exact m _ _ rfl
 | su l r w =>
  refine m _ _ ?_
  show noLsts [dFz (l.map .str),dFz (r.map .str),.str w]=ac
  rw[noLsts,noLsts,(show Z9 (dFz (l.map .str))=ac from TM.mpr (j l)),(show Z9 (dFz (r.map .str))=ac from TM.mpr (j r))]
  rfl
 | pl n p=>exact m _ _ rfl
 | no a B=>refine m _ _ ?_;show noLsts [a.D C]=ac;rw[noLsts,B];rfl
 | bo a b i g=>refine m _ _ ?_;show noLsts [a.D C,b.D C]=ac;rw[noLsts,noLsts,i,g];rfl
 | ei a b i g=>refine m _ _ ?_;show noLsts [a.D C,b.D C]=ac;rw[noLsts,noLsts,i,g];rfl
 | so n a B=>refine m _ _ ?_;show noLsts [.str n,a.D C]=ac;rw[noLsts,noLsts,B];rfl
 | ev n a B=>refine m _ _ ?_;show noLsts [.str n,a.D C]=ac;rw[noLsts,noLsts,B];rfl
def F0(g:α->AV)(m:List au->Nat->Pz α):FT:=λws i xs res=>xs=[]/\res=lift g (m ws i)
abbrev gS(z:au):AV:=.d (.str z)
abbrev gT(C:Kd->ah)(t:Stm):AV:=.d (t.D C)
abbrev gL(l:List au):AV:=.own (l.map λz=>.d (.str z))
theorem Ma(l:List au):(gL l).clean=ac/\(gL l).plain=true:=by
 refine⟨T1 λ_=>rfl,?_⟩
 show AV.plains _=ac
 induction l with
 | nil=>rfl
 | cons z l B=>rw[bp,AV.plains,B];rfl
section
variable{C:ah}
theorem Q2(hi:ρ[n]?=aa (aa (RD C ws i)))(hw:YI ws)(q:Q (.av (gS (shw ws i))) (ρ.set n (aa (RD C ws i)))):Ew K E X (VW C "shown" (spG K C CN F_sh) E (Zj n) ZV) ρ Q :=
 Sw hi (λ_ _=>rfl) (ZN (WQ (m:=.ok (shw ws i,i)) Cv.nil hw ⟨rfl,rfl⟩ (λ_=>⟨rfl,rfl⟩) (λa j e=>by
  obtain⟨rfl,rfl⟩:shw ws i=a/\i=j:=by simpa using e
  exact q) λk N=>by cases N))
theorem Ws(hi:ρ[n]?=aa (aa (RD C ws i)))(hw:YI ws)(q:∀ a j,want p ws i=.ok (a,j)->Q (.av (gS a)) (ρ.set n (aa (RD C ws j))))(x:∀ k,want p ws i=.error k->X (NT CN k) (ρ.set n none)) :
  Ew K E X (VW C "wanted" (spG K C CN (F_wa P w K mg base)) E (Zj n) (ZD (Sk P w K mg base (CXE P w) 3 ["word"] (spP K p)) ZV)) ρ Q :=
 Sw hi (λ_ _=>rfl) (Zz (Ht (ZN (WQ GU hw ⟨p,rfl,rfl⟩ (λ_=>⟨rfl,rfl⟩) q x))))
theorem WR(hi:ρ[n]?=aa (aa (RD C ws i)))(hw:YI ws)(Y:∀ z∈chs,Pc z)(b:Ev K E X te ρ λa=>a=.av (gL chs))(q:∀ a j,want (inL chs) ws i=.ok (a,j)->Q (.av (gS a)) (ρ.set n (aa (RD C ws j))))(x:∀ k,want (inL chs) ws i=.error k->X (NT CN k) (ρ.set n none)) :
  Ew K E X (VW C "one_of" (spG K C CN F_oo) E (Zj n) (ZD te ZV)) ρ Q :=
 Sw hi (λ_ _=>rfl) (Zz (XA b λa e=>by
  subst e
  have A:=Cv.frz (c:=gL chs)
  rw[show (gL chs).data=.list (chs.map .str) by rw[AV.data,W7]] at A
  exact ZN (WQ A hw ⟨chs,rfl,Y,rfl⟩ (λ_=>⟨rfl,rfl⟩) q x)))
theorem SJ:Ev K E X (XZ (ZD (tC (.str a)) ZV)) ρ λt=>t=.av (gL [a]):=Ye (Zz (WG (ZN ⟨_,.cons rfl .nil,by show 1<=1000;decide,rfl⟩)))
theorem SK:Ev K E X (XZ (ZD (tC (.str a)) (ZD (tC (.str b)) ZV))) ρ λt=>t=.av (gL [a,b]):=Ye (Zz (WG (Zz (WG (ZN ⟨_,.cons rfl (.cons rfl .nil),by show 2<=1000;decide,rfl⟩)))))
theorem SL{m:List au->Nat->Pz α}(hi:ρ[n]?=aa (aa (RD C ws i)))(hw:YI ws)(M:∀ a,(g a).clean=ac/\(g a).plain=ac)(q:∀ a j,m ws i=.ok (a,j)->Q (.av (g a)) (ρ.set n (aa (RD C ws j))))(x:∀ k,m ws i=.error k->X (NT CN k) (ρ.set n none)) :
  Ew K E X (WK (spG K C CN (F0 g m)) [] E (ZD (Zj n) ZV)) ρ Q :=
 Sx hi (ZN (WQ Cv.nil hw ⟨rfl,rfl⟩ M q x))
end
theorem Ya:∀ z∈(["is", "like", "+", "=", "<", "(", ")", "and", "or", "some", "all", "not", ""]:List au),Pc z:=by unfold Pc;decide +kernel
theorem SM(h:Pc a):∀ z∈[a],Pc z:=λz C=>by rw[mem_singleton.mp C];exact h
theorem WS(h:Pc a)(g:Pc b):∀ z∈[a,b],Pc z:=λz C=>by
 rcases eR.mp C with e|e
 ·rw[e];exact h
 ·rw[mem_singleton.mp e];exact g
section
variable{qual self p1 k1:au}{f C:ah}
theorem mk1(F:FunD K "__init__" qual st dV f fd)(i:FnScope [self,p1] [self,p1] (Zb st))(c:Cls K C)(J:Zt K C k1)
  (hbody:∀ (cdv:af) (A:bv) (outer:List eF) (s:aq) (H:Hp) (E:XK),PSs (ZJ CX P w K mg base [self,p1] qual (Zb st) f cdv A outer s H E).nox (Zy st) (Z1 K (Zj 0) (Zj 1) k1)) :
  FnOk P w K mg base CX (k+1) f fd [self,p1] (Xh C [k1]):=by
 refine F.ok i ((by rintro vs H Q E ⟨e,dx,G,z,l,_⟩;rw[z,aS,l];rfl)) λcdv A outer s H vs Q E _ h=>⟨_,hbody cdv A outer s H E,?_⟩
 obtain⟨e,dx,G,rfl,l,j,q⟩:=h
 obtain⟨b,rfl⟩:=Wo (l:=G) l
 exact⟨b,rfl,.ref e,rfl,e,C,dx,[],rfl,j,c,J,by simp,q⟩
end
theorem GV(Z:Cs K mg kt kf kg ki kh kq km kn kr kj ke gt io ko kc kl):∃ f fd,Mk K km f/\FnOk P w K mg base (CXE P w) 1 f fd ["self", "row", "name", "sign"] (Xh km ["row", "name", "sign"])/\Zq K fd ["self", "row", "name", "sign"] []:=by
 obtain⟨f,fd,M,F,b⟩:=Z.x_SignIs
 exact⟨f,fd,M,mk3 (k:=0) F HZ Z.ic_SignIs.cl Z.na_SignIs_row Z.na_SignIs_name Z.na_SignIs_sign (λ_ _ _=>rfl) (λX A I s H E=>by
  exact (Zk (Yf (pv 0) (pv 1) rfl)
   (Zk (Yf (pv 0) (pv 2) rfl)
   (Zl (Yf (pv 0) (pv 3) rfl))))),b⟩
theorem GW(Z:Cs K mg kt kf kg ki kh kq km kn kr kj ke gt io ko kc kl):∃ f fd,Mk K kn f/\FnOk P w K mg base (CXE P w) 1 f fd ["self", "row", "name", "other", "second"] (Xh kn ["row", "name", "other", "second"])/\Zq K fd ["self", "row", "name", "other", "second"] []:=by
 obtain⟨f,fd,M,F,b⟩:=Z.x_SignsLike
 exact⟨f,fd,M,mk4 (k:=0) F Gb Z.ic_SignsLike.cl Z.na_SignsLike_row Z.na_SignsLike_name Z.na_SignsLike_other Z.na_SignsLike_second (λ_ _ _ _=>rfl) (λX A I s H E=>by
  exact (Zk (Yf (pv 0) (pv 1) rfl)
   (Zk (Yf (pv 0) (pv 2) rfl)
   (Zk (Yf (pv 0) (pv 3) rfl)
   (Zl (Yf (pv 0) (pv 4) rfl)))))),b⟩
theorem GX(T:Txt K mg)(Z:Cs K mg kt kf kg ki kh kq km kn kr kj ke gt io ko kc kl):∃ f fd,Mk K kr f/\FnOk P w K mg base (CXE P w) 1 f fd ["self", "left", "right", "word"] (UB K kr "left" "right" "word")/\Zq K fd ["self", "left", "right", "word"] []:=by
 obtain⟨f,fd,M,F,b⟩:=Z.x_Sums
 exact⟨f,fd,M,mkF (k:=0) F Gd Z.ic_Sums.cl Z.na_Sums_left Z.na_Sums_right Z.na_Sums_word (λ_ _ _=>rfl) (λX A I s H E =>
  (Zk (Yf (pv 0) (R5 (Xb (P8 (K:=K) rfl) rfl T.n_list gC (Za (pv 1) Zc))) rfl) (Zk (Yf (pv 0) (R5 (Xb (P8 (K:=K) rfl) rfl T.n_list gC (Za (pv 2) Zc))) rfl) (Zl (Yf (pv 0) (pv 3) rfl))))),b⟩
theorem GY(Z:Cs K mg kt kf kg ki kh kq km kn kr kj ke gt io ko kc kl):∃ f fd,Mk K kj f/\FnOk P w K mg base (CXE P w) 1 f fd ["self", "name", "place"] (Xh kj ["name", "place"])/\Zq K fd ["self", "name", "place"] []:=by
 obtain⟨f,fd,M,F,b⟩:=Z.x_PlaceIs
 exact⟨f,fd,M,mk2 (k:=0) F Gf Z.ic_PlaceIs.cl Z.na_PlaceIs_name Z.na_PlaceIs_place (λ_ _=>rfl) (λX A I s H E=>by
  exact (Zk (Yf (pv 0) (pv 1) rfl)
   (Zl (Yf (pv 0) (pv 2) rfl)))),b⟩
theorem GZ(Z:Cs K mg kt kf kg ki kh kq km kn kr kj ke gt io ko kc kl):∃ f fd,Mk K ke f/\FnOk P w K mg base (CXE P w) 1 f fd ["self", "one"] (Xh ke ["one"])/\Zq K fd ["self", "one"] []:=by
 obtain⟨f,fd,M,F,b⟩:=Z.x_No
 exact⟨f,fd,M,mk1 (k:=0) F Gh Z.ic_No.cl Z.na_No_one (λX A I s H E=>by
  exact (Zl (Yf (pv 0) (pv 1) rfl))),b⟩
theorem G0(Z:Cs K mg kt kf kg ki kh kq km kn kr kj ke gt io ko kc kl):∃ f fd,Mk K gt f/\FnOk P w K mg base (CXE P w) 1 f fd ["self", "one", "other"] (Xh gt ["one", "other"])/\Zq K fd ["self", "one", "other"] []:=by
 obtain⟨f,fd,M,F,b⟩:=Z.x_Both
 exact⟨f,fd,M,mk2 (k:=0) F Gj Z.ic_Both.cl Z.na_Both_one Z.na_Both_other (λ_ _=>rfl) (λX A I s H E=>by
  exact (Zk (Yf (pv 0) (pv 1) rfl)
   (Zl (Yf (pv 0) (pv 2) rfl)))),b⟩
theorem G3(Z:Cs K mg kt kf kg ki kh kq km kn kr kj ke gt io ko kc kl):∃ f fd,Mk K io f/\FnOk P w K mg base (CXE P w) 1 f fd ["self", "one", "other"] (Xh io ["one", "other"])/\Zq K fd ["self", "one", "other"] []:=by
 obtain⟨f,fd,M,F,b⟩:=Z.x_Either
 exact⟨f,fd,M,mk2 (k:=0) F Gm Z.ic_Either.cl Z.na_Either_one Z.na_Either_other (λ_ _=>rfl) (λX A I s H E=>by
  exact (Zk (Yf (pv 0) (pv 1) rfl)
   (Zl (Yf (pv 0) (pv 2) rfl)))),b⟩
theorem G4(Z:Cs K mg kt kf kg ki kh kq km kn kr kj ke gt io ko kc kl):∃ f fd,Mk K ko f/\FnOk P w K mg base (CXE P w) 1 f fd ["self", "name", "one"] (Xh ko ["name", "one"])/\Zq K fd ["self", "name", "one"] []:=by
 obtain⟨f,fd,M,F,b⟩:=Z.x_Some
 exact⟨f,fd,M,mk2 (k:=0) F Go Z.ic_Some.cl Z.na_Some_name Z.na_Some_one (λ_ _=>rfl) (λX A I s H E=>by
  exact (Zk (Yf (pv 0) (pv 1) rfl)
   (Zl (Yf (pv 0) (pv 2) rfl)))),b⟩
theorem G5(Z:Cs K mg kt kf kg ki kh kq km kn kr kj ke gt io ko kc kl):∃ f fd,Mk K kc f/\FnOk P w K mg base (CXE P w) 1 f fd ["self", "name", "one"] (Xh kc ["name", "one"])/\Zq K fd ["self", "name", "one"] []:=by
 obtain⟨f,fd,M,F,b⟩:=Z.x_Every
 exact⟨f,fd,M,mk2 (k:=0) F Gq Z.ic_Every.cl Z.na_Every_name Z.na_Every_one (λ_ _=>rfl) (λX A I s H E=>by
  exact (Zk (Yf (pv 0) (pv 1) rfl)
   (Zl (Yf (pv 0) (pv 2) rfl)))),b⟩
theorem G6(Z:Cs K mg kt kf kg ki kh kq km kn kr kj ke gt io ko kc kl):∃ f fd,Mk K kl f/\FnOk P w K mg base (CXE P w) 1 f fd ["self", "words"] (R8 kl)/\Zq K fd ["self", "words"] []:=by
 obtain⟨f,fd,M,F,b⟩:=Z.x_Reading
 exact⟨f,fd,M,mkRd (k:=0) F Gs Z.ic_Reading.cl Z.na_Reading_words Z.na_Reading_at (λX A I s H E=>by
  exact (Zk (Yf (pv 0) (pv 1) rfl)
   (Zl (Yf (pv 0) Ze rfl)))),b⟩
variable{cs:List AV}
theorem Z4(h:m=.error k):Xg CN ⟨ws,i,xs,lift g m⟩ cs (NT CN k):=⟨k,by rw[h];rfl,rfl⟩
variable{a:TV}
theorem Xi{C:ah}{xs':List AV}{a:α}(h:m=.ok (a,j)):Qg C ⟨ws,i,xs,lift g m⟩ cs (RD C ws j::xs') (g a):=⟨j,xs',by rw[h];rfl,rfl⟩
theorem YW(l:List au):(gL l).data=.list (l.map .str):=by rw[AV.data,W7]
variable{c:TT}
theorem Mb{c:AV}(hi:ρ[n]?=aa (aa c))(q:Q (.av c) (ρ.set n none)):Ew K E X (Zj n) ρ Q:=λI Z ts as H W st s x k=>by
 obtain⟨v,e,s2⟩:=s.take hi
 exact⟨v,e,k _ _ q _ _ s2⟩
theorem G7(T:Txt K mg)(Z:Cs K mg kt kf kg ki kh kq km kn kr kj ke gt io ko kc kl)(B:base.BuiltinsAt mg aj)(Q:(YU,Xm)∈Tabs.ts):Cal P w K mg base (CXE P w) 7 "read_sign" ["reading"] [] (spG K kl ki (F0 (gT (CQ km kn kr kj ke gt io ko kc)) YJ)):=by
 obtain⟨f_w,fd_w,m_wanted,i_wanted,b_wanted⟩:=U4 (P:=P) (w:=w) (base:=base) T Z
 obtain⟨f_o,fd_o,m_one_of,i_one_of,b_one_of⟩:=V2 (P:=P) (w:=w) (base:=base) T Z B Q
 obtain⟨f_1,fd_1,M_SignIs,i_SignIs,b_SignIs⟩:=GV (P:=P) (w:=w) (base:=base) Z
 obtain⟨f_2,fd_2,M_SignsLike,i_SignsLike,b_SignsLike⟩:=GW (P:=P) (w:=w) (base:=base) Z
 have c_is_row_name:=(N3 (P:=P) (w:=w) (base:=base) T).mono (show 1<=3 by decide)
 have c_is_name:=(QZ (P:=P) (w:=w) (base:=base) T).mono (show 1<=3 by decide)
 have c_is_figure:=(GR (P:=P) (w:=w) (base:=base) T).mono (show 1<=3 by decide)
 refine VX (k:=6) T.x_read_sign Sy (λO cs h=>by obtain⟨_,U,R⟩:=h;rw[R,U.1];rfl) (λO f X A I s H E J=>?_) [] (by simp)
 refine⟨_,(Zk (ZB (i:=1) Sy.nd rfl (aK rfl) (YS (pv 0) Z.ic_Reading.cl m_wanted i_wanted (J.mono (by omega)) b_wanted (Za (Wi (P:=P) (w:=w) (K:=K) (mg:=mg) (base:=base) rfl rfl rfl rfl rfl c_is_row_name rfl) Zc)))
   (Zk (ZB (i:=2) Sy.nd rfl (aK rfl) (YS (pv 0) Z.ic_Reading.cl m_wanted i_wanted (J.mono (by omega)) b_wanted (Za (Wi (P:=P) (w:=w) (K:=K) (mg:=mg) (base:=base) rfl rfl rfl rfl rfl c_is_name rfl) Zc)))
   (Zk (Yr (Zr (ZC (K:=K) rfl J.units) (YS (pv 0) Z.ic_Reading.cl m_one_of i_one_of (J.mono (by omega)) b_one_of (Za (Xu (Za Zm (Za Zm Zc))) Zc)) Zm (nomark _))
    (Zl (Zx (X0 M_SignIs i_SignIs (J.mono (by omega)) rfl Z.c_SignIs b_SignIs .nil ZA (Za (pv 1) (Za (pv 2) (Za (Xb Nk rfl T.n_int bE (Za (YS (pv 0) Z.ic_Reading.cl m_wanted i_wanted (J.mono (by omega)) b_wanted (Za (Wi (P:=P) (w:=w) (K:=K) (mg:=mg) (base:=base) rfl rfl rfl rfl rfl c_is_figure rfl) Zc)) Zc)) Zc))))))
    Z6)
   (Zk (ZB (i:=3) Sy.nd rfl (aK rfl) (YS (pv 0) Z.ic_Reading.cl m_wanted i_wanted (J.mono (by omega)) b_wanted (Za (Wi (P:=P) (w:=w) (K:=K) (mg:=mg) (base:=base) rfl rfl rfl rfl rfl c_is_row_name rfl) Zc)))
   (Zl (Zx (X0 M_SignsLike i_SignsLike (J.mono (by omega)) rfl Z.c_SignsLike b_SignsLike .nil ZA (Za (pv 1) (Za (pv 2) (Za (pv 3) (Za (YS (pv 0) Z.ic_Reading.cl m_wanted i_wanted (J.mono (by omega)) b_wanted (Za (Wi (P:=P) (w:=w) (K:=K) (mg:=mg) (base:=base) rfl rfl rfl rfl rfl c_is_name rfl) Zc)) Zc))))))))))),?_⟩
 rintro cs ⟨hw,hf,rfl⟩
 obtain⟨G,i,xs,res⟩:=O
 replace hf:xs=[]/\res=lift (gT (CQ km kn kr kj ke gt io ko kc)) (YJ G i):=hf
 obtain⟨rfl,rfl⟩:=hf
 show Sr K _ _ _ _ [aa (RD kl G i),none,none,none] _
 have g:Pc "is" := Ya _ (by decide +kernel)
 have pl:Pc "like" := Ya _ (by decide +kernel)
 refine ZY (YZ (by decide) (by simp) (Ws (n:=0) rfl hw (λa p U=>⟨rfl,v_s ?_⟩) λk N=>Z4 (by simp only[YJ,N,bd])))
 show Sr K _ _ _ _ [aa (RD kl G p),aa (gS a),none,none] _
 refine ZY (YZ (by decide) (by simp) (Ws (n:=0) rfl hw (λname b R=>⟨rfl,v_s ?_⟩) λk N=>Z4 (by simp only[YJ,U,N,bd])))
 show Sr K _ _ _ _ [aa (RD kl G b),aa (gS a),aa (gS name),none] _
 refine ZY (Wm (R6 (NB (WR (n:=0) (chs:=["is", "like"]) rfl hw (WS g pl) SK (λx q S=>?_) λk N=>Z4 (by simp only[YJ,U,R,N,bd])))))
 have W:=Yo S
 refine WG (ZU NR.av NR.av rfl rfl (XT hw S).1 g ⟨_,rfl,ite2 (λh=>?_) λh=>?_⟩)
 ·have h:=of_decide_eq_true h
  show Sr K _ _ _ _ [aa (RD kl G q),aa (gS a),aa (gS name),none] _
  refine YR (So (Vc (Y6 (YF (n:=1) rfl ⟨_,rfl,Vc (Y6 (YF (n:=2) rfl ⟨_,rfl,Wl (NA (Wl (Ws (n:=0) rfl hw (λd m F=>?_) λk N=>Z4 (by simp only[YJ,U,R,S,N,bd,if_pos h]))))⟩))⟩))))
  obtain⟨t,j⟩:=N7 (Yo F).2.2
  refine Nq rfl (by omega) (SI j (by omega) (by omega)).1 ⟨_,.cons rfl (.cons rfl (.cons rfl .nil)),rfl,by decide,?_⟩
  refine⟨[RD kl G m],_,_,rfl,rfl,Xi (show YJ G i=.ok (.si a name (vlu d),m) by simp only[YJ,U,R,S,F,bd,if_pos h]),rfl⟩
 ·have h:¬ x = "is" := λe=>h (decide_eq_true e)
  refine XS ?_
  show Sr K _ _ _ _ [aa (RD kl G q),aa (gS a),aa (gS name),none] _
  refine ZY (YZ (by decide) (by simp) (Ws (n:=0) rfl hw (λc m F=>⟨rfl,v_s ?_⟩) λk N=>Z4 (by simp only[YJ,U,R,S,N,bd,if_neg h])))
  show Sr K _ _ _ _ [aa (RD kl G m),aa (gS a),aa (gS name),aa (gS c)] _
  refine YR (So (Vc (Y6 (YF (n:=1) rfl ⟨_,rfl,Vc (Y6 (YF (n:=2) rfl ⟨_,rfl,Vc (Y6 (YF (n:=3) rfl ⟨_,rfl,Wl (Ws (n:=0) rfl hw (λd l Y=>?_) λk N=>Z4 (by simp only[YJ,U,R,S,F,N,bd,if_neg h]))⟩))⟩))⟩))))
  refine⟨_,.cons rfl (.cons rfl (.cons rfl (.cons rfl .nil))),rfl,by decide,?_⟩
  refine⟨[RD kl G l],_,_,rfl,rfl,Xi (show YJ G i=.ok (.sl a name c d,l) by simp only[YJ,U,R,S,F,Y,bd,if_neg h]),rfl⟩
theorem G8(T:Txt K mg)(Z:Cs K mg kt kf kg ki kh kq km kn kr kj ke gt io ko kc kl)(B:base.BuiltinsAt mg aj)(Q:(YU,Xm)∈Tabs.ts):Cal P w K mg base (CXE P w) 7 "read_side" ["reading"] [] (spG K kl ki (F0 gL Y7)):=by
 obtain⟨f_s,fd_s,m_shown,i_shown,b_shown⟩:=SH (P:=P) (w:=w) (base:=base) T Z
 obtain⟨f_w,fd_w,m_wanted,i_wanted,b_wanted⟩:=U4 (P:=P) (w:=w) (base:=base) T Z
 obtain⟨f_o,fd_o,m_one_of,i_one_of,b_one_of⟩:=V2 (P:=P) (w:=w) (base:=base) T Z B Q
 have c_is_name:=(QZ (P:=P) (w:=w) (base:=base) T).mono (show 1<=3 by decide)
 refine VX (k:=6) T.x_read_side NJ (λO cs h=>by obtain⟨_,U,R⟩:=h;rw[R,U.1];rfl) (λO f X A I s H E J=>?_) [] (by simp)
 refine⟨_,(Zk (ZB (i:=1) NJ.nd rfl (aK rfl) (Xu (Za (YS (pv 0) Z.ic_Reading.cl m_wanted i_wanted (J.mono (by omega)) b_wanted (Za (Wi (P:=P) (w:=w) (K:=K) (mg:=mg) (base:=base) rfl rfl rfl rfl rfl c_is_name rfl) Zc)) Zc)))
   (Zk (S4 (Ia rfl rfl) (PW.pt (YE (Zr WC (ZQ (Yt (K:=K) rfl) rfl T.n_len aV (Za (pv 1) Zc)) (TK T.g_MOST_IN_A_SIDE rfl) (nomark _)) (Y2 (Zr (ZC (K:=K) rfl J.units) (Su (pv 0) Z.ic_Reading.cl m_shown i_shown (J.mono (by omega)) b_shown) Zm (nomark _)))))
    (Zk (XY (YS (pv 0) Z.ic_Reading.cl m_one_of i_one_of (J.mono (by omega)) b_one_of (Za (Xu (Za Zm Zc)) Zc)))
    (Zl (XY (XN (K:=K) rfl cH ci cE Vy (pv 1) (Za (YS (pv 0) Z.ic_Reading.cl m_wanted i_wanted (J.mono (by omega)) b_wanted (Za (Wi (P:=P) (w:=w) (K:=K) (mg:=mg) (base:=base) rfl rfl rfl rfl rfl c_is_name rfl) Zc)) Zc))))))
   (Zl (Zx (pv 1))))),?_⟩
 rintro cs ⟨hw,hf,rfl⟩
 obtain⟨G,i,xs,res⟩:=O
 replace hf:xs=[]/\res=lift gL (Y7 G i):=hf
 obtain⟨rfl,rfl⟩:=hf
 show Sr K _ _ _ _ [aa (RD kl G i),none] _
 have l:Pc "+" := Ya _ (by decide +kernel)
 refine ZY (YZ (by decide) (by simp) (HN (Wl (Ws (n:=0) rfl hw (λn p U=>⟨_,.cons rfl .nil,by show 1<=1000;decide,rfl,v_s ?_⟩) λk N=>Z4 (by simp only[Y7,N,bd])))))
 show Sr K _ _ _ _ [aa (RD kl G p),aa (gL [n])] _
 have t:Y7 G i=Y0 G 2 [n] p:=by simp only[Y7,U,bd]
 refine ZY (HA (λm o=>∃ (ns:List au) (j:Nat),o=[aa (RD kl G j),aa (gL ns)]/\ns.length+m=3/\Y7 G i=Y0 G m ns j) 2 ⟨[n],p,rfl,rfl,t⟩ ?_)
 rintro m o ⟨ns,j,rfl,hl,hm⟩
 have fin:Y0 G m ns j=.ok (ns,j)->∃ y W r,y.length=1/\(TV.av (gL ns))=.av r/\Qg kl ⟨G,i,[],lift gL (Y7 G i)⟩ [RD kl G i] y r/\([aa (RD kl G j),none]:Sl)=y.map aa++W:=λg =>
  ⟨[RD kl G j],[none],gL ns,rfl,rfl,Xi (hm.trans g),rfl⟩
 refine R9 (XF ?_)
 k_head
 refine XB (ds:=ns.map .str) (YW ns) ?_
 rw[aC]
 k_head
 refine ite2 (λh=>?_) λh=>?_
 rotate_left
 ·have h:m=0:=by
   rcases ax m with e|e
   ·exact e
   ·exact absurd (decide_eq_true (by omega)) h
  subst h
  exact YR (Mb (n:=1) rfl (fin rfl))
 have h:=of_decide_eq_true h
 obtain⟨m,rfl⟩:∃ a,m=a+1:=⟨m-1,by omega⟩
 refine R6 (NB (Q2 (n:=0) rfl hw (WG (ZU NR.av NR.av rfl rfl (U3 hw j).1 l ⟨_,rfl,ite2 (λh=>?_) λh=>?_⟩))))
 rotate_left
 ·have h:¬ shw G j = "+" := λe=>h (decide_eq_true e)
  exact YR (Mb (n:=1) rfl (fin (by simp only[Y0,if_neg h])))
 have h:=of_decide_eq_true h
 refine ZY (Sq (WR (n:=0) (chs:=["+"]) rfl hw (SM l) SJ (λx b R=>?_) λk N=>Z4 (by simp only[hm,Y0,if_pos h,N,bd])))
 show Sr K _ _ _ _ [aa (RD kl G b),aa (gL ns)] _
 refine HQ (n:=1) rfl (Ws (n:=0) rfl hw (λc q S=>⟨_,_,rfl,rfl,by rw[aC];omega,m,b_ m,ns++[c],q,?_,by rw[aO,fg];omega,?_⟩) λk N=>Z4 (by simp only[hm,Y0,if_pos h,R,N,bd]))
 ·show ([aa (RD kl G q),aa (AV.own (ns.map (λz=>AV.d (.str z))++[gS c]))]:Sl)=_
  rw[show gL (ns++[c])=AV.own (ns.map (λz=>AV.d (.str z))++[gS c]) by show AV.own (jN _ _)=_;rw[eS];rfl]
 ·rw[hm,Y0,if_pos h,R]
  show bd (want ZG G b) _=_
  rw[S]
  rfl
theorem G9(T:Txt K mg)(Z:Cs K mg kt kf kg ki kh kq km kn kr kj ke gt io ko kc kl)(B:base.BuiltinsAt mg aj)(Q:(YU,Xm)∈Tabs.ts):Cal P w K mg base (CXE P w) 8 "read_sums" ["reading"] [] (spG K kl ki (F0 (gT (CQ km kn kr kj ke gt io ko kc)) YK)):=by
 obtain⟨f_s,fd_s,m_shown,i_shown,b_shown⟩:=SH (P:=P) (w:=w) (base:=base) T Z
 obtain⟨f_w,fd_w,m_wanted,i_wanted,b_wanted⟩:=U4 (P:=P) (w:=w) (base:=base) T Z
 obtain⟨f_o,fd_o,m_one_of,i_one_of,b_one_of⟩:=V2 (P:=P) (w:=w) (base:=base) T Z B Q
 obtain⟨f_1,fd_1,M_PlaceIs,i_PlaceIs,b_PlaceIs⟩:=GY (P:=P) (w:=w) (base:=base) Z
 obtain⟨f_2,fd_2,M_Sums,i_Sums,b_Sums⟩:=GX (P:=P) (w:=w) (base:=base) T Z
 have c_is_place:=(GT (P:=P) (w:=w) (base:=base) T (GS T)).mono (show 2<=3 by decide)
 have c_read_side:Cal P w K mg base _ _ _ _ _ _:=G8 T Z B Q
 refine VX (k:=7) T.x_read_sums Qp (λj cs h=>by obtain⟨_,U,R⟩:=h;rw[R,U.1];rfl) (λj f X A I s H E J=>?_) [] (by simp)
 refine⟨_,(Zk (ZB (i:=1) Qp.nd rfl (aK rfl) (XC (c_read_side.mono (by omega)) J rfl (Za (pv 0) Zc)))
   (Zk (ZB (i:=2) Qp.nd rfl (aK rfl) (YS (pv 0) Z.ic_Reading.cl m_one_of i_one_of (J.mono (by omega)) b_one_of (Za (Xu (Za Zm (Za Zm Zc))) Zc)))
   (Zk (Yr (PW.pt (YE (Zr (ZC (K:=K) rfl J.units) (pv 2) Zm (nomark _)) (YE (Zr (ZC (K:=K) rfl J.units) (ZQ (Yt (K:=K) rfl) rfl T.n_len aV (Za (pv 1) Zc)) Ze (nomark _)) (Y2 (Y1 (ZR (c_is_place.mono (by omega)) J rfl ZA (Za (Su (pv 0) Z.ic_Reading.cl m_shown i_shown (J.mono (by omega)) b_shown) Zc)))))))
    (Zl (Zx (X0 M_PlaceIs i_PlaceIs (J.mono (by omega)) rfl Z.c_PlaceIs b_PlaceIs .nil ZA (Za (Yg (ZI (K:=K) rfl J.units) (pv 1) Ze (λ_ _=>rfl)) (Za (Xb Nk rfl T.n_int bE (Za (YS (pv 0) Z.ic_Reading.cl m_wanted i_wanted (J.mono (by omega)) b_wanted (Za (Wi (P:=P) (w:=w) (K:=K) (mg:=mg) (base:=base) rfl rfl rfl rfl rfl c_is_place rfl) Zc)) Zc)) Zc)))))
    Z6)
   (Zl (Zx (X0 M_Sums i_Sums (J.mono (by omega)) rfl Z.c_Sums b_Sums .nil ZA (Za (pv 1) (Za (XC (c_read_side.mono (by omega)) J rfl (Za (pv 0) Zc)) (Za (pv 2) Zc))))))))),?_⟩
 rintro cs ⟨hw,hf,rfl⟩
 obtain⟨G,i,xs,res⟩:=j
 replace hf:xs=[]/\res=lift (gT (CQ km kn kr kj ke gt io ko kc)) (YK G i):=hf
 obtain⟨rfl,rfl⟩:=hf
 show Sr K _ _ _ _ [aa (RD kl G i),none,none] _
 have g:Pc "=" := Ya _ (by decide +kernel)
 have pl:Pc "<" := Ya _ (by decide +kernel)
 refine ZY (YZ (by decide) (by simp) (SL (n:=0) rfl hw Ma (λl p U=>⟨rfl,XO (YW l) ?_⟩) λk N=>Z4 (by simp only[YK,N,bd])))
 show Sr K _ _ _ _ [aa (RD kl G p),aa (.d (.list (l.map .str))),none] _
 refine ZY (YZ (by decide) (by simp) (WR (n:=0) (chs:=["=", "<"]) rfl hw (WS g pl) SK (λx b R=>⟨rfl,v_s ?_⟩) λk N=>Z4 (by simp only[YK,U,N,bd])))
 show Sr K _ _ _ _ [aa (RD kl G b),aa (.d (.list (l.map .str))),aa (gS x)] _
 have a:¬ (x = "=" /\ l.length=1/\ZM 9 (shw G b)=ac)->Sr K (toF E) (λe _=>Xg ki ⟨G,i,[],lift (gT (CQ km kn kr kj ke gt io ko kc)) (YK G i)⟩ [RD kl G i] e) (bL 1) (Vo (Vw kr (UB K kr "left" "right" "word") [] E0 (ZD (Zj 1) (ZD (WK (spG K kl ki (F0 gL Y7)) [] (toF E) (ZD (Zj 0) ZV)) (ZD (Zj 2) ZV))))) [aa (RD kl G b),aa (.d (.list (l.map .str))),aa (gS x)] (UC 1 (Qg kl ⟨G,i,[],lift (gT (CQ km kn kr kj ke gt io ko kc)) (YK G i)⟩ [RD kl G i])):=λo=>by
  refine YR (HR (Vc (Y6 (YF (n:=1) rfl ⟨_,rfl,HM (SL (n:=0) rfl hw Ma (λr q S=>?_) λk N=>Z4 (by simp only[YK,U,R,N,bd,if_neg o]))⟩))))
  refine Zz (YF (n:=2) rfl (ZN ⟨l,r,.str x,.cons (.d NR.av rfl) (.cons (.d NR.av (YW r)) (.cons (.d NR.av rfl) .nil)),rfl,by decide,?_⟩))
  exact⟨[RD kl G q],_,_,rfl,rfl,Xi (show YK G i=.ok (.su l r x,q) by simp only[YK,U,R,S,bd,if_neg o]),rfl⟩
 refine ZY (Wm (R9 (XF ?_)))
 k_head
 refine ZU NR.av NR.av rfl rfl (XT hw R).1 g ⟨_,rfl,ite2 (λW=>?_) λW=>?_⟩
 rotate_left
 ·have W:¬ x = "=" := λe=>W (decide_eq_true e)
  exact XS (a λz=>W z.1)
 have W:=of_decide_eq_true W
 refine R9 (XF ?_)
 k_head
 refine XB (ds:=l.map .str) rfl ?_
 rw[aC]
 k_head
 refine ite2 (λL=>?_) λL=>?_
 rotate_left
 ·have L:¬ l.length=1:=λe=>L (decide_eq_true (by omega))
  exact XS (a λz=>L z.2.1)
 have L:l.length=1:=by have:=of_decide_eq_true L;omega
 refine R6 (HP (Wl (Q2 (n:=0) rfl hw ?_)))
 refine Wr NR.av rfl (U3 hw b) ⟨_,rfl,ite2 (λO=>?_) λO=>?_⟩
 rotate_left
 ·exact XS (a λz=>O z.2.2)
 obtain⟨n,rfl⟩:=Wo L
 have Y:x = "=" /\ [n].length=1/\ZM 9 (shw G b)=true:=⟨W,L,O⟩
 show Sr K _ _ _ _ [aa (RD kl G b),aa (.d (.list ([n].map .str))),aa (gS x)] _
 refine YR (So (Vc (Y6 ?_)))
 k_head
 refine YC (ds:=[.str n]) (y:=.str n) rfl rfl (ZT.flat rfl) ⟨_,rfl,Wl (NA (Wl (Ws (n:=0) rfl hw (λd m F=>?_) λk N=>Z4 (by simp only[YK,U,R,N,bd,if_pos Y]))))⟩
 obtain⟨c,t,u⟩:=Q1 (Yo F).2.2
 refine Nq rfl (by omega) (SI u c t).1 ⟨_,.cons rfl (.cons rfl .nil),rfl,by decide,?_⟩
 exact⟨[RD kl G m],_,_,rfl,rfl,Xi (show YK G i=.ok (.pl n (vlu d),m) by simp only[YK,U,R,F,bd,if_pos Y];rfl),rfl⟩
def Vh(C:Kd->ah)(n:Nat):FT:=λws i xs res=>∃ f,f<n/\xs=[.d (.int (9-(f:Int)))]/\res=lift (gT C) (ZH ws f i)
def F_jn(C:Kd->ah)(n:Nat):FT:=λws i xs res=>∃ f,f<n/\xs=[.d (.int (8-(f:Int)))]/\res=lift (gT C) (YV (ZH ws f) ws i)
def F_bn(C:Kd->ah)(n:Nat):FT:=λws i xs res=>∃ f,f<n/\xs=[.d (.int (8-(f:Int)))]/\res=lift (gT C) (Y8 (ZH ws f) ws i)
theorem U5(C:Kd->ah)(t:Stm):(gT C t).clean=ac/\(gT C t).plain=true:=⟨N9 C t,rfl⟩
section
variable{C:ah}{Kc:Kd->ah}
theorem U6{m:Nat}(hi:ρ[n]?=aa (aa (RD C ws i)))(hw:YI ws)(F:f<m)(b:Ev K E X te ρ λa=>a=.av (.d (.int (9-(f:Int)))))(q:∀ a j,ZH ws f i=.ok (a,j)->Q (.av (gT Kc a)) (ρ.set n (aa (RD C ws j))))(x:∀ k,ZH ws f i=.error k->X (NT CN k) (ρ.set n none)) :
  Ew K E X (WK (spG K C CN (Vh Kc m)) [] E (ZD (Zj n) (ZD te ZV))) ρ Q :=
 Sx hi (Zz (XA b λa e=>by subst e;exact ZN (WQ (Cv.sto rfl) hw ⟨f,F,rfl,rfl⟩ (U5 Kc) q x)))
theorem Fa{m:Nat}(hi:ρ[n]?=aa (aa (RD C ws i)))(hw:YI ws)(F:f<m)(b:Ev K E X te ρ λa=>a=.av (.d (.int (8-(f:Int)))))(q:∀ a j,YV (ZH ws f) ws i=.ok (a,j)->Q (.av (gT Kc a)) (ρ.set n (aa (RD C ws j))))(x:∀ k,YV (ZH ws f) ws i=.error k->X (NT CN k) (ρ.set n none)) :
  Ew K E X (WK (spG K C CN (F_jn Kc m)) [] E (ZD (Zj n) (ZD te ZV))) ρ Q :=
 Sx hi (Zz (XA b λa e=>by subst e;exact ZN (WQ (Cv.sto rfl) hw ⟨f,F,rfl,rfl⟩ (U5 Kc) q x)))
theorem Fb{m:Nat}(hi:ρ[n]?=aa (aa (RD C ws i)))(hw:YI ws)(F:f<m)(b:Ev K E X te ρ λa=>a=.av (.d (.int (8-(f:Int)))))(q:∀ a j,Y8 (ZH ws f) ws i=.ok (a,j)->Q (.av (gT Kc a)) (ρ.set n (aa (RD C ws j))))(x:∀ k,Y8 (ZH ws f) ws i=.error k->X (NT CN k) (ρ.set n none)) :
  Ew K E X (WK (spG K C CN (F_bn Kc m)) [] E (ZD (Zj n) (ZD te ZV))) ρ Q :=
 Sx hi (Zz (XA b λa e=>by subst e;exact ZN (WQ (Cv.sto rfl) hw ⟨f,F,rfl,rfl⟩ (U5 Kc) q x)))
theorem Mc{ta tb:TE}(h:Tw K E X c ρ λb B=>if b=ac then Ew K E X ta B Q else Ew K E X tb B Q):Ew K E X (tIf c ta tb) ρ Q:=λI Z ts as H W st s x k =>
 h I Z ts as H _ st s x λb B q H' l=>by
  cases b with
  | true=>exact q I Z ts as H' W st l x k
  | false=>exact q I Z ts as H' W st l x k
end
theorem Fc(T:Txt K mg)(Z:Cs K mg kt kf kg ki kh kq km kn kr kj ke gt io ko kc kl)(B:base.BuiltinsAt mg aj)(Q:(YU,Xm)∈Tabs.ts)(c_read_part:Cal P w K mg base (CXE P w) (9+2*n) "read_part" ["reading", "depth"] [] (spG K kl ki (Vh (CQ km kn kr kj ke gt io ko kc) n))):Cal P w K mg base (CXE P w) (10+2*n) "read_joined" ["reading", "depth"] [] (spG K kl ki (F_jn (CQ km kn kr kj ke gt io ko kc) n)):=by
 obtain⟨f_o,fd_o,m_one_of,i_one_of,b_one_of⟩:=V2 (P:=P) (w:=w) (base:=base) T Z B Q
 obtain⟨f_1,fd_1,M_Both,i_Both,b_Both⟩:=G0 (P:=P) (w:=w) (base:=base) Z
 obtain⟨f_2,fd_2,M_Either,i_Either,b_Either⟩:=G3 (P:=P) (w:=w) (base:=base) Z
 rw[show 10+2*n=(9+2*n)+1 by omega]
 refine VX (k:=9+2*n) T.x_read_joined Sz (λO cs h=>by obtain⟨_,⟨_,_,U,_⟩,R⟩:=h;rw[R,U];rfl) (λO f X A I s H E J=>?_) [] (by simp)
 refine⟨_,(Zk (XY (YS (pv 0) Z.ic_Reading.cl m_one_of i_one_of (J.mono (by omega)) b_one_of (Za (Xu (Za Zm Zc)) Zc)))
   (Zk (ZB (i:=2) Sz.nd rfl (aK rfl) (XC (c_read_part.mono (by omega)) J rfl (Za (pv 0) (Za (Zu (YG (K:=K) rfl) (pv 1) Ze) Zc))))
   (Zk (ZB (i:=3) Sz.nd rfl (aK rfl) (YS (pv 0) Z.ic_Reading.cl m_one_of i_one_of (J.mono (by omega)) b_one_of (Za (Xu (Za Zm (Za Zm Zc))) Zc)))
   (Zk (ZB (i:=4) Sz.nd rfl (aK rfl) (XC (c_read_part.mono (by omega)) J rfl (Za (pv 0) (Za (Zu (YG (K:=K) rfl) (pv 1) Ze) Zc))))
   (Zk (XY (YS (pv 0) Z.ic_Reading.cl m_one_of i_one_of (J.mono (by omega)) b_one_of (Za (Xu (Za Zm Zc)) Zc)))
   (Zl (Zx (S1 (Zr (ZC (K:=K) rfl J.units) (pv 3) Zm (nomark _)) (X0 M_Both i_Both (J.mono (by omega)) rfl Z.c_Both b_Both .nil ZA (Za (pv 2) (Za (pv 4) Zc))) (X0 M_Either i_Either (J.mono (by omega)) rfl Z.c_Either b_Either .nil ZA (Za (pv 2) (Za (pv 4) Zc))))))))))),?_⟩
 rintro cs ⟨hw,hf,rfl⟩
 obtain⟨G,i,xs,res⟩:=O
 replace hf:∃ f,f<n/\xs=[.d (.int (8-(f:Int)))]/\res=lift (gT (CQ km kn kr kj ke gt io ko kc)) (YV (ZH G f) G i):=hf
 obtain⟨j,g,rfl,rfl⟩:=hf
 have y:(8-(j:Int))+1=9-(j:Int):=by omega
 show Sr K _ _ _ _ [aa (RD kl G i),aa (.d (.int (8-(j:Int)))),none,none,none] _
 have c:Pc "(" := Ya _ (by decide +kernel)
 have Y:Pc "and" := Ya _ (by decide +kernel)
 have t:Pc "or" := Ya _ (by decide +kernel)
 have r:Pc ")" := Ya _ (by decide +kernel)
 refine ZY (Sq (WR (n:=0) (chs:=["("]) rfl hw (SM c) SJ (λo p U=>?_) λk N=>Z4 (by simp only[YV,N,bd])))
 show Sr K _ _ _ _ [aa (RD kl G p),aa (.d (.int (8-(j:Int)))),none,none,none] _
 refine ZY (YZ (by decide) (by simp) (U6 (n:=0) rfl hw g ?_ (λa z R=>⟨rfl,v_s ?_⟩) λk N=>Z4 (by simp only[YV,U,N,bd])))
 ·k_head
  rw[y]
 show Sr K _ _ _ _ [aa (RD kl G z),aa (.d (.int (8-(j:Int)))),aa (.d (a.D _)),none,none] _
 refine ZY (YZ (by decide) (by simp) (WR (n:=0) (chs:=["and", "or"]) rfl hw (WS Y t) SK (λx q S=>⟨rfl,v_s ?_⟩) λk N=>Z4 (by simp only[YV,U,R,N,bd])))
 show Sr K _ _ _ _ [aa (RD kl G q),aa (.d (.int (8-(j:Int)))),aa (.d (a.D _)),aa (gS x),none] _
 refine ZY (YZ (by decide) (by simp) (U6 (n:=0) rfl hw g ?_ (λb m F=>⟨rfl,v_s ?_⟩) λk N=>Z4 (by simp only[YV,U,R,S,N,bd])))
 ·k_head
  rw[y]
 show Sr K _ _ _ _ [aa (RD kl G m),aa (.d (.int (8-(j:Int)))),aa (.d (a.D _)),aa (gS x),aa (.d (b.D _))] _
 refine ZY (Sq (WR (n:=0) (chs:=[")"]) rfl hw (SM r) SJ (λv l u=>?_) λk N=>Z4 (by simp only[YV,U,R,S,F,N,bd])))
 show Sr K _ _ _ _ [aa (RD kl G l),aa (.d (.int (8-(j:Int)))),aa (.d (a.D _)),aa (gS x),aa (.d (b.D _))] _
 refine YR (Mc (XF ?_))
 k_head
 refine ZU NR.av NR.av rfl rfl (XT hw S).1 Y ⟨_,rfl,ite2 (λW=>?_) λW=>?_⟩
 ·have W:=of_decide_eq_true W
  refine Y6 (Sm (Zz (YF (n:=2) rfl (Zz (YF (n:=4) rfl (ZN ⟨_,.cons rfl (.cons rfl .nil),rfl,by decide,?_⟩))))))
  exact⟨[RD kl G l,.d (.int (8-(j:Int)))],_,_,rfl,rfl,Xi (show YV (ZH G j) G i=.ok (.bo a b,l) by simp only[YV,U,R,S,F,u,bd,if_pos W]),rfl⟩
 ·have W:¬ x = "and" := λe=>W (decide_eq_true e)
  refine Y6 (Sm (Zz (YF (n:=2) rfl (Zz (YF (n:=4) rfl (ZN ⟨_,.cons rfl (.cons rfl .nil),rfl,by decide,?_⟩))))))
  exact⟨[RD kl G l,.d (.int (8-(j:Int)))],_,_,rfl,rfl,Xi (show YV (ZH G j) G i=.ok (.ei a b,l) by simp only[YV,U,R,S,F,u,bd,if_neg W]),rfl⟩
theorem Fd(T:Txt K mg)(Z:Cs K mg kt kf kg ki kh kq km kn kr kj ke gt io ko kc kl)(B:base.BuiltinsAt mg aj)(Q:(YU,Xm)∈Tabs.ts)(c_read_part:Cal P w K mg base (CXE P w) (9+2*n) "read_part" ["reading", "depth"] [] (spG K kl ki (Vh (CQ km kn kr kj ke gt io ko kc) n))):Cal P w K mg base (CXE P w) (10+2*n) "read_bound" ["reading", "depth"] [] (spG K kl ki (F_bn (CQ km kn kr kj ke gt io ko kc) n)):=by
 obtain⟨f_w,fd_w,m_wanted,i_wanted,b_wanted⟩:=U4 (P:=P) (w:=w) (base:=base) T Z
 obtain⟨f_o,fd_o,m_one_of,i_one_of,b_one_of⟩:=V2 (P:=P) (w:=w) (base:=base) T Z B Q
 obtain⟨f_1,fd_1,M_Some,i_Some,b_Some⟩:=G4 (P:=P) (w:=w) (base:=base) Z
 obtain⟨f_2,fd_2,M_Every,i_Every,b_Every⟩:=G5 (P:=P) (w:=w) (base:=base) Z
 have c_is_name:=(QZ (P:=P) (w:=w) (base:=base) T).mono (show 1<=3 by decide)
 rw[show 10+2*n=(9+2*n)+1 by omega]
 refine VX (k:=9+2*n) T.x_read_bound SA (λO cs h=>by obtain⟨_,⟨_,_,U,_⟩,R⟩:=h;rw[R,U];rfl) (λO f X A I s H E J=>?_) [] (by simp)
 refine⟨_,(Zk (ZB (i:=2) SA.nd rfl (aK rfl) (YS (pv 0) Z.ic_Reading.cl m_one_of i_one_of (J.mono (by omega)) b_one_of (Za (Xu (Za Zm (Za Zm Zc))) Zc)))
   (Zk (ZB (i:=3) SA.nd rfl (aK rfl) (YS (pv 0) Z.ic_Reading.cl m_wanted i_wanted (J.mono (by omega)) b_wanted (Za (Wi (P:=P) (w:=w) (K:=K) (mg:=mg) (base:=base) rfl rfl rfl rfl rfl c_is_name rfl) Zc)))
   (Zk (ZB (i:=4) SA.nd rfl (aK rfl) (XC (c_read_part.mono (by omega)) J rfl (Za (pv 0) (Za (Zu (YG (K:=K) rfl) (pv 1) Ze) Zc))))
   (Zl (Zx (S1 (Zr (ZC (K:=K) rfl J.units) (pv 2) Zm (nomark _)) (X0 M_Some i_Some (J.mono (by omega)) rfl Z.c_Some b_Some .nil ZA (Za (pv 3) (Za (pv 4) Zc))) (X0 M_Every i_Every (J.mono (by omega)) rfl Z.c_Every b_Every .nil ZA (Za (pv 3) (Za (pv 4) Zc))))))))),?_⟩
 rintro cs ⟨hw,hf,rfl⟩
 obtain⟨G,i,xs,res⟩:=O
 replace hf:∃ f,f<n/\xs=[.d (.int (8-(f:Int)))]/\res=lift (gT (CQ km kn kr kj ke gt io ko kc)) (Y8 (ZH G f) G i):=hf
 obtain⟨j,g,rfl,rfl⟩:=hf
 have y:(8-(j:Int))+1=9-(j:Int):=by omega
 show Sr K _ _ _ _ [aa (RD kl G i),aa (.d (.int (8-(j:Int)))),none,none,none] _
 have c:Pc "some" := Ya _ (by decide +kernel)
 have Y:Pc "all" := Ya _ (by decide +kernel)
 refine ZY (YZ (by decide) (by simp) (WR (n:=0) (chs:=["some", "all"]) rfl hw (WS c Y) SK (λx p U=>⟨rfl,v_s ?_⟩) λk N=>Z4 (by simp only[Y8,N,bd])))
 show Sr K _ _ _ _ [aa (RD kl G p),aa (.d (.int (8-(j:Int)))),aa (gS x),none,none] _
 refine ZY (YZ (by decide) (by simp) (Ws (n:=0) rfl hw (λnm b R=>⟨rfl,v_s ?_⟩) λk N=>Z4 (by simp only[Y8,U,N,bd])))
 show Sr K _ _ _ _ [aa (RD kl G b),aa (.d (.int (8-(j:Int)))),aa (gS x),aa (gS nm),none] _
 refine ZY (YZ (by decide) (by simp) (U6 (n:=0) rfl hw g ?_ (λa q S=>⟨rfl,v_s ?_⟩) λk N=>Z4 (by simp only[Y8,U,R,N,bd])))
 ·k_head
  rw[y]
 show Sr K _ _ _ _ [aa (RD kl G q),aa (.d (.int (8-(j:Int)))),aa (gS x),aa (gS nm),aa (.d (a.D _))] _
 refine YR (Mc (XF ?_))
 k_head
 refine ZU NR.av NR.av rfl rfl (XT hw U).1 c ⟨_,rfl,ite2 (λW=>?_) λW=>?_⟩
 ·have W:=of_decide_eq_true W
  refine Y6 (Sm (Zz (YF (n:=3) rfl (Zz (YF (n:=4) rfl (ZN ⟨_,.cons rfl (.cons rfl .nil),rfl,by decide,?_⟩))))))
  exact⟨[RD kl G q,.d (.int (8-(j:Int)))],_,_,rfl,rfl,Xi (show Y8 (ZH G j) G i=.ok (.so nm a,q) by simp only[Y8,U,R,S,bd,if_pos W]),rfl⟩
 ·have W:¬ x = "some" := λe=>W (decide_eq_true e)
  refine Y6 (Sm (Zz (YF (n:=3) rfl (Zz (YF (n:=4) rfl (ZN ⟨_,.cons rfl (.cons rfl .nil),rfl,by decide,?_⟩))))))
  exact⟨[RD kl G q,.d (.int (8-(j:Int)))],_,_,rfl,rfl,Xi (show Y8 (ZH G j) G i=.ok (.ev nm a,q) by simp only[Y8,U,R,S,bd,if_neg W]),rfl⟩
theorem Fe(T:Txt K mg)(Z:Cs K mg kt kf kg ki kh kq km kn kr kj ke gt io ko kc kl)(B:base.BuiltinsAt mg aj)(Q:(YU,Xm)∈Tabs.ts)(c_read_part:Cal P w K mg base (CXE P w) (9+2*n) "read_part" ["reading", "depth"] [] (spG K kl ki (Vh (CQ km kn kr kj ke gt io ko kc) n))):Cal P w K mg base (CXE P w) (9+2*(n+1)) "read_part" ["reading", "depth"] [] (spG K kl ki (Vh (CQ km kn kr kj ke gt io ko kc) (n+1))):=by
 obtain⟨fI,q,x_NoText,i_NoText,b_NoText⟩:=Q0 (P:=P) (w:=w) (base:=base) Z
 obtain⟨f_s,fd_s,m_shown,i_shown,b_shown⟩:=SH (P:=P) (w:=w) (base:=base) T Z
 obtain⟨f_o,fd_o,m_one_of,i_one_of,b_one_of⟩:=V2 (P:=P) (w:=w) (base:=base) T Z B Q
 obtain⟨f_1,fd_1,M_No,i_No,b_No⟩:=GZ (P:=P) (w:=w) (base:=base) Z
 have c_is_row_name:Cal P w K mg base _ _ _ _ _ _:=N3 T
 have c_read_joined:=Fc T Z B Q c_read_part
 have c_read_bound:=Fd T Z B Q c_read_part
 have c_read_sign:Cal P w K mg base _ _ _ _ _ _:=G7 T Z B Q
 have c_read_sums:Cal P w K mg base _ _ _ _ _ _:=G9 T Z B Q
 rw[show 9+2*(n+1)=(10+2*n)+1 by omega]
 refine VX (k:=10+2*n) T.x_read_part NK (λO cs h=>by obtain⟨_,⟨_,_,U,_⟩,R⟩:=h;rw[R,U];rfl) (λO f X A I s H E J=>?_) [] (by simp)
 refine⟨_,(Zk (Yr (Zr Xk (pv 1) (TK T.g_DEEPEST rfl) (nomark _))
    (Zl (RR bU rfl bU x_NoText rfl rfl Z.c_NoText i_NoText (J.mono (by omega)) b_NoText (Za (ZX (K:=K) rfl (pv 0)) Zc)))
    Z6)
   (Zk (ZB (i:=2) NK.nd rfl (aK rfl) (Su (pv 0) Z.ic_Reading.cl m_shown i_shown (J.mono (by omega)) b_shown))
   (Zk (Yr (Zr (ZC (K:=K) rfl J.units) (pv 2) Zm (nomark _))
    (Zk (XY (YS (pv 0) Z.ic_Reading.cl m_one_of i_one_of (J.mono (by omega)) b_one_of (Za (Xu (Za Zm Zc)) Zc)))
    (Zl (Zx (X0 M_No i_No (J.mono (by omega)) rfl Z.c_No b_No .nil ZA (Za (XC (c_read_part.mono (by omega)) J rfl (Za (pv 0) (Za (Zu (YG (K:=K) rfl) (pv 1) Ze) Zc))) Zc)))))
    Z6)
   (Zk (Yr (Zr (ZC (K:=K) rfl J.units) (pv 2) Zm (nomark _))
    (Zl (Zx (XC (c_read_joined.mono (by omega)) J rfl (Za (pv 0) (Za (pv 1) Zc)))))
    Z6)
   (Zk (Yr (Zr (Xy (K:=K) rfl J.units) (pv 2) (Vv (Za Zm (Za Zm Zc))) (by with_unfolding_all rfl))
    (Zl (Zx (XC (c_read_bound.mono (by omega)) J rfl (Za (pv 0) (Za (pv 1) Zc)))))
    Z6)
   (Zk (Yr (Y1 (ZR (c_is_row_name.mono (by omega)) J rfl ZA (Za (pv 2) Zc)))
    (Zl (Zx (XC (c_read_sign.mono (by omega)) J rfl (Za (pv 0) Zc))))
    Z6)
   (Zl (Zx (XC (c_read_sums.mono (by omega)) J rfl (Za (pv 0) Zc)))))))))),?_⟩
 rintro cs ⟨hw,hf,rfl⟩
 obtain⟨G,i,xs,res⟩:=O
 replace hf:∃ f,f<n+1/\xs=[.d (.int (9-(f:Int)))]/\res=lift (gT (CQ km kn kr kj ke gt io ko kc)) (ZH G f i):=hf
 obtain⟨j,C,rfl,rfl⟩:=hf
 show Sr K _ _ _ _ [aa (RD kl G i),aa (.d (.int (9-(j:Int)))),none] _
 refine ZY (Wm (XF ?_))
 k_head
 refine ite2 (λh=>?_) λh=>?_
 ·have h:j=0:=by have:=of_decide_eq_true h;omega
  subst h
  refine Qa (RW ?_)
  k_head
  refine Vd (n:=0) rfl Z.ic_Reading.cl Z.na_Reading_at ?_
  k_head
  exact⟨.cons NR.av .nil,rfl,by show 1<=1000;decide,Z4 (m:=ZH G 0 i) rfl⟩
 obtain⟨j,rfl⟩:∃ g,j=g+1:=by
  cases j with
  | zero=>exact absurd (decide_eq_true (by omega)) h
  | succ g=>exact⟨g,rfl⟩
 have C:j<n:=by omega
 have y:(9-((j+1:Nat):Int))=8-(j:Int):=by omega
 have x:(8-(j:Int))+1=9-(j:Int):=by omega
 refine XS ?_
 rw[y]
 have c:Pc "not" := Ya _ (by decide +kernel)
 have Y:Pc "(" := Ya _ (by decide +kernel)
 have t:Pc "some" := Ya _ (by decide +kernel)
 have r:Pc "all" := Ya _ (by decide +kernel)
 have hd:=U3 hw i
 refine ZY (YZ (by decide) (by simp) (Q2 (n:=0) rfl hw ⟨rfl,v_s ?_⟩))
 show Sr K _ _ _ _ [aa (RD kl G i),aa (.d (.int (8-(j:Int)))),aa (gS (shw G i))] _
 refine ZY (Wm (XF ?_))
 k_head
 refine ZU NR.av NR.av rfl rfl hd.1 c ⟨_,rfl,ite2 (λW=>?_) λW=>?_⟩
 ·have W:=of_decide_eq_true W
  refine ZY (Sq (WR (n:=0) (chs:=["not"]) rfl hw (SM c) SJ (λo p U=>?_) λk N=>Z4 (by simp only[ZH,if_pos W,N,bd])))
  show Sr K _ _ _ _ [aa (RD kl G p),aa (.d (.int (8-(j:Int)))),aa (gS (shw G i))] _
  refine YR (So (Wl (U6 (n:=0) rfl hw C ?_ (λa b R=>⟨_,.cons rfl .nil,rfl,by decide,?_⟩) λk N=>Z4 (by simp only[ZH,if_pos W,U,N,bd]))))
  ·k_head
   rw[x]
  exact⟨[RD kl G b,.d (.int (8-(j:Int)))],_,_,rfl,rfl,Xi (show ZH G (j+1) i=.ok (.no a,b) by simp only[ZH,if_pos W,U,R,bd]),rfl⟩
 have u:¬ shw G i = "not" := λe=>W (decide_eq_true e)
 refine XS (ZY (Wm (XF ?_)))
 k_head
 refine ZU NR.av NR.av rfl rfl hd.1 Y ⟨_,rfl,ite2 (λW=>?_) λW=>?_⟩
 ·have W:=of_decide_eq_true W
  have z:ZH G (j+1) i=YV (ZH G j) G i:=by simp only[ZH,if_neg u,if_pos W]
  refine YR (Fa (n:=0) rfl hw C ?_ (λa b R=>?_) λk N=>Z4 (z.trans N))
  ·k_head
  exact⟨[RD kl G b,.d (.int (8-(j:Int)))],_,_,rfl,rfl,Xi (z.trans R),rfl⟩
 have l:¬ shw G i = "(" := λe=>W (decide_eq_true e)
 refine XS (ZY (Wm (XF ?_)))
 k_head
 refine WH ?_
 k_head
 refine⟨[.d (.str "some"),.d (.str "all")],.cons rfl (.cons rfl .nil),by show 2<=1000;decide,?_⟩
 refine V1 (ns:=["some", "all"]) NR.av NR.av rfl (.inr rfl) hd.1 (WS t r) ⟨_,rfl,ite2 (λW=>?_) λW=>?_⟩
 ·have W:=of_decide_eq_true W
  have z:ZH G (j+1) i=Y8 (ZH G j) G i:=by simp only[ZH,if_neg u,if_neg l,if_pos W]
  refine YR (Fb (n:=0) rfl hw C ?_ (λa b R=>?_) λk N=>Z4 (z.trans N))
  ·k_head
  exact⟨[RD kl G b,.d (.int (8-(j:Int)))],_,_,rfl,rfl,Xi (z.trans R),rfl⟩
 have v:¬ shw G i∈(["some", "all"]:List au):=λe=>W (decide_eq_true e)
 refine XS (ZY (Wm (XF ?_)))
 k_head
 refine Yi ?_
 k_head
 refine Wr NR.av rfl hd ⟨_,rfl,ite2 (λW=>?_) λW=>?_⟩
 ·have z:ZH G (j+1) i=YJ G i:=by simp only[ZH,if_neg u,if_neg l,if_neg v,if_pos W]
  refine YR (SL (n:=0) rfl hw (U5 _) (λa b R=>?_) λk N=>Z4 (z.trans N))
  exact⟨[RD kl G b,.d (.int (8-(j:Int)))],_,_,rfl,rfl,Xi (z.trans R),rfl⟩
 ·have z:ZH G (j+1) i=YK G i:=by simp only[ZH,if_neg u,if_neg l,if_neg v,if_neg W]
  refine XS (YR (SL (n:=0) rfl hw (U5 _) (λa b R=>?_) λk N=>Z4 (z.trans N)))
  exact⟨[RD kl G b,.d (.int (8-(j:Int)))],_,_,rfl,rfl,Xi (z.trans R),rfl⟩
theorem Md(T:Txt K mg)(Z:Cs K mg kt kf kg ki kh kq km kn kr kj ke gt io ko kc kl)(B:base.BuiltinsAt mg aj)(e:(YU,Xm)∈Tabs.ts):∀ n:Nat,Cal P w K mg base (CXE P w) (9+2*n) "read_part" ["reading", "depth"] [] (spG K kl ki (Vh (CQ km kn kr kj ke gt io ko kc) n))
 | 0=>by
  obtain⟨u,f,a,F,m,b⟩:=T.x_read_part.ex
  obtain⟨ds,p,G⟩:=b [] (by simp)
  have c:∀ {vs:List V} {H:Hp} {Q:VK} {E:XK},¬ spG K kl ki (Vh (CQ km kn kr kj ke gt io ko kc) 0) vs H Q E:=by
   intro vs H Q E h
   obtain⟨O,_,_,_,_,_,⟨_,⟨f,g,_⟩,_⟩,_⟩:=h
   omega
  exact⟨f,a,ds,⟨λvs H Q E h=>(c h).elim,λA I s H args us vs Q E _ _ _ _ h=>(c h).elim⟩,m,F.kp,p,G⟩
 | n+1=>Fe T Z B e (Md T Z B e n)
variable{H:Hp}{vs:List V}
theorem Ff{t:TS}{PX:List AV->Exc->Prop}{Qv:VK}{E:XK}(sp:spR K Pre Post PX vs H Qv E)
  (h:∀ cs,Pre cs->Sr K (toF E) (λe _=>PX cs e) [] t (inA N cs) { nx:=λ_=>False,rt:=λa _=>∃ c,Res a c/\Post cs c }):t { nx:=λ_ H'=>Qv .non H',rt:=Qv } (L2.start N vs) H:=by
 obtain⟨O,cs,j,pre,q,w⟩:=sp
 refine h cs pre [] rfl H _ [] [] H _ Stb.nil (SR.startA j) (λq g=>nomatch g) ⟨λe o z c d Z H' s G=>w e z c d H' s.same G,O⟩ ⟨λ_ z=>z.elim,λ_ z=>z.elim,λ_ z=>z.elim,λa ρ' ⟨c,r,z⟩ v σ' H' s' kp=>?_⟩
 rcases r with rfl|⟨nr,rfl⟩
 ·exact q _ z _ _ s'.rs
 ·refine q _ z _ _ ⟨s'.same,λ_=>0,λ_=>by simp,λb z=>by simp at z,.d ?_ λ_=>rfl⟩
  have f:L2.hid H' (λ_=>0) (λ_=>0)=H':=by funext b;simp[L2.hid]
  rw[f]
  exact s'.top nr
theorem Fg{b:Θ->List AV->Prop}{g:Θ->List AV->AV->Prop}{j:Θ->List AV->Exc->Prop}(T:Tx K mg x st ps dvss)(i:FnScope N ps (Zb st))(C:∀ O cs,b O cs->cs.length=ps.length)
  (hbody:∀ (O:Θ) (f:ah) (cdv:af) (A:bv) (outer:List eF) (s:aq) (H:Hp) (E:XK),Room k (A.deeper (bQ x (Zb st) s.heap.objs.size f cdv)) ->
   ∃ t,PSs ((ZJ (CXE P w) P w K mg base N x (Zb st) f cdv A outer s H E).wish (XE (ZJ (CXE P w) P w K mg base N x (Zb st) f cdv A outer s H E) (toF E))) (Zy st) t/\∀ cs,b O cs->Sr K (toF E) (λe _=>j O cs e) [] t (inA N cs) { nx:=λ_=>False,rt:=λa _=>∃ c,Res a c/\g O cs c }) :
  ∀ dvs∈dvss,Cal P w K mg base (CXE P w) (k+1) x ps dvs (Sb K b g j) :=
 T.calX (k:=k) i ((by rintro vs H Q E ⟨O,h⟩;exact VM h (C O))) λf cdv A outer s H vs Q E hr ⟨O,h⟩ =>
  let ⟨t,U,R⟩:=hbody O f cdv A outer s H E hr
  ⟨t,U,Ff h λcs pre=>R cs pre⟩
def Z3(z:au):List Str:=gF z " "
noncomputable def XV(z:au):Except Nat Stm:=match ZH (Z3 z) 8 0 with
 | .error k=>.error k
 | .ok (t,j)=>if j<(Z3 z).length then .error j else .ok t
def Tz(z:au):Prop:=Pc z/\z.length<=9000
theorem Me(sep:au):∀ {zs:List au} {z:au} {c:Nat},z∈zs->c∈z.cps.toList->c∈(cy sep zs).cps.toList
 | [x],z,c,hz,hc=>by rw[mem_singleton.mp hz] at hc;exact hc
 | x::y::r,z,c,hz,hc=>by
  show c∈((x++sep)++cy sep (y::r)).cps.toList
  rw[cf,cf]
  rcases eR.mp hz with e|e
  ·rw[e] at hc
   exact bS _ (bS _ hc)
  ·exact bD _ (Me sep e hc)
theorem Q3(h:Tz z):YI (Z3 z):=by
 refine⟨λy B=>⟨λc Y=>h.1 c ?_,?_⟩,?_⟩
 ·have:=Me " " B Y
  unfold Z3 at this
  rw[gj] at this
  exact this
 ·have:=PyProof.Rows.part_short B
  have:=h.2
  omega
 ·have:=PyProof.Rows.split_weight z " " (by decide +kernel)
  have:=h.2
  unfold Z3
  omega
def Mf(z:au)(cs:List AV):Prop:=Tz z/\cs=[.d (.str z)]
def Mg(C:Kd->ah)(z:au)(_:List AV)(c:AV):Prop:=∃ t,XV z=.ok t/\c=.d (t.D C)
def Mh(CN:ah)(z:au)(_:List AV)(e:Exc):Prop:=∃ k,XV z=.error k/\e=NT CN k
theorem Mi(T:Txt K mg)(Z:Cs K mg kt kf kg ki kh kq km kn kr kj ke gt io ko kc kl)(B:base.BuiltinsAt mg aj)(Q:(YU,Xm)∈Tabs.ts):Cal P w K mg base (CXE P w) 28 "read_statement" ["text"] [] (Sb K Mf (Mg (CQ km kn kr kj ke gt io ko kc)) (Mh ki)):=by
 obtain⟨fI,q,x_NoText,i_NoText,b_NoText⟩:=Q0 (P:=P) (w:=w) (base:=base) Z
 obtain⟨f_1,fd_1,M_Reading,i_Reading,b_Reading⟩:=G6 (P:=P) (w:=w) (base:=base) Z
 have c_read_part:Cal P w K mg base _ _ _ _ _ _:=Md T Z B Q 9
 refine Fg (k:=27) T.x_read_statement Qu (λO cs h=>by rw[h.2];rfl) (λz f X A I s H E J=>?_) [] (by simp)
 refine⟨_,(Zk (ZB (i:=1) Qu.nd rfl (aK rfl) (X0 M_Reading i_Reading (J.mono (by omega)) rfl Z.c_Reading b_Reading .nil ZA (Za (R5 (XN (K:=K) rfl aX dv hL Np (pv 0) (Za Zm Zc))) Zc)))
   (Zk (ZB (i:=2) Qu.nd rfl (aK rfl) (XC (c_read_part.mono (by omega)) J rfl (Za (pv 1) (Za Ze Zc))))
   (Zk (Yr (Zr WC (ZX (K:=K) rfl (pv 1)) (ZQ (Yt (K:=K) rfl) rfl T.n_len aV (Za (ZX (K:=K) rfl (pv 1)) Zc)) (nomark _))
    (Zl (RR bU rfl bU x_NoText rfl rfl Z.c_NoText i_NoText (J.mono (by omega)) b_NoText (Za (ZX (K:=K) rfl (pv 1)) Zc)))
    Z6)
   (Zl (Zx (pv 2)))))),?_⟩
 rintro cs ⟨hz,rfl⟩
 have N:=Q3 hz
 have u:=hz.2
 show Sr K _ _ _ _ [aa (.d (.str z)),none,none] _
 refine ZY (YZ (by decide) (by simp) (HX (Wl (HW (Y6 ?_)))))
 k_head
 refine Nr ?_
 k_head
 refine⟨z,rfl,NR.av,?_⟩
 k_head
 refine⟨" ",rfl,NR.av,by decide +kernel,by omega,Z3 z,rfl,_,.cons rfl .nil,rfl,v_s ?_⟩
 show Sr K _ _ _ _ [aa (.d (.str z)),aa (RD kl (Z3 z) 0),none] _
 refine ZY (YZ (by decide) (by simp) (U6 (n:=1) (f:=8) (m:=9) rfl N (by decide) (YY rfl) (λa j h=>⟨rfl,v_s ?_⟩) λk b=>⟨k,by simp only[XV,b],rfl⟩))
 show Sr K _ _ _ _ [aa (.d (.str z)),aa (RD kl (Z3 z) j),aa (.d (a.D _))] _
 refine ZY (Wm (XF ?_))
 k_head
 refine Vd (n:=1) rfl Z.ic_Reading.cl Z.na_Reading_at ?_
 k_head
 refine Qd (n:=1) rfl Z.ic_Reading.cl Z.na_Reading_words ?_
 k_head
 refine XB rfl ?_
 rw[aC]
 k_head
 refine ite2 (λW=>?_) λW=>?_
 ·have W:j<(Z3 z).length:=by have:=of_decide_eq_true W;omega
  refine Qa (RW ?_)
  k_head
  refine Vd (n:=1) rfl Z.ic_Reading.cl Z.na_Reading_at ?_
  k_head
  exact⟨.cons NR.av .nil,rfl,by show 1<=1000;decide,j,by simp only[XV,h,if_pos W],rfl⟩
 ·have W:¬ j<(Z3 z).length:=λe=>W (decide_eq_true (by omega))
  refine XS (YR (Y6 ?_))
  k_head
  exact⟨_,Zs rfl,a,by simp only[XV,h,if_neg W],rfl⟩
theorem Fh(T:Txt K mg)(Z:Cs K mg kt kf kg ki kh kq km kn kr kj ke gt io ko kc kl)(m_text:MT P w K mg base (CQ km kn kr kj ke gt io ko kc) k h):Cls K ((CQ km kn kr kj ke gt io ko kc) .si)/\∃ f fd,Meth K ((CQ km kn kr kj ke gt io ko kc) .si) "text" f/\FnOk P w K mg base (CXE P w) (k+2) f fd ["self"] (XG K (CQ km kn kr kj ke gt io ko kc) (h+1) .si)/\Zq K fd ["self"] []:=by
 obtain⟨f,fd,M,F,B⟩:=Z.x_SignIs_text
 refine⟨Z.ic_SignIs.cl,f,fd,M,Wq (k:=k+1) F Ga (λO cs h=>by rw[h.2.2.2];rfl) (λO X A I s H E J=>?_),B⟩
 refine⟨_,(ZL (Yb (WP (K:=K) rfl aX bu bt (XQ (K:=K) rfl) Zh (XH (ZF (X5 (Zo (ZX (K:=K) rfl (pv 0))) (X5 (Zo (ZX (K:=K) rfl (pv 0))) (Zf Zh (XI (Zo (Xb Sg rfl T.n_str cM (Za (ZX (K:=K) rfl (pv 0)) Zc))) Zn))))) Zn)))),?_⟩
 rintro cs ⟨ok,hk,hh,rfl⟩
 cases ok<;>first|cases hk|skip
 rename_i row name sign h1 h2 h3
 have t:=h1.1
 have Y:=h2.1
 have a:=U1 h3
 show Sv K _ _ _ [aa (.d ((Stm.si row name sign).D (CQ km kn kr kj ke gt io ko kc)))] _
 k_head
 refine XR ?_
 k_head
 refine Ye ?_
 k_head
 refine YD (i:=0) rfl Z.ic_SignIs.cl Z.na_SignIs_row rfl ?_
 k_head
 refine YD (i:=0) rfl Z.ic_SignIs.cl Z.na_SignIs_name rfl ?_
 k_head
 refine YD (i:=0) rfl Z.ic_SignIs.cl Z.na_SignIs_sign rfl ?_
 k_head
 refine Si rfl ⟨by have:=h3.1;omega,by have:=h3.2;omega⟩ ?_
 k_head
 refine⟨[.d (.str row),.d (.str name),.d (.str "is"),.d (.str (nT sign))],.cons rfl (.cons rfl (.cons rfl (.cons rfl .nil))),by show 4<=1000;decide,?_⟩
 refine⟨[row,name, "is",(nT sign)],rfl,NR.av,(Xn (m:=10) (n:=4) spc1 (λz C=>?_) (ar _) (by decide)).1,?_⟩
 ·simp only[eR,dL,or_false] at C
  rcases C with rfl|rfl|rfl|rfl
  ·omega
  ·omega
  ·decide +kernel
  ·omega
 exact⟨_,Zs rfl,rfl⟩
theorem Fi(T:Txt K mg)(Z:Cs K mg kt kf kg ki kh kq km kn kr kj ke gt io ko kc kl)(m_text:MT P w K mg base (CQ km kn kr kj ke gt io ko kc) k h):Cls K ((CQ km kn kr kj ke gt io ko kc) .sl)/\∃ f fd,Meth K ((CQ km kn kr kj ke gt io ko kc) .sl) "text" f/\FnOk P w K mg base (CXE P w) (k+2) f fd ["self"] (XG K (CQ km kn kr kj ke gt io ko kc) (h+1) .sl)/\Zq K fd ["self"] []:=by
 obtain⟨f,fd,M,F,B⟩:=Z.x_SignsLike_text
 refine⟨Z.ic_SignsLike.cl,f,fd,M,Wq (k:=k+1) F Gc (λO cs h=>by rw[h.2.2.2];rfl) (λO X A I s H E J=>?_),B⟩
 refine⟨_,(ZL (Yb (WP (K:=K) rfl aX bu bt (XQ (K:=K) rfl) Zh (XH (ZF (X5 (Zo (ZX (K:=K) rfl (pv 0))) (X5 (Zo (ZX (K:=K) rfl (pv 0))) (Zf Zh (X5 (Zo (ZX (K:=K) rfl (pv 0))) (X5 (Zo (ZX (K:=K) rfl (pv 0))) Zn)))))) Zn)))),?_⟩
 rintro cs ⟨ok,hk,hh,rfl⟩
 cases ok<;>first|cases hk|skip
 rename_i row name other second h1 h2 h3 h4
 have t:=h1.1
 have Y:=h2.1
 have a:=h3.1
 have b:=h4.1
 show Sv K _ _ _ [aa (.d ((Stm.sl row name other second).D (CQ km kn kr kj ke gt io ko kc)))] _
 k_head
 refine XR ?_
 k_head
 refine Ye ?_
 k_head
 refine YD (i:=0) rfl Z.ic_SignsLike.cl Z.na_SignsLike_row rfl ?_
 k_head
 refine YD (i:=0) rfl Z.ic_SignsLike.cl Z.na_SignsLike_name rfl ?_
 k_head
 refine YD (i:=0) rfl Z.ic_SignsLike.cl Z.na_SignsLike_other rfl ?_
 k_head
 refine YD (i:=0) rfl Z.ic_SignsLike.cl Z.na_SignsLike_second rfl ?_
 k_head
 refine⟨[.d (.str row),.d (.str name),.d (.str "like"),.d (.str other),.d (.str second)],.cons rfl (.cons rfl (.cons rfl (.cons rfl (.cons rfl .nil)))),by show 5<=1000;decide,?_⟩
 refine⟨[row,name, "like",other,second],rfl,NR.av,(Xn (m:=10) (n:=5) spc1 (λz C=>?_) (ar _) (by decide)).1,?_⟩
 ·simp only[eR,dL,or_false] at C
  rcases C with rfl|rfl|rfl|rfl|rfl
  ·omega
  ·omega
  ·decide +kernel
  ·omega
  ·omega
 exact⟨_,Zs rfl,rfl⟩
theorem Fj(T:Txt K mg)(Z:Cs K mg kt kf kg ki kh kq km kn kr kj ke gt io ko kc kl)(m_text:MT P w K mg base (CQ km kn kr kj ke gt io ko kc) k h):Cls K ((CQ km kn kr kj ke gt io ko kc) .su)/\∃ f fd,Meth K ((CQ km kn kr kj ke gt io ko kc) .su) "text" f/\FnOk P w K mg base (CXE P w) (k+2) f fd ["self"] (XG K (CQ km kn kr kj ke gt io ko kc) (h+1) .su)/\Zq K fd ["self"] []:=by
 obtain⟨f,fd,M,F,B⟩:=Z.x_Sums_text
 refine⟨Z.ic_Sums.cl,f,fd,M,Wq (k:=k+1) F Ge (λO cs h=>by rw[h.2.2.2];rfl) (λO X A I s H E J=>?_),B⟩
 refine⟨_,(ZL (Yb (WP (K:=K) rfl aX bu bt (XQ (K:=K) rfl) Zh (XH (ZF (XI (Zo (XN (K:=K) rfl aX bu bt (XQ (K:=K) rfl) Zm (Za (ZX (K:=K) rfl (pv 0)) Zc))) (X5 (Zo (ZX (K:=K) rfl (pv 0))) (XI (Zo (XN (K:=K) rfl aX bu bt (XQ (K:=K) rfl) Zm (Za (ZX (K:=K) rfl (pv 0)) Zc))) Zn)))) Zn)))),?_⟩
 rintro cs ⟨ok,hk,hh,rfl⟩
 cases ok<;>first|cases hk|skip
 rename_i l r wd h1 h2 l1 l2 h3
 have a:=h3.1
 obtain⟨Q,b⟩:=Xn (m:=6) (n:=6) spc3 (λz C=>(h1 z C).1) l1 (by decide)
 obtain⟨p,G⟩:=Xn (m:=6) (n:=6) spc3 (λz C=>(h2 z C).1) l2 (by decide)
 show Sv K _ _ _ [aa (.d ((Stm.su l r wd).D (CQ km kn kr kj ke gt io ko kc)))] _
 k_head
 refine XR ?_
 k_head
 refine Ye ?_
 k_head
 refine XR ?_
 k_head
 refine Nz (i:=0) rfl Z.ic_Sums.cl Z.na_Sums_left rfl ?_
 refine⟨l,rfl,NR.bor,Q,?_⟩
 k_head
 refine YD (i:=0) rfl Z.ic_Sums.cl Z.na_Sums_word rfl ?_
 k_head
 refine XR ?_
 k_head
 refine Nz (i:=0) rfl Z.ic_Sums.cl Z.na_Sums_right rfl ?_
 refine⟨r,rfl,NR.bor,p,?_⟩
 k_head
 refine⟨[.d (.str (bj " + " l)),.d (.str wd),.d (.str (bj " + " r))],.cons rfl (.cons rfl (.cons rfl .nil)),by show 3<=1000;decide,?_⟩
 refine⟨[(bj " + " l),wd,(bj " + " r)],rfl,NR.av,(Xn (m:=100) (n:=3) spc1 (λz C=>?_) (ar _) (by decide)).1,?_⟩
 ·simp only[eR,dL,or_false] at C
  rcases C with rfl|rfl|rfl
  ·omega
  ·omega
  ·omega
 exact⟨_,Zs rfl,rfl⟩
theorem Fl(T:Txt K mg)(Z:Cs K mg kt kf kg ki kh kq km kn kr kj ke gt io ko kc kl)(m_text:MT P w K mg base (CQ km kn kr kj ke gt io ko kc) k h):Cls K ((CQ km kn kr kj ke gt io ko kc) .pl)/\∃ f fd,Meth K ((CQ km kn kr kj ke gt io ko kc) .pl) "text" f/\FnOk P w K mg base (CXE P w) (k+2) f fd ["self"] (XG K (CQ km kn kr kj ke gt io ko kc) (h+1) .pl)/\Zq K fd ["self"] []:=by
 obtain⟨f,fd,M,F,B⟩:=Z.x_PlaceIs_text
 refine⟨Z.ic_PlaceIs.cl,f,fd,M,Wq (k:=k+1) F Gg (λO cs h=>by rw[h.2.2.2];rfl) (λO X A I s H E J=>?_),B⟩
 refine⟨_,(ZL (Yb (WP (K:=K) rfl aX bu bt (XQ (K:=K) rfl) Zh (XH (ZF (X5 (Zo (ZX (K:=K) rfl (pv 0))) (Zf Zh (XI (Zo (Xb Sg rfl T.n_str cM (Za (ZX (K:=K) rfl (pv 0)) Zc))) Zn)))) Zn)))),?_⟩
 rintro cs ⟨ok,hk,hh,rfl⟩
 cases ok<;>first|cases hk|skip
 rename_i name place h1 h2
 have t:=h1.1
 have a:=U1 h2
 show Sv K _ _ _ [aa (.d ((Stm.pl name place).D (CQ km kn kr kj ke gt io ko kc)))] _
 k_head
 refine XR ?_
 k_head
 refine Ye ?_
 k_head
 refine YD (i:=0) rfl Z.ic_PlaceIs.cl Z.na_PlaceIs_name rfl ?_
 k_head
 refine YD (i:=0) rfl Z.ic_PlaceIs.cl Z.na_PlaceIs_place rfl ?_
 k_head
 refine Si rfl ⟨by have:=h2.1;omega,by have:=h2.2;omega⟩ ?_
 k_head
 refine⟨[.d (.str name),.d (.str "="),.d (.str (nT place))],.cons rfl (.cons rfl (.cons rfl .nil)),by show 3<=1000;decide,?_⟩
 refine⟨[name, "=",(nT place)],rfl,NR.av,(Xn (m:=10) (n:=3) spc1 (λz C=>?_) (ar _) (by decide)).1,?_⟩
 ·simp only[eR,dL,or_false] at C
  rcases C with rfl|rfl|rfl
  ·omega
  ·decide +kernel
  ·omega
 exact⟨_,Zs rfl,rfl⟩
theorem Fm(T:Txt K mg)(Z:Cs K mg kt kf kg ki kh kq km kn kr kj ke gt io ko kc kl)(m_text:MT P w K mg base (CQ km kn kr kj ke gt io ko kc) k h):Cls K ((CQ km kn kr kj ke gt io ko kc) .no)/\∃ f fd,Meth K ((CQ km kn kr kj ke gt io ko kc) .no) "text" f/\FnOk P w K mg base (CXE P w) (k+2) f fd ["self"] (XG K (CQ km kn kr kj ke gt io ko kc) (h+1) .no)/\Zq K fd ["self"] []:=by
 obtain⟨f,fd,M,F,B⟩:=Z.x_No_text
 refine⟨Z.ic_No.cl,f,fd,M,Wq (k:=k+1) F Gi (λO cs h=>by rw[h.2.2.2];rfl) (λO X A I s H E J=>?_),B⟩
 refine⟨_,(ZL (Yb (WP (K:=K) rfl aX bu bt (XQ (K:=K) rfl) Zh (XH (ZF (Zf Zh (XI (Zo (VR (ZX (K:=K) rfl (pv 0)) m_text (J.mono (by omega)) ZA)) Zn))) Zn)))),?_⟩
 rintro cs ⟨ok,hk,hh,rfl⟩
 cases ok<;>first|cases hk|skip
 rename_i a h ha
 show Sv K _ _ _ [aa (.d ((Stm.no a).D (CQ km kn kr kj ke gt io ko kc)))] _
 k_head
 refine XR ?_
 k_head
 refine Ye ?_
 k_head
 refine V0 ?_
 k_head
 refine YD (i:=0) rfl Z.ic_No.cl Z.na_No_one rfl ?_
 refine⟨a,rfl,NR.av,h,by have:a.ht+1<=_:=hh;omega,?_⟩
 k_head
 refine⟨[.d (.str "not"),.d (.str a.tx)],.cons rfl (.cons rfl .nil),by show 2<=1000;decide,?_⟩
 refine⟨["not",a.tx],rfl,NR.av,(Xn (m:=100000) (n:=2) spc1 (λz C=>?_) (ar _) (by decide)).1,?_⟩
 ·simp only[eR,dL,or_false] at C
  rcases C with rfl|rfl
  ·decide +kernel
  ·exact ha
 exact⟨_,Zs rfl,rfl⟩
theorem Fo(T:Txt K mg)(Z:Cs K mg kt kf kg ki kh kq km kn kr kj ke gt io ko kc kl)(m_text:MT P w K mg base (CQ km kn kr kj ke gt io ko kc) k h):Cls K ((CQ km kn kr kj ke gt io ko kc) .bo)/\∃ f fd,Meth K ((CQ km kn kr kj ke gt io ko kc) .bo) "text" f/\FnOk P w K mg base (CXE P w) (k+2) f fd ["self"] (XG K (CQ km kn kr kj ke gt io ko kc) (h+1) .bo)/\Zq K fd ["self"] []:=by
 have c_joined_text:=NY T m_text
 obtain⟨f,fd,M,F,B⟩:=Z.x_Both_text
 refine⟨Z.ic_Both.cl,f,fd,M,Wq (k:=k+1) F Gk (λO cs h=>by rw[h.2.2.2];rfl) (λO X A I s H E J=>?_),B⟩
 refine⟨_,(ZL (Yn (Zx (ZR (c_joined_text.mono (by omega)) J rfl ZA (Za (ZX (K:=K) rfl (pv 0)) (Za Zm (Za (ZX (K:=K) rfl (pv 0)) Zc))))))),?_⟩
 rintro cs ⟨ok,hk,hh,rfl⟩
 cases ok<;>first|cases hk|skip
 rename_i a b h ha g hb
 show Sv K _ _ _ [aa (.d ((Stm.bo a b).D (CQ km kn kr kj ke gt io ko kc)))] _
 have U:max a.ht b.ht+1<=_:=hh
 k_head
 refine Yi ?_
 k_head
 refine YD (i:=0) rfl Z.ic_Both.cl Z.na_Both_one rfl ?_
 k_head
 refine YD (i:=0) rfl Z.ic_Both.cl Z.na_Both_other rfl ?_
 k_head
 exact NZ h (by omega) ha GP g (by omega) hb ⟨_,Zs rfl,rfl⟩
theorem Fq(T:Txt K mg)(Z:Cs K mg kt kf kg ki kh kq km kn kr kj ke gt io ko kc kl)(m_text:MT P w K mg base (CQ km kn kr kj ke gt io ko kc) k h):Cls K ((CQ km kn kr kj ke gt io ko kc) .ei)/\∃ f fd,Meth K ((CQ km kn kr kj ke gt io ko kc) .ei) "text" f/\FnOk P w K mg base (CXE P w) (k+2) f fd ["self"] (XG K (CQ km kn kr kj ke gt io ko kc) (h+1) .ei)/\Zq K fd ["self"] []:=by
 have c_joined_text:=NY T m_text
 obtain⟨f,fd,M,F,B⟩:=Z.x_Either_text
 refine⟨Z.ic_Either.cl,f,fd,M,Wq (k:=k+1) F Gn (λO cs h=>by rw[h.2.2.2];rfl) (λO X A I s H E J=>?_),B⟩
 refine⟨_,(ZL (Yn (Zx (ZR (c_joined_text.mono (by omega)) J rfl ZA (Za (ZX (K:=K) rfl (pv 0)) (Za Zm (Za (ZX (K:=K) rfl (pv 0)) Zc))))))),?_⟩
 rintro cs ⟨ok,hk,hh,rfl⟩
 cases ok<;>first|cases hk|skip
 rename_i a b h ha g hb
 show Sv K _ _ _ [aa (.d ((Stm.ei a b).D (CQ km kn kr kj ke gt io ko kc)))] _
 have U:max a.ht b.ht+1<=_:=hh
 k_head
 refine Yi ?_
 k_head
 refine YD (i:=0) rfl Z.ic_Either.cl Z.na_Either_one rfl ?_
 k_head
 refine YD (i:=0) rfl Z.ic_Either.cl Z.na_Either_other rfl ?_
 k_head
 exact NZ h (by omega) ha GQ g (by omega) hb ⟨_,Zs rfl,rfl⟩
theorem Fr(T:Txt K mg)(Z:Cs K mg kt kf kg ki kh kq km kn kr kj ke gt io ko kc kl)(m_text:MT P w K mg base (CQ km kn kr kj ke gt io ko kc) k h):Cls K ((CQ km kn kr kj ke gt io ko kc) .so)/\∃ f fd,Meth K ((CQ km kn kr kj ke gt io ko kc) .so) "text" f/\FnOk P w K mg base (CXE P w) (k+2) f fd ["self"] (XG K (CQ km kn kr kj ke gt io ko kc) (h+1) .so)/\Zq K fd ["self"] []:=by
 obtain⟨f,fd,M,F,B⟩:=Z.x_Some_text
 refine⟨Z.ic_Some.cl,f,fd,M,Wq (k:=k+1) F Gp (λO cs h=>by rw[h.2.2.2];rfl) (λO X A I s H E J=>?_),B⟩
 refine⟨_,(ZL (Yb (WP (K:=K) rfl aX bu bt (XQ (K:=K) rfl) Zh (XH (ZF (Zf Zh (X5 (Zo (ZX (K:=K) rfl (pv 0))) (XI (Zo (VR (ZX (K:=K) rfl (pv 0)) m_text (J.mono (by omega)) ZA)) Zn)))) Zn)))),?_⟩
 rintro cs ⟨ok,hk,hh,rfl⟩
 cases ok<;>first|cases hk|skip
 rename_i n a h1 h ha
 have t:=h1.1
 show Sv K _ _ _ [aa (.d ((Stm.so n a).D (CQ km kn kr kj ke gt io ko kc)))] _
 k_head
 refine XR ?_
 k_head
 refine Ye ?_
 k_head
 refine YD (i:=0) rfl Z.ic_Some.cl Z.na_Some_name rfl ?_
 k_head
 refine V0 ?_
 k_head
 refine YD (i:=0) rfl Z.ic_Some.cl Z.na_Some_one rfl ?_
 refine⟨a,rfl,NR.av,h,by have:a.ht+1<=_:=hh;omega,?_⟩
 k_head
 refine⟨[.d (.str "some"),.d (.str n),.d (.str a.tx)],.cons rfl (.cons rfl (.cons rfl .nil)),by show 3<=1000;decide,?_⟩
 refine⟨["some",n,a.tx],rfl,NR.av,(Xn (m:=100000) (n:=3) spc1 (λz C=>?_) (ar _) (by decide)).1,?_⟩
 ·simp only[eR,dL,or_false] at C
  rcases C with rfl|rfl|rfl
  ·decide +kernel
  ·omega
  ·exact ha
 exact⟨_,Zs rfl,rfl⟩
theorem Fs(T:Txt K mg)(Z:Cs K mg kt kf kg ki kh kq km kn kr kj ke gt io ko kc kl)(m_text:MT P w K mg base (CQ km kn kr kj ke gt io ko kc) k h):Cls K ((CQ km kn kr kj ke gt io ko kc) .ev)/\∃ f fd,Meth K ((CQ km kn kr kj ke gt io ko kc) .ev) "text" f/\FnOk P w K mg base (CXE P w) (k+2) f fd ["self"] (XG K (CQ km kn kr kj ke gt io ko kc) (h+1) .ev)/\Zq K fd ["self"] []:=by
 obtain⟨f,fd,M,F,B⟩:=Z.x_Every_text
 refine⟨Z.ic_Every.cl,f,fd,M,Wq (k:=k+1) F Gr (λO cs h=>by rw[h.2.2.2];rfl) (λO X A I s H E J=>?_),B⟩
 refine⟨_,(ZL (Yb (WP (K:=K) rfl aX bu bt (XQ (K:=K) rfl) Zh (XH (ZF (Zf Zh (X5 (Zo (ZX (K:=K) rfl (pv 0))) (XI (Zo (VR (ZX (K:=K) rfl (pv 0)) m_text (J.mono (by omega)) ZA)) Zn)))) Zn)))),?_⟩
 rintro cs ⟨ok,hk,hh,rfl⟩
 cases ok<;>first|cases hk|skip
 rename_i n a h1 h ha
 have t:=h1.1
 show Sv K _ _ _ [aa (.d ((Stm.ev n a).D (CQ km kn kr kj ke gt io ko kc)))] _
 k_head
 refine XR ?_
 k_head
 refine Ye ?_
 k_head
 refine YD (i:=0) rfl Z.ic_Every.cl Z.na_Every_name rfl ?_
 k_head
 refine V0 ?_
 k_head
 refine YD (i:=0) rfl Z.ic_Every.cl Z.na_Every_one rfl ?_
 refine⟨a,rfl,NR.av,h,by have:a.ht+1<=_:=hh;omega,?_⟩
 k_head
 refine⟨[.d (.str "all"),.d (.str n),.d (.str a.tx)],.cons rfl (.cons rfl (.cons rfl .nil)),by show 3<=1000;decide,?_⟩
 refine⟨["all",n,a.tx],rfl,NR.av,(Xn (m:=100000) (n:=3) spc1 (λz C=>?_) (ar _) (by decide)).1,?_⟩
 ·simp only[eR,dL,or_false] at C
  rcases C with rfl|rfl|rfl
  ·decide +kernel
  ·omega
  ·exact ha
 exact⟨_,Zs rfl,rfl⟩
variable{Q:TV->Prop}
theorem Ft(T:Txt K mg)(Z:Cs K mg kt kf kg ki kh kq km kn kr kj ke gt io ko kc kl)(m_text:MT P w K mg base (CQ km kn kr kj ke gt io ko kc) k h):MT P w K mg base (CQ km kn kr kj ke gt io ko kc) (k+2) (h+1)
 | .si=>Fh T Z m_text
 | .sl=>Fi T Z m_text
 | .su=>Fj T Z m_text
 | .pl=>Fl T Z m_text
 | .no=>Fm T Z m_text
 | .bo=>Fo T Z m_text
 | .ei=>Fq T Z m_text
 | .so=>Fr T Z m_text
 | .ev=>Fs T Z m_text
theorem no0{Q:VK}{E:XK}{j:Kd}(h:spR K (NS C 0 j t) (NU t) NP vs H Q E):False:=by
 obtain⟨_,cs,_,⟨_,_,m,_⟩,_⟩:=h
 have:=GO t
 omega
theorem Mj(T:Txt K mg)(Z:Cs K mg kt kf kg ki kh kq km kn kr kj ke gt io ko kc kl):∀ h:Nat,MT P w K mg base (CQ km kn kr kj ke gt io ko kc) (2*h) h
 | 0=>λj=>by
  have m:∀ {f:ah} {a:cS},FnOk P w K mg base (CXE P w) (2*0) f a ["self"] (XG K (CQ km kn kr kj ke gt io ko kc) 0 j):=⟨(by rintro vs H Q E ⟨t,h⟩;exact (no0 h).elim),(by rintro A outer s H args us vs Q E _ _ _ _ ⟨t,h⟩;exact (no0 h).elim)⟩
  cases j with
  | si=>obtain⟨f,a,M,F,B⟩:=Z.x_SignIs_text;exact⟨Z.ic_SignIs.cl,f,a,M,m,B⟩
  | sl=>obtain⟨f,a,M,F,B⟩:=Z.x_SignsLike_text;exact⟨Z.ic_SignsLike.cl,f,a,M,m,B⟩
  | su=>obtain⟨f,a,M,F,B⟩:=Z.x_Sums_text;exact⟨Z.ic_Sums.cl,f,a,M,m,B⟩
  | pl=>obtain⟨f,a,M,F,B⟩:=Z.x_PlaceIs_text;exact⟨Z.ic_PlaceIs.cl,f,a,M,m,B⟩
  | no=>obtain⟨f,a,M,F,B⟩:=Z.x_No_text;exact⟨Z.ic_No.cl,f,a,M,m,B⟩
  | bo=>obtain⟨f,a,M,F,B⟩:=Z.x_Both_text;exact⟨Z.ic_Both.cl,f,a,M,m,B⟩
  | ei=>obtain⟨f,a,M,F,B⟩:=Z.x_Either_text;exact⟨Z.ic_Either.cl,f,a,M,m,B⟩
  | so=>obtain⟨f,a,M,F,B⟩:=Z.x_Some_text;exact⟨Z.ic_Some.cl,f,a,M,m,B⟩
  | ev=>obtain⟨f,a,M,F,B⟩:=Z.x_Every_text;exact⟨Z.ic_Every.cl,f,a,M,m,B⟩
 | h+1=>Ft T Z (Mj T Z h)
def Ml(cs:List AV):Prop:=∃ (ns:List Int) (k:Int),cs=[.d (dI ns),.d (.int k)]/\0<=k
def Mm(c:AV):Prop:=∃ r:Int,c=.d (.int r)
variable{k:Int}
theorem Mn(W:0<=k)(h:k<ns.length):atI (ns.map dt) k=aa (.int (ns.getD k.toNat 0)):=by
 have e:k.toNat<ns.length:=by omega
 exact VC W (by rw[c_,aR e,bc,aR e];rfl)
theorem Fu(T:Txt K mg):Cal P w K mg base (CXE P w) 1 "_law_cell" ["_law_script", "_law_k"] [] (spR K Ml (λ_=>Mm) NP):=by
 refine Ux T.x_law_cell GE ((by rintro cs ⟨c,k,e,_⟩;rw[e];rfl)) (λf X A I s H E J=>?_) [] (by simp)
 refine⟨_,(Zk (Yr (Zr WC (pv 1) (ZQ (Yt (K:=K) rfl) rfl T.n_len aV (Za (pv 0) Zc)) (nomark _))
    (Zl (Zx (Yg (ZI (K:=K) rfl J.units) (pv 0) (pv 1) (λ_ _=>rfl))))
    Z6)
   (Zl (Zx Ze))),?_⟩
 rintro cs ⟨ns,k,rfl,h0⟩
 show Sv K _ _ _ [aa (.d (dI ns)),aa (.d (.int k))] _
 w_on
 refine XB rfl ?_
 rw[aC]
 w_on
 refine ite2 (λh=>?_) λh=>?_
 ·have N:=of_decide_eq_true h
  w_on
  refine YC rfl (Mn h0 N) (ZT.flat rfl) ?_
  exact⟨_,Zs rfl,_,rfl⟩
 ·w_on
  exact⟨_,Zs rfl,_,rfl⟩
theorem Mo{X:Exc->Prop}(A:NR a)(ha:a.data=dI ns)(h:0<=k)(q:∀ r:Int,Q (.av (.d (.int r)))):ClR Ml (λ_=>Mm) NP [] Q X [a,.av (.d (.int k))] :=
 ⟨[.d (dI ns),.d (.int k)],.cons (.d A ha) (.cons (.d NR.av rfl) .nil),⟨ns,k,rfl,h⟩,(by rintro c ⟨r,e⟩;exact e▸⟨_,Got.own rfl,q r⟩),λ_ z=>z.elim⟩
def PreA(θ:au×au)(cs:List AV):Prop:=Wd θ.1/\Pc θ.2/\cs=[.d (.str θ.1),.d (.str θ.2)]
def Mp(θ:au×au)(_:List AV)(c:AV):Prop:=c=.d (.bool (alls θ.2 θ.1 && decide (1<=θ.1.length)))
theorem Mq:z = "" ↔ ¬ 1<=z.length:=by
 constructor
 ·intro e;rw[e];decide +kernel
 ·intro h
  have W:z.cps.size=0:=by have:¬ 1<=z.cps.size:=h;omega
  exact QT (by rw[Array.eq_empty_of_size_eq_zero W];rfl)
theorem Mr(T:Txt K mg):Cal P w K mg base (CXE P w) 1 "_law_all_in" ["_law_word", "_law_signs_here"] [] (spF K PreA Mp):=by
 refine XD T.x_law_all_in NL ((by rintro O cs ⟨_,_,e⟩;rw[e];rfl)) (λO f X A I s H E J=>?_) [] (by simp)
 refine⟨_,(Zk (Ue cO rfl (RZ (pv 0)) (YQ (i:=2) NL.nd rfl (aK rfl))
    (Zl (Yr (Zr (K2 (K:=K) rfl J.units) (pv 2) (pv 1) (by with_unfolding_all rfl))
     (Zl (Zx Wy))
     Z6)))
   (Zl (Zx (ZZ (RE (K:=K) rfl J.units) (pv 0) Zm (nomark _))))),?_⟩
 obtain⟨z,y⟩:=O
 rintro cs ⟨hw,hy,rfl⟩
 replace hw:Wd z:=hw
 replace hy:Pc y:=hy
 have L:=hw.2
 show Sv K _ _ _ [aa (.d (.str z)),aa (.d (.str y)),none] _
 w_on
 refine Hk ?_
 w_on
 refine⟨z,rfl,⟨_,rfl⟩,hw.1.all,λi b=>∃ o,b=[aa (.d (.str z)),aa (.d (.str y)),o]/\∀ c∈z.cps.toList.take i,c∈y.cps.toList,⟨none,rfl,λc Y=>by simp at Y⟩,?_,?_⟩
 ·rintro i b hi ⟨o,rfl,hall⟩
  have l:i<z.cps.size:=hi
  have a:z.cps.getD i 0=z.cps.toList[i]'(by rw[a_];exact l):=by
   rw[eg,cB l]
   simp
  w_on
  refine Hm (y:=t1 (z.cps.getD i 0)) (z:=y) rfl rfl ?_
  rw[SE]
  refine⟨_,rfl,?_⟩
  refine ite2 (λh=>?_) λh=>?_
  ·have h:¬ z.cps.getD i 0∈y.cps.toList:=by simpa using h
   w_on
   refine⟨_,Zs rfl,?_⟩
   show _=AV.d (.bool (alls y z && decide (1<=z.length)))
   have:alls y z=false:=by
    unfold alls
    rw[<- dm,gp]
    intro q
    exact h (of_decide_eq_true (q _ (by rw[a];exact gm _)))
   rw[this,bI]
  ·have h:z.cps.getD i 0∈y.cps.toList:=by simpa using h
   w_on
   refine⟨_,rfl,λc Y=>?_⟩
   rw[List.take_add_one,aR (by rw[a_];exact l),mem_append] at Y
   rcases Y with Y|Y
   ·exact hall c Y
   ·rw[mem_singleton.mp (show c∈[z.cps.toList[i]'(by rw[a_];exact l)] from Y),<- a];exact h
 ·rintro b ⟨o,rfl,hall⟩
  rw[List.take_of_length_le (by rw[a_];exact ar _)] at hall
  have:alls y z=true:=gp.mpr λc Y=>decide_eq_true (hall c Y)
  w_on
  refine QX (y:=z) (z := "") NR.av NR.av rfl rfl hw.1 QW.1 ?_
  refine⟨_,Zs rfl,?_⟩
  show _=AV.d (.bool (alls y z && decide (1<=z.length)))
  rw[this,br]
  by_cases h:1<=z.length
  ·rw[decide_eq_true h,decide_eq_false λe=>(Mq.mp e) h];rfl
  ·rw[decide_eq_false h,decide_eq_true (Mq.mpr h)];rfl
theorem Ms{X:Exc->Prop}{b:TV}(A:NR a)(w:NR b)(ha:a.data=.str z)(hb:b.data=.str y)(C:Wd z)(B:Pc y)(q:Q (.av (.d (.bool (alls y z && decide (1<=z.length)))))):∃ O,ClR (PreA O) (Mp O) NP [] Q X [a,b] :=
 ⟨(z,y),[.d (.str z),.d (.str y)],.cons (.d A ha) (.cons (.d w hb) .nil),⟨C,B,rfl⟩,λc Y=>by
  have Y:c=.d (.bool (alls y z && decide (1<=z.length))):=Y
  subst Y
  exact⟨_,Got.own rfl,q⟩,λ_ z=>z.elim⟩
theorem Fv:∀ z∈NON,Pc z:=by unfold NON Pc;decide +kernel
theorem Mt(T:Txt K mg):Cal P w K mg base (CXE P w) 2 "_law_name" ["_law_word"] [] (spP K ZG):=by
 have c_law_all_in:Cal P w K mg base _ _ _ _ _ _:=Mr T
 refine XD T.x_law_name GG (λθ cs ⟨_,e⟩=>by rw[e];rfl) (λz f X A I s H E J=>?_) [] (by simp)
 refine⟨_,(Zk (Yr (Zr (Xy (K:=K) rfl J.units) (pv 0) (Vv (Za Zm (Za Zm (Za Zm (Za Zm (Za Zm (Za Zm (Za Zm Zc)))))))) (by with_unfolding_all rfl))
    (Zl (Zx Wy))
    Z6)
   (Zl (Zx (Y9 (ZZ WC (ZQ (Yt (K:=K) rfl) rfl T.n_len aV (Za (pv 0) Zc)) Ze (nomark _)) (Y3 (ZR (c_law_all_in.mono (by omega)) J rfl ZA (Za (pv 0) (Za Zm Zc)))))))),?_⟩
 rintro cs ⟨hw,rfl⟩
 have L:=hw.2
 show Sv K _ _ _ [aa (.d (.str z))] _
 w_on
 refine WH ?_
 w_on
 refine⟨[.d (.str "some"),.d (.str "all"),.d (.str "not"),.d (.str "and"),.d (.str "or"),.d (.str "is"),.d (.str "like")],.cons rfl (.cons rfl (.cons rfl (.cons rfl (.cons rfl (.cons rfl (.cons rfl .nil)))))),by show 7<=1000;decide,?_⟩
 refine V1 (ns:=NON) NR.av NR.av rfl (.inr rfl) hw.1 Fv ⟨_,rfl,ite2 (λh=>?_) λh=>?_⟩
 ·w_on
  exact⟨_,Zs rfl,by show _=AV.d (.bool (ZG z));unfold ZG;rw[h,bV,bI,cx,cx]⟩
 w_on
 refine X3 rfl (by omega) ?_
 w_on
 by_cases B:z.length<=6
 ·rw[decide_eq_true (show ((z.length:Nat):Int)<7 by omega)]
  w_on
  refine Yi ?_
  w_on
  refine Ms NR.av NR.av rfl rfl hw (Yc (by decide +kernel)) ?_
  exact⟨_,Zs rfl,by show _=AV.d (.bool (ZG z));unfold ZG;rw[decide_eq_true B,(dm _).mp h,et,br,br,Bool.and_comm]⟩
 ·rw[decide_eq_false (show ¬ ((z.length:Nat):Int)<7 by omega)]
  w_on
  exact⟨_,Zs rfl,by show _=AV.d (.bool (ZG z));unfold ZG;rw[decide_eq_false B,bI,cx]⟩
theorem Fw(T:Txt K mg):Cal P w K mg base (CXE P w) 2 "_law_number" ["_law_word"] [] (spP K (ZM 9)):=by
 have c_law_all_in:Cal P w K mg base _ _ _ _ _ _:=Mr T
 refine XD T.x_law_number GH (λθ cs ⟨_,e⟩=>by rw[e];rfl) (λz f X A I s H E J=>?_) [] (by simp)
 refine⟨_,(Zk (Yr (PW.pt (V9 (Ua (Y1 (ZR (c_law_all_in.mono (by omega)) J rfl ZA (Za (pv 0) (Za Zm Zc))))) (Te (Zr Xk (ZQ (Yt (K:=K) rfl) rfl T.n_len aV (Za (pv 0) Zc)) Ze (nomark _)))))
    (Zl (Zx Wy))
    Z6)
   (Zl (Zx (Ub (ZZ (ZC (K:=K) rfl J.units) (pv 0) Zm (nomark _)) (Y3 (ZZ (RE (K:=K) rfl J.units) (Yg (ZI (K:=K) rfl J.units) (pv 0) Ze (λ_ _=>rfl)) Zm (nomark _))))))),?_⟩
 rintro cs ⟨hw,rfl⟩
 have L:=hw.2
 have k:Pc "0" := by unfold Pc;decide +kernel
 show Sv K _ _ _ [aa (.d (.str z))] _
 w_on
 refine Yi ?_
 w_on
 refine Ms NR.av NR.av rfl rfl hw (Yc (by decide +kernel)) ?_
 refine⟨_,rfl,?_⟩
 have m:∀ b:Bool,(alls FIG z && decide (1<=z.length))=b->(alls FIG z && decide (1<=z.length))=b:=λ_ h=>h
 cases hA:(alls FIG z && decide (1<=z.length)) with
 | false =>
  refine ite2 (λ_=>?_) λh=>absurd rfl h
  w_on
  refine⟨_,Zs rfl,?_⟩
  show _=AV.d (.bool (ZM 9 z))
  have:ZM 9 z=false:=by
   rw[<- dm]
   intro h
   obtain⟨U,R,S⟩:=Q1 h
   rw[decide_eq_true U,jW] at hA
   have:alls FIG z=true:=by
    unfold ZM at h
    simp only[aJ] at h
    have F:=h.2.2
    split at F
    ·rw[of_decide_eq_true F];decide +kernel
    ·exact F
   rw[this] at hA
   cases hA
  rw[this]
 | true =>
  rw[aJ] at hA
  obtain⟨l,U⟩:=hA
  have U:=of_decide_eq_true U
  refine ite2 (λh=>by simp at h) λ_=>?_
  w_on
  refine X3 rfl (by omega) ?_
  w_on
  refine ite2 (λh=>?_) λh=>?_
  ·have h:¬ z.length<=9:=by have:=of_decide_eq_true h;omega
   w_on
   exact⟨_,Zs rfl,by show _=AV.d (.bool (ZM 9 z));unfold ZM;rw[decide_eq_false h,bI,cx]⟩
  have g:z.length<=9:=by
   rcases cT 9 z.length with e|e
   ·exact absurd (decide_eq_true (by omega)) h
   ·exact e
  obtain⟨d,r,C⟩:∃ d r,z.cps.toList=d::r:=by
   cases e:z.cps.toList with
   | nil=>exact absurd e (N8 U)
   | cons d r=>exact⟨d,r,rfl⟩
  have hd:d<128:=hw.1 d (by rw[C];exact .head _)
  have j:Pc (t1 d):=λc Y=>by rw[mem_singleton.mp (show c∈[d] from Y)];exact hd
  have Z:(t1 d=("0" : au))↔z.cps.toList.head?=aa 48:=by
   rw[C]
   constructor
   ·intro e
    have M:[d]=[48]:=congrArg (λx:au=>x.cps.toList) e
    rw[aF M |>.1]
    rfl
   ·intro e
    have:d=48:=by simpa using e
    subst this
    decide +kernel
  w_on
  refine ZU (y:=z) (z := "0") NR.av NR.av rfl rfl hw.1 k ?_
  have hN:ZM 9 z=(decide (z = "0") || !decide (t1 d=("0" : au))):=by
   unfold ZM
   rw[decide_eq_true U,decide_eq_true g,br,br]
   by_cases h:z.cps.toList.head?=aa 48
   ·rw[if_pos h,decide_eq_true (Z.mpr h),bV,jV]
   ·rw[if_neg h,decide_eq_false (λq=>h (Z.mp q)),et,im,l]
  by_cases a:z = "0"
  ·rw[decide_eq_true a]
   w_on
   refine⟨_,Zs rfl,?_⟩
   show _=AV.d (.bool (ZM 9 z))
   rw[hN,decide_eq_true a,Bool.true_or]
  ·rw[decide_eq_false a]
   w_on
   refine Se (c:=d) rfl (by omega) (VC (by decide) (by rw[C];rfl)) ?_
   w_on
   refine QX (y:=t1 d) (z := "0") NR.av NR.av rfl rfl j k ?_
   refine⟨_,Zs rfl,?_⟩
   show _=AV.d (.bool (ZM 9 z))
   rw[hN,decide_eq_false a,Bool.false_or]
theorem Mv(T:Txt K mg):Cal P w K mg base (CXE P w) 1 "_law_row" ["_law_word"] [] (spP K (ZE CAP)):=by
 refine XD T.x_law_row GI (λθ cs ⟨_,e⟩=>by rw[e];rfl) (λz f X A I s H E J=>?_) [] (by simp)
 refine⟨_,(Zl (Zx (Y9 (ZZ (ZC (K:=K) rfl J.units) (ZQ (Yt (K:=K) rfl) rfl T.n_len aV (Za (pv 0) Zc)) Ze (nomark _)) (Y3 (ZZ (Xy (K:=K) rfl J.units) (pv 0) Zm (by with_unfolding_all rfl)))))),?_⟩
 rintro cs ⟨hw,rfl⟩
 have L:=hw.2
 show Sv K _ _ _ [aa (.d (.str z))] _
 w_on
 refine X3 rfl (by omega) ?_
 w_on
 by_cases h:z.length=1
 ·rw[decide_eq_true (show ((z.length:Nat):Int)=1 by omega)]
  w_on
  refine VQ (z:=CAP) rfl rfl ?_
  exact⟨_,Zs rfl,by show _=AV.d (.bool (ZE CAP z));unfold ZE;rw[decide_eq_true h,br]⟩
 ·rw[decide_eq_false (show ¬ ((z.length:Nat):Int)=1 by omega)]
  w_on
  exact⟨_,Zs rfl,by show _=AV.d (.bool (ZE CAP z));unfold ZE;rw[decide_eq_false h,bI]⟩
theorem Wt{v:Bool}{a:Bool->Prop}(h:Tv K E X c ρ λb=>b=v)(q:a v):Tv K E X c ρ a:=λI Z ts as H W s x k=>h I Z ts as H W s x λb e=>k b (e▸q)
inductive It
 | wh (d:Nat)|wo (k:Nat)|le (m:Nat)|ri (m:Nat)
noncomputable def It.tg:It->au
 | .wh _ => "whole"
 | .wo _ => "word"
 | .le _ => "left"
 | .ri _ => "right"
noncomputable def It.nu:It->Nat
 | .wh d=>d
 | .wo k=>k
 | .le m=>m
 | .ri m=>m
def It.D(i:It):PyData:=.tuple [.str i.tg,.int i.nu]
def dSt(rs:List It):PyData:=.list ((rs.map It.D).reverse)
def oL(rs:List It):AV:=.own (((rs.map It.D).reverse).map AV.d)
noncomputable def oSt:Option (List It)->AV
 | none=>.d .none
 | some rs=>oL rs
noncomputable def optD:Option (List It)->ak
 | none=>.none
 | some rs=>dSt rs
theorem WT(rs:List It):(oL rs).data=dSt rs:=by
 show (AV.own _).data=_
 rw[AV.data,W7,ka];rfl
theorem SN:∀ o,(oSt o).data=optD o
 | none=>rfl
 | some rs=>WT rs
theorem Fx(l:List It):noLsts (l.map It.D)=true:=by
 induction l with
 | nil=>rfl
 | cons i l B=>rw[bp,noLsts,B];rfl
theorem Mw(rs:List It):noLsts ((rs.map It.D).reverse)=true:=by rw[<- jv];exact Fx _
theorem Fy(rs:List It):(oL rs).clean=true:=by
 unfold oL
 rw[<- jv,e7]
 exact T1 λ_=>rfl
theorem Fz:∀ o,(oSt o).clean=ac
 | none=>rfl
 | some rs=>Fy rs
def begun(w:au)(d:Nat):Option (List It) :=
 if 8<d then none
 else if w = "not" then aa [.wh (d+1)]
 else if w = "(" then aa [.wh (d+1),.wo 2,.wh (d+1),.wo 3]
 else if w∈(["some", "all"]:List au) then aa [.wo 0,.wh (d+1)]
 else if ZE CAP w=ac then aa [.wo 0,.wo 4]
 else if ZG w=ac then aa [.le 1]
 else none
def yes(b:Bool):Option (List It):=if b=ac then aa [] else none
def sing(k:Nat)(w:au):Option (List It) :=
 if k=4/\w∈(["is", "like"]:List au) then aa (if w = "like" then [.wo 1,.wo 0] else [.wo 5])
 else if k=7/\ZM 9 w=ac then aa []
 else if 5<k then (if ZG w=ac then aa [.ri 1] else none)
 else yes (([ZG w,ZE CAP w,decide (w∈(["and", "or"]:List au)),decide (w = ")"),aw,ZE FIG w]:List Bool).getD k aw)
def insum(L:Bool)(m:Nat)(w:au):Option (List It) :=
 if w = "+" /\ m<3 then aa [.wo 0,if L=ac then .le (m+1) else .ri (m+1)]
 else if L=ac/\w = "=" then aa [.wo (if m=1 then 7 else 6)]
 else if L=ac/\w = "<" then aa [.wo 6]
 else none
variable{ds:List ak}
theorem YL{a:au}{n:Int}(h:Ev K E X te ρ λb=>b=.av (.d (.int n)))(q:Q (.av (.d (.tuple [.str a,.int n])))):Ev K E X (Tl (ZD (tC (.str a)) (ZD te ZV))) ρ Q :=
 WH (Zz (WG (Zz (XA h λb e=>by subst e;exact ZN ⟨_,.cons rfl (.cons rfl .nil),by show 2<=1000;decide,q⟩))))
theorem Xp(h:Ea K E X A ρ λbs=>bs=ds.map λd=>.av (.d d))(L:ds.length<=1000)(q:Q (.av (.own (ds.map AV.d)))):Ev K E X (XZ A) ρ Q :=
 Ye λI Z ts as H W s x k=>h I Z ts as H W s x λbs e=>k bs (by
  subst e
  refine⟨ds.map AV.d,?_,by rw[aC];exact L,q⟩
  clear L q k h
  induction ds with
  | nil=>exact .nil
  | cons d ds B=>exact .cons rfl B)
def PreB(θ:au×Nat)(cs:List AV):Prop:=Wd θ.1/\cs=[.d (.str θ.1),.d (.int θ.2)]
def U7(g:α->Option (List It))(θ:α)(_:List AV)(c:AV):Prop:=c=oSt (g θ)
variable{rs:List It}
theorem WU{o:Option (List It)}(e:o=aa rs)(h:ds=(rs.map It.D).reverse):∃ c,Res (.av (.own (ds.map AV.d))) c/\c=oSt o:=⟨_,OB rfl,by rw[e,h];rfl⟩
theorem FA(T:Txt K mg):Cal P w K mg base (CXE P w) 3 "_law_begun" ["_law_word", "_law_deep"] [] (spF K PreB (U7 λO=>begun O.1 O.2)):=by
 have c_law_row:Cal P w K mg base _ _ _ _ _ _:=Mv T
 have c_law_name:Cal P w K mg base _ _ _ _ _ _:=Mt T
 refine U2 T.x_law_begun GJ ((by rintro O cs ⟨_,e⟩;rw[e];rfl)) (λO f X A I s H E J=>?_) [] (by simp)
 refine⟨_,(ZK (Yz (Zr Xk (pv 1) Ze (nomark _))
    (ZL (Yn (Zx Xj)))
    Yv)
   (ZK (Yz (Zr (ZC (K:=K) rfl J.units) (pv 0) Zm (nomark _))
    (ZL (Yb (ZF (Yx (Yy (Zf Zh (Vf (Zo (Zu (YG (K:=K) rfl) (pv 1) Ze)) Zn))) Zn))))
    Yv)
   (ZK (Yz (Zr (ZC (K:=K) rfl J.units) (pv 0) Zm (nomark _))
    (ZL (Yb (ZF (Yx (Yy (Zf Zh (Zf Ym Zn))) (Yx (Yy (Zf Zh (Vf (Zo (Zu (YG (K:=K) rfl) (pv 1) Ze)) Zn))) (Yx (Yy (Zf Zh (Zf Ym Zn))) (Yx (Yy (Zf Zh (Vf (Zo (Zu (YG (K:=K) rfl) (pv 1) Ze)) Zn))) Zn)))))))
    Yv)
   (ZK (Yz (Zr (Xy (K:=K) rfl J.units) (pv 0) (Vv (Za Zm (Za Zm Zc))) (by with_unfolding_all rfl))
    (ZL (Yb (ZF (Yx (Yy (Zf Zh (Vf (Zo (Zu (YG (K:=K) rfl) (pv 1) Ze)) Zn))) (Yx (Yy (Zf Zh (Zf Ym Zn))) Zn)))))
    Yv)
   (ZK (Yz (Y1 (ZR (c_law_row.mono (by omega)) J rfl ZA (Za (pv 0) Zc)))
    (ZL (Yb (ZF (Yx (Yy (Zf Zh (Zf Ym Zn))) (Yx (Yy (Zf Zh (Zf Ym Zn))) Zn)))))
    Yv)
   (ZK (Yz (Y1 (ZR (c_law_name.mono (by omega)) J rfl ZA (Za (pv 0) Zc)))
    (ZL (Yb (ZF (Yx (Yy (Zf Zh (Zf Ym Zn))) Zn))))
    Yv)
   (ZL (Yn (Zx Xj))))))))),?_⟩
 obtain⟨z,d⟩:=O
 rintro cs ⟨hw,rfl⟩
 replace hw:Wd z:=hw
 have y:((d:Int)+1)=((d+1:Nat):Int):=by omega
 have c:Pc "not" := Ya _ (by decide +kernel)
 have Y:Pc "(" := Ya _ (by decide +kernel)
 have t:Pc "some" := Ya _ (by decide +kernel)
 have r:Pc "all" := Ya _ (by decide +kernel)
 show Sv K _ _ _ [aa (.d (.str z)),aa (.d (.int d))] _
 w_on
 refine ite2 (λh=>?_) λh=>?_
 ·have h:8<d:=by have:=of_decide_eq_true h;omega
  w_on
  exact⟨_,Zs rfl,by show _=oSt (begun z d);rw[begun,if_pos h];rfl⟩
 have W:¬ 8<d:=λe=>h (decide_eq_true (by omega))
 w_on
 refine ZU NR.av NR.av rfl rfl hw.1 c ⟨_,rfl,ite2 (λh=>?_) λh=>?_⟩
 ·have h:=of_decide_eq_true h
  w_on
  refine Xp (ds:=[(It.wh (d+1)).D]) (Zz (YL ?_ (ZN rfl))) (by show 1<=1000;decide) ?_
  ·w_on;exact congrArg (λx:Int=>TV.av (AV.d (.int x))) y
  ·exact WU (by show begun z d=_;rw[begun,if_neg W,if_pos h]) rfl
 have U:¬ z = "not" := λe=>h (decide_eq_true e)
 w_on
 refine ZU NR.av NR.av rfl rfl hw.1 Y ⟨_,rfl,ite2 (λh=>?_) λh=>?_⟩
 ·have h:=of_decide_eq_true h
  w_on
  refine Xp (ds:=[(It.wo 3).D,(It.wh (d+1)).D,(It.wo 2).D,(It.wh (d+1)).D]) (Zz (YL (YY rfl) (Zz (YL ?_ (Zz (YL (YY rfl) (Zz (YL ?_ (ZN rfl))))))))) (by show 4<=1000;decide) ?_
  ·w_on;exact congrArg (λx:Int=>TV.av (AV.d (.int x))) y
  ·w_on;exact congrArg (λx:Int=>TV.av (AV.d (.int x))) y
  ·exact WU (by show begun z d=_;rw[begun,if_neg W,if_neg U,if_pos h]) rfl
 have R:¬ z = "(" := λe=>h (decide_eq_true e)
 w_on
 refine WH ?_
 w_on
 refine⟨[.d (.str "some"),.d (.str "all")],.cons rfl (.cons rfl .nil),by show 2<=1000;decide,?_⟩
 refine V1 (ns:=["some", "all"]) NR.av NR.av rfl (.inr rfl) hw.1 (WS t r) ⟨_,rfl,ite2 (λh=>?_) λh=>?_⟩
 ·have h:=of_decide_eq_true h
  w_on
  refine Xp (ds:=[(It.wh (d+1)).D,(It.wo 0).D]) (Zz (YL ?_ (Zz (YL (YY rfl) (ZN rfl))))) (by show 2<=1000;decide) ?_
  ·w_on;exact congrArg (λx:Int=>TV.av (AV.d (.int x))) y
  ·exact WU (by show begun z d=_;rw[begun,if_neg W,if_neg U,if_neg R,if_pos h]) rfl
 have S:¬ z∈(["some", "all"]:List au):=λe=>h (decide_eq_true e)
 w_on
 refine Yi ?_
 w_on
 refine Wr NR.av rfl hw ⟨_,rfl,ite2 (λh=>?_) λF=>?_⟩
 ·w_on
  refine Xp (ds:=[(It.wo 4).D,(It.wo 0).D]) (Zz (YL (YY rfl) (Zz (YL (YY rfl) (ZN rfl))))) (by show 2<=1000;decide) ?_
  exact WU (by show begun z d=_;rw[begun,if_neg W,if_neg U,if_neg R,if_neg S,if_pos h]) rfl
 w_on
 refine Yi ?_
 w_on
 refine Wr NR.av rfl hw ⟨_,rfl,ite2 (λh=>?_) λh=>?_⟩
 ·w_on
  refine Xp (ds:=[(It.le 1).D]) (Zz (YL (YY rfl) (ZN rfl))) (by show 1<=1000;decide) ?_
  exact WU (by show begun z d=_;rw[begun,if_neg W,if_neg U,if_neg R,if_neg S,if_neg F,if_pos h]) rfl
 ·w_on
  exact⟨_,Zs rfl,by show _=oSt (begun z d);rw[begun,if_neg W,if_neg U,if_neg R,if_neg S,if_neg F,if_neg h];rfl⟩
def PreS(θ:Nat×au)(cs:List AV):Prop:=Wd θ.2/\θ.1<=7/\cs=[.d (.int θ.1),.d (.str θ.2)]
theorem pick2{x y:AV}{b:Bool}{r':R2}(q:Q (.av (if b=ac then y else x))):Op K E X (rOr (Vx K) r') (.av (.own [x,y])) (.av (.d (.int (if b=ac then 1 else 0)))) Q:=by
 cases b with
 | false=>exact Na (j:=0) rfl rfl q
 | true=>exact Na (j:=1) rfl rfl q
theorem FC(T:Txt K mg):Cal P w K mg base (CXE P w) 3 "_law_single" ["_law_kind", "_law_word"] [] (spF K PreS (U7 λO=>sing O.1 O.2)):=by
 have c_law_row:Cal P w K mg base _ _ _ _ _ _:=Mv T
 have c_law_name:Cal P w K mg base _ _ _ _ _ _:=Mt T
 have c_law_number:Cal P w K mg base _ _ _ _ _ _:=Fw T
 refine U2 T.x_law_single NM ((by rintro O cs ⟨_,_,e⟩;rw[e];rfl)) (λO f X A I s H E J=>?_) [] (by simp)
 refine⟨_,(ZK (Yz (PW.pt (YE (Zr (ZC (K:=K) rfl J.units) (pv 0) Ze (nomark _)) (Y2 (Zr (Xy (K:=K) rfl J.units) (pv 1) (Vv (Za Zm (Za Zm Zc))) (by with_unfolding_all rfl)))))
    (ZL (Yb (YH (ZI (K:=K) rfl J.units) (ZF (XH (ZF (Yx (Yy (Zf Zh (Zf Ym Zn))) Zn)) (XH (ZF (Yx (Yy (Zf Zh (Zf Ym Zn))) (Yx (Yy (Zf Zh (Zf Ym Zn))) Zn))) Zn))) (Zo (Xb Vs rfl T.n_int bE (Za (ZZ (ZC (K:=K) rfl J.units) (pv 1) Zm (nomark _)) Zc))) (λ_ _=>rfl))))
    Yv)
   (ZK (Yz (PW.pt (YE (Zr (ZC (K:=K) rfl J.units) (pv 0) Ze (nomark _)) (Y2 (Y1 (ZR (c_law_number.mono (by omega)) J rfl ZA (Za (pv 1) Zc))))))
    (ZL (Yn (Zx (Xu Zc))))
    Yv)
   (ZK (Yz (Zr Xk (pv 0) Ze (nomark _))
    (ZL (Yb (YH (ZI (K:=K) rfl J.units) (ZF (Zf (Zo Xj) (XH (ZF (Yx (Yy (Zf Zh (Zf Ym Zn))) Zn)) Zn))) (Zo (Xb Vs rfl T.n_int bE (Za (ZR (c_law_name.mono (by omega)) J rfl ZA (Za (pv 1) Zc)) Zc))) (λ_ _=>rfl))))
    Yv)
   (ZK (Wp (i:=2) NM.nd rfl (aK rfl) (ZF (XI (Zo (ZR (c_law_name.mono (by omega)) J rfl ZA (Za (pv 1) Zc))) (XI (Zo (ZR (c_law_row.mono (by omega)) J rfl ZA (Za (pv 1) Zc))) (qa_m (Zo (ZZ (Xy (K:=K) rfl J.units) (pv 1) (Vv (Za Zm (Za Zm Zc))) (by with_unfolding_all rfl))) (qa_m (Zo (ZZ (ZC (K:=K) rfl J.units) (pv 1) Zm (nomark _))) (Zf (Zo Wy) Zn)))))))
   (ZK (Yn (XY (XN (K:=K) rfl cH ci cE Vy (pv 2) (Za (Y9 (ZZ (ZC (K:=K) rfl J.units) (ZQ (Yt (K:=K) rfl) rfl T.n_len aV (Za (pv 1) Zc)) Ze (nomark _)) (Y3 (ZZ (Xy (K:=K) rfl J.units) (pv 1) Zm (by with_unfolding_all rfl)))) Zc))))
   (ZL (Yb (YH (ZI (K:=K) rfl J.units) (ZF (Zf (Zo Xj) (XH (ZF Zn) Zn))) (Zo (Xb Vs rfl T.n_int bE (Za (Yg (ZI (K:=K) rfl J.units) (pv 2) (pv 0) (λ_ _=>rfl)) Zc))) (λ_ _=>rfl))))))))),?_⟩
 obtain⟨k,z⟩:=O
 rintro cs ⟨hw,hk,rfl⟩
 replace hw:Wd z:=hw
 replace hk:k<=7:=hk
 have L:=hw.2
 have c:Pc "is" := Ya _ (by decide +kernel)
 have Y:Pc "like" := Ya _ (by decide +kernel)
 have t:Pc "and" := Ya _ (by decide +kernel)
 have r:Pc "or" := Ya _ (by decide +kernel)
 have g:Pc ")" := Ya _ (by decide +kernel)
 show Sv K _ _ _ [aa (.d (.int k)),aa (.d (.str z)),none] _
 k_head
 refine Ys ?_
 refine Wt (v:=decide (k=4/\z∈(["is", "like"]:List au))) ?_ ?_
 ·k_head
  by_cases F:k=4
  ·rw[decide_eq_true (show ((k:Nat):Int)=4 by omega)]
   refine Xc ?_
   k_head
   refine WH ?_
   k_head
   refine⟨[.d (.str "is"),.d (.str "like")],.cons rfl (.cons rfl .nil),by show 2<=1000;decide,?_⟩
   refine V1 (ns:=["is", "like"]) NR.av NR.av rfl (.inr rfl) hw.1 (WS c Y) ⟨_,rfl,?_⟩
   exact decide_eq_decide.mpr ⟨λh=>⟨F,h⟩,λh=>h.2⟩
  ·rw[decide_eq_false (show ¬ ((k:Nat):Int)=4 by omega)]
   refine Y4 ?_
   exact (decide_eq_false λh=>F h.1).symm
 refine ite2 (λh=>?_) λh=>?_
 ·have h:=of_decide_eq_true h
  k_head
  refine Ye (Zz (Xp (ds:=[(It.wo 5).D]) (Zz (YL (YY rfl) (ZN rfl))) (by show 1<=1000;decide) (Zz (Xp (ds:=[(It.wo 0).D,(It.wo 1).D]) (Zz (YL (YY rfl) (Zz (YL (YY rfl) (ZN rfl))))) (by show 2<=1000;decide) (ZN ⟨_,.cons rfl (.cons rfl .nil),by show 2<=1000;decide,?_⟩)))))
  k_head
  refine ZU NR.av NR.av rfl rfl hw.1 Y ?_
  k_head
  refine Vb ?_
  refine pick2 ?_
  refine⟨_,.inl rfl,?_⟩
  show _=oSt (sing k z)
  rw[sing,if_pos h]
  by_cases C:z = "like"
  ·rw[if_pos C,decide_eq_true C];rfl
  ·rw[if_neg C,decide_eq_false C];rfl
 have U:¬ (k=4/\z∈(["is", "like"]:List au)):=λe=>h (decide_eq_true e)
 k_head
 refine Ys ?_
 refine Wt (v:=decide (k=7/\ZM 9 z=ac)) ?_ ?_
 ·k_head
  by_cases F:k=7
  ·rw[decide_eq_true (show ((k:Nat):Int)=7 by omega)]
   refine Xc ?_
   k_head
   refine Yi ?_
   k_head
   refine Wr NR.av rfl hw ⟨_,rfl,?_⟩
   cases ZM 9 z with
   | true=>exact (decide_eq_true ⟨F,rfl⟩).symm
   | false=>exact (decide_eq_false λh=>by cases h.2).symm
  ·rw[decide_eq_false (show ¬ ((k:Nat):Int)=7 by omega)]
   refine Y4 ?_
   exact (decide_eq_false λh=>F h.1).symm
 refine ite2 (λh=>?_) λh=>?_
 ·have h:=of_decide_eq_true h
  k_head
  refine⟨_,.inl rfl,?_⟩
  show _=oSt (sing k z)
  rw[sing,if_neg U,if_pos h]
  rfl
 have R:¬ (k=7/\ZM 9 z=ac):=λe=>h (decide_eq_true e)
 k_head
 refine Ys ?_
 k_head
 refine ite2 (λh=>?_) λh=>?_
 ·have h:5<k:=by have:=of_decide_eq_true h;omega
  k_head
  refine Ye (Zz (Rw (Zz (Xp (ds:=[(It.ri 1).D]) (Zz (YL (YY rfl) (ZN rfl))) (by show 1<=1000;decide) (ZN ⟨_,.cons rfl (.cons rfl .nil),by show 2<=1000;decide,?_⟩)))))
  k_head
  refine Yi ?_
  k_head
  refine Wr NR.av rfl hw ?_
  k_head
  refine Vb ?_
  refine pick2 ?_
  refine⟨_,.inl rfl,?_⟩
  show _=oSt (sing k z)
  rw[sing,if_neg U,if_neg R,if_pos h]
  cases ZG z<;>rfl
 have S:¬ 5<k:=λe=>h (decide_eq_true (by omega))
 k_head
 refine Ye (Zz (Yi (Zz ?_)))
 k_head
 refine Wr NR.av rfl hw ?_
 refine Zz (Yi (Zz ?_))
 k_head
 refine Wr NR.av rfl hw ?_
 k_head
 refine WH ?_
 k_head
 refine⟨[.d (.str "and"),.d (.str "or")],.cons rfl (.cons rfl .nil),by show 2<=1000;decide,?_⟩
 refine V1 (ns:=["and", "or"]) NR.av NR.av rfl (.inr rfl) hw.1 (WS t r) ?_
 k_head
 refine ZU NR.av NR.av rfl rfl hw.1 g ?_
 k_head
 refine⟨[.d (.bool (ZG z)),.d (.bool (ZE CAP z)),.d (.bool (decide (z∈(["and", "or"]:List au)))),.d (.bool (decide (z = ")"))),.d (.bool aw)],.cons rfl (.cons rfl (.cons rfl (.cons rfl (.cons rfl .nil)))),by show 5<=1000;decide,?_⟩
 refine v_s ?_
 walk_at "hd"
 walk_at "ds"
 refine Ny (λN hN=>?_)
 refine g_ap (by with_unfolding_all exact rfl) ?_
 refine XA (Q:=λa=>a=.av (.d (.bool (ZE FIG z)))) ?_ λa e=>?_
 ·k_head
  refine X3 rfl (by omega) ?_
  k_head
  by_cases h:z.length=1
  ·rw[decide_eq_true (show ((z.length:Nat):Int)=1 by omega)]
   refine Xc ?_
   k_head
   refine VQ (z:=FIG) rfl rfl ?_
   unfold ZE;rw[decide_eq_true h,br]
  ·rw[decide_eq_false (show ¬ ((z.length:Nat):Int)=1 by omega)]
   refine Y4 ?_
   unfold ZE;rw[decide_eq_false h,bI]
 subst e
 refine Ut (by show 5<=1000000;decide) ?_
 walk_at "hd"
 k_head
 refine Ye (Zz (Rw (Zz (OC (ZN ⟨_,.cons rfl (.cons rfl .nil),by show 2<=1000;decide,?_⟩)))))
 k_head
 have b:k<6:=by omega
 have u:atI (([ZG z,ZE CAP z,decide (z∈(["and", "or"]:List au)),decide (z = ")"),aw,ZE FIG z]:List Bool).map jT) (k:Int)=aa (.bool (([ZG z,ZE CAP z,decide (z∈(["and", "or"]:List au)),decide (z = ")"),aw,ZE FIG z]:List Bool).getD k aw)):=by
  refine PL ?_
  rw[c_,bc,aR (by exact b)]
  rfl
 refine YC rfl u (ZT.flat rfl) ?_
 k_head
 refine Vb ?_
 refine pick2 ?_
 refine⟨_,.inl rfl,?_⟩
 show _=oSt (sing k z)
 rw[sing,if_neg U,if_neg R,if_neg S]
 cases (([ZG z,ZE CAP z,decide (z∈(["and", "or"]:List au)),decide (z = ")"),aw,ZE FIG z]:List Bool).getD k aw)<;>rfl
def PreI(θ:Bool×Nat×au)(cs:List AV):Prop:=Wd θ.2.2/\cs=[.d (.str (if θ.1=ac then "left" else "right")),.d (.int θ.2.1),.d (.str θ.2.2)]
theorem FD(T:Txt K mg):Cal P w K mg base (CXE P w) 3 "_law_in_sum" ["_law_kind", "_law_many", "_law_word"] [] (spF K PreI (U7 λO=>insum O.1 O.2.1 O.2.2)):=by
 refine U2 T.x_law_in_sum GK ((by rintro O cs ⟨_,e⟩;rw[e];rfl)) (λO f X A I s H E J=>?_) [] (by simp)
 refine⟨_,(ZK (Yz (PW.pt (YE (Zr (ZC (K:=K) rfl J.units) (pv 2) Zm (nomark _)) (Y2 (Zr WC (pv 1) Ze (nomark _)))))
    (ZL (Yb (ZF (Yx (Yy (Xo (Zo (pv 0)) (Vf (Zo (Zu (YG (K:=K) rfl) (pv 1) Ze)) Zn))) (Yx (Yy (Zf Zh (Zf Ym Zn))) Zn)))))
    Yv)
   (ZK (Yz (PW.pt (YE (Zr (ZC (K:=K) rfl J.units) (pv 0) Zm (nomark _)) (Y2 (Zr (ZC (K:=K) rfl J.units) (pv 2) Zm (nomark _)))))
    (ZL (Yb (ZF (Yx (Yy (Zf Zh (Vg (YH (ZI (K:=K) rfl J.units) (ZF (Zf Ym (Zf Ym Zn))) (Zo (Xb Vs rfl T.n_int bE (Za (ZZ (ZC (K:=K) rfl J.units) (pv 1) Ze (nomark _)) Zc))) (λ_ _=>rfl)) Zn))) Zn))))
    Yv)
   (ZK (Yz (PW.pt (YE (Zr (ZC (K:=K) rfl J.units) (pv 0) Zm (nomark _)) (Y2 (Zr (ZC (K:=K) rfl J.units) (pv 2) Zm (nomark _)))))
    (ZL (Yb (ZF (Yx (Yy (Zf Zh (Zf Ym Zn))) Zn))))
    Yv)
   (ZL (Yn (Zx Xj)))))),?_⟩
 obtain⟨L,m,z⟩:=O
 rintro cs ⟨hw,rfl⟩
 replace hw:Wd z:=hw
 have g:((m:Int)+1)=((m+1:Nat):Int):=by omega
 have c:Pc "+" := Ya _ (by decide +kernel)
 have Y:Pc "=" := Ya _ (by decide +kernel)
 have t:Pc "<" := Ya _ (by decide +kernel)
 have pl:Pc "left" := Yc (by decide +kernel)
 have b:Pc (if L=ac then "left" else "right"):=by cases L<;>exact Yc (by decide +kernel)
 have a:((if L=ac then ("left" : au) else "right") = "left")↔L=true:=by cases L<;>decide +kernel
 show Sv K _ _ _ [aa (.d (.str (if L=ac then "left" else "right"))),aa (.d (.int m)),aa (.d (.str z))] _
 k_head
 refine Ys ?_
 refine Wt (v:=decide (z = "+" /\ m<3)) ?_ ?_
 ·k_head
  refine ZU NR.av NR.av rfl rfl hw.1 c ⟨_,rfl,ite2 (λh=>?_) λh=>?_⟩
  ·have h:=of_decide_eq_true h
   k_head
   exact decide_eq_decide.mpr ⟨λq=>⟨h,by omega⟩,λq=>by omega⟩
  ·exact (decide_eq_false λq=>h (decide_eq_true q.1)).symm
 refine ite2 (λh=>?_) λh=>?_
 ·have h:=of_decide_eq_true h
  k_head
  refine Xp (ds:=[(if L=ac then It.le (m+1) else It.ri (m+1)).D,(It.wo 0).D]) (Zz (WH ?_)) (by show 2<=1000;decide) ?_
  ·k_head
   refine⟨_,.cons rfl (.cons rfl .nil),by show 2<=1000;decide,Zz (YL (YY rfl) (ZN ?_))⟩
   cases L
   ·show [TV.av (.d (.tuple [.str "right",.int ((m:Int)+1)])),_]=_
    rw[g];rfl
   ·show [TV.av (.d (.tuple [.str "left",.int ((m:Int)+1)])),_]=_
    rw[g];rfl
  ·exact WU (by show insum L m z=_;rw[insum,if_pos h]) rfl
 have U:¬ (z = "+" /\ m<3):=λe=>h (decide_eq_true e)
 k_head
 refine Ys ?_
 refine Wt (v:=decide (L=ac/\z = "=")) ?_ ?_
 ·k_head
  refine ZU NR.av NR.av rfl rfl b pl ⟨_,rfl,ite2 (λh=>?_) λh=>?_⟩
  ·have h:=a.mp (of_decide_eq_true h)
   k_head
   refine ZU NR.av NR.av rfl rfl hw.1 Y ⟨_,rfl,?_⟩
   exact decide_eq_decide.mpr ⟨λq=>⟨h,q⟩,λq=>q.2⟩
  ·exact (decide_eq_false λq=>h (decide_eq_true (a.mpr q.1))).symm
 refine ite2 (λh=>?_) λh=>?_
 ·have h:=of_decide_eq_true h
  k_head
  refine Xp (ds:=[(It.wo (if m=1 then 7 else 6)).D]) (Zz (WH ?_)) (by show 1<=1000;decide) ?_
  ·k_head
   refine Ye ?_
   k_head
   refine⟨[.d (.int 6),.d (.int 7)],.cons rfl (.cons rfl .nil),by show 2<=1000;decide,?_⟩
   k_head
   refine Vb ?_
   refine pick2 ?_
   k_head
   refine⟨_,.cons rfl (.cons rfl .nil),by show 2<=1000;decide,ZN ?_⟩
   by_cases i:m=1
   ·rw[decide_eq_true (show (m:Int)=1 by omega),if_pos i];rfl
   ·rw[decide_eq_false (show ¬ (m:Int)=1 by omega),if_neg i];rfl
  ·exact WU (by show insum L m z=_;rw[insum,if_neg U,if_pos h]) rfl
 have R:¬ (L=ac/\z = "="):=λe=>h (decide_eq_true e)
 k_head
 refine Ys ?_
 refine Wt (v:=decide (L=ac/\z = "<")) ?_ ?_
 ·k_head
  refine ZU NR.av NR.av rfl rfl b pl ⟨_,rfl,ite2 (λh=>?_) λh=>?_⟩
  ·have h:=a.mp (of_decide_eq_true h)
   k_head
   refine ZU NR.av NR.av rfl rfl hw.1 t ⟨_,rfl,?_⟩
   exact decide_eq_decide.mpr ⟨λq=>⟨h,q⟩,λq=>q.2⟩
  ·exact (decide_eq_false λq=>h (decide_eq_true (a.mpr q.1))).symm
 refine ite2 (λh=>?_) λh=>?_
 ·have h:=of_decide_eq_true h
  k_head
  refine Xp (ds:=[(It.wo 6).D]) (Zz (YL (YY rfl) (ZN rfl))) (by show 1<=1000;decide) ?_
  exact WU (by show insum L m z=_;rw[insum,if_neg U,if_neg R,if_pos h]) rfl
 have S:¬ (L=ac/\z = "<"):=λe=>h (decide_eq_true e)
 k_head
 exact⟨_,Zs rfl,by show _=oSt (insum L m z);rw[insum,if_neg U,if_neg R,if_neg S];rfl⟩
theorem SO{g:TG}{DV:VEnds}(h:Ev K E X te ρ λa=>∃ x,a=.av (.d x)/\Gv K g x ρ DV.nx):Sv K E X (WZ te g) ρ DV:=λI Z ts as H D st s x f=>h I Z ts as H _ s x <|by
 rintro a ⟨y,ea,hg⟩ v H1 s1
 subst ea
 exact hg I Z ts as H1 v D.nx s1 λB p A H' l=>f.nx B p A H' l
def ItOk:It->Prop
 | .wh d=>1<=d
 | .wo k=>k<=7
 | .le m=>1<=m/\m<=3
 | .ri m=>1<=m/\m<=3
def YM(rs:List It):Prop:=∀ i∈rs,ItOk i
noncomputable def more:It->au->Option (List It)
 | .wh d,w=>begun w d
 | .wo k,w=>sing k w
 | .le m,w=>insum ac m w
 | .ri m,w=>insum aw m w
noncomputable def It.isRi:It->Bool
 | .ri _=>ac
 | _=>aw
noncomputable def nxt:List It->au->Option (List It)
 | [],_=>none
 | it::r,w=>match more it w with
  | some m=>aa (m++r)
  | none=>if it.isRi=ac then nxt r w else none
noncomputable def ended:List It->Bool
 | []=>ac
 | [.ri _]=>ac
 | _=>aw
variable{it:It}
theorem Mx{w:au}{m:List It}(h:more it w=aa m)(ok:ItOk it):YM m/\m.length<=4:=by
 have o:∀ {x:It},ItOk x->YM [x]:=λW i t=>by rw[mem_singleton.mp t];exact W
 have E:∀ {x y:It},ItOk x->ItOk y->YM [x,y]:=λW B i t=>by
  rcases eR.mp t with e|e
  ·rw[e];exact W
  ·exact o B i e
 have C:∀ {x y u v:It},ItOk x->ItOk y->ItOk u->ItOk v->YM [x,y,u,v]:=λW B j S i t=>by
  rcases eR.mp t with e|e
  ·rw[e];exact W
  ·rcases eR.mp e with e|e
   ·rw[e];exact B
   ·exact E j S i e
 have n:YM []:=λi t=>nomatch t
 cases it with
 | wh d =>
  have h:begun w d=aa m:=h
  unfold begun at h
  split at h
  ·cases h
  split at h
  ·cases h;exact⟨o (d7 1 d),by simp⟩
  split at h
  ·cases h;exact⟨C (d7 1 d) (by show 2<=7;decide) (d7 1 d) (by show 3<=7;decide),by simp⟩
  split at h
  ·cases h;exact⟨E (by show 0<=7;decide) (d7 1 d),by simp⟩
  split at h
  ·cases h;exact⟨E (by show 0<=7;decide) (by show 4<=7;decide),by simp⟩
  split at h
  ·cases h;exact⟨o ⟨by decide,by decide⟩,by simp⟩
  ·cases h
 | wo k =>
  have h:sing k w=aa m:=h
  unfold sing at h
  split at h
  ·cases h
   split
   ·exact⟨E (by show 1<=7;decide) (by show 0<=7;decide),by simp⟩
   ·exact⟨o (by show 5<=7;decide),by simp⟩
  split at h
  ·cases h;exact⟨n,by simp⟩
  split at h
  ·split at h
   ·cases h;exact⟨o ⟨by decide,by decide⟩,by simp⟩
   ·cases h
  ·unfold yes at h
   split at h
   ·cases h;exact⟨n,by simp⟩
   ·cases h
 | le k =>
  have ok:1<=k/\k<=3:=ok
  have h:insum ac k w=aa m:=h
  unfold insum at h
  split at h
  ·rename_i q;cases h;exact⟨E (by show 0<=7;decide) ⟨by omega,by omega⟩,by simp⟩
  split at h
  ·cases h;exact⟨o (by show (if k=1 then 7 else 6)<=7;split<;>decide),by simp⟩
  split at h
  ·cases h;exact⟨o (by show 6<=7;decide),by simp⟩
  ·cases h
 | ri k =>
  have ok:1<=k/\k<=3:=ok
  have h:insum aw k w=aa m:=h
  unfold insum at h
  split at h
  ·rename_i q;cases h;exact⟨E (by show 0<=7;decide) ⟨by omega,by omega⟩,by simp⟩
  split at h
  ·rename_i q;cases q.1
  split at h
  ·rename_i q;cases q.1
  ·cases h
theorem Q4{w:au}:∀ {rs rs':List It},nxt rs w=aa rs'->YM rs->YM rs'/\rs'.length<=rs.length+3:=by
 intro rs
 induction rs with
 | nil=>intro rs' h _;cases h
 | cons it r B =>
  intro rs' h ok
  have g:=ok it (.head _)
  have S:YM r:=λi t=>ok i (.tail _ t)
  rw[nxt] at h
  cases hm:more it w with
  | some m =>
   rw[hm] at h
   obtain⟨a,Y⟩:=Mx hm g
   cases h
   refine⟨λi t=>(mem_append.mp t).elim (a i) (S i),?_⟩
   rw[aO,aS]
   omega
  | none =>
   rw[hm] at h
   have h:(if it.isRi=ac then nxt r w else none)=aa rs':=h
   split at h
   ·obtain⟨a,Y⟩:=B h S
    exact⟨a,by rw[aS];omega⟩
   ·cases h
theorem XW:∀ it:It,Pc it.tg
 | .wh _=>(Yc (by decide +kernel):Pc "whole")
 | .wo _=>(Yc (by decide +kernel):Pc "word")
 | .le _=>(Yc (by decide +kernel):Pc "left")
 | .ri _=>(Yc (by decide +kernel):Pc "right")
def PreE(rs:List It)(cs:List AV):Prop:=cs=[.d (dSt rs)]
theorem My(T:Txt K mg):Cal P w K mg base (CXE P w) 1 "_law_ended" ["_law_left"] [] (spF K PreE λrs _ c=>c=.d (.bool (ended rs))):=by
 refine XD T.x_law_ended GL (λO cs e=>by rw[show cs=_ from e];rfl) (λrs f X A I s H E J=>?_) [] (by simp)
 refine⟨_,(Zl (Zx (Ub (ZZ (ZC (K:=K) rfl J.units) (ZQ (Yt (K:=K) rfl) rfl T.n_len aV (Za (pv 0) Zc)) Ze (nomark _)) (Y3 (Y9 (ZZ (ZC (K:=K) rfl J.units) (ZQ (Yt (K:=K) rfl) rfl T.n_len aV (Za (pv 0) Zc)) Ze (nomark _)) (Y3 (ZZ (ZC (K:=K) rfl J.units) (Yg (ZI (K:=K) rfl J.units) (Yg (ZI (K:=K) rfl J.units) (pv 0) Ze (λ_ _=>rfl)) Ze (λ_ _=>rfl)) Zm (nomark _)))))))),?_⟩
 rintro cs rfl
 show Sv K _ _ _ [aa (.d (dSt rs))] _
 k_head
 refine XB (ds:=(rs.map It.D).reverse) rfl ?_
 rw[dq,aC]
 k_head
 cases rs with
 | nil => 
  k_head
  exact⟨_,Zs rfl,rfl⟩
 | cons it r =>
  rw[decide_eq_false (show ¬ (((it::r).length:Nat):Int)=0 by rw[aS];omega)]
  refine Y4 ?_
  k_head
  refine XB (ds:=((it::r).map It.D).reverse) rfl ?_
  rw[dq,aC]
  k_head
  cases r with
  | cons j r =>
   rw[decide_eq_false (show ¬ (((it::j::r).length:Nat):Int)=1 by rw[aS,aS];omega)]
   refine Y4 ?_
   exact⟨_,Zs rfl,by cases it<;>rfl⟩
  | nil =>
   refine Xc ?_
   k_head
   refine YC (ds:=[it.D]) (y:=it.D) rfl rfl ZT.d ?_
   k_head
   refine ZU (y:=it.tg) (z := "right") NR.av NR.av rfl rfl (XW it) (Yc (by decide +kernel)) ?_
   refine⟨_,Zs rfl,congrArg (λb=>AV.d (.bool b)) ?_⟩
   cases it
   ·exact decide_eq_false (show ¬ ("whole" : au) = "right" by decide +kernel)
   ·exact decide_eq_false (show ¬ ("word" : au) = "right" by decide +kernel)
   ·exact decide_eq_false (show ¬ ("left" : au) = "right" by decide +kernel)
   ·exact decide_eq_true rfl
theorem Q5{X:Exc->Prop}(A:NR a)(ha:a.data=dSt rs)(q:Q (.av (.d (.bool (ended rs))))):∃ O,ClR (PreE O) ((λrs _ c=>c=.d (.bool (ended rs))) O) NP [] Q X [a] :=
 ⟨rs,[.d (dSt rs)],.cons (.d A ha) .nil,rfl,λc Y=>by
  have Y:c=.d (.bool (ended rs)):=Y
  subst Y
  exact⟨_,Got.own rfl,q⟩,λ_ z=>z.elim⟩
theorem Mz(l:List ak)(x:ak):WI (l++[x]) none (aa (-1))=l:=by
 unfold WI
 have e:(l++[x]).length=l.length+1:=by simp
 rw[HT.LJ]
 have M:HT.sIx (l++[x]).length (l++[x]).length (aa (-1))=l.length:=by
  show (if (-1:Int)<0 then ((-1:Int)+((l++[x]).length:Int)).toNat else min (-1:Int).toNat (l++[x]).length)=_
  rw[if_pos (by decide),e]
  omega
 rw[M]
 simp
theorem Wu(it:It)(r:List It):((it::r).map It.D).reverse=(r.map It.D).reverse++[it.D]:=by simp
theorem FE(m r:List It):(r.map It.D).reverse++(m.map It.D).reverse=((m++r).map It.D).reverse:=by simp
def PreX(θ:List It×au)(cs:List AV):Prop:=YM θ.1/\θ.1.length<=100000/\Wd θ.2/\cs=[.d (dSt θ.1),.d (.str θ.2)]
theorem Vi{g:α->Option (List It)}{Pre:α->List AV->Prop}{X:Exc->Prop}(O:α)(sh:Shs bs cs)(pre:Pre O (cs++[]))(q:Q (.av (oSt (g O)))):∃ O,ClR (Pre O) (U7 g O) NP [] Q X bs :=
 ⟨O,cs,sh,pre,λc Y=>by
  have Y:c=oSt (g O):=Y
  subst Y
  exact⟨_,Got.own (Fz _),q⟩,λ_ z=>z.elim⟩
theorem MA(T:Txt K mg):Cal P w K mg base (CXE P w) 4 "_law_next" ["_law_left", "_law_word"] [] (spF K PreX (U7 λO=>nxt O.1 O.2)):=by
 have c_law_begun:Cal P w K mg base _ _ _ _ _ _:=FA T
 have c_law_single:Cal P w K mg base _ _ _ _ _ _:=FC T
 have c_law_in_sum:Cal P w K mg base _ _ _ _ _ _:=FD T
 refine XD T.x_law_next Ve ((by rintro O cs ⟨_,_,_,e⟩;rw[e];rfl)) (λO f X A I s H E J=>?_) [] (by simp)
 refine⟨_,(Zk (S4 cO (Zr Xk (ZQ (Yt (K:=K) rfl) rfl T.n_len aV (Za (pv 0) Zc)) Ze (nomark _))
    (Zk (Tf (Yg (ZI (K:=K) rfl J.units) (pv 0) (Wa Wb Ze) (λ_ _=>rfl)) (VD (K:=K) (n:=2) rfl rfl (Xt (YQ (i:=2) Ve.nd rfl (aK rfl)) (Xt (YQ (i:=3) Ve.nd rfl (aK rfl)) Vq))))
    (Zk (X2 (Zr (ZC (K:=K) rfl J.units) (pv 2) Zm (nomark _))
     (Zl (ZB (i:=4) Ve.nd rfl (aK rfl) (ZR (c_law_begun.mono (by omega)) J rfl ZA (Za (pv 1) (Za (pv 3) Zc)))))
     (Zl (X2 (Zr (ZC (K:=K) rfl J.units) (pv 2) Zm (nomark _))
      (Zl (ZB (i:=4) Ve.nd rfl (aK rfl) (ZR (c_law_single.mono (by omega)) J rfl ZA (Za (pv 3) (Za (pv 1) Zc)))))
      (Zl (ZB (i:=4) Ve.nd rfl (aK rfl) (ZR (c_law_in_sum.mono (by omega)) J rfl ZA (Za (pv 2) (Za (pv 3) (Za (pv 1) Zc)))))))))
    (Zk (Yr (Zr Tj (pv 4) Xj (nomark _))
     (Zl (Zx (Zu (YG (K:=K) rfl) (Uh (Us (K:=K) rfl) (pv 0) Ra (W0 (Wa Wb Ze))) (pv 4))))
     Z6)
    (Zk (Yr (Zr (RE (K:=K) rfl J.units) (pv 2) Zm (nomark _))
     (Zl (Zx Xj))
     Z6)
    (Zl (ZB (i:=0) Ve.nd rfl (aK rfl) (Uh (Us (K:=K) rfl) (pv 0) Ra (W0 (Wa Wb Ze))))))))))
   (Zl (Zx Xj))),?_⟩
 obtain⟨a,z⟩:=O
 rintro cs ⟨ok0,hl0,hw,rfl⟩
 replace ok0:YM a:=ok0
 replace hl0:a.length<=100000:=hl0
 replace hw:Wd z:=hw
 show Sv K _ _ _ [aa (.d (dSt a)),aa (.d (.str z)),none,none,none] _
 k_head
 refine Ou (λm o=>∃ (rs:List It) (g S b:Option AV),o=[aa (.d (dSt rs)),aa (.d (.str z)),g,S,b]/\rs.length=m/\nxt a z=nxt rs z/\YM rs/\rs.length<=100000) a.length ⟨a,none,none,none,rfl,rfl,rfl,ok0,hl0⟩ ?_
 rintro m o ⟨rs,g,S,b,rfl,hl,hn,ok,G⟩
 k_head
 refine XB (ds:=(rs.map It.D).reverse) rfl ?_
 rw[dq,aC]
 k_head
 cases rs with
 | nil =>
  refine ite2 (λh=>by simp at h) λ_=>?_
  k_head
  exact⟨_,Zs rfl,by show _=oSt (nxt a z);rw[hn];rfl⟩
 | cons it r =>
  have G:r.length+1<=100000:=G
  refine ite2 (λ_=>?_) λh=>absurd (decide_eq_true (by rw[aS];omega)) h
  have g:=ok it (.head _)
  k_head
  refine SO ?_
  k_head
  refine YC (ds:=((it::r).map It.D).reverse) (y:=it.D) rfl (by rw[Wu];exact Tp _ _) ZT.d ⟨_,rfl,?_⟩
  refine VN ?_
  k_head
  refine Xf (λo=>o=[aa (.d (dSt (it::r))),aa (.d (.str z)),aa (.d (.str it.tg)),aa (.d (.int it.nu)),aa (.d (optD (more it z)))]) ?_ ?_
  case refine_2 =>
   k_head
   refine ZU (y:=it.tg) (z := "whole") NR.av NR.av rfl rfl (XW it) (Yc (by decide +kernel)) ⟨_,rfl,?_⟩
   cases it with
   | wh d =>
    refine ite2 (λ_=>?_) λh=>absurd rfl h
    k_head
    refine Yi ?_
    k_head
    refine Vi (z,d) (.cons (.d NR.av rfl) (.cons (.d NR.av rfl) .nil)) ⟨hw,rfl⟩ ?_
    exact XO (SN _) rfl
   | wo k =>
    refine ite2 (λh=>absurd (of_decide_eq_true h) (show ¬ ("word" : au) = "whole" by decide +kernel)) λ_=>?_
    k_head
    refine Xf _ (λo h=>h) ?_
    k_head
    refine ZU (y := "word") (z := "word") NR.av NR.av rfl rfl (Yc (by decide +kernel)) (Yc (by decide +kernel)) ⟨_,rfl,?_⟩
    refine ite2 (λ_=>?_) λh=>absurd (decide_eq_true rfl) h
    k_head
    refine Yi ?_
    k_head
    refine Vi (k,z) (.cons (.d NR.av rfl) (.cons (.d NR.av rfl) .nil)) ⟨hw,g,rfl⟩ ?_
    exact XO (SN _) rfl
   | le k =>
    refine ite2 (λh=>absurd (of_decide_eq_true h) (show ¬ ("left" : au) = "whole" by decide +kernel)) λ_=>?_
    k_head
    refine Xf _ (λo h=>h) ?_
    k_head
    refine ZU (y := "left") (z := "word") NR.av NR.av rfl rfl (Yc (by decide +kernel)) (Yc (by decide +kernel)) ⟨_,rfl,?_⟩
    refine ite2 (λh=>absurd (of_decide_eq_true h) (by decide +kernel)) λ_=>?_
    k_head
    refine Yi ?_
    k_head
    refine Vi (ac,k,z) (.cons (.d NR.av rfl) (.cons (.d NR.av rfl) (.cons (.d NR.av rfl) .nil))) ⟨hw,rfl⟩ ?_
    exact XO (SN _) rfl
   | ri k =>
    refine ite2 (λh=>absurd (of_decide_eq_true h) (show ¬ ("right" : au) = "whole" by decide +kernel)) λ_=>?_
    k_head
    refine Xf _ (λo h=>h) ?_
    k_head
    refine ZU (y := "right") (z := "word") NR.av NR.av rfl rfl (Yc (by decide +kernel)) (Yc (by decide +kernel)) ⟨_,rfl,?_⟩
    refine ite2 (λh=>absurd (of_decide_eq_true h) (by decide +kernel)) λ_=>?_
    k_head
    refine Yi ?_
    k_head
    refine Vi (aw,k,z) (.cons (.d NR.av rfl) (.cons (.d NR.av rfl) (.cons (.d NR.av rfl) .nil))) ⟨hw,rfl⟩ ?_
    exact XO (SN _) rfl
  rintro o rfl
  cases hm:more it z with
  | some c =>
   have j:=(Mx hm g).2
   k_head
   refine Ys ?_
   k_head
   refine Sa (by rfl) ⟨_,rfl,?_⟩
   refine Xc ?_
   k_head
   refine RH ?_
   k_head
   refine⟨_,rfl,NR.av,Kp.d,?_⟩
   rw[Wu,Mz]
   k_head
   refine Oz (ds:=(r.map It.D).reverse) (es:=(c.map It.D).reverse) (WT r) rfl (Kp.flat (Mw r)) (Kp.flat (Mw c)) (by rw[dq,dq,aC,aC];omega) ?_
   rw[FE]
   exact⟨_,OB rfl,by show _=oSt (nxt a z);rw[hn,nxt,hm];rfl⟩
  | none =>
   k_head
   refine Ys ?_
   k_head
   refine T8 (by rfl) ⟨_,rfl,?_⟩
   refine Y4 ?_
   k_head
   refine Ys ?_
   k_head
   refine QX (y:=it.tg) (z := "right") NR.av NR.av rfl rfl (XW it) (Yc (by decide +kernel)) ⟨_,rfl,?_⟩
   have e:(!decide (it.tg = "right"))=!it.isRi:=by
    cases it
    ·exact congrArg (!·) (decide_eq_false (show ¬ ("whole" : au) = "right" by decide +kernel))
    ·exact congrArg (!·) (decide_eq_false (show ¬ ("word" : au) = "right" by decide +kernel))
    ·exact congrArg (!·) (decide_eq_false (show ¬ ("left" : au) = "right" by decide +kernel))
    ·exact congrArg (!·) (decide_eq_true rfl)
   rw[e]
   cases J:it.isRi with
   | false =>
    refine Xc ?_
    k_head
    exact⟨_,Zs rfl,by show _=oSt (nxt a z);rw[hn,nxt,hm,J];rfl⟩
   | true =>
    refine Y4 ?_
    k_head
    refine RH ?_
    k_head
    refine⟨_,rfl,NR.av,Kp.d,?_⟩
    rw[Wu,Mz]
    refine XO (x:=dSt r) (WT r) ?_
    refine⟨r.length,by rw[<- hl];exact b_ _,r,_,_,_,rfl,rfl,?_,λi t=>ok i (.tail _ t),by omega⟩
    rw[hn,nxt,hm,J]
    rfl
noncomputable def run:List It->List au->Nat->Option Nat
 | rs,[],i=>if ended rs=ac then none else aa i
 | rs,w::ws,i=>match nxt rs w with
  | none=>aa i
  | some rs'=>run rs' ws (i+1)
noncomputable def optN:Option Nat->ak
 | none=>.none
 | some k=>.int k
def PreD(ws:List au)(cs:List AV):Prop:=YI ws/\cs=[.d (.list (ws.map .str))]
theorem FF(T:Txt K mg):Cal P w K mg base (CXE P w) 5 "_law_bad" ["_law_words"] [] (spF K PreD λws _ c=>c=.d (optN (run [.wh 1] ws 0))):=by
 have c_law_next:Cal P w K mg base _ _ _ _ _ _:=MA T
 have c_law_ended:Cal P w K mg base _ _ _ _ _ _:=My T
 refine U2 T.x_law_bad U0 (λθ cs ⟨_,e⟩=>by rw[e];rfl) (λws f X A I s H E J=>?_) [] (by simp)
 refine⟨_,(ZK (Wp (i:=1) U0.nd rfl (aK rfl) (ZF (Yx (Yy (Zf Zh (Zf Ym Zn))) Zn)))
   (ZK (Yn (Ue cO rfl (P9 (K:=K) rfl rfl T.n_enumerate (Za (pv 0) Zc)) (VD (K:=K) (n:=2) rfl rfl (Xt (YQ (i:=2) U0.nd rfl (aK rfl)) (Xt (YQ (i:=3) U0.nd rfl (aK rfl)) Vq)))
    (Zk (ZB (i:=1) U0.nd rfl (aK rfl) (ZR (c_law_next.mono (by omega)) J rfl ZA (Za (pv 1) (Za (pv 3) Zc))))
    (Zl (Yr (Zr Ls (pv 1) Xj (nomark _))
     (Zl (Zx (pv 2)))
     Z6)))))
   (ZK (Yz (Y1 (ZR (c_law_ended.mono (by omega)) J rfl ZA (Za (pv 1) Zc)))
    (ZL (Yn (Zx Xj)))
    Yv)
   (ZL (Yn (Zx (ZQ (Yt (K:=K) rfl) rfl T.n_len aV (Za (pv 0) Zc)))))))),?_⟩
 rintro cs ⟨hw,rfl⟩
 have j:=hw.2
 show Sv K _ _ _ [aa (.d (.list (ws.map .str))),none,none,none] _
 k_head
 refine Xp (ds:=[(It.wh 1).D]) (Zz (YL (YY rfl) (ZN rfl))) (by show 1<=1000;decide) ?_
 refine XO (x:=dSt [.wh 1]) (WT [.wh 1]) ?_
 walk_at "hd"
 k_head
 refine O0 (α:=au) ?_
 k_head
 refine⟨_,ws,aY,rfl,rfl,⟨_,rfl⟩,λi o=>∃ (rs:List It) (g S:Option AV),o=[aa (.d (.list (ws.map .str))),aa (.d (dSt rs)),g,S]/\YM rs/\rs.length<=1+3*i/\run [.wh 1] ws 0=run rs (ws.drop i) i,⟨[.wh 1],none,none,rfl,λi t=>by rw[mem_singleton.mp t];exact ar 1,ar _,rfl⟩,?_,?_⟩
 ·rintro i o t ⟨rs,g,S,rfl,ok,hl,hrun⟩
  rw[eJ t] at hrun
  refine VN ?_
  k_head
  refine Yi ?_
  k_head
  refine Vi (rs,ws[i]) (.cons (.d NR.av rfl) (.cons (.d NR.av rfl) .nil)) ⟨ok,by show rs.length<=100000;omega,hw.1 _ (gm t),rfl⟩ ?_
  cases hn:nxt rs ws[i] with
  | none =>
   refine v_s ?_
   walk_at "hd"
   k_head
   refine Ys ?_
   k_head
   refine is_N (by rfl) ⟨_,rfl,?_⟩
   refine Xc ?_
   k_head
   refine⟨_,Zs rfl,?_⟩
   rw[hrun,run,hn]
   rfl
  | some a =>
   obtain⟨l,k⟩:=Q4 hn ok
   refine XO (x:=dSt a) (WT a) ?_
   walk_at "hd"
   k_head
   refine Ys ?_
   k_head
   refine is_S (by rfl) ⟨_,rfl,?_⟩
   refine Y4 ?_
   k_head
   refine⟨a,_,_,rfl,l,by omega,?_⟩
   rw[hrun,run,hn]
 ·rintro o ⟨rs,g,S,rfl,ok,hl,hrun⟩
  rw[List.drop_length] at hrun
  k_head
  refine Ys ?_
  k_head
  refine Yi ?_
  k_head
  refine Q5 NR.av rfl ⟨_,rfl,ite2 (λh=>?_) λh=>?_⟩
  ·k_head
   refine⟨_,Zs rfl,?_⟩
   rw[hrun,run,if_pos h]
   rfl
  ·k_head
   refine XB (ds:=ws.map .str) rfl ?_
   rw[aC]
   refine⟨_,Zs rfl,?_⟩
   rw[hrun,run,if_neg h]
   rfl
def Wz(z:au):Prop:=Pc z/\z.length<=10
theorem Wz.wd(h:Wz z):Wd z:=⟨h.1,by have:=h.2;omega⟩
instance (z:au):Decidable (Pc z):=by unfold Pc;infer_instance
instance (z:au):Decidable (Wz z):=by unfold Wz;infer_instance
def Vj(c:AV):Prop:=∃ z:au,c=.d (.str z)/\Wz z
theorem X6(A:NR a)(ha:a.data=.list (zs.map .str))(N:0<=k/\k<zs.length)(C:∀ z∈zs,Wz z)(q:∀ z,Wz z->Q (.av (.d (.str z)))):Op K E X (TZ K) a (.av (.d (.int k))) Q:=by
 have e:k.toNat<zs.length:=by omega
 exact YC (ds:=zs.map .str) (y:=.str zs[k.toNat]) ha (VC N.1 (by rw[c_,aR e];rfl)) (ZT.flat rfl) (q _ (C _ (gm e))) A
def MB(cs:List AV):Prop:=∃ r:Int,cs=[.d (.int r)]
def WL1:List Str:=["", "A", "AB", "x", "abcdefg", "007", "12", "1234567890", "9", "+", "=", "<", ">", "(", ")", "and", "or"]
def WL2:List Str:=["is", "like", "not", "some", "all", "Some", "0", "n1", "-1", "=n", "((", "_", "00"]
theorem FG:∀ z∈WL1++WL2,Wz z:=by decide +kernel
theorem FH:∀ {zs:List au} {P:List TV->Prop},P (zs.map λz=>.av (.d (.str z)))->Ea K E X (zs.foldr (λz t=>ZD (tC (.str z)) t) ZV) ρ P:=by
 intro zs
 induction zs with
 | nil=>intro P q;exact ZN q
 | cons z zs B=>intro P q;exact Zz (WG (B q))
theorem Q6(zs:List au)(L:zs.length<=1000)(q:Q (.av (gL zs))):Ev K E X (XZ (zs.foldr (λz t=>ZD (tC (.str z)) t) ZV)) ρ Q:=by
 refine Ye (FH ⟨zs.map λz=>.d (.str z),?_,by rw[aC];exact L,q⟩)
 clear L q
 induction zs with
 | nil=>exact .nil
 | cons z zs B=>exact .cons rfl B
theorem FI(T:Txt K mg):Cal P w K mg base (CXE P w) 1 "_law_wild" ["_law_cell_here"] [] (spR K MB (λ_=>Vj) NP):=by
 refine SD T.x_law_wild QL ((by rintro cs ⟨r,e⟩;rw[e];rfl)) (λf X A I s H E J=>?_) [] (by simp)
 refine⟨_,(ZK (Wp (i:=1) QL.nd rfl (aK rfl) (ZF (Zf Zh (Zf Zh (Zf Zh (Zf Zh (Zf Zh (Zf Zh (Zf Zh (Zf Zh (Zf Zh (Zf Zh (Zf Zh (Zf Zh (Zf Zh (Zf Zh (Zf Zh (Zf Zh (Zf Zh Zn)))))))))))))))))))
   (ZK (Wp (i:=1) QL.nd rfl (aK rfl) (QU (YG (K:=K) rfl) (Zo (pv 1)) (ZF (Zf Zh (Zf Zh (Zf Zh (Zf Zh (Zf Zh (Zf Zh (Zf Zh (Zf Zh (Zf Zh (Zf Zh (Zf Zh (Zf Zh (Zf Zh Zn))))))))))))))))
   (ZL (Yn (Zx (Yg (ZI (K:=K) rfl J.units) (pv 1) (Zu Z8 (pv 0) Ze) (λ_ _=>rfl))))))),?_⟩
 rintro cs ⟨r,rfl⟩
 show Sv K _ _ _ [aa (.d (.int r)),none] _
 k_head
 refine Q6 WL1 (by decide) ?_
 refine v_s ?_
 walk_at "hd"
 k_head
 refine Q6 WL2 (by decide) ?_
 refine Oz (ds:=WL1.map .str) (es:=WL2.map .str) (YW WL1) (YW WL2) (Kp.flat (by decide +kernel)) (Kp.flat (by decide +kernel)) (by decide) ?_
 refine v_s ?_
 walk_at "hd"
 k_head
 have k0:0<=r%30:=ed _ (by decide)
 have k1:r%30<30:=dz _ (by decide)
 refine X6 (zs:=WL1++WL2) NR.bor (by show jS (AV.datas _)=_;rw[W7,ka,<- eS]) ⟨k0,k1⟩ FG λz C=>?_
 exact⟨_,Zs rfl,z,rfl,C⟩
variable{X:Exc->Prop}
theorem FJ{r:Int}(q:∀ z,Wz z->Q (.av (.d (.str z)))):ClR MB (λ_=>Vj) NP [] Q X [.av (.d (.int r))] :=
 ⟨[.d (.int r)],.cons (.d NR.av rfl) .nil,⟨r,rfl⟩,(by rintro c ⟨z,e,h⟩;exact e▸⟨_,Got.own rfl,q z h⟩),λ_ z=>z.elim⟩
def MC(cs:List AV):Prop:=∃ rs:List It,YM rs/\ended rs=aw/\cs=[.d (dSt rs)]
theorem nu_k(ok:ItOk it)(h1:it.tg ≠ "whole"):it.nu<=7:=by
 cases it with
 | wh d=>exact absurd rfl h1
 | wo k=>exact ok
 | le m=>exact aT ok.2 (by decide)
 | ri m=>exact aT ok.2 (by decide)
def WLA:List Str:=["n", "A", "and", ")", "is", "1", "n", "0"]
theorem FL(T:Txt K mg):Cal P w K mg base (CXE P w) 1 "_law_last" ["_law_left"] [] (spR K MC (λ_=>Vj) NP):=by
 refine SD T.x_law_last UZ ((by rintro cs ⟨r,_,_,e⟩;rw[e];rfl)) (λf X A I s H E J=>?_) [] (by simp)
 refine⟨_,(ZK (Yn (Tf (Yg (ZI (K:=K) rfl J.units) (pv 0) (Wa Wb Ze) (λ_ _=>rfl)) (VD (K:=K) (n:=2) rfl rfl (Xt (YQ (i:=1) UZ.nd rfl (aK rfl)) (Xt (YQ (i:=2) UZ.nd rfl (aK rfl)) Vq)))))
   (ZK (GN (Zr (ZC (K:=K) rfl J.units) (pv 1) Zm (nomark _))
    (ZL (Yn (Tf (Yg (ZI (K:=K) rfl J.units) (pv 0) (Wa Wb Ze) (λ_ _=>rfl)) (VD (K:=K) (n:=2) rfl rfl (Xt (YQ (i:=1) UZ.nd rfl (aK rfl)) (Xt (YQ (i:=2) UZ.nd rfl (aK rfl)) Vq))))))
    Yv)
   (ZK (Yz (Zr (ZC (K:=K) rfl J.units) (pv 1) Zm (nomark _))
    (ZL (Yn (Zx Zm)))
    Yv)
   (ZK (Yz (Zr (ZC (K:=K) rfl J.units) (pv 1) Zm (nomark _))
    (ZL (Yn (Zx Zm)))
    Yv)
   (ZL (Yb (YH (ZI (K:=K) rfl J.units) (ZF (Zf Zh (Zf Zh (Zf Zh (Zf Zh (Zf Zh (Zf Zh (Zf Zh (Zf Zh Zn))))))))) (Zo (pv 2)) (λ_ _=>rfl)))))))),?_⟩
 rintro cs ⟨rs,ok,he,rfl⟩
 obtain⟨it,r,rfl⟩:∃ it r,rs=it::r:=by
  cases rs with
  | nil=>cases he
  | cons it r=>exact⟨it,r,rfl⟩
 show Sv K _ _ _ [aa (.d (dSt (it::r))),none,none] _
 k_head
 refine SO ?_
 k_head
 refine YC (ds:=((it::r).map It.D).reverse) (y:=it.D) rfl (by rw[Wu];exact Tp _ _) ZT.d ⟨_,rfl,?_⟩
 refine VN ?_
 k_head
 refine Xf (λo=>∃ a:It,ItOk a/\o=[aa (.d (dSt (it::r))),aa (.d (.str a.tg)),aa (.d (.int a.nu))]) ?_ ?_
 case refine_2 =>
  k_head
  refine ZU (y:=it.tg) (z := "right") NR.av NR.av rfl rfl (XW it) (Yc (by decide +kernel)) ⟨_,rfl,ite2 (λh=>?_) λh=>?_⟩
  ·obtain⟨a,q,rfl⟩:∃ a q,r=a::q:=by
    cases r with
    | cons a q=>exact⟨a,q,rfl⟩
    | nil =>
     have h:=of_decide_eq_true h
     cases it
     ·exact absurd h (show ¬ ("whole" : au) = "right" by decide +kernel)
     ·exact absurd h (show ¬ ("word" : au) = "right" by decide +kernel)
     ·exact absurd h (show ¬ ("left" : au) = "right" by decide +kernel)
     ·cases he
   k_head
   refine SO ?_
   k_head
   refine YC (ds:=((it::a::q).map It.D).reverse) (y:=a.D) rfl ?_ ZT.d ⟨_,rfl,?_⟩
   ·rw[Wu,Wu]
    have L:((q.map It.D).reverse++[a.D]++[it.D]).length=q.length+2:=by simp
    have e:ixN ((q.map It.D).reverse++[a.D]++[it.D]).length (-2)=aa q.length:=by
     unfold ixN
     rw[if_neg (by decide),L,if_pos (by omega)]
     congr 1
     omega
    unfold atI
    rw[e]
    show ((q.map It.D).reverse++[a.D]++[it.D])[q.length]?=_
    rw[ck,cw (by simp)]
    simp
   refine VN ?_
   k_head
   exact⟨a,ok a (.tail _ (.head _)),rfl⟩
  ·k_head
   exact⟨it,ok it (.head _),rfl⟩
 rintro o ⟨a,oj,rfl⟩
 k_head
 refine Ys ?_
 k_head
 refine ZU (y:=a.tg) (z := "whole") NR.av NR.av rfl rfl (XW a) (Yc (by decide +kernel)) ⟨_,rfl,ite2 (λh=>?_) λU=>?_⟩
 ·k_head
  exact⟨_,Zs rfl,_,rfl,by decide +kernel⟩
 k_head
 refine Ys ?_
 k_head
 refine ZU (y:=a.tg) (z := "left") NR.av NR.av rfl rfl (XW a) (Yc (by decide +kernel)) ⟨_,rfl,ite2 (λh=>?_) λh=>?_⟩
 ·k_head
  exact⟨_,Zs rfl,_,rfl,by decide +kernel⟩
 have N:=nu_k oj (λe=>U (decide_eq_true e))
 k_head
 refine Q6 WLA (by decide) ?_
 k_head
 refine X6 (zs:=WLA) NR.av (YW WLA) ⟨by omega,by show (a.nu:Int)<8;omega⟩ (by decide +kernel) λz C=>?_
 exact⟨_,Zs rfl,z,rfl,C⟩
theorem FM(A:NR a)(ha:a.data=dSt rs)(ok:YM rs)(j:ended rs=aw)(q:∀ z,Wz z->Q (.av (.d (.str z)))):ClR MC (λ_=>Vj) NP [] Q X [a] :=
 ⟨[.d (dSt rs)],.cons (.d A ha) .nil,⟨rs,ok,j,rfl⟩,(by rintro c ⟨z,e,h⟩;exact e▸⟨_,Got.own rfl,q z h⟩),λ_ z=>z.elim⟩
def Xq(xs:List α)(lo hi:Option Int):List α:=(xs.drop (HT.sIx xs.length 0 lo)).take (HT.sIx xs.length xs.length hi-HT.sIx xs.length 0 lo)
theorem FN(f:α->ak)(xs:List α)(lo hi:Option Int):WI (xs.map f) lo hi=(Xq xs lo hi).map f:=by
 unfold WI Xq
 rw[aC,List.map_take,List.map_drop]
theorem FO(xs:List α)(lo hi:Option Int):(Xq xs lo hi).length<=xs.length:=by
 unfold Xq
 rw[gl,gD]
 omega
theorem FP(f:α->ak)(xs:List α):(xs.map f).map AV.d=xs.map λx=>.d (f x):=by rw[e7];rfl
theorem MD{X:Exc->Sl->Prop}{tl th:TO}(h:Ev K E X te ρ λa=>a=.av (.d (dI ns))/\To tl ρ K E X λlo=>To th ρ K E X λhi=>Q (.av (oI (Xq ns lo hi)))):Ev K E X (tSl (VJ (Uj K) (Ui K)) te tl th) ρ Q:=by
 refine RH (XA h ?_)
 rintro a ⟨rfl,q⟩
 intro I Z ts as H W s x k
 refine q I Z ts as H W s x λlo b H' l=>k lo (λI Z ts as H W s x k=>b I Z ts as H W s x λhi g H' l=>k hi ⟨ns.map .int,rfl,NR.av,.inl rfl,?_⟩ H' l) H' l
 rw[FN,FP]
 exact g
theorem ME{d:Nat}{v:Int}(h:0<=v):HT.sIx n d (aa v)=min v.toNat n:=by
 show (if v<0 then (v+(n:Int)).toNat else min v.toNat n)=_
 rw[if_neg (by omega)]
def SGA:Str := " !\"#$&'()*+,-./0123456789:;<=>?@ABCDEFGHIJKLMNOPQRSTUVWXYZ[\\]^_`"
def SGB:Str := "abcdefghijklmnopqrstuvwxyz{|}~"
def SG:Str:=SGA++SGB
theorem Q7:SG.length=94/\SGA.length<=100/\SGB.length<=100:=by decide +kernel
theorem FQ:Pc SG:=by decide +kernel
theorem FR(h:0<=k/\k<94):∃ c,atI SG.cps.toList k=aa c/\c<128:=by
 have e:k.toNat<SG.cps.toList.length:=by rw[a_];show k.toNat<SG.length;rw[Q7.1];omega
 exact⟨SG.cps.toList[k.toNat],VC h.1 (aR e),FQ _ (gm e)⟩
theorem FS(T:Txt K mg):Cal P w K mg base (CXE P w) 1 "_law_signs" [] [] (spR K (λcs=>cs=[]) (λ_ c=>c=.d (.str SG)) NP):=by
 refine Ux T.x_law_signs NN (λcs e=>by rw[e];rfl) (λf X A I s H E J=>?_) [] (by simp)
 refine⟨_,(Zk (ZB (i:=0) NN.nd rfl (aK rfl) Zm)
   (Zl (Zx (Zu (YG (K:=K) rfl) (pv 0) Zm)))),?_⟩
 rintro cs rfl
 show Sv K _ _ _ [none] _
 k_head
 refine Nf (y:=SGA) (z:=SGB) rfl rfl (by have:=Q7;omega) ?_
 exact⟨_,Zs rfl,rfl⟩
theorem FU(q:Q (.av (.d (.str SG)))):ClR (λcs=>cs=[]) (λ_ c=>c=.d (.str SG)) NP [] Q X []:=⟨[],.nil,rfl,λc Y=>by
 have Y:c=.d (.str SG):=Y
 subst Y
 exact⟨_,Got.own rfl,q⟩,λ_ z=>z.elim⟩
def Q8(cs:List AV):Prop:=∃ ns:List Int,cs=[.d (dI ns)]/\ns.length<=63
def Q9(c:AV):Prop:=∃ z:au,c=.d (.str z)/\Tz z
theorem FW(T:Txt K mg):Cal P w K mg base (CXE P w) 2 "_law_spelled" ["_law_script"] [] (spR K Q8 (λ_=>Q9) NP):=by
 have c_law_signs:Cal P w K mg base _ _ _ _ _ _:=FS T
 refine Ux T.x_law_spelled WO ((by rintro cs ⟨_,e,_⟩;rw[e];rfl)) (λf X A I s H E J=>?_) [] (by simp)
 refine⟨_,(Zk (ZB (i:=1) WO.nd rfl (aK rfl) (Kt (c_law_signs.mono (by omega)) J rfl ZA))
   (Zk (ZB (i:=2) WO.nd rfl (aK rfl) Zm)
   (Zk (Ue cO rfl (JP (K:=K) rfl (Uh (Us (K:=K) rfl) (pv 0) (W0 Ze) (W0 Ze))) (YQ (i:=3) WO.nd rfl (aK rfl))
    (Zk (ZB (i:=4) WO.nd rfl (aK rfl) Ze)
    (Zl (S4 cO (PW.pt (YE (Zr WC (pv 4) Ze (nomark _)) (Y2 (Zr Xk (Zu Z8 (pv 3) Ze) Ze (nomark _)))))
     (Zk (ZB (i:=2) WO.nd rfl (aK rfl) (Zu (YG (K:=K) rfl) (pv 2) (Yg (ZI (K:=K) rfl J.units) (pv 1) (Zu Pk (Zu Z8 (pv 3) Ze) Ze) (λ_ _=>rfl))))
     (Zk (ZB (i:=3) WO.nd rfl (aK rfl) (Zu XJ (pv 3) Ze))
     (Zl (ZB (i:=4) WO.nd rfl (aK rfl) (Zu (YG (K:=K) rfl) (pv 4) Ze)))))))))
   (Zl (Zx (pv 2)))))),?_⟩
 rintro cs ⟨ns,rfl,hns⟩
 show Sv K _ _ _ [aa (.d (dI ns)),none,none,none,none] _
 k_head
 refine FU ?_
 k_head
 refine JU (α:=Int) ?_
 refine MD (ns:=ns) ?_
 k_head
 refine⟨rfl,?_⟩
 k_head
 have F:=FO ns (aa 1) (aa 63)
 refine⟨Xq ns (aa 1) (aa 63),dt,.inl (NO _),⟨_,rfl⟩,λi o=>∃ (z:au) (g S:Option AV),o=[aa (.d (dI ns)),aa (.d (.str SG)),aa (.d (.str z)),g,S]/\Pc z/\z.length<=30*i,⟨"",none,none,rfl,QW.1,by decide +kernel⟩,?_,?_⟩
 ·rintro i o hi ⟨z,g,S,rfl,hz,hzl⟩
  k_head
  refine Ou (λm o=>∃ (t:Nat) (y:au) (n:Int),o=[aa (.d (dI ns)),aa (.d (.str SG)),aa (.d (.str y)),aa (.d (.int n)),aa (.d (.int t))]/\t+m=30/\Pc y/\y.length<=30*i+t) 30 ⟨0,z,_,rfl,rfl,hz,by omega⟩ ?_
  rintro m o ⟨t,y,n,rfl,ht,hy,hyl⟩
  k_head
  refine ite2 (λh=>?_) λh=>?_
  rotate_left
  ·k_head
   exact⟨y,_,_,rfl,hy,by omega⟩
  have h:t<30:=by have:=of_decide_eq_true h;omega
  k_head
  have k0:0<=n%95:=ed _ (by decide)
  have k1:n%95<95:=dz _ (by decide)
  refine ite2 (λR=>?_) λR=>?_
  rotate_left
  ·k_head
   exact⟨y,_,_,rfl,hy,by omega⟩
  have R:=of_decide_eq_true R
  obtain⟨c,B,l⟩:=FR (k:=n%95-1) ⟨by omega,by omega⟩
  k_head
  refine Se (z:=SG) rfl (by have:=Q7;omega) B ?_
  refine Nf (y:=y) (z:=t1 c) rfl rfl (by show y.length+1<=_;omega) ?_
  k_head
  refine⟨m-1,by omega,t+1,y++t1 c,n / 95,?_,by omega,?_,?_⟩
  ·rw[show ((t:Int)+1)=((t+1:Nat):Int) by omega]
  ·exact hy.app λx W=>by rw[mem_singleton.mp (show x∈[c] from W)];exact l
  ·rw[au.length_append];show y.length+1<=_;omega
 ·rintro o ⟨z,g,S,rfl,hz,hzl⟩
  k_head
  exact⟨_,Zs rfl,z,rfl,hz,by omega⟩
def MF(cs:List AV):Prop:=∃ (rs:List It) (t:Int),YM rs/\cs=[.d (dSt rs),.d (.int t)]
theorem FX(h:0<=k/\k<6):Wz (fG "abcdef" none (aa (1+k))):=by
 have H:∀ n:Fin 6,Wz (fG "abcdef" none (aa (1+((n.1:Nat):Int)))):=by decide +kernel
 obtain⟨n,rfl⟩:=eW h.1
 exact H ⟨n,by omega⟩
theorem FY(h:0<=k/\k<3):∃ c,atI ("ABZ" : au).cps.toList k=aa c/\c<128:=by
 have H:∀ n:Fin 3,(atI ("ABZ" : au).cps.toList ((n.1:Nat):Int)).isSome=ac/\(atI ("ABZ" : au).cps.toList ((n.1:Nat):Int)).getD 0<128:=by decide +kernel
 obtain⟨n,rfl⟩:=eW h.1
 obtain⟨U,R⟩:=H ⟨n,by omega⟩
 obtain⟨c,Y⟩:=Option.isSome_iff_exists.mp U
 rw[Y] at R
 exact⟨c,Y,R⟩
theorem FZ{c:Nat}(h:c<128):Wz (t1 c):=⟨λx W=>by rw[mem_singleton.mp (show x∈[c] from W)];exact h,by show 1<=10;decide⟩
theorem MG{x:Int}(h:Sn x):Wz (nT x):=⟨Pc.num h.1,U1 h⟩
theorem ZW(h:∀ z∈zs,Wz z)(C:Wz z):∀ y∈z::zs,Wz y:=λy B=>by
 rcases eR.mp B with e|e
 ·rw[e];exact C
 ·exact h y e
theorem V3:∀ z∈([]:List au),Wz z:=λz C=>nomatch C
theorem WV{X:Exc->Sl->Prop}(h:Ea K E X A ρ λbs=>bs=zs.map λz=>.av (gS z))(L:zs.length<=1000)(q:Q (.av (gL zs))):Ev K E X (XZ A) ρ Q :=
 Ye λI Z ts as H W s x k=>h I Z ts as H W s x λbs e=>k bs (by
  subst e
  refine⟨zs.map λz=>.d (.str z),?_,by rw[aC];exact L,q⟩
  clear L q k h
  induction zs with
  | nil=>exact .nil
  | cons d ds B=>exact .cons rfl B)
theorem F1(h:it.tg = "left"):∃ m,it=.le m:=by
 cases it with
 | wh d=>exact absurd h (show ¬ ("whole" : au) = "left" by decide +kernel)
 | wo k=>exact absurd h (show ¬ ("word" : au) = "left" by decide +kernel)
 | le m=>exact⟨m,rfl⟩
 | ri m=>exact absurd h (show ¬ ("right" : au) = "left" by decide +kernel)
theorem F2(h:it.tg = "word"):∃ k,it=.wo k:=by
 cases it with
 | wh d=>exact absurd h (show ¬ ("whole" : au) = "word" by decide +kernel)
 | wo k=>exact⟨k,rfl⟩
 | le m=>exact absurd h (show ¬ ("left" : au) = "word" by decide +kernel)
 | ri m=>exact absurd h (show ¬ ("right" : au) = "word" by decide +kernel)
noncomputable def MH:List It->Bool
 | []=>aw
 | jt::_=>decide (jt.tg = "word")
theorem MI(it a:It)(q:List It):atI (((it::a::q).map It.D).reverse) (-2)=aa a.D:=by
 rw[Wu,Wu]
 have L:((q.map It.D).reverse++[a.D]++[it.D]).length=q.length+2:=by simp
 have e:ixN ((q.map It.D).reverse++[a.D]++[it.D]).length (-2)=aa q.length:=by
  unfold ixN
  rw[if_neg (by decide),L,if_pos (by omega)]
  congr 1
  omega
 unfold atI
 rw[e]
 show ((q.map It.D).reverse++[a.D]++[it.D])[q.length]?=_
 rw[ck,cw (by simp)]
 simp
theorem MJ(b G:Bool):Vj (if b=ac then (if G=ac then .d (.str ")") else .d (.str "and")) else .d (.str "+")):=by
 cases b with
 | false=>exact⟨_,rfl,by decide +kernel⟩
 | true=>cases G with
  | false=>exact⟨_,rfl,by decide +kernel⟩
  | true=>exact⟨_,rfl,by decide +kernel⟩
theorem F3(T:Txt K mg):Cal P w K mg base (CXE P w) 1 "_law_menu" ["_law_left", "_law_cell_here"] [] (spR K MF (λ_=>Vj) NP):=by
 refine SD T.x_law_menu WN ((by rintro cs ⟨_,_,_,e⟩;rw[e];rfl)) (λf X A I s H E J=>?_) [] (by simp)
 refine⟨_,(ZK (Yn (ZB (i:=2) WN.nd rfl (aK rfl) (Zu Z8 (Zu TY (Zu (YG (K:=K) rfl) Ze (Zu Z8 (pv 1) Ze)) Ze) Ze)))
   (ZK (Wp (i:=3) WN.nd rfl (aK rfl) (YH (ZI (K:=K) rfl J.units) (ZF (Zf Zh (Zf Zh (Zf Zh (Zf Zh (Vg (Zo (Uh (Hh (K:=K) rfl) Zm Ra (W0 (Zu (YG (K:=K) rfl) Ze (Zu Z8 (pv 2) Ze))))) (Zf Zh Zn))))))) (Zo (Zu Z8 (Zu XJ (pv 2) Ze) Ze)) (λ_ _=>rfl)))
   (ZK (Yn (ZB (i:=4) WN.nd rfl (aK rfl) (Yg (ZI (K:=K) rfl J.units) Zm (Zu Z8 (Zu XJ (pv 2) Ze) Ze) (λ_ _=>rfl))))
   (ZK (Yz (Zr (ZC (K:=K) rfl J.units) (ZQ (Yt (K:=K) rfl) rfl T.n_len aV (Za (pv 0) Zc)) Ze (nomark _))
    (ZL (Yb (YH (ZI (K:=K) rfl J.units) (ZF (Zf Zh (Zf Zh (Zf Zh (Xo (Zo (pv 3)) Zn))))) (Zo (Zu Z8 (Zu XJ (pv 2) Ze) Ze)) (λ_ _=>rfl))))
    Yv)
   (ZK (Yn (Tf (Yg (ZI (K:=K) rfl J.units) (pv 0) (Wa Wb Ze) (λ_ _=>rfl)) (VD (K:=K) (n:=2) rfl rfl (Xt (YQ (i:=5) WN.nd rfl (aK rfl)) (Xt (YQ (i:=6) WN.nd rfl (aK rfl)) Vq)))))
   (ZK (Yz (PW.pt (YE (Zr (ZC (K:=K) rfl J.units) (pv 5) Zm (nomark _)) (Y2 (Zr WC (pv 6) Ze (nomark _)))))
    (ZL (Yb (YH (ZI (K:=K) rfl J.units) (ZF (Zf Zh (Zf Zh (Zf Zh (Zf Zh (Xo (Zo (pv 4)) (Xo (Zo (pv 3)) (Zf Zh (Xo (Zo (pv 4)) (Xo (Zo (pv 3)) (Zf Zh Zn))))))))))) (Zo (Zu Z8 (Zu XJ (pv 2) Ze) Ze)) (λ_ _=>rfl))))
    Yv)
   (ZK (Yz (Zr (ZC (K:=K) rfl J.units) (pv 5) Zm (nomark _))
    (ZL (Yb (YH (ZI (K:=K) rfl J.units) (ZF (Zf Zh (Zf Zh (Zf Zh (Zf Zh Zn))))) (QU Z8 (Zo (Zu XJ (pv 2) Ze)) (YH (ZI (K:=K) rfl J.units) (ZF (Zf Ym (Zf Ym (Zf Ym Zn)))) (Zo (Zu Pk (pv 6) Ze)) (λ_ _=>rfl))) (λ_ _=>rfl))))
    Yv)
   (ZK (Yz (PW.pt (YE (Zr (ZC (K:=K) rfl J.units) (pv 5) Zm (nomark _)) (YE (Zr Xk (ZQ (Yt (K:=K) rfl) rfl T.n_len aV (Za (pv 0) Zc)) Ze (nomark _)) (Y2 (Zr (ZC (K:=K) rfl J.units) (Yg (ZI (K:=K) rfl J.units) (Yg (ZI (K:=K) rfl J.units) (pv 0) (Wa Wb Ze) (λ_ _=>rfl)) Ze (λ_ _=>rfl)) Zm (nomark _))))))
    (ZL (Yb (YH (ZI (K:=K) rfl J.units) (ZF (Zf Zh (Vg (YH (ZI (K:=K) rfl J.units) (ZF (Zf Zh (Zf Zh Zn))) (Zo (Xb Vs rfl T.n_int bE (Za (ZZ (ZC (K:=K) rfl J.units) (Yg (ZI (K:=K) rfl J.units) (Yg (ZI (K:=K) rfl J.units) (pv 0) (Wa Wb Ze) (λ_ _=>rfl)) Ze (λ_ _=>rfl)) Ze (nomark _)) Zc))) (λ_ _=>rfl)) Zn))) (Zo (Xb Vs rfl T.n_int bE (Za (Ub (ZZ Xk (Zu Z8 (Zu XJ (pv 2) Ze) Ze) Ze (nomark _)) (Y3 (ZZ (ZC (K:=K) rfl J.units) (pv 6) Ze (nomark _)))) Zc))) (λ_ _=>rfl))))
    Yv)
   (ZK (Yz (Zr (ZC (K:=K) rfl J.units) (pv 5) Zm (nomark _))
    (ZK (Wp (i:=7) WN.nd rfl (aK rfl) (GM Sg rfl T.n_str cM (Vf (QU Z8 (Zo (Zu XJ (pv 2) Ze)) (YH (ZI (K:=K) rfl J.units) (ZF (Zf Ym (Vf (Zo (Zu Pl Ze Ze)) Zn))) (Zo (Zu Z8 (pv 2) Ze)) (λ_ _=>rfl))) Zn)))
    (ZK (Wp (i:=8) WN.nd rfl (aK rfl) (ZF (Vg (YH (ZI (K:=K) rfl J.units) (ZF (Zf Zh (Zf Zh Zn))) (Zo (Zu Z8 (pv 2) Ze)) (λ_ _=>rfl)) (Vg (YH (ZI (K:=K) rfl J.units) (ZF (Zf Zh (Zf Zh Zn))) (Zo (Zu Z8 (pv 2) Ze)) (λ_ _=>rfl)) Zn))))
    (ZL (Yb (YH (ZI (K:=K) rfl J.units) (ZF (Xo (Zo (pv 3)) (Xo (Zo (pv 4)) (Vg (Zo (Yg (ZI (K:=K) rfl J.units) (pv 8) Ze (λ_ _=>rfl))) (Zf Zh (Vg (Zo (Yg (ZI (K:=K) rfl J.units) (pv 8) Ze (λ_ _=>rfl))) (XI (Zo (Xb Sg rfl T.n_str cM (Za (Zu Z8 (Zu XJ (pv 2) Ze) Ze) Zc))) (Xo (Zo (pv 3)) (Xo (Zo (pv 7)) Zn))))))))) (Zo (pv 6)) (λ_ _=>rfl))))))
    Yv)
   (ZL (Yb (YH (ZI (K:=K) rfl J.units) (ZF (Xo (Zo (pv 3)) (Xo (Zo (pv 4)) (Zf Zh (Zf Zh Zn))))) (Zo (Zu Z8 (Zu XJ (pv 2) Ze) Ze)) (λ_ _=>rfl))))))))))))),?_⟩
 rintro cs ⟨rs,t,ok,rfl⟩
 show Sv K _ _ _ [aa (.d (dSt rs)),aa (.d (.int t)),none,none,none,none,none,none,none] _
 k_head
 have R:0<=(1+t%2147483646)*48271%2147483647:=ed _ (by decide)
 have Z:(1+t%2147483646)*48271%2147483647<2147483647:=dz _ (by decide)
 generalize (1+t%2147483646)*48271%2147483647=u at R Z ⊢
 have Y:=FX (k:=u%6) ⟨by omega,by omega⟩
 refine WV (zs:=["n", "k", "m", "xy",fG "abcdef" none (aa (1+u%6)), "al"]) ?_ (by show 6<=1000;decide) ?_
 ·k_head
  refine sl_S ?_
  k_head
  refine⟨"abcdef",rfl,NR.av,by decide +kernel,?_⟩
  k_head
  rfl
 k_head
 refine X6 (zs:=["n", "k", "m", "xy",fG "abcdef" none (aa (1+u%6)), "al"]) NR.av (YW _) ⟨by omega,by show u / 7%6<6;omega⟩ (ZW (ZW (ZW (ZW (ZW (ZW V3 (by decide +kernel)) Y) (by decide +kernel)) (by decide +kernel)) (by decide +kernel)) (by decide +kernel)) λnm j=>?_
 refine v_s ?_
 walk_at "hd"
 k_head
 obtain⟨c,B,l⟩:=FY (k:=u / 5%3) ⟨by omega,by omega⟩
 refine Se (z := "ABZ") rfl (by decide +kernel) B ?_
 have o:Wz ⟨#[c]⟩:=FZ l
 generalize (⟨#[c]⟩:au)=rw at o ⊢
 refine v_s ?_
 walk_at "hd"
 k_head
 refine Ys ?_
 k_head
 refine XB (ds:=(rs.map It.D).reverse) rfl ?_
 rw[dq,aC]
 k_head
 refine ite2 (λh=>?_) λh=>?_
 ·k_head
  refine WV (zs:=["and", "+", ")",nm]) ?_ (by show 4<=1000;decide) ?_
  ·k_head
   rfl
  k_head
  refine X6 (zs:=["and", "+", ")",nm]) NR.av (YW _) ⟨by omega,by show u / 3%4<4;omega⟩ (ZW (ZW (ZW (ZW V3 j) (by decide +kernel)) (by decide +kernel)) (by decide +kernel)) λz C=>?_
  exact⟨_,Zs rfl,z,rfl,C⟩
 obtain⟨it,r,rfl⟩:∃ it r,rs=it::r:=by
  cases rs with
  | nil=>exact absurd (decide_eq_true rfl) h
  | cons it r=>exact⟨it,r,rfl⟩
 have Q:=ok it (.head _)
 k_head
 refine SO ?_
 k_head
 refine YC (ds:=((it::r).map It.D).reverse) (y:=it.D) rfl (by rw[Wu];exact Tp _ _) ZT.d ⟨_,rfl,?_⟩
 refine VN ?_
 k_head
 refine Ys ?_
 refine Wt (v:=decide (it.tg = "whole") && decide (it.nu<9)) ?_ ?_
 ·k_head
  refine ZU (y:=it.tg) (z := "whole") NR.av NR.av rfl rfl (XW it) (Yc (by decide +kernel)) ⟨_,rfl,ite2 (λh=>?_) λh=>?_⟩
  ·k_head
   rw[h,br]
   exact decide_eq_decide.mpr (by omega)
  ·rw[(dm _).mp h,bI]
 refine ite2 (λh=>?_) λh=>?_
 ·k_head
  refine WV (zs:=["not", "(", "some", "all",rw,nm, "(",rw,nm, "("]) ?_ (by show 10<=1000;decide) ?_
  ·k_head
   rfl
  k_head
  refine X6 (zs:=["not", "(", "some", "all",rw,nm, "(",rw,nm, "("]) NR.av (YW _) ⟨by omega,by show u / 3%10<10;omega⟩ (ZW (ZW (ZW (ZW (ZW (ZW (ZW (ZW (ZW (ZW V3 (by decide +kernel)) j) o) (by decide +kernel)) j) o) (by decide +kernel)) (by decide +kernel)) (by decide +kernel)) (by decide +kernel)) λz C=>?_
  exact⟨_,Zs rfl,z,rfl,C⟩
 clear h
 k_head
 refine Ys ?_
 k_head
 refine ZU (y:=it.tg) (z := "left") NR.av NR.av rfl rfl (XW it) (Yc (by decide +kernel)) ⟨_,rfl,ite2 (λh=>?_) λh=>?_⟩
 ·obtain⟨m,rfl⟩:=F1 (of_decide_eq_true h)
  have L:1<=m/\m<=3:=Q
  k_head
  refine WV (zs:=["=", "<", "+", "="]) ?_ (by show 4<=1000;decide) ?_
  ·k_head
   rfl
  k_head
  refine Ye ?_
  k_head
  refine⟨[.d (.int 4),.d (.int 4),.d (.int 2)],.cons rfl (.cons rfl (.cons rfl .nil)),by show 3<=1000;decide,?_⟩
  k_head
  have M:∃ g:Int,atI [dt 4,.int 4,.int 2] ((m:Int)-1)=aa (.int g)/\0<g/\g<=4:=by
   have:m=1\/m=2\/m=3:=by omega
   rcases this with rfl|rfl|rfl
   ·exact⟨4,rfl,by decide,by decide⟩
   ·exact⟨4,rfl,by decide,by decide⟩
   ·exact⟨2,rfl,by decide,by decide⟩
  obtain⟨g,M,W,g1⟩:=M
  refine YC (ds:=[.int 4,.int 4,.int 2]) rfl M (ZT.flat rfl) ?_
  refine VI W ?_
  have k0:0<=u / 3%g:=ed _ (by omega)
  have k1:u / 3%g<g:=dz _ W
  refine X6 (zs:=["=", "<", "+", "="]) NR.av (YW _) ⟨k0,by show u / 3%g<4;omega⟩ (by decide +kernel) λz C=>?_
  exact⟨_,Zs rfl,z,rfl,C⟩
 clear h
 k_head
 refine Ys ?_
 refine Wt (v:=decide (it.tg = "right") && MH r) ?_ ?_
 ·k_head
  refine ZU (y:=it.tg) (z := "right") NR.av NR.av rfl rfl (XW it) (Yc (by decide +kernel)) ⟨_,rfl,ite2 (λh=>?_) λh=>?_⟩
  ·rw[h,br]
   k_head
   refine XB (ds:=((it::r).map It.D).reverse) rfl ?_
   rw[dq,aC]
   k_head
   cases r with
   | nil=>exact Y4 rfl
   | cons a q =>
    rw[decide_eq_true (show (1:Int)<((it::a::q).length:Nat) by rw[aS,aS];omega)]
    refine Xc ?_
    k_head
    refine YC (ds:=((it::a::q).map It.D).reverse) (y:=a.D) rfl (MI it a q) ZT.d ?_
    k_head
    refine ZU (y:=a.tg) (z := "word") NR.av NR.av rfl rfl (XW a) (Yc (by decide +kernel)) ⟨_,rfl,rfl⟩
  ·rw[(dm _).mp h,bI]
 refine ite2 (λh=>?_) λh=>?_
 ·obtain⟨a,q,rfl⟩:∃ a q,r=a::q:=by
   cases r with
   | nil=>rw[show MH []=aw from rfl,cx] at h;cases h
   | cons a q=>exact⟨a,q,rfl⟩
  k_head
  refine Ye ?_
  k_head
  refine Ye ?_
  k_head
  refine⟨[.d (.str "and"),.d (.str ")")],.cons rfl (.cons rfl .nil),by show 2<=1000;decide,?_⟩
  k_head
  refine YC (ds:=((it::a::q).map It.D).reverse) (y:=a.D) rfl (MI it a q) ZT.d ?_
  k_head
  refine Vb ?_
  refine pick2 ?_
  k_head
  refine⟨[.d (.str "+"),if decide ((a.nu:Int)=3)=ac then .d (.str ")") else .d (.str "and")],.cons rfl (.cons rfl .nil),by show 2<=1000;decide,?_⟩
  k_head
  refine ite2 (λ_=>?_) λ_=>?_
  ·k_head
   refine Vb ?_
   refine pick2 ?_
   exact⟨_,.inl rfl,MJ _ _⟩
  ·k_head
   refine Vb ?_
   refine pick2 ?_
   exact⟨_,.inl rfl,MJ _ _⟩
 clear h
 k_head
 refine Ys ?_
 k_head
 refine ZU (y:=it.tg) (z := "word") NR.av NR.av rfl rfl (XW it) (Yc (by decide +kernel)) ⟨_,rfl,ite2 (λh=>?_) λh=>?_⟩
 rotate_left
 ·k_head
  refine WV (zs:=[nm,rw, "+", ")"]) ?_ (by show 4<=1000;decide) ?_
  ·k_head
   rfl
  k_head
  refine X6 (zs:=[nm,rw, "+", ")"]) NR.av (YW _) ⟨by omega,by show u / 3%4<4;omega⟩ (ZW (ZW (ZW (ZW V3 (by decide +kernel)) (by decide +kernel)) o) j) λz C=>?_
  exact⟨_,Zs rfl,z,rfl,C⟩
 obtain⟨k,rfl⟩:=F2 (of_decide_eq_true h)
 have U:k<=7:=Q
 k_head
 refine Ye ?_
 k_head
 refine⟨_,.cons rfl (.cons rfl .nil),by show 2<=1000;decide,?_⟩
 k_head
 have M:∃ g:Int,atI [dt 10,.int 1000000000] (u%2)=aa (.int g)/\0<g/\g<=1000000000:=by
  have:u%2=0\/u%2=1:=by omega
  rcases this with e|e
  ·rw[e];exact⟨10,rfl,by decide,by decide⟩
  ·rw[e];exact⟨1000000000,rfl,by decide,by decide⟩
 obtain⟨g,M,W,g1⟩:=M
 refine YC (ds:=[.int 10,.int 1000000000]) rfl M (ZT.flat rfl) ?_
 refine VI W ?_
 have k0:0<=u / 11%g:=ed _ (by omega)
 have k1:u / 11%g<g:=dz _ W
 generalize u / 11%g=v at k0 k1 ⊢
 k_head
 refine Si rfl ⟨by omega,by omega⟩ ?_
 have S:Wz (nT v):=MG ⟨k0,by omega⟩
 generalize nT v=O at S ⊢
 refine v_s ?_
 walk_at "hd"
 k_head
 have G:0<=u%2/\u%2<2:=by omega
 refine Ye ?_
 refine Zz ?_
 k_head
 refine WV (zs:=["and", "or"]) ?_ (by show 2<=1000;decide) ?_
 ·k_head
  rfl
 k_head
 refine X6 (zs:=["and", "or"]) NR.av (YW _) ⟨G.1,G.2⟩ (by decide +kernel) λp N=>?_
 k_head
 refine WV (zs:=["is", "like"]) ?_ (by show 2<=1000;decide) ?_
 ·k_head
  rfl
 k_head
 refine X6 (zs:=["is", "like"]) NR.av (YW _) ⟨G.1,G.2⟩ (by decide +kernel) λb F=>?_
 k_head
 refine⟨[.d (.str p),.d (.str b)],.cons rfl (.cons rfl .nil),by show 2<=1000;decide,?_⟩
 refine v_s ?_
 walk_at "hd"
 k_head
 have x:Wz (nT (u / 3%10)):=MG ⟨by omega,by omega⟩
 refine WV (zs:=[nm,rw,p, ")",b,nT (u / 3%10),nm,O]) ?_ (by show 8<=1000;decide) ?_
 ·k_head
  refine YC (ds:=[.str p,.str b]) (y:=.str p) rfl rfl (ZT.flat rfl) ?_
  k_head
  refine YC (ds:=[.str p,.str b]) (y:=.str b) rfl rfl (ZT.flat rfl) ?_
  k_head
  refine Si rfl ⟨by omega,by omega⟩ ?_
  k_head
  rfl
 k_head
 refine X6 (zs:=[nm,rw,p, ")",b,nT (u / 3%10),nm,O]) NR.av (YW _) ⟨by omega,by show (k:Int)<8;omega⟩ (ZW (ZW (ZW (ZW (ZW (ZW (ZW (ZW V3 S) j) x) F) (by decide +kernel)) N) o) j) λz C=>?_
 exact⟨_,Zs rfl,z,rfl,C⟩
theorem F4{t:Int}(A:NR a)(ha:a.data=dSt rs)(ok:YM rs)(q:∀ z,Wz z->Q (.av (.d (.str z)))):ClR MF (λ_=>Vj) NP [] Q X [a,.av (.d (.int t))] :=
 ⟨[.d (dSt rs),.d (.int t)],.cons (.d A ha) (.cons (.d NR.av rfl) .nil),⟨rs,t,ok,rfl⟩,(by rintro c ⟨z,e,h⟩;exact e▸⟨_,Got.own rfl,q z h⟩),λ_ z=>z.elim⟩
def GrI(ns:List Int)(wh:Int)(n:Nat)(ρ:Sl):Prop:=∃ (ws:List au) (rs:List It) (g:Bool) (o5 o6 o7 o8 o9 o10:Option AV),ρ=[aa (.d (dI ns)),aa (gL ws),aa (.d (dSt rs)),aa (.d (.bool g)),aa (.d (.int wh)),o5,o6,o7,o8,o9,o10]/\(∀ z∈ws,Wz z)/\ws.length<=n/\YM rs/\rs.length<=1+3*n
theorem U8(h:∀ z∈ws,Wz z)(C:Wz z):∀ y∈ws++[z],Wz y:=λy B=>(mem_append.mp B).elim (h y) λe=>by rw[mem_singleton.mp e];exact C
theorem V4(ws:List au)(z:au):gL (ws++[z])=AV.own (ws.map (λz=>AV.d (.str z))++[gS z]):=by show AV.own (jN _ _)=_;rw[eS];rfl
theorem F5:YM [.wh 1]:=λi t=>by rw[mem_singleton.mp t];exact ar 1
theorem F6(T:Txt K mg):Cal P w K mg base (CXE P w) 5 "_law_grown" ["_law_script"] [] (spR K Q8 (λ_=>Q9) NP):=by
 have c_law_cell:Cal P w K mg base _ _ _ _ _ _:=Fu T
 have c_law_menu:Cal P w K mg base _ _ _ _ _ _:=F3 T
 have c_law_wild:Cal P w K mg base _ _ _ _ _ _:=FI T
 have c_law_last:Cal P w K mg base _ _ _ _ _ _:=FL T
 have c_law_next:Cal P w K mg base _ _ _ _ _ _:=MA T
 have c_law_ended:Cal P w K mg base _ _ _ _ _ _:=My T
 refine SD T.x_law_grown YT ((by rintro cs ⟨_,e,_⟩;rw[e];rfl)) (λf X A I s H E J=>?_) [] (by simp)
 refine⟨_,(ZK (Yn (ZB (i:=1) YT.nd rfl (aK rfl) (Xu Zc)))
   (ZK (Wp (i:=2) YT.nd rfl (aK rfl) (ZF (Yx (Yy (Zf Zh (Zf Ym Zn))) Zn)))
   (ZK (Yn (ZB (i:=3) YT.nd rfl (aK rfl) Wy))
   (ZK (Wp (i:=4) YT.nd rfl (aK rfl) (YH (ZI (K:=K) rfl J.units) (ZF (Zf Ym (Zf Ym (Zf Ym Zn)))) (Zo (Zu Z8 (ZR (c_law_cell.mono (by omega)) J rfl ZA (Za (pv 0) (Za Ze Zc))) Ze)) (λ_ _=>rfl)))
   (ZK (Yn (Ue cO rfl (P9 (K:=K) rfl rfl T.n_enumerate (Za (Uh (Us (K:=K) rfl) (pv 0) (W0 Ze) (W0 Ze)) Zc)) (VD (K:=K) (n:=2) rfl rfl (Xt (YQ (i:=5) YT.nd rfl (aK rfl)) (Xt (YQ (i:=6) YT.nd rfl (aK rfl)) Vq)))
    (Zk (ZB (i:=7) YT.nd rfl (aK rfl) (Zu Z8 (Zu TY (Zu Z8 (Zu (YG (K:=K) rfl) (Zu TY (Zu Z8 (pv 6) (Zu Pl Ze Ze)) Ze) (Zu TY Ze (pv 5))) Ze) Ze) Ze))
    (Zk (ZB (i:=8) YT.nd rfl (aK rfl) (ZR (c_law_menu.mono (by omega)) J rfl ZA (Za (pv 2) (Za (pv 7) Zc))))
    (Zk (X2 (PW.pt (YE (Zr Xk (pv 4) Ze (nomark _)) (Y2 (Zr (ZC (K:=K) rfl J.units) (Zu Z8 (pv 7) (pv 4)) Ze (nomark _)))))
     (Zl (ZB (i:=8) YT.nd rfl (aK rfl) (ZR (c_law_wild.mono (by omega)) J rfl ZA (Za (Zu XJ (pv 7) (pv 4)) Zc))))
     Z6)
    (Zl (X2 (PW.pt (YE (Y1 (pv 3)) (Y2 (PW.pt (V9 (Ua (Y1 (ZR (c_law_ended.mono (by omega)) J rfl ZA (Za (pv 2) Zc)))) (Te (Zr (ZC (K:=K) rfl J.units) (Zu Z8 (pv 7) Ze) Ze (nomark _))))))))
     (Zk (ZB (i:=9) YT.nd rfl (aK rfl) (ZR (c_law_next.mono (by omega)) J rfl ZA (Za (pv 2) (Za (pv 8) Zc))))
     (Zk (ZB (i:=3) YT.nd rfl (aK rfl) (ZZ Tj (pv 9) Xj (nomark _)))
     (Zk (X2 (Y1 (pv 3))
      (Zl (ZB (i:=2) YT.nd rfl (aK rfl) (pv 9)))
      Z6)
     (Zl (XY (XN (K:=K) rfl cH ci cE Vy (pv 1) (Za (pv 8) Zc)))))))
     (Zl (X2 (PW.pt (YE (Ua (Y1 (pv 3))) (Y2 (Zr (ZC (K:=K) rfl J.units) (Zu Z8 (pv 7) Ze) Ze (nomark _)))))
      (Zl (XY (XN (K:=K) rfl cH ci cE Vy (pv 1) (Za (pv 8) Zc))))
      Z6)))))))))
   (ZK (Yn (Ue cO rfl (Ll rfl T.n_range (Za Ze Zc)) (YQ (i:=10) YT.nd rfl (aK rfl))
    (Zl (X2 (PW.pt (YE (Zr Xk (Zu Z8 (ZR (c_law_cell.mono (by omega)) J rfl ZA (Za (pv 0) (Za Ze Zc))) Ze) Ze (nomark _)) (YE (Y1 (pv 3)) (Y2 (Ua (Y1 (ZR (c_law_ended.mono (by omega)) J rfl ZA (Za (pv 2) Zc))))))))
     (Zk (XY (XN (K:=K) rfl cH ci cE Vy (pv 1) (Za (ZR (c_law_last.mono (by omega)) J rfl ZA (Za (pv 2) Zc)) Zc)))
     (Zk (ZB (i:=9) YT.nd rfl (aK rfl) (ZR (c_law_next.mono (by omega)) J rfl ZA (Za (pv 2) (Za (Yg (ZI (K:=K) rfl J.units) (pv 1) (Wa Wb Ze) (λ_ _=>rfl)) Zc))))
     (Zk (ZB (i:=3) YT.nd rfl (aK rfl) (ZZ Tj (pv 9) Xj (nomark _)))
     (Zl (X2 (Y1 (pv 3))
      (Zl (ZB (i:=2) YT.nd rfl (aK rfl) (pv 9)))
      Z6)))))
     Z6))))
   (ZL (Yn (Zx (XN (K:=K) rfl aX bu bt (XQ (K:=K) rfl) Zm (Za (pv 1) Zc))))))))))),?_⟩
 rintro cs ⟨ns,rfl,hns⟩
 show Sv K _ _ _ [aa (.d (dI ns)),none,none,none,none,none,none,none,none,none,none] _
 k_head
 refine Xp (ds:=[(It.wh 1).D]) (Zz (YL (YY rfl) (ZN rfl))) (by show 1<=1000;decide) ?_
 refine XO (x:=dSt [.wh 1]) (WT [.wh 1]) ?_
 walk_at "hd"
 k_head
 refine Ye ?_
 k_head
 refine⟨[.d (.int 0),.d (.int 8),.d (.int 40)],.cons rfl (.cons rfl (.cons rfl .nil)),by show 3<=1000;decide,?_⟩
 k_head
 refine Mo NR.av rfl (by decide) λr=>?_
 k_head
 have B:∃ j:Int,atI [dt 0,.int 8,.int 40] (r%3)=aa (.int j)/\(j=0\/j=8\/j=40):=by
  have:r%3=0\/r%3=1\/r%3=2:=by omega
  rcases this with e|e|e
  ·rw[e];exact⟨0,rfl,.inl rfl⟩
  ·rw[e];exact⟨8,rfl,.inr (.inl rfl)⟩
  ·rw[e];exact⟨40,rfl,.inr (.inr rfl)⟩
 obtain⟨j,u,B⟩:=B
 refine YC (ds:=[.int 0,.int 8,.int 40]) rfl u (ZT.flat rfl) ?_
 refine v_s ?_
 walk_at "hd"
 k_head
 refine O0 (α:=Int) ?_
 refine Zz (MD (ns:=ns) ?_)
 k_head
 refine⟨rfl,?_⟩
 k_head
 have F:(Xq ns (aa 2) (aa 62)).length<=60:=by
  unfold Xq
  rw[ME (by decide),ME (by decide),gl]
  have N:(62:Int).toNat=62:=rfl
  have M:(2:Int).toNat=2:=rfl
  rw[N,M]
  omega
 refine⟨_,Xq ns (aa 2) (aa 62),dt,rfl,NO _,⟨_,rfl⟩,λi o=>GrI ns j i o,⟨[],[.wh 1],ac,none,none,none,none,none,none,rfl,V3,ar 0,F5,ar 1⟩,?_,?_⟩
 ·rintro i o t ⟨ws,rs,g,o5,o6,o7,o8,o9,o10,rfl,hws,hwl,ok,hrl⟩
  have L:i<60:=by omega
  refine VN ?_
  k_head
  refine VI (by decide) ?_
  generalize (Xq ns (aa 2) (aa 62))[i] % 10 ^ Int.toNat 18=y
  k_head
  generalize ((y*48271+16807*(i:Int))%2147483647*69621%2147483629)=c
  refine F4 NR.av rfl ok λq G=>?_
  refine v_s ?_
  walk_at "hd"
  k_head
  refine Xf (λo=>∃ z,Wz z/\o=[aa (.d (dI ns)),aa (gL ws),aa (.d (dSt rs)),aa (.d (.bool g)),aa (.d (.int j)),aa (.d (.int i)),aa (.d (.int (Xq ns (aa 2) (aa 62))[i])),aa (.d (.int c)),aa (gS z),o9,o10]) ?_ ?_
  case refine_2 =>
   k_head
   refine ite2 (λh=>?_) λh=>?_
   rotate_left
   ·k_head
    exact⟨q,G,rfl⟩
   have h:=of_decide_eq_true h
   k_head
   refine ite2 (λR=>?_) λR=>?_
   rotate_left
   ·k_head
    exact⟨q,G,rfl⟩
   k_head
   refine FJ λz C=>?_
   exact v_s ⟨z,C,rfl⟩
  rintro o ⟨z,C,rfl⟩
  walk_at "hd"
  refine Xf _ (λo h=>h) ?_
  refine Wt (v:=g && (!ended rs || decide (c%7=3))) ?_ ?_
  ·k_head
   cases g with
   | false=>exact Y4 rfl
   | true =>
    refine Xc ?_
    k_head
    refine Yi ?_
    k_head
    refine Q5 NR.av rfl ⟨_,rfl,?_⟩
    cases ended rs with
    | false=>exact Xc rfl
    | true =>
     refine Y4 ?_
     k_head
     rfl
  refine ite2 (λ_=>?_) λ_=>?_
  ·k_head
   refine Yi ?_
   k_head
   refine Vi (rs,z) (.cons (.d NR.av rfl) (.cons (.d NR.av rfl) .nil)) ⟨ok,by show rs.length<=100000;omega,C.wd,rfl⟩ ?_
   cases hn:nxt rs z with
   | none =>
    refine v_s ?_
    walk_at "hd"
    k_head
    refine T8 (by rfl) ?_
    refine v_s ?_
    walk_at "hd"
    k_head
    refine Xf (λo=>o=[aa (.d (dI ns)),aa (gL ws),aa (.d (dSt rs)),aa (.d (.bool aw)),aa (.d (.int j)),aa (.d (.int i)),aa (.d (.int (Xq ns (aa 2) (aa 62))[i])),aa (.d (.int c)),aa (gS z),aa (.d .none),o10]) ?_ ?_
    case refine_2 =>
     k_head
     all_goals rfl
    rintro o rfl
    walk_at "hd"
    k_head
    refine Ut (by rw[aC];omega) ?_
    exact⟨ws++[z],rs,aw,_,_,_,_,_,_,by rw[V4],U8 hws C,by rw[aO];show ws.length+1<=_;omega,ok,by omega⟩
   | some a =>
    obtain⟨l,k⟩:=Q4 hn ok
    refine XO (x:=dSt a) (WT a) ?_
    walk_at "hd"
    k_head
    refine Sa (by rfl) ?_
    refine v_s ?_
    walk_at "hd"
    k_head
    refine Xf (λo=>o=[aa (.d (dI ns)),aa (gL ws),aa (.d (dSt a)),aa (.d (.bool ac)),aa (.d (.int j)),aa (.d (.int i)),aa (.d (.int (Xq ns (aa 2) (aa 62))[i])),aa (.d (.int c)),aa (gS z),aa (.d (dSt a)),o10]) ?_ ?_
    case refine_2 =>
     k_head
     all_goals rfl
    rintro o rfl
    walk_at "hd"
    k_head
    refine Ut (by rw[aC];omega) ?_
    exact⟨ws++[z],a,ac,_,_,_,_,_,_,by rw[V4],U8 hws C,by rw[aO];show ws.length+1<=_;omega,l,by omega⟩
  ·k_head
   refine Xf _ (λo h=>h) ?_
   refine Wt (v:=!g && decide (c%3=0)) ?_ ?_
   ·k_head
    cases g with
    | true=>exact Y4 rfl
    | false =>
     refine Xc ?_
     k_head
     rfl
   refine ite2 (λ_=>?_) λ_=>?_
   ·k_head
    refine Ut (by rw[aC];omega) ?_
    exact⟨ws++[z],rs,g,_,_,_,_,_,_,by rw[V4],U8 hws C,by rw[aO];show ws.length+1<=_;omega,ok,by omega⟩
   ·k_head
    exact⟨ws,rs,g,_,_,_,_,_,_,rfl,hws,by omega,ok,by omega⟩
 ·rintro o ⟨ws,rs,g,o5,o6,o7,o8,o9,o10,rfl,hws,hwl,ok,hrl⟩
  k_head
  refine JV ?_
  k_head
  refine⟨60,rfl,⟨by decide,by decide⟩,λi o=>GrI ns j (60+i) o,⟨ws,rs,g,o5,o6,o7,o8,o9,o10,rfl,hws,by omega,ok,by omega⟩,?_,?_⟩
  ·rintro i o t ⟨ws,rs,g,o5,o6,o7,o8,o9,o10,rfl,hws,hwl,ok,hrl⟩
   have t:i<60:=t
   k_head
   refine Xf _ (λo h=>h) ?_
   k_head
   refine Mo NR.av rfl (by decide) λr=>?_
   k_head
   refine ite2 (λ_=>?_) λ_=>?_
   rotate_left
   ·k_head
    exact⟨ws,rs,g,_,_,_,_,_,_,rfl,hws,by omega,ok,by omega⟩
   k_head
   refine ite2 (λ_=>?_) λ_=>?_
   rotate_left
   ·k_head
    exact⟨ws,rs,g,_,_,_,_,_,_,rfl,hws,by omega,ok,by omega⟩
   k_head
   refine Yi ?_
   k_head
   refine Q5 NR.av rfl ⟨_,rfl,?_⟩
   cases he:ended rs with
   | true =>
    refine Y4 ?_
    k_head
    exact⟨ws,rs,g,_,_,_,_,_,_,rfl,hws,by omega,ok,by omega⟩
   | false =>
    refine Xc ?_
    k_head
    refine FM NR.av rfl ok he λz C=>?_
    refine Ut (by rw[aC];omega) ?_
    walk_at "hd"
    k_head
    refine Yi ?_
    k_head
    refine YC (ds:=ws.map .str++[.str z]) (y:=.str z) (by show (AV.own (ws.map (λz=>AV.d (.str z))++[gS z])).data=_;rw[<- V4,YW,eS];rfl) (Tp _ _) (ZT.flat rfl) ?_
    k_head
    refine Vi (rs,z) (.cons (.d NR.av rfl) (.cons (.d NR.av rfl) .nil)) ⟨ok,by show rs.length<=100000;omega,C.wd,rfl⟩ ?_
    cases hn:nxt rs z with
    | none =>
     refine v_s ?_
     walk_at "hd"
     k_head
     refine T8 (by rfl) ?_
     refine v_s ?_
     walk_at "hd"
     k_head
     refine Xf _ (λo h=>h) ?_
     k_head
     exact⟨ws++[z],rs,aw,_,_,_,_,_,_,by rw[V4],U8 hws C,by rw[aO];show ws.length+1<=_;omega,ok,by omega⟩
    | some a =>
     obtain⟨l,k⟩:=Q4 hn ok
     refine XO (x:=dSt a) (WT a) ?_
     walk_at "hd"
     k_head
     refine Sa (by rfl) ?_
     refine v_s ?_
     walk_at "hd"
     k_head
     refine Xf _ (λo h=>h) ?_
     k_head
     exact⟨ws++[z],a,ac,_,_,_,_,_,_,by rw[V4],U8 hws C,by rw[aO];show ws.length+1<=_;omega,l,by omega⟩
  ·rintro o ⟨ws,rs,g,o5,o6,o7,o8,o9,o10,rfl,hws,hwl,ok,hrl⟩
   k_head
   refine XR ?_
   k_head
   obtain⟨p,b⟩:=Xn (sep := " ") (m:=10) (n:=120) spc1 (λz C=>(hws z C).2) hwl (by decide)
   refine⟨ws,YW ws,NR.bor,p,?_⟩
   refine⟨_,Zs rfl,_,rfl,?_,by omega⟩
   rw[tj]
   exact Pc.join (Yc (by decide +kernel)) λz C=>(hws z C).1
theorem F7(T:Txt K mg):CalH P w K mg base (CXE P w) 1 "_law_whole" ["_law_found"] [] (spR K (λcs=>∃ k:Int,cs=[.d (.int k)]) (λ_ c=>c=.d (.bool ac)) NP):=by
 refine He T.x_law_whole GF ((by rintro cs ⟨k,e⟩;rw[e];rfl)) (λf X A S I s H E J=>?_) [] (by simp)
 refine⟨_,(Zl (Zx (Y9 (ZQ (Up (K:=K) rfl) rfl T.n_isinstance bf (Za (pv 0) (Za (Td (v:=.ty "int") rfl T.n_int bE rfl) Zc))) (Y3 (Pj (ZQ (Up (K:=K) rfl) rfl T.n_isinstance bf (Za (pv 0) (Za (Td (v:=.ty "bool") rfl T.n_bool PyProof.Rows.boot_bool rfl) Zc)))))))),?_⟩
 rintro cs ⟨k,rfl⟩
 show Sv K _ _ _ [aa (.d (.int k))] _
 w_on
 refine JE ?_
 w_on
 refine JF ?_
 w_on
 exact⟨_,Zs rfl,rfl⟩
def MK(cs:List AV):Prop:=∃ (z:au) (k:Nat),Tz z/\XV z=.error k/\cs=[.d (.str z),.d (.int k)]
variable{k:Nat}
theorem F8(T:Txt K mg)(Z:Cs K mg kt kf kg ki kh kq km kn kr kj ke gt io ko kc kl)(B:base.BuiltinsAt mg aj)(Q:(YU,Xm)∈Tabs.ts):Cal P w K mg base (CXE P w) 29 "_law_refused" ["_law_text", "_law_place"] [] (spR K MK (λ_ c=>c=.d (.bool ac)) NP):=by
 have c_read_statement:Cal P w K mg base _ _ _ _ _ _:=Mi T Z B Q
 have c_law_whole_h:CalH P w K mg base (CXE P w) 1 "_law_whole" ["_law_found"] [] _:=F7 T
 refine Ux T.x_law_refused VY ((by rintro cs ⟨_,_,_,_,e⟩;rw[e];rfl)) (λf X A I s H E J=>?_) [] (by simp)
 refine⟨_,(Zk (ZB (i:=2) VY.nd rfl (aK rfl) Wy)
   (Zk (Ic (i:=3) rfl rfl VY.nd rfl rfl rfl Z.c_WheelError
    (λ_ _=>(Zl (XY (XC (c_read_statement.mono (by omega)) J rfl (Za (pv 0) Zc)))))
    (λ_ _=>(Zk (ZB (i:=4) VY.nd rfl (aK rfl) (Ub (ZQ (Uv (K:=K) rfl) rfl T.n_isinstance bf (Za (pv 3) (Za (X9 (v:=.ref kh) rfl Z.c_NoName rfl) Zc))) (Ub (ZQ (Uv (K:=K) rfl) rfl T.n_isinstance bf (Za (pv 3) (Za (X9 (v:=.ref kf) rfl Z.c_NoLine rfl) Zc))) (Y3 (ZQ (Uv (K:=K) rfl) rfl T.n_isinstance bf (Za (pv 3) (Za (X9 (v:=.ref kg) rfl Z.c_NoMachine rfl) Zc)))))))
    (Zk (ZB (i:=2) VY.nd rfl (aK rfl) (Y9 (ZQ (Uv (K:=K) rfl) rfl T.n_isinstance bf (Za (pv 3) (Za (X9 (v:=.ref ki) rfl Z.c_NoText rfl) Zc))) (Y9 (ZQ (Uv (K:=K) rfl) rfl T.n_isinstance bf (Za (pv 3) (Za (Td (v:=.ty "ValueError") rfl T.n_ValueError L2.Ij rfl) Zc))) (Y3 (Pj (pv 4))))))
    (Zl (ZB (i:=2) VY.nd rfl (aK rfl) (Y9 (pv 2) (Y9 (Hc rfl (c_law_whole_h.mono (by omega)) J rfl ZA (Za (OX (K:=K) rfl (pv 3)) Zc)) (Y3 (ZZ (ZC (K:=K) rfl J.units) (OX (K:=K) rfl (pv 3)) (pv 1) (nomark _)))))))))))
   (Zl (Zx (pv 2))))),?_⟩
 rintro cs ⟨z,k,hz,hk,rfl⟩
 show Sv K _ _ _ [aa (.d (.str z)),aa (.d (.int k)),none,none,none] _
 w_on
 refine Ii (X':=λe o=>e=NT ki k/\o=[aa (.d (.str z)),aa (.d (.int k)),aa (.d (.bool aw)),none,none]) (λh=>?_) ?_
 ·w_on
  refine Ha ?_
  w_on
  refine⟨z,[.d (.str z)],.cons (.d NR.av rfl) .nil,⟨hz,rfl⟩,?_,?_⟩
  ·rintro c ⟨t,e,_⟩
   rw[hk] at e
   cases e
  ·rintro e ⟨k',ek,rfl⟩
   rw[hk] at ek
   cases ek
   exact⟨rfl,rfl⟩
 rintro e ρ' ⟨rfl,rfl⟩
 refine⟨Z.mT_We,rfl,by simp,?_⟩
 show Sv K _ _ _ [aa (.d (.str z)),aa (.d (.int k)),aa (.d (.bool aw)),aa (.d (dX (NT ki k))),none] _
 w_on
 refine VH ?_
 w_on
 refine Uw (e:=NT ki k) Z.k_NoText rfl Z.iT_NoName ?_
 w_on
 refine VH ?_
 w_on
 refine Uw (e:=NT ki k) Z.k_NoText rfl Z.iT_NoLine ?_
 w_on
 refine VH ?_
 w_on
 refine Uw (e:=NT ki k) Z.k_NoText rfl Z.iT_NoMachine ?_
 w_on
 refine VH ?_
 w_on
 refine Uw (e:=NT ki k) Z.k_NoText rfl Z.iT_T ?_
 w_on
 refine Uw (e:=NT ki k) Z.k_NoText rfl Z.iT_v ?_
 w_on
 refine OZ ?_
 w_on
 refine⟨NT ki k,.int k,rfl,Z.eft1,rfl,?_⟩
 w_on
 refine⟨[.d (.int k)],.cons (.d NR.av rfl) .nil,⟨k,rfl⟩,λc Y=>⟨.av (.d (.bool ac)),by rw[show c=_ from Y];exact Got.own rfl,?_⟩,λ_ z=>z.elim⟩
 w_on
 refine OZ ?_
 w_on
 refine⟨NT ki k,.int k,rfl,Z.eft1,rfl,?_⟩
 w_on
 rw[decide_eq_true rfl]
 w_on
 exact⟨_,Zs rfl,rfl⟩
theorem ML(C:Tz z)(N:XV z=.error k)(q:Q (.av (.d (.bool ac)))):ClR MK (λ_ c=>c=.d (.bool ac)) NP [] Q X [.av (.d (.str z)),.av (.d (.int k))] :=
 ⟨[.d (.str z),.d (.int k)],.cons (.d NR.av rfl) (.cons (.d NR.av rfl) .nil),⟨z,k,C,N,rfl⟩,λc Y=>by
  have Y:c=.d (.bool ac):=Y
  subst Y
  exact⟨_,Got.own rfl,q⟩,λ_ z=>z.elim⟩
section
variable (ws:List au)
def Rn(rs:List It)(i:Nat):Option Nat:=run rs (ws.drop i) i
noncomputable def aft(f:α->Nat->Option Nat):Pz α->Option Nat
 | .error e=>aa e
 | .ok (a,j)=>f a j
theorem Yd{f:β->Nat->Option Nat}{g:α->Nat->Pz β}:aft f (bd m g)=aft (λa j=>aft f (g a j)) m:=by
 cases m with
 | error e=>rfl
 | ok p=>obtain⟨a,j⟩:=p;rfl
theorem Xr{f:au->Nat->Option Nat}:aft f (want p ws i)=if p (shw ws i)=ac then f (shw ws i) (i+1) else aa i:=by
 unfold want
 split<;>rfl
theorem YN{f g:α->Nat->Option Nat}(h:∀ a j,f a j=g a j):aft f m=aft g m:=by
 have:f=g:=by funext a j;exact h a j
 rw[this]
theorem F9{f g:α->Nat->Option Nat}(h:∀ a j,m=.ok (a,j)->f a j=g a j):aft f m=aft g m:=by
 cases m with
 | error e=>rfl
 | ok p=>obtain⟨a,j⟩:=p;exact h a j rfl
theorem V5:ZG "" = aw/\ZE CAP "" = aw/\ZE FIG "" = aw/\ZM 9 "" = false:=by decide +kernel
theorem Eb(it:It):more it "" = none:=by
 obtain⟨J,Z,u,I⟩:=V5
 cases it with
 | wh d =>
  show begun "" d=none
  unfold begun
  rw[J,Z,if_neg (show ¬ ("" : au) = "not" by decide +kernel),if_neg (show ¬ ("" : au) = "(" by decide +kernel),if_neg (show ¬ ("" : au)∈(["some", "all"]:List au) by decide +kernel)]
  split<;>rfl
 | wo k =>
  show sing k "" = none
  unfold sing
  rw[J,Z,u,I,if_neg (λh=>absurd h.2 (show ¬ ("" : au)∈(["is", "like"]:List au) by decide +kernel)),if_neg (λh=>by cases h.2),decide_eq_false (show ¬ ("" : au)∈(["and", "or"]:List au) by decide +kernel),decide_eq_false (show ¬ ("" : au) = ")" by decide +kernel)]
  have e:([aw,aw,aw,aw,aw,aw]:List Bool).getD k aw=false:=by
   match k with
   | 0|1|2|3|4|5=>rfl
   | k+6=>rfl
  rw[e]
  split<;>rfl
 | le m =>
  show insum ac m "" = none
  unfold insum
  rw[if_neg (λh=>absurd h.1 (by decide +kernel)),if_neg (λh=>absurd h.2 (by decide +kernel)),if_neg (λh=>absurd h.2 (by decide +kernel))]
 | ri m =>
  show insum aw m "" = none
  unfold insum
  rw[if_neg (λh=>absurd h.1 (by decide +kernel)),if_neg (λh=>absurd h.2 (by decide +kernel)),if_neg (λh=>absurd h.2 (by decide +kernel))]
theorem MM(h:i<ws.length):shw ws i=ws[i]:=by
 unfold shw
 rw[bc,aR h]
 rfl
theorem Pa(h:ws.length<=i):shw ws i = "" := by
 unfold shw
 rw[bc,iF h]
 rfl
theorem SQ(h:i<ws.length):Rn ws rs i=match nxt rs (shw ws i) with
  | none=>aa i
  | some a=>Rn ws a (i+1):=by
 unfold Rn
 rw[eJ h,run,MM ws h]
 all_goals (cases nxt rs ws[i]<;>rfl)
theorem SS(h:ws.length<=i):Rn ws rs i=if ended rs=ac then none else aa i:=by
 unfold Rn
 rw[il h,run]
theorem MN{base:List It}(h:it.isRi=aw):ended (it::base)=false:=by
 cases it<;>first|rfl|cases h
theorem WW{base:List It}(J:it.isRi=aw):Rn ws (it::base) i=match more it (shw ws i) with
  | none=>aa i
  | some m=>Rn ws (m++base) (i+1):=by
 rcases cT i ws.length with h|h
 ·rw[SQ ws h,nxt]
  cases more it (shw ws i) with
  | some m=>rfl
  | none =>
   show (match (if it.isRi=ac then nxt base (shw ws i) else none) with|none=>aa i|some a=>Rn ws a (i+1))=aa i
   rw[J]
   rfl
 ·rw[SS ws h,Pa ws h,Eb,MN J]
  rfl
def Vk:List It->Prop
 | it::_=>it.isRi=aw
 | []=>True
theorem MO{m:Nat}{base:List It}(w:Vk base):Rn ws (.ri m::base) i=if shw ws i = "+" /\ m<3 then Rn ws (.wo 0::.ri (m+1)::base) (i+1) else Rn ws base i:=by
 have K:more (.ri m) (shw ws i)=if shw ws i = "+" /\ m<3 then aa [.wo 0,.ri (m+1)] else none:=by
  show insum aw m (shw ws i)=_
  unfold insum
  split
  ·rfl
  ·rw[if_neg (λh=>by cases h.1),if_neg (λh=>by cases h.1)]
 rcases cT i ws.length with h|h
 ·rw[SQ ws h,nxt,K]
  by_cases Y:shw ws i = "+" /\ m<3
  ·rw[if_pos Y,if_pos Y];rfl
  ·rw[if_neg Y,if_neg Y,SQ ws h];rfl
 ·rw[if_neg (by rw[Pa ws h];exact λz=>absurd z.1 (by decide +kernel)),SS ws h,SS ws h]
  have:ended (.ri m::base)=ended base:=by
   cases base with
   | nil=>rfl
   | cons x l=>rw[MN (it:=x) w];rfl
  rw[this]
theorem Wv{base:List It}(h:∀ w,sing k w=yes (p w)):Rn ws (.wo k::base) i=aft (λ_ j=>Rn ws base j) (want p ws i):=by
 rw[WW ws rfl,Xr]
 show (match sing k (shw ws i) with|none=>aa i|some m=>Rn ws (m++base) (i+1))=_
 rw[h]
 unfold yes
 cases p (shw ws i)<;>rfl
theorem U9(h:k<=5)(h4:k≠4)(w:au):sing k w=yes (([ZG w,ZE CAP w,decide (w∈(["and", "or"]:List au)),decide (w = ")"),aw,ZE FIG w]:List Bool).getD k aw):=by
 unfold sing
 rw[if_neg (λz=>h4 z.1),if_neg (λz=>by omega),if_neg (by omega)]
theorem s0(w:au):sing 0 w=yes (ZG w):=U9 (by decide) (by decide) w
theorem s1(w:au):sing 1 w=yes (ZE CAP w):=U9 (by decide) (by decide) w
theorem s2(w:au):sing 2 w=yes (inL ["and", "or"] w):=U9 (by decide) (by decide) w
theorem s3(w:au):sing 3 w=yes (inL [")"] w):=by
 rw[U9 (by decide) (by decide) w]
 show yes (decide (w = ")"))=_
 unfold inL
 congr 1
 exact decide_eq_decide.mpr (by simp)
theorem s5(w:au):sing 5 w=yes (ZE FIG w):=U9 (by decide) (by decide) w
theorem Rn_4{base:List It}:Rn ws (.wo 4::base) i=aft (λ(x:au) j=>Rn ws ((if x = "like" then [.wo 1,.wo 0] else [.wo 5])++base) j) (want (inL ["is", "like"]) ws i):=by
 rw[WW ws rfl,Xr]
 show (match sing 4 (shw ws i) with|none=>aa i|some m=>Rn ws (m++base) (i+1))=_
 unfold sing inL
 by_cases h:shw ws i∈(["is", "like"]:List au)
 ·rw[if_pos ⟨rfl,h⟩,decide_eq_true h,if_pos rfl]
 ·rw[if_neg (λz=>h z.2),decide_eq_false h,if_neg (λz=>by cases z.1),if_neg (by decide)]
  rfl
theorem Rn_6{base:List It}:Rn ws (.wo 6::base) i=aft (λ_ j=>Rn ws (.ri 1::base) j) (want ZG ws i):=by
 rw[WW ws rfl,Xr]
 show (match sing 6 (shw ws i) with|none=>aa i|some m=>Rn ws (m++base) (i+1))=_
 unfold sing
 rw[if_neg (λz=>by cases z.1),if_neg (λz=>by cases z.1),if_pos (by decide)]
 cases ZG (shw ws i)<;>rfl
theorem Rn_7{base:List It}:Rn ws (.wo 7::base) i=if ZM 9 (shw ws i)=ac then Rn ws base (i+1) else aft (λ_ j=>Rn ws (.ri 1::base) j) (want ZG ws i):=by
 rw[WW ws rfl,Xr]
 show (match sing 7 (shw ws i) with|none=>aa i|some m=>Rn ws (m++base) (i+1))=_
 unfold sing
 rw[if_neg (λz=>by cases z.1)]
 cases ZM 9 (shw ws i) with
 | true=>rw[if_pos ⟨rfl,rfl⟩,if_pos rfl];rfl
 | false =>
  rw[if_neg (λz=>by cases z.2),if_pos (by decide),if_neg ap]
  cases ZG (shw ws i)<;>rfl
theorem MP{base:List It}(w:Vk base):∀ (g m:Nat) (ns:List au) (j:Nat),m+g=3->Rn ws (.ri m::base) j=aft (λ_ j=>Rn ws base j) (Y0 ws g ns j)
 | 0,m,ns,j,h=>by rw[MO ws w,if_neg (λz=>by omega)];rfl
 | g+1,m,ns,j,h=>by
  rw[MO ws w,Y0]
  by_cases O:shw ws j = "+"
  ·rw[if_pos ⟨O,by omega⟩,if_pos O,Yd,Xr,O,if_pos (by decide +kernel),Yd,Wv ws s0]
   exact YN λa c=>MP w g (m+1) (ns++[a]) c (by omega)
  ·rw[if_neg (λz=>O z.1),if_neg O];rfl
theorem Ec{base:List It}:∀ (g m:Nat) (ns:List au) (j:Nat),m+g=3->ns.length=m->Rn ws (.le m::base) j=aft (λl j=>aft (λ(x:au) j=>Rn ws (.wo (if x = "=" /\ l.length=1 then 7 else 6)::base) j) (want (inL ["=", "<"]) ws j)) (Y0 ws g ns j):=by
 have fin:∀ (m:Nat) (ns:List au) (j:Nat),¬ (shw ws j = "+" /\ m<3)->ns.length=m->Rn ws (.le m::base) j=aft (λ(x:au) j=>Rn ws (.wo (if x = "=" /\ ns.length=1 then 7 else 6)::base) j) (want (inL ["=", "<"]) ws j):=λm ns j h L=>by
  rw[WW ws rfl,Xr]
  show (match insum ac m (shw ws j) with|none=>aa j|some m=>Rn ws (m++base) (j+1))=_
  unfold insum
  rw[if_neg h]
  by_cases U:shw ws j = "="
  ·have t:inL ["=", "<"] (shw ws j)=true:=by rw[U];decide +kernel
   rw[if_pos (show ac=ac/\shw ws j = "=" from ⟨rfl,U⟩),if_pos t,L]
   by_cases R:m=1
   ·rw[if_pos R,if_pos (show shw ws j = "=" /\ m=1 from ⟨U,R⟩)];rfl
   ·rw[if_neg R,if_neg (show ¬ (shw ws j = "=" /\ m=1) from λz=>R z.2)];rfl
  ·rw[if_neg (show ¬ (ac=ac/\shw ws j = "=") from λz=>U z.2)]
   by_cases R:shw ws j = "<"
   ·have t:inL ["=", "<"] (shw ws j)=true:=by rw[R];decide +kernel
    rw[if_pos (show ac=ac/\shw ws j = "<" from ⟨rfl,R⟩),if_pos t,if_neg (show ¬ (shw ws j = "=" /\ ns.length=1) from λz=>U z.1)];rfl
   ·rw[if_neg (show ¬ (ac=ac/\shw ws j = "<") from λz=>R z.2),if_neg (show ¬ inL ["=", "<"] (shw ws j)=ac from λz=>by
     have:=XU.mp z
     simp at this
     exact this.elim U R)]
 intro g
 induction g with
 | zero =>
  intro m ns j h L
  rw[fin m ns j (λz=>by omega) L]
  rfl
 | succ g B =>
  intro m ns j h L
  rw[Y0]
  by_cases O:shw ws j = "+"
  ·rw[if_pos O,Yd,Xr,O,if_pos (by decide +kernel),Yd,WW ws rfl]
   show (match insum ac m (shw ws j) with|none=>aa j|some m=>Rn ws (m++base) (j+1))=_
   unfold insum
   rw[if_pos ⟨O,by omega⟩]
   show Rn ws (.wo 0::.le (m+1)::base) (j+1)=_
   rw[Wv ws s0]
   exact YN λa c=>B (m+1) (ns++[a]) c (by omega) (by rw[aO,L];rfl)
  ·rw[if_neg O,fin m ns j (λz=>O z.1) L];rfl
theorem Ed{base:List It}(w:Vk base):aft (λ_ j=>Rn ws (.ri 1::base) j) (want ZG ws i)=aft (λ_ j=>Rn ws base j) (Y7 ws i):=by
 unfold Y7
 rw[Yd]
 exact YN λa j=>MP ws w 2 1 [a] j rfl
theorem Ee{base:List It}(w:Vk base):aft (λ_ j=>Rn ws (.le 1::base) j) (want ZG ws i)=aft (λ_ j=>Rn ws base j) (YK ws i):=by
 unfold YK Y7
 rw[Yd,Yd]
 refine YN λn j=>?_
 rw[Ec ws 2 1 [n] j rfl rfl]
 refine YN λl j=>?_
 rw[Yd]
 refine YN λx j=>?_
 have k:Rn ws (.wo 6::base) j=aft (λ_ j=>Rn ws base j) (bd (bd (want ZG ws j) λn j=>Y0 ws 2 [n] j) λr j=>.ok (Stm.su l r x,j)):=by
  rw[Rn_6,Ed ws w,Yd]
  exact YN λ_ _=>rfl
 by_cases U:x = "=" /\ l.length=1
 ·rw[if_pos U,Rn_7]
  by_cases R:ZM 9 (shw ws j)=ac
  ·rw[if_pos R,if_pos ⟨U.1,U.2,R⟩,Yd,Xr,if_pos R];rfl
  ·rw[if_neg R,if_neg (λz=>R z.2.2),<- Rn_6,k]
 ·rw[if_neg U,if_neg (λz=>U ⟨z.1,z.2.1⟩),k]
theorem Ef{base:List It}(h:ZE CAP (shw ws i)=ac):Rn ws (.wo 0::.wo 4::base) (i+1)=aft (λ_ j=>Rn ws base j) (YJ ws i):=by
 unfold YJ
 rw[Yd,Xr,if_pos h,Yd,Wv ws s0]
 refine YN λn j=>?_
 rw[Yd,Rn_4]
 refine F9 λx j W=>?_
 have W:=XU.mp (Yo W).2.2
 have W:x = "is" \/ x = "like" := by simpa using W
 rcases W with rfl|rfl
 ·rw[if_neg (show ¬ ("is" : au) = "like" by decide +kernel),if_pos rfl,Yd]
  show Rn ws (.wo 5::base) j=_
  rw[Wv ws s5]
  exact YN λ_ _=>rfl
 ·rw[if_pos rfl,if_neg (show ¬ ("like" : au) = "is" by decide +kernel),Yd]
  show Rn ws (.wo 1::.wo 0::base) j=_
  rw[Wv ws s1]
  refine YN λo j=>?_
  rw[Wv ws s0,Yd]
  exact YN λ_ _=>rfl
theorem Ta:∀ (f:Nat) (base:List It) (i:Nat),f<=8->Vk base->Rn ws (.wh (9-f)::base) i=aft (λ_ j=>Rn ws base j) (ZH ws f i)
 | 0,base,i,_,nb=>by
  rw[WW ws rfl]
  show (match begun (shw ws i) 9 with|none=>aa i|some m=>Rn ws (m++base) (i+1))=_
  unfold begun
  rw[if_pos (by decide)]
  rfl
 | f+1,base,i,hf,nb=>by
  have T:9-(f+1)=8-f:=by omega
  have M:8-f+1=9-f:=by omega
  rw[WW ws rfl,T,ZH]
  show (match begun (shw ws i) (8-f) with|none=>aa i|some m=>Rn ws (m++base) (i+1))=_
  unfold begun
  rw[if_neg (by omega),M]
  by_cases U:shw ws i = "not"
  ·rw[if_pos U,if_pos U,Yd,Xr,if_pos (by rw[U];decide +kernel),Yd]
   show Rn ws (.wh (9-f)::base) (i+1)=_
   rw[Ta f base (i+1) (by omega) nb]
   exact YN λ_ _=>rfl
  rw[if_neg U,if_neg U]
  by_cases R:shw ws i = "("
  ·rw[if_pos R,if_pos R]
   unfold YV
   rw[Yd,Xr,if_pos (by rw[R];decide +kernel),Yd]
   show Rn ws (.wh (9-f)::.wo 2::.wh (9-f)::.wo 3::base) (i+1)=_
   rw[Ta f (.wo 2::.wh (9-f)::.wo 3::base) (i+1) (by omega) (show Vk (.wo 2::_) from rfl)]
   refine YN λa j=>?_
   rw[Wv ws s2,Yd]
   refine YN λx j=>?_
   rw[Ta f (.wo 3::base) j (by omega) (show Vk (.wo 3::_) from rfl),Yd]
   refine YN λb j=>?_
   rw[Wv ws s3,Yd]
   exact YN λ_ _=>rfl
  rw[if_neg R,if_neg R]
  by_cases S:shw ws i∈(["some", "all"]:List au)
  ·rw[if_pos S,if_pos S]
   unfold Y8
   rw[Yd,Xr,if_pos (XU.mpr S),Yd]
   show Rn ws (.wo 0::.wh (9-f)::base) (i+1)=_
   rw[Wv ws s0]
   refine YN λn j=>?_
   rw[Ta f base j (by omega) nb,Yd]
   exact YN λ_ _=>rfl
  rw[if_neg S,if_neg S]
  by_cases F:ZE CAP (shw ws i)=ac
  ·rw[if_pos F,if_pos F]
   exact Ef ws F
  rw[if_neg F,if_neg F,<- Ee ws nb,Xr]
  by_cases Y:ZG (shw ws i)=ac
  ·rw[if_pos Y,if_pos Y];rfl
  ·rw[if_neg Y,if_neg Y]
end
theorem Eg(z:au):(∃ k,run [.wh 1] (Z3 z) 0=aa k/\XV z=.error k)\/∃ t j,run [.wh 1] (Z3 z) 0=none/\XV z=.ok t/\ZH (Z3 z) 8 0=.ok (t,j)/\(Z3 z).length<=j:=by
 have h:run [.wh 1] (Z3 z) 0=_:=Ta (Z3 z) 8 [] 0 (ar _) trivial
 unfold XV
 cases e:ZH (Z3 z) 8 0 with
 | error k =>
  rw[e] at h
  exact .inl ⟨k,h,rfl⟩
 | ok p =>
  obtain⟨t,j⟩:=p
  rw[e] at h
  have h:run [.wh 1] (Z3 z) 0=Rn (Z3 z) [] j:=h
  rcases cT j (Z3 z).length with l|l
  ·rw[SQ (Z3 z) l] at h
   exact .inl ⟨j,h,if_pos l⟩
  ·rw[SS (Z3 z) l] at h
   exact .inr ⟨t,j,h,if_neg (by omega),rfl,l⟩
theorem MQ(ds:List Nat)(c:Nat):aZ (ds++[c])=aZ ds*10+(c-48):=by
 unfold aZ
 rw[List.foldl_append]
 rfl
theorem MR{d:Nat}(h:d<10):(f_ d).toNat=d+48:=by
 have H:∀ n:Fin 10,(f_ n.1).toNat=n.1+48:=by decide +kernel
 exact H ⟨d,h⟩
theorem Eh:∀ (n:Nat) (ds:List Nat),ds.length=n+1->(∀ c∈ds,48<=c/\c<=57)->ds.head?≠aa 48->0<aZ ds/\(iC 10 (aZ ds)).map ja=ds:=by
 intro n
 induction n with
 | zero =>
  intro ds L hd m
  obtain⟨c,rfl⟩:=Wo L
  have Y:=hd c (.head _)
  have a:c≠48:=λe=>m (by rw[e];rfl)
  have e:aZ [c]=c-48:=by
   show 0*10+(c-48)=_
   omega
  rw[e,ij (by omega)]
  refine⟨by omega,?_⟩
  show [(f_ (c-48)).toNat]=[c]
  rw[MR (by omega)]
  congr 1
  omega
 | succ n B =>
  intro ds L hd m
  obtain⟨es,c,rfl⟩:∃ es c,ds=es++[c]:=⟨ds.dropLast,ds.getLast (by intro e;rw[e] at L;cases L),(gP _).symm⟩
  have r:es.length=n+1:=by rw[aO] at L;simpa using L
  have Y:=hd c (bD _ (.head _))
  obtain⟨o,E⟩:=B es r (λx W=>hd x (bS _ W)) (by
   cases es with
   | nil=>cases r
   | cons x es=>exact m)
  rw[MQ]
  refine⟨by omega,?_⟩
  rw[show aZ es*10+(c-48)=10*aZ es+(c-48) by omega,<- Nat.toDigits_append_toDigits (by decide) o (by omega),eS,E,ij (by omega)]
  show es++[(f_ (c-48)).toNat]=es++[c]
  rw[MR (by omega)]
  congr 2
  omega
theorem MS(h:∀ c∈z.cps.toList,48<=c/\c<=57)(h1:1<=z.length)(h2:z.length<=9)(W:z.cps.toList.head?≠aa 48\/z = "0"):nT (vlu z)=z:=by
 refine QT ?_
 rw[(SI h h1 h2).2,show (nT ((aZ z.cps.toList:Nat):Int)).cps.toList=(iC 10 (aZ z.cps.toList)).map ja from gM _]
 have L:z.cps.toList.length=(z.length-1)+1:=by rw[a_];show z.length=_;omega
 rcases W with W|W
 ·exact (Eh _ _ L h W).2
 ·rw[W];decide +kernel
theorem Ei:∀ (ds:List Nat),(∀ c∈ds,48<=c/\c<=57)->aZ ds<10 ^ ds.length:=by
 intro ds
 induction hn:ds.length generalizing ds with
 | zero=>intro _;rw[List.eq_nil_of_length_eq_zero hn];decide
 | succ n B =>
  intro hd
  obtain⟨es,c,rfl⟩:∃ es c,ds=es++[c]:=⟨ds.dropLast,ds.getLast (by intro e;rw[e] at hn;cases hn),(gP _).symm⟩
  have r:es.length=n:=by rw[aO] at hn;simpa using hn
  have Y:=hd c (bD _ (.head _))
  have:=B es r λx W=>hd x (bS _ W)
  rw[MQ,iD]
  omega
theorem MU(h:∀ c∈z.cps.toList,48<=c/\c<=57)(h1:1<=z.length)(h2:z.length<=9):Sn (vlu z):=by
 rw[(SI h h1 h2).2]
 have:=Ei _ h
 rw[a_] at this
 have S:10 ^ z.cps.size<=10 ^ 9:=iU (by decide) h2
 have F:(10:Nat) ^ 9=1000000000:=by decide
 refine⟨by omega,?_⟩
 have Y:(10:Int) ^ 10=10000000000:=by decide
 omega
theorem Ej(h:ZE FIG z=ac):nT (vlu z)=z/\Sn (vlu z):=by
 obtain⟨U,R⟩:=N7 h
 refine⟨MS R (by omega) (by omega) ?_,MU R (by omega) (by omega)⟩
 obtain⟨c,rfl⟩:=N6 U
 by_cases e:c=48
 ·subst e;exact .inr (by decide +kernel)
 ·exact .inl λz=>e (by simpa using z)
theorem Ek(h:ZM 9 z=ac):nT (vlu z)=z/\Sn (vlu z):=by
 obtain⟨U,R,S⟩:=Q1 h
 refine⟨MS S U R ?_,MU S U R⟩
 unfold ZM at h
 simp only[aJ] at h
 have F:=h.2.2
 split at F
 ·exact .inr (of_decide_eq_true F)
 ·rename_i q;exact .inl q
noncomputable def inter:List au->List au
 | []=>[]
 | [x]=>[x]
 | x::y::r=>x :: "+" :: inter (y::r)
noncomputable def Stm.wl:Stm->List au
 | .si row name sign=>[row,name, "is",nT sign]
 | .sl row name other second=>[row,name, "like",other,second]
 | .su l r wd=>inter l++wd::inter r
 | .pl name place=>[name, "=",nT place]
 | .no a => "not" :: a.wl
 | .bo a b=>("(" : au)::(a.wl++(("and" : au)::(b.wl++[(")" : au)])))
 | .ei a b=>("(" : au)::(a.wl++(("or" : au)::(b.wl++[(")" : au)])))
 | .so n a => "some" :: n::a.wl
 | .ev n a => "all" :: n::a.wl
theorem V6(a b c:au):(a++b)++c=a++(b++c):=QT (by rw[cf,cf,cf,cf,ck])
theorem Vl{sep:au}:∀ {a b:List au},a≠[]->b≠[]->cy sep (a++b)=cy sep a++(sep++cy sep b)
 | [x],y::r,_,_=>by
  show (x++sep)++cy sep (y::r)=x++(sep++cy sep (y::r))
  rw[V6]
 | x::y::a,b,_,hb=>by
  show (x++sep)++cy sep ((y::a)++b)=((x++sep)++cy sep (y::a))++(sep++cy sep b)
  rw[Vl (by simp) hb,V6,V6,V6]
theorem Z5{b:List au}(hb:b≠[]):cy sep (x::b)=x++(sep++cy sep b):=Vl (a:=[x]) (by simp) hb
variable{l:List au}
theorem Pd(h:l≠[]):inter l≠[]:=by
 match l,h with
 | [x],_=>simp[inter]
 | x::y::r,_=>simp[inter]
theorem El:(" + " : au) = " " ++ ("+" ++ " "):=by decide +kernel
theorem Pe:∀ {l:List au},l≠[]->cy " + " l=cy " " (inter l)
 | [x],_=>rfl
 | x::y::r,_=>by
  have B:=Pe (l:=y::r) (by simp)
  rw[inter,Z5 (b:=y::r) (by simp),Z5 (x:=x) (b := "+" :: inter (y::r)) (by simp),Z5 (x := "+") (Pd (by simp)),B,El,V6,V6]
theorem MV:∀ {l:List au} (n:au),l≠[]->inter (l++[n])=inter l++(["+",n]:List au)
 | [x],n,_=>rfl
 | x::y::r,n,_=>by
  show x :: "+" :: inter ((y::r)++[n])=x :: "+" :: (inter (y::r)++(["+",n]:List au))
  rw[MV n (by simp)]
def Stm.Ne:Stm->Prop
 | .su l r _=>l≠[]/\r≠[]
 | .no a=>a.Ne
 | .bo a b=>a.Ne/\b.Ne
 | .ei a b=>a.Ne/\b.Ne
 | .so _ a=>a.Ne
 | .ev _ a=>a.Ne
 | _=>True
theorem WX:∀ t:Stm,t.Ne->t.wl≠[]/\t.tx=cy " " t.wl
 | .si row name sign,_=>⟨by simp[Stm.wl],by rw[Stm.tx,tj];rfl⟩
 | .sl row name other second,_=>⟨by simp[Stm.wl],by rw[Stm.tx,tj];rfl⟩
 | .pl name place,_=>⟨by simp[Stm.wl],by rw[Stm.tx,tj];rfl⟩
 | .su l r wd,h=>by
  have h:l≠[]/\r≠[]:=h
  have J:=Pd h.1
  have Z:=Pd h.2
  refine⟨by simp[Stm.wl],?_⟩
  rw[Stm.tx,tj,tj,tj,Pe h.1,Pe h.2,Stm.wl,Vl J (by simp),Z5 Z,Z5 (by simp),Z5 (by simp)]
  rfl
 | .no a,h=>by
  obtain⟨n,e⟩:=WX a h
  refine⟨by simp[Stm.wl],?_⟩
  rw[Stm.tx,tj,Stm.wl,Z5 n,Z5 (by simp),e]
  rfl
 | .bo a b,h=>by
  obtain⟨J,T⟩:=WX a h.1
  obtain⟨Z,M⟩:=WX b h.2
  refine⟨by simp[Stm.wl],?_⟩
  rw[Stm.tx,tj,Stm.wl,Z5 (x := "(") (b:=[a.tx, "and",b.tx, ")"]) (by simp),Z5 (x := "(") (b:=a.wl++(("and" : au)::(b.wl++[(")" : au)]))) (by simp),Vl J (by simp),Z5 (x := "and") (b:=b.wl++[(")" : au)]) (by simp),Vl Z (by simp),Z5 (x:=a.tx) (b:=["and",b.tx, ")"]) (by simp),Z5 (x := "and") (b:=[b.tx, ")"]) (by simp),Z5 (x:=b.tx) (b:=[")"]) (by simp),T,M]
 | .ei a b,h=>by
  obtain⟨J,T⟩:=WX a h.1
  obtain⟨Z,M⟩:=WX b h.2
  refine⟨by simp[Stm.wl],?_⟩
  rw[Stm.tx,tj,Stm.wl,Z5 (x := "(") (b:=[a.tx, "or",b.tx, ")"]) (by simp),Z5 (x := "(") (b:=a.wl++(("or" : au)::(b.wl++[(")" : au)]))) (by simp),Vl J (by simp),Z5 (x := "or") (b:=b.wl++[(")" : au)]) (by simp),Vl Z (by simp),Z5 (x:=a.tx) (b:=["or",b.tx, ")"]) (by simp),Z5 (x := "or") (b:=[b.tx, ")"]) (by simp),Z5 (x:=b.tx) (b:=[")"]) (by simp),T,M]
 | .so n a,h=>by
  obtain⟨J,e⟩:=WX a h
  refine⟨by simp[Stm.wl],?_⟩
  rw[Stm.tx,tj,Stm.wl,Z5 (x := "some") (b:=[n,a.tx]) (by simp),Z5 (x := "some") (b:=n::a.wl) (by simp),Z5 (x:=n) (b:=a.wl) J,Z5 (x:=n) (b:=[a.tx]) (by simp),e]
  rfl
 | .ev n a,h=>by
  obtain⟨J,e⟩:=WX a h
  refine⟨by simp[Stm.wl],?_⟩
  rw[Stm.tx,tj,Stm.wl,Z5 (x := "all") (b:=[n,a.tx]) (by simp),Z5 (x := "all") (b:=n::a.wl) (by simp),Z5 (x:=n) (b:=a.wl) J,Z5 (x:=n) (b:=[a.tx]) (by simp),e]
  rfl
theorem Tb(hw:Wd z)(h:ZG z=ac):Nm z:=by
 unfold ZG at h
 simp only[aJ,decide_eq_true_iff] at h
 exact⟨h.2.1,hw.1⟩
theorem MW(hw:Wd z)(h:ZE CAP z=ac):Nm z:=by
 unfold ZE at h
 rw[aJ] at h
 have:=of_decide_eq_true h.1
 exact⟨by omega,hw.1⟩
theorem YX{a:au}(k:p "" = aw)(h:want p ws i=.ok (a,j)):ws.drop i=a::ws.drop j:=by
 obtain⟨rfl,rfl,O⟩:=Yo h
 rcases cT i ws.length with t|t
 ·rw[eJ t,MM ws t]
 ·rw[Pa ws t,k] at O
  cases O
theorem Yp{g:α->Nat->Pz β}{b:β}(h:bd m g=.ok (b,j)):∃ a i,m=.ok (a,i)/\g a i=.ok (b,j):=by
 cases m with
 | error e=>cases h
 | ok p=>obtain⟨a,i⟩:=p;exact⟨a,i,rfl,h⟩
theorem ST:inL ["is", "like"] "" = aw/\inL ["+"] "" = aw/\inL ["=", "<"] "" = aw/\inL ["("] "" = aw/\inL [")"] "" = aw/\inL ["and", "or"] "" = aw/\inL ["some", "all"] "" = aw/\inL ["not"] "" = false:=by decide +kernel
theorem Ww{a b:α}(h:(Except.ok (a,i):Pz α)=.ok (b,j)):a=b/\i=j:=by simpa using h
structure Rd(ws:List au)(f i:Nat)(t:Stm)(j:Nat):Prop where
 ok:t.Ok
 ne:t.Ne
 ht:t.ht<=f
 ln:t.tx.length+20<=100*2 ^ f
 dr:ws.drop i=t.wl++ws.drop j
theorem MX(f:Nat):2<=2 ^ (f+1):=by
 have:=jo (n:=f)
 rw[iD]
 omega
theorem Wx(zs:List au):(bj " " zs).length<=(zs.map (·.length)).sum+zs.length:=by
 rw[tj]
 have:=fC " " zs
 have e:(" " : au).length=1:=by decide +kernel
 rw[e] at this
 omega
theorem Em(hw:YI ws)(h:YJ ws i=.ok (t,j)):Rd ws (f+1) i t j:=by
 obtain⟨J,Z,u,I⟩:=V5
 have O:=MX f
 unfold YJ at h
 obtain⟨a,o,U,h⟩:=Yp h
 obtain⟨name,E,R,h⟩:=Yp h
 obtain⟨x,y,S,h⟩:=Yp h
 have k:=YX Z U
 have w:=YX J R
 have H:=YX ST.1 S
 have B:=MW (XT hw U) (Yo U).2.2
 have A:=Tb (XT hw R) (Yo R).2.2
 have v:=B.1
 have r:=A.1
 have W:x = "is" \/ x = "like" := by simpa using XU.mp (Yo S).2.2
 split at h
 ·rename_i W
  obtain⟨d,C,F,h⟩:=Yp h
  obtain⟨rfl,rfl⟩:=Ww h
  have g:=YX u F
  obtain⟨e,sn⟩:=Ej (Yo F).2.2
  refine⟨.si B A sn,trivial,by show 1<=f+1;omega,?_,?_⟩
  ·have:=Wx [a,name, "is",nT (vlu d)]
   have:=U1 sn
   have M:("is" : au).length=2:=by decide +kernel
   simp[M] at *
   show (bj " " [a,name, "is",nT (vlu d)]).length+20<=_
   omega
  ·rw[k,w,H,g,W]
   show _=[a,name, "is",nT (vlu d)]++_
   rw[e]
   rfl
 ·rename_i hx'
  have W:=W.resolve_left hx'
  obtain⟨c,C,F,h⟩:=Yp h
  obtain⟨b,n,Y,h⟩:=Yp h
  obtain⟨rfl,rfl⟩:=Ww h
  have g:=YX Z F
  have G:=YX J Y
  have m:=MW (XT hw F) (Yo F).2.2
  have l:=Tb (XT hw Y) (Yo Y).2.2
  have q:=m.1
  have p:=l.1
  refine⟨.sl B A m l,trivial,by show 1<=f+1;omega,?_,?_⟩
  ·have:=Wx [a,name, "like",c,b]
   have M:("like" : au).length=4:=by decide +kernel
   simp[M] at *
   show (bj " " [a,name, "like",c,b]).length+20<=_
   omega
  ·rw[k,w,H,g,G,W]
   rfl
theorem MY{ws:List au}(hw:YI ws):∀ (g:Nat) (ns:List au) (i j:Nat) (l:List au),Y0 ws g ns i=.ok (l,j)->ns≠[]->(∀ z∈ns,Nm z)->ns.length+g=3->(∀ z∈l,Nm z)/\l≠[]/\l.length<=3/\inter ns++ws.drop i=inter l++ws.drop j
 | 0,ns,i,j,l,h,hn,hm,hl=>by
  obtain⟨rfl,rfl⟩:=Ww h
  exact⟨hm,hn,by omega,rfl⟩
 | g+1,ns,i,j,l,h,hn,hm,hl=>by
  rw[Y0] at h
  split at h
  ·obtain⟨x,o,U,h⟩:=Yp h
   obtain⟨n,E,R,h⟩:=Yp h
   have k:=YX ST.2.1 U
   have w:=YX V5.1 R
   have W:x = "+" := by simpa using XU.mp (Yo U).2.2
   obtain⟨L,P,M,a⟩:=MY hw g (ns++[n]) E j l h (by simp) (λz C=>(mem_append.mp C).elim (hm z) λe=>by
    rw[mem_singleton.mp e];exact Tb (XT hw R) (Yo R).2.2) (by rw[aO];show ns.length+1+g=3;omega)
   refine⟨L,P,M,?_⟩
   rw[<- a,MV n hn,k,w,W,ck]
   rfl
  ·obtain⟨rfl,rfl⟩:=Ww h
   exact⟨hm,hn,by omega,rfl⟩
theorem MZ(hw:YI ws)(h:Y7 ws i=.ok (l,j)):(∀ z∈l,Nm z)/\l≠[]/\l.length<=3/\ws.drop i=inter l++ws.drop j:=by
 unfold Y7 at h
 obtain⟨n,o,U,h⟩:=Yp h
 have k:=YX V5.1 U
 obtain⟨L,P,M,a⟩:=MY hw 2 [n] o j l h (by simp) (λz C=>by rw[mem_singleton.mp C];exact Tb (XT hw U) (Yo U).2.2) rfl
 exact⟨L,P,M,by rw[k,<- a];rfl⟩
theorem En(hw:YI ws)(h:YK ws i=.ok (t,j)):Rd ws (f+1) i t j:=by
 obtain⟨J,Z,u,I⟩:=V5
 have O:=MX f
 unfold YK at h
 obtain⟨l,o,U,h⟩:=Yp h
 obtain⟨x,E,R,h⟩:=Yp h
 obtain⟨Q,b,v,s⟩:=MZ hw U
 have w:=YX ST.2.2.1 R
 have W:x = "=" \/ x = "<" := by simpa using XU.mp (Yo R).2.2
 split at h
 ·rename_i hc
  obtain⟨d,y,S,h⟩:=Yp h
  obtain⟨rfl,rfl⟩:=Ww h
  have H:=YX I S
  obtain⟨e,sn⟩:=Ek (Yo S).2.2
  obtain⟨n,rfl⟩:=Wo hc.2.1
  have m:=Q n (.head _)
  have K:=m.1
  refine⟨.pl m sn,trivial,by show 1<=f+1;omega,?_,?_⟩
  ·have:=Wx [n, "=",nT (vlu d)]
   have:=U1 sn
   have M:("=" : au).length=1:=by decide +kernel
   simp[M] at *
   show (bj " " [n, "=",nT (vlu d)]).length+20<=_
   omega
  ·rw[s,w,H,hc.1]
   show _=[n, "=",nT (vlu d)]++_
   rw[e]
   rfl
 ·obtain⟨r,y,S,h⟩:=Yp h
  obtain⟨rfl,rfl⟩:=Ww h
  obtain⟨p,G,L,a⟩:=MZ hw S
  have c:Nm x:=by
   rcases W with rfl|rfl
   ·exact⟨by decide +kernel,by decide +kernel⟩
   ·exact⟨by decide +kernel,by decide +kernel⟩
  refine⟨.su Q p (by omega) (by omega) c,⟨b,G⟩,by show 1<=f+1;omega,?_,?_⟩
  ·have q:=Wx [bj " + " l,x,bj " + " r]
   have A:=(Xn (sep := " + ") (m:=6) (n:=3) spc3 (λz C=>(Q z C).1) v (by decide)).2
   have k:=(Xn (sep := " + ") (m:=6) (n:=3) spc3 (λz C=>(p z C).1) L (by decide)).2
   have g:=c.1
   simp only[bp,eL,gk,ik,aS,d8] at q
   show (bj " " [bj " + " l,x,bj " + " r]).length+20<=_
   omega
  ·rw[s,w,a]
   show inter l++x::(inter r++ws.drop y)=(inter l++x::inter r)++ws.drop y
   rw[ck]
   rfl
theorem Tc{ws:List au}(hw:YI ws):∀ (f i j:Nat) (t:Stm),f<=8->ZH ws f i=.ok (t,j)->Rd ws f i t j
 | 0,i,j,t,_,h=>by cases h
 | f+1,i,j,t,hf,h=>by
  have Z:2 ^ f<=128:=iU (n:=2) (by decide) (show f<=7 by omega)
  have h1p:=jo (n:=f)
  have M:2 ^ (f+1)=2 ^ f*2:=iD ..
  have e3:("not" : au).length=3/\("(" : au).length=1/\(")" : au).length=1/\("and" : au).length=3/\("or" : au).length=2/\("some" : au).length=4/\("all" : au).length=3:=by decide +kernel
  obtain⟨P,B,e,O,N,L,J⟩:=e3
  obtain⟨A,q2,g,Q,l,I,z,q8⟩:=ST
  rw[ZH] at h
  split at h
  ·obtain⟨x,o,U,h⟩:=Yp h
   obtain⟨a,E,R,h⟩:=Yp h
   obtain⟨rfl,rfl⟩:=Ww h
   have k:=YX q8 U
   have W:x = "not" := by simpa using XU.mp (Yo U).2.2
   have r:=Tc hw f o E a (by omega) R
   have T:=r.ln
   have X:=r.ht
   refine⟨.no r.ok (by omega),r.ne,by show a.ht+1<=f+1;omega,?_,?_⟩
   ·have q:=Wx ["not",a.tx]
    simp only[bp,eL,gk,ik,aS,d8,P] at q
    show (bj " " ["not",a.tx]).length+20<=_
    omega
   ·rw[k,r.dr,W];rfl
  split at h
  ·unfold YV at h
   obtain⟨x1,o,U,h⟩:=Yp h
   obtain⟨a,E,R,h⟩:=Yp h
   obtain⟨x,y,S,h⟩:=Yp h
   obtain⟨b,C,F,h⟩:=Yp h
   obtain⟨v,i5,Y,h⟩:=Yp h
   obtain⟨rfl,rfl⟩:=Ww h
   have k:=YX Q U
   have H:=YX I S
   have G:=YX l Y
   have u:x1 = "(" := by simpa using XU.mp (Yo U).2.2
   have c:v = ")" := by simpa using XU.mp (Yo Y).2.2
   have W:x = "and" \/ x = "or" := by simpa using XU.mp (Yo S).2.2
   have r:=Tc hw f o E a (by omega) R
   have s:=Tc hw f y C b (by omega) F
   have T:=r.ln
   have X:=r.ht
   have p:=s.ln
   have sh:=s.ht
   rcases W with W|W
   ·rw[if_pos W]
    refine⟨.bo r.ok (by omega) s.ok (by omega),⟨r.ne,s.ne⟩,by show max a.ht b.ht+1<=f+1;omega,?_,?_⟩
    ·have q:=Wx ["(",a.tx, "and",b.tx, ")"]
     simp only[bp,eL,gk,ik,aS,d8,B,e,O] at q
     show (bj " " ["(",a.tx, "and",b.tx, ")"]).length+20<=_
     omega
    ·rw[k,r.dr,H,s.dr,G,u,c,W]
     show _=(("(" : au)::(a.wl++(("and" : au)::(b.wl++[(")" : au)]))))++_
     simp
   ·rw[if_neg (by rw[W];decide +kernel)]
    refine⟨.ei r.ok (by omega) s.ok (by omega),⟨r.ne,s.ne⟩,by show max a.ht b.ht+1<=f+1;omega,?_,?_⟩
    ·have q:=Wx ["(",a.tx, "or",b.tx, ")"]
     simp only[bp,eL,gk,ik,aS,d8,B,e,N] at q
     show (bj " " ["(",a.tx, "or",b.tx, ")"]).length+20<=_
     omega
    ·rw[k,r.dr,H,s.dr,G,u,c,W]
     show _=(("(" : au)::(a.wl++(("or" : au)::(b.wl++[(")" : au)]))))++_
     simp
  split at h
  ·unfold Y8 at h
   obtain⟨x,o,U,h⟩:=Yp h
   obtain⟨n,E,R,h⟩:=Yp h
   obtain⟨a,y,S,h⟩:=Yp h
   obtain⟨rfl,rfl⟩:=Ww h
   have k:=YX z U
   have w:=YX V5.1 R
   have m:=Tb (XT hw R) (Yo R).2.2
   have K:=m.1
   have W:x = "some" \/ x = "all" := by simpa using XU.mp (Yo U).2.2
   have r:=Tc hw f E y a (by omega) S
   have T:=r.ln
   have X:=r.ht
   rcases W with W|W
   ·rw[if_pos W]
    refine⟨.so m r.ok (by omega),r.ne,by show a.ht+1<=f+1;omega,?_,?_⟩
    ·have q:=Wx ["some",n,a.tx]
     simp only[bp,eL,gk,ik,aS,d8,L] at q
     show (bj " " ["some",n,a.tx]).length+20<=_
     omega
    ·rw[k,w,r.dr,W];rfl
   ·rw[if_neg (by rw[W];decide +kernel)]
    refine⟨.ev m r.ok (by omega),r.ne,by show a.ht+1<=f+1;omega,?_,?_⟩
    ·have q:=Wx ["all",n,a.tx]
     simp only[bp,eL,gk,ik,aS,d8,J] at q
     show (bj " " ["all",n,a.tx]).length+20<=_
     omega
    ·rw[k,w,r.dr,W];rfl
  split at h
  ·exact Em hw h
  ·exact En hw h
theorem Eo(C:Tz z)(h:ZH (Z3 z) 8 0=.ok (t,j))(l:(Z3 z).length<=j):t.Ok/\t.ht<=8/\t.tx=z:=by
 have r:=Tc (Q3 C) 8 0 j t (ar _) h
 refine⟨r.ok,r.ht,?_⟩
 have d:=r.dr
 rw[List.drop_zero,il l,d_] at d
 rw[(WX t r.ne).2,<- d]
 exact gj ..
theorem Ep{X:Exc->Sl->Prop}(Z:Cs K mg kt kf kg ki kh kq km kn kr kj ke gt io ko kc kl)(t:Stm)(q:Q (.av (.d (.bool ac)))):Bi K E X (X1 K) [.av (.d (t.D (CQ km kn kr kj ke gt io ko kc))),.raw (.ref kq)] Q:=by
 cases t with
 | si r n s=>exact Wj Z.ic_SignIs rfl NR.av rfl Z.st_SignIs q
 | sl r n o s=>exact Wj Z.ic_SignsLike rfl NR.av rfl Z.st_SignsLike q
 | su l r w=>exact Wj Z.ic_Sums rfl NR.av rfl Z.st_Sums q
 | pl n p=>exact Wj Z.ic_PlaceIs rfl NR.av rfl Z.st_PlaceIs q
 | no a=>exact Wj Z.ic_No rfl NR.av rfl Z.st_No q
 | bo a b=>exact Wj Z.ic_Both rfl NR.av rfl Z.st_Both q
 | ei a b=>exact Wj Z.ic_Either rfl NR.av rfl Z.st_Either q
 | so n a=>exact Wj Z.ic_Some rfl NR.av rfl Z.st_Some q
 | ev n a=>exact Wj Z.ic_Every rfl NR.av rfl Z.st_Every q
def Er(θ:au×Stm)(cs:List AV):Prop:=Tz θ.1/\XV θ.1=.ok θ.2/\cs=[.d (.str θ.1)]
theorem Es(c:Cal P w K mg base (CXE P w) k "read_statement" ["text"] [] (Sb K Mf (Mg C) (Mh CN))):Cal P w K mg base (CXE P w) k "read_statement" ["text"] [] (spF K Er λO _ c=>c=.d (O.2.D C)):=by
 obtain⟨f,a,ds,U,R⟩:=c.ex
 refine⟨f,a,ds,U.imp ?_,R⟩
 rintro vs H Q E ⟨O,t,as,r,⟨hz,ho,he⟩,q,_⟩
 refine⟨O.1,t,as,r,⟨hz,he⟩,?_,?_⟩
 ·rintro c ⟨t',ht,rfl⟩
  rw[ho] at ht
  cases ht
  exact q _ rfl
 ·rintro e ⟨k,hk,_⟩
  rw[ho] at hk
  cases hk
theorem M0(h:ns.length<=63)(q:∀ z,Tz z->Q (.av (.d (.str z)))):ClR Q8 (λ_=>Q9) NP [] Q X [.av (.d (dI ns))] :=
 ⟨[.d (dI ns)],.cons (.d NR.av rfl) .nil,⟨ns,rfl,h⟩,(by rintro c ⟨z,e,hz⟩;exact e▸⟨_,Got.own rfl,q z hz⟩),λ_ z=>z.elim⟩
theorem Et(T:Txt K mg)(B:base.BuiltinsAt mg aj)(n:∀ p∈ts0,p∈Tabs.ts){f:ah}(F:FunD K "law" "law" SB .none f fd):FnOk P w K mg base (CXE P w) 60 f fd ["_law_script"] (UA K):=by
 obtain⟨kt,kf,kg,ki,kh,kq,km,kn,kr,kj,ke,gt,io,ko,kc,kl,Z⟩:=T.cs
 have Q:(YU,Xm)∈Tabs.ts:=n _ (by simp[ts0])
 have m_text:=Mj (P:=P) (w:=w) (base:=base) T Z 8
 have c_law_grown:Cal P w K mg base _ _ _ _ _ _:=F6 T
 have c_law_spelled:Cal P w K mg base _ _ _ _ _ _:=FW T
 have c_law_bad:Cal P w K mg base _ _ _ _ _ _:=FF T
 have c_law_refused:Cal P w K mg base _ _ _ _ _ _:=F8 T Z B Q
 have c_read_statement_n:=Es (Mi (P:=P) (w:=w) T Z B Q)
 refine IU (k:=59) F VZ rfl λX A I s H E J=>?_
 refine⟨_,(Zk (ZB (i:=1) VZ.nd rfl (aK rfl) (ZR (c_law_grown.mono (by omega)) J rfl ZA (Za (pv 0) Zc)))
   (Zk (X2 (PW.pt (YE (Zr Xk (ZQ (Yt (K:=K) rfl) rfl T.n_len aV (Za (pv 0) Zc)) Ze (nomark _)) (Y2 (Zr (ZC (K:=K) rfl J.units) (Zu Z8 (Yg (ZI (K:=K) rfl J.units) (pv 0) Ze (λ_ _=>rfl)) Ze) Ze (nomark _)))))
    (Zl (ZB (i:=1) VZ.nd rfl (aK rfl) (ZR (c_law_spelled.mono (by omega)) J rfl ZA (Za (pv 0) Zc))))
    Z6)
   (Zk (ZB (i:=2) VZ.nd rfl (aK rfl) (ZR (c_law_bad.mono (by omega)) J rfl ZA (Za (XN (K:=K) rfl aX dv hL Np (pv 1) (Za Zm Zc)) Zc)))
   (Zk (Yr (Zr Tj (pv 2) Xj (nomark _))
    (Zl (Zx (Y9 (ZR (c_law_refused.mono (by omega)) J rfl ZA (Za (pv 1) (Za (pv 2) Zc))) (Y3 (ZR (c_law_refused.mono (by omega)) J rfl ZA (Za (pv 1) (Za (pv 2) Zc)))))))
    Z6)
   (Zk (ZB (i:=3) VZ.nd rfl (aK rfl) (ZR (c_read_statement_n.mono (by omega)) J rfl ZA (Za (pv 1) Zc)))
   (Zk (ZB (i:=4) VZ.nd rfl (aK rfl) (VR (pv 3) m_text (J.mono (by omega)) ZA))
   (Zl (Zx (Y9 (ZQ (Up (K:=K) rfl) rfl T.n_isinstance bf (Za (pv 3) (Za (X9 (v:=.ref kq) rfl Z.c_Statement rfl) Zc))) (Y9 (ZQ (Up (K:=K) rfl) rfl T.n_isinstance bf (Za (pv 4) (Za (Td (v:=.ty "str") rfl T.n_str cM rfl) Zc))) (Y3 (ZZ (ZC (K:=K) rfl J.units) (pv 4) (pv 1) (nomark _))))))))))))),?_⟩
 intro ns q r
 show Sv K _ _ _ [aa (.d (dI ns)),none,none,none,none] _
 k_head
 refine M0 q λm a=>?_
 refine v_s ?_
 walk_at "hd"
 k_head
 refine Xf (λo=>∃ z,Tz z/\o=[aa (.d (dI ns)),aa (gS z),none,none,none]) ?_ ?_
 case refine_2 =>
  k_head
  refine XB rfl ?_
  rw[aC]
  k_head
  refine ite2 (λh=>?_) λh=>?_
  rotate_left
  ·k_head
   exact⟨m,a,rfl⟩
  have h:=of_decide_eq_true h
  k_head
  refine YC rfl (Mn (by decide) h) (ZT.flat rfl) ?_
  k_head
  refine ite2 (λR=>?_) λR=>?_
  rotate_left
  ·k_head
   exact⟨m,a,rfl⟩
  k_head
  refine M0 q λx e=>?_
  exact v_s ⟨x,e,rfl⟩
 rintro o ⟨z,hz,rfl⟩
 have u:=hz.2
 k_head
 refine Yi ?_
 refine Zz (Nr ?_)
 k_head
 refine⟨z,rfl,NR.av,?_⟩
 k_head
 refine⟨" ",rfl,NR.av,by decide +kernel,by omega,?_⟩
 k_head
 refine⟨Z3 z,[.d (.list ((Z3 z).map .str))],.cons (.d NR.av (YW (Z3 z))) .nil,⟨Q3 hz,rfl⟩,λc Y=>⟨.av (.d (optN (run [.wh 1] (Z3 z) 0))),by
  rw[show c=_ from Y]
  exact Got.own (by cases run [.wh 1] (Z3 z) 0<;>rfl),?_⟩,λ_ z=>z.elim⟩
 rcases Eg z with⟨k,G,N⟩|⟨t,j,G,ht,O,l⟩
 ·rw[G]
  refine v_s ?_
  walk_at "hd"
  k_head
  refine Ys ?_
  k_head
  refine Sa (by rfl) ⟨_,rfl,?_⟩
  refine Xc ?_
  k_head
  refine ML hz N ?_
  k_head
  refine ML hz N ?_
  exact Zs rfl
 ·rw[G]
  obtain⟨g,S,b⟩:=Eo hz O l
  refine v_s ?_
  walk_at "hd"
  k_head
  refine Ys ?_
  k_head
  refine T8 (by rfl) ⟨_,rfl,?_⟩
  refine Y4 ?_
  k_head
  refine Yi ?_
  k_head
  refine⟨(z,t),[.d (.str z)],.cons (.d NR.av rfl) .nil,⟨hz,ht,rfl⟩,λc Y=>⟨.av (.d (t.D (CQ km kn kr kj ke gt io ko kc))),by
   rw[show c=_ from Y]
   exact Got.own (N9 _ t),?_⟩,λ_ z=>z.elim⟩
  refine v_s ?_
  walk_at "hd"
  k_head
  refine V0 ?_
  k_head
  refine⟨t,rfl,NR.av,g,S,?_⟩
  rw[b]
  refine v_s ?_
  walk_at "hd"
  k_head
  refine VH ?_
  k_head
  refine Ep Z t ?_
  k_head
  refine JG rfl ?_
  k_head
  refine ZU NR.av NR.av rfl rfl hz.1 hz.1 ?_
  rw[decide_eq_true rfl]
  exact Zs rfl
end
instance tabs0:Tabs:=⟨ts0⟩
abbrev fO (x:au)(s:er)(kV dc pm:af)(an:Option ah)(cd ct:af):=aM x x (Z2 s) (Zy s) (Zb s) .none kV dc pm an cd ct
variable{K:ay}{l:gi}
theorem Eu{w:bK}{h:bG}{mg:au->Option af}{N:ah}(X:K.In h)(G:h.Ns aj mg)(a:mg "law" = aa (.ref N))
  {t_FIGURES:iL} (g_FIGURES:aP K aj "FIGURES" = aa (aa (.str "0123456789" t_FIGURES)))
  {t_SMALL_LETTERS:iL} (g_SMALL_LETTERS:aP K aj "SMALL_LETTERS" = aa (aa (.str "abcdefghijklmnopqrstuvwxyz" t_SMALL_LETTERS)))
  {t_CAPITAL_LETTERS:iL} (g_CAPITAL_LETTERS:aP K aj "CAPITAL_LETTERS" = aa (aa (.str "ABCDEFGHIJKLMNOPQRSTUVWXYZ" t_CAPITAL_LETTERS)))
  {a_NO_NAMES:ah} {tt0_NO_NAMES tt1_NO_NAMES tt2_NO_NAMES tt3_NO_NAMES tt4_NO_NAMES tt5_NO_NAMES tt6_NO_NAMES:iL} {od_NO_NAMES:Option ah} {nq_NO_NAMES:Nat} {sl_NO_NAMES:Array (Option af)} (g_NO_NAMES:aP K aj "NO_NAMES" = aa (aa (.ref a_NO_NAMES))) (tl_NO_NAMES:K.lookup a_NO_NAMES=aa ⟨.type "tuple",od_NO_NAMES,.seq #[.str "some" tt0_NO_NAMES,.str "all" tt1_NO_NAMES,.str "not" tt2_NO_NAMES,.str "and" tt3_NO_NAMES,.str "or" tt4_NO_NAMES,.str "is" tt5_NO_NAMES,.str "like" tt6_NO_NAMES] nq_NO_NAMES,sl_NO_NAMES⟩)
  {t_LONGEST_NAME:iL} (g_LONGEST_NAME:aP K aj "LONGEST_NAME" = aa (aa (.int 6 t_LONGEST_NAME)))
  {t_MOST_FIGURES:iL} (g_MOST_FIGURES:aP K aj "MOST_FIGURES" = aa (aa (.int 9 t_MOST_FIGURES)))
  {t_MOST_IN_A_SIDE:iL} (g_MOST_IN_A_SIDE:aP K aj "MOST_IN_A_SIDE" = aa (aa (.int 3 t_MOST_IN_A_SIDE)))
  {t_DEEPEST:iL} (g_DEEPEST:aP K aj "DEEPEST" = aa (aa (.int 8 t_DEEPEST)))
  (z_ValueError:aP K aj "ValueError" = aa none)
  (z_all:aP K aj "all" = aa none)
  (z_bool:aP K aj "bool" = aa none)
  (z_enumerate:aP K aj "enumerate" = aa none)
  (z_int:aP K aj "int" = aa none)
  (z_isinstance:aP K aj "isinstance" = aa none)
  (z_len:aP K aj "len" = aa none)
  (z_list:aP K aj "list" = aa none)
  (z_range:aP K aj "range" = aa none)
  (z_str:aP K aj "str" = aa none)
  
  (a0:aP K aj "_wall" = aa (aa (.ref f0))) (l0:K.lookup f0=aa ⟨oc0,od0,.func (fO "_wall" NI kV0 dc0 pm0 an0 cd0 ct0),sl0⟩) (c0:aH K cd0 "_wall" = ac) (k0:az K (.ref f0)=ac)
  
  (a1:aP K aj "joined_text" = aa (aa (.ref f1))) (l1:K.lookup f1=aa ⟨oc1,od1,.func (fO "joined_text" Qf kV1 dc1 pm1 an1 cd1 ct1),sl1⟩) (c1:aH K cd1 "joined_text" = ac) (k1:az K (.ref f1)=ac)
  
  (a2:aP K aj "is_figure" = aa (aa (.ref f2))) (l2:K.lookup f2=aa ⟨oc2,od2,.func (fO "is_figure" Qh kV2 dc2 pm2 an2 cd2 ct2),sl2⟩) (c2:aH K cd2 "is_figure" = ac) (k2:az K (.ref f2)=ac)
  
  (a3:aP K aj "is_number" = aa (aa (.ref f3))) (l3:K.lookup f3=aa ⟨oc3,od3,.func (fO "is_number" Qi kV3 dc3 pm3 an3 cd3 ct3),sl3⟩) (c3:aH K cd3 "is_number" = ac) (k3:az K (.ref f3)=ac)
  
  (a4:aP K aj "is_name" = aa (aa (.ref f4))) (l4:K.lookup f4=aa ⟨oc4,od4,.func (fO "is_name" Qj kV4 dc4 pm4 an4 cd4 ct4),sl4⟩) (c4:aH K cd4 "is_name" = ac) (k4:az K (.ref f4)=ac)
  
  (a5:aP K aj "is_row_name" = aa (aa (.ref f5))) (l5:K.lookup f5=aa ⟨oc5,od5,.func (fO "is_row_name" Qk kV5 dc5 pm5 an5 cd5 ct5),sl5⟩) (c5:aH K cd5 "is_row_name" = ac) (k5:az K (.ref f5)=ac)
  
  (a6:aP K aj "read_sign" = aa (aa (.ref f6))) (l6:K.lookup f6=aa ⟨oc6,od6,.func (fO "read_sign" Ql kV6 dc6 pm6 an6 cd6 ct6),sl6⟩) (c6:aH K cd6 "read_sign" = ac) (k6:az K (.ref f6)=ac)
  
  (a7:aP K aj "read_side" = aa (aa (.ref f7))) (l7:K.lookup f7=aa ⟨oc7,od7,.func (fO "read_side" Qm kV7 dc7 pm7 an7 cd7 ct7),sl7⟩) (c7:aH K cd7 "read_side" = ac) (k7:az K (.ref f7)=ac)
  
  (a8:aP K aj "is_place" = aa (aa (.ref f8))) (l8:K.lookup f8=aa ⟨oc8,od8,.func (fO "is_place" Qn kV8 dc8 pm8 an8 cd8 ct8),sl8⟩) (c8:aH K cd8 "is_place" = ac) (k8:az K (.ref f8)=ac)
  
  (a9:aP K aj "read_sums" = aa (aa (.ref f9))) (l9:K.lookup f9=aa ⟨oc9,od9,.func (fO "read_sums" Qo kV9 dc9 pm9 an9 cd9 ct9),sl9⟩) (c9:aH K cd9 "read_sums" = ac) (k9:az K (.ref f9)=ac)
  
  (a10:aP K aj "read_joined" = aa (aa (.ref f10))) (l10:K.lookup f10=aa ⟨oc10,od10,.func (fO "read_joined" Qq kV10 dc10 pm10 an10 cd10 ct10),sl10⟩) (c10:aH K cd10 "read_joined" = ac) (k10:az K (.ref f10)=ac)
  
  (a11:aP K aj "read_bound" = aa (aa (.ref f11))) (l11:K.lookup f11=aa ⟨oc11,od11,.func (fO "read_bound" Qr kV11 dc11 pm11 an11 cd11 ct11),sl11⟩) (c11:aH K cd11 "read_bound" = ac) (k11:az K (.ref f11)=ac)
  
  (a12:aP K aj "read_part" = aa (aa (.ref f12))) (l12:K.lookup f12=aa ⟨oc12,od12,.func (fO "read_part" Qs kV12 dc12 pm12 an12 cd12 ct12),sl12⟩) (c12:aH K cd12 "read_part" = ac) (k12:az K (.ref f12)=ac)
  
  (a13:aP K aj "read_statement" = aa (aa (.ref f13))) (l13:K.lookup f13=aa ⟨oc13,od13,.func (fO "read_statement" Qt kV13 dc13 pm13 an13 cd13 ct13),sl13⟩) (c13:aH K cd13 "read_statement" = ac) (k13:az K (.ref f13)=ac)
  
  (a14:aP K aj "_law_cell" = aa (aa (.ref f14))) (l14:K.lookup f14=aa ⟨oc14,od14,.func (fO "_law_cell" Qw kV14 dc14 pm14 an14 cd14 ct14),sl14⟩) (c14:aH K cd14 "_law_cell" = ac) (k14:az K (.ref f14)=ac)
  
  (a15:aP K aj "_law_whole" = aa (aa (.ref f15))) (l15:K.lookup f15=aa ⟨oc15,od15,.func (fO "_law_whole" Qx kV15 dc15 pm15 an15 cd15 ct15),sl15⟩) (c15:aH K cd15 "_law_whole" = ac) (k15:az K (.ref f15)=ac)
  
  (a16:aP K aj "_law_all_in" = aa (aa (.ref f16))) (l16:K.lookup f16=aa ⟨oc16,od16,.func (fO "_law_all_in" Qy kV16 dc16 pm16 an16 cd16 ct16),sl16⟩) (c16:aH K cd16 "_law_all_in" = ac) (k16:az K (.ref f16)=ac)
  
  (a17:aP K aj "_law_name" = aa (aa (.ref f17))) (l17:K.lookup f17=aa ⟨oc17,od17,.func (fO "_law_name" Qz kV17 dc17 pm17 an17 cd17 ct17),sl17⟩) (c17:aH K cd17 "_law_name" = ac) (k17:az K (.ref f17)=ac)
  
  (a18:aP K aj "_law_number" = aa (aa (.ref f18))) (l18:K.lookup f18=aa ⟨oc18,od18,.func (fO "_law_number" QB kV18 dc18 pm18 an18 cd18 ct18),sl18⟩) (c18:aH K cd18 "_law_number" = ac) (k18:az K (.ref f18)=ac)
  
  (a19:aP K aj "_law_row" = aa (aa (.ref f19))) (l19:K.lookup f19=aa ⟨oc19,od19,.func (fO "_law_row" QC kV19 dc19 pm19 an19 cd19 ct19),sl19⟩) (c19:aH K cd19 "_law_row" = ac) (k19:az K (.ref f19)=ac)
  
  (a20:aP K aj "_law_begun" = aa (aa (.ref f20))) (l20:K.lookup f20=aa ⟨oc20,od20,.func (fO "_law_begun" QD kV20 dc20 pm20 an20 cd20 ct20),sl20⟩) (c20:aH K cd20 "_law_begun" = ac) (k20:az K (.ref f20)=ac)
  
  (a21:aP K aj "_law_single" = aa (aa (.ref f21))) (l21:K.lookup f21=aa ⟨oc21,od21,.func (fO "_law_single" QF kV21 dc21 pm21 an21 cd21 ct21),sl21⟩) (c21:aH K cd21 "_law_single" = ac) (k21:az K (.ref f21)=ac)
  
  (a22:aP K aj "_law_in_sum" = aa (aa (.ref f22))) (l22:K.lookup f22=aa ⟨oc22,od22,.func (fO "_law_in_sum" QG kV22 dc22 pm22 an22 cd22 ct22),sl22⟩) (c22:aH K cd22 "_law_in_sum" = ac) (k22:az K (.ref f22)=ac)
  
  (a23:aP K aj "_law_next" = aa (aa (.ref f23))) (l23:K.lookup f23=aa ⟨oc23,od23,.func (fO "_law_next" QH kV23 dc23 pm23 an23 cd23 ct23),sl23⟩) (c23:aH K cd23 "_law_next" = ac) (k23:az K (.ref f23)=ac)
  
  (a24:aP K aj "_law_ended" = aa (aa (.ref f24))) (l24:K.lookup f24=aa ⟨oc24,od24,.func (fO "_law_ended" QI kV24 dc24 pm24 an24 cd24 ct24),sl24⟩) (c24:aH K cd24 "_law_ended" = ac) (k24:az K (.ref f24)=ac)
  
  (a25:aP K aj "_law_menu" = aa (aa (.ref f25))) (l25:K.lookup f25=aa ⟨oc25,od25,.func (fO "_law_menu" QJ kV25 dc25 pm25 an25 cd25 ct25),sl25⟩) (c25:aH K cd25 "_law_menu" = ac) (k25:az K (.ref f25)=ac)
  
  (a26:aP K aj "_law_wild" = aa (aa (.ref f26))) (l26:K.lookup f26=aa ⟨oc26,od26,.func (fO "_law_wild" QK kV26 dc26 pm26 an26 cd26 ct26),sl26⟩) (c26:aH K cd26 "_law_wild" = ac) (k26:az K (.ref f26)=ac)
  
  (a27:aP K aj "_law_last" = aa (aa (.ref f27))) (l27:K.lookup f27=aa ⟨oc27,od27,.func (fO "_law_last" QM kV27 dc27 pm27 an27 cd27 ct27),sl27⟩) (c27:aH K cd27 "_law_last" = ac) (k27:az K (.ref f27)=ac)
  
  (a28:aP K aj "_law_refused" = aa (aa (.ref f28))) (l28:K.lookup f28=aa ⟨oc28,od28,.func (fO "_law_refused" QN kV28 dc28 pm28 an28 cd28 ct28),sl28⟩) (c28:aH K cd28 "_law_refused" = ac) (k28:az K (.ref f28)=ac)
  
  (a29:aP K aj "_law_signs" = aa (aa (.ref f29))) (l29:K.lookup f29=aa ⟨oc29,od29,.func (fO "_law_signs" QO kV29 dc29 pm29 an29 cd29 ct29),sl29⟩) (c29:aH K cd29 "_law_signs" = ac) (k29:az K (.ref f29)=ac)
  
  (a30:aP K aj "_law_spelled" = aa (aa (.ref f30))) (l30:K.lookup f30=aa ⟨oc30,od30,.func (fO "_law_spelled" QP kV30 dc30 pm30 an30 cd30 ct30),sl30⟩) (c30:aH K cd30 "_law_spelled" = ac) (k30:az K (.ref f30)=ac)
  
  (a31:aP K aj "_law_grown" = aa (aa (.ref f31))) (l31:K.lookup f31=aa ⟨oc31,od31,.func (fO "_law_grown" QQ kV31 dc31 pm31 an31 cd31 ct31),sl31⟩) (c31:aH K cd31 "_law_grown" = ac) (k31:az K (.ref f31)=ac)
  
  (a32:aP K aj "_law_bad" = aa (aa (.ref f32))) (l32:K.lookup f32=aa ⟨oc32,od32,.func (fO "_law_bad" QR kV32 dc32 pm32 an32 cd32 ct32),sl32⟩) (c32:aH K cd32 "_law_bad" = ac) (k32:az K (.ref f32)=ac)
  {kt:ah} {kf:ah} {kg:ah} {ki:ah} {kh:ah} {kq:ah} {km:ah} {kn:ah} {kr:ah} {kj:ah} {ke:ah} {gt:ah} {io:ah} {ko:ah} {kc:ah} {kl:ah}
  (cc_WheelError:aP K aj "WheelError" = aa (aa (.ref kt)))
  (cc_NoLine:aP K aj "NoLine" = aa (aa (.ref kf)))
  (cc_NoMachine:aP K aj "NoMachine" = aa (aa (.ref kg)))
  (cc_NoText:aP K aj "NoText" = aa (aa (.ref ki)))
  (cc_NoName:aP K aj "NoName" = aa (aa (.ref kh)))
  (cc_Statement:aP K aj "Statement" = aa (aa (.ref kq)))
  (cc_SignIs:aP K aj "SignIs" = aa (aa (.ref km)))
  (cc_SignsLike:aP K aj "SignsLike" = aa (aa (.ref kn)))
  (cc_Sums:aP K aj "Sums" = aa (aa (.ref kr)))
  (cc_PlaceIs:aP K aj "PlaceIs" = aa (aa (.ref kj)))
  (cc_No:aP K aj "No" = aa (aa (.ref ke)))
  (cc_Both:aP K aj "Both" = aa (aa (.ref gt)))
  (cc_Either:aP K aj "Either" = aa (aa (.ref io)))
  (cc_Some:aP K aj "Some" = aa (aa (.ref ko)))
  (cc_Every:aP K aj "Every" = aa (aa (.ref kc)))
  (cc_Reading:aP K aj "Reading" = aa (aa (.ref kl)))
  {f_SignIs_init:ah} {oc_SignIs_init kV_SignIs_init dc_SignIs_init pm_SignIs_init cd_SignIs_init ct_SignIs_init:af} {od_SignIs_init an_SignIs_init:Option ah} {sl_SignIs_init:Array (Option af)} {f_SignIs_text:ah} {oc_SignIs_text kV_SignIs_text dc_SignIs_text pm_SignIs_text cd_SignIs_text ct_SignIs_text:af} {od_SignIs_text an_SignIs_text:Option ah} {sl_SignIs_text:Array (Option af)} {f_SignsLike_init:ah} {oc_SignsLike_init kV_SignsLike_init dc_SignsLike_init pm_SignsLike_init cd_SignsLike_init ct_SignsLike_init:af} {od_SignsLike_init an_SignsLike_init:Option ah} {sl_SignsLike_init:Array (Option af)} {f_SignsLike_text:ah} {oc_SignsLike_text kV_SignsLike_text dc_SignsLike_text pm_SignsLike_text cd_SignsLike_text ct_SignsLike_text:af} {od_SignsLike_text an_SignsLike_text:Option ah} {sl_SignsLike_text:Array (Option af)} {f_Sums_init:ah} {oc_Sums_init kV_Sums_init dc_Sums_init pm_Sums_init cd_Sums_init ct_Sums_init:af} {od_Sums_init an_Sums_init:Option ah} {sl_Sums_init:Array (Option af)} {f_Sums_text:ah} {oc_Sums_text kV_Sums_text dc_Sums_text pm_Sums_text cd_Sums_text ct_Sums_text:af} {od_Sums_text an_Sums_text:Option ah} {sl_Sums_text:Array (Option af)} {f_PlaceIs_init:ah} {oc_PlaceIs_init kV_PlaceIs_init dc_PlaceIs_init pm_PlaceIs_init cd_PlaceIs_init ct_PlaceIs_init:af} {od_PlaceIs_init an_PlaceIs_init:Option ah} {sl_PlaceIs_init:Array (Option af)} {f_PlaceIs_text:ah} {oc_PlaceIs_text kV_PlaceIs_text dc_PlaceIs_text pm_PlaceIs_text cd_PlaceIs_text ct_PlaceIs_text:af} {od_PlaceIs_text an_PlaceIs_text:Option ah} {sl_PlaceIs_text:Array (Option af)} {f_No_init:ah} {oc_No_init kV_No_init dc_No_init pm_No_init cd_No_init ct_No_init:af} {od_No_init an_No_init:Option ah} {sl_No_init:Array (Option af)} {f_No_text:ah} {oc_No_text kV_No_text dc_No_text pm_No_text cd_No_text ct_No_text:af} {od_No_text an_No_text:Option ah} {sl_No_text:Array (Option af)} {f_Both_init:ah} {oc_Both_init kV_Both_init dc_Both_init pm_Both_init cd_Both_init ct_Both_init:af} {od_Both_init an_Both_init:Option ah} {sl_Both_init:Array (Option af)} {f_Both_text:ah} {oc_Both_text kV_Both_text dc_Both_text pm_Both_text cd_Both_text ct_Both_text:af} {od_Both_text an_Both_text:Option ah} {sl_Both_text:Array (Option af)} {f_Either_init:ah} {oc_Either_init kV_Either_init dc_Either_init pm_Either_init cd_Either_init ct_Either_init:af} {od_Either_init an_Either_init:Option ah} {sl_Either_init:Array (Option af)} {f_Either_text:ah} {oc_Either_text kV_Either_text dc_Either_text pm_Either_text cd_Either_text ct_Either_text:af} {od_Either_text an_Either_text:Option ah} {sl_Either_text:Array (Option af)} {f_Some_init:ah} {oc_Some_init kV_Some_init dc_Some_init pm_Some_init cd_Some_init ct_Some_init:af} {od_Some_init an_Some_init:Option ah} {sl_Some_init:Array (Option af)} {f_Some_text:ah} {oc_Some_text kV_Some_text dc_Some_text pm_Some_text cd_Some_text ct_Some_text:af} {od_Some_text an_Some_text:Option ah} {sl_Some_text:Array (Option af)} {f_Every_init:ah} {oc_Every_init kV_Every_init dc_Every_init pm_Every_init cd_Every_init ct_Every_init:af} {od_Every_init an_Every_init:Option ah} {sl_Every_init:Array (Option af)} {f_Every_text:ah} {oc_Every_text kV_Every_text dc_Every_text pm_Every_text cd_Every_text ct_Every_text:af} {od_Every_text an_Every_text:Option ah} {sl_Every_text:Array (Option af)} {f_Reading_init:ah} {oc_Reading_init kV_Reading_init dc_Reading_init pm_Reading_init cd_Reading_init ct_Reading_init:af} {od_Reading_init an_Reading_init:Option ah} {sl_Reading_init:Array (Option af)} {f_Reading_shown:ah} {oc_Reading_shown kV_Reading_shown dc_Reading_shown pm_Reading_shown cd_Reading_shown ct_Reading_shown:af} {od_Reading_shown an_Reading_shown:Option ah} {sl_Reading_shown:Array (Option af)} {f_Reading_wanted:ah} {oc_Reading_wanted kV_Reading_wanted dc_Reading_wanted pm_Reading_wanted cd_Reading_wanted ct_Reading_wanted:af} {od_Reading_wanted an_Reading_wanted:Option ah} {sl_Reading_wanted:Array (Option af)} {f_Reading_one_of q_Reading_one_of:ah} {oc_Reading_one_of kV_Reading_one_of dc_Reading_one_of pm_Reading_one_of ct_Reading_one_of:af} {od_Reading_one_of an_Reading_one_of:Option ah} {sl_Reading_one_of:Array (Option af)} {f_NT:ah} {oc_NT kV_NT dc_NT pm_NT cd_NT ct_NT:af} {od_NT an_NT:Option ah} {sl_NT:Array (Option af)}
  (kk6:eZ K (.builtin "object.__class__") "__get__" = aa (aa (.builtin "getset_descriptor.__get__")))
  (kk7:fF K (.builtin "object.__class__")=aa ac)
  (pg_SignIs:bw K km cW=ac)
  (hd_SignIs:be K km=ac)
  (po_SignIs:bB K km=ac)
  (sa_SignIs:ag K (.ref km) "__setattr__" = aa (aa (.builtin "object.__setattr__")))
  (ha_SignIs:ag K (.ref km) "__class__" = aa (aa (.builtin "object.__class__")))
  (hm_SignIs:bJ K km (.type "object")=aa ac)
  (h_is_SignIs:ao K (.ref km) (.ref km)=aa ac)
  (h_na_SignIs_row:ag K (.ref km) "row" = aa none)
  (h_na_SignIs_name:ag K (.ref km) "name" = aa none)
  (h_na_SignIs_sign:ag K (.ref km) "sign" = aa none)
  (mf_SignIs_init:ag K (.ref km) "__init__" = aa (aa (.ref f_SignIs_init)))
  (mi_SignIs_init:aW K (.ref f_SignIs_init)=ac)
  (mk_SignIs_init:az K (.ref f_SignIs_init)=ac)
  (ml_SignIs_init:K.lookup f_SignIs_init=aa ⟨oc_SignIs_init,od_SignIs_init,.func (aM "__init__" "SignIs.__init__" (Z2 UE) (Zy UE) (Zb UE) .none kV_SignIs_init dc_SignIs_init pm_SignIs_init an_SignIs_init cd_SignIs_init ct_SignIs_init),sl_SignIs_init⟩)
  (mc_SignIs_init:aH K cd_SignIs_init "SignIs.__init__" = ac)
  (mm_SignIs:bP K km=ac)
  (mp_SignIs:az K (.ref km)=ac)
  (mf_SignIs_text:ag K (.ref km) "text" = aa (aa (.ref f_SignIs_text)))
  (mi_SignIs_text:aW K (.ref f_SignIs_text)=ac)
  (mk_SignIs_text:az K (.ref f_SignIs_text)=ac)
  (ml_SignIs_text:K.lookup f_SignIs_text=aa ⟨oc_SignIs_text,od_SignIs_text,.func (aM "text" "SignIs.text" (Z2 UF) (Zy UF) (Zb UF) .none kV_SignIs_text dc_SignIs_text pm_SignIs_text an_SignIs_text cd_SignIs_text ct_SignIs_text),sl_SignIs_text⟩)
  (mc_SignIs_text:aH K cd_SignIs_text "SignIs.text" = ac)
  (pg_SignsLike:bw K kn cW=ac)
  (hd_SignsLike:be K kn=ac)
  (po_SignsLike:bB K kn=ac)
  (sa_SignsLike:ag K (.ref kn) "__setattr__" = aa (aa (.builtin "object.__setattr__")))
  (ha_SignsLike:ag K (.ref kn) "__class__" = aa (aa (.builtin "object.__class__")))
  (hm_SignsLike:bJ K kn (.type "object")=aa ac)
  (h_is_SignsLike:ao K (.ref kn) (.ref kn)=aa ac)
  (h_na_SignsLike_row:ag K (.ref kn) "row" = aa none)
  (h_na_SignsLike_name:ag K (.ref kn) "name" = aa none)
  (h_na_SignsLike_other:ag K (.ref kn) "other" = aa none)
  (h_na_SignsLike_second:ag K (.ref kn) "second" = aa none)
  (mf_SignsLike_init:ag K (.ref kn) "__init__" = aa (aa (.ref f_SignsLike_init)))
  (mi_SignsLike_init:aW K (.ref f_SignsLike_init)=ac)
  (mk_SignsLike_init:az K (.ref f_SignsLike_init)=ac)
  (ml_SignsLike_init:K.lookup f_SignsLike_init=aa ⟨oc_SignsLike_init,od_SignsLike_init,.func (aM "__init__" "SignsLike.__init__" (Z2 UG) (Zy UG) (Zb UG) .none kV_SignsLike_init dc_SignsLike_init pm_SignsLike_init an_SignsLike_init cd_SignsLike_init ct_SignsLike_init),sl_SignsLike_init⟩)
  (mc_SignsLike_init:aH K cd_SignsLike_init "SignsLike.__init__" = ac)
  (mm_SignsLike:bP K kn=ac)
  (mp_SignsLike:az K (.ref kn)=ac)
  (mf_SignsLike_text:ag K (.ref kn) "text" = aa (aa (.ref f_SignsLike_text)))
  (mi_SignsLike_text:aW K (.ref f_SignsLike_text)=ac)
  (mk_SignsLike_text:az K (.ref f_SignsLike_text)=ac)
  (ml_SignsLike_text:K.lookup f_SignsLike_text=aa ⟨oc_SignsLike_text,od_SignsLike_text,.func (aM "text" "SignsLike.text" (Z2 UH) (Zy UH) (Zb UH) .none kV_SignsLike_text dc_SignsLike_text pm_SignsLike_text an_SignsLike_text cd_SignsLike_text ct_SignsLike_text),sl_SignsLike_text⟩)
  (mc_SignsLike_text:aH K cd_SignsLike_text "SignsLike.text" = ac)
  (pg_Sums:bw K kr cW=ac)
  (hd_Sums:be K kr=ac)
  (po_Sums:bB K kr=ac)
  (sa_Sums:ag K (.ref kr) "__setattr__" = aa (aa (.builtin "object.__setattr__")))
  (ha_Sums:ag K (.ref kr) "__class__" = aa (aa (.builtin "object.__class__")))
  (hm_Sums:bJ K kr (.type "object")=aa ac)
  (h_is_Sums:ao K (.ref kr) (.ref kr)=aa ac)
  (h_na_Sums_left:ag K (.ref kr) "left" = aa none)
  (h_na_Sums_right:ag K (.ref kr) "right" = aa none)
  (h_na_Sums_word:ag K (.ref kr) "word" = aa none)
  (mf_Sums_init:ag K (.ref kr) "__init__" = aa (aa (.ref f_Sums_init)))
  (mi_Sums_init:aW K (.ref f_Sums_init)=ac)
  (mk_Sums_init:az K (.ref f_Sums_init)=ac)
  (ml_Sums_init:K.lookup f_Sums_init=aa ⟨oc_Sums_init,od_Sums_init,.func (aM "__init__" "Sums.__init__" (Z2 UI) (Zy UI) (Zb UI) .none kV_Sums_init dc_Sums_init pm_Sums_init an_Sums_init cd_Sums_init ct_Sums_init),sl_Sums_init⟩)
  (mc_Sums_init:aH K cd_Sums_init "Sums.__init__" = ac)
  (mm_Sums:bP K kr=ac)
  (mp_Sums:az K (.ref kr)=ac)
  (mf_Sums_text:ag K (.ref kr) "text" = aa (aa (.ref f_Sums_text)))
  (mi_Sums_text:aW K (.ref f_Sums_text)=ac)
  (mk_Sums_text:az K (.ref f_Sums_text)=ac)
  (ml_Sums_text:K.lookup f_Sums_text=aa ⟨oc_Sums_text,od_Sums_text,.func (aM "text" "Sums.text" (Z2 UJ) (Zy UJ) (Zb UJ) .none kV_Sums_text dc_Sums_text pm_Sums_text an_Sums_text cd_Sums_text ct_Sums_text),sl_Sums_text⟩)
  (mc_Sums_text:aH K cd_Sums_text "Sums.text" = ac)
  (pg_PlaceIs:bw K kj cW=ac)
  (hd_PlaceIs:be K kj=ac)
  (po_PlaceIs:bB K kj=ac)
  (sa_PlaceIs:ag K (.ref kj) "__setattr__" = aa (aa (.builtin "object.__setattr__")))
  (ha_PlaceIs:ag K (.ref kj) "__class__" = aa (aa (.builtin "object.__class__")))
  (hm_PlaceIs:bJ K kj (.type "object")=aa ac)
  (h_is_PlaceIs:ao K (.ref kj) (.ref kj)=aa ac)
  (h_na_PlaceIs_name:ag K (.ref kj) "name" = aa none)
  (h_na_PlaceIs_place:ag K (.ref kj) "place" = aa none)
  (mf_PlaceIs_init:ag K (.ref kj) "__init__" = aa (aa (.ref f_PlaceIs_init)))
  (mi_PlaceIs_init:aW K (.ref f_PlaceIs_init)=ac)
  (mk_PlaceIs_init:az K (.ref f_PlaceIs_init)=ac)
  (ml_PlaceIs_init:K.lookup f_PlaceIs_init=aa ⟨oc_PlaceIs_init,od_PlaceIs_init,.func (aM "__init__" "PlaceIs.__init__" (Z2 UK) (Zy UK) (Zb UK) .none kV_PlaceIs_init dc_PlaceIs_init pm_PlaceIs_init an_PlaceIs_init cd_PlaceIs_init ct_PlaceIs_init),sl_PlaceIs_init⟩)
  (mc_PlaceIs_init:aH K cd_PlaceIs_init "PlaceIs.__init__" = ac)
  (mm_PlaceIs:bP K kj=ac)
  (mp_PlaceIs:az K (.ref kj)=ac)
  (mf_PlaceIs_text:ag K (.ref kj) "text" = aa (aa (.ref f_PlaceIs_text)))
  (mi_PlaceIs_text:aW K (.ref f_PlaceIs_text)=ac)
  (mk_PlaceIs_text:az K (.ref f_PlaceIs_text)=ac)
  (ml_PlaceIs_text:K.lookup f_PlaceIs_text=aa ⟨oc_PlaceIs_text,od_PlaceIs_text,.func (aM "text" "PlaceIs.text" (Z2 UL) (Zy UL) (Zb UL) .none kV_PlaceIs_text dc_PlaceIs_text pm_PlaceIs_text an_PlaceIs_text cd_PlaceIs_text ct_PlaceIs_text),sl_PlaceIs_text⟩)
  (mc_PlaceIs_text:aH K cd_PlaceIs_text "PlaceIs.text" = ac)
  (pg_No:bw K ke cW=ac)
  (hd_No:be K ke=ac)
  (po_No:bB K ke=ac)
  (sa_No:ag K (.ref ke) "__setattr__" = aa (aa (.builtin "object.__setattr__")))
  (ha_No:ag K (.ref ke) "__class__" = aa (aa (.builtin "object.__class__")))
  (hm_No:bJ K ke (.type "object")=aa ac)
  (h_is_No:ao K (.ref ke) (.ref ke)=aa ac)
  (h_na_No_one:ag K (.ref ke) "one" = aa none)
  (mf_No_init:ag K (.ref ke) "__init__" = aa (aa (.ref f_No_init)))
  (mi_No_init:aW K (.ref f_No_init)=ac)
  (mk_No_init:az K (.ref f_No_init)=ac)
  (ml_No_init:K.lookup f_No_init=aa ⟨oc_No_init,od_No_init,.func (aM "__init__" "No.__init__" (Z2 UM) (Zy UM) (Zb UM) .none kV_No_init dc_No_init pm_No_init an_No_init cd_No_init ct_No_init),sl_No_init⟩)
  (mc_No_init:aH K cd_No_init "No.__init__" = ac)
  (mm_No:bP K ke=ac)
  (mp_No:az K (.ref ke)=ac)
  (mf_No_text:ag K (.ref ke) "text" = aa (aa (.ref f_No_text)))
  (mi_No_text:aW K (.ref f_No_text)=ac)
  (mk_No_text:az K (.ref f_No_text)=ac)
  (ml_No_text:K.lookup f_No_text=aa ⟨oc_No_text,od_No_text,.func (aM "text" "No.text" (Z2 UN) (Zy UN) (Zb UN) .none kV_No_text dc_No_text pm_No_text an_No_text cd_No_text ct_No_text),sl_No_text⟩)
  (mc_No_text:aH K cd_No_text "No.text" = ac)
  (pg_Both:bw K gt cW=ac)
  (hd_Both:be K gt=ac)
  (po_Both:bB K gt=ac)
  (sa_Both:ag K (.ref gt) "__setattr__" = aa (aa (.builtin "object.__setattr__")))
  (ha_Both:ag K (.ref gt) "__class__" = aa (aa (.builtin "object.__class__")))
  (hm_Both:bJ K gt (.type "object")=aa ac)
  (h_is_Both:ao K (.ref gt) (.ref gt)=aa ac)
  (h_na_Both_one:ag K (.ref gt) "one" = aa none)
  (h_na_Both_other:ag K (.ref gt) "other" = aa none)
  (mf_Both_init:ag K (.ref gt) "__init__" = aa (aa (.ref f_Both_init)))
  (mi_Both_init:aW K (.ref f_Both_init)=ac)
  (mk_Both_init:az K (.ref f_Both_init)=ac)
  (ml_Both_init:K.lookup f_Both_init=aa ⟨oc_Both_init,od_Both_init,.func (aM "__init__" "Both.__init__" (Z2 UO) (Zy UO) (Zb UO) .none kV_Both_init dc_Both_init pm_Both_init an_Both_init cd_Both_init ct_Both_init),sl_Both_init⟩)
  (mc_Both_init:aH K cd_Both_init "Both.__init__" = ac)
  (mm_Both:bP K gt=ac)
  (mp_Both:az K (.ref gt)=ac)
  (mf_Both_text:ag K (.ref gt) "text" = aa (aa (.ref f_Both_text)))
  (mi_Both_text:aW K (.ref f_Both_text)=ac)
  (mk_Both_text:az K (.ref f_Both_text)=ac)
  (ml_Both_text:K.lookup f_Both_text=aa ⟨oc_Both_text,od_Both_text,.func (aM "text" "Both.text" (Z2 UP) (Zy UP) (Zb UP) .none kV_Both_text dc_Both_text pm_Both_text an_Both_text cd_Both_text ct_Both_text),sl_Both_text⟩)
  (mc_Both_text:aH K cd_Both_text "Both.text" = ac)
  (pg_Either:bw K io cW=ac)
  (hd_Either:be K io=ac)
  (po_Either:bB K io=ac)
  (sa_Either:ag K (.ref io) "__setattr__" = aa (aa (.builtin "object.__setattr__")))
  (ha_Either:ag K (.ref io) "__class__" = aa (aa (.builtin "object.__class__")))
  (hm_Either:bJ K io (.type "object")=aa ac)
  (h_is_Either:ao K (.ref io) (.ref io)=aa ac)
  (h_na_Either_one:ag K (.ref io) "one" = aa none)
  (h_na_Either_other:ag K (.ref io) "other" = aa none)
  (mf_Either_init:ag K (.ref io) "__init__" = aa (aa (.ref f_Either_init)))
  (mi_Either_init:aW K (.ref f_Either_init)=ac)
  (mk_Either_init:az K (.ref f_Either_init)=ac)
  (ml_Either_init:K.lookup f_Either_init=aa ⟨oc_Either_init,od_Either_init,.func (aM "__init__" "Either.__init__" (Z2 UQ) (Zy UQ) (Zb UQ) .none kV_Either_init dc_Either_init pm_Either_init an_Either_init cd_Either_init ct_Either_init),sl_Either_init⟩)
  (mc_Either_init:aH K cd_Either_init "Either.__init__" = ac)
  (mm_Either:bP K io=ac)
  (mp_Either:az K (.ref io)=ac)
  (mf_Either_text:ag K (.ref io) "text" = aa (aa (.ref f_Either_text)))
  (mi_Either_text:aW K (.ref f_Either_text)=ac)
  (mk_Either_text:az K (.ref f_Either_text)=ac)
  (ml_Either_text:K.lookup f_Either_text=aa ⟨oc_Either_text,od_Either_text,.func (aM "text" "Either.text" (Z2 UR) (Zy UR) (Zb UR) .none kV_Either_text dc_Either_text pm_Either_text an_Either_text cd_Either_text ct_Either_text),sl_Either_text⟩)
  (mc_Either_text:aH K cd_Either_text "Either.text" = ac)
  (pg_Some:bw K ko cW=ac)
  (hd_Some:be K ko=ac)
  (po_Some:bB K ko=ac)
  (sa_Some:ag K (.ref ko) "__setattr__" = aa (aa (.builtin "object.__setattr__")))
  (ha_Some:ag K (.ref ko) "__class__" = aa (aa (.builtin "object.__class__")))
  (hm_Some:bJ K ko (.type "object")=aa ac)
  (h_is_Some:ao K (.ref ko) (.ref ko)=aa ac)
  (h_na_Some_name:ag K (.ref ko) "name" = aa none)
  (h_na_Some_one:ag K (.ref ko) "one" = aa none)
  (mf_Some_init:ag K (.ref ko) "__init__" = aa (aa (.ref f_Some_init)))
  (mi_Some_init:aW K (.ref f_Some_init)=ac)
  (mk_Some_init:az K (.ref f_Some_init)=ac)
  (ml_Some_init:K.lookup f_Some_init=aa ⟨oc_Some_init,od_Some_init,.func (aM "__init__" "Some.__init__" (Z2 US) (Zy US) (Zb US) .none kV_Some_init dc_Some_init pm_Some_init an_Some_init cd_Some_init ct_Some_init),sl_Some_init⟩)
  (mc_Some_init:aH K cd_Some_init "Some.__init__" = ac)
  (mm_Some:bP K ko=ac)
  (mp_Some:az K (.ref ko)=ac)
  (mf_Some_text:ag K (.ref ko) "text" = aa (aa (.ref f_Some_text)))
  (mi_Some_text:aW K (.ref f_Some_text)=ac)
  (mk_Some_text:az K (.ref f_Some_text)=ac)
  (ml_Some_text:K.lookup f_Some_text=aa ⟨oc_Some_text,od_Some_text,.func (aM "text" "Some.text" (Z2 UT) (Zy UT) (Zb UT) .none kV_Some_text dc_Some_text pm_Some_text an_Some_text cd_Some_text ct_Some_text),sl_Some_text⟩)
  (mc_Some_text:aH K cd_Some_text "Some.text" = ac)
  (pg_Every:bw K kc cW=ac)
  (hd_Every:be K kc=ac)
  (po_Every:bB K kc=ac)
  (sa_Every:ag K (.ref kc) "__setattr__" = aa (aa (.builtin "object.__setattr__")))
  (ha_Every:ag K (.ref kc) "__class__" = aa (aa (.builtin "object.__class__")))
  (hm_Every:bJ K kc (.type "object")=aa ac)
  (h_is_Every:ao K (.ref kc) (.ref kc)=aa ac)
  (h_na_Every_name:ag K (.ref kc) "name" = aa none)
  (h_na_Every_one:ag K (.ref kc) "one" = aa none)
  (mf_Every_init:ag K (.ref kc) "__init__" = aa (aa (.ref f_Every_init)))
  (mi_Every_init:aW K (.ref f_Every_init)=ac)
  (mk_Every_init:az K (.ref f_Every_init)=ac)
  (ml_Every_init:K.lookup f_Every_init=aa ⟨oc_Every_init,od_Every_init,.func (aM "__init__" "Every.__init__" (Z2 UU) (Zy UU) (Zb UU) .none kV_Every_init dc_Every_init pm_Every_init an_Every_init cd_Every_init ct_Every_init),sl_Every_init⟩)
  (mc_Every_init:aH K cd_Every_init "Every.__init__" = ac)
  (mm_Every:bP K kc=ac)
  (mp_Every:az K (.ref kc)=ac)
  (mf_Every_text:ag K (.ref kc) "text" = aa (aa (.ref f_Every_text)))
  (mi_Every_text:aW K (.ref f_Every_text)=ac)
  (mk_Every_text:az K (.ref f_Every_text)=ac)
  (ml_Every_text:K.lookup f_Every_text=aa ⟨oc_Every_text,od_Every_text,.func (aM "text" "Every.text" (Z2 UV) (Zy UV) (Zb UV) .none kV_Every_text dc_Every_text pm_Every_text an_Every_text cd_Every_text ct_Every_text),sl_Every_text⟩)
  (mc_Every_text:aH K cd_Every_text "Every.text" = ac)
  (pg_Reading:bw K kl cW=ac)
  (hd_Reading:be K kl=ac)
  (po_Reading:bB K kl=ac)
  (sa_Reading:ag K (.ref kl) "__setattr__" = aa (aa (.builtin "object.__setattr__")))
  (ha_Reading:ag K (.ref kl) "__class__" = aa (aa (.builtin "object.__class__")))
  (hm_Reading:bJ K kl (.type "object")=aa ac)
  (h_na_Reading_words:ag K (.ref kl) "words" = aa none)
  (h_na_Reading_at:ag K (.ref kl) "at" = aa none)
  (mf_Reading_init:ag K (.ref kl) "__init__" = aa (aa (.ref f_Reading_init)))
  (mi_Reading_init:aW K (.ref f_Reading_init)=ac)
  (mk_Reading_init:az K (.ref f_Reading_init)=ac)
  (ml_Reading_init:K.lookup f_Reading_init=aa ⟨oc_Reading_init,od_Reading_init,.func (aM "__init__" "Reading.__init__" (Z2 UW) (Zy UW) (Zb UW) .none kV_Reading_init dc_Reading_init pm_Reading_init an_Reading_init cd_Reading_init ct_Reading_init),sl_Reading_init⟩)
  (mc_Reading_init:aH K cd_Reading_init "Reading.__init__" = ac)
  (mm_Reading:bP K kl=ac)
  (mp_Reading:az K (.ref kl)=ac)
  (mf_Reading_shown:ag K (.ref kl) "shown" = aa (aa (.ref f_Reading_shown)))
  (mi_Reading_shown:aW K (.ref f_Reading_shown)=ac)
  (mk_Reading_shown:az K (.ref f_Reading_shown)=ac)
  (ml_Reading_shown:K.lookup f_Reading_shown=aa ⟨oc_Reading_shown,od_Reading_shown,.func (aM "shown" "Reading.shown" (Z2 UX) (Zy UX) (Zb UX) .none kV_Reading_shown dc_Reading_shown pm_Reading_shown an_Reading_shown cd_Reading_shown ct_Reading_shown),sl_Reading_shown⟩)
  (mc_Reading_shown:aH K cd_Reading_shown "Reading.shown" = ac)
  (mf_Reading_wanted:ag K (.ref kl) "wanted" = aa (aa (.ref f_Reading_wanted)))
  (mi_Reading_wanted:aW K (.ref f_Reading_wanted)=ac)
  (mk_Reading_wanted:az K (.ref f_Reading_wanted)=ac)
  (ml_Reading_wanted:K.lookup f_Reading_wanted=aa ⟨oc_Reading_wanted,od_Reading_wanted,.func (aM "wanted" "Reading.wanted" (Z2 UY) (Zy UY) (Zb UY) .none kV_Reading_wanted dc_Reading_wanted pm_Reading_wanted an_Reading_wanted cd_Reading_wanted ct_Reading_wanted),sl_Reading_wanted⟩)
  (mc_Reading_wanted:aH K cd_Reading_wanted "Reading.wanted" = ac)
  (mf_Reading_one_of:ag K (.ref kl) "one_of" = aa (aa (.ref f_Reading_one_of)))
  (mi_Reading_one_of:aW K (.ref f_Reading_one_of)=ac)
  (mk_Reading_one_of:az K (.ref f_Reading_one_of)=ac)
  (ml_Reading_one_of:K.lookup f_Reading_one_of=aa ⟨oc_Reading_one_of,od_Reading_one_of,.func (aM "one_of" "Reading.one_of" (Z2 Xl) (Zy Xl) (Zb Xl) .none kV_Reading_one_of dc_Reading_one_of pm_Reading_one_of an_Reading_one_of (.ref q_Reading_one_of) ct_Reading_one_of),sl_Reading_one_of⟩)
  (mc_Reading_one_of:aH K (.ref q_Reading_one_of) "Reading.one_of" = ac)
  (mt_Reading_one_of:dQ K q_Reading_one_of YU=ac)
  (mf_NT:ag K (.ref ki) "__init__" = aa (aa (.ref f_NT)))
  (hI_NT:RX K ki [.type "ValueError",.type "Exception",.type "BaseException",.type "object"] "ValueError.__new__" f_NT=ac)
  (ml_NT:K.lookup f_NT=aa ⟨oc_NT,od_NT,.func (aM "__init__" "NoText.__init__" (Z2 UD) (Zy UD) (Zb UD) .none kV_NT dc_NT pm_NT an_NT cd_NT ct_NT),sl_NT⟩)
  (mc_NT:aH K cd_NT "NoText.__init__" = ac)
  (mk_NT:az K (.ref f_NT)=ac)
  (sa_NT:ag K (.ref ki) "__setattr__" = aa (aa (.builtin "object.__setattr__")))
  (ov_NT:RO K ki=ac)
  (tk_NT:d3 K ki "at" = aa none)
  (hd_NT:be K ki=ac)
  (no_NT:ag K (.ref ki) "at" = aa none)
  (kt1:ag K (.ref ki) "__getattribute__" = aa (aa (.builtin "BaseException.__getattribute__")))
  (kt2:ag K (.ref ki) "__getattr__" = aa none)
  (kt3:bJ K ki (.type "BaseException")=aa ac)
  (kt4:bJ K ki (.type "object")=aa ac)
  (kt5:ag K (.ref ki) "__class__" = aa (aa (.builtin "object.__class__")))
  (h_mT_We:fa K (.ref ki) (.ref kt)=aa ac)
  (h_iT_v:ao K (.ref ki) (.type "ValueError")=aa ac)
  (h_iT_T:ao K (.ref ki) (.ref ki)=aa ac)
  (h_iT_NoName:ao K (.ref ki) (.ref kh)=aa aw)
  (h_iT_NoLine:ao K (.ref ki) (.ref kf)=aa aw)
  (h_iT_NoMachine:ao K (.ref ki) (.ref kg)=aa aw)
  (h_st_SignIs:ao K (.ref km) (.ref kq)=aa ac)
  (h_st_SignsLike:ao K (.ref kn) (.ref kq)=aa ac)
  (h_st_Sums:ao K (.ref kr) (.ref kq)=aa ac)
  (h_st_PlaceIs:ao K (.ref kj) (.ref kq)=aa ac)
  (h_st_No:ao K (.ref ke) (.ref kq)=aa ac)
  (h_st_Both:ao K (.ref gt) (.ref kq)=aa ac)
  (h_st_Either:ao K (.ref io) (.ref kq)=aa ac)
  (h_st_Some:ao K (.ref ko) (.ref kq)=aa ac)
  (h_st_Every:ao K (.ref kc) (.ref kq)=aa ac)
   (aL:aP K aj "law" = aa (aa (.ref fL))) (lL:K.lookup fL=aa ⟨ocL,odL,.func (fO "law" SB kVL dcL pmL anL cdL ctL),slL⟩) (cL:aH K cdL "law" = ac) (kL:az K (.ref fL)=ac) :
  ∃ fd:cS,(∀ (s:aq) (v:af),fD s fd ⟨[v],[]⟩ [("_law_script",v)])/\∀ base:bG,K.In base->base.Ns aj mg->base.BuiltinsAt mg aj->FnOk l.prog w K mg base (CXE l.prog w) 60 N fd ["_law_script"] (UA K):=by
 have e:=a.symm.trans (bb X G aL)
 cases e
 have T:Txt K mg:=⟨R0 X G g_FIGURES,
  R0 X G g_SMALL_LETTERS,
  R0 X G g_CAPITAL_LETTERS,
  ⟨a_NO_NAMES,bb X G g_NO_NAMES,_,_,_,tl_NO_NAMES,rfl,rfl,cc (small1000 (show 7<=1000 by decide)),.cons ⟨_,rfl⟩ (.cons ⟨_,rfl⟩ (.cons ⟨_,rfl⟩ (.cons ⟨_,rfl⟩ (.cons ⟨_,rfl⟩ (.cons ⟨_,rfl⟩ (.cons ⟨_,rfl⟩ (.nil)))))))⟩,
  TL X G g_LONGEST_NAME,
  TL X G g_MOST_FIGURES,
  TL X G g_MOST_IN_A_SIDE,
  TL X G g_DEEPEST,
  bO X G z_ValueError,
  bO X G z_all,
  bO X G z_bool,
  bO X G z_enumerate,
  bO X G z_int,
  bO X G z_isinstance,
  bO X G z_len,
  bO X G z_list,
  bO X G z_range,
  bO X G z_str,
  ZS X G a0 l0 c0 k0 (ls1 (λ_=>rfl)),
  ZS X G a1 l1 c1 k1 (ls3 (λ_ _ _=>rfl)),
  ZS X G a2 l2 c2 k2 (ls1 (λ_=>rfl)),
  ZS X G a3 l3 c3 k3 (ls2 (λ_ _=>rfl)),
  ZS X G a4 l4 c4 k4 (ls1 (λ_=>rfl)),
  ZS X G a5 l5 c5 k5 (ls1 (λ_=>rfl)),
  ZS X G a6 l6 c6 k6 (ls1 (λ_=>rfl)),
  ZS X G a7 l7 c7 k7 (ls1 (λ_=>rfl)),
  ZS X G a8 l8 c8 k8 (ls1 (λ_=>rfl)),
  ZS X G a9 l9 c9 k9 (ls1 (λ_=>rfl)),
  ZS X G a10 l10 c10 k10 (ls2 (λ_ _=>rfl)),
  ZS X G a11 l11 c11 k11 (ls2 (λ_ _=>rfl)),
  ZS X G a12 l12 c12 k12 (ls2 (λ_ _=>rfl)),
  ZS X G a13 l13 c13 k13 (ls1 (λ_=>rfl)),
  ZS X G a14 l14 c14 k14 (ls2 (λ_ _=>rfl)),
  ZS X G a15 l15 c15 k15 (ls1 (λ_=>rfl)),
  ZS X G a16 l16 c16 k16 (ls2 (λ_ _=>rfl)),
  ZS X G a17 l17 c17 k17 (ls1 (λ_=>rfl)),
  ZS X G a18 l18 c18 k18 (ls1 (λ_=>rfl)),
  ZS X G a19 l19 c19 k19 (ls1 (λ_=>rfl)),
  ZS X G a20 l20 c20 k20 (ls2 (λ_ _=>rfl)),
  ZS X G a21 l21 c21 k21 (ls2 (λ_ _=>rfl)),
  ZS X G a22 l22 c22 k22 (ls3 (λ_ _ _=>rfl)),
  ZS X G a23 l23 c23 k23 (ls2 (λ_ _=>rfl)),
  ZS X G a24 l24 c24 k24 (ls1 (λ_=>rfl)),
  ZS X G a25 l25 c25 k25 (ls2 (λ_ _=>rfl)),
  ZS X G a26 l26 c26 k26 (ls1 (λ_=>rfl)),
  ZS X G a27 l27 c27 k27 (ls1 (λ_=>rfl)),
  ZS X G a28 l28 c28 k28 (ls2 (λ_ _=>rfl)),
  ZS X G a29 l29 c29 k29 (ls0 (rfl)),
  ZS X G a30 l30 c30 k30 (ls1 (λ_=>rfl)),
  ZS X G a31 l31 c31 k31 (ls1 (λ_=>rfl)),
  ZS X G a32 l32 c32 k32 (ls1 (λ_=>rfl)),
  ⟨kt,kf,kg,ki,kh,kq,km,kn,kr,kj,ke,gt,io,ko,kc,kl,⟨bb X G cc_WheelError,bb X G cc_NoLine,bb X G cc_NoMachine,bb X G cc_NoText,bb X G cc_NoName,bb X G cc_Statement,bb X G cc_SignIs,bb X G cc_SignsLike,bb X G cc_Sums,bb X G cc_PlaceIs,bb X G cc_No,bb X G cc_Both,bb X G cc_Either,bb X G cc_Some,bb X G cc_Every,bb X G cc_Reading,⟨⟨pg_SignIs,hd_SignIs,po_SignIs,sa_SignIs⟩,ha_SignIs,kk6,kk7,hm_SignIs⟩,h_is_SignIs,h_na_SignIs_row,h_na_SignIs_name,h_na_SignIs_sign,⟨f_SignIs_init,_,⟨mm_SignIs,mf_SignIs_init,mi_SignIs_init,mp_SignIs⟩,⟨⟨oc_SignIs_init,od_SignIs_init,kV_SignIs_init,dc_SignIs_init,pm_SignIs_init,an_SignIs_init,cd_SignIs_init,ct_SignIs_init,sl_SignIs_init,rfl,ml_SignIs_init,mc_SignIs_init⟩,mk_SignIs_init⟩,.all (ls4 (λ_ _ _ _=>rfl))⟩,⟨f_SignIs_text,_,⟨mf_SignIs_text,mi_SignIs_text,mk_SignIs_text⟩,⟨⟨oc_SignIs_text,od_SignIs_text,kV_SignIs_text,dc_SignIs_text,pm_SignIs_text,an_SignIs_text,cd_SignIs_text,ct_SignIs_text,sl_SignIs_text,rfl,ml_SignIs_text,mc_SignIs_text⟩,mk_SignIs_text⟩,.all (ls1 (λ_=>rfl))⟩,⟨⟨pg_SignsLike,hd_SignsLike,po_SignsLike,sa_SignsLike⟩,ha_SignsLike,kk6,kk7,hm_SignsLike⟩,h_is_SignsLike,h_na_SignsLike_row,h_na_SignsLike_name,h_na_SignsLike_other,h_na_SignsLike_second,⟨f_SignsLike_init,_,⟨mm_SignsLike,mf_SignsLike_init,mi_SignsLike_init,mp_SignsLike⟩,⟨⟨oc_SignsLike_init,od_SignsLike_init,kV_SignsLike_init,dc_SignsLike_init,pm_SignsLike_init,an_SignsLike_init,cd_SignsLike_init,ct_SignsLike_init,sl_SignsLike_init,rfl,ml_SignsLike_init,mc_SignsLike_init⟩,mk_SignsLike_init⟩,.all (ls5 (λ_ _ _ _ _=>rfl))⟩,⟨f_SignsLike_text,_,⟨mf_SignsLike_text,mi_SignsLike_text,mk_SignsLike_text⟩,⟨⟨oc_SignsLike_text,od_SignsLike_text,kV_SignsLike_text,dc_SignsLike_text,pm_SignsLike_text,an_SignsLike_text,cd_SignsLike_text,ct_SignsLike_text,sl_SignsLike_text,rfl,ml_SignsLike_text,mc_SignsLike_text⟩,mk_SignsLike_text⟩,.all (ls1 (λ_=>rfl))⟩,⟨⟨pg_Sums,hd_Sums,po_Sums,sa_Sums⟩,ha_Sums,kk6,kk7,hm_Sums⟩,h_is_Sums,h_na_Sums_left,h_na_Sums_right,h_na_Sums_word,⟨f_Sums_init,_,⟨mm_Sums,mf_Sums_init,mi_Sums_init,mp_Sums⟩,⟨⟨oc_Sums_init,od_Sums_init,kV_Sums_init,dc_Sums_init,pm_Sums_init,an_Sums_init,cd_Sums_init,ct_Sums_init,sl_Sums_init,rfl,ml_Sums_init,mc_Sums_init⟩,mk_Sums_init⟩,.all (ls4 (λ_ _ _ _=>rfl))⟩,⟨f_Sums_text,_,⟨mf_Sums_text,mi_Sums_text,mk_Sums_text⟩,⟨⟨oc_Sums_text,od_Sums_text,kV_Sums_text,dc_Sums_text,pm_Sums_text,an_Sums_text,cd_Sums_text,ct_Sums_text,sl_Sums_text,rfl,ml_Sums_text,mc_Sums_text⟩,mk_Sums_text⟩,.all (ls1 (λ_=>rfl))⟩,⟨⟨pg_PlaceIs,hd_PlaceIs,po_PlaceIs,sa_PlaceIs⟩,ha_PlaceIs,kk6,kk7,hm_PlaceIs⟩,h_is_PlaceIs,h_na_PlaceIs_name,h_na_PlaceIs_place,⟨f_PlaceIs_init,_,⟨mm_PlaceIs,mf_PlaceIs_init,mi_PlaceIs_init,mp_PlaceIs⟩,⟨⟨oc_PlaceIs_init,od_PlaceIs_init,kV_PlaceIs_init,dc_PlaceIs_init,pm_PlaceIs_init,an_PlaceIs_init,cd_PlaceIs_init,ct_PlaceIs_init,sl_PlaceIs_init,rfl,ml_PlaceIs_init,mc_PlaceIs_init⟩,mk_PlaceIs_init⟩,.all (ls3 (λ_ _ _=>rfl))⟩,⟨f_PlaceIs_text,_,⟨mf_PlaceIs_text,mi_PlaceIs_text,mk_PlaceIs_text⟩,⟨⟨oc_PlaceIs_text,od_PlaceIs_text,kV_PlaceIs_text,dc_PlaceIs_text,pm_PlaceIs_text,an_PlaceIs_text,cd_PlaceIs_text,ct_PlaceIs_text,sl_PlaceIs_text,rfl,ml_PlaceIs_text,mc_PlaceIs_text⟩,mk_PlaceIs_text⟩,.all (ls1 (λ_=>rfl))⟩,⟨⟨pg_No,hd_No,po_No,sa_No⟩,ha_No,kk6,kk7,hm_No⟩,h_is_No,h_na_No_one,⟨f_No_init,_,⟨mm_No,mf_No_init,mi_No_init,mp_No⟩,⟨⟨oc_No_init,od_No_init,kV_No_init,dc_No_init,pm_No_init,an_No_init,cd_No_init,ct_No_init,sl_No_init,rfl,ml_No_init,mc_No_init⟩,mk_No_init⟩,.all (ls2 (λ_ _=>rfl))⟩,⟨f_No_text,_,⟨mf_No_text,mi_No_text,mk_No_text⟩,⟨⟨oc_No_text,od_No_text,kV_No_text,dc_No_text,pm_No_text,an_No_text,cd_No_text,ct_No_text,sl_No_text,rfl,ml_No_text,mc_No_text⟩,mk_No_text⟩,.all (ls1 (λ_=>rfl))⟩,⟨⟨pg_Both,hd_Both,po_Both,sa_Both⟩,ha_Both,kk6,kk7,hm_Both⟩,h_is_Both,h_na_Both_one,h_na_Both_other,⟨f_Both_init,_,⟨mm_Both,mf_Both_init,mi_Both_init,mp_Both⟩,⟨⟨oc_Both_init,od_Both_init,kV_Both_init,dc_Both_init,pm_Both_init,an_Both_init,cd_Both_init,ct_Both_init,sl_Both_init,rfl,ml_Both_init,mc_Both_init⟩,mk_Both_init⟩,.all (ls3 (λ_ _ _=>rfl))⟩,⟨f_Both_text,_,⟨mf_Both_text,mi_Both_text,mk_Both_text⟩,⟨⟨oc_Both_text,od_Both_text,kV_Both_text,dc_Both_text,pm_Both_text,an_Both_text,cd_Both_text,ct_Both_text,sl_Both_text,rfl,ml_Both_text,mc_Both_text⟩,mk_Both_text⟩,.all (ls1 (λ_=>rfl))⟩,⟨⟨pg_Either,hd_Either,po_Either,sa_Either⟩,ha_Either,kk6,kk7,hm_Either⟩,h_is_Either,h_na_Either_one,h_na_Either_other,⟨f_Either_init,_,⟨mm_Either,mf_Either_init,mi_Either_init,mp_Either⟩,⟨⟨oc_Either_init,od_Either_init,kV_Either_init,dc_Either_init,pm_Either_init,an_Either_init,cd_Either_init,ct_Either_init,sl_Either_init,rfl,ml_Either_init,mc_Either_init⟩,mk_Either_init⟩,.all (ls3 (λ_ _ _=>rfl))⟩,⟨f_Either_text,_,⟨mf_Either_text,mi_Either_text,mk_Either_text⟩,⟨⟨oc_Either_text,od_Either_text,kV_Either_text,dc_Either_text,pm_Either_text,an_Either_text,cd_Either_text,ct_Either_text,sl_Either_text,rfl,ml_Either_text,mc_Either_text⟩,mk_Either_text⟩,.all (ls1 (λ_=>rfl))⟩,⟨⟨pg_Some,hd_Some,po_Some,sa_Some⟩,ha_Some,kk6,kk7,hm_Some⟩,h_is_Some,h_na_Some_name,h_na_Some_one,⟨f_Some_init,_,⟨mm_Some,mf_Some_init,mi_Some_init,mp_Some⟩,⟨⟨oc_Some_init,od_Some_init,kV_Some_init,dc_Some_init,pm_Some_init,an_Some_init,cd_Some_init,ct_Some_init,sl_Some_init,rfl,ml_Some_init,mc_Some_init⟩,mk_Some_init⟩,.all (ls3 (λ_ _ _=>rfl))⟩,⟨f_Some_text,_,⟨mf_Some_text,mi_Some_text,mk_Some_text⟩,⟨⟨oc_Some_text,od_Some_text,kV_Some_text,dc_Some_text,pm_Some_text,an_Some_text,cd_Some_text,ct_Some_text,sl_Some_text,rfl,ml_Some_text,mc_Some_text⟩,mk_Some_text⟩,.all (ls1 (λ_=>rfl))⟩,⟨⟨pg_Every,hd_Every,po_Every,sa_Every⟩,ha_Every,kk6,kk7,hm_Every⟩,h_is_Every,h_na_Every_name,h_na_Every_one,⟨f_Every_init,_,⟨mm_Every,mf_Every_init,mi_Every_init,mp_Every⟩,⟨⟨oc_Every_init,od_Every_init,kV_Every_init,dc_Every_init,pm_Every_init,an_Every_init,cd_Every_init,ct_Every_init,sl_Every_init,rfl,ml_Every_init,mc_Every_init⟩,mk_Every_init⟩,.all (ls3 (λ_ _ _=>rfl))⟩,⟨f_Every_text,_,⟨mf_Every_text,mi_Every_text,mk_Every_text⟩,⟨⟨oc_Every_text,od_Every_text,kV_Every_text,dc_Every_text,pm_Every_text,an_Every_text,cd_Every_text,ct_Every_text,sl_Every_text,rfl,ml_Every_text,mc_Every_text⟩,mk_Every_text⟩,.all (ls1 (λ_=>rfl))⟩,⟨⟨pg_Reading,hd_Reading,po_Reading,sa_Reading⟩,ha_Reading,kk6,kk7,hm_Reading⟩,h_na_Reading_words,h_na_Reading_at,⟨f_Reading_init,_,⟨mm_Reading,mf_Reading_init,mi_Reading_init,mp_Reading⟩,⟨⟨oc_Reading_init,od_Reading_init,kV_Reading_init,dc_Reading_init,pm_Reading_init,an_Reading_init,cd_Reading_init,ct_Reading_init,sl_Reading_init,rfl,ml_Reading_init,mc_Reading_init⟩,mk_Reading_init⟩,.all (ls2 (λ_ _=>rfl))⟩,⟨f_Reading_shown,_,⟨mf_Reading_shown,mi_Reading_shown,mk_Reading_shown⟩,⟨⟨oc_Reading_shown,od_Reading_shown,kV_Reading_shown,dc_Reading_shown,pm_Reading_shown,an_Reading_shown,cd_Reading_shown,ct_Reading_shown,sl_Reading_shown,rfl,ml_Reading_shown,mc_Reading_shown⟩,mk_Reading_shown⟩,.all (ls1 (λ_=>rfl))⟩,⟨f_Reading_wanted,_,⟨mf_Reading_wanted,mi_Reading_wanted,mk_Reading_wanted⟩,⟨⟨oc_Reading_wanted,od_Reading_wanted,kV_Reading_wanted,dc_Reading_wanted,pm_Reading_wanted,an_Reading_wanted,cd_Reading_wanted,ct_Reading_wanted,sl_Reading_wanted,rfl,ml_Reading_wanted,mc_Reading_wanted⟩,mk_Reading_wanted⟩,.all (ls2 (λ_ _=>rfl))⟩,⟨f_Reading_one_of,_,q_Reading_one_of,⟨mf_Reading_one_of,mi_Reading_one_of,mk_Reading_one_of⟩,⟨⟨oc_Reading_one_of,od_Reading_one_of,kV_Reading_one_of,dc_Reading_one_of,pm_Reading_one_of,an_Reading_one_of,ct_Reading_one_of,sl_Reading_one_of,rfl,ml_Reading_one_of,mc_Reading_one_of⟩,mk_Reading_one_of⟩,.all (ls2 (λ_ _=>rfl)),mt_Reading_one_of⟩,⟨f_NT,_,Hf hI_NT,⟨⟨oc_NT,od_NT,kV_NT,dc_NT,pm_NT,an_NT,cd_NT,ct_NT,sl_NT,rfl,ml_NT,mc_NT⟩,mk_NT⟩,.all (ls2 (λ_ _=>rfl))⟩,⟨sa_NT,ov_NT,tk_NT,hd_NT⟩,⟨⟨kt1,kt2,kt3,kt4⟩,hd_NT,no_NT⟩,⟨⟨kt1,kt2,kt3,kt4⟩,kt5,kk6,kk7⟩,h_mT_We,h_iT_v,h_iT_T,h_iT_NoName,h_iT_NoLine,h_iT_NoMachine,h_st_SignIs,h_st_SignsLike,h_st_Sums,h_st_PlaceIs,h_st_No,h_st_Both,h_st_Either,h_st_Some,h_st_Every⟩⟩⟩
 exact⟨fO "law" SB kVL dcL pmL anL cdL ctL,λs v=>.of_eq rfl,λbase _ _ B=>Et T B (λ_ h=>h) ⟨⟨ocL,odL,kVL,dcL,pmL,anL,cdL,ctL,slL,rfl,lL,cL⟩,kL⟩⟩
theorem walk{q:bg}{loose:List au}{XP:(au->Option af)->bG->Prop}{YP:bK->bG->Prop}{d:DefRec}{K:Params->ay}(hn:l.most=aa 63)(B:d.params.defaults=[])
  (hY:∀ (w:bK) (h:bG),YP w h->(K w.params).In h) (hYt:∀ (w:bK) (h:bG),YP w h->∀ p∈ts0,h.get? p.1=aa (fB #[])) (hK:∀ (w:bK) (p:ah×(Nat->Nat->au)),p∈ts0->(K w.params).lookup p.1=none/\∃ c,dQ (K w.params) c p.1=ac)
  (F:∀ (w:bK) (mg:au->Option af) (N:ah) (h:bG),(K w.params).In h->h.Ns aj mg->mg d.name=aa (.ref N) ->
   ∃ fd:cS,(∀ (s:aq) (u:af),fD s fd ⟨[u],[]⟩ [("_law_script",u)])/\∀ base:bG,(K w.params).In base->base.Ns aj mg->base.BuiltinsAt mg aj->FnOk l.prog w (K w.params) mg base (CXE l.prog w) 60 N fd ["_law_script"] (UA (K w.params))) :
  iR q loose XP YP l.row.toRowW d [] (λf vs=>fP f vs) :=
 L2.IX (ts:=ts0) (n:=63) (k:=60) (x := "_law_script") (CX:=λw=>CXE l.prog w) (sp:=λw=>UA (K w.params)) (by decide) hn (by decide) B ⟨rfl,by decide,by decide⟩ hY hYt hK F (λ_ _ a ns L G b C=>⟨b,a,ns,rfl,C,L,G,λ_ m=>⟨rfl,m⟩⟩) (by rintro _ _ _ _ _ ⟨_,_,_,_,_,_,_,_,_,_,_,_,_,z⟩;exact z)
theorem Ex{C f q:ah}{oc kV e pm ct:af}{od an:Option ah}{sl:Array (Option af)}(b:aP K aj "Reading" = aa (aa (.ref C)))(a:ag K (.ref C) "one_of" = aa (aa (.ref f)))(l:K.lookup f=aa ⟨oc,od,.func (aM "one_of" "Reading.one_of" (Z2 Xl) (Zy Xl) (Zb Xl) .none kV e pm an (.ref q) ct),sl⟩)(m:dQ K q YU=ac):∃ c,dQ K c YU=true:=⟨q,m⟩
end K52
namespace PySem.W.Fast
theorem tw10385981681097693468:True:=⟨⟩
theorem tw2785573243998395755:True:=⟨⟩
theorem tw3166317829314561451:True:=⟨⟩
theorem tw11946716694110316716:True:=⟨⟩
theorem tw9726143741017771205:True:=⟨⟩
theorem tw879114720838275426:True:=⟨⟩
theorem tw9563910086709135473:True:=⟨⟩
theorem tw14564093443976569024:True:=⟨⟩
theorem tw7394127323870613986:True:=⟨⟩
theorem tw10148247866002393623:True:=⟨⟩
theorem tw2486669787607343104:True:=⟨⟩
theorem tw6954550410615309359:True:=⟨⟩
theorem tw17327390718449595201:True:=⟨⟩
theorem tw8469605491524073350:True:=⟨⟩
theorem tw5311816374540939515:True:=⟨⟩
theorem tw14404737774985380470:True:=⟨⟩
theorem tw15884962314815811297:True:=⟨⟩
theorem tw4314151925895217455:True:=⟨⟩
theorem tw856818273472843260:True:=⟨⟩
theorem tw13222293023155835670:True:=⟨⟩
theorem tw1756317464562547273:True:=⟨⟩
theorem tw1064241101455962855:True:=⟨⟩
theorem tw12836995189263585158:True:=⟨⟩
theorem tw2690704462173135881:True:=⟨⟩
theorem tw7188050728809381788:True:=⟨⟩
theorem tw2841516934140208893:True:=⟨⟩
theorem tw14145934608676617229:True:=⟨⟩
theorem tw4033472302990300354:True:=⟨⟩
theorem tw2504063239099889653:True:=⟨⟩
theorem tw14266829501620675801:True:=⟨⟩
theorem tw3606678925128091444:True:=⟨⟩
theorem tw3551926941413686354:True:=⟨⟩
theorem tw12017779057711116597:True:=⟨⟩
theorem tw9400193439268018087:True:=⟨⟩
theorem tw15068192781899639030:True:=⟨⟩
theorem tw16674444636967215948:True:=⟨⟩
theorem tw6716972102281413090:True:=⟨⟩
theorem tw14702298585570976286:True:=⟨⟩
theorem tw14658817608497497172:True:=⟨⟩
theorem tw4177518899680082142:True:=⟨⟩
theorem tw13383798447219593346:True:=⟨⟩
theorem tw15232756559959396150:True:=⟨⟩
theorem tw3880627030258571908:True:=⟨⟩
theorem tw15586418018675552062:True:=⟨⟩
theorem tw16789322204604490287:True:=⟨⟩
theorem tw2550907386638579112:True:=⟨⟩
theorem tw17871226583698328626:True:=⟨⟩
theorem tw9247187405803600675:True:=⟨⟩
theorem tw8192116562552939478:True:=⟨⟩
theorem tw17154746307782219082:True:=⟨⟩
theorem tw9774181614537044600:True:=⟨⟩
theorem tw11414710935441705792:True:=⟨⟩
theorem tw17408979779053652503:True:=⟨⟩
theorem tw13626134611894820312:True:=⟨⟩
theorem tw3148257044586496147:True:=⟨⟩
theorem tw8578960716788763882:True:=⟨⟩
theorem tw18410635307438124597:True:=⟨⟩
theorem tw16429127404851246827:True:=⟨⟩
theorem tw14684965142769898702:True:=⟨⟩
theorem tw5100318869789103125:True:=⟨⟩
theorem tw5112966952073334170:True:=⟨⟩
theorem tw3007342465385756071:True:=⟨⟩
theorem tw2237344578160979321:True:=⟨⟩
theorem tw8925536261269529008:True:=⟨⟩
theorem tw4572222394594592962:True:=⟨⟩
theorem tw17889898379566141834:True:=⟨⟩
theorem tw13937002191912105191:True:=⟨⟩
theorem tw16077859231441059399:True:=⟨⟩
theorem tw10748572184889472750:True:=⟨⟩
theorem tw9704502215373191241:True:=⟨⟩
theorem tw12509808504156656321:True:=⟨⟩
theorem tw4778269832947175480:True:=⟨⟩
theorem tw6295097624610521300:True:=⟨⟩
theorem tw2299539149777605120:True:=⟨⟩
theorem tw3462395626006808917:True:=⟨⟩
theorem tw15625822612981194070:True:=⟨⟩
theorem tw8719638771114246089:True:=⟨⟩
theorem tw4280355568248822871:True:=⟨⟩
theorem tw323465515661416044:True:=⟨⟩
theorem tw10890256867199139256:True:=⟨⟩
theorem tw13338152587527589265:True:=⟨⟩
theorem tw15174821803920975832:True:=⟨⟩
theorem tw15138122960815404799:True:=⟨⟩
theorem tw4400052824447217813:True:=⟨⟩
theorem tw32293662110408895:True:=⟨⟩
theorem tw15908461958073533655:True:=⟨⟩
theorem tw3262109889761533716:True:=⟨⟩
theorem tw17798351443136395883:True:=⟨⟩
theorem tw2638092927839719772:True:=⟨⟩
theorem tw820837804928744032:True:=⟨⟩
theorem tw7471656221283379898:True:=⟨⟩
theorem tw7233237128303457627:True:=⟨⟩
theorem tw16537181527087547169:True:=⟨⟩
theorem tw7489487512926221919:True:=⟨⟩
theorem tw11964394049952815522:True:=⟨⟩
theorem tw7753767434625771451:True:=⟨⟩
theorem tw17366746309162153996:True:=⟨⟩
theorem tw4171340733988694647:True:=⟨⟩
theorem tw3156209082303446954:True:=⟨⟩
theorem tw4133149787622865702:True:=⟨⟩
theorem tw1918323688932701224:True:=⟨⟩
theorem tw5868078946647288620:True:=⟨⟩
theorem tw3535402988765787035:True:=⟨⟩
theorem tw2238205124923423953:True:=⟨⟩
theorem tw12903863146195799021:True:=⟨⟩
theorem tw10523255418976510608:True:=⟨⟩
theorem tw1307804356228320063:True:=⟨⟩
theorem tw3696298675801525595:True:=⟨⟩
theorem tw10990173572163828915:True:=⟨⟩
theorem tw3353503277907047519:True:=⟨⟩
theorem tw14760145847620357294:True:=⟨⟩
theorem tw13302806104337063276:True:=⟨⟩
theorem tw8734135951000686627:True:=⟨⟩
theorem tw4576591654931194998:True:=⟨⟩
theorem tw9486142053189517322:True:=⟨⟩
theorem tw9067839577184724857:True:=⟨⟩
theorem tw4719620213466391281:True:=⟨⟩
theorem tw3850288949602851789:True:=⟨⟩
theorem tw563220136551537085:True:=⟨⟩
theorem tw12953812694918052973:True:=⟨⟩
theorem tw18303143965136099417:True:=⟨⟩
theorem tw17252058618708346761:True:=⟨⟩
theorem tw3138818819856968088:True:=⟨⟩
theorem tw34084865686963837:True:=⟨⟩
theorem tw11999075353739318053:True:=⟨⟩
theorem tw14980449567524400523:True:=⟨⟩
theorem tw12166169667899480733:True:=⟨⟩
theorem tw3208959524910769381:True:=⟨⟩
theorem tw13009109924710088525:True:=⟨⟩
theorem tw16411265454227621615:True:=⟨⟩
theorem tw16697101303619211995:True:=⟨⟩
theorem tw10273392139581898845:True:=⟨⟩
theorem tw17879186194465955270:True:=⟨⟩
theorem tw2955246131864172418:True:=⟨⟩
theorem tw10900676513324104546:True:=⟨⟩
theorem tw10739782320036894016:True:=⟨⟩
theorem tw5420015172691080455:True:=⟨⟩
theorem tw1595666273693061575:True:=⟨⟩
theorem tw2553964272312124163:True:=⟨⟩
theorem tw6219302060351305244:True:=⟨⟩
theorem tw8734973797272141917:True:=⟨⟩
theorem tw827599775442588310:True:=⟨⟩
theorem tw12864018826930201524:True:=⟨⟩
theorem tw10979534932028395554:True:=⟨⟩
theorem tw286479469034921105:True:=⟨⟩
theorem tw478862117131592742:True:=⟨⟩
theorem tw8904686258666475528:True:=⟨⟩
theorem tw11981218862343332243:True:=⟨⟩
theorem tw46134072791930494:True:=⟨⟩
theorem tw16354307383144283831:True:=⟨⟩
theorem tw14971317503456977309:True:=⟨⟩
theorem tw6428020394986127512:True:=⟨⟩
theorem tw18071926534422621587:True:=⟨⟩
theorem tw7963118828584299471:True:=⟨⟩
theorem tw4336285758411881967:True:=⟨⟩
theorem tw13147189688895902987:True:=⟨⟩
theorem tw13634701763543070545:True:=⟨⟩
theorem tw6848372550152641389:True:=⟨⟩
theorem tw14690520990466828836:True:=⟨⟩
theorem tw2974688376441493828:True:=⟨⟩
theorem tw12195287813894081313:True:=⟨⟩
theorem tw14637773489589050405:True:=⟨⟩
theorem tw6648641019015771578:True:=⟨⟩
theorem tw8652685212495028330:True:=⟨⟩
theorem tw4834963792458537164:True:=⟨⟩
theorem tw7246609760509890819:True:=⟨⟩
theorem tw8356691572609916974:True:=⟨⟩
theorem tw13155253739461941643:True:=⟨⟩
theorem tw8994410495752192257:True:=⟨⟩
theorem tw16834895690865719512:True:=⟨⟩
theorem tw11671783767358351037:True:=⟨⟩
theorem tw11849142790668583646:True:=⟨⟩
theorem tw7271948374082723872:True:=⟨⟩
theorem tw12889297758985097190:True:=⟨⟩
theorem tw3354348421932573084:True:=⟨⟩
theorem tw9406339531081621540:True:=⟨⟩
theorem tw11416774692356200441:True:=⟨⟩
theorem tw17124771120627253398:True:=⟨⟩
theorem tw10774804972586857682:True:=⟨⟩
theorem tw5281497581025896892:True:=⟨⟩
theorem tw15693629744475718218:True:=⟨⟩
theorem tw17247559946011211368:True:=⟨⟩
theorem tw7076175788235637470:True:=⟨⟩
theorem tw17709411482854703385:True:=⟨⟩
theorem tw18136847706511326907:True:=⟨⟩
theorem tw10793646893616512965:True:=⟨⟩
theorem tw8362230785165821349:True:=⟨⟩
theorem tw17199382970376998324:True:=⟨⟩
theorem tw7199055384788792854:True:=⟨⟩
theorem tw13886449414756724703:True:=⟨⟩
theorem tw11095366603208334536:True:=⟨⟩
theorem tw13933623361512783571:True:=⟨⟩
theorem tw9502148518388936529:True:=⟨⟩
theorem tw15866107989651446909:True:=⟨⟩
theorem tw10217759363668606286:True:=⟨⟩
theorem tw13307678791524251449:True:=⟨⟩
theorem tw8279268527551954752:True:=⟨⟩
theorem tw5226423891963680190:True:=⟨⟩
theorem tw10594245345086572193:True:=⟨⟩
theorem tw5728325375303379822:True:=⟨⟩
theorem tw11113887310275298470:True:=⟨⟩
theorem tw2519362470945414537:True:=⟨⟩
theorem tw5209412133843704306:True:=⟨⟩
theorem tw16469800698666894528:True:=⟨⟩
theorem tw8159727139346777129:True:=⟨⟩
theorem tw13930222435546004031:True:=⟨⟩
theorem tw4252180988762669242:True:=⟨⟩
theorem tw9893339099571616021:True:=⟨⟩
theorem tw12953496590378932601:True:=⟨⟩
theorem tw355448444459951080:True:=⟨⟩
theorem tw11918908897605616022:True:=⟨⟩
theorem tw4182379276323450931:True:=⟨⟩
theorem tw13301299316150299300:True:=⟨⟩
theorem tw7961120426465651085:True:=⟨⟩
theorem tw9310481988349883273:True:=⟨⟩
theorem tw8159277779790719488:True:=⟨⟩
theorem tw8240267591465730558:True:=⟨⟩
theorem tw8409713251169660219:True:=⟨⟩
theorem tw2852595284164471771:True:=⟨⟩
theorem tw9495444826771347720:True:=⟨⟩
theorem tw6086917050773325847:True:=⟨⟩
theorem tw7448780512113532686:True:=⟨⟩
theorem tw7329371270624282539:True:=⟨⟩
theorem tw17479554255905344967:True:=⟨⟩
theorem tw6693989313757591239:True:=⟨⟩
theorem tw17042822184464556549:True:=⟨⟩
theorem tw17660997881342198130:True:=⟨⟩
theorem tw13795989572868155297:True:=⟨⟩
theorem tw12852147830921671119:True:=⟨⟩
theorem tw2617356924084970038:True:=⟨⟩
theorem tw16880247953336250936:True:=⟨⟩
theorem tw8717411249353993005:True:=⟨⟩
theorem tw13849691759800079677:True:=⟨⟩
theorem tw10314905246044747023:True:=⟨⟩
theorem tw7896110053800827768:True:=⟨⟩
theorem tw3439308730586866118:True:=⟨⟩
theorem tw2421438625343732699:True:=⟨⟩
theorem tw11834193100944915837:True:=⟨⟩
theorem tw1351589836975792681:True:=⟨⟩
theorem tw13966617292008445659:True:=⟨⟩
theorem tw10365640608181327330:True:=⟨⟩
theorem tw17663813189559581367:True:=⟨⟩
theorem tw1694201170716954740:True:=⟨⟩
theorem tw546549776338869765:True:=⟨⟩
theorem tw4962736383081250029:True:=⟨⟩
theorem tw1207009640434344123:True:=⟨⟩
theorem tw868979314404992566:True:=⟨⟩
theorem tw16100250812040410648:True:=⟨⟩
theorem tw6100948571600180889:True:=⟨⟩
theorem tw18033808629217332854:True:=⟨⟩
theorem tw14659084529675908455:True:=⟨⟩
theorem tw3451158252473982890:True:=⟨⟩
theorem tw7829816863378610199:True:=⟨⟩
theorem tw15277052489526997501:True:=⟨⟩
theorem tw4961103521438557604:True:=⟨⟩
theorem tw2716843019605394899:True:=⟨⟩
theorem tw9586642702193987727:True:=⟨⟩
theorem tw9428519553651858294:True:=⟨⟩
theorem tw15938072164790391197:True:=⟨⟩
theorem tw12541367411261331508:True:=⟨⟩
theorem tw18117023309226006283:True:=⟨⟩
theorem tw251906580501592323:True:=⟨⟩
theorem tw13523899178057063123:True:=⟨⟩
theorem tw9548244462694055782:True:=⟨⟩
theorem tw13286165368893087925:True:=⟨⟩
theorem tw7981589318765120755:True:=⟨⟩
theorem tw5147007991866855197:True:=⟨⟩
theorem tw16663398368568654594:True:=⟨⟩
theorem tw5281229959826856989:True:=⟨⟩
theorem tw586381809292101195:True:=⟨⟩
theorem tw9621397788235713358:True:=⟨⟩
theorem tw1336797811553509842:True:=⟨⟩
theorem tw2725739586077095567:True:=⟨⟩
theorem tw13139881590081704985:True:=⟨⟩
theorem tw5450347203706211766:True:=⟨⟩
theorem tw17618376899423221016:True:=⟨⟩
theorem tw13780948454093380840:True:=⟨⟩
theorem tw18050223133274962609:True:=⟨⟩
theorem tw623179581072459722:True:=⟨⟩
theorem tw10360232860356996094:True:=⟨⟩
theorem tw239648683016236529:True:=⟨⟩
theorem tw9882110114381737902:True:=⟨⟩
theorem tw5135665091639238991:True:=⟨⟩
theorem tw15321720667179686452:True:=⟨⟩
theorem tw6632872773928983595:True:=⟨⟩
theorem tw10465658004447755694:True:=⟨⟩
theorem tw6146003171450092537:True:=⟨⟩
theorem tw3017030285969731812:True:=⟨⟩
theorem tw4942088609332287264:True:=⟨⟩
theorem tw10962546703132131183:True:=⟨⟩
theorem tw7292451773088204420:True:=⟨⟩
theorem tw10857760384413567625:True:=⟨⟩
theorem tw10014848421417841228:True:=⟨⟩
theorem tw16188206485784071825:True:=⟨⟩
theorem tw4926183742514571524:True:=⟨⟩
theorem tw10243527001512113931:True:=⟨⟩
theorem tw16499453348647463280:True:=⟨⟩
theorem tw4460342104901396535:True:=⟨⟩
theorem tw8431643238062423883:True:=⟨⟩
theorem tw12998005803527619373:True:=⟨⟩
theorem tw13817575453038910613:True:=⟨⟩
theorem tw9369565391208975724:True:=⟨⟩
theorem tw4286674886107250249:True:=⟨⟩
theorem tw16511000245381997900:True:=⟨⟩
theorem tw6788959008906971386:True:=⟨⟩
theorem tw3192808642806398392:True:=⟨⟩
theorem tw2134751068384822902:True:=⟨⟩
theorem tw13763436360497685964:True:=⟨⟩
theorem tw28126509759208152:True:=⟨⟩
end PySem.W.Fast
open PySem PySem.W PyProof.Rows
set_option maxRecDepth 100000 in
set_option maxHeartbeats 0 in
theorem PySem.Challenge.cw_figurewheel_k52_whole_no_statement_holds : PySem.Challenge.rw_figurewheel_k52_whole_no_statement.Holds := by
 w_on;o_law;k_head;(case hw=>w_witness2)
 k_fill
 refine' K52.walk (l:=PySem.Challenge.rw_figurewheel_k52_whole_no_statement) rfl rfl (fun w h Y=>PySem.W.km_in_of Y) ?hYt ?hK ?F
 case hYt =>
  intro w h Y p O
  exact PySem.W.km_tabs_of Y p.1 (by revert p;decide)
 case hK =>
  intro w p O
  simp only[K52.ts0,List.mem_cons,List.not_mem_nil,or_false] at O
  rcases O with rfl
  ·refine' ⟨by kernel_rfl,K52.Ex ?b ?a ?l ?m⟩
   (case b=>k_is)
   (case a=>k_is)
   (case l=>k_is)
   (case m=>kernel_rfl)
 case F =>
  intro w mg N h X G t
  refine' K52.Eu X G t ?g_FIGURES ?g_SMALL_LETTERS ?g_CAPITAL_LETTERS ?g_NO_NAMES ?tl_NO_NAMES ?g_LONGEST_NAME ?g_MOST_FIGURES ?g_MOST_IN_A_SIDE ?g_DEEPEST ?z_ValueError ?z_all ?z_bool ?z_enumerate ?z_int ?z_isinstance ?z_len ?z_list ?z_range ?z_str ?a0 ?l0 ?c0 ?k0 ?a1 ?l1 ?c1 ?k1 ?a2 ?l2 ?c2 ?k2 ?a3 ?l3 ?c3 ?k3 ?a4 ?l4 ?c4 ?k4 ?a5 ?l5 ?c5 ?k5 ?a6 ?l6 ?c6 ?k6 ?a7 ?l7 ?c7 ?k7 ?a8 ?l8 ?c8 ?k8 ?a9 ?l9 ?c9 ?k9 ?a10 ?l10 ?c10 ?k10 ?a11 ?l11 ?c11 ?k11 ?a12 ?l12 ?c12 ?k12 ?a13 ?l13 ?c13 ?k13 ?a14 ?l14 ?c14 ?k14 ?a15 ?l15 ?c15 ?k15 ?a16 ?l16 ?c16 ?k16 ?a17 ?l17 ?c17 ?k17 ?a18 ?l18 ?c18 ?k18 ?a19 ?l19 ?c19 ?k19 ?a20 ?l20 ?c20 ?k20 ?a21 ?l21 ?c21 ?k21 ?a22 ?l22 ?c22 ?k22 ?a23 ?l23 ?c23 ?k23 ?a24 ?l24 ?c24 ?k24 ?a25 ?l25 ?c25 ?k25 ?a26 ?l26 ?c26 ?k26 ?a27 ?l27 ?c27 ?k27 ?a28 ?l28 ?c28 ?k28 ?a29 ?l29 ?c29 ?k29 ?a30 ?l30 ?c30 ?k30 ?a31 ?l31 ?c31 ?k31 ?a32 ?l32 ?c32 ?k32 ?cc_WheelError ?cc_NoLine ?cc_NoMachine ?cc_NoText ?cc_NoName ?cc_Statement ?cc_SignIs ?cc_SignsLike ?cc_Sums ?cc_PlaceIs ?cc_No ?cc_Both ?cc_Either ?cc_Some ?cc_Every ?cc_Reading ?kk6 ?kk7 ?pg_SignIs ?hd_SignIs ?po_SignIs ?sa_SignIs ?ha_SignIs ?hm_SignIs ?h_is_SignIs ?h_na_SignIs_row ?h_na_SignIs_name ?h_na_SignIs_sign ?mf_SignIs_init ?mi_SignIs_init ?mk_SignIs_init ?ml_SignIs_init ?mc_SignIs_init ?mm_SignIs ?mp_SignIs ?mf_SignIs_text ?mi_SignIs_text ?mk_SignIs_text ?ml_SignIs_text ?mc_SignIs_text ?pg_SignsLike ?hd_SignsLike ?po_SignsLike ?sa_SignsLike ?ha_SignsLike ?hm_SignsLike ?h_is_SignsLike ?h_na_SignsLike_row ?h_na_SignsLike_name ?h_na_SignsLike_other ?h_na_SignsLike_second ?mf_SignsLike_init ?mi_SignsLike_init ?mk_SignsLike_init ?ml_SignsLike_init ?mc_SignsLike_init ?mm_SignsLike ?mp_SignsLike ?mf_SignsLike_text ?mi_SignsLike_text ?mk_SignsLike_text ?ml_SignsLike_text ?mc_SignsLike_text ?pg_Sums ?hd_Sums ?po_Sums ?sa_Sums ?ha_Sums ?hm_Sums ?h_is_Sums ?h_na_Sums_left ?h_na_Sums_right ?h_na_Sums_word ?mf_Sums_init ?mi_Sums_init ?mk_Sums_init ?ml_Sums_init ?mc_Sums_init ?mm_Sums ?mp_Sums ?mf_Sums_text ?mi_Sums_text ?mk_Sums_text ?ml_Sums_text ?mc_Sums_text ?pg_PlaceIs ?hd_PlaceIs ?po_PlaceIs ?sa_PlaceIs ?ha_PlaceIs ?hm_PlaceIs ?h_is_PlaceIs ?h_na_PlaceIs_name ?h_na_PlaceIs_place ?mf_PlaceIs_init ?mi_PlaceIs_init ?mk_PlaceIs_init ?ml_PlaceIs_init ?mc_PlaceIs_init ?mm_PlaceIs ?mp_PlaceIs ?mf_PlaceIs_text ?mi_PlaceIs_text ?mk_PlaceIs_text ?ml_PlaceIs_text ?mc_PlaceIs_text ?pg_No ?hd_No ?po_No ?sa_No ?ha_No ?hm_No ?h_is_No ?h_na_No_one ?mf_No_init ?mi_No_init ?mk_No_init ?ml_No_init ?mc_No_init ?mm_No ?mp_No ?mf_No_text ?mi_No_text ?mk_No_text ?ml_No_text ?mc_No_text ?pg_Both ?hd_Both ?po_Both ?sa_Both ?ha_Both ?hm_Both ?h_is_Both ?h_na_Both_one ?h_na_Both_other ?mf_Both_init ?mi_Both_init ?mk_Both_init ?ml_Both_init ?mc_Both_init ?mm_Both ?mp_Both ?mf_Both_text ?mi_Both_text ?mk_Both_text ?ml_Both_text ?mc_Both_text ?pg_Either ?hd_Either ?po_Either ?sa_Either ?ha_Either ?hm_Either ?h_is_Either ?h_na_Either_one ?h_na_Either_other ?mf_Either_init ?mi_Either_init ?mk_Either_init ?ml_Either_init ?mc_Either_init ?mm_Either ?mp_Either ?mf_Either_text ?mi_Either_text ?mk_Either_text ?ml_Either_text ?mc_Either_text ?pg_Some ?hd_Some ?po_Some ?sa_Some ?ha_Some ?hm_Some ?h_is_Some ?h_na_Some_name ?h_na_Some_one ?mf_Some_init ?mi_Some_init ?mk_Some_init ?ml_Some_init ?mc_Some_init ?mm_Some ?mp_Some ?mf_Some_text ?mi_Some_text ?mk_Some_text ?ml_Some_text ?mc_Some_text ?pg_Every ?hd_Every ?po_Every ?sa_Every ?ha_Every ?hm_Every ?h_is_Every ?h_na_Every_name ?h_na_Every_one ?mf_Every_init ?mi_Every_init ?mk_Every_init ?ml_Every_init ?mc_Every_init ?mm_Every ?mp_Every ?mf_Every_text ?mi_Every_text ?mk_Every_text ?ml_Every_text ?mc_Every_text ?pg_Reading ?hd_Reading ?po_Reading ?sa_Reading ?ha_Reading ?hm_Reading ?h_na_Reading_words ?h_na_Reading_at ?mf_Reading_init ?mi_Reading_init ?mk_Reading_init ?ml_Reading_init ?mc_Reading_init ?mm_Reading ?mp_Reading ?mf_Reading_shown ?mi_Reading_shown ?mk_Reading_shown ?ml_Reading_shown ?mc_Reading_shown ?mf_Reading_wanted ?mi_Reading_wanted ?mk_Reading_wanted ?ml_Reading_wanted ?mc_Reading_wanted ?mf_Reading_one_of ?mi_Reading_one_of ?mk_Reading_one_of ?ml_Reading_one_of ?mc_Reading_one_of ?mt_Reading_one_of ?mf_NT ?hI_NT ?ml_NT ?mc_NT ?mk_NT ?sa_NT ?ov_NT ?tk_NT ?hd_NT ?no_NT ?kt1 ?kt2 ?kt3 ?kt4 ?kt5 ?h_mT_We ?h_iT_v ?h_iT_T ?h_iT_NoName ?h_iT_NoLine ?h_iT_NoMachine ?h_st_SignIs ?h_st_SignsLike ?h_st_Sums ?h_st_PlaceIs ?h_st_No ?h_st_Both ?h_st_Either ?h_st_Some ?h_st_Every ?aL ?lL ?cL ?kL
  (case g_FIGURES|g_SMALL_LETTERS|g_CAPITAL_LETTERS|g_NO_NAMES|tl_NO_NAMES|g_LONGEST_NAME|g_MOST_FIGURES|g_MOST_IN_A_SIDE|g_DEEPEST|z_ValueError|z_all|z_bool|z_enumerate|z_int|z_isinstance|z_len|z_list|z_range|z_str|a0|l0|c0|k0|a1|l1|c1|k1|a2|l2|c2|k2|a3|l3|c3|k3|a4|l4|c4|k4|a5|l5|c5|k5|a6|l6|c6|k6|a7|l7|c7|k7|a8|l8|c8|k8|a9|l9|c9|k9|a10|l10|c10|k10|a11|l11|c11|k11|a12|l12|c12|k12|a13|l13|c13|k13|a14|l14|c14|k14|a15|l15|c15|k15|a16|l16|c16|k16|a17|l17|c17|k17|a18|l18|c18|k18|a19|l19|c19|k19|a20|l20|c20|k20|a21|l21|c21|k21|a22|l22|c22|k22|a23|l23|c23|k23|a24|l24|c24|k24|a25|l25|c25|k25|a26|l26|c26|k26|a27|l27|c27|k27|a28|l28|c28|k28|a29|l29|c29|k29|a30|l30|c30|k30|a31|l31|c31|k31|a32|l32|c32|k32|cc_WheelError|cc_NoLine|cc_NoMachine|cc_NoText|cc_NoName|cc_Statement|cc_SignIs|cc_SignsLike|cc_Sums|cc_PlaceIs|cc_No|cc_Both|cc_Either|cc_Some|cc_Every|cc_Reading|kk6|kk7|pg_SignIs|hd_SignIs =>k_is)
  (case po_SignIs=>kernel_rfl)
  (case sa_SignIs|ha_SignIs|hm_SignIs =>k_is)
  (case h_is_SignIs=>kit_is)
  (case h_na_SignIs_row|h_na_SignIs_name|h_na_SignIs_sign|mf_SignIs_init|mi_SignIs_init|mk_SignIs_init|ml_SignIs_init|mc_SignIs_init =>k_is)
  (case mm_SignIs=>kernel_rfl)
  (case mp_SignIs|mf_SignIs_text|mi_SignIs_text|mk_SignIs_text|ml_SignIs_text|mc_SignIs_text|pg_SignsLike|hd_SignsLike =>k_is)
  (case po_SignsLike=>kernel_rfl)
  (case sa_SignsLike|ha_SignsLike|hm_SignsLike =>k_is)
  (case h_is_SignsLike=>kit_is)
  (case h_na_SignsLike_row|h_na_SignsLike_name|h_na_SignsLike_other|h_na_SignsLike_second|mf_SignsLike_init|mi_SignsLike_init|mk_SignsLike_init|ml_SignsLike_init|mc_SignsLike_init =>k_is)
  (case mm_SignsLike=>kernel_rfl)
  (case mp_SignsLike|mf_SignsLike_text|mi_SignsLike_text|mk_SignsLike_text|ml_SignsLike_text|mc_SignsLike_text|pg_Sums|hd_Sums =>k_is)
  (case po_Sums=>kernel_rfl)
  (case sa_Sums|ha_Sums|hm_Sums =>k_is)
  (case h_is_Sums=>kit_is)
  (case h_na_Sums_left|h_na_Sums_right|h_na_Sums_word|mf_Sums_init|mi_Sums_init|mk_Sums_init|ml_Sums_init|mc_Sums_init =>k_is)
  (case mm_Sums=>kernel_rfl)
  (case mp_Sums|mf_Sums_text|mi_Sums_text|mk_Sums_text|ml_Sums_text|mc_Sums_text|pg_PlaceIs|hd_PlaceIs =>k_is)
  (case po_PlaceIs=>kernel_rfl)
  (case sa_PlaceIs|ha_PlaceIs|hm_PlaceIs =>k_is)
  (case h_is_PlaceIs=>kit_is)
  (case h_na_PlaceIs_name|h_na_PlaceIs_place|mf_PlaceIs_init|mi_PlaceIs_init|mk_PlaceIs_init|ml_PlaceIs_init|mc_PlaceIs_init =>k_is)
  (case mm_PlaceIs=>kernel_rfl)
  (case mp_PlaceIs|mf_PlaceIs_text|mi_PlaceIs_text|mk_PlaceIs_text|ml_PlaceIs_text|mc_PlaceIs_text|pg_No|hd_No =>k_is)
  (case po_No=>kernel_rfl)
  (case sa_No|ha_No|hm_No =>k_is)
  (case h_is_No=>kit_is)
  (case h_na_No_one|mf_No_init|mi_No_init|mk_No_init|ml_No_init|mc_No_init =>k_is)
  (case mm_No=>kernel_rfl)
  (case mp_No|mf_No_text|mi_No_text|mk_No_text|ml_No_text|mc_No_text|pg_Both|hd_Both =>k_is)
  (case po_Both=>kernel_rfl)
  (case sa_Both|ha_Both|hm_Both =>k_is)
  (case h_is_Both=>kit_is)
  (case h_na_Both_one|h_na_Both_other|mf_Both_init|mi_Both_init|mk_Both_init|ml_Both_init|mc_Both_init =>k_is)
  (case mm_Both=>kernel_rfl)
  (case mp_Both|mf_Both_text|mi_Both_text|mk_Both_text|ml_Both_text|mc_Both_text|pg_Either|hd_Either =>k_is)
  (case po_Either=>kernel_rfl)
  (case sa_Either|ha_Either|hm_Either =>k_is)
  (case h_is_Either=>kit_is)
  (case h_na_Either_one|h_na_Either_other|mf_Either_init|mi_Either_init|mk_Either_init|ml_Either_init|mc_Either_init =>k_is)
  (case mm_Either=>kernel_rfl)
  (case mp_Either|mf_Either_text|mi_Either_text|mk_Either_text|ml_Either_text|mc_Either_text|pg_Some|hd_Some =>k_is)
  (case po_Some=>kernel_rfl)
  (case sa_Some|ha_Some|hm_Some =>k_is)
  (case h_is_Some=>kit_is)
  (case h_na_Some_name|h_na_Some_one|mf_Some_init|mi_Some_init|mk_Some_init|ml_Some_init|mc_Some_init =>k_is)
  (case mm_Some=>kernel_rfl)
  (case mp_Some|mf_Some_text|mi_Some_text|mk_Some_text|ml_Some_text|mc_Some_text|pg_Every|hd_Every =>k_is)
  (case po_Every=>kernel_rfl)
  (case sa_Every|ha_Every|hm_Every =>k_is)
  (case h_is_Every=>kit_is)
  (case h_na_Every_name|h_na_Every_one|mf_Every_init|mi_Every_init|mk_Every_init|ml_Every_init|mc_Every_init =>k_is)
  (case mm_Every=>kernel_rfl)
  (case mp_Every|mf_Every_text|mi_Every_text|mk_Every_text|ml_Every_text|mc_Every_text|pg_Reading|hd_Reading =>k_is)
  (case po_Reading=>kernel_rfl)
  (case sa_Reading|ha_Reading|hm_Reading|h_na_Reading_words|h_na_Reading_at|mf_Reading_init|mi_Reading_init|mk_Reading_init|ml_Reading_init|mc_Reading_init =>k_is)
  (case mm_Reading=>kernel_rfl)
  (case mp_Reading|mf_Reading_shown|mi_Reading_shown|mk_Reading_shown|ml_Reading_shown|mc_Reading_shown|mf_Reading_wanted|mi_Reading_wanted|mk_Reading_wanted|ml_Reading_wanted|mc_Reading_wanted|mf_Reading_one_of|mi_Reading_one_of|mk_Reading_one_of|ml_Reading_one_of|mc_Reading_one_of =>k_is)
  (case mt_Reading_one_of=>kernel_rfl)
  (case mf_NT =>k_is)
  (case hI_NT=>kernel_rfl)
  (case ml_NT|mc_NT|mk_NT|sa_NT =>k_is)
  (case ov_NT=>kernel_rfl)
  (case tk_NT|hd_NT|no_NT|kt1|kt2|kt3|kt4|kt5 =>k_is)
  (case h_mT_We=>kts_exm)
  (case h_iT_v=>kit_is)
  (case h_iT_T=>kit_is)
  (case h_iT_NoName=>kit_is)
  (case h_iT_NoLine=>kit_is)
  (case h_iT_NoMachine=>kit_is)
  (case h_st_SignIs=>kit_is)
  (case h_st_SignsLike=>kit_is)
  (case h_st_Sums=>kit_is)
  (case h_st_PlaceIs=>kit_is)
  (case h_st_No=>kit_is)
  (case h_st_Both=>kit_is)
  (case h_st_Either=>kit_is)
  (case h_st_Some=>kit_is)
  (case h_st_Every=>kit_is)
  (case aL|lL|cL|kL =>k_is)
end
