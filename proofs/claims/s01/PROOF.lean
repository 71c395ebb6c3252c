import PyProof.Rows.All
import PySem.Challenge.RW_scripttold_s01_answers
import KE.OsGo
import Open.SpecLaws
set_option Elab.async false
set_option linter.all false
set_option maxRecDepth 100000
set_option maxHeartbeats 0
open Array renaming getElem?_eq_some_iff->fN,length_toList->jK,getElem?_toList->lu,mem_toList_iff->zY,toList->OH
open Bool renaming and_eq_true->bI,false_ne_true->bJ,eq_iff_iff->cK,noConfusion->dU,decide_and->fR,false_or->mV,or_false->mW,or_eq_true->nj,true_or->xF,false_and->Ay,true_and->CO,false_eq_true->CZ,not_eq_true'->Ey,and_true->M5,or_true->OU,and_eq_true_iff->Q9,and_false->Zs,beq_comm->abq,or_assoc->abr
open Char renaming toNat->sG
open Except renaming ok->fS
open False renaming elim->dY
open ForInStep renaming yield->uz
open Function renaming comp->VZ,comp_def->aoG
open Int renaming toNat_natCast->iR
open Int.ofNat renaming inj->amR
open List renaming length_map->ai,length_append->ak,getElem?_eq_some_iff->au,length_cons->ay,getElem?_map->aH,length_singleton->aI,getElem?_eq_getElem->aK,mem_cons_of_mem->aV,mem_cons->aX,mem_of_getElem?->bf,drop_eq_getElem_cons->bx,mem_cons_self->bz,size_toArray->bG,map_cons->bK,length_drop->bN,map_append->bP,getElem?_append_left->bX,mem_map->b6,mem_singleton->cA,append_assoc->cC,mem_append->cN,append_nil->cV,map_map->dB,getElem?_append_right->dM,all_eq_true->dO,length_take->dW,lookup_cons->eu,length_range->eG,any_cons->eS,mem_append_right->eU,range->fh,replicate->fC,contains_iff_mem->gr,getElem?_eq_none->gu,find?_cons->gA,sum_cons->gS,drop_eq_nil_of_le->gU,flatMap_cons->gV,flatMap_append->gX,drop_length->iA,not_mem_nil->iB,take_length->iC,drop_drop->iJ,nodup_cons->iS,mem_map_of_mem->iX,takeWhile_cons->iY,length->jc,lookup->jd,findIdx?_eq_some_iff_getElem->jA,length_reverse->jP,map_congr_left->jQ,drop_zero->jW,flatMap_singleton->kG,length_nil->kW,ext_getElem?->lK,map_nil->mh,findIdx?_eq_none_iff->mD,reverse_append->mH,toList_toArray->mJ,contains_cons->nN,getElem?_replicate->nR,take_of_length_le->oN,length_replicate->pN,takeWhile_prefix->pO,map_take->qh,dropLast_concat->qm,pairwise_append->qo,getElem_of_mem->rj,getElem?_drop->sH,length_zipIdx->sJ,mem_range->sL,nodup_append->uu,reverse_cons->uv,map_drop->uA,getElem_map->vG,getElem_mem->vH,length_eq_zero_iff->vI,map_reverse->vJ,mem_singleton_self->vK,getElem?_set_self->xG,getElem?_set_ne->Az,getElem?_zipIdx->AA,mem_append_left->AB,take_left->AD,filterMap_cons->BZ,getElem?_range->B0,any_map->Ez,any_nil->EA,any_eq_true->G1,getElem_inj->G2,prefix_refl->G3,take_append_of_le_length->HF,of_mem_zip->Ik,sum_append->Il,getElem?_eq_none_iff->LV,mem_take_iff_getElem->LW,getElem?_take_of_lt->M6,getElem?_cons_zero->OI,prefix_iff_eq_take->OJ,length_pos_of_mem->OV,reverse_singleton->OW,concat_eq_append->QH,dropWhile_suffix->QI,eq_nil_or_concat->QJ,contains_eq_mem->Ra,getElem?_of_mem->Rb,map->Rc,mem_erase_of_ne->Rf,reverse_reverse->Rg,map_eq_nil_iff->SO,append_of_mem->UA,find?_toArray->UC,findIdx?_cons->UD,map_inj_right->UE,map_singleton->UG,mem_filterMap->UH,prefix_append->UI,zipIdx_append->UJ,any_eq_false->V0,foldl_append->V1,cons_append->Wj,mem_reverse->Wk,sum_reverse->Wl,append_inj->YY,length_set->YZ,mem_filter->Y0,range_succ->Y3,drop_left->Zt,forIn_nil->Zu,all_cons->abt,all_map->acB,set_set->acC,sum_nil->acD
open List.IsPrefix renaming trans->ae9
open List.Pairwise renaming map->afa
open List.cons renaming inj->UB,injEq->amS
open Nat renaming le_refl->aT,lt_of_lt_of_le->bD,le_trans->bH,zero_le->b7,ne_of_lt->cj,lt_irrefl->fJ,min_eq_left->iW,le_of_lt->kL,ne_of_gt->mE,add_sub_cancel_left->nU,le_of_eq->oV,lt_of_not_le->qi,toDigits->sr,zero_add->sy,le_of_succ_le->uB,lt_succ_of_lt->uC,lt_trans->x6,le_add_right->HG,lt_succ_self->HH,digitChar->OL,toDigits_of_lt_base->OX,succ_mul->QK,le_succ->SQ,pow_le_pow_right->SR,lt_of_le_of_lt->V2,succ_le_succ->Y4,strongRecOn->Zv,repr->abu,sub_zero->afb,mod_lt->ai4,not_lt->ai5
open Ne renaming symm->f6
open NeutralIO renaming bytes->jr
open Option renaming map_eq_some_iff->cH,map_some->gY,map_map->nV,isSome_map->sQ,bind_some->uD,map->Im,isSome_iff_exists->Lg,bind_eq_some_iff->LX,isSome_some->Rh,getD_none->UK,none->abv
open Option.some renaming inj->aL
open Or renaming inl->ji,inr->M7
open Prod renaming fst->Zw,snd->Zx,ext->aj3
open PyFlat renaming calls->j8,call->FF,rows->FG,row->Io,played->Lh,told->abw
open PyProof.Rows renaming callWith_type1->fq,slot_tuple_getitem->j9,AllBare->EC,Constant_none->SS,subscriptTail_builtinR->V3,iadd_int->Wm,Subscript_->abx,callWith_builtin1->af4,join_list->af5,join_tuple->af6,len_upper->af7,signs_ofString->af8,slicePart_none->ai6
open PySem renaming Addr->O,Value->aC,Shared->aP,wpAny_bind->aQ,sizeLine_eq->aW,boot_len->bC,wpAny_pure->bS,Stmt->b5,mem_of_lookup->c9,Program->eL,wpAny_Call_Name_kw->eV,Heap->eZ,wpAny_loadPart_at->fm,wpAny_mono->fF,World->gH,Around->gZ,excClassObj->ju,wpAny_ite_split->jL,NameKind->jR,foldedSetIterable->jS,wpAny_newObj_type->jT,wpAny_truthy_bool->jU,wpAny_typeLookup_exc->jV,PyData->jY,FuncData->kM,Params->kO,wpAny_field->lG,typeLookup->lN,wpAny_passesOwn->lV,bootBuiltins->ny,swapsWith->nA,wpAny_execs_nil->oO,sysModules->oX,plainObj_wpAny_Assign_Attribute->qA,Scope->qL,builtinLookup_eq_fast->qM,sliceBounds->sC,pushCells_keeps->sR,tupleKind_room_in1->vE,keywordEach->xK,wpAny_standAt->x9,DictEntry->zZ,Within->AO,codeAny_mono->AQ,evalArgs_none->AR,letOwnedTupleGo->B3,typeLookup_type->B4,wpAny_setField->Es,wpAny_isSubtype_exc->FL,cLine->G4,assignEach->HK,call_meets->HL,backToKw->K4,call->K5,wpAny_assign_Name->K6,wpAny_typeOf->K7,IsPart->LZ,tupleKind->L3,wpAny_specialOf->ON,BindsTo->OY,GenState->QM,Operator->QO,typeIs_str->QS,wpAny_call->QT,wpAny_seqItems->QU,wpAny_excMatches_sub_self->Rm,wpAny_comprehension_free->S1,wpAny_holding->S2,bindC->UN,bindL->UO,codeAny_compStart_list->V5,codeAny_handlers_test->Wo,exec_Assign_Name_used->Wq,wpAny_isTrue_Compare1->Wr,bindArgs->Y6,codeAny_call_builtin->Y7,wpAny_loadName_local->Y8,wpAny_handleBy_cons->ZA,wpAny_loadName_cell->ZC,Result->abA,StoreFacts->abB,builtinsNs->abD,passOn->abE,wpAny_Name->abF,Model->acG,OsState->acH,Reads->acJ,slot_list_getitem->acN,wpAny_pyIter_enum->acO,wpAny_pyIter_list->acP,checkBuiltinCall->afv,pastItsLine_dict->afw,wpAny_Try_except->afx,wpAny_call_entry->afy,wpAny_execs_cons->afz,wpAny_getItem_of->afA,wpAny_lookBehind->afB,wpAny_updateSeq->ago,newFunctionEnv->ajf,recursionLimit->ajg,typeOf->ajh,call_list_seq->aki,evalPart_none->akj,eval_ListComp->akk,intBits_le_64->akl,ExcBaseFacts->amV,seqIndex_neg->am1,startupNames->am2,wpAny_nsSet1->am3
open PySem.Around renaming under->M8
open PySem.AutoSeq1 renaming list_extend_list_list_0->aoH,list_reverse_list_0->aoI
open PySem.Builtin renaming «object.__getattribute__»->AE,«object.__setattr__»->Eo
open PySem.Builtin.List renaming listExtendWith->gw,listTooLong->lO,listItems->sM,listLengthHint->CP,listSameRef->ED,listUpdate->af9
open PySem.Builtin.Range renaming rangeSize->afc
open PySem.Builtin.Slice renaming slicePlaces->kX,sliceAdjust->qj,sliceApplied->CQ,sliceFields->afd,slicePartIndex->afe
open PySem.Builtin.Str renaming tooLong->Li
open PySem.Builtin.Tuple renaming tupleExact->lM,tupleItemsOf->afg
open PySem.Calls renaming spliced_cons->nu,callWith_builtin->oJ,spliced_nil->oK,Name_function_global->K2,evalArgs_plain->QL
open PySem.CmpOp renaming NotIn->acE,In->ai7
open PySem.Code renaming isFrame->OZ,quiet_builtin->UL,frames->afh
open PySem.Data renaming seq->Ri,dict->ai8
open PySem.DictEntry renaming refKey->amU
open PySem.EntryCells renaming newEntry->LY
open PySem.EqMixed renaming eq_bool_str->afi,eq_int_str->afj,eq_str_bool->afk,eq_str_int->afl,ne_bool_str->afm,ne_int_str->afn,ne_str_bool->afo,ne_str_int->afp
open PySem.EqNone renaming eq_bool_none->aga,eq_int_none->agb,eq_none_bool->agc,eq_none_int->agd,eq_none_none->age,eq_none_str->agf,eq_str_none->agg,ne_bool_none->agh,ne_int_none->agi,ne_none_bool->agj,ne_none_int->agk,ne_none_none->agl,ne_none_str->agm,ne_str_none->agn
open PySem.F renaming plainAttrs_list->aM,slot_list_append->bh,type_list_append->bw,slot_list_extend->cz,type_list_extend->cW,slot_list_pop->qp,type_list_pop->wC,slot_dict_setdefault->FH,slot_dict_getitem->Ip,store_ValueError->K3,slot_list_index->Lj,slot_list_reverse->O0,plainAttrs_dict->Rj,attrBase_ValueError->UM,args_list_extend_2->V4,entry_list_extend->Wn,slot_dict_values->Y5,plainAttrs_str->aby
open PySem.Heap renaming get?_push_of_some->aS,lt_size->bA,get?_push_size->bZ,get?_update_other->fj,size_push->fP,get?_update_self->lD,SameBut->xH,size_after_update->xJ,get?_update_ne->SV
open PySem.Heap.DictOf renaming new->aja
open PySem.Heap.IsSliceOf renaming new->acF
open PySem.Heap.Ns1 renaming of_empty->QN
open PySem.IsL renaming isList->amW,update->amX
open PySem.MeetsSeq renaming list_pop_last->aoK
open PySem.NameKind renaming free->oW,cell->Iq
open PySem.Obj renaming mapFields->lE,data_mapFields->nS,isFreed_of_fields->z8,mapSeq->Ep
open PySem.Paired renaming length->tY,snoc->abz
open PySem.PassesOwn renaming leaving->dG,never->dN
open PySem.PyData renaming canLayAll0->fK,depthAll->fO,eqvAll->gk,eqv->gO,keyHash->nW,strOk->Zy,int->acI
open PySem.ReadsAll renaming cons->aoL,nil->aoM
open PySem.SC renaming upper->aoN
open PySem.SeqAt renaming shaped->l8,EqAt->afq
open PySem.SeqAt.EqAt renaming int_str->M9,str_int->Na,bool_bool->aj4,bool_int->aj5,bool_none->aj6,bool_str->aj7,int_bool->aj8,int_int->aj9,int_none->aka,none_bool->akb,none_int->akc,none_str->akd,same->ake,str_bool->akf,str_none->akg,str_str->akh
open PySem.Str renaming ofString->sA,join->abC,length->ajb
open PySem.Txt renaming join->wD,upper->O1
open PySem.Value renaming ref->bU,none->f9,type->ku,builtin->uw,bool->wF,int->AF,str->Nb,isStrOf->Zz,bytes->acK,float->acL,isInt->acM
open PySem.Value.ref renaming inj->amZ
open PySem.Value.type renaming inj->Rk
open PySem.W renaming Frag->aJ,emptyDict->gK,findIn->iG,callWith_K->je,keepIn->jf,instObj->jt,fnOf->jZ,WData->lF,Codec->nP,plainGet->ux,codeIn->vD,lookIn->x8,plainGet_of->z9,hasDictIn->CS,methodObj->CT,WalkOS->Er,WellAll->EE,length_le_weightAllW->FI,takerIn->FJ,ReadsW->HJ,cellsFrom_some->L0,isFn->L1,methodCall_KW->Nc,makesIn->OM,callWith_K0->O2,plainOver->Rl,WRecords->SW,handedIn->SX,kdl_call->SY,ReadsAllW->aft,looksOpen->afu,OpenSpec->ajd
open PySem.W.Codec renaming fits->afr
open PySem.W.KIN renaming signs_num->ajc
open PySem.W.Looks renaming here->afs
open PySem.W.WData renaming layableAll->vC
open PySem.Within renaming cons->S0
open PyVasesa renaming shape->dX,answers->oQ,answers_asked->uE,calls->xM,whole->G5
open Sum renaming inl->b8,inr->B5
open Sum.inl renaming inj->EF
open Sum.inr renaming inj->ZD
open True renaming intro->lW
open UInt8 renaming toNat_inj->g8,toNat->G6,ofNat->QV
open VasesBase renaming Bytes->bL,isDigit->bO,word->cO,Toks->cU,RESERVED->dH,PName->dJ,isLetter->dR,Tok->eF,token->gj,TEXT->iP,numberOf->kC,isBlank->kH,showInt->mj,textRow->mq,PTok->mF,decimal->nB,Range->qN,SIGNS->uF,showRange->uG,takeRange->uH,LITERAL->xN,takeNum->xO,escape->CU,quoted->CV,takeWord->Et,lex->HM,showNat->K8,NUMBER->Y9,tokens->am4
open Vasesa renaming Script->bF,refused->bT,options->bY,Telling->cZ,step->dI,State->dQ,index->eT,RawNode->eW,opened->gn,read->gD,replay->gM,Call->g6,count->iD,RawBranch->iK,told->i9,Branch->jg,branchAnswer->jJ,stateAnswer->kg,Node->kP,spoken->kQ,runOn->kY,LOG->lP,STATES->oM,sidesFault->oY,alike->qO,PARTIES->sN,listed->tZ,namedNode->uJ,apart->vL,ways->ye,takeBranch->AS,BRANCHES->B6,seatAnswer->C1,takeHands->EG,takeRanges->HN,takeNode->K9,Answer->Lk,pairs->Nd,EXTRAS->OO,showNode->QW,RANGES->akm,HANDS->am5
open Vasesa.Call renaming alike->aji,find->ajj,load->ajk
open Vasesa.Script renaming targets->nX,stateName->uI,node->FN,opened->Ll,branches->V6
open VasesaNeutral renaming step->iQ,natural->sS,bytesOf->xP,encode->HP,asked->Ir,start->afC,callOf->ajl
abbrev az:=@if_neg
abbrev aG:=@if_pos
abbrev aR:=@decide_eq_true
abbrev aU:=@decide_eq_true_eq
abbrev bB:=@decide_eq_false
abbrev bW:=@beq_eq_false_iff_ne
abbrev fY:=@beq_self_eq_true
abbrev iM:=@beq_iff_eq
abbrev jj:=@decide_eq_decide
abbrev B7:=@or_false
abbrev OP:=@if_true
abbrev UP:=@if_false
abbrev ajm:=@decide_eq_false_iff_not
local macro_rules|`(tactic|decide)=>`(tactic|decide +kernel)
theorem Y.{u}{α:Sort u}{a:α}:a=a:=rfl
namespace Scr
open PySem PySem.W PyProof.Rows
abbrev uo:ajd:=PySem.Challenge.rw_scripttold_s01_answers
def st1:b5:=PySem.Challenge.pw_scripttold_s01_answers.main.body.getD 175 (.Pass ⟨0,0,0,0⟩)
def q1:eL:={PySem.Challenge.pw_scripttold_s01_answers with main:={PySem.Challenge.pw_scripttold_s01_answers.main with body:=[st1]} }
def lo1:List Str:=PySem.Challenge.pw_scripttold_s01_answers.boundNames.filter (· !="answers")
def lead{K:kO->aJ}{as:List O}{d:DefRec}{kwd:List (Str×Expr)}(e:∀P,as=(K P).map (·.1))(hl:LeftO uo.prog q1 lo1 (λs=>recOk [] s) (λs=>as.map s.heap.get?) (λw=>(K w.params).map λp=>some p.2) 100000) (ak6:defOf q1 uo.name=some (d,kwd))(hp:uo.prog.theDef uo.name=some (d.params,d.body,d.scope))(hk:kwWritten? d.params.kwonlyargs d.params.kw_defaults=some kwd) (k1:uo.wellSaid=true)(ok:(chainsOk q1&&opensWell uo.prog)=true)(hb:uo.prog.bare) (hw:∃args,uo.pre args=true/\vC args=true)(hc:Er q1 lo1 (λ_ _=>True) (InK K) uo d kwd λf S=>K5 f S)(aky:False->uo.Holds):uo.Holds:=holds_os (YP:=InK K) hl (InK.of e) InK.keeps (λ_ _=>trivial) (λ_ _ _ _ _=>trivial) ak6 hp hk (λ_ e=>recFacts_of e) os_shapes k1 ok hb hw hc
def abL{A B C atG:Prop}(hl:A)(hw:B)(hc:C)(h:A->B->C->atG):atG:=h hl hw hc
end Scr
section
open PySem PySem.W PyProof.Rows
def Scr.kmade(f:False):PySem.Challenge.rw_scripttold_s01_answers.Holds:=by
 w_on
 have tk:PySem.Challenge.rw_scripttold_s01_answers.wellSaid=true:=f.elim;apply Scr.abL (A:=LeftO _ _ _ _ _ _ _ _) (B:=∃args,Scr.uo.pre args=true/\vC args=true) (C:=Er _ _ _ _ _ _ _ _);refine @dY _ f;refine @dY _ f;refine @dY _ f;intro _ _ _
 k_headS
end
namespace Scr
open PySem PySem.W
noncomputable abbrev KK:kO->aJ:=Scr.kmade.heap_1
end Scr
namespace Scr
open PySem PySem.W PyProof.Rows
noncomputable def as0:List O:=(KK (aWorld 1).params).map (·.1)
def both{A atG:Prop}(hl:A)(aky:False->atG):A:=hl
end Scr
section
open PySem PySem.W PyProof.Rows
local macro_rules|`(#where)=>do return Lean.mkNullNode<|←(((Array.range 1046).map (s!"o_{·}")++#[10,32,55,78,129,151,209,267,290,313,336,408,494,552,631,685,741,770,828,912,956,987].map (s!"sts_{·}")).map (`Scr.ahX).str++#[`Scr.kmade.heap_1,`PySem.Challenge.pw_scripttold_s01_answers]).mapM λk=>return(←`(theorem $(Lean.mkIdent<|`PySem.W.Fast++.mkSimple s!"tw{k.hash}"):ident:True:=trivial)).raw
#where
def Scr.ahX:LeftO Scr.uo.prog Scr.q1 Scr.lo1 (λs=>recOk [] s) (λs=>Scr.as0.map s.heap.get?) (λw=>(Scr.KK w.params).map λp=>some p.2) 100000:=by
 w_on
 refine Scr.both (atG:=Scr.uo.Holds) ?hl ?_
 rotate_left
 intro f;have tk:PySem.Challenge.rw_scripttold_s01_answers.wellSaid=true:=f.elim;apply Scr.abL (A:=LeftO _ _ _ _ _ _ _ _) (B:=∃args,Scr.uo.pre args=true/\vC args=true) (C:=Er _ _ _ _ _ _ _ _);refine @dY _ f;refine @dY _ f;refine @dY _ f;intro _ _ _
 o_headS Hook.none
end
namespace Scr
open PySem PySem.W PyProof.Rows
def ws1:afu PySem.Challenge.pw_scripttold_s01_answers=true:=by k_qdec
def ws2:(uo.prog.boundNames.contains uo.name&& !am2.contains uo.name&&specDef uo.prog uo.name uo.args.length&&uo.args.all afr&&uo.ret.ok)=true:=by decide
def ws:uo.wellSaid=true:=by
 have h:=ws2;simp only[bI]at h;obtain⟨⟨⟨⟨G,h2⟩,h3⟩,h4⟩,h5⟩:=h;show(((((afu uo.prog&&uo.prog.boundNames.contains uo.name)&& !am2.contains uo.name)&&specDef uo.prog uo.name uo.args.length)&&uo.args.all afr)&&uo.ret.ok)=true;rw[G,h2,h3,h4,h5,show afu uo.prog=true from ws1];rfl
def br1:PySem.Challenge.pw_scripttold_s01_answers.tablesWhole=true:=by decide
def br:uo.prog.bare:=⟨Y,Y,Y,Y,Y,br1⟩
def ow:(chainsOk q1&&opensWell uo.prog)=true:=by decide
end Scr
open Lean Parser Tactic in
local macro_rules|`(tactic|let ⟨$p,*⟩:=$e)=>do
 let c:Syntax->Syntax:= λn=>if n.isIdent then mkNode ``rcasesPat.one #[n] else if n.isOfKind ``Term.hole then mkNode ``rcasesPat.ignore #[n[0]] else if n.isOfKind ``Term.anonymousCtor then mkNode ``rcasesPat.tuple #[n[0],mkNullNode<|n[1].getArgs.map λa=>if a.isAtom then a else mkNode ``rcasesPatLo #[mkNode ``rcasesPatMed #[mkNullNode #[a]],mkNullNode],n[2]] else n
 let q←`(⟨$p,*⟩)
 `(tactic|rcases $e:term with $(⟨q.raw.rewriteBottomUp c⟩):rcasesPat)
local macro_rules|`($c:char)=>match c.getChar with|'o'=>`(by omega)|'l'=>`(by lia)|'d'=>`(by decide +kernel)|'r'=>`(by rfl)|'s'=>`(by simp)|_=>Lean.Macro.throwUnsupported
local macro_rules|`(~~~$x)=>`(by simpa using $x)
local macro_rules|`(tactic|ext $p)=>do
 let r←#[`fG,`A,`outer,`s,`H].mapM λn=>`(rintroPat|$(Lean.mkIdent n):ident)
 let s←#[`Q,`E,`hr].mapM λn=>`(rintroPat|$(Lean.mkIdent n):ident)
 `(tactic|rintro $r* _ $s* $p)
local macro_rules|`(tactic|right)=>`(tactic|(intro _ _ _ _ h;first|(cases h;subst_vars;rfl)|(rcases h with ⟨_,h⟩;cases h;subst_vars;rfl)|((iterate 9 try rcases h with ⟨_,h⟩);subst_vars;rfl)))
local macro_rules|`(tactic|left)=>`(tactic|extract_lets)
local macro_rules|`(tactic|calc $e:term)=>`(tactic|refine $e)
namespace GM
open VasesBase Vasesa
variable{past:List (List Nat)} {atF:List (Nat×List (Nat×Nat))} {seats names:List bL} {pre t6:List Nat} {sep close most k x s j i a b n:Nat} {m:Nat×Nat} {p:dJ} {r:Raw} {g:bF} {t:Telling} {l l':cU} {kj:cU->Bool} {A X af α:Type}
def lim(most:Nat)(kj:cU->Bool)(one:cU->Except Fault (A×cU))(k:Nat)(l:cU):Except Fault<|A×cU:=if kj l=true/\most<=k then .error ⟨4,here l⟩else one l
noncomputable def closed(sep close most:Nat)(kj:cU->Bool)(one:cU->Except Fault (A×cU))(n k:Nat)(l:cU):Except Fault<|List A×cU:=parted sep most kj one n k l>>= λx=>takeSign close x.2>>= λl=> .ok (x.1,l)
noncomputable def more(sep close most:Nat)(kj:cU->Bool)(one:cU->Except Fault (A×cU))(n k:Nat)(l:cU):Except Fault<|List A×cU:=if next (.sign sep) l=true then closed sep close most kj one n k (l.drop 1)else takeSign close l>>= λl=> .ok ([],l)
def nF{one:cU->Except Fault (A×cU)}(n k:Nat)(l:cU):closed sep close most kj one (n+1) k l=lim most kj one k l>>= λx=>more sep close most kj one n (k+1) x.2>>= λy=> .ok (x.1::y.1,y.2):=by
 unfold closed parted lim;by_cases h:kj l=true/\most<=k
 .rw[aG h,aG h];rfl
 .rw[az h,az h,bind_assoc];congr 1;funext ⟨x,l⟩;unfold more closed;dsimp only;by_cases h:next (.sign sep) l=true
  .rw[aG h,aG h];simp only[bind_assoc];congr 1
  .rw[az h,az h];show(takeSign close l>>= λl=>fS ([x],l))=_;rw[bind_assoc];rfl
def Aj{a c:X}{b d:af}(h:(fS (a,b):Except Fault<|X×af)= .ok (c,d)):a=c/\b=d:=by
 cases h;exact⟨Y,Y⟩
inductive Aa (l l':cU):Prop
 |mk (pre:_) (k0:l=pre++l') (k1:∀t∈pre,t.tok≠ .halt_)
def Aa.refl(l:cU):Aa l l:=⟨[],Y,'s'⟩
def Aa.trans{l1 l2:cU}(a:Aa l l1)(b:Aa l1 l2):Aa l l2:=by
 let⟨p,rfl,h⟩:=a;let⟨q,rfl,k⟩:=b;calc⟨p++q,'s',λt m=>?_⟩;rcases cN.mp m with m|m
 .exact h t m
 .exact k t m
def Aa.cons{t:mF}{l:cU}(h:t.tok≠ .halt_):Aa (t::l) l:=⟨[t],Y,~~~h⟩
def Aa.len(a:Aa l l'):l'.length<=l.length:=by
 let⟨p,rfl,h⟩:=a;simp
inductive Ends (l:cU):Prop
 |mk (pre p:_) (k0:l=pre++[⟨p,.halt_⟩]) (k1:∀t∈pre,t.tok≠ .halt_)
def Ends.B8(e:Ends l)(a:Aa l l'):Ends l':=by
 let⟨pre,p,rfl,h⟩:=e;let⟨q,e,k⟩:=a;induction q generalizing pre with
 |nil=>exact⟨pre,p,e.symm,h⟩
 |cons t q ih=>
  cases pre with
  |nil=>
   let⟨rfl,e2⟩:=UB e;exact absurd Y (k _<|bz ..)
  |cons u pre=>
   let⟨rfl,e2⟩:=UB e;exact ih pre (λt m=>h t<|aV _ m) e2 λt m=>k t (aV _ m)
def Ends.cons{l:cU}(e:Ends l):∃t r,l=t::r:=by
 let⟨pre,p,rfl,h⟩:=e;cases pre with
 |nil=>exact⟨_,_,Y⟩
 |cons t r=>exact⟨_,_,Y⟩
def Ends.tail{t:mF}{r:cU}(e:Ends<|t::r)(h:t.tok≠ .halt_):Ends r:=e.B8 (.cons h)
def jo{t:Tok}(ht:t≠ .halt_)(h:take t l= .ok l'):Aa l l':=by
 unfold take next at h
 cases l with
 |nil=>simp[wrong]at h
 |cons x r=>
  by_cases e:x.tok=t
  .rw[aG<|~~~e]at h;obtain rfl:r=l':=by simpa using h
   exact .cons (by rw[e];exact ht)
  .rw[az<|~~~e]at h;simp[wrong]at h
def cR(h:takeName l= .ok (p,l')):Aa l l':=by
 unfold takeName at h;split at h
 .split at h
  .simp[wrong]at h
  .let⟨_,rfl⟩:=Aj h;exact .cons 's'
 .simp[wrong]at h
def tU{p:Nat×Int}(h:xO l= .ok (p,l')):Aa l l':=by
 unfold xO at h;split at h
 .let⟨_,rfl⟩:=Aj h;exact .cons 's'
 .simp[wrong]at h
def jN{t:Tok}(ht:t≠ .halt_)(h:next t l=true):Aa l<|l.drop 1:=by
 cases l with
 |nil=>exact .refl _
 |cons x r=>
  calc .cons ?_;have e:x.tok=t:=by simpa [next]using h
  rw[e];exact ht
def bu{a:Except Fault X}{f:X->Except Fault af}{y:af}(h:(a>>=f)= .ok y):∃x,a= .ok x/\f x= .ok y:=by
 cases a with
 |error e=>cases h
 |ok x=>exact⟨x,Y,h⟩
def pT{p:qN}(h:uH l= .ok (p,l')):Aa l l':=by
 unfold uH at h;split at h
 .rename_i z;let⟨_,rfl⟩:=Aj h;exact jN 's' z
 .split at h
  .rename_i z;let⟨⟨lo,l1⟩,G,h⟩:=bu h;let⟨⟨hi,l2⟩,h2,h⟩:=bu h;dsimp only at h;split at h
   .cases h
   .let⟨_,rfl⟩:=Aj h;exact((jN 's' z).trans (tU G)).trans (tU h2)
  .split at h
   .rename_i z;let⟨⟨lo,l1⟩,G,h⟩:=bu h;dsimp only at h;split at h
    .cases h
    .let⟨_,rfl⟩:=Aj h;exact(jN 's' z).trans (tU G)
   .simp[wrong]at h
def sZ{one:cU->Except Fault (A×cU)}(ho:∀l x l',one l= .ok (x,l')->Aa l l'){x:A}(h:lim most kj one k l= .ok (x,l')):Aa l l':=by
 unfold lim at h;split at h
 .cases h
 .exact ho _ _ _ h
def Ce{one:cU->Except Fault (A×cU)}(ho:∀l x l',one l= .ok (x,l')->Aa l l'):∀{n k:Nat} {l l':cU} {x:List A},closed sep close most kj one n k l= .ok (x,l')->Aa l l':=by
 intro n;induction n with
 |zero=>intro k l l' x h;cases h
 |succ n ih=>
  intro k l l' x h;rw[nF]at h;let⟨⟨x1,l1⟩,G,h⟩:=bu h;let⟨⟨x2,l2⟩,h2,h⟩:=bu h;let⟨_,rfl⟩:=Aj h;refine(sZ ho G).trans ?_;unfold more at h2;split at h2
  .rename_i z;exact(jN 's' z).trans (ih h2)
  .let⟨l3,h3,h2⟩:=bu h2;let⟨_,rfl⟩:=Aj h2;exact jo 's' h3
def Fo(l:cU):HN l=takeSign 40 l>>= λl=>if next (.sign 41) l=true then .ok ([],l.drop 1)else closed 44 41 akm rangeNext uH (l.length+1) 0 l:=rfl
def IZ(l:cU):EG l=if next (.sign 91) l=true then closed 44 93 am5 nameNext takeName (l.length+1) 0 (l.drop 1)else .ok ([],l):=by
 unfold EG closed;rfl
def zT{p:List qN}(h:HN l= .ok (p,l')):Aa l l':=by
 rw[Fo]at h;let⟨l1,G,h⟩:=bu h;refine(jo 's' G).trans ?_;split at h
 .rename_i z;let⟨_,rfl⟩:=Aj h;exact jN 's' z
 .exact Ce (λ_ _ _=>pT) h
def BW{p:List dJ}(h:EG l= .ok (p,l')):Aa l l':=by
 rw[IZ]at h;split at h
 .rename_i z;exact(jN 's' z).trans (Ce (λ_ _ _=>cR) h)
 .let⟨_,rfl⟩:=Aj h;exact .refl _
def oF{p:iK}(h:AS l= .ok (p,l')):Aa l l':=by
 let⟨⟨x1,l1⟩,G,h⟩:=bu h;let⟨⟨x2,l2⟩,h2,h⟩:=bu h;let⟨⟨x3,l3⟩,h3,h⟩:=bu h;let⟨⟨x4,l4⟩,h4,h⟩:=bu h;let⟨_,rfl⟩:=Aj h;exact(((cR G).trans (zT h2)).trans (BW h3)).trans (cR h4)
noncomputable def lZ(l:cU):Except Fault<|List iK×cU:=takeSign 123 l>>= λl=>closed 59 125 B6 nameNext AS (l.length+1) 0 l
noncomputable def zU(l:cU):Except Fault<|eW×cU:=takeName l>>= λx=>takeSign 1 x.2>>= λl=>takeName l>>= λy=>lZ y.2>>= λb=> .ok (.talk x.1 y.1 b.1,b.2)
noncomputable def Ei(l:cU):Except Fault<|eW×cU:=takeName l>>= λx=>takeName x.2>>= λy=> .ok (.both x.1 y.1,y.2)
def NQ(l:cU):K9 l=if next (.name<|word "end") l=true then .ok (.fin,l.drop 1)else if next (.name<|word "both") l=true then Ei (l.drop 1)else zU l:=by
 unfold K9 zU lZ closed;congr 2;simp only[bind_assoc];rfl
def FD{p:List iK}(h:lZ l= .ok (p,l')):Aa l l':=by
 let⟨l1,G,h⟩:=bu h;exact(jo 's' G).trans (Ce (λ_ _ _=>oF) h)
def OD{p:eW}(h:zU l= .ok (p,l')):Aa l l':=by
 let⟨⟨x1,l1⟩,G,h⟩:=bu h;let⟨l2,h2,h⟩:=bu h;let⟨⟨x3,l3⟩,h3,h⟩:=bu h;let⟨⟨x4,l4⟩,h4,h⟩:=bu h;let⟨_,rfl⟩:=Aj h;exact(((cR G).trans (jo 's' h2)).trans (cR h3)).trans (FD h4)
def Oz{p:eW}(h:Ei l= .ok (p,l')):Aa l l':=by
 let⟨⟨x1,l1⟩,G,h⟩:=bu h;let⟨⟨x3,l3⟩,h3,h⟩:=bu h;let⟨_,rfl⟩:=Aj h;exact(cR G).trans (cR h3)
def Ej{p:eW}(h:K9 l= .ok (p,l')):Aa l l':=by
 rw[NQ]at h;split at h
 .rename_i z;let⟨_,rfl⟩:=Aj h;exact jN 's' z
 .split at h
  .rename_i z;exact(jN 's' z).trans (Oz h)
  .exact OD h
noncomputable def jO(l:cU):Except Fault<|(dJ×eW)×cU:=takeName l>>= λx=>takeSign 61 x.2>>= λl=>K9 l>>= λy=> .ok ((x.1,y.1),y.2)
def LS{p:dJ×eW}(h:jO l= .ok (p,l')):Aa l l':=by
 let⟨⟨x1,l1⟩,G,h⟩:=bu h;let⟨l2,h2,h⟩:=bu h;let⟨⟨x3,l3⟩,h3,h⟩:=bu h;let⟨_,rfl⟩:=Aj h;exact((cR G).trans (jo 's' h2)).trans (Ej h3)
def Fz(n k:Nat)(l:cU):takeStates (n+1) k l=if next .halt_ l=true then .ok []else lim oM nameNext jO k l>>= λx=>takeStates n (k+1) x.2>>= λxs=> .ok<|x.1::xs:=by
 rw[takeStates];congr 1;unfold lim jO;split
 .rfl
 .simp only[bind_assoc];rfl
def Cv(n k:Nat)(l:cU):takeParties (n+1) k l=if nameNext l=false then .ok ([],l)else lim sN nameNext takeName k l>>= λx=>takeParties n (k+1) x.2>>= λxs=> .ok (x.1::xs.1,xs.2):=by
 rw[takeParties];by_cases z:nameNext l=false
 .rw[aG z,aG z]
 .rw[az z,az z];unfold lim;have z2:nameNext l=true:=by simpa using z
  by_cases y:sN<=k
  .rw[aG y,aG ⟨z2,y⟩]<;>rfl
  .rw[az y,az λh=>y h.2]<;>rfl
noncomputable def Aw(l:cU):Except Fault<|(dJ×dJ)×cU:=takeName (l.drop 1)>>= λx=>Et "of" x.2>>= λl=>takeName l>>= λy=> .ok ((x.1,y.1),y.2)
def Mj(n k:Nat)(l:cU):takeExtras (n+1) k l=if next (.name<|word "seat") l=false then .ok ([],l)else if OO<=k then .error ⟨4,here l⟩else Aw l>>= λx=>takeExtras n (k+1) x.2>>= λxs=> .ok (x.1::xs.1,xs.2):=by
 rw[takeExtras];unfold Aw;simp only[bind_assoc];rfl
def Fq(l:cU):takeScript l=Et "script" l>>= λl=>takeName l>>= λt=>Et "parties" t.2>>= λl=>if nameNext l=false then wrong l else takeParties (l.length+1) 0 l>>= λps=>takeExtras (ps.2.length+1) 0 ps.2>>= λss=>
  Et "start" ss.2>>= λl=>takeName l>>= λst=>if next .halt_ st.2=true then wrong st.2 else takeStates (st.2.length+1) 0 st.2>>= λxs=> .ok ⟨t.1,ps.1,ss.1,st.1,xs⟩:=by
 unfold takeScript;congr 1
def uf{α:Type}[DecidableEq α]:∀{l m:List α},l.Nodup->(∀x∈l,x∈m)->l.length<=m.length
 |[],m,_,_=>b7 _
 |a::l,m,h,s=>by
  rw[iS]at h;have ha:=s a<|bz ..;have e:=uf (l:=l) (m:=m.erase a) h.2 λx hx=>(Rf<|by intro z;subst z;exact h.1 hx).mpr (s x<|aV _ hx);rw[List.length_erase_of_mem ha]at e;have:=OV ha;rw[ay];omega
def Dl{N:Nat}{l:List Nat}(h:l.Nodup)(k:∀x∈l,x<N):l.length<=N:=by
 have:=uf (m:=fh N) h λx hx=>sL.mpr<|k x hx;rwa[eG]at this
def HZ{x:Nat}:∀{r l:List Nat},x∈met l r↔x∈l∨x∈r
 |[],l=>by simp[met]
 |y::r,l=>by
  rw[met,HZ];by_cases h:l.contains y=true
  .rw[aG h];have h:y∈l:=by simpa using h
   constructor
   .rintro (a|a)
    .exact .inl a
    .exact .inr (aV _ a)
   .rintro (a|a)
    .exact .inl a
    .rcases aX.mp a with rfl|a
     .exact .inl h
     .exact .inr a
  .rw[az h];simp[or_assoc]
def TU:∀{r l:List Nat},l<+:met l r
 |[],l=>G3 _
 |y::r,l=>by
  rw[met];calc ae9 ?_ TU;split
  .exact G3 _
  .exact UI ..
def Mu:∀{r l:List Nat},l.Nodup->(met l r).Nodup
 |[],l,h=>h
 |y::r,l,h=>by
  rw[met];calc Mu ?_;split
  .exact h
  .rename_i z;rw[uu];calc⟨h,'s',λa ha b hb=>?_⟩;have:b=y:=by simpa using hb
   subst this;intro e;subst e;exact z (~~~ha)
inductive Reach (g:bF):Nat->Nat->Prop
 |refl (s:Nat):Reach g s s
 |step {s t u:Nat}:Reach g s t->u∈g.targets t->Reach g s u
def Reach.trans{t u:Nat}(a:Reach g s t)(b:Reach g t u):Reach g s u:=by
 induction b with
 |refl=>exact a
 |step _ h ih=>exact ih.step h
def Valid(g:bF):Prop:=∀s,∀t∈g.targets s,t<g.states.length
def Reach.lt(v:Valid g){t:Nat}(h:s<g.states.length)(r:Reach g s t):t<g.states.length:=by
 cases r with
 |refl=>exact h
 |step _ m=>exact v _ _ m
structure wI (g:bF) (s i:Nat) (l:List Nat):Prop where
 nd:l.Nodup
 lt:∀x∈l,x<g.states.length
 le:i<=l.length
 hd:l[0]? =some s
 rc:∀x∈l,Reach g s x
 cl:∀j x,j<i->l[j]? =some x->∀t∈g.targets x,t∈l
theorem wI.start(h:s<g.states.length):wI g s 0 [s]:=⟨'s',~~~h,'s',Y,λx hx=>by
  obtain rfl:x=s:=cA.mp hx;exact .refl _,λj x hj=>absurd hj 'l'⟩
def aaF{l m:List α}(h:l<+:m){x:α}(e:l[j]? =some x):m[j]? =some x:=by
 let⟨r,rfl⟩:=h;rw[bX (au.mp e).1];exact e
def X0{l m:List α}(h:l<+:m)(hj:j<l.length):m[j]? =l[j]? :=by
 let⟨r,rfl⟩:=h;rw[bX hj]
theorem wI.next(v:Valid g){l:List Nat}(atG:wI g s i l)(e:l[i]? =some x):wI g s (i+1)<|met l<|g.targets x:=by
 have hp:l<+:met l (g.targets x):=TU;have hi:=(au.mp e).1;have hx:=bf e;refine⟨Mu atG.nd,λy hy=>?_,?_,aaF hp atG.hd,λy hy=>?_,λj y hj ej t ht=>?_⟩
 .rcases HZ.mp hy with h|h
  .exact atG.lt y h
  .exact v _ _ h
 .have:=hp.length_le
  lia
 .rcases HZ.mp hy with h|h
  .exact atG.rc y h
  .exact(atG.rc x hx).step h
 .rw[X0 hp 'l']at ej;rw[HZ];by_cases h:j<i
  .exact .inl (atG.cl j y h ej t ht)
  .have:j=i:=by lia
   subst this;rw[e]at ej;cases ej;exact .inr ht
def wI.fuel{l:List Nat}(atG:wI g s i l):l.length<=g.states.length:=Dl atG.nd atG.lt
theorem DC{g:bF}(v:Valid g){s:Nat}:∀{n i:Nat} {l:List Nat},wI g s i l->g.states.length+1<=n+i->wI g s (onward g n i l).length (onward g n i l)
 |0,i,l,atG,h=>by have:=atG.fuel;have:=atG.le;lia
 |n+1,i,l,atG,h=>by
  rw[onward];cases e:l[i]?with
  |none=>
   have:i=l.length:=by have:=atG.le;have:=LV.mp e;lia
   subst this;exact atG
  |some x=>exact DC v (atG.next v e) 'l'
theorem nJ(v:Valid g)(h:s<g.states.length):wI g s (g.reach s).length<|g.reach s:=DC v (.start h) 'l'
def iu(v:Valid g)(h:s<g.states.length):x∈g.reach s↔Reach g s x:=by
 have atG:=nJ v h;calc⟨atG.rc x,λr=>?_⟩;induction r with
 |refl=>exact bf atG.hd
 |step _ m ih=>
  let⟨j,hj,e⟩:=rj ih;exact atG.cl j _ hj (by rw[aK hj,e]) _ m
def p6(v:Valid g)(h:s<g.states.length):(g.reach s).Nodup:=(nJ v h).nd
abbrev Ent:=List (Nat×Option (Nat×Nat))
def pL(p:Nat):Ent->Nat->List Nat->Ent
 |es,_,[]=>es
 |es,k,t::r=>pL p (if(es.map (·.1)).contains t=true then es else es++[(t,some (p,k))]) (k+1) r
def Cw(p:Nat):∀(r:List Nat) (es:Ent) (k:Nat),(pL p es k r).map (·.1)=met (es.map (·.1)) r
 |[],es,k=>rfl
 |t::r,es,k=>by
  rw[pL,met,Cw p r];congr 1;split<;>simp
structure Lq (es:Ent) (atF:List<|Nat×List (Nat×Nat)):Prop where
 fst:es.map (·.1)=atF.map (·.1)
 way:∀(m x:Nat) (e:Option<|Nat×Nat) (w:List<|Nat×Nat),es[m]? =some (x,e)->atF[m]? =some (x,w)->match e with
  |none=>w=[]
  |some (p,k)=>∃m' w',m'<m/\atF[m']? =some (p,w')/\w=w'++[(p,k)]
variable{es:Ent}
def Lq.len(h:Lq es atF):es.length=atF.length:=by
 have:=congrArg jc h.fst;simpa using this
def ZM{t:Nat}:(atF.any λy=>y.1==t)=(atF.map (·.1)).contains t:=by
 induction atF with
 |nil=>rfl
 |cons a atF ih=>rw[eS,ih,bK,nN];congr 1;exact abq
theorem Cr{p m0:Nat}{way:List (Nat×Nat)}:∀(r:List Nat) (k:Nat) (es:Ent) (atF:List<|Nat×List (Nat×Nat)),Lq es atF->atF[m0]? =some (p,way)->Lq (pL p es k r) (metBy way atF<|(r.zipIdx k).map λx=>((p,x.2),x.1))/\atF<+:metBy way atF ((r.zipIdx k).map λx=>((p,x.2),x.1))
 |[],k,es,atF,h,e=>⟨h,G3 _⟩
 |t::r,k,es,atF,h,e=>by
  rw[List.zipIdx_cons,bK,metBy,pL];dsimp only;rw[ZM,←h.fst];by_cases z:(es.map (·.1)).contains t=true
  .rw[aG z,aG z];exact Cr r (k+1) es atF h e
  .rw[az z,az z];have hm:=(au.mp e).1;have h2:Lq (es++[(t,some (p,k))])<|atF++[(t,way++[(p,k)])]:=by
    calc⟨by simp[h.fst],λm x e' w e1 e2=>?_⟩;have hl:=h.len;by_cases hm2:m<es.length
    .rw[bX hm2]at e1;rw[bX 'l']at e2;have:=h.way m x e' w e1 e2;cases e' with
     |none=>exact this
     |some q=>
      let⟨m',w',a,b,c⟩:=this;exact⟨m',w',a,by rw[bX 'l'];exact b,c⟩
    .rw[dM 'l']at e1;rw[dM 'l']at e2;have hz:m-es.length=0:=by
      cases q:m-es.length with
      |zero=>rfl
      |succ j=>rw[q]at e1;simp at e1
     rw[hz]at e1;rw[show m-atF.length=0 by lia]at e2;simp at e1 e2;let⟨rfl,rfl⟩:=e1;let⟨_,rfl⟩:=e2;exact⟨m0,way,'l',by rw[bX hm];exact e,Y⟩
   have:=Cr r (k+1) _ _ h2 (by rw[bX hm];exact e);exact⟨this.1,(UI ..).trans this.2⟩
def wK(g:bF):Nat->Nat->Ent->Ent
 |0,_,es=>es
 |n+1,i,es=>match es[i]?with
  |none=>es
  |some x=>wK g n (i+1) (pL x.1 es 0<|g.targets x.1)
theorem M1{g:bF}:∀(n i:Nat) (es:Ent) (atF:List<|Nat×List (Nat×Nat)),Lq es atF->Lq (wK g n i es) (ways g n i atF)
 |0,i,es,atF,h=>h
 |n+1,i,es,atF,h=>by
  rw[wK,ways];have hl:=h.len;have hf:=congrArg (λl=>l[i]?) h.fst;simp only[aH]at hf;cases e:es[i]?with
  |none=>
   have:atF[i]? =none:=by rw[LV]at e⊢;lia
   rw[this];exact h
  |some x=>
   rw[e]at hf;cases e2:atF[i]?with
   |none=>rw[e2]at hf;cases hf
   |some y=>
    rw[e2]at hf;let⟨y1,y2⟩:=y;have hf:x.1=y1:= ~~~hf
    show Lq (wK g n (i+1)<|pL x.1 es 0<|g.targets x.1) (ways g n (i+1)<|metBy y2 atF<|g.steps y1);rw[hf];exact M1 n (i+1) _ _ (Cr (g.targets y1) 0 es atF h e2).1
def Mn{g:bF}:∀(n i:Nat) (es:Ent),(wK g n i es).map (·.1)=onward g n i (es.map (·.1))
 |0,i,es=>rfl
 |n+1,i,es=>by
  rw[wK,onward,aH];cases es[i]?with
  |none=>rfl
  |some x=>show _=onward g n (i+1) (met (es.map (·.1))<|g.targets x.1);rw[←Cw x.1 _ es 0,←Mn n]
def ents(g:bF)(s:Nat):Ent:=wK g (g.states.length+1) 0 [(s,none)]
def yw(g:bF)(s:Nat):(ents g s).map (·.1)=g.reach s:=Mn _ _ _
def Af(g:bF):Lq (ents g g.start)<|ways g (g.states.length+1) 0 [(g.start,[])]:=M1 _ _ _ _ ⟨Y,λm x e w e1 e2=>by
 cases m with
 |zero=>simp at e1 e2;let⟨rfl,rfl⟩:=e1;exact e2.2
 |succ m=>simp at e1⟩
def Apart(g:bF):Prop:=∀s,s<g.states.length->sidesApart g s=true
def L6(v:Valid g)(ha:a<g.states.length)(hb:b<g.states.length):apart g a b=true↔∀x,Reach g a x->¬Reach g b x:=by
 unfold apart;rw[dO];constructor
 .intro h x ra rb;have:=h x<|(iu v ha).mpr ra;rw[Ey,Ra,ajm]at this;exact this ((iu v hb).mpr rb)
 .intro h x hx;rw[Ey,Ra,ajm];exactλz=>h x ((iu v ha).mp hx) ((iu v hb).mp z)
def gx(e:g.node s= .both a b):g.targets s=[a,b]:=by unfold nX;rw[e]
def Ac(v:Valid g)(e:g.node s= .both a b):a<g.states.length/\b<g.states.length:=⟨v s a<|by rw[gx e];simp,v s b<|by rw[gx e];simp⟩
def Cc(v:Valid g)(ap:Apart g)(hs:s<g.states.length)(e:g.node s= .both a b):(∀x,Reach g a x->¬Reach g b x)/\¬Reach g a s/\¬Reach g b s:=by
 let⟨ha,hb⟩:=Ac v e;have h:=ap s hs;unfold sidesApart at h;rw[e]at h;have h:=(L6 v ha hb).mp h;have ta:a∈g.targets s:=by rw[gx e];simp
 have tb:b∈g.targets s:=by rw[gx e];simp
 exact⟨h,λr=>h b (r.step tb)<|.refl _,λr=>h a (.refl _)<|r.step ta⟩
def rank(g:bF)(s:Nat):Nat:=(g.reach s).length
def Ao(v:Valid g)(ap:Apart g)(hs:s<g.states.length)(e:g.node s= .both a b):rank g a+rank g b<rank g s:=by
 let⟨ha,hb⟩:=Ac v e;let⟨G,h2,h3⟩:=Cc v ap hs e;have ta:a∈g.targets s:=by rw[gx e];simp
 have tb:b∈g.targets s:=by rw[gx e];simp
 have:=uf (l:=s::(g.reach a++g.reach b)) (m:=g.reach s) ?_ ?_
 .rw[ay,ak]at this;exact this
 .rw[iS,uu];refine⟨?_,p6 v ha,p6 v hb,?_⟩
  .intro m;rcases cN.mp m with m|m
   .exact h2 ((iu v ha).mp m)
   .exact h3 ((iu v hb).mp m)
  .intro x hx y hy z;subst z;exact G x ((iu v ha).mp hx) ((iu v hb).mp hy)
 .intro x m;rw[iu v hs];rcases aX.mp m with rfl|m
  .exact .refl _
  .rcases cN.mp m with m|m
   .exact(Reach.step (.refl _) ta).trans ((iu v ha).mp m)
   .exact(Reach.step (.refl _) tb).trans ((iu v hb).mp m)
def yY(v:Valid g)(hs:s<g.states.length):0<rank g s:=OV ((iu v hs).mpr (.refl _))
def pS(v:Valid g)(hs:s<g.states.length):rank g s<=g.states.length:=(nJ v hs).fuel
theorem tw{g:bF}(v:Valid g)(ap:Apart g):∀(n m s:Nat),s<g.states.length->rank g s<=n->rank g s<=m->gn g n s=gn g m s
 |0,_,s,hs,G,_=>by have:=yY v hs;lia
 |_+1,0,s,hs,_,h2=>by have:=yY v hs;lia
 |n+1,m+1,s,hs,G,h2=>by
  rw[gn,gn];cases e:g.node s with
  |fin=>rfl
  |talk x y bs=>rfl
  |both a b=>
   let⟨ha,hb⟩:=Ac v e;have:=Ao v ap hs e;show gn g n a++gn g n b=gn g m a++gn g m b;rw[tw v ap n m a ha 'l' 'l',tw v ap n m b hb 'l' 'l']
def JR(e:g.node s= .fin):g.opened s=[]:=by
 unfold Ll gn;rw[e]
def Gm{y:Nat}{bs:List jg}(e:g.node s= .talk x y bs):g.opened s=[s]:=by
 unfold Ll gn;rw[e]
theorem Gk(v:Valid g)(ap:Apart g)(hs:s<g.states.length)(e:g.node s= .both a b):g.opened s=g.opened a++g.opened b:=by
 let⟨ha,hb⟩:=Ac v e;have:=Ao v ap hs e;have:=pS v hs;unfold Ll;rw[gn,e];show gn g _ a++gn g _ b=_;rw[tw v ap _ (g.states.length+1) a ha 'l' 'l',tw v ap _ (g.states.length+1) b hb 'l' 'l']
def acS(g:bF)(x:Nat):Prop:=x<g.states.length/\∃p q bs,g.node x= .talk p q bs
abbrev Far(g:bF)(x y:Nat):Prop:=∀z,Reach g x z->¬Reach g y z
structure AW (g:bF) (l:List Nat):Prop where
 tk:∀x∈l,acS g x
 far:l.Pairwise (Far g)
def AW.nodup{l:List Nat}(h:AW g l):l.Nodup:=h.far.imp (λ{a b} f=>by
 intro e;subst e;exact f a (.refl _)<|.refl _)
def AW.len{l:List Nat}(h:AW g l):l.length<=g.states.length:=Dl h.nodup λx hx=>(h.tk x hx).1
theorem rA{g:bF}(v:Valid g)(ap:Apart g):∀(n s:Nat),s<g.states.length->rank g s<=n->AW g (g.opened s)/\∀x∈g.opened s,Reach g s x
 |0,s,hs,h=>by have:=yY v hs;lia
 |n+1,s,hs,h=>by
  cases e:g.node s with
  |fin=>rw[JR e];exact⟨⟨'s','s'⟩,'s'⟩
  |talk x y bs=>
   rw[Gm e];refine⟨⟨λz hz=>?_,'s'⟩,λz hz=>?_⟩
   .obtain rfl:=cA.mp hz;exact⟨hs,_,_,_,e⟩
   .obtain rfl:=cA.mp hz;exact .refl _
  |both a b=>
   let⟨ha,hb⟩:=Ac v e;have:=Ao v ap hs e;let⟨f,_,_⟩:=Cc v ap hs e;let⟨s1,r1⟩:=rA v ap n a ha 'l';let⟨s2,r2⟩:=rA v ap n b hb 'l';have ta:a∈g.targets s:=by rw[gx e];simp
   have tb:b∈g.targets s:=by rw[gx e];simp
   rw[Gk v ap hs e];refine⟨⟨λx hx=>?_,?_⟩,λx hx=>?_⟩
   .rcases cN.mp hx with h|h
    .exact s1.tk x h
    .exact s2.tk x h
   .rw[qo];exact⟨s1.far,s2.far,λx hx y hy z rx ry=>f z ((r1 x hx).trans rx)<|(r2 y hy).trans ry⟩
   .rcases cN.mp hx with h|h
    .exact(Reach.step (.refl _) ta).trans (r1 x h)
    .exact(Reach.step (.refl _) tb).trans (r2 x h)
def IS{x:Nat}{atF:List Nat}:∀{l:List Nat},x∉l->(l.flatMap λs=>if s=x then atF else [s])=l
 |[],_=>rfl
 |a::l,h=>by
  rw[aX,not_or]at h;rw[gV,az λz=>h.1 z.symm,IS h.2];rfl
def HX{atF:List Nat}(h:(pre++x::t6).Nodup):((pre++x::t6).flatMap λs=>if s=x then atF else [s])=pre++atF++t6:=by
 rw[uu,iS]at h;let⟨_,⟨h2,_⟩,h3⟩:=h;rw[gX,gV,aG Y,IS λm=>h3 x m x (bz ..) Y,IS h2,cC]
def AW.swap(v:Valid g)(ap:Apart g){t:Nat}(h:AW g<|pre++x::t6)(ht:t∈g.targets x):AW g<|pre++g.opened t++t6:=by
 have A1:=v _ _ ht;let⟨s,r⟩:=rA v ap _ t A1<|aT _;let⟨tk,far⟩:=h;rw[qo,List.pairwise_cons]at far;let⟨f1,⟨f2,f3⟩,f4⟩:=far;have rx:∀y∈g.opened t,∀z,Reach g y z->Reach g x z:= λy hy z hz=>(Reach.step (.refl _) ht).trans ((r y hy).trans hz);refine⟨λy hy=>?_,?_⟩
 .rw[cC]at hy;rcases cN.mp hy with h|h
  .exact tk y (cN.mpr<|.inl h)
  .rcases cN.mp h with h|h
   .exact s.tk y h
   .exact tk y (cN.mpr<|.inr<|aV _ h)
 .rw[cC,qo,qo];calc⟨f1,⟨s.far,f3,λy hy z hz w G h2=>f2 z hz w (rx y hy w G) h2⟩,λy hy z hz=>?_⟩;rcases cN.mp hz with h|h
  .exactλw G h2=>f4 y hy x (bz ..) w G (rx z h w h2)
  .exact f4 y hy z (aV _ h)
def yF:m∈options g t↔m.1∈t.at_/\m.2<(g.branches m.1).length:=by
 unfold options;rw[List.mem_flatMap];constructor
 .rintro ⟨s,hs,hm⟩;rw[b6]at hm;let⟨⟨b,i⟩,hb,rfl⟩:=hm;have:=List.mem_zipIdx hb;exact⟨hs,~~~this.2.1⟩
 .rintro ⟨G,h2⟩;calc⟨m.1,G,?_⟩;rw[b6];calc⟨((g.branches m.1)[m.2],m.2),?_,Y⟩;rw[List.mem_zipIdx_iff_getElem?];simp[h2]
def KS(h:m.2<(g.branches m.1).length):g.target m.1 m.2∈g.targets m.1:=by
 unfold bF.target V6 nX at*;cases e:g.node m.1 with
 |fin=>rw[e]at h;simp at h
 |both a b=>rw[e]at h;simp at h
 |talk x y bs=>
  rw[e]at h;have h:m.2<bs.length:=h;simp[h];exact⟨_,vH h,Y⟩
def Uv(h:t.at_=pre++m.1::t6)(nd:t.at_.Nodup):(told g t m).at_=pre++g.opened (g.target m.1 m.2)++t6:=by
 unfold told;rw[h]at nd⊢;exact HX nd
inductive Ni (g:bF):Telling->Prop
 |begun:Ni g g.begun
 |told {t:Telling} {m:Nat×Nat}:Ni g t->m∈options g t->Ni g (told g t m)
def Ni.KC(v:Valid g)(ap:Apart g)(hs:g.start<g.states.length)(h:Ni g t):AW g t.at_:=by
 induction h with
 |begun=>exact(rA v ap _ g.start hs<|aT _).1
 |told _ hm ih=>
  let⟨G,h2⟩:=yF.mp hm;let⟨pre,t6,e⟩:=UA G;rw[Uv e ih.nodup];rw[e]at ih;exact ih.swap v ap (KS h2)
def Ni.replay(h:Ni g t):t=gM g t.log:=by
 induction h with
 |begun=>rfl
 |told _ _ ih=>
  rename_i t m _ _;show i9 g t m=gM g (t.log++[m]);unfold gM at ih⊢;rw[V1,←ih];rfl
def Qe(h:∀s,(g.branches s).length<=k):(options g t).length<=t.at_.length*k:=by
 unfold options;induction t.at_ with
 |nil=>simp
 |cons a l ih=>
  rw[gV,ak,ai,sJ,ay,QK];have:=h a;omega
def pos(o:List Nat)(t:Nat):Nat:=(o.findIdx? λx=>x==t).getD 0
def JY{o:List Nat}{t:Nat}(h:t∈o):pos o t<o.length/\o[pos o t]? =some t:=by
 unfold pos;cases e:o.findIdx? λx=>x==t with
 |none=>
  rw[mD]at e;exact absurd (e t h) 's'
 |some i=>
  rw[jA]at e;let⟨G,h2,_⟩:=e;exact⟨G,by show o[i]? =some t;rw[aK G];simpa using h2⟩
abbrev ord(g:bF):List Nat:=g.reach g.start
def ni:g.tidied.states=(ord g).map λs=>(g.stateName s,renumbered (pos<|ord g)<|g.node s):=rfl
def wA:g.tidied.states.length=(ord g).length:=by rw[ni,ai]
def KY(h:(ord g)[i]? =some x):g.tidied.node i=renumbered (pos<|ord g) (g.node x):=by
 unfold FN;rw[ni,aH,h];rfl
def QB(h:(ord g)[i]? =none):g.tidied.node i= .fin:=by
 unfold FN;rw[ni,aH,h];rfl
def KW(h:(ord g)[i]? =some x):g.tidied.stateName i=g.stateName x:=by
 unfold uI;rw[ni,aH,h];rfl
def GY(h:(ord g)[i]? =some x):g.tidied.targets i=(g.targets x).map (pos<|ord g):=by
 unfold nX;rw[KY h];cases g.node x with
 |fin=>rfl
 |both a b=>rfl
 |talk p q bs=>
  show(bs.map _).map _=(bs.map _).map _;rw[dB,dB];rfl
def pJ(v:Valid g)(hs:g.start<g.states.length){t:Nat}(hx:x∈ord g)(ht:t∈g.targets x):t∈ord g:=(iu v hs).mpr (((iu v hs).mp hx).step ht)
def XJ(v:Valid g)(hs:g.start<g.states.length):(ord g)[0]? =some g.start:=(nJ v hs).hd
def MX(v:Valid g)(hs:g.start<g.states.length):Valid g.tidied:=by
 intro i t ht;rw[wA];cases e:(ord g)[i]?with
 |none=>
  unfold nX at ht;rw[QB e]at ht;simp at ht
 |some x=>
  rw[GY e,b6]at ht;let⟨u,hu,rfl⟩:=ht;exact(JY<|pJ v hs (bf e) hu).1
def MW(v:Valid g)(hs:g.start<g.states.length)(r:Reach g.tidied i j)(hi:(ord g)[i]? =some x):∃y,(ord g)[j]? =some y/\Reach g x y:=by
 induction r with
 |refl=>exact⟨x,hi,.refl _⟩
 |step _ m ih=>
  let⟨y,hy,ry⟩:=ih;rw[GY hy,b6]at m;let⟨u,hu,rfl⟩:=m;exact⟨u,(JY<|pJ v hs (bf hy) hu).2,ry.step hu⟩
def VO(v:Valid g)(ap:Apart g)(hs:g.start<g.states.length):Apart g.tidied:=by
 intro i hi;rw[wA]at hi;have e:(ord g)[i]? =some (ord g)[i]:=aK hi;unfold sidesApart;rw[KY e];have hx:(ord g)[i]<g.states.length:=(nJ v hs).lt _ (vH hi);cases n:g.node (ord g)[i]with
 |fin=>rfl
 |talk p q bs=>rfl
 |both a b=>
  let⟨f,_,_⟩:=Cc v ap hx n;have ta:=JY (pJ v hs (vH hi)<|show a∈g.targets _ by rw[gx n];simp);have tb:=JY (pJ v hs (vH hi)<|show b∈g.targets _ by rw[gx n];simp);show apart g.tidied (pos (ord g) a) (pos (ord g) b)=true;rw[L6 (MX v hs) (by rw[wA];exact ta.1)<|by rw[wA];exact tb.1];intro x ra rb;let⟨y,hy,r1⟩:=MW v hs ra ta.2;let⟨z,hz,r2⟩:=MW v hs rb tb.2;rw[hy]at hz;cases hz;exact f y r1 r2
theorem MU{f:Nat->Nat}{a:Nat}:∀{m:List Nat},a∈m->(m.map f).sum=f a+((m.erase a).map f).sum
 |[],h=>absurd h 's'
 |b::m,h=>by
  by_cases e:b=a
  .subst e;rw[List.erase_cons_head,bK,gS]
  .rw[List.erase_cons_tail<|~~~e,bK,gS,bK,gS];have:=MU (f:=f) (m:=m) (by
    rcases aX.mp h with z|z
    .exact absurd z.symm e
    .exact z)
   lia
theorem Us{f:Nat->Nat}:∀{l m:List Nat},l.Nodup->(∀x∈l,x∈m)->(l.map f).sum<=(m.map f).sum
 |[],m,_,_=>'s'
 |a::l,m,h,s=>by
  rw[iS]at h;have ha:=s a<|bz ..;have e:=Us (f:=f) (l:=l) (m:=m.erase a) h.2 λx hx=>(Rf<|by intro z;subst z;exact h.1 hx).mpr (s x<|aV _ hx);rw[MU ha,bK,gS]
  lia
def line(g:bF)(s:bL×kP):bL:=s.1++word " = "++QW g s.2++[10]
def YM(v:Valid g)(hs:g.start<g.states.length)(hx:x∈ord g):QW g.tidied (renumbered (pos<|ord g)<|g.node x)=QW g (g.node x):=by
 have nm:∀t∈g.targets x,g.tidied.stateName (pos (ord g) t)=g.stateName t:= λt ht=>KW (JY<|pJ v hs hx ht).2;cases e:g.node x with
 |fin=>rfl
 |both a b=>
  have ta:=nm a (by rw[gx e];simp);have tb:=nm b (by rw[gx e];simp);show word "both "++g.tidied.stateName (pos (ord g) a)++[32]++g.tidied.stateName (pos (ord g) b)=word "both "++g.stateName a++[32]++g.stateName b;rw[ta,tb]
 |talk p q bs=>
  have tt:g.targets x=bs.map (·.to):=by unfold nX;rw[e]
  unfold renumbered QW;have:(bs.map λb=>({b with to:=pos (ord g) b.to}:jg)).map (showBranch g.tidied)=bs.map (showBranch g):=by
   rw[dB];apply jQ;intro b hb;have:=nm b.to (by rw[tt];exact iX hb);unfold showBranch VZ;dsimp only;rw[this];rfl
  dsimp only;rw[this];rfl
def IQ{α:Type}(f:α->bL):∀l:List α,(l.flatMap f).length=(l.map λx=>(f x).length).sum
 |[]=>rfl
 |a::l=>by rw[gV,ak,IQ f l,bK,gS]
def oE(h:s<g.states.length):g.states[s]=(g.stateName s,g.node s):=by
 unfold uI FN;rw[aK h]
def Ou:g.states=(fh g.states.length).map λs=>(g.stateName s,g.node s):=by
 apply List.ext_getElem
 .simp
 .intro i G h2;rw[oE G];simp
theorem VP(v:Valid g)(hs:g.start<g.states.length):g.tidied.shown.length<=g.shown.length:=by
 have e1:g.tidied.stateName g.tidied.start=g.stateName g.start:=KW<|XJ v hs;have e2:(g.tidied.states.flatMap<|line g.tidied).length<=(g.states.flatMap<|line g).length:=by
  rw[IQ,IQ,ni];have a1:(((ord g).map λs=>(g.stateName s,renumbered (pos<|ord g)<|g.node s)).map λx=>(line g.tidied x).length)=(ord g).map λs=>(line g (g.stateName s,g.node s)).length:=by
   rw[dB];apply jQ;intro x hx;unfold VZ line;dsimp only;rw[YM v hs hx]
  have a2:(g.states.map λx=>(line g x).length)=(fh g.states.length).map λs=>(line g (g.stateName s,g.node s)).length:=by
   conv=>lhs;rw[Ou]
   rw[dB];rfl
  rw[a1,a2];exact Us (p6 v hs) λx hx=>sL.mpr ((nJ v hs).lt x hx)
 have s1:g.tidied.shown=word "script "++g.title++[10]++word "parties "++joined [32] g.parties++[10]++g.extras.flatMap (λe=>word "seat "++e.1++word " of "++g.parties[e.2]?.getD []++[10])++word "start "++g.tidied.stateName g.tidied.start++[10]++g.tidied.states.flatMap (line g.tidied):=rfl;have s2:g.shown=word "script "++g.title++[10]++word "parties "++joined [32] g.parties++[10]++g.extras.flatMap (λe=>word "seat "++e.1++word " of "++g.parties[e.2]?.getD []++[10])++word "start "++g.stateName g.start++[10]++g.states.flatMap (line g):=rfl;rw[s1,s2,e1,ak,ak (bs:=g.states.flatMap<|line g)]
 lia
def FY(ps fU:List bL)(s p:dJ)(r:List<|dJ×dJ):namedExtras ps fU ((s,p)::r)=if fU.contains s.name=true then .error ⟨5,s.place⟩else known ps p>>= λi=>namedExtras ps (fU++[s.name]) r>>= λrest=> .ok<|(s.name,i)::rest:=by
 rw[namedExtras];by_cases h:fU.contains s.name=true
 .rw[aG h,aG h]<;>rfl
 .rw[az h,az h]<;>rfl
def IY(seats:List bL)(n:Nat)(fU:List Nat)(p:dJ)(r:List dJ):namedHands seats n fU (p::r)=known seats p>>= λi=>if i<n then .error ⟨9,p.place⟩else if fU.contains i=true then .error ⟨5,p.place⟩else namedHands seats n (fU++[i]) r>>= λrest=> .ok<|i::rest:=by
 rw[namedHands];congr 1
def AX(seats:List bL)(n:Nat)(names fU:List bL)(b:iK)(r:List iK):namedBranches seats n names fU (b::r)=if fU.contains b.label.name=true then .error ⟨5,b.label.place⟩else namedHands seats n [] b.hands>>= λags=>known names b.to>>= λto=>namedBranches seats n names (fU++[b.label.name]) r>>= λrest=> .ok<|⟨b.label.name,b.ranges,ags,to⟩::rest:=by
 rw[namedBranches];by_cases h:fU.contains b.label.name=true
 .rw[aG h,aG h]<;>rfl
 .rw[az h,az h]<;>rfl
def Uu(seats:List bL)(n:Nat)(names:List bL)(x y:dJ)(bs:List iK):uJ seats n names (.talk x y bs)=known seats x>>= λi=>known seats y>>= λj=>if i=j then .error ⟨8,y.place⟩else namedBranches seats n names [] bs>>= λrest=> .ok<|.talk i j rest:=by
 rw[uJ];congr 1
def GW(seats:List bL)(n:Nat)(names fU:List bL)(s:dJ)(b:eW)(r:List<|dJ×eW):namedStates seats n names fU ((s,b)::r)=if fU.contains s.name=true then .error ⟨5,s.place⟩else uJ seats n names b>>= λakn=>namedStates seats n names (fU++[s.name]) r>>= λrest=> .ok<|(s.name,akn)::rest:=by
 rw[namedStates];by_cases h:fU.contains s.name=true
 .rw[aG h,aG h]<;>rfl
 .rw[az h,az h]<;>rfl
def JX{l:List bL}{b:bL}(h:place l b=some i):i<l.length/\l[i]? =some b:=by
 unfold place at h;rw[jA]at h;let⟨G,h2,_⟩:=h;exact⟨G,by rw[aK G];simpa using h2⟩
def rV{l:List bL}{b:bL}:place l b=none↔b∉l:=by
 unfold place;rw[mD];constructor
 .intro h m;have:=h b m;simp at this
 .intro h x hx;rw[bW];intro e;subst e;exact h hx
def Xa{l:List bL}(h:known l p= .ok i):place l p.name=some i:=by
 unfold known at h;cases e:place l p.name with
 |none=>rw[e]at h;cases h
 |some j=>rw[e]at h;cases h;rfl
def pX{l:List bL}(h:known l p= .ok i):i<l.length:=(JX<|Xa h).1
def okN(p:dJ):Prop:=p.name.length<=16
def okR:qN->Prop
 | .flag=>True
 | .num lo hi=>(-1000000000<=lo/\lo<=1000000000)/\ -1000000000<=hi/\hi<=1000000000
 | .text k=>k<=255
structure okB (b:iK):Prop where
 lb:okN b.label
 rl:b.ranges.length<=4
 rs:∀r∈b.ranges,okR r
 hl:b.hands.length<=2
 hs:∀h∈b.hands,okN h
 to:okN b.to
def okD:eW->Prop
 | .fin=>True
 | .both s t=>okN s/\okN t
 | .talk x y bs=>okN x/\okN y/\bs.length<=8/\∀b∈bs,okB b
structure okW (r:Raw):Prop where
 ti:okN r.title
 pl:r.parties.length<=8
 ps:∀p∈r.parties,okN p
 el:r.extras.length<=8
 es:∀e∈r.extras,okN e.1/\okN e.2
 st:okN r.start
 sl:r.states.length<=64
 ss:∀s∈r.states,okN s.1/\okD s.2
def NU(l:cU):Prop:=∀t∈l,(∀b,t.tok= .name b->b.length<=16)/\∀n,t.tok= .num n-> -1000000000<=n/\n<=1000000000
def NU.B8(h:NU l)(a:Aa l l'):NU l':=by
 let⟨p,rfl,_⟩:=a;exactλt ht=>h t (cN.mpr<|.inr ht)
def gG(k:NU l)(h:takeName l= .ok (p,l')):okN p/\nameNext l=true:=by
 unfold takeName at h;split at h
 .rename_i q b r;split at h
  .simp[wrong]at h
  .rename_i z;let⟨rfl,rfl⟩:=Aj h;exact⟨(k _<|bz ..).1 b Y,by unfold nameNext;simpa using z⟩
 .simp[wrong]at h
def KQ{p:Nat×Int}(k:NU l)(h:xO l= .ok (p,l')): -1000000000<=p.2/\p.2<=1000000000:=by
 unfold xO at h;split at h
 .rename_i q b r;let⟨rfl,rfl⟩:=Aj h;exact(k _<|bz ..).2 b Y
 .simp[wrong]at h
def OB{p:qN}(k:NU l)(h:uH l= .ok (p,l')):okR p/\rangeNext l=true:=by
 unfold uH at h;unfold rangeNext;split at h
 .rename_i z;let⟨rfl,rfl⟩:=Aj h;exact⟨trivial,by rw[z];rfl⟩
 .split at h
  .rename_i z;let⟨⟨lo,l1⟩,G,h⟩:=bu h;let⟨⟨hi,l2⟩,h2,h⟩:=bu h;have k1:=k.B8 (jN 's' z);dsimp only at h;split at h
   .cases h
   .let⟨rfl,rfl⟩:=Aj h;exact⟨⟨KQ k1 G,KQ (k1.B8<|tU G) h2⟩,by rw[z];simp⟩
  .split at h
   .rename_i z;let⟨⟨lo,l1⟩,G,h⟩:=bu h;dsimp only at h;split at h
    .cases h
    .rename_i y;let⟨rfl,rfl⟩:=Aj h;calc⟨?_,by rw[z];simp⟩;show lo.2.toNat<=255;have:(xN:Int)=255:=rfl;omega
   .simp[wrong]at h
theorem EO{one:cU->Except Fault (A×cU)}{C:A->Prop}(ho:∀l x l',one l= .ok (x,l')->Aa l l')(hc:∀l x l',NU l->one l= .ok (x,l')->C x/\kj l=true):∀{n k:Nat} {l l':cU} {xs:List A},NU l->closed sep close most kj one n k l= .ok (xs,l')->(∀x∈xs,C x)/\xs.length+k<=most/\0<xs.length:=by
 intro n;induction n with
 |zero=>intro k l l' x _ h;cases h
 |succ n ih=>
  intro k l l' xs kt h;rw[nF]at h;let⟨⟨x1,l1⟩,G,h⟩:=bu h;let⟨⟨x2,l2⟩,h2,h⟩:=bu h;let⟨rfl,rfl⟩:=Aj h;have a1:=sZ ho G;unfold lim at G;split at G
  .cases G
  .rename_i z;let⟨c1,b1⟩:=hc _ _ _ kt G;have lt:k<most:=by
    apply qi;exactλy=>z ⟨b1,y⟩
   unfold more at h2;split at h2
   .rename_i y;let⟨c2,b2,_⟩:=ih ((kt.B8 a1).B8 (jN 's' y)) h2;calc⟨λx hx=>?_,by rw[ay];dsimp only at*;lia,'s'⟩;rcases aX.mp hx with rfl|hx
    .exact c1
    .exact c2 x hx
   .let⟨l3,h3,h2⟩:=bu h2;let⟨rfl,rfl⟩:=Aj h2;calc⟨λx hx=>?_,by simp;lia,'s'⟩;rw[cA.mp hx];exact c1
def LR{p:List qN}(k:NU l)(h:HN l= .ok (p,l')):(∀r∈p,okR r)/\p.length<=4:=by
 rw[Fo]at h;let⟨l1,G,h⟩:=bu h;have k1:=k.B8 (jo 's' G);split at h
 .let⟨rfl,rfl⟩:=Aj h;simp
 .have:=EO (λ_ _ _=>pT) (λ_ _ _=>OB) k1 h;exact⟨this.1,this.2.1⟩
def OA{p:List dJ}(k:NU l)(h:EG l= .ok (p,l')):(∀r∈p,okN r)/\p.length<=2:=by
 rw[IZ]at h;split at h
 .rename_i z;have:=EO (λ_ _ _=>cR) (λ_ _ _=>gG) (k.B8<|jN 's' z) h;exact⟨this.1,this.2.1⟩
 .let⟨rfl,rfl⟩:=Aj h;simp
def LP{p:iK}(k:NU l)(h:AS l= .ok (p,l')):okB p/\nameNext l=true:=by
 let⟨⟨x1,l1⟩,G,h⟩:=bu h;let⟨⟨x2,l2⟩,h2,h⟩:=bu h;let⟨⟨x3,l3⟩,h3,h⟩:=bu h;let⟨⟨x4,l4⟩,h4,h⟩:=bu h;let⟨rfl,rfl⟩:=Aj h;have k1:=k.B8<|cR G;have k2:=k1.B8<|zT h2;have k3:=k2.B8<|BW h3;let⟨a1,a2⟩:=gG k G;let⟨b1,b2⟩:=LR k1 h2;let⟨c1,c2⟩:=OA k2 h3;exact⟨⟨a1,b2,b1,c2,c1,(gG k3 h4).1⟩,a2⟩
def QA{p:eW}(k:NU l)(h:K9 l= .ok (p,l')):okD p:=by
 rw[NQ]at h;split at h
 .let⟨rfl,rfl⟩:=Aj h;trivial
 .split at h
  .rename_i z;have k:=k.B8 (jN 's' z);let⟨⟨x1,l1⟩,G,h⟩:=bu h;let⟨⟨x3,l3⟩,h3,h⟩:=bu h;let⟨rfl,rfl⟩:=Aj h;exact⟨(gG k G).1,(gG (k.B8<|cR G) h3).1⟩
  .let⟨⟨x1,l1⟩,G,h⟩:=bu h;let⟨l2,h2,h⟩:=bu h;let⟨⟨x3,l3⟩,h3,h⟩:=bu h;let⟨⟨x4,l4⟩,h4,h⟩:=bu h;let⟨rfl,rfl⟩:=Aj h;have k2:=(k.B8<|cR G).B8 (jo 's' h2);have k3:=k2.B8<|cR h3;let⟨l5,h5,h4⟩:=bu h4;have:=EO (λ_ _ _=>oF) (λ_ _ _=>LP) (k3.B8<|jo 's' h5) h4;exact⟨(gG k G).1,(gG k2 h3).1,this.2.1,this.1⟩
def OC{p:dJ×eW}(k:NU l)(h:jO l= .ok (p,l')):(okN p.1/\okD p.2)/\nameNext l=true:=by
 let⟨⟨x1,l1⟩,G,h⟩:=bu h;let⟨l2,h2,h⟩:=bu h;let⟨⟨x3,l3⟩,h3,h⟩:=bu h;let⟨rfl,rfl⟩:=Aj h;let⟨a1,a2⟩:=gG k G;exact⟨⟨a1,QA ((k.B8<|cR G).B8 (jo 's' h2)) h3⟩,a2⟩
theorem LU:∀{n k:Nat} {l:cU} {xs:List (dJ×eW)},NU l->k<=64->takeStates n k l= .ok xs->(∀x∈xs,okN x.1/\okD x.2)/\xs.length+k<=64:=by
 intro n;induction n with
 |zero=>intro k l x _ _ h;cases h
 |succ n ih=>
  intro k l xs kt hk h;rw[Fz]at h;split at h
  .cases h;exact⟨'s',~~~hk⟩
  .let⟨⟨x1,l1⟩,G,h⟩:=bu h;let⟨x2,h2,h⟩:=bu h;cases h;have a1:=sZ (λ_ _ _=>LS) G;unfold lim at G;split at G
   .cases G
   .rename_i z;let⟨c1,b1⟩:=OC kt G;have lt:k<64:=by
     apply qi;exactλy=>z ⟨b1,y⟩
    let⟨c2,b2⟩:=ih (kt.B8 a1) lt h2;calc⟨λx hx=>?_,by rw[ay];lia⟩;rcases aX.mp hx with rfl|hx
    .exact c1
    .exact c2 x hx
theorem KR:∀{n k:Nat} {l l':cU} {xs:List dJ},NU l->k<=8->takeParties n k l= .ok (xs,l')->((∀x∈xs,okN x)/\xs.length+k<=8)/\Aa l l':=by
 intro n;induction n with
 |zero=>intro k l l' x _ _ h;cases h
 |succ n ih=>
  intro k l l' xs kt hk h;rw[Cv]at h;split at h
  .let⟨rfl,rfl⟩:=Aj h;exact⟨⟨'s',~~~hk⟩,.refl _⟩
  .let⟨⟨x1,l1⟩,G,h⟩:=bu h;let⟨⟨x2,l2⟩,h2,h⟩:=bu h;let⟨rfl,rfl⟩:=Aj h;have a1:=sZ (λ_ _ _=>cR) G;unfold lim at G;split at G
   .cases G
   .rename_i z;let⟨c1,b1⟩:=gG kt G;have lt:k<8:=by
     apply qi;exactλy=>z ⟨b1,y⟩
    let⟨⟨c2,b2⟩,a2⟩:=ih (kt.B8 a1) lt h2;calc⟨⟨λx hx=>?_,by rw[ay];dsimp only;lia⟩,a1.trans a2⟩;rcases aX.mp hx with rfl|hx
    .exact c1
    .exact c2 x hx
theorem LQ:∀{n k:Nat} {l l':cU} {xs:List (dJ×dJ)},NU l->k<=8->takeExtras n k l= .ok (xs,l')->((∀x∈xs,okN x.1/\okN x.2)/\xs.length+k<=8)/\Aa l l':=by
 intro n;induction n with
 |zero=>intro k l l' x _ _ h;cases h
 |succ n ih=>
  intro k l l' xs kt hk h;rw[Mj]at h;split at h
  .let⟨rfl,rfl⟩:=Aj h;exact⟨⟨'s',~~~hk⟩,.refl _⟩
  .rename_i y;split at h
   .cases h
   .rename_i z;have y:next (.name<|word "seat") l=true:=by simpa using y
    let⟨⟨x1,l1⟩,G,h⟩:=bu h;let⟨⟨x2,l2⟩,h2,h⟩:=bu h;let⟨rfl,rfl⟩:=Aj h;let⟨⟨y1,m1⟩,g1,G⟩:=bu G;let⟨m2,g2,G⟩:=bu G;let⟨⟨y3,m3⟩,g3,G⟩:=bu G;let⟨rfl,rfl⟩:=Aj G;have a0:=jN 's' y;have a1:=a0.trans<|cR g1;have a2:=a1.trans (jo 's' g2);have a3:=a2.trans<|cR g3;let⟨⟨c2,b2⟩,a4⟩:=ih (kt.B8 a3) (show k+1<=8 by unfold OO at z;lia) h2;calc⟨⟨λx hx=>?_,by rw[ay];dsimp only;lia⟩,a3.trans a4⟩;rcases aX.mp hx with rfl|hx
    .exact⟨(gG (kt.B8 a0) g1).1,(gG (kt.B8 a2) g3).1⟩
    .exact c2 x hx
theorem BX(k:NU l)(h:takeScript l= .ok r):okW r:=by
 rw[Fq]at h;let⟨l1,G,h⟩:=bu h;let⟨⟨t,l2⟩,h2,h⟩:=bu h;let⟨l3,h3,h⟩:=bu h;split at h
 .cases h
 let⟨⟨ps,l4⟩,h4,h⟩:=bu h;let⟨⟨es,l5⟩,h5,h⟩:=bu h;let⟨l6,h6,h⟩:=bu h;let⟨⟨st,l7⟩,h7,h⟩:=bu h;dsimp only at h;split at h
 .cases h
 let⟨xs,h8,h⟩:=bu h;cases h;have k1:=k.B8 (jo 's' G);have k2:=k1.B8<|cR h2;have k3:=k2.B8 (jo 's' h3);let⟨⟨p1,p2⟩,a4⟩:=KR k3 'l' h4;have k4:=k3.B8 a4;let⟨⟨e1,e2⟩,a5⟩:=LQ k4 'l' h5;have k5:=k4.B8 a5;have k6:=k5.B8 (jo 's' h6);have k7:=k6.B8<|cR h7;let⟨s1,s2⟩:=LU k7 'l' h8;exact⟨(gG k1 h2).1,p2,p1,e2,e1,(gG k6 h7).1,s2,s1⟩
structure XD (g:bF) (b:jg):Prop where
 lb:b.label.length<=16
 rl:b.ranges.length<=4
 rs:∀r∈b.ranges,okR r
 hl:b.hands.length<=2
 hs:∀h∈b.hands,h<g.seats.length
structure pV (g:bF):Prop where
 st:g.start<g.states.length
 sl:g.states.length<=64
 val:Valid g
 ti:g.title.length<=16
 pl:g.parties.length<=8
 ps:∀p∈g.parties,p.length<=16
 el:g.extras.length<=8
 es:∀e∈g.extras,e.1.length<=16/\e.2<g.parties.length
 sn:∀i,(g.stateName i).length<=16
 nd:∀i x y bs,g.node i= .talk x y bs->x<g.seats.length/\y<g.seats.length/\bs.length<=8/\∀b∈bs,XD g b
structure Good (g:bF):Prop extends pV g where
 ap:Apart g
 sh:g.shown.length<=4096
def pV.br(h:pV g)(s:Nat):(g.branches s).length<=8:=by
 unfold V6;cases e:g.node s with
 |fin=>simp
 |both a b=>simp
 |talk x y bs=>exact(h.nd s x y bs e).2.2.1
def Ba{seats:List bL}{n:Nat}:∀{hs:List dJ} {fU xs:List Nat},namedHands seats n fU hs= .ok xs->xs.length=hs.length/\∀x∈xs,x<seats.length
 |[],fU,xs,h=>by cases h;simp
 |p::r,fU,xs,h=>by
  rw[IY]at h;let⟨i,G,h⟩:=bu h;split at h
  .cases h
  split at h
  .cases h
  let⟨ys,h2,h⟩:=bu h;cases h;let⟨a,b⟩:=Ba h2;calc⟨by simp[a],λx hx=>?_⟩;rcases aX.mp hx with rfl|hx
  .exact pX G
  .exact b x hx
structure nmB (seats names:List bL) (b:iK) (c:jg):Prop where
 lb:c.label=b.label.name
 rs:c.ranges=b.ranges
 hl:c.hands.length=b.hands.length
 hs:∀x∈c.hands,x<seats.length
 to:c.to<names.length
def uU{seats names:List bL}{n:Nat}:∀{bs:List iK} {fU:List bL} {cs:List jg},namedBranches seats n names fU bs= .ok cs->cs.length=bs.length/\∀c∈cs,∃b∈bs,nmB seats names b c
 |[],fU,cs,h=>by cases h;simp
 |b::r,fU,cs,h=>by
  rw[AX]at h;split at h
  .cases h
  let⟨hs,G,h⟩:=bu h;let⟨to,h2,h⟩:=bu h;let⟨rest,h3,h⟩:=bu h;cases h;let⟨a,c⟩:=uU h3;let⟨d,e⟩:=Ba G;calc⟨by simp[a],λx hx=>?_⟩;rcases aX.mp hx with rfl|hx
  .exact⟨b,bz ..,⟨Y,Y,d,e,pX h2⟩⟩
  .let⟨y,hy,z⟩:=c x hx;exact⟨y,aV _ hy,z⟩
def nmN(seats names:List bL):kP->Prop
 | .fin=>True
 | .both s t=>s<names.length/\t<names.length
 | .talk x y bs=>x<seats.length/\y<seats.length/\bs.length<=8/\∀b∈bs,b.to<names.length/\b.label.length<=16/\b.ranges.length<=4/\(∀r∈b.ranges,okR r)/\b.hands.length<=2/\∀h∈b.hands,h<seats.length
theorem NP{r:eW}{m:kP}(k:okD r)(h:uJ seats n names r= .ok m):nmN seats names m:=by
 cases r with
 |fin=>cases h;trivial
 |both s t=>
  let⟨i,G,h⟩:=bu h;let⟨j,h2,h⟩:=bu h;cases h;exact⟨pX G,pX h2⟩
 |talk x y bs=>
  rw[Uu]at h;let⟨i,G,h⟩:=bu h;let⟨j,h2,h⟩:=bu h;split at h
  .cases h
  let⟨cs,h3,h⟩:=bu h;cases h;let⟨_,_,k1,k2⟩:=k;let⟨a,b⟩:=uU h3;calc⟨pX G,pX h2,'l',λc hc=>?_⟩;let⟨d,hd,e⟩:=b c hc;have kd:=k2 d hd;exact⟨e.to,by rw[e.lb];exact kd.lb,by rw[e.rs];exact kd.rl,by rw[e.rs];exact kd.rs,by rw[e.hl];exact kd.hl,e.hs⟩
def yI{seats names:List bL}{n:Nat}:∀{bs:List (dJ×eW)} {fU:List bL} {cs:List (bL×kP)},(∀s∈bs,okN s.1/\okD s.2)->namedStates seats n names fU bs= .ok cs->cs.map (·.1)=bs.map (·.1.name)/\∀c∈cs,c.1.length<=16/\nmN seats names c.2
 |[],fU,cs,_,h=>by cases h;simp
 |(s,b)::r,fU,cs,k,h=>by
  rw[GW]at h;split at h
  .cases h
  let⟨m,G,h⟩:=bu h;let⟨rest,h3,h⟩:=bu h;cases h;let⟨a,c⟩:=yI (λs hs=>k s<|aV _ hs) h3;have ks:=k _<|bz ..;calc⟨by simp[a],λx hx=>?_⟩;rcases aX.mp hx with rfl|hx
  .exact⟨ks.1,NP ks.2 G⟩
  .exact c x hx
def yH{ps:List bL}:∀{bs:List (dJ×dJ)} {fU:List bL} {cs:List (bL×Nat)},(∀s∈bs,okN s.1/\okN s.2)->namedExtras ps fU bs= .ok cs->cs.length=bs.length/\∀c∈cs,c.1.length<=16/\c.2<ps.length
 |[],fU,cs,_,h=>by cases h;simp
 |(s,p)::r,fU,cs,k,h=>by
  rw[FY]at h;split at h
  .cases h
  let⟨i,G,h⟩:=bu h;let⟨rest,h3,h⟩:=bu h;cases h;let⟨a,c⟩:=yH (λs hs=>k s<|aV _ hs) h3;calc⟨by simp[a],λx hx=>?_⟩;rcases aX.mp hx with rfl|hx
  .exact⟨(k _<|bz ..).1,pX G⟩
  .exact c x hx
theorem Jr(k:okW r)(h:named r= .ok g):pV g/\g.states.map (·.1)=r.states.map (·.1.name):=by
 let⟨_,_,h⟩:=bu h;let⟨es,h2,h⟩:=bu h;let⟨st,h3,h⟩:=bu h;let⟨ss,h4,h⟩:=bu h;cases h;let⟨e1,e2⟩:=yH k.es h2;let⟨s1,s2⟩:=yI k.ss h4;have sl:ss.length=r.states.length:= ~~~congrArg jc s1
 have nl:(r.states.map λs=>s.1.name).length=ss.length:=by rw[ai,sl]
 have at_:∀i,(∃c∈ss,(⟨r.title.name,r.parties.map λp=>p.name,es,st,ss⟩:bF).node i=c.2/\(⟨r.title.name,r.parties.map λp=>p.name,es,st,ss⟩:bF).stateName i=c.1)∨((⟨r.title.name,r.parties.map λp=>p.name,es,st,ss⟩:bF).node i= .fin/\(⟨r.title.name,r.parties.map λp=>p.name,es,st,ss⟩:bF).stateName i=[]):= λi=>by
  unfold FN uI;cases e:ss[i]?with
  |none=>exact .inr ⟨Y,Y⟩
  |some c=>exact .inl ⟨c,bf e,Y,Y⟩
 refine⟨⟨?_,by dsimp only;rw[sl];exact k.sl,λi t ht=>?_,k.ti,~~~k.pl,λp hp=>?_,by dsimp only;rw[e1];exact k.el,e2,λi=>?_,λi x y bs e=>?_⟩,s1⟩
 .have:=pX h3;dsimp only
  lia
 .dsimp only;rw[←nl];unfold nX at ht;rcases at_ i with⟨c,hc,e,_⟩|⟨e,_⟩
  .rw[e]at ht;have n:=(s2 c hc).2;cases q:c.2 with
   |fin=>rw[q]at ht;simp at ht
   |both a b=>
    rw[q]at ht n;have:t=a∨t=b:= ~~~ht
    rcases this with rfl|rfl
    .exact n.1
    .exact n.2
   |talk a b bs=>
    rw[q]at ht n;let⟨x,hx,rfl⟩:=b6.mp ht;exact(n.2.2.2 x hx).1
  .rw[e]at ht;simp at ht
 .let⟨q,hq,rfl⟩:=b6.mp hp;exact k.ps q hq
 .rcases at_ i with⟨c,hc,_,e⟩|⟨_,e⟩
  .rw[e];exact(s2 c hc).1
  .rw[e];simp
 .rcases at_ i with⟨c,hc,q,_⟩|⟨q,_⟩
  .have n:=(s2 c hc).2;rw[←q,e]at n;let⟨n1,n2,n3,n4⟩:=n;exact⟨n1,n2,n3,λb hb=>let⟨_,a,b,c,d,e⟩:=n4 b hb;⟨a,b,c,d,e⟩⟩
  .rw[q]at e;cases e
def KU(h:Good g):Good g.tidied:=by
 have hd:=XJ h.val h.st;refine⟨⟨?_,?_,MX h.val h.st,h.ti,h.pl,h.ps,h.el,h.es,λi=>?_,λi x y bs e=>?_⟩,VO h.val h.ap h.st,bH (VP h.val h.st) h.sh⟩
 .rw[wA];exact(au.mp hd).1
 .rw[wA];exact bH (pS h.val h.st) h.sl
 .cases q:(ord g)[i]?with
  |none=>
   unfold uI;rw[ni,aH,q];simp
  |some x=>rw[KW q];exact h.sn x
 .cases q:(ord g)[i]?with
  |none=>rw[QB q]at e;cases e
  |some z=>
   rw[KY q]at e;cases n:g.node z with
   |fin=>rw[n]at e;cases e
   |both a b=>rw[n]at e;cases e
   |talk a b cs=>
    rw[n]at e;cases e;let⟨G,h2,h3,h4⟩:=h.nd z _ _ cs n;calc⟨G,h2,~~~h3,λb hb=>?_⟩;let⟨c,hc,rfl⟩:=b6.mp hb;have k:=h4 c hc;exact⟨k.lb,k.rl,k.rs,k.hl,k.hs⟩
def okC(l:cU):Prop:=∀t∈l,∀c,t.tok= .sign c->c∈[1,2,61,123,125,40,41,91,93,44,59,58,33,63,124]
def Gf{m:Bool}{l:bL}{n:Int}(h:kC m l=some n): -1000000000<=n/\n<=1000000000:=by
 unfold kC at h;split at h
 .cases h
 split at h
 .cases h
 rename_i z;have z:¬Y9<decimal l:= λy=>z<|.inl y;unfold Y9 at z;have h:=aL h;split at h<;>omega
theorem YQ{l:bL}{t:Tok}(h:token l=some (t,k)):(∀b,t= .name b->b.length<=16)/\(∀n,t= .num n-> -1000000000<=n/\n<=1000000000)/\(∀c,t= .sign c->c∈[1,2,61,123,125,40,41,91,93,44,59,58,33,63,124])/\t≠ .halt_:=by
 unfold token at h;split at h
 .cases h
 rename_i b r;split at h
 .dsimp only at h;split at h
  .cases h
  .rename_i z;cases h;calc⟨λb e=>?_,λn e=>(by cases e),λc e=>(by cases e),'s'⟩;cases e;unfold NAME at z
   lia
 split at h
 .let⟨n,G,h2⟩:=cH.mp h;cases h2;calc⟨λb e=>(by cases e),λn e=>?_,λc e=>(by cases e),'s'⟩;cases e;exact Gf G
 split at h
 .split at h
  .cases h;calc⟨λb e=>(by cases e),λn e=>(by cases e),λc e=>?_,'s'⟩;cases e;decide
  .let⟨n,G,h2⟩:=cH.mp h;cases h2;calc⟨λb e=>(by cases e),λn e=>?_,λc e=>(by cases e),'s'⟩;cases e;exact Gf G
 split at h
 .split at h
  .cases h;calc⟨λb e=>(by cases e),λn e=>(by cases e),λc e=>?_,'s'⟩;cases e;decide
  .cases h
 split at h
 .split at h
  .split at h
   .cases h
   .cases h;exact⟨λb e=>(by cases e),λn e=>(by cases e),λc e=>(by cases e),'s'⟩
  .cases h
 split at h
 .rename_i z;cases h;calc⟨λb e=>(by cases e),λn e=>(by cases e),λc e=>?_,'s'⟩;cases e;have z:b∈SIGNS:=by simpa using z
  have:∀b∈SIGNS,b.toNat∈[1,2,61,123,125,40,41,91,93,44,59,58,33,63,124]:='d'
  exact this b z
 .cases h
def Xh:∀{n p:Nat} {b:bL} {l:cU},lex n p b= .ok l->NU l/\okC l/\Ends l:=by
 have base:∀p,NU [⟨p,.halt_⟩]/\okC [⟨p,.halt_⟩]/\Ends [⟨p,.halt_⟩]:= λp=>by
  refine⟨λt ht=>?_,λt ht=>?_,[],p,Y,'s'⟩
  .rw[cA.mp ht];exact⟨λb e=>(by cases e),λn e=>(by cases e)⟩
  .rw[cA.mp ht];exactλc e=>(by cases e)
 intro n;induction n with
 |zero=>intro p b l h;unfold lex at h;cases h;exact base p
 |succ n ih=>
  intro p b l h;cases b with
  |nil=>unfold lex at h;cases h;exact base p
  |cons c r=>
   unfold lex at h;split at h
   .exact ih h
   split at h
   .exact ih h
   split at h
   .cases h
   .rename_i t k e;cases q:lex n (p+k) ((c::r).drop k)with
    |error f=>rw[q]at h;cases h
    |ok l'=>
     rw[q]at h;cases h;let⟨G,h2,pre,x,e2,h3⟩:=ih q;let⟨k1,k2,k3,k4⟩:=YQ e;refine⟨λt ht=>?_,λt ht=>?_,⟨⟨p,t⟩::pre,x,by rw[e2];rfl,λt ht=>?_⟩⟩
     .rcases aX.mp ht with rfl|ht
      .exact⟨k1,k2⟩
      .exact G t ht
     .rcases aX.mp ht with rfl|ht
      .exact k3
      .exact h2 t ht
     .rcases aX.mp ht with rfl|ht
      .exact k4
      .exact h3 t ht
theorem Qu{g:bF}:∀{l:List (dJ×eW)} {i:Nat},oY g i l= .ok ()->∀j,i<=j->j<i+l.length->sidesApart g j=true
 |[],i,_,j,G,h2=>by simp at h2;lia
 |(p,_)::r,i,h,j,G,h2=>by
  rw[oY]at h;split at h
  .rename_i z;by_cases e:j=i
   .rw[e];exact z
   .exact Qu h j 'l' (by rw[ay]at h2;lia)
  .cases h
theorem MF{b:bL}(h:gD b= .ok g):Good g:=by
 unfold gD at h;let⟨l,G,h⟩:=bu h;let⟨r,h2,h⟩:=bu h;let⟨g',h3,h⟩:=bu h;let⟨_,h4,h⟩:=bu h;dsimp only at h;split at h
 .cases h
 rename_i z;cases h;unfold tokens at G;split at G
 .cases G
 let⟨g0,sn⟩:=Jr (BX (Xh G).1 h2) h3;have sl:g.states.length=r.states.length:= ~~~congrArg jc sn
 exact⟨g0,λs hs=>Qu h4 s (b7 _) 'l',by unfold iP at z;lia⟩
def Qi(h:takeScript l= .ok r):r.parties≠[]:=by
 rw[Fq]at h;let⟨l1,_,h⟩:=bu h;let⟨t,_,h⟩:=bu h;let⟨l2,_,h⟩:=bu h;split at h
 .cases h
 .rename_i z;let⟨ps,hp,h⟩:=bu h;let⟨ss,_,h⟩:=bu h;let⟨l3,_,h⟩:=bu h;let⟨st,_,h⟩:=bu h;split at h
  .cases h
  .let⟨xs,_,h⟩:=bu h;cases h;unfold takeParties at hp;rw[az z,az 'd']at hp;let⟨p,_,hp⟩:=bu hp;let⟨q,_,hp⟩:=bu hp;cases hp;simp
def Gd(h:named r= .ok g):g.parties=r.parties.map λp=>p.name:=by
 unfold named at h;let⟨_,_,h⟩:=bu h;let⟨_,_,h⟩:=bu h;let⟨_,_,h⟩:=bu h;let⟨_,_,h⟩:=bu h;cases h;rfl
def Uh(b:bL):gD b=tokens b>>= λl=>takeScript l>>= λr=>named r>>= λg=>oY g 0 r.states>>= λ_=>if iP<g.shown.length then .error ⟨10,0⟩else .ok g:=by
 unfold gD;congr 1
structure xR (g:bF) (t:Telling) (past:List<|List Nat):Prop where
 Ls:Ni g t
 len:t.log.length<=1000
 past:past=(fh t.log.length).map λi=>(replay g<|t.log.take i).at_
def xR.begun(g:bF):xR g g.begun []:=⟨.begun,b7 _,Y⟩
theorem xR.told{g:bF}{t:Telling}{past:List (List Nat)}(h:xR g t past){m:Nat×Nat}(hm:m∈options g t)(lt:t.log.length<1000):xR g (told g t m)<|past++[t.at_]:=by
 refine⟨.told h.Ls hm,?_,?_⟩
 .show(t.log++[m]).length<=1000;rw[ak,aI];lia
 .show past++[t.at_]=(fh (t.log++[m]).length).map λi=>(replay g<|(t.log++[m]).take i).at_;rw[ak,aI,Y3,bP,UG,AD,←h.Ls.replay];congr 1;rw[h.past];apply jQ;intro i hi;rw[HF<|kL<|sL.mp hi]
theorem xR.back(h:xR g t past){lg:List (Nat×Nat)}(e:t.log=lg++[m]):∃p0,past=p0++[(replay g lg).at_]/\xR g (replay g lg) p0/\(replay g lg).log=lg:=by
 obtain⟨t0,c0,e0⟩:∃t0,Ni g t0/\t0.log=lg:=by
  cases h.Ls with
  |begun=>exact absurd e (by simp[bF.begun])
  |told c hm=>
   rename_i t0 m0;have e:t0.log++[m0]=lg++[m]:=e;exact⟨t0,c,(List.append_inj' e Y).1⟩
 have r0:replay g lg=t0:=by rw[←e0];exact c0.replay.symm
 rw[r0];refine⟨(fh lg.length).map λi=>(replay g<|lg.take i).at_,?_,⟨c0,?_,?_⟩,e0⟩
 .rw[h.past,e,ak,aI,Y3,bP,UG,AD,r0];congr 1;apply jQ;intro i hi;rw[HF<|kL<|sL.mp hi]
 .have:=h.len;rw[e,ak]at this;rw[e0];lia
 .rw[e0]
def Sn(g:bF)(t:Telling)(k:Int)(r:List Int):kY g t (k::r)=if options g t=[]∨LOG<=t.log.length then t else match(options g t)[(k %((options g t).length:Int)).toNat]?with
 |some m=>kY g (i9 g t m) r
 |none=>t:=rfl
theorem YL(t:Lq es atF):∀(m x:Nat) (w:List<|Nat×Nat),atF[m]? =some (x,w)->w.length<=m:=by
 intro m;induction m using Zv with
 |_ m ih=>
  intro x w h;have hm:=(au.mp h).1;obtain⟨e,he⟩:∃e,es[m]? =some e:=⟨_,aK<|by rw[t.len];exact hm⟩;have e1:e.1=x:=by
   have:=congrArg (λl=>l[m]?) t.fst;simp only[aH,he,h]at this;exact aL this
  let⟨y,en⟩:=e;have e1:y=x:=e1;subst e1;have:=t.way m y en w he h;cases en with
  |none=>have:w=[]:=this;rw[this];simp
  |some pk=>
   let⟨m',w',lt,h',rfl⟩:=this;have:=ih m' lt _ w' h';rw[ak,aI]
   lia
theorem MJ(v:Valid g)(hs:g.start<g.states.length){w:List (Nat×Nat)}(h:g.route i=some w):w.length<=g.states.length:=by
 unfold bF.route at h;let⟨y,hy,rfl⟩:=cH.mp h;let⟨m,hm⟩:=Rb<|List.mem_of_find?_eq_some hy;let⟨y1,y2⟩:=y;have t:=Af g;have l1:=YL t m y1 y2 hm;have l2:=(au.mp hm).1;rw[←t.len]at l2;have l3:(ents g g.start).length<=g.states.length:=by
  have:=pS v hs;unfold rank at this;rw[←yw,ai]at this;exact this
 show y2.length<=_
 lia
end GM
namespace L2
open PySem PySem.Spec PyProof.Rows
abbrev Key:=Sum Int Str
def F6:Key->aC->Bool
 | .inl k,v=>acM k v
 | .inr x,v=>Zz x v
def alX(w:gH):Key->Int
 | .inl k=>hashInt k
 | .inr x=>hashStr w x
def ja:∀{k:Key} {v:aC},F6 k v=true->(∃i t,k=b8 i/\v=AF i t)∨(∃x t,k=B5 x/\v=Nb x t)
 | .inl i,v,h=>by
  let⟨t,e⟩:=aC.isInt_shape (k:=i) (v:=v) h;exact .inl ⟨i,t,Y,e⟩
 | .inr x,v,h=>by
  let⟨t,e⟩:=aC.isStrOf_shape (x:=x) (v:=v) h;exact .inr ⟨x,t,Y,e⟩
def EW(i:Int)(t:Tok):F6 (.inl i) (.int i t)=true:=by simp[F6,acM]
def Vh(x:Str)(t:Tok):F6 (.inr x) (.str x t)=true:=by simp[F6,Zz]
def adT(a b:Int):decide ((b8 a:Key)=b8 b)=(a==b):=by
 by_cases e:a=b
 .subst e;simp
 .have h:¬(b8 a:Key)=b8 b:= λq=>e<|EF q;rw[bB h];exact(bW.mpr e).symm
def adW(a b:Str):decide ((B5 a:Key)=B5 b)=decide (a=b):=by
 by_cases e:a=b
 .subst e;simp
 .have h:¬(B5 a:Key)=B5 b:= λq=>e<|ZD q;rw[bB h,bB e]
def adU(a:Int)(b:Str):decide ((b8 a:Key)=B5 b)=false:=bB (λq=>nomatch q)
def adV(a:Str)(b:Int):decide ((B5 a:Key)=b8 b)=false:=bB (λq=>nomatch q)
def iE(prog:eL)(w:gH):PySem.KeyKind prog w Key where
 is:=F6
 hash:=alX w
 inj:= λv a b ha hb=>by
  rcases ja ha with⟨i,t,rfl,rfl⟩|⟨x,t,rfl,rfl⟩
  .rcases ja hb with⟨j,u,rfl,e⟩|⟨y,u,rfl,e⟩
   .injection e with e1 _;rw[e1]
   .exact nomatch e
  .rcases ja hb with⟨j,u,rfl,e⟩|⟨y,u,rfl,e⟩
   .exact nomatch e
   .injection e with e1 _;rw[e1]
 byValue:= λk v h=>by
  rcases ja h with⟨i,t,rfl,rfl⟩|⟨x,t,rfl,rfl⟩<;>rfl
 pyHash:= λhv h=>by
  rcases ja hv with⟨i,t,rfl,rfl⟩|⟨x,t,rfl,rfl⟩
  .exact wpAny_pyHash_int h
  .exact wpAny_pyHash_str h
 eqBool:= λhu hv h=>by
  rcases ja hu with⟨i,t,rfl,rfl⟩|⟨x,t,rfl,rfl⟩
  .rcases ja hv with⟨j,u,rfl,rfl⟩|⟨y,u,rfl,rfl⟩
   .rw[adT]at h;exact wpAny_eqBool_int h
   .rw[adU]at h;exact M9 i t y u _ _ _ _ h
  .rcases ja hv with⟨j,u,rfl,rfl⟩|⟨y,u,rfl,rfl⟩
   .rw[adV]at h;exact Na x t j u _ _ _ _ h
   .rw[adW]at h;exact wpAny_eqBool_str h
 «strs»:= λk x t v h=>by
  rcases ja h with⟨i,u,rfl,e⟩|⟨y,u,rfl,e⟩
  .exact nomatch e
  .injection e with e1 _;subst e1;cases v<;>rfl
def P1(prog:eL)(w:gH)(i:Int)(t:Tok):(iE prog w).is (.inl i) (.int i t)=true:=EW i t
def P4(prog:eL)(w:gH)(x:Str)(t:Tok):(iE prog w).is (.inr x) (.str x t)=true:=Vh x t
inductive V where
 |gQ|bl (b:Bool)|int (i:Int)|str (x:Str)|O9 (b:Array UInt8)|U5 (b:UInt64)|ref (a:O)|ty (n:String)
 deriving DecidableEq
def RelV:V->aC->Prop
 | .gQ,u=>u=f9
 | .bl b,u=>u=wF b
 | .int i,u=>∃t,u=AF i t
 | .str x,u=>∃t,u=Nb x t
 | .O9 b,u=>∃t,u=acK b t
 | .U5 b,u=>∃t,u=acL b t
 | .ref a,u=>u=bU a
 | .ty n,u=>u=ku n
abbrev Vals:List V->List aC->Prop:=Paired RelV
variable{it f C dx:O} {A:gZ} {g':Array QM} {op:CmpOp} {d':Drawn} {D:Ends} {a b e c tg l:Expr} {fd:kM} {h h' base:eZ} {lo:Int} {aB:List (O×Obj)} {kw:List (Str×aC)} {ch fp:List O} {outer:List Env} {rest es:List Expr} {body:List b5} {N ps:List Str} {xs S:List V} {us:List aC} {M:acG} {t' i j k n:Nat} {pos rF p:Pos} {P prog:eL} {scope:qL} {pl:Sem Bool} {s s':aP} {st:b5} {x name m qual:Str} {mA mg:Str->Option aC} {α:Type} {v y:V} {u:aC} {E Q:aC->aP->Prop} {w:gH}
def Vals.length(r:Vals xs us):xs.length=us.length:=tY r
def Vals.get:∀{xs:List V} {us:List aC} {i:Nat} {x:V},Vals xs us->xs[i]? =some x->∃u,us[i]? =some u/\RelV x u
 |_,_,_,_,.nil,e=>by simp at e
 |_,_,0,_,.cons r _,e=>by simp at e;subst e;exact⟨_,Y,r⟩
 |_,_,i+1,x,.cons _ t,e=>by
  let⟨u,G,h2⟩:=Vals.get (i:=i) (x:=x) t (~~~e);exact⟨u,~~~G,h2⟩
def Vals.append:∀{xs ys:List V} {us ws:List aC},Vals xs us->Vals ys ws->Vals (xs++ys) (us++ws)
 |_,_,_,_,.nil,s=>s
 |_,_,_,_,.cons r t,s=> .cons r (Vals.append t s)
def Vals.take:∀{xs:List V} {us:List aC} (n:Nat),Vals xs us->Vals (xs.take n) (us.take n)
 |_,_,0,_=> .nil
 |_,_,_+1,.nil=> .nil
 |_,_,n+1,.cons r t=> .cons r (Vals.take n t)
def Vals.drop:∀{xs:List V} {us:List aC} (n:Nat),Vals xs us->Vals (xs.drop n) (us.drop n)
 |_,_,0,r=>r
 |_,_,_+1,.nil=> .nil
 |_,_,n+1,.cons _ t=>Vals.drop n t
def pW:Option V->Option aC->Prop
 |some v,some u=>RelV v u
 |none,none=>True
 |_,_=>False
def KV{κ:Type}:List (κ×V)->List (κ×aC)->Prop:=Paired λ(p:κ×V) (q:κ×aC)=>p.1=q.1/\RelV p.2 q.2
def kV:Key->V
 | .inl i=> .int i
 | .inr x=> .str x
inductive HO where
 |lst (xs:List V)
 |tup (xs:List V)
 |dK (kvs:List (Key×V))|dT (kvs:List (List Key×V))
 |set (atE:Int->Bool) (n:Nat)
 |ins (C dx:O) (fs:List (Str×V))
 |own (x:O)
 |xd (fs:List (Str×V))
 |met (f x:O)
 |rng (lo hi:Int)
 |ND (o:Obj) (u:HO)
 |tbl (ps:Array aC)
 |ext (φ:eZ->Prop)
abbrev Hp:=O->Option HO
def upd(H:Hp)(a:O)(o:HO):Hp:= λb=>if b=a then some o else H b
variable{o:HO} {H U:Hp}
def aq{a:O}:upd H a o a=some o:=by unfold upd;rw[aG Y]
def aY{a b:O}(h:b≠a):upd H a o b=H b:=by unfold upd;rw[az h]
def dS{a:O}{u:HO}:upd (upd H a o) a u=upd H a u:=by
 funext b;unfold upd;split<;>rfl
def gz{a b:O}{u:HO}(h:H a=some o)(h':H b=some u)(d:o≠u):a≠b:=by
 intro e;subst e;rw[h]at h';exact d (aL h')
def bg{a b:O}(h:H a=some o)(h':H b=none):a≠b:=by
 intro e;subst e;rw[h]at h';cases h'
section
variable(P:eL) (w:gH)
def iL(H:Hp)(h:eZ)(a:O):HO->Prop
 | .lst xs=>xs.length<=sizeLine/\∃(d7:List aC) (n:Nat),Vals xs d7/\h.get? a=some {cls:= .type "list",data:= .seq d7.toArray n}
 | .tup xs=>xs.length<=sizeLine/\∃d7:List aC,Vals xs d7/\IsTup h a d7.toArray
 | .dK kvs=>kvs.length<=sizeLine/\(a==oX)=false/\∃S,KV kvs S/\h.DictOf (iE P w) a S
 | .dT kvs=>kvs.length<=sizeLine/\(a==oX)=false/\∃xs:List<|List Key×O×aC,
   Paired (λ(p:List Key×V) (q:List Key×O×aC)=>p.1=q.1/\H q.2.1=some (.tup<|p.1.map kV)/\RelV p.2 q.2.2) kvs xs/\
   ∃o es ep,h.get? a=some o/\o.ExactDict/\o.data= .dict es ep/\es.toList=xs.map (entryOfKey<|L3<|iE P w)/\(xs.map (·.1)).Nodup
 | .set atE n=>h.SetOf (intKind P w) a atE n
 | .ins C dx fs=>H dx=some (.own a)/\fs.length<=1000/\dx≠a/\h.get? a=some (jt C dx)/\
   ∃mA,h.Ns1 dx mA/\(∀f,pW (fs.lookup f)<|mA f)/\AO mA (fs.map (·.1))
 | .own _=>∃o,h.get? a=some o
 | .xd fs=>∃mA,h.Ns1 a mA/\∀f,pW (fs.lookup f) (mA f)
 | .rng lo hi=>∃t u v,h.get? a=some {cls:= .type "range",data:= .fields #[.int lo t,.int hi u,.int 1 v]}
 | .ND o u=>h.get? a=some o/\iL H h a u
 | .tbl ps=>h.get? a=some {cls:= .none,data:= .fields ps}
 | .met f x=>h.get? a=some (CT (.ref f)<|.ref x)
 | .ext φ=>φ h/\(∃o,h.get? a=some o)/\∀G h2:eZ,φ G->(∀o,G.get? a=some o->h2.get? a=some o)->φ h2
def vF(H:Hp)(h:eZ):Prop:=∀a o,H a=some o->iL P w H h a o
end
section
variable{a:O}
def iL.lt(x:iL P w H h a o):a<h.objs.size:=by
 cases o with
 |lst xs=>let⟨_,_,_,_,e⟩:=x;exact bA e
 |tup xs=>let⟨_,_,_,p⟩:=x;exact p.lt
 |dK kvs=>let⟨_,_,_,_,o,_,_,e,_⟩:=x;exact bA e
 |dT kvs=>let⟨_,_,_,_,o,_,_,e,_⟩:=x;exact bA e
 |set atE n=>let⟨o,_,_,_,e,_⟩:=x;exact bA e
 |ins C dx fs=>let⟨_,_,_,e,_⟩:=x;exact bA e
 |own y=>let⟨_,e⟩:=x;exact bA e
 |xd fs=>let⟨_,⟨_,_,_,e,_⟩,_⟩:=x;exact bA e
 |rng lo hi=>let⟨_,_,_,e⟩:=x;exact bA e
 |ND ob u=>let⟨e,_⟩:=x;exact bA e
 |tbl ps=>exact bA (show h.get? a=some _ from x)
 |met f y=>exact bA (show h.get? a=some _ from x)
 |ext φ=>let⟨_,⟨_,e⟩,_⟩:=x;exact bA e
def Paired.aeb{α β:Type}{F atG:α->β->Prop}:∀{l₁:List α} {l₂:List β},Paired F l₁ l₂->(∀a b,F a b->atG a b)->Paired atG l₁ l₂
 |_,_,.nil,_=> .nil
 |_,_,.cons r t,f=> .cons (f _ _ r) (Paired.aeb t f)
def iL.CK(x:iL P w H h a o)(k:∀b u,(b=a∨H b=some (.own a))->h.get? b=some u->h'.get? b=some u) (ho:∀b,H b=some (.own a)->U b=some (.own a))(ht:∀b xs,H b=some (.tup xs)->U b=some (.tup xs)):iL P w U h' a o:=by
 induction o with
 |lst xs=>let⟨z,d7,n,r,e⟩:=x;exact⟨z,d7,n,r,k _ _ (.inl Y) e⟩
 |tup xs=>let⟨z,d7,r,ob,e,c⟩:=x;exact⟨z,d7,r,ob,k _ _ (.inl Y) e,c⟩
 |dK kvs=>let⟨z,y,S,r,ob,es,ep,e,c⟩:=x;exact⟨z,y,S,r,ob,es,ep,k _ _ (.inl Y) e,c⟩
 |dT kvs=>
  let⟨z,y,xs,r,ob,es,ep,e,c⟩:=x;exact⟨z,y,xs,Paired.aeb r λp q z=>⟨z.1,ht _ _ z.2.1,z.2.2⟩,ob,es,ep,k _ _ (.inl Y) e,c⟩
 |set atE n=>let⟨ob,es,ep,t,e,c⟩:=x;exact⟨ob,es,ep,t,k _ _ (.inl Y) e,c⟩
 |ins C dx fs=>
  let⟨d,z,ne,e,mA,⟨od,es,ep,e2,c⟩,r⟩:=x;exact⟨ho _ d,z,ne,k _ _ (.inl Y) e,mA,⟨od,es,ep,k _ _ (.inr d) e2,c⟩,r⟩
 |own y=>let⟨ob,e⟩:=x;exact⟨ob,k _ _ (.inl Y) e⟩
 |xd fs=>let⟨mA,⟨od,es,ep,e,c⟩,r⟩:=x;exact⟨mA,⟨od,es,ep,k _ _ (.inl Y) e,c⟩,r⟩
 |rng lo hi=>let⟨t,u,v,e⟩:=x;exact⟨t,u,v,k _ _ (.inl Y) e⟩
 |ND ob u ih=>let⟨e,q⟩:=x;exact⟨k _ _ (.inl Y) e,ih q⟩
 |tbl ps=>
  have e:h.get? a=some {cls:= .none,data:= .fields ps}:=x;show h'.get? a=some {cls:= .none,data:= .fields ps};exact k a _ (.inl Y) e
 |met f y=>
  have e:h.get? a=some (CT (.ref f)<|.ref y):=x;show h'.get? a=some (CT (.ref f)<|.ref y);exact k a _ (.inl Y) e
 |ext φ=>let⟨p,⟨o,e⟩,st⟩:=x;exact⟨st _ _ p λo q=>k _ _ (.inl Y) q,⟨o,k _ _ (.inl Y) e⟩,st⟩
def vF.lt(x:vF P w H h)(e:H a=some o):a<h.objs.size:=(x a o e).lt
def vF.fresh(x:vF P w H h)(e:h.objs.size<=a):H a=none:=by
 cases q:H a with
 |none=>rfl
 |some u=>exact absurd (bD (x.lt q) e) (fJ _)
def vF.kept(x:vF P w H h)(k:∀b u,h.get? b=some u->h'.get? b=some u):vF P w H h':= λa o e=>
 (x a o e).CK (λb u _ q=>k b u q) (λ_ q=>q) λ_ _ q=>q
def vF.laid(x:vF P w H h)(k:∀b u,h.get? b=some u->h'.get? b=some u)(hp:h.objs.size<=a)(new:iL P w (upd H a o) h' a o):vF P w (upd H a o) h':= λb u e=>by
 have hn:=x.fresh hp;by_cases hb:b=a
 .subst hb;rw[aq]at e;cases e;exact new
 .rw[aY hb]at e;exact(x b u e).CK (λc v _ q=>k c v q) (λc q=>by rw[aY<|bg q hn];exact q) λc xs q=>by rw[aY<|bg q hn];exact q
end
def Rd(H:Hp)(a:O)(u:HO):Prop:=H a=some u∨∃o,H a=some (.ND o u)
def Rd.ok{a:O}{u:HO}(r:Rd H a u)(x:vF P w H h):iL P w H h a u:=by
 rcases r with r|⟨o,r⟩
 .exact x a u r
 .let⟨_,q⟩:=x a _ r;exact q
def Mut:Option HO->Prop
 |some (.lst _)=>True
 |some (.dK _)=>True
 |some (.dT _)=>True
 |some (.set _ _)=>True
 |some (.ins _ _ _)=>True
 |some (.ext _)=>True
 |_=>False
section
variable{x e:O} {o':HO}
def vF.write(ok:vF P w H h)(mu:Mut<|H x)(he:e=x∨H e=some (.own x))(k:∀b u,b≠e->h.get? b=some u->h'.get? b=some u)(heo:∃u,h'.get? e=some u) (new:iL P w (upd H x o') h' x o'):vF P w (upd H x o') h':= λb u q=>by
 have aib:∀c y,H c=some (.own y)->c≠x:= λc y r z=>by subst z;rw[r]at mu;exact mu
 have amh:∀c xs,H c=some (.tup xs)->c≠x:= λc xs r z=>by subst z;rw[r]at mu;exact mu
 by_cases hb:b=x
 .subst hb;rw[aq]at q;cases q;exact new
 .rw[aY hb]at q;by_cases hbe:b=e
  .have q':H b=some (.own x):=by
    rcases he with z|z
    .exact absurd (hbe.trans z) hb
    .rw[hbe];exact z
   rw[q]at q';cases q';let⟨v,hv⟩:=heo;exact⟨v,by rw[hbe];exact hv⟩
  .refine(ok b u q).CK (λc v hc r=>k c v ?_ r) (λc r=>by rw[aY<|aib c b r];exact r) λc xs r=>by rw[aY<|amh c xs r];exact r
   rcases hc with rfl|hc
   .exact hbe
   .rintro rfl;rcases he with z|z
    .exact aib c b hc z
    .rw[hc]at z;cases z;exact hb Y
end
structure Un (fs ex:List O) (H U:Hp) (h h':eZ):Prop where
 keep:∀b o,h.get? b=some o->H b=none->b∉fs->b∉ex->h'.get? b=some o
 slot:∀b o,h.get? b=some o->H b=none->b∈fs->b∉ex->∃sl,h'.get? b=some {o with slots:=sl}
 free:∀b o,h.get? b=some o->H b=none->b∉ex->U b=none
 there:∀b o,h.get? b=some o->b∉ex->∃o',h'.get? b=some o'
 Em:∀b xs,H b=some (.tup xs)->U b=some (.tup xs)
 Ci:∀b o u,H b=some (.ND o u)->U b=some (.ND o u)
 Ek:∀b ps,H b=some (.tbl ps)->∃more,U b=some (.tbl<|ps++more)
section
variable{fs Zf ex ex':List O} {L H2:Hp} {G h2:eZ} {a x e:O}
def Un.any(u:Un fs ex H L h G){b:O}{ob:Obj}(q:h.get? b=some ob)(n:H b=none)(hx:b∉ex):∃sl,G.get? b=some {ob with slots:=sl}:=by
 by_cases hb:b∈fs
 .exact u.slot b ob q n hb hx
 .exact⟨ob.slots,u.keep b ob q n hb hx⟩
def Un.kept(k:∀b u,h.get? b=some u->h'.get? b=some u):Un fs ex H H h h':=⟨λb ob q _ _ _=>k b ob q,λb ob q _ _ _=>⟨ob.slots,k b ob q⟩,λ_ _ _ n _=>n,λb ob q _=>⟨ob,k b ob q⟩,λ_ _ q=>q,λ_ _ _ q=>q,λ_ ps q=>⟨#[],by rw[q];simp⟩⟩
def Un.refl:Un fs ex H H h h:=Un.kept λ_ _ q=>q
def Un.laid(k:∀b u,h.get? b=some u->h'.get? b=some u)(hp:h.objs.size<=a)(hn:H a=none):Un fs ex H (upd H a o) h h' where
 keep:= λb u q _ _ _=>k b u q
 slot:= λb u q _ _ _=>⟨u.slots,k b u q⟩
 free:= λb u q n _=>by rw[aY<|cj<|bD (bA q) hp];exact n
 there:= λb u q _=>⟨u,k b u q⟩
 Em:= λb xs q=>by rw[aY<|bg q hn];exact q
 Ci:= λb u xs q=>by rw[aY<|bg q hn];exact q
 Ek:= λb ps q=>⟨#[],by rw[aY<|bg q hn,q];simp⟩
def Un.write(mu:Mut<|H x)(he:e=x∨H e=some (.own x))(k:∀b u,b≠e->h.get? b=some u->h'.get? b=some u)(heo:∃u,h'.get? e=some u):Un fs ex H (upd H x o) h h':=by
 have hx:∀b,H b=none->b≠x:= λb n z=>by subst z;rw[n]at mu;exact mu
 have hb:∀b,H b=none->b≠e:= λb n z=>by
  subst z;rcases he with r|r
  .exact hx b n r
  .rw[n]at r;cases r
 have hm:∀b u,H b=some u->¬Mut (some u)->b≠x:= λb u q nm z=>by subst z;rw[q]at mu;exact nm mu
 calc⟨λb u q n _ _=>k b u (hb b n) q,λb u q n _ _=>⟨u.slots,k b u (hb b n) q⟩,λb u q n _=>by rw[aY<|hx b n];exact n,λb u q _=>?_,λb xs q=>by rw[aY<|hm b _ q λz=>z];exact q,λb u xs q=>by rw[aY<|hm b _ q λz=>z];exact q,λb ps q=>⟨#[],by rw[aY<|hm b _ q λz=>z,q];simp⟩⟩;by_cases hbe:b=e
 .subst hbe;exact heo
 .exact⟨u,k b u hbe q⟩
end
def trk(h:eZ)(H:Hp):List O:=(fh h.objs.size).filter λa=>(H a).isSome
def NG(h:eZ)(H:Hp):eZ:=PySem.W.hideAll h (trk h H)
def U9(h:eZ)(H:Hp):(NG h H).objs.size=h.objs.size:=PySem.W.hideAll_size _ _
def WX{b:O}{o:Obj}(e:h.get? b=some o)(n:H b=none):(NG h H).get? b=some o:=PySem.W.hideAll_get _ e λhm=>by
  have q:(H b).isSome=true:=(Y0.mp hm).2;rw[n]at q;simp at q
def aaw{b:O}{o:Obj}(e:(NG h H).get? b=some o):h.get? b=some o/\H b=none:=by
 have e':h.get? b=some o:=PySem.W.of_hideAll (trk h H) e;calc⟨e',?_⟩;cases q:H b with
 |none=>rfl
 |some x=>
  have hm:b∈trk h H:=Y0.mpr ⟨sL.mpr<|bA e',by simp[q]⟩;have z:(NG h H).get? b=none:=PySem.W.hideAll_none (trk h H) hm;rw[z]at e;cases e
structure Mod (K:aJ) (mg:Str->Option aC) (base:eZ):Prop where
 kin:K.In base
 glob:base.Ns mainGlobals mg
 blt:∃mb,base.Ns abD mb/\∀x:Str,x≠"__name__"->mb x=ny x
 nolimit:base.NoLimit
structure Cx where
 prog:eL
 w:gH
 K:aJ
 mg:Str->Option aC
 base:eZ
 A:gZ
 N:List Str
 Hx:aP
 H_0:Hp
 env:Env
 outer:List Env
 stack:List Env
 ex:List O
 fn:Str->Bool
 calm:Bool
 pn:List (O×Obj)
 xe:aC->aP->Prop
def xS(l:List Env):List O:=l.filterMap (·.frame)
abbrev Cx.fs(X:Cx):List O:=xS X.outer
def Vis(sc:qL)(x:Str):Prop:=sc.names.lookup x=some .local∨sc.names.lookup x=some .cell∨sc.names.lookup x=some .free
def Loc(sc:qL)(x:Str):Prop:=sc.names.lookup x=some .local∨sc.names.lookup x=some .cell
def Look(env:Env)(h:eZ)(m:Str->Option aC)(x:Str)(u:aC):Prop:=(env.kindOf x=some .local/\m x=some u)∨((env.kindOf x=some .cell∨env.kindOf x=some .free)/\∃c,env.cells.lookup x=some c/\h.IsCell c (some u))
structure Cx.Ok (X:Cx):Prop where
 mod:Mod X.K X.mg X.base
 kind:X.env.scope.kind= .function
 glob:X.env.globals=mainGlobals
 blt:X.env.builtins=abD
 above:X.Hx.heap.objs.size<=X.env.locals
 inj:∀x y c,X.env.cells.lookup x=some c->X.env.cells.lookup y=some c->x=y
 has:∀x,(X.env.kindOf x=some .cell∨X.env.kindOf x=some .free)->∃c,X.env.cells.lookup x=some c
 cab:∀x c,X.fn x=true->X.env.cells.lookup x=some c->X.Hx.heap.objs.size<=c
 hd:X.calm=true->X.A.handled=none
 frames:X.A.frames=some X.stack
 stk:X.stack=X.outer∨(X.stack=X.env::X.outer/\X.env.frame=some X.env.locals)
 exf:∀b∈X.ex,b≠X.env.locals/\∀x c,X.env.cells.lookup x=some c->c≠b
 bs:∀b o,X.base.get? b=some o->X.Hx.heap.get? b=some o/\X.H_0 b=none
 WH:X.base.objs.size<=X.Hx.heap.objs.size
 R5:∀b o,X.base.get? b=some o->b∉X.ex
 Pp:∀b∈X.ex,b∉X.fs
 Cj:X.Hx.heap.FunFrames X.base X.outer
 ZZ:∀b∈X.fs,X.H_0 b=none
structure Inv (X:Cx) (aB:List<|O×Obj) (Z:List<|Option V) (H:Hp) (s:aP):Prop where
 ok:X.Ok
 os:s.os=X.Hx.os
 bare:EC s.gens
 base:Un X.fs X.ex X.H_0 H X.Hx.heap s.heap
 loc:∃m,s.heap.Ns X.env.locals m/\∀(i:Nat) (x:Str) (v:V),X.N[i]? =some x->Z[i]? =some (some v)->Vis X.env.scope x->∃u,RelV v u/\Look X.env s.heap m x u
 cell:∀x c,X.env.cells.lookup x=some c->∃v,s.heap.IsCell c v
 free:H X.env.locals=none
 o6:∀x c,X.env.cells.lookup x=some c->H c=none
 pin:∀p∈X.pn++aB,s.heap.get? p.1=some p.2/\H p.1=none/\p.1≠X.env.locals/\p.1∉X.fs/\∀v,p.2.data≠ .cell v
 fQ:vF X.prog X.w H s.heap
 len:Z.length=X.N.length
variable{X:Cx}
section
variable{Z:List (Option V)}
def Cx.Ok.amc(ok:X.Ok){b:O}{o:Obj}(e:X.base.get? b=some o):b∉X.fs:= λhb=>by
 have:=(ok.Cj.mem hb).1;rw[e]at this;cases this
def Inv.bs(I:Inv X aB Z H s):∀b o,X.base.get? b=some o->s.heap.get? b=some o/\H b=none:= λb o e=>
 ⟨I.base.keep b o (I.ok.bs b o e).1 (I.ok.bs b o e).2 (I.ok.amc e)<|I.ok.R5 b o e,I.base.free b o (I.ok.bs b o e).1 (I.ok.bs b o e).2<|I.ok.R5 b o e⟩
def Inv.bk(I:Inv X aB Z H s):∀b o,X.base.get? b=some o->s.heap.get? b=some o:= λb o e=>(I.bs b o e).1
def Inv.mod(I:Inv X aB Z H s):Mod X.K X.mg X.base:=I.ok.mod
def Inv.Ag(I:Inv X aB Z H s):X.K.In s.heap:=I.ok.mod.kin.keeps I.bk
def Inv.lt(I:Inv X aB Z H s):X.env.locals<s.heap.objs.size:=let⟨_,hn,_⟩:=I.loc;hn.lt
def Inv.sz(I:Inv X aB Z H s):X.Hx.heap.objs.size<=s.heap.objs.size:=bH I.ok.above (kL I.lt)
def Inv.amd(I:Inv X aB Z H s){a:O}(h:s.heap.objs.size<=a):a∉X.fs:= λhb=>by
 let⟨_,o,ho,_⟩:=I.ok.Cj.mem hb;exact absurd (bD (bA ho)<|bH I.sz h) (fJ _)
def Inv.cne(I:Inv X aB Z H s):∀x c,X.env.cells.lookup x=some c->c≠X.env.locals:= λx c e z=>by
 let⟨v,o,ho,hd⟩:=I.cell x c e;let⟨m,⟨o',es,ep,Tp,WW,_⟩,_⟩:=I.loc;rw[z,Tp]at ho;cases ho;rw[WW]at hd;cases hd
def Inv.Cj(I:Inv X aB Z H s):s.heap.FunFrames X.base X.outer:=by
 have all:∀(l:List Env),(∀b∈xS l,b∈X.fs)->X.Hx.heap.FunFrames X.base l->s.heap.FunFrames X.base l:=by
  intro l;induction l with
  |nil=>intro _ _;trivial
  |cons env r ih=>
   intro hs hl;let⟨hk,⟨atF,o,hf,hn,ho,hd⟩,hr⟩:=hl;have hL:atF∈X.fs:=hs atF (by unfold xS;rw[BZ,hf];exact bz);let⟨sl,e⟩:=I.base.slot atF o ho (I.ok.ZZ atF hL) hL λz=>I.ok.Pp atF z hL;exact⟨hk,⟨atF,_,hf,hn,e,hd⟩,ih (λb hb=>hs b<|by unfold xS;rw[BZ,hf];exact aV _ hb) hr⟩
 exact all X.outer (λ_ hb=>hb) I.ok.Cj
def Inv.stack(I:Inv X aB Z H s):s.heap.FunFrames X.base X.stack:=by
 rcases I.ok.stk with e|⟨e,hf⟩
 .rw[e];exact I.Cj
 .rw[e];let⟨m,hn,_⟩:=I.loc;calc .cons (by rw[I.ok.kind];decide) hf hn ?_ I.Cj;exact eZ.get?_none_of_le (bH I.ok.WH I.ok.above)
def Inv.FA(I:Inv X aB Z H s):∀b∈xS X.stack,b∈X.env.locals::X.fs:= λb hb=>by
 rcases I.ok.stk with e|⟨e,hf⟩
 .rw[e]at hb;exact aV _ hb
 .rw[e]at hb;unfold xS at hb;rw[BZ,hf]at hb;exact hb
def Inv.As(I:Inv X aB Z H s):∀b∈xS X.stack,H b=none:= λb hb=>by
 rcases aX.mp (I.FA b hb)with e|hb
 .rw[e];exact I.free
 .let⟨_,o,ho,_⟩:=I.ok.Cj.mem hb;exact I.base.free b o ho (I.ok.ZZ b hb) λz=>I.ok.Pp b z hb
def Inv.step(I:Inv X aB Z H s) (Pz:∀b∈ch,(b∈X.ex∨X.Hx.heap.objs.size<=b)/\b≠X.env.locals/\(∀x c,X.env.cells.lookup x=some c->c≠b)/\∀p∈X.pn++aB,p.1≠b) (keep:∀b o,b≠X.env.locals->b∉X.fs->b∉ch->s.heap.get? b=some o->H b=none->h'.get? b=some o) (slot:∀b o,b≠X.env.locals->b∈X.fs->b∉ch->s.heap.get? b=some o->H b=none->∃sl,h'.get? b=some {o with slots:=sl})(free:∀b o,b∉ch->s.heap.get? b=some o->H b=none->U b=none) (there:∀b o,b∉ch->s.heap.get? b=some o->∃o',h'.get? b=some o') (Em:∀b xs,H b=some (.tup xs)->U b=some (.tup xs))(Ci:∀b o u,H b=some (.ND o u)->U b=some (.ND o u))(Ek:∀b ps,H b=some (.tbl ps)->∃more,U b=some (.tbl<|ps++more)) (ns:∀m,s.heap.Ns X.env.locals m->h'.Ns X.env.locals m)(fQ:vF X.prog X.w U h')(hg:EC g'):Inv X aB Z U {s with heap:=h',gens:=g',drawn:=d',toks:=t'}:=by
 have neL:∀b o,X.Hx.heap.get? b=some o->b≠X.env.locals:= λb o e=>cj<|bD (bA e) I.ok.above;have neC:∀b o,X.Hx.heap.get? b=some o->b∉X.ex->b∉ch:= λb o e hx hb=>by
  rcases(Pz b hb).1 with z|z
  .exact hx z
  .exact absurd (bD (bA e) z) (fJ _)
 have cellK:∀x c,X.env.cells.lookup x=some c->∀v,s.heap.IsCell c v->h'.IsCell c v:= λx c e v ⟨o,ho,hd⟩=>by
  have nch:c∉ch:= λz=>(Pz c z).2.2.1 x c e Y;by_cases hc:c∈X.fs
  .let⟨sl,q⟩:=slot c o (I.cne x c e) hc nch ho<|I.o6 x c e;exact⟨_,q,hd⟩
  .exact⟨o,keep c o (I.cne x c e) hc nch ho<|I.o6 x c e,hd⟩
 refine⟨I.ok,I.os,hg,⟨λb o e n hb hx=>?_,λb o e n hb hx=>?_,λb o e n hx=>?_,λb o e hx=>?_,λb xs e=>Em b xs<|I.base.Em b xs e,λb o xs e=>Ci b o xs<|I.base.Ci b o xs e,λb ps e=>?_⟩,?_,λx c e=>?_,?_,λx c e=>?_,λp hp=>?_,fQ,I.len⟩
 .exact keep b o (neL b o e) hb (neC b o e hx) (I.base.keep b o e n hb hx) (I.base.free b o e n hx)
 .let⟨sl,e1⟩:=I.base.slot b o e n hb hx;let⟨sl',e2⟩:=slot b _ (neL b o e) hb (neC b o e hx) e1<|I.base.free b o e n hx;exact⟨sl',e2⟩
 .let⟨o',e1⟩:=I.base.there b o e hx;exact free b o' (neC b o e hx) e1 (I.base.free b o e n hx)
 .let⟨o',e1⟩:=I.base.there b o e hx;exact there b o' (neC b o e hx) e1
 .let⟨m1,e1⟩:=I.base.Ek b ps e;let⟨m2,e2⟩:=Ek b _ e1;exact⟨m1++m2,by rw[e2,Array.append_assoc]⟩
 .let⟨m,hn,hl⟩:=I.loc;calc⟨m,ns m hn,λi x v e1 e2 e3=>?_⟩;let⟨u,r,l⟩:=hl i x v e1 e2 e3;calc⟨u,r,?_⟩;rcases l with l|⟨k,c,e,z⟩
  .exact .inl l
  .exact .inr ⟨k,c,e,cellK x c e _ z⟩
 .let⟨v,z⟩:=I.cell x c e;exact⟨v,cellK x c e v z⟩
 .let⟨m,⟨o,_,_,ho,_⟩,_⟩:=I.loc;exact free _ o (λz=>(Pz _ z).2.1 Y) ho I.free
 .let⟨v,o,ho,hd⟩:=I.cell x c e;exact free c o (λz=>(Pz c z).2.2.1 x c e Y) ho (I.o6 x c e)
 .let⟨e,n,ne,nf,d⟩:=I.pin p hp;have nch:p.1∉ch:= λz=>(Pz p.1 z).2.2.2 p hp Y;exact⟨keep p.1 p.2 ne nf nch e n,free p.1 p.2 nch e n,ne,nf,d⟩
def Inv.un(I:Inv X aB Z H s)(u:Un X.fs [] H U s.heap h')(fQ:vF X.prog X.w U h'):Inv X aB Z U {s with heap:=h',toks:=t'}:=by
 let⟨m,⟨o,es,ep,ho,r⟩,_⟩:=id I.loc;let⟨sl,hL⟩:=u.any ho I.free 's';exact I.step (g':=s.gens) (d':=s.drawn) (ch:=[]) (λ_ z=>nomatch z) (λb o _ hb _ e n=>u.keep b o e n hb 's') (λb o _ hb _ e n=>u.slot b o e n hb 's') (λb o _ e n=>u.free b o e n 's') (λb o _ e=>u.there b o e 's') u.Em u.Ci u.Ek (λm' hm=>by
  let⟨o',HW,ep',Tp,r'⟩:=hm;rw[ho]at Tp;cases Tp;exact⟨_,HW,ep',hL,r'⟩) fQ I.bare
def Inv.call(I:Inv X aB Z H s)(u:Un (xS X.stack) ch H U s.heap h')(fQ:vF X.prog X.w U h')(hg:EC g') (Pz:∀b∈ch,(b∈X.ex∨X.Hx.heap.objs.size<=b)/\b≠X.env.locals/\(∀x c,X.env.cells.lookup x=some c->c≠b)/\∀p∈X.pn++aB,p.1≠b):Inv X aB Z U {s with heap:=h',gens:=g',drawn:=d',toks:=t'}:=by
 let⟨m,⟨o,es,ep,ho,r⟩,_⟩:=id I.loc;let⟨sl,hL⟩:=u.any ho I.free λz=>(Pz _ z).2.1 Y;exact I.step (ch:=ch) Pz (λb o hL hb hc e n=>u.keep b o e n (λz=>(aX.mp<|I.FA b z).elim hL hb) hc) (λb o _ _ hc e n=>u.any e n hc) (λb o hc e n=>u.free b o e n hc) (λb o hc e=>u.there b o e hc) u.Em u.Ci u.Ek (λm' hm=>by
  let⟨o',HW,ep',Tp,r'⟩:=hm;rw[ho]at Tp;cases Tp;exact⟨_,HW,ep',hL,r'⟩) fQ hg
def Inv.turned(I:Inv X aB Z H s)(k:∀b o,b≠it->s.heap.get? b=some o->h'.get? b=some o)(hn:H it=none)(hL:it≠X.env.locals) (G:it∈X.ex∨X.Hx.heap.objs.size<=it)(h2:∀x c,X.env.cells.lookup x=some c->c≠it)(h3:∀p∈X.pn++aB,p.1≠it):Inv X aB Z H {s with heap:=h',toks:=t'}:=by
 have nit:∀b u,H b=some u->b≠it:= λb u e z=>by rw[z,hn]at e;cases e
 refine I.step (g':=s.gens) (d':=s.drawn) (ch:=[it]) (λb hb=>?_) (λb o _ _ hc e _=>k b o (λz=>hc<|by simp[z]) e) (λb o _ _ hc e _=>⟨o.slots,k b o (λz=>hc<|by simp[z]) e⟩) (λ_ _ _ _ n=>n) (λb o hc e=>⟨o,k b o (λz=>hc<|by simp[z]) e⟩) (λ_ _ e=>e) (λ_ _ _ e=>e) (λb ps e=>⟨#[],by rw[e];simp⟩) (λm hm=>?_) (λb u e=>?_) I.bare
 .have e:b=it:=by simpa using hb
  subst e;exact⟨G,hL,h2,h3⟩
 .let⟨o,es,ep,ho,r⟩:=hm;exact⟨o,es,ep,k _ o (f6 hL) ho,r⟩
 .refine(I.fQ b u e).CK (λc v hc q=>k c v ?_ q) (λ_ q=>q) λ_ _ q=>q;rcases hc with z|z
  .rw[z];exact nit b u e
  .exact nit c _ z
def Inv.tok(I:Inv X aB Z H s)(t:Nat):Inv X aB Z H {s with toks:=t}:=I.un (h':=s.heap) (t':=t) Un.refl I.fQ
def Inv.kept(I:Inv X aB Z H s)(k:∀b u,s.heap.get? b=some u->h'.get? b=some u):Inv X aB Z H {s with heap:=h',toks:=t'}:=I.un (Un.kept k) (I.fQ.kept k)
def Inv.laid{a:O}(I:Inv X aB Z H s)(k:∀b u,s.heap.get? b=some u->h'.get? b=some u)(hp:s.heap.objs.size<=a)(new:iL X.prog X.w (upd H a o) h' a o):Inv X aB Z (upd H a o) {s with heap:=h',toks:=t'}:=I.un (Un.laid k hp<|I.fQ.fresh hp) (I.fQ.laid k hp new)
def Inv.write{x e:O}(I:Inv X aB Z H s)(mu:Mut<|H x)(he:e=x∨H e=some (.own x))(k:∀b u,b≠e->s.heap.get? b=some u->h'.get? b=some u)(heo:∃u,h'.get? e=some u) (new:iL X.prog X.w (upd H x o) h' x o):Inv X aB Z (upd H x o) {s with heap:=h',toks:=t'}:=I.un (Un.write mu he k heo) (I.fQ.write mu he k heo new)
def Inv.weak{σ':List (Option V)}(I:Inv X aB Z H s)(hl:σ'.length=Z.length)(w:∀(i:Nat) v,σ'[i]? =some (some v)->Z[i]? =some (some v)):Inv X aB σ' H s:=⟨I.ok,I.os,I.bare,I.base,let⟨m,hn,hl'⟩:=I.loc;⟨m,hn,λi x v e1 e2 e3=>hl' i x v e1 (w i v e2) e3⟩,I.cell,I.free,I.o6,I.pin,I.fQ,hl.trans I.len⟩
def Inv.T9{acg:List (O×Obj)}(I:Inv X aB Z H s)(h:∀p∈acg,s.heap.get? p.1=some p.2/\H p.1=none/\p.1≠X.env.locals/\p.1∉X.fs/\∀v,p.2.data≠ .cell v):Inv X acg Z H s:=⟨I.ok,I.os,I.bare,I.base,I.loc,I.cell,I.free,I.o6,λp hp=>(cN.mp hp).elim (λz=>I.pin p<|AB _ z) (h p),I.fQ,I.len⟩
def Ju(hN:N.Nodup)(a:N[i]? =some x)(b:N[j]? =some x):i=j:=by
 let⟨G,e1⟩:=au.mp a;let⟨h2,e2⟩:=au.mp b;exact(G2 hN).mp (e1.trans e2.symm)
def Au{Q:Unit->aP->Prop}(I:Inv X aB Z H s)(hN:X.N.Nodup)(hi:X.N[i]? =some x)(hx:Loc X.env.scope x)(r:RelV v u) (h:∀s',Inv X aB (Z.set i<|some v) H s'->(∃a,xH a s.heap s'.heap/\(a=X.env.locals∨X.env.cells.lookup x=some a))->Q () s')(hf:X.fn x=true∨X.env.scope.names.lookup x=some .local:=by first|exact .inl rfl|exact .inr rfl|assumption):wpAny M A (storeName X.env x u) Q E s:=by
 let⟨m,hn,hl⟩:=id I.loc;have ak4:(X.env.scope.kind== .class||(X.env.scope.kind== .module&&X.env.locals !=X.env.globals))=false:=by rw[I.ok.kind];rfl
 have ahn:i<Z.length:=by rw[I.len];exact(au.mp hi).1
 have cne:=I.cne;have tracked:∀{a:O} {h':eZ},(∃o,s.heap.get? a=some o/\H a=none)->xH a s.heap h'->vF X.prog X.w H h':= λ{a h'} ha hs b ob e=>by
  let⟨_,_,F2⟩:=ha;refine(I.fQ b ob e).CK (λc w' hc q=>(hs.2 c ?_).trans q) (λ_ q=>q) λ_ _ q=>q;rintro rfl;rcases hc with rfl|hc
  .rw[F2]at e;cases e
  .rw[F2]at hc;cases hc
 rcases hx with hk|hk
 .calc wpAny_storeName_local hk hn (λh' hn' hs=>?_) ak4;let⟨oL,_,_,hoL,_⟩:=id hn;refine h _ ⟨I.ok,I.os,I.bare,⟨λb o e n hb hx=>?_,λb o e n hb hx=>?_,I.base.free,λb o e hx=>?_,I.base.Em,I.base.Ci,I.base.Ek⟩,⟨_,hn',λj y v' e1 e2 e3=>?_⟩,λy c e=>?_,I.free,I.o6,λp hp=>?_,tracked ⟨oL,hoL,I.free⟩ hs,~~~I.len⟩ ⟨_,hs,.inl Y⟩
  .exact(hs.2 b<|cj<|bD (bA e) I.ok.above).trans (I.base.keep b o e n hb hx)
  .let⟨sl,e1⟩:=I.base.slot b o e n hb hx;exact⟨sl,(hs.2 b<|cj<|bD (bA e) I.ok.above).trans e1⟩
  .let⟨o',e1⟩:=I.base.there b o e hx;exact⟨o',(hs.2 b<|cj<|bD (bA e) I.ok.above).trans e1⟩
  .by_cases hj:j=i
   .subst hj;rw[hi]at e1;cases e1;rw[xG ahn]at e2;cases e2;exact⟨u,r,.inl ⟨hk,'s'⟩⟩
   .rw[Az<|f6 hj]at e2;let⟨u',r',q⟩:=hl j y v' e1 e2 e3;calc⟨u',r',?_⟩;rcases q with⟨k,e⟩|⟨k,c,e,z⟩
    .calc .inl ⟨k,?_⟩;have:y≠x:= λe=>hj<|Ju hN e1<|e▸hi;simp[this,e]
    .exact .inr ⟨k,c,e,z.sameBut hs<|cne y c e⟩
  .let⟨w',z⟩:=I.cell y c e;exact⟨w',z.sameBut hs<|cne y c e⟩
  .let⟨e,n,ne,nf,d⟩:=I.pin p hp;exact⟨(hs.2 p.1 ne).trans e,n,ne,nf,d⟩
 .have hfn:X.fn x=true:=by
   rcases hf with z|z
   .exact z
   .rw[z]at hk;cases hk
  let⟨c,hc⟩:=I.ok.has x<|.inl hk;let⟨w',z⟩:=I.cell x c hc;calc wpAny_storeName_cell I.ok.kind hk hc z λh' hc' hs=>?_;let⟨oc,hoc,alw⟩:=id z;refine h {s with heap:=h'} ⟨I.ok,I.os,I.bare,⟨λb o e n hb hx=>?_,λb o e n hb hx=>?_,I.base.free,λb o e hx=>?_,I.base.Em,I.base.Ci,I.base.Ek⟩,⟨m,hn.sameBut hs<|f6<|cne x c hc,λj y v' e1 e2 e3=>?_⟩,λy c' e=>?_,I.free,I.o6,λp hp=>?_,tracked ⟨oc,hoc,I.o6 x c hc⟩ hs,~~~I.len⟩ ⟨c,hs,.inr hc⟩
  .exact(hs.2 b<|cj<|bD (bA e)<|I.ok.cab x c hfn hc).trans (I.base.keep b o e n hb hx)
  .let⟨sl,e1⟩:=I.base.slot b o e n hb hx;exact⟨sl,(hs.2 b<|cj<|bD (bA e)<|I.ok.cab x c hfn hc).trans e1⟩
  .let⟨o',e1⟩:=I.base.there b o e hx;exact⟨o',(hs.2 b<|cj<|bD (bA e)<|I.ok.cab x c hfn hc).trans e1⟩
  .by_cases hj:j=i
   .subst hj;rw[hi]at e1;cases e1;rw[xG ahn]at e2;cases e2;exact⟨u,r,.inr ⟨.inl hk,c,hc,hc'⟩⟩
   .rw[Az<|f6 hj]at e2;let⟨u',r',q⟩:=hl j y v' e1 e2 e3;calc⟨u',r',?_⟩;rcases q with q|⟨k,c',e,z'⟩
    .exact .inl q
    .calc .inr ⟨k,c',e,z'.sameBut hs ?_⟩;rintro rfl;exact hj (Ju hN e1<|I.ok.inj _ _ _ e hc▸hi)
  .by_cases hcc:c'=c
   .subst hcc;exact⟨_,hc'⟩
   .let⟨w2,z2⟩:=I.cell y c' e;exact⟨w2,z2.sameBut hs hcc⟩
  .let⟨e,n,ne,nf,d⟩:=I.pin p hp;calc⟨(hs.2 p.1 ?_).trans e,n,ne,nf,d⟩;intro q;rw[q,hoc]at e;have q':oc=p.2:=aL e;exact d w' (by rw[←q'];exact alw)
def KH{Q:Unit->aP->Prop}(I:Inv X aB Z H s)(hN:X.N.Nodup)(hi:X.N[i]? =some x)(hx:Loc X.env.scope x)(r:RelV v u) (h:∀s',Inv X aB (Z.set i<|some v) H s'->Q () s')(hf:X.fn x=true∨X.env.scope.names.lookup x=some .local:=by first|exact .inl rfl|exact .inr rfl|assumption):wpAny M A (storeName X.env x u) Q E s:=Au I hN hi hx r (λs' I' _=>h s' I') hf
def Inv.Mg(I:Inv X aB Z H s)(ho:s'.os=s.os)(u:Un (xS X.stack) ch H U s.heap s'.heap)(fQ:vF X.prog X.w U s'.heap)(hg:EC s'.gens) (Pz:∀b∈ch,(b∈X.ex∨X.Hx.heap.objs.size<=b)/\b≠X.env.locals/\(∀x c,X.env.cells.lookup x=some c->c≠b)/\∀p∈X.pn++aB,p.1≠b):Inv X aB Z U s':=by
 let⟨h',g',d',t',o'⟩:=s';have e:o'=s.os:=ho;subst e;exact I.call (g':=g') (t':=t') (d':=d') u fQ hg Pz
abbrev XK:=aC->Option O->Hp->Prop
abbrev St:=List (Option V)
abbrev VK:=V->Hp->Prop
abbrev TE:=St->Hp->VK->Prop
abbrev TT:=St->Hp->(Bool->Hp->Prop)->Prop
abbrev TA:=St->Hp->(List V->Hp->Prop)->Prop
end
structure Ends where
 nx:St->Hp->Prop
 rt:VK
 bk:St->Hp->Prop:= λ_ _=>False
 ct:St->Hp->Prop:= λ_ _=>False
abbrev TS:=Ends->St->Hp->Prop
inductive EP (X:Cx) (aB:List<|O×Obj) (Z:St) (Q:VK) (u:aC) (s':aP):Prop
 |mk (v U:_) (k0:Inv X aB Z U s') (k1:RelV v u) (k2:Q v U)
inductive TP (X:Cx) (aB:List<|O×Obj) (Z:St) (Q:Bool->Hp->Prop) (b:Bool) (s':aP):Prop
 |mk (U:_) (k0:Inv X aB Z U s') (k1:Q b U)
inductive AP (X:Cx) (aB:List<|O×Obj) (Z:St) (Q:List V->Hp->Prop) (us:List aC) (s':aP):Prop
 |mk (S U:_) (k0:Inv X aB Z U s') (k1:Vals S us) (k2:Q S U)
def SP(X:Cx)(aB:List<|O×Obj)(D:Ends)(f:Flow)(s':aP):Prop:=match f with
 | .next=>∃σ' U,Inv X aB σ' U s'/\D.nx σ' U
 | .brk=>∃σ' U,Inv X aB σ' U s'/\D.bk σ' U
 | .cont=>∃σ' U,Inv X aB σ' U s'/\D.ct σ' U
 | .ret u=>∃v σ' U,Inv X aB σ' U s'/\RelV v u/\D.rt v U
def PE(X:Cx)(e:Expr)(t:TE):Prop:=∀(aB:List<|O×Obj) (s:aP) (Z:St) (H:Hp) (Q:VK),Inv X aB Z H s->t Z H Q->wpAny (model X.prog X.w) X.A (eval e X.env) (EP X aB Z Q) X.xe s
def PT(X:Cx)(e:Expr)(t:TT):Prop:=∀(aB:List<|O×Obj) (s:aP) (Z:St) (H:Hp) (Q:Bool->Hp->Prop),Inv X aB Z H s->t Z H Q->wpAny (model X.prog X.w) X.A (isTrue e X.env<|eval e X.env) (TP X aB Z Q) X.xe s
def PW(X:Cx)(e:Expr)(t:TT):Prop:=∀(whole:Sem aC) (aB:List<|O×Obj) (s:aP) (Z:St) (H:Hp) (Q:Bool->Hp->Prop),Inv X aB Z H s->t Z H Q->wpAny (model X.prog X.w) X.A (isTrue e X.env whole) (TP X aB Z Q) X.xe s
def PW.pt{t:TT}(h:PW X e t):PT X e t:=h _
def PA(X:Cx)(es:List Expr)(t:TA):Prop:=∀(pos:Pos) (aB:List<|O×Obj) (s:aP) (Z:St) (H:Hp) (Q:List V->Hp->Prop),Inv X aB Z H s->t Z H Q->wpAny (model X.prog X.w) X.A (spliced<|backTo pos<|starEach es X.env) (AP X aB Z Q) X.xe s
def PS(X:Cx)(st:b5)(t:TS):Prop:=∀(aB:List<|O×Obj) (s:aP) (Z:St) (H:Hp) (D:Ends),Inv X aB Z H s->t D Z H->wpAny (model X.prog X.w) X.A (exec st X.env) (SP X aB D) X.xe s
def OR(X:Cx)(st:List b5)(t:TS):Prop:=∀(aB:List<|O×Obj) (s:aP) (Z:St) (H:Hp) (D:Ends),Inv X aB Z H s->t D Z H->wpAny (model X.prog X.w) X.A (execs st X.env) (SP X aB D) X.xe s
def iz{t:Sem α}{Q Q':α->aP->Prop}(h:wpAny M A t Q E s)(hQ:∀a s,Q a s->Q' a s):wpAny M A t Q' E s:=fF h hQ λ_ _ x=>x
inductive RV (i:Nat) (Z:St) (H:Hp) (Q:VK):Prop
 |mk (v:V) (e:Z[i]? =some (some v:_)) (k:Q v H)
def gF(i:Nat):TE:= λZ H Q=>RV i Z H Q
def tC(v:V):TE:= λ_ H Q=>Q v H
def aem(hN:X.N[i]? =some x)(hv:Vis X.env.scope x)(hd:(x==("__debug__":Str))=false:=by decide)(Zi:(x==("__classdict__":Str))=false:=by decide):PE X (.Name x pos)<|gF i:=by
 intro aB s Z H Q I h;let⟨v,e,h⟩:=h;let⟨m,hn,hl⟩:=I.loc;let⟨u,r,l⟩:=hl i x v hN e hv;have fin:EP X aB Z Q u s:=⟨v,H,I,r,h⟩;rcases l with⟨hk,hm⟩|⟨hk,c,hc,Tj⟩
 .exact abF (Y8 I.ok.kind hk hn hm fin) hd
 .rcases hk with hk|hk
  .exact abF (ZC I.ok.kind hk hc Tj fin) hd
  .exact abF (wpAny_loadName_free I.ok.kind hk hc Tj fin Zi) hd
def bR{i j pos}:PE X (.Constant (.int i) j pos)<|tC<|.int i:= λ_ _ _ H _ I h=>wpAny_Constant_int ⟨.int i,H,I.tok _,⟨_,Y⟩,h⟩
def JT{j pos}:PE X (.Constant .none j pos)<|tC .gQ:= λ_ _ _ H _ I h=>SS ⟨.gQ,H,I,Y,h⟩
def cQ{x j pos}:PE X (.Constant (.str x) j pos)<|tC<|.str x:= λ_ _ _ H _ I h=>Calls.Constant_str ⟨.str x,H,I.tok _,⟨_,Y⟩,h⟩
def Gl(X:Cx)(x:Str):Prop:=X.env.kindOf x=some .globalImplicit
variable{Z:St} {ta tb te tc tl:TE} {t:TS} {tA tB':TT}
def pQ(I:Inv X aB Z H s)(hg:Gl X x)(hm:X.mg x=some u)(h:Q u s) (hd:(x==("__debug__":Str))=false:=by decide):wpAny (model X.prog X.w) X.A (eval (.Name x pos) X.env) Q E s:=K2 I.ok.kind hg (Calls.loadGlobal_global (by rw[I.ok.glob];exact I.mod.glob.keeps I.bk) hm h) hd
def yC(I:Inv X aB Z H s)(hg:Gl X x)(hm:X.mg x=none)(hv:ny x=some u)(h:Q u s) (hn:x≠"__name__":=by decide)(hd:(x==("__debug__":Str))=false:=by decide):wpAny (model X.prog X.w) X.A (eval (.Name x pos) X.env) Q E s:=by
 let⟨mb,G,h2⟩:=I.mod.blt;exact K2 I.ok.kind hg (Calls.loadGlobal_builtin (by rw[I.ok.glob];exact I.mod.glob.keeps I.bk) hm (by rw[I.ok.blt];exact G.keeps I.bk) ((h2 x hn).trans hv) h) hd
def N9(hg:Gl X x)(hm:X.mg x=some u)(r:RelV v u)(hd:(x==("__debug__":Str))=false:=by decide):PE X (.Name x pos)<|tC v:= λ_ _ _ H _ I h=>pQ I hg hm ⟨v,H,I,r,h⟩ hd
def PC(X:Cx)(op:CmpOp)(a b:Expr)(t:TE):Prop:=∀(aB:List<|O×Obj) (s:aP) (Z:St) (H:Hp) (Q:VK),Inv X aB Z H s->t Z H Q->wpAny (model X.prog X.w) X.A (eval a X.env) (λv s₁=>wpAny (model X.prog X.w) X.A (eval b X.env) (λu s₂=>wpAny (model X.prog X.w) X.A (compareOp op v u) (EP X aB Z Q) X.xe s₂) X.xe s₁) X.xe s
def Xx(b:Expr)(h:op≠ .In)(h2:op≠ .NotIn):behindInMarks op b=false:=by
 have e1:(op==ai7)=false:=by cases op<;>first|rfl|exact absurd rfl h
 have e2:(op==acE)=false:=by cases op<;>first|rfl|exact absurd rfl h2
 cases b<;>simp[behindInMarks,e1,e2]
def aiP(ta:TE):TE:= λZ H Q=>ta Z H λx L=>Q (.bl<|decide<|x= .gQ) L
def aiT(ta:TE):TE:= λZ H Q=>ta Z H λx L=>Q (.bl<|!decide (x= .gQ)) L
def RelV.P5{x:V}{v:aC}(r:RelV x v):(v==f9)=decide (x= .gQ):=by
 cases x with
 |gQ=>cases r;rfl
 |bl _=>cases r;rfl
 |int _=>let⟨t,rfl⟩:=r;rfl
 |str _=>let⟨t,rfl⟩:=r;rfl
 |O9 _=>let⟨t,rfl⟩:=r;rfl
 |U5 _=>let⟨t,rfl⟩:=r;rfl
 |ref _=>cases r;rfl
 |ty _=>cases r;rfl
def Sf{j rF}(ha:PE X a ta):PC X .Is a (.Constant .none j rF)<|aiP ta:=by
 intro aB s Z H Q I h;calc iz (ha aB s Z H _ I h) ?_;rintro v s1 ⟨x,L,I1,r1,q1⟩;exact SS (is_none_gen ⟨.bl _,L,I1,by rw[r1.P5];rfl,q1⟩)
def aaA{j rF}(ha:PE X a ta):PC X .IsNot a (.Constant .none j rF)<|aiT ta:=by
 intro aB s Z H Q I h;calc iz (ha aB s Z H _ I h) ?_;rintro v s1 ⟨x,L,I1,r1,q1⟩;exact SS (isnot_none_gen ⟨.bl _,L,I1,by rw[r1.P5];rfl,q1⟩)
inductive RB (H:Hp) (Q:Bool->Hp->Prop) (x:V):Prop
 |mk (c:Bool) (k0:x= .bl c) (k1:Q c H)
def ais{Q:Bool->Hp->Prop}{x:V}:RB H Q x=∃c,x= .bl c/\Q c H:=propext ⟨λ⟨a,b,c⟩=>⟨a,b,c⟩,λ⟨a,b,c⟩=>⟨a,b,c⟩⟩
def tB(t:TE):TT:= λZ H Q=>t Z H λx L=>RB L Q x
def yW{t:TE}(h:PC X op a b t)(G:behindInMarks op b=false:=by first|exact Xx _ 'd' 'd'|rfl):PT X (.Compare a [op] [b] pos) (tB t):=by
 intro aB s Z H Q I hw;calc Wr (iz (h aB s Z H _ I hw) λv s1 G=>iz G λu s2 h2=>iz h2 ?_) G;rintro c s3 ⟨x,L,I1,r1,q1⟩;let⟨d,rfl,q⟩:=q1;cases r1;exact jU ⟨L,I1,q⟩
def fX{t:TE}(h:PE X e t)(he:∀whole,isTrue e X.env whole=(do let v←whole;standAt e.pos;holding [v] (truthy v)):=by intro _;rfl):PT X e<|tB t:=by
 intro aB s Z H Q I hw;calc isTrue_plain (iz (h aB s Z H _ I hw) ?_)<|he _;rintro v s1 ⟨x,L,I1,r1,q1⟩;let⟨d,rfl,q⟩:=q1;cases r1;exact jU ⟨L,I1,q⟩
def aeZ(t u:TT):TT:= λZ H Q=>t Z H λc L=>if c=true then u Z L Q else Q false L
def tOr(t u:TT):TT:= λZ H Q=>t Z H λc L=>if c=true then Q true L else u Z L Q
def aiS(t:TT):TT:= λZ H Q=>t Z H λc L=>Q (!c) L
def An(ha:PT X a tA):PW X (.BoolOp .And [a] pos) tA:=by
 intro wh aB s Z H Q I h;calc isTrue_and<|iz (ha aB s Z H Q I h) λc s1 e=>?_;cases c with
 |true=>exact isTrue_and_nil e
 |false=>exact e
def yX(ha:PT X a tA):PW X (.BoolOp .Or [a] pos) tA:=by
 intro wh aB s Z H Q I h;calc isTrue_or<|iz (ha aB s Z H Q I h) λc s1 e=>?_;cases c with
 |false=>exact isTrue_or_nil e
 |true=>exact e
def Cy(ha:PT X a tA)(hb:PW X (.BoolOp .And (b::rest) pos) tB'):PW X (.BoolOp .And (a::b::rest) pos)<|aeZ tA tB':=by
 intro wh aB s Z H Q I h;calc isTrue_and<|iz (ha aB s Z H _ I h) ?_;rintro c s1 ⟨L,I1,q1⟩;cases c with
 |true=>exact hb wh aB s1 Z L Q I1 q1
 |false=>exact⟨L,I1,q1⟩
def Gq(ha:PT X a tA)(hb:PW X (.BoolOp .Or (b::rest) pos) tB'):PW X (.BoolOp .Or (a::b::rest) pos)<|tOr tA tB':=by
 intro wh aB s Z H Q I h;calc isTrue_or<|iz (ha aB s Z H _ I h) ?_;rintro c s1 ⟨L,I1,q1⟩;cases c with
 |true=>exact⟨L,I1,q1⟩
 |false=>exact hb wh aB s1 Z L Q I1 q1
def qz(ha:PT X a tA):PT X (.UnaryOp .Not a pos)<|aiS tA:=by
 intro aB s Z H Q I h;exact isTrue_not (iz (ha aB s Z H (λc L=>Q (!c) L) I h)<|by rintro _ _ ⟨a,b,c⟩;exact⟨a,b,c⟩)
def YF(ta tb:TE):TE:= λZ H Q=>ta Z H λx L=>∃c,x= .bl c/\if c=true then tb Z L Q else Q (.bl false) L
def ae5(ta tb:TE):TE:= λZ H Q=>ta Z H λx L=>∃c,x= .bl c/\if c=true then Q (.bl true) L else tb Z L Q
def JU{op}{t:TE}(h:PE X a t):PE X (.BoolOp op [a] pos) t:= λaB s Z H Q I hw=>BoolOp_one (h aB s Z H Q I hw)
def XN(ha:PE X a ta)(hb:PE X (.BoolOp .And (b::rest) pos) tb):PE X (.BoolOp .And (a::b::rest) pos)<|YF ta tb:=by
 intro aB s Z H Q I h;calc BoolOp_and<|iz (ha aB s Z H _ I h) ?_;rintro v s1 ⟨x,L,I1,r1,q1⟩;let⟨c,rfl,q1⟩:=q1;cases r1;calc jU ?_;cases c with
 |true=>exact hb aB s1 Z L Q I1 q1
 |false=>exact⟨.bl false,L,I1,Y,q1⟩
def XR(ha:PE X a ta)(hb:PE X (.BoolOp .Or (b::rest) pos) tb):PE X (.BoolOp .Or (a::b::rest) pos)<|ae5 ta tb:=by
 intro aB s Z H Q I h;calc BoolOp_or<|iz (ha aB s Z H _ I h) ?_;rintro v s1 ⟨x,L,I1,r1,q1⟩;let⟨c,rfl,q1⟩:=q1;cases r1;calc jU ?_;cases c with
 |false=>exact hb aB s1 Z L Q I1 q1
 |true=>exact⟨.bl true,L,I1,Y,q1⟩
def tIf(t:TT)(ta tb:TE):TE:= λZ H Q=>t Z H λc L=>if c=true then ta Z L Q else tb Z L Q
def rS(hc:PT X c tA)(ha:PE X a ta)(hb:PE X b tb):PE X (.IfExp c a b pos)<|tIf tA ta tb:=by
 intro aB s Z H Q I h;calc wpAny_IfExp<|iz (hc aB s Z H _ I h) ?_;rintro d s1 ⟨L,I1,q1⟩;cases d with
 |true=>exact ha aB s1 Z L Q I1 q1
 |false=>exact hb aB s1 Z L Q I1 q1
def cP(K:aJ)(H:Hp)(a:O)(xs:List V):Prop:=Rd H a (.lst xs)∨∃(o:Obj) (d7:Array aC) (n:Nat),K.lookup a=some o/\o.cls= .type "list"/\o.dict=none/\o.data= .seq d7 n/\d7.size<=sizeLine/\Vals xs d7.toList
def oS(K:aJ)(H:Hp)(a:O)(xs:List V):Prop:=Rd H a (.tup xs)∨∃(o:Obj) (d7:Array aC) (n:Nat),K.lookup a=some o/\o.cls= .type "tuple"/\o.data= .seq d7 n/\d7.size<=sizeLine/\Vals xs d7.toList
noncomputable def UU:aC->Option V
 | .none=>some .gQ
 | .bool b=>some (.bl b)
 | .int i _=>some (.int i)
 | .str x _=>some (.str x)
 | .bytes b _=>some (.O9 b)
 | .float b _=>some (.U5 b)
 | .ref a=>some (.ref a)
 | .type n=>some (.ty n)
 |_=>none
def RelV.abs{x:V}(r:RelV x u):UU u=some x:=by
 cases x with
 |gQ=>cases r;rfl
 |bl _=>cases r;rfl
 |int _=>let⟨t,rfl⟩:=r;rfl
 |str _=>let⟨t,rfl⟩:=r;rfl
 |O9 _=>let⟨t,rfl⟩:=r;rfl
 |U5 _=>let⟨t,rfl⟩:=r;rfl
 |ref _=>cases r;rfl
 |ty _=>cases r;rfl
def RelV.inj{x:V}(r:RelV x u)(q:RelV y u):x=y:=aL (r.abs.symm.trans q.abs)
def Vals.inj:∀{xs ys:List V} {us:List aC},Vals xs us->Vals ys us->xs=ys:=by
 intro xs ys us h;induction h generalizing ys with
 |nil=>intro k;cases k;rfl
 |cons r t ih=>intro k;cases k with|cons r' t'=>rw[r.inj r',ih t']
variable{K:aJ}
section
variable{a:O} {ys:List V}
def cP.of(h:H a=some (.lst xs)):cP K H a xs:= .inl (.inl h)
def oS.of(h:H a=some (.tup xs)):oS K H a xs:= .inl (.inl h)
theorem Inv.list(I:Inv X aB Z H s)(h:cP X.K H a xs):∃d7:List aC,Vals xs d7/\PlainL s.heap a d7.toArray/\xs.length<=sizeLine:=by
 rcases h with h|⟨o,d7,n,hk,hc,hd,hs,hz,r⟩
 .let⟨z,d7,n,r,e⟩:=h.ok I.fQ;exact⟨d7,r,⟨_,n,e,Y,Y,Y⟩,z⟩
 .calc⟨d7.toList,r,⟨o,n,I.Ag a o hk,hc,hd,~~~hs⟩,?_⟩;have e:=r.length;simp only[jK]at e
  lia
def Inv.tuple(I:Inv X aB Z H s)(h:oS X.K H a xs):∃d7:List aC,Vals xs d7/\IsTup s.heap a d7.toArray/\xs.length<=sizeLine:=by
 rcases h with h|⟨o,d7,n,hk,hc,hs,hz,r⟩
 .let⟨z,d7,r,p⟩:=h.ok I.fQ;exact⟨d7,r,p,z⟩
 .calc⟨d7.toList,r,⟨o,I.Ag a o hk,hc,n,~~~hs⟩,?_⟩;have e:=r.length;simp only[jK]at e;omega
def Inv.PY(I:Inv X aB Z H s)(h:cP X.K H a xs)(h':cP X.K H a ys):xs=ys:=by
 let⟨d7,r,⟨o,n,e,_,_,d⟩,_⟩:=I.list h;let⟨its',r',⟨o',n',e',_,_,d'⟩,_⟩:=I.list h';rw[e]at e';cases e';rw[d]at d';injection d' with d1 _;have:d7=its':= ~~~congrArg OH d1
 subst this;exact r.inj r'
def Inv.VR(I:Inv X aB Z H s)(h:oS X.K H a xs)(h':oS X.K H a ys):xs=ys:=by
 let⟨d7,r,⟨o,e,_,n,d⟩,_⟩:=I.tuple h;let⟨its',r',⟨o',e',_,n',d'⟩,_⟩:=I.tuple h';rw[e]at e';cases e';rw[d]at d';injection d' with d1 _;have:d7=its':= ~~~congrArg OH d1
 subst this;exact r.inj r'
abbrev Cx.HE(X:Cx)(E:aC->aP->Prop):Cx:={X with xe:=E}
abbrev Cx.nox(X:Cx):Cx:=X.HE λ_ _=>False
def Cx.Ok.HE(ok:X.Ok)(E:aC->aP->Prop):(X.HE E).Ok:=⟨ok.mod,ok.kind,ok.glob,ok.blt,ok.above,ok.inj,ok.has,ok.cab,ok.hd,ok.frames,ok.stk,ok.exf,ok.bs,ok.WH,ok.R5,ok.Pp,ok.Cj,ok.ZZ⟩
def Cx.Ok.zX(ok:(X.HE E).Ok):X.Ok:=⟨ok.mod,ok.kind,ok.glob,ok.blt,ok.above,ok.inj,ok.has,ok.cab,ok.hd,ok.frames,ok.stk,ok.exf,ok.bs,ok.WH,ok.R5,ok.Pp,ok.Cj,ok.ZZ⟩
def Inv.HE(I:Inv X aB Z H s)(E:aC->aP->Prop):Inv (X.HE E) aB Z H s:=⟨I.ok.HE E,I.os,I.bare,I.base,I.loc,I.cell,I.free,I.o6,I.pin,I.fQ,I.len⟩
def Inv.zX(I:Inv (X.HE E) aB Z H s):Inv X aB Z H s:=⟨I.ok.zX,I.os,I.bare,I.base,I.loc,I.cell,I.free,I.o6,I.pin,I.fQ,I.len⟩
def SP.zX{f:Flow}(h:SP (X.HE E) aB D f s'):SP X aB D f s':=by
 cases f with
 |next=>obtain⟨σ',U,I,q⟩:=h;exact⟨σ',U,I.zX,q⟩
 |brk=>obtain⟨σ',U,I,q⟩:=h;exact⟨σ',U,I.zX,q⟩
 |cont=>obtain⟨σ',U,I,q⟩:=h;exact⟨σ',U,I.zX,q⟩
 |ret u=>obtain⟨v,σ',U,I,r,q⟩:=h;exact⟨v,σ',U,I.zX,r,q⟩
def OR.nox{st:List b5}(h:OR X.nox st t):OR X st t:= λaB s Z H D I hw=>
 fF (h aB s Z H D (I.HE _) hw) (λ_ _ q=>q.zX) λ_ _ z=>dY z
end
section
variable{rest:List b5} {u:TS}
def Qw:TS:= λD Z H=>D.nx Z H
def Qz(t u:TS):TS:= λD Z H=>t {D with nx:=u D} Z H
def b9:OR X [] Qw:= λ_ _ Z H _ I h=>oO ⟨Z,H,I,h⟩
def aj(G:PS X st t)(h2:OR X rest u):OR X (st::rest) (let atB:=u;Qz t atB):=by
 intro aB s Z H D I h;calc afz<|iz (G aB s Z H {D with nx:=u D} I h) λf s1 q=>?_;cases f with
 |next=>
  obtain⟨σ',U,I',q⟩:=q;exact h2 aB s1 σ' U D I' q
 |ret v=>exact q
 |brk=>exact q
 |cont=>exact q
def aF(G:PS X st t):OR X [st] t:=by
 intro aB s Z H D I h;calc afz<|iz (G aB s Z H D I h) λf s1 q=>?_;cases f with
 |next=>exact oO q
 |ret v=>exact q
 |brk=>exact q
 |cont=>exact q
def ae0:TS:= λD Z H=>D.bk Z H
def X6:PS X (.Break pos) ae0:= λ_ _ Z H _ I h=>wpAny_Break ⟨Z,H,I,h⟩
def Inv.quiet(I:Inv X aB Z H s):interactive X.env=false:=by simp[interactive,I.ok.kind]
def YH(te:TE):TS:= λD Z H=>te Z H λ_ L=>D.nx Z L
def bV(he:PE X e te)(hs:nA e none pos.line X.env=pure false:=by rfl):PS X (.Expr e pos)<|YH te:=by
 intro aB s Z H D I h;exact wpAny_Expr_any (iz (he aB s Z H _ I h)<|by rintro v s1 ⟨x,L,I1,r1,q1⟩;exact⟨Z,L,I1,q1⟩) I.quiet hs
def Qy(te:TE):TS:= λD Z H=>te Z H D.rt
def bq(he:PE X e te):PS X (.Return (some e) pos)<|Qy te:=by
 intro aB s Z H D I h;exact wpAny_Return_some (iz (he aB s Z H _ I h)<|by rintro v s1 ⟨x,L,I1,r1,q1⟩;exact⟨x,Z,L,I1,r1,q1⟩)
def YI(c:TT)(t u:TS):TS:= λD Z H=>c Z H λb L=>if b=true then t D Z L else u D Z L
def dZ{a b:List b5}{tc:TT}(hc:PT X c tc)(ha:OR X a t)(hb:OR X b u):PS X (.If c a b pos)<|YI tc t u:=by
 intro aB s Z H D I h;calc wpAny_If<|iz (hc aB s Z H _ I h) ?_;rintro d s1 ⟨L,I1,q1⟩;cases d with
 |true=>exact ha aB s1 Z L D I1 q1
 |false=>exact hb aB s1 Z L D I1 q1
abbrev TG:=V->St->Hp->(St->Hp->Prop)->Prop
abbrev TGs:=List V->St->Hp->(St->Hp->Prop)->Prop
end
def PG(X:Cx)(EH:Expr)(t:TG):Prop:=∀(aB:List<|O×Obj) (s:aP) (Z:St) (H:Hp) (v:V) (u:aC) (Q:St->Hp->Prop),Inv X aB Z H s->RelV v u->t v Z H Q->wpAny (model X.prog X.w) X.A (assign EH X.env u) (λ_ s'=>∃σ' U,Inv X aB σ' U s'/\Q σ' U) X.xe s
def PGs(X:Cx)(ts:List Expr)(t:TGs):Prop:=∀(aB:List<|O×Obj) (s:aP) (Z:St) (H:Hp) (S:List V) (us:List aC) (Q:St->Hp->Prop),Inv X aB Z H s->Vals S us->t S Z H Q->wpAny (model X.prog X.w) X.A (assignInOrder ((HK ts X.env).map (·.2)) us) (λ_ s'=>∃σ' U,Inv X aB σ' U s'/\Q σ' U) X.xe s
abbrev TIp:=V->V->Hp->VK->Prop
def PIp(X:Cx)(op:QO)(t:TIp):Prop:=∀(aB:List<|O×Obj) (s:aP) (Z:St) (H:Hp) (x y:V) (v u:aC) (Q:VK),Inv X aB Z H s->RelV x v->RelV y u->t x y H Q->wpAny (model X.prog X.w) X.A (inplaceOp op v u) (EP X aB Z Q) X.xe s
def ic(i:Nat):TG:= λv Z H Q=>Q (Z.set i<|some v) H
def wk(hN:X.N.Nodup)(hi:X.N[i]? =some x)(hx:Loc X.env.scope x)(hf:X.fn x=true∨X.env.scope.names.lookup x=some .local:=by first|exact .inl rfl|exact .inr rfl|assumption):PG X (.Name x pos) (ic i):=by
 intro aB s Z H v u Q I r h;exact K6 (KH I hN hi hx r (λs' I'=>⟨_,H,I',h⟩) hf)
def Z2:TGs:= λS Z H Q=>S=[]/\Q Z H
def IT(t:TG)(u:TGs):TGs:= λS Z H Q=>∃v r,S=v::r/\t v Z H λσ' U=>u r σ' U Q
def DH:PGs X [] Z2:=by
 intro aB s Z H S us Q I r h;let⟨e,h⟩:=h;subst e;cases r;exact assignInOrder_nil ⟨Z,H,I,h⟩
def mP{t:TG}{u:TGs}(G:PG X e t)(h2:PGs X es u) (hs:(HK (e::es) X.env).map (·.2)=assign e X.env::(HK es X.env).map (·.2):=by rfl):PGs X (e::es)<|IT t u:=by
 intro aB s Z H S us Q I r h;let⟨v,vr,e1,h⟩:=h;subst e1;cases r with
 |cons r rr=>
  rw[hs];calc assignInOrder_cons<|iz (G aB s Z H _ _ _ I r h) ?_;rintro _ s1 ⟨σ1,L,I1,q1⟩;exact h2 aB s1 σ1 L _ _ Q I1 rr q1
def Z3(K:aJ)(n:Nat)(t:TGs):TG:= λv Z H Q=>∃a xs,v= .ref a/\oS K H a xs/\xs.length=n/\t xs Z H Q
def JV{t:TGs}(hc:X.calm=true)(h:PGs X es t) (hn:(HK es X.env).length=n:=by rfl)(A0:(HK es X.env).findIdx? (·.1)=none:=by rfl):PG X (.Tuple es k pos)<|Z3 X.K n t:=by
 intro aB s Z H v u Q I r hw;let⟨a,xs,e1,hq,hl,hw⟩:=hw;subst e1;cases r;let⟨d7,rv,ht,hz⟩:=I.tuple hq;calc assign_Tuple_tuple (I.ok.hd hc) ht (by simp[hn,←hl,rv.length]) A0 λh' hx=>?_;have I1:Inv X aB Z H {s with heap:=h'}:=I.kept (t':=s.toks) λb o e=>hx b o (cj<|bA e) e;exact h aB _ Z H xs _ Q I1 (~~~rv) hw
def CL(te:TE)(g:TG):TS:= λD Z H=>te Z H λx L=>g x Z L D.nx
def pK{i:Nat}{x:Str}{e:Expr}{te:TE}{rF:Pos}(hN:X.N.Nodup)(hi:X.N[i]? =some x)(hx:Loc X.env.scope x)(he:PE X e te)(hs:nA e (some<|.Name x rF) pos.line X.env=pure false:=by rfl)(hf:X.fn x=true∨X.env.scope.names.lookup x=some .local:=by first|exact .inl rfl|exact .inr rfl|assumption):PS X (.Assign [.Name x rF] e pos) (CL te (ic i)):=by
 intro aB s Z H D I h;calc wpAny_Assign_Name (iz (he aB s Z H _ I h) ?_) hs;rintro v s1 ⟨y,L,I1,r1,q1⟩;exact KH I1 hN hi hx r1 (λs2 I2=>⟨_,L,I2,q1⟩) hf
def iy(i:Nat)(hN:X.N.Nodup)(he:PE X e te)(hi:X.N[i]? =some x:=by rfl)(hx:Loc X.env.scope x:=by exact ji Y)(hs:nA e (some<|.Name x rF) pos.line X.env=pure false:=by rfl)(hf:X.fn x=true∨X.env.scope.names.lookup x=some .local:=by first|exact .inl rfl|exact .inr rfl|assumption):PS X (.Assign [.Name x rF] e pos) (CL te (ic i)):=pK hN hi hx he hs hf
def xX(i:Nat)(hN:X.N.Nodup)(hi:X.N[i]? =some x:=by rfl)(hx:Loc X.env.scope x:=by exact ji Y)(hf:X.fn x=true∨X.env.scope.names.lookup x=some .local:=by first|exact .inl rfl|exact .inr rfl|assumption):PG X (.Name x pos) (ic i):=wk hN hi hx hf
def aiM(i:Nat)(te:TE)(ti:TIp):TS:= λD Z H=>∃x,Z[i]? =some (some x)/\te Z H λy L=>ti x y L λz H2=>D.nx (Z.set i<|some z) H2
def yU{op:QO}{ti:TIp}(hN:X.N.Nodup)(hi:X.N[i]? =some x)(hx:Loc X.env.scope x)(he:PE X e te)(ho:PIp X op ti)(hf:X.fn x=true∨X.env.scope.names.lookup x=some .local:=by first|exact .inl rfl|exact .inr rfl|assumption):PS X (.AugAssign (.Name x rF) op e pos) (aiM i te ti):=by
 intro aB s Z H D I h;let⟨v,e1,h⟩:=h;let⟨m,hn,hl⟩:=I.loc;have vis:Vis X.env.scope x:=by rcases hx with k|k;exact .inl k;exact .inr (.inl k)
 let⟨u,r,l⟩:=hl i x v hi e1 vis;calc wpAny_AugAssign_Name ?_;have go:wpAny (model X.prog X.w) X.A (eval e X.env) (λw s₂=>wpAny (model X.prog X.w) X.A (inplaceOp op u w) (λr s₃=>wpAny (model X.prog X.w) X.A (storeName X.env x r) (λ_=>SP X aB D .next) X.xe s₃) X.xe s₂) X.xe s:=by
  calc iz (he aB s Z H _ I h) ?_;rintro w s1 ⟨y,L,I1,r1,q1⟩;calc iz (ho aB s1 Z L v y u w _ I1 r r1 q1) ?_;rintro z s2 ⟨zv,H2,I2,r2,q2⟩;exact KH I2 hN hi hx r2 (λs3 I3=>⟨_,H2,I3,q2⟩) hf
 rcases l with⟨hk,hm⟩|⟨hk,c,hc,Tj⟩
 .exact Y8 I.ok.kind hk hn hm go
 .rcases hk with hk|hk
  .exact ZC I.ok.kind hk hc Tj go
  .rcases hx with k|k
   .have:X.env.scope.names.lookup x=some .free:=hk;rw[k]at this;cases this
   .have:X.env.scope.names.lookup x=some .free:=hk;rw[k]at this;cases this
def ipI(f:Int->Int->Int):TIp:= λx y H Q=>∃i j,x= .int i/\y= .int j/\Q (.int<|f i j) H
def yx:PIp X .Add<|ipI λi j=>i+j:=by
 intro aB s Z H x y v u Q I r1 r2 h;let⟨i,j,e1,e2,q⟩:=h;subst e1;subst e2;let⟨t,rfl⟩:=r1;let⟨t',rfl⟩:=r2;exact Wm ⟨.int _,H,I.tok _,⟨_,Y⟩,q⟩
def SI(c:TT)(tb:TS):TS:= λD Z H=>∃W:Nat->St->Hp->Prop,(∃m,W m Z H)/\∀m Z H,W m Z H->c Z H λb L=>if b=true then∃N:St->Hp->Prop,(∀σ' U,N σ' U->∃m',m'<m/\W m' σ' U)/\tb {D with nx:=N,ct:=N,bk:=D.nx} Z L else D.nx Z L
def iV{tc:TT}{tb:TS}(hp:PassesOwn (model X.prog X.w) X.A X.env X.xe)(hc:PT X c tc)(hb:OR X body tb):PS X (.While c body [] pos)<|SI tc tb:=by
 intro aB s Z H D I h;let⟨W,⟨m0,w0⟩,Ng⟩:=h;calc wpAny_While<|codeAny_whileLoop (λn s'=>∃σ' U,Inv X aB σ' U s'/\W n σ' U) ?_ m0 ⟨Z,H,I,w0⟩;rintro n s1 ⟨σ1,L,I1,w1⟩;calc lV hp<|iz (hc aB s1 σ1 L _ I1<|Ng n σ1 L w1) ?_;rintro b s2 ⟨H2,I2,q2⟩;cases b with
 |true=>
  let⟨N,hN,q2⟩:=q2;rw[aG Y];calc lV hp<|iz (hb aB s2 σ1 H2 _ I2 q2) λf s3 q3=>?_;cases f with
  |next=>
   obtain⟨σ3,H3,I3,n3⟩:=q3;let⟨m',hm,w3⟩:=hN σ3 H3 n3;exact⟨m',hm,σ3,H3,I3,w3⟩
  |cont=>
   obtain⟨σ3,H3,I3,n3⟩:=q3;let⟨m',hm,w3⟩:=hN σ3 H3 n3;exact⟨m',hm,σ3,H3,I3,w3⟩
  |brk=>exact q3
  |ret v=>exact q3
 |false=>
  rw[az bJ];exact oO ⟨σ1,H2,I2,q2⟩
structure It where
 go:Nat->Hp->Prop
 Zr:Nat->Hp->V->Hp->Prop
 stop:Nat->Hp->Prop
def sP(X:Cx)(aB:List<|O×Obj)(H:Hp)(b:O):Prop:=H b=none/\b≠X.env.locals/\b∉X.fs/\(b∈X.ex∨X.Hx.heap.objs.size<=b)/\(∀x c,X.env.cells.lookup x=some c->c≠b)/\∀p∈X.pn++aB,p.1≠b
def Inv.Cg{b:O}(I:Inv X aB Z H s)(hb:s.heap.objs.size<=b)(hn:U b=none):sP X aB U b:=by
 refine⟨hn,mE<|bD I.lt hb,I.amd hb,.inr<|bH I.sz hb,λx c e z=>?_,λp hp z=>?_⟩
 .let⟨v,q⟩:=I.cell x c e;exact absurd (bD q.lt<|by rw[z];exact hb) (fJ _)
 .exact absurd (bD (bA (I.pin p hp).1)<|by rw[z];exact hb) (fJ _)
structure Turn (P:eL) (w:gH) (K:aJ) (tg:Expr) (atD:It) (fp:List O) (it:O) (tn:Nat->eZ->Prop):Prop where
 mem:it∈fp
 obj:∀i h,tn i h->∀b∈fp,∃o,h.get? b=some o/\∀v,o.data≠ .cell v
 keep:∀i h h',tn i h->(∀b∈fp,∀o,h.get? b=some o->h'.get? b=some o)->tn i h'
 item:∀(X:Cx),X.prog=P->X.w=w->X.K=K->X.calm=true->∀(i:Nat) (aB:List<|O×Obj) (s:aP) (Z:St) (H:Hp) (E:aC->aP->Prop),Inv X aB Z H s->(∀b∈fp,sP X aB H b)->tn i s.heap->atD.go i H->
  wpAny (model P w) X.A (pyNext<|.ref it) (λr s1=>∃u,r=some u/\
   wpAny (model P w) X.A (B3 tg (.ref it) u) (λ_ s2=>∃x U,Inv X aB Z U s2/\RelV x u/\atD.Zr i H x U/\tn (i+1) s2.heap/\∀b∈fp,U b=none) E s1) E s
 done:∀(X:Cx),X.prog=P->X.w=w->X.K=K->X.calm=true->∀(i:Nat) (aB:List<|O×Obj) (s:aP) (Z:St) (H:Hp) (E:aC->aP->Prop),Inv X aB Z H s->(∀b∈fp,sP X aB H b)->tn i s.heap->atD.stop i H->
  wpAny (model P w) X.A (pyNext<|.ref it) (λr s1=>r=none/\Inv X aB Z H s1) E s
 self:∀(A:gZ) (i:Nat) (s:aP) (Q:aC->aP->Prop) (E:aC->aP->Prop),tn i s.heap->Q (.ref it) s->wpAny (model P w) A (pyIter<|.ref it) Q E s
abbrev TI:=St->Hp->(It->Hp->Prop)->Prop
def PIE(X:Cx)(aB:List<|O×Obj)(Z:St)(tg:Expr)(R:It->Hp->Prop)(itv:aC)(s2:aP):Prop:=∃(it:O) (fp:List O) (tn:Nat->eZ->Prop) (atD:It) (U:Hp),itv= .ref it/\Inv X aB Z U s2/\Turn X.prog X.w X.K tg atD fp it tn/\tn 0 s2.heap/\(∀b∈fp,sP X aB U b)/\R atD U
def PI(X:Cx)(tg iter:Expr)(wi:TI):Prop:=∀(aB:List<|O×Obj) (s:aP) (Z:St) (H:Hp) (R:It->Hp->Prop),Inv X aB Z H s->wi Z H R->wpAny (model X.prog X.w) X.A (eval iter X.env) (λv s1=>wpAny (model X.prog X.w) X.A (pyIter v) (PIE X aB Z tg R) X.xe s1) X.xe s
def Tg{o:Obj}{n:String}{S:Array aC}{Q:Unit->aP->Prop}(ho:s.heap.get? it=some o)(hc:o.cls= .type n)(hd:o.data= .fields S) (hn:["enumerate","zip","dict_itemiterator","dict_reverseitemiterator","odict_iterator","itertools.zip_longest","itertools.pairwise"].contains n=false)(hQ:Q () s):wpAny M A (B3 tg (.ref it) u) Q E s:=by
 unfold B3;cases tg<;>first
  |exact bS hQ
  |(cases u<;>first
    |exact bS hQ
    |(refine aQ (wpAny_load ho ?_)
      rw[hc,hd];show wpAny M A (if(["enumerate","zip","dict_itemiterator","dict_reverseitemiterator","odict_iterator","itertools.zip_longest","itertools.pairwise"].contains n&&S[0]? ==some (rawInt _))=true then _ else _) Q E s;rw[az<|by intro h;rw[hn,Ay]at h;cases h];exact bS hQ))
def Itl(K:aJ)(a:O):It:=⟨λi H=>∃xs x,cP K H a xs/\xs[i]? =some x,λi H x U=>U=H/\∀xs,cP K H a xs->xs[i]? =some x,λi H=>∃xs,cP K H a xs/\xs.length<=i⟩
def Itt(K:aJ)(a:O):It:=⟨λi H=>∃xs x,oS K H a xs/\xs[i]? =some x,λi H x U=>U=H/\∀xs,oS K H a xs->xs[i]? =some x,λi H=>∃xs,oS K H a xs/\xs.length<=i⟩
def UR(lo:Int)(n:Nat):It:=⟨λi _=>i<n,λi H x U=>U=H/\x= .int (lo+i),λi _=>n<=i⟩
theorem VT(a it:O):Turn P w K tg (Itl K a) [it] it (λi h=>h.IsListIter it a i)where
 mem:='s'
 obj:= λi h st b hb=>by
  have e:b=it:= ~~~hb
  subst e;let⟨o,e,c,d⟩:=st;exact⟨o,e,λv z=>by rw[d]at z;cases z⟩
 keep:= λi h h' st k=>st.at λo e=>k it 's' o e
 item:=by
  intro X hP hw hK hc i aB s Z H E I hf st hg;subst hP hw hK;let⟨xs,x,hq,hx⟩:=hg;let⟨d7,rv,p,hz⟩:=I.list hq;let⟨u,hu,ru⟩:=rv.get hx;let⟨f0,f1,f2,f3,f4,f5⟩:=hf it 's';calc wpAny_pyNext_list_item st p.isList (x:=u) (~~~hu) λh' Q8 sb=>?_;have I1:Inv X aB Z H {s with heap:=h'}:=I.turned (t':=s.toks) (λb o hb e=>(sb.2 b hb).trans e) f0 f1 f3 f4 f5;let⟨o,e,c,d⟩:=id Q8;exact⟨u,Y,Tg (s:={s with heap:=h'}) e c d 'd' ⟨x,H,I1,ru,⟨Y,λys hy=>by rw[I.PY hy hq];exact hx⟩,Q8,λb hb=>(hf b hb).1⟩⟩
 done:=by
  intro X hP hw hK hc i aB s Z H E I hf st hg;subst hP hw hK;let⟨xs,hq,hx⟩:=hg;let⟨d7,rv,p,hz⟩:=I.list hq;let⟨f0,f1,f2,f3,f4,f5⟩:=hf it 's';have hl:=rv.length;exact wpAny_pyNext_list_end (I.ok.hd hc) st p.isList (by simp;lia) λh' eb=>⟨Y,I.turned (t':=s.toks) (λb o hb e=>eb b o hb e) f0 f1 f3 f4 f5⟩
 self:= λ_ _ _ _ _ st h=>wpAny_pyIter_listiter st h
def SK(a it:O):Turn P w K tg (Itt K a) [it] it (λi h=>h.IsTupleIter it a i)where
 mem:='s'
 obj:= λi h st b hb=>by
  have e:b=it:= ~~~hb
  subst e;let⟨o,e,c,d⟩:=st;exact⟨o,e,λv z=>by rw[d]at z;cases z⟩
 keep:= λi h h' st k=>st.at λo e=>k it 's' o e
 item:=by
  intro X hP hw hK hc i aB s Z H E I hf st hg;subst hP hw hK;let⟨xs,x,hq,hx⟩:=hg;let⟨d7,rv,p,hz⟩:=I.tuple hq;let⟨u,hu,ru⟩:=rv.get hx;let⟨f0,f1,f2,f3,f4,f5⟩:=hf it 's';calc wpAny_pyNext_tuple_item st (show s.heap.IsTuple a d7.toArray from p) (x:=u) (~~~hu) λh' Q8 sb=>?_;have I1:Inv X aB Z H {s with heap:=h'}:=I.turned (t':=s.toks) (λb o hb e=>(sb.2 b hb).trans e) f0 f1 f3 f4 f5;let⟨o,e,c,d⟩:=id Q8;exact⟨u,Y,Tg (s:={s with heap:=h'}) e c d 'd' ⟨x,H,I1,ru,⟨Y,λys hy=>by rw[I.VR hy hq];exact hx⟩,Q8,λb hb=>(hf b hb).1⟩⟩
 done:=by
  intro X hP hw hK hc i aB s Z H E I hf st hg;subst hP hw hK;let⟨xs,hq,hx⟩:=hg;let⟨d7,rv,p,hz⟩:=I.tuple hq;let⟨f0,f1,f2,f3,f4,f5⟩:=hf it 's';have hl:=rv.length;exact wpAny_pyNext_tuple_end (I.ok.hd hc) st (show s.heap.IsTuple a d7.toArray from p) (by simp;omega) λh' eb=>⟨Y,I.turned (t':=s.toks) (λb o hb e=>eb b o hb e) f0 f1 f3 f4 f5⟩
 self:= λ_ _ _ _ _ st h=>wpAny_pyIter_tupleiter st h
theorem SJ(it:O)(lo:Int)(n:Nat):Turn P w K tg (UR lo n) [it] it (λi h=>IsRangeIter h it (lo+(i:Nat)*1) ((n:Int)-(i:Nat)) 1)where
 mem:='s'
 obj:= λi h st b hb=>by
  have e:b=it:= ~~~hb
  subst e;exact⟨_,st,λv z=>by
   have z':Data.fields _=Data.cell v:=z;cases z'⟩
 keep:= λi h h' st k=>k it 's' _ st
 item:=by
  intro X hP hw hK hc i aB s Z H E I hf st hg;subst hP hw hK;let⟨f0,f1,f2,f3,f4,f5⟩:=hf it 's';have W:=Walks.range (prog:=X.prog) (w:=X.w) (I.ok.hd hc) it lo 1 n;calc W.item i s _ _ hg st λv h' tk hv Q8 kk=>?_;let⟨t,rfl⟩:=hv;have I1:Inv X aB Z H {s with heap:=h',toks:=tk}:=I.turned (λb o hb e=>kk b o (~~~hb) e) f0 f1 f3 f4 f5;calc⟨_,Y,Tg (s:={s with heap:=h',toks:=tk}) (n:="range_iterator") Q8 Y Y 'd' ⟨.int<|lo+i,H,I1,⟨t,?_⟩,⟨Y,Y⟩,Q8,λb hb=>(hf b hb).1⟩⟩;rw[Int.mul_one]
 done:=by
  intro X hP hw hK hc i aB s Z H E I hf st hg;subst hP hw hK;let⟨f0,f1,f2,f3,f4,f5⟩:=hf it 's';exact wpAny_pyNext_range_end (I.ok.hd hc) st (by have:n<=i:=hg;lia) λh' eb=>⟨Y,I.turned (t':=s.toks) (λb o hb e=>eb b o hb e) f0 f1 f3 f4 f5⟩
 self:= λ_ _ _ _ _ st h=>wpAny_pyIter_rangeiter st h
def F4(K:aJ)(tl:TE):TI:= λZ H R=>tl Z H λx L=>∃a,x= .ref a/\(∃xs,cP K L a xs)/\R (Itl K a) L
def adK(K:aJ)(tl:TE):TI:= λZ H R=>tl Z H λx L=>∃a,x= .ref a/\(∃xs,oS K L a xs)/\R (Itt K a) L
def gc(hl:PE X l tl):PI X tg l<|F4 X.K tl:=by
 intro aB s Z H R I h;calc iz (hl aB s Z H _ I h) ?_;rintro v s1 ⟨x,L,I1,r1,q1⟩;let⟨a,e,⟨xs,hq⟩,q⟩:=q1;subst e;cases r1;let⟨d7,rv,p,hz⟩:=I1.list hq;calc acP p.isList ?_;calc⟨s1.heap.objs.size,[s1.heap.objs.size],_,_,L,Y,I1.kept (t':=s1.toks) λb o e=>aS _ e,VT a _,⟨_,bZ _ Y,Y,Y⟩,λb hb=>?_,q⟩;have e:b=s1.heap.objs.size:= ~~~hb
 subst e;exact I1.Cg (aT _) (I1.fQ.fresh<|aT _)
def XU(hl:PE X l tl):PI X tg l<|adK X.K tl:=by
 intro aB s Z H R I h;calc iz (hl aB s Z H _ I h) ?_;rintro v s1 ⟨x,L,I1,r1,q1⟩;let⟨a,e,⟨xs,hq⟩,q⟩:=q1;subst e;cases r1;let⟨d7,rv,p,hz⟩:=I1.tuple hq;calc wpAny_pyIter_tuple (show s1.heap.IsTuple a d7.toArray from p) ?_;calc⟨s1.heap.objs.size,[s1.heap.objs.size],_,_,L,Y,I1.kept (t':=s1.toks) λb o e=>aS _ e,SK a _,⟨_,bZ _ Y,Y,Y⟩,λb hb=>?_,q⟩;have e:b=s1.heap.objs.size:= ~~~hb
 subst e;exact I1.Cg (aT _) (I1.fQ.fresh<|aT _)
theorem Qm{R:It->Hp->Prop}{hi:Int}{t u v:Tok}{tk:Nat}(I:Inv X aB Z H s)(G: -(2^62)<=lo)(h2:lo<2^62)(h3: -(2^62)<=hi)(h4:hi<2^62) (q:R (UR lo (hi-lo).toNat) H):wpAny (model X.prog X.w) X.A (pyIter<|.ref s.heap.objs.size) (PIE X aB Z tg R) E {s with heap:=s.heap.push {cls:= .type "range",data:= .fields #[.int lo t,.int hi u,.int 1 v]},toks:=tk}:=by
 calc wpAny_pyIter_range (IsRange.new ..) (small_one G h2 h3 h4) ?_;have I1:Inv X aB Z H {s with heap:=s.heap.push {cls:= .type "range",data:= .fields #[.int lo t,.int hi u,.int 1 v]},toks:=tk}:=I.kept λb o e=>aS _ e;refine⟨(s.heap.push {cls:= .type "range",data:= .fields #[.int lo t,.int hi u,.int 1 v]}).objs.size,[(s.heap.push {cls:= .type "range",data:= .fields #[.int lo t,.int hi u,.int 1 v]}).objs.size],_,_,H,Y,I1.kept (t':=tk) λb o e=>aS _ e,SJ _ lo (hi-lo).toNat,?_,λb hb=>?_,q⟩
 .have e1:lo+((0:Nat):Int)*1=lo:=by simp
  have e2:(((hi-lo).toNat:Nat):Int)-((0:Nat):Int)=afc lo hi 1:=by rw[rangeSize_one];split<;>lia
  show IsRangeIter _ _ (lo+((0:Nat):Int)*1) ((((hi-lo).toNat:Nat):Int)-((0:Nat):Int)) 1;rw[e1,e2];exact bZ _ Y
 .have e:b=(s.heap.push {cls:= .type "range",data:= .fields #[.int lo t,.int hi u,.int 1 v]}).objs.size:=by simpa using hb
  subst e;exact I1.Cg (aT _) (I1.fQ.fresh<|aT _)
def ahJ(ta:TA):TI:= λZ H R=>ta Z H λS L=>∃j:Int,S=[.int j]/\ -(2^62)<=j/\j<2^62/\R (UR 0 j.toNat) L
def ahK(ta:TA):TI:= λZ H R=>ta Z H λS L=>∃i j:Int,S=[.int i,.int j]/\(-(2^62)<=i/\i<2^62/\ -(2^62)<=j/\j<2^62)/\R (UR i (j-i).toNat) L
theorem Fi{ta:TA}(hg:Gl X "range")(hm:X.mg "range"=none)(ha:PA X [a] ta)(hs:starEach [a] X.env=[(false,eval a X.env)]:=by rfl):PI X tg (.Call (.Name "range" p) [a] [] pos)<|ahJ ta:=by
 intro aB s Z H R I h;calc Call_<|yC I hg hm boot_range<|fq (iz (ha pos aB s Z H _ I h) ?_) hs Y;rintro us s1 ⟨S,L,I1,r1,q1⟩;let⟨j,e,q1,q2,q⟩:=q1;subst e;cases r1 with
 |cons r rr=>
  cases rr;let⟨t,rfl⟩:=r;exact call_range_1 (Qm I1 'l' 'l' q1 q2<|~~~q)
def Vv{ta:TA}(hg:Gl X "range")(hm:X.mg "range"=none)(ha:PA X [a,b] ta)(hs:starEach [a,b] X.env=[(false,eval a X.env),(false,eval b X.env)]:=by rfl)(hs2:starEach [b] X.env=[(false,eval b X.env)]:=by rfl):PI X tg (.Call (.Name "range" p) [a,b] [] pos)<|ahK ta:=by
 intro aB s Z H R I h;calc Call_ (yC I hg hm boot_range<|fq (iz (ha pos aB s Z H _ I h) ?_) (by rw[hs,hs2])<|by rw[hs2];rfl);rintro us s1 ⟨S,L,I1,r1,q1⟩;let⟨i,j,e,⟨q1,q2,q3,q4⟩,q⟩:=q1;subst e;cases r1 with
 |cons r rr=>
  cases rr with
  |cons r' rr=>
   cases rr;let⟨t,rfl⟩:=r;let⟨t',rfl⟩:=r';exact call_range_2 (Qm I1 q1 q2 q3 q4 q)
def amM(wi:TI)(g:TG)(tb:TS):TS:= λD Z H=>wi Z H λatD L=>∃W:Nat->Nat->St->Hp->Prop,(∃m,W 0 m Z L)/\∀i m Z H,W i m Z H->(atD.stop i H/\D.nx Z H)∨(atD.go i H/\∃N:St->Hp->Prop,(∀σ' U,N σ' U->∃m',m'<m/\W (i+1) m' σ' U)/\∀x U,atD.Zr i H x U->g x Z U λσ2 H2=>tb {D with nx:=N,ct:=N,bk:=D.nx} σ2 H2)
def Fj(fp:List O)(h:eZ):List<|O×Obj:=fp.filterMap λb=>(h.get? b).map λo=>(b,o)
def wc{b:O}{o:Obj}(hb:b∈fp)(e:h.get? b=some o):(b,o)∈Fj fp h:=UH.mpr ⟨b,hb,by rw[e];rfl⟩
def Vr{p:O×Obj}(hp:p∈Fj fp h):p.1∈fp/\h.get? p.1=some p.2:=by
 let⟨b,hb,e⟩:=UH.mp hp;cases q:h.get? b with
 |none=>rw[q]at e;cases e
 |some o=>
  rw[q]at e;have e':(b,o)=p:=aL e;subst e';exact⟨hb,q⟩
def Inv.pinned(I:Inv X aB Z H s)(hf:∀b∈fp,sP X aB H b)(ho:∀b∈fp,∃o,s.heap.get? b=some o/\∀v,o.data≠ .cell v):Inv X (aB++Fj fp s.heap) Z H s:=I.T9 λp hp=>(cN.mp hp).elim (λz=>I.pin p<|eU _ z) λz=>by
  let⟨hb,e⟩:=Vr z;let⟨f0,f1,f2,_⟩:=hf p.1 hb;let⟨o,e',d⟩:=ho p.1 hb;rw[e]at e';cases e';exact⟨e,f0,f1,f2,d⟩
def Inv.zW{pl:List (O×Obj)}(I:Inv X (aB++pl) Z H s):Inv X aB Z H s:=I.T9 λp hp=>I.pin p (eU _<|AB _ hp)
variable{g:TG}
def lS{iter:Expr}{wi:TI}{tb:TS}(hp:PassesOwn (model X.prog X.w) X.A X.env X.xe)(hc:X.calm=true)(hi:PI X tg iter wi)(hg:PG X tg g)(hb:OR X body tb) (hs:∀x,jS iter X.env x=pure x:=by intro _;rfl):PS X (.For tg iter body [] pos)<|amM wi g tb:=by
 intro aB s Z H D I h;calc wpAny_For (iz (hi aB s Z H _ I h) λv s1 G=>iz G λitv s2 h2=>?_) hs;let⟨it,fp,tn,atD,H2,e,I2,T,st2,f2,W,⟨m0,w0⟩,Ng⟩:=h2;subst e;have KD:∀{U:Hp},(∀b∈fp,U b=none)->∀b∈fp,sP X aB U b:= λhn b hb=>⟨hn b hb,(f2 b hb).2⟩;calc codeAny_forLoop_any (λn s'=>∃i σ' U,Inv X aB σ' U s'/\tn i s'.heap/\(∀b∈fp,U b=none)/\W i n σ' U) ?_ m0 ⟨0,Z,H2,I2,st2,λb hb=>(f2 b hb).1,w0⟩;rintro n s3 ⟨i,σ3,H3,I3,st3,fr3,w3⟩;rcases Ng i n σ3 H3 w3 with⟨stop,qn⟩|⟨go,N,hN,step⟩
 .calc lV hp<|iz (T.done X Y Y Y hc i aB s3 σ3 H3 X.xe I3 (KD fr3) st3 stop) ?_;rintro r s4 ⟨hr,I4⟩;subst hr;exact oO ⟨σ3,H3,I4,qn⟩
 .calc lV hp<|iz (T.item X Y Y Y hc i aB s3 σ3 H3 X.xe I3 (KD fr3) st3 go) ?_;rintro r s4 ⟨u,hr,h4⟩;subst hr;calc lV hp<|iz h4 ?_;rintro _ s5 ⟨x,H5,I5,r5,y5,st5,fr5⟩;have I5':=I5.pinned (KD fr5)<|T.obj _ _ st5;calc lV hp<|iz (hg _ s5 σ3 H5 x u _ I5' r5<|step x H5 y5) ?_;rintro _ s6 ⟨σ6,H6,I6,q6⟩;calc lV hp<|iz (hb _ s6 σ6 H6 _ I6 q6) λf s7 q7=>?_;have again:∀{σ7:St} {H7:Hp},Inv X (aB++Fj fp s5.heap) σ7 H7 s7->N σ7 H7->∃m,m<n/\∃i σ' U,Inv X aB σ' U s7/\tn i s7.heap/\(∀b∈fp,U b=none)/\W i m σ' U:= λ{σ7 H7} I7 n7=>by
   let⟨m',hm,w7⟩:=hN σ7 H7 n7;calc⟨m',hm,i+1,σ7,H7,I7.zW,T.keep _ _ _ st5 λb hb o e=>(I7.pin (b,o)<|eU _<|eU _<|wc hb e).1,λb hb=>?_,w7⟩;let⟨o,e,d⟩:=T.obj _ _ st5 b hb;exact(I7.pin (b,o)<|eU _<|eU _<|wc hb e).2.1
  cases f with
  |next=>obtain⟨σ7,H7,I7,n7⟩:=q7;exact again I7 n7
  |cont=>obtain⟨σ7,H7,I7,n7⟩:=q7;exact again I7 n7
  |brk=>obtain⟨σ7,H7,I7,q7⟩:=q7;exact⟨σ7,H7,I7.zW,q7⟩
  |ret v=>obtain⟨x7,σ7,H7,I7,r7,q7⟩:=q7;exact⟨x7,σ7,H7,I7.zW,r7,q7⟩
def mL{a:O}{tb:TS}(Pv:Nat->St->Hp->Prop)(h0:Pv 0 Z H)(hl:∀i Z H,i<=xs.length->Pv i Z H->cP K H a xs) (hs:∀i x Z H,xs[i]? =some x->Pv i Z H->g x Z H λσ2 H2=>tb {D with nx:=Pv<|i+1,ct:=Pv<|i+1,bk:=D.nx} σ2 H2)(hd:∀Z H,Pv xs.length Z H->D.nx Z H):∃W:Nat->Nat->St->Hp->Prop,(∃m,W 0 m Z H)/\∀i m Z H,W i m Z H->((Itl K a).stop i H/\D.nx Z H)∨((Itl K a).go i H/\∃N:St->Hp->Prop,(∀σ' U,N σ' U->∃m',m'<m/\W (i+1) m' σ' U)/\∀x U,(Itl K a).Zr i H x U->g x Z U λσ2 H2=>tb {D with nx:=N,ct:=N,bk:=D.nx} σ2 H2):=by
 calc⟨λi m Z H=>m=xs.length-i/\i<=xs.length/\Pv i Z H,⟨xs.length,'s',b7 _,h0⟩,?_⟩;rintro i m Z H ⟨rfl,hi,p⟩;have q:=hl i Z H hi p;by_cases xU:i<xs.length
 .calc .inr ⟨⟨xs,xs[i],q,by simp[xU]⟩,Pv<|i+1,λσ' U p'=>⟨xs.length-(i+1),'o',Y,xU,p'⟩,λx U y=>?_⟩;let⟨e,y⟩:=y;subst e;exact hs i x Z _ (y xs q) p
 .have e:i=xs.length:=by omega
  subst e;exact .inl ⟨⟨xs,q,aT _⟩,hd Z H p⟩
def ZY{a:O}{tb:TS}(Pv:Nat->St->Hp->Prop)(h0:Pv 0 Z H)(hl:∀i Z H,i<=xs.length->Pv i Z H->oS K H a xs) (hs:∀i x Z H,xs[i]? =some x->Pv i Z H->g x Z H λσ2 H2=>tb {D with nx:=Pv<|i+1,ct:=Pv<|i+1,bk:=D.nx} σ2 H2)(hd:∀Z H,Pv xs.length Z H->D.nx Z H):∃W:Nat->Nat->St->Hp->Prop,(∃m,W 0 m Z H)/\∀i m Z H,W i m Z H->((Itt K a).stop i H/\D.nx Z H)∨((Itt K a).go i H/\∃N:St->Hp->Prop,(∀σ' U,N σ' U->∃m',m'<m/\W (i+1) m' σ' U)/\∀x U,(Itt K a).Zr i H x U->g x Z U λσ2 H2=>tb {D with nx:=N,ct:=N,bk:=D.nx} σ2 H2):=by
 calc⟨λi m Z H=>m=xs.length-i/\i<=xs.length/\Pv i Z H,⟨xs.length,'s',b7 _,h0⟩,?_⟩;rintro i m Z H ⟨rfl,hi,p⟩;have q:=hl i Z H hi p;by_cases xU:i<xs.length
 .calc .inr ⟨⟨xs,xs[i],q,by simp[xU]⟩,Pv<|i+1,λσ' U p'=>⟨xs.length-(i+1),'o',Y,xU,p'⟩,λx U y=>?_⟩;let⟨e,y⟩:=y;subst e;exact hs i x Z _ (y xs q) p
 .have e:i=xs.length:=by omega
  subst e;exact .inl ⟨⟨xs,q,aT _⟩,hd Z H p⟩
def Mm{tb:TS}(Pv:Nat->St->Hp->Prop)(h0:Pv 0 Z H) (hs:∀i Z H,i<n->Pv i Z H->g (.int<|lo+i) Z H λσ2 H2=>tb {D with nx:=Pv<|i+1,ct:=Pv<|i+1,bk:=D.nx} σ2 H2)(hd:∀Z H,Pv n Z H->D.nx Z H):∃W:Nat->Nat->St->Hp->Prop,(∃m,W 0 m Z H)/\∀i m Z H,W i m Z H->((UR lo n).stop i H/\D.nx Z H)∨((UR lo n).go i H/\∃N:St->Hp->Prop,(∀σ' U,N σ' U->∃m',m'<m/\W (i+1) m' σ' U)/\∀x U,(UR lo n).Zr i H x U->g x Z U λσ2 H2=>tb {D with nx:=N,ct:=N,bk:=D.nx} σ2 H2):=by
 calc⟨λi m Z H=>m=n-i/\i<=n/\Pv i Z H,⟨n,'s',b7 _,h0⟩,?_⟩;rintro i m Z H ⟨rfl,hi,p⟩;by_cases xU:i<n
 .calc .inr ⟨xU,Pv<|i+1,λσ' U p'=>⟨n-(i+1),'o',Y,xU,p'⟩,λx U y=>?_⟩;let⟨e,y⟩:=y;subst e y;exact hs i Z _ xU p
 .have e:i=n:=by omega
  subst e;exact .inl ⟨aT _,hd Z H p⟩
abbrev R2:=V->V->Hp->VK->Prop
def G9(X:Cx)(f:aC->aC->Sem aC)(r:R2):Prop:=∀(aB:List<|O×Obj) (s:aP) (Z:St) (H:Hp) (x y:V) (v u:aC) (Q:VK),Inv X aB Z H s->RelV x v->RelV y u->r x y H Q->wpAny (model X.prog X.w) X.A (f v u) (EP X aB Z Q) X.xe s
def UnR(X:Cx)(f:aC->Sem aC)(r:V->Hp->VK->Prop):Prop:=∀(aB:List<|O×Obj) (s:aP) (Z:St) (H:Hp) (x:V) (v:aC) (Q:VK),Inv X aB Z H s->RelV x v->r x H Q->wpAny (model X.prog X.w) X.A (f v) (EP X aB Z Q) X.xe s
def uK(X:Cx)(f:aC)(r:List V->Hp->VK->Prop):Prop:=∀(aB:List<|O×Obj) (s:aP) (Z:St) (H:Hp) (xs:List V) (us:List aC) (Q:VK),Inv X aB Z H s->Vals xs us->r xs H Q->wpAny (model X.prog X.w) X.A (call f us) (EP X aB Z Q) X.xe s
def Ox(r:R2)(ta tb:TE):TE:= λZ H Q=>ta Z H λx L=>tb Z L λy H2=>r x y H2 Q
def tUn(r:V->Hp->VK->Prop)(ta:TE):TE:= λZ H Q=>ta Z H λx L=>r x L Q
inductive rI (C:Int->Int->Prop) (g:Int->Int->V) (x:V) (y:V) (H:Hp) (Q:VK):Prop
 |mk (i j:_) (k0:x= .int i) (k1:y= .int j) (k2:C i j) (k3:Q (g i j) H)
inductive Uc (g:Int->Int->V) (x:V) (y:V) (H:Hp) (Q:VK):Prop
 |mk (i j:_) (k0:x= .int i) (k1:y= .int j) (k2:Q (g i j) H)
inductive rU (g:Int->V) (x:V) (H:Hp) (Q:VK):Prop
 |mk (i:_) (k0:x= .int i) (k1:Q (g i) H)
def ac0(ha:PE X a ta)(hb:PE X b tb){R:V->V->Hp->Prop}(I:Inv X aB Z H s) (h:ta Z H λx L=>tb Z L λy H2=>R x y H2){f:aC->aC->Sem aC} (hf:∀v u s2 x y H2,Inv X aB Z H2 s2->RelV x v->RelV y u->R x y H2->wpAny (model X.prog X.w) X.A (f v u) Q X.xe s2):wpAny (model X.prog X.w) X.A (eval a X.env) (λv s₁=>wpAny (model X.prog X.w) X.A (eval b X.env) (λu s₂=>wpAny (model X.prog X.w) X.A (f v u) Q X.xe s₂) X.xe s₁) X.xe s:=by
 calc iz (ha aB s Z H _ I h) ?_;rintro v s1 ⟨x,L,I1,r1,q1⟩;calc iz (hb aB s1 Z L _ I1 q1) ?_;rintro u s2 ⟨y,H2,I2,r2,q2⟩;exact hf v u s2 x y H2 I2 r1 r2 q2
variable{r:R2}
def fZ{op:QO}(ho:G9 X (binaryOp op) r)(ha:PE X a ta)(hb:PE X b tb):PE X (.BinOp a op b pos)<|Ox r ta tb:=by
 intro aB s Z H Q I h;exact wpAny_BinOp (ac0 ha hb I h λv u s2 x y H2 I2 rx ry q=>ho aB s2 Z H2 x y v u Q I2 rx ry q)
def aij{op:UnaryOp}{r:V->Hp->VK->Prop}(ho:UnR X (unaryOp op) r)(ha:PE X a ta):PE X (.UnaryOp op a pos)<|tUn r ta:=by
 intro aB s Z H Q I h;exact UnaryOp_ (iz (ha aB s Z H _ I h)<|by rintro v s1 ⟨x,L,I1,r1,q1⟩;exact ho aB s1 Z L x v Q I1 r1 q1)
def opI{f:aC->aC->Sem aC}{C:Int->Int->Prop}{g:Int->Int->Int} (rule:∀(i j:Int) (t u:Tok) (s:aP) (Q:aC->aP->Prop) (E:aC->aP->Prop),C i j->Q (.int (g i j) s.toks) {s with toks:=s.toks+1}->wpAny (model X.prog X.w) X.A (f (.int i t)<|.int j u) Q E s):G9 X f<|rI C λi j=> .int<|g i j:=by
 intro aB s Z H x y v u Q I rx ry h;let⟨i,j,rfl,rfl,hc,q⟩:=h;let⟨t,rfl⟩:=rx;let⟨t',rfl⟩:=ry;exact rule i j t t' s _ _ hc ⟨.int<|g i j,H,I.tok _,⟨_,Y⟩,q⟩
def aie{f:aC->aC->Sem aC}{g:Int->Int->Int} (rule:∀(i j:Int) (t u:Tok) (s:aP) (Q:aC->aP->Prop) (E:aC->aP->Prop),Q (.int (g i j) s.toks) {s with toks:=s.toks+1}->wpAny (model X.prog X.w) X.A (f (.int i t)<|.int j u) Q E s):G9 X f<|Uc λi j=> .int<|g i j:=by
 intro aB s Z H x y v u Q I rx ry h;let⟨i,j,rfl,rfl,q⟩:=h;let⟨t,rfl⟩:=rx;let⟨t',rfl⟩:=ry;exact rule i j t t' s _ _ ⟨.int<|g i j,H,I.tok _,⟨_,Y⟩,q⟩
def aay{f:aC->aC->Sem aC}{g:Int->Int->Bool} (rule:∀(i j:Int) (t u:Tok) (s:aP) (Q:aC->aP->Prop) (E:aC->aP->Prop),Q (.bool<|g i j) s->wpAny (model X.prog X.w) X.A (f (.int i t)<|.int j u) Q E s):G9 X f<|Uc λi j=> .bl<|g i j:=by
 intro aB s Z H x y v u Q I rx ry h;let⟨i,j,rfl,rfl,q⟩:=h;let⟨t,rfl⟩:=rx;let⟨t',rfl⟩:=ry;exact rule i j t t' s _ _ ⟨.bl<|g i j,H,I,Y,q⟩
def acR(i j:Int):Prop:=(-(2^64)<i/\i<2^64)∨(-(2^64)<j/\j<2^64)
def acR.ok{i j:Int}(h:acR i j):IntMulOk i j:=by
 rcases h with⟨G,h2⟩|⟨G,h2⟩
 .exact .of_left (akl G h2)
 .exact .of_right (akl G h2)
def om:G9 X (binaryOp .Add)<|Uc λi j=> .int<|i+j:=aie λ_ _ _ _ _ _ _ q=>add_int q
def yS:G9 X (binaryOp .Sub)<|Uc λi j=> .int<|i-j:=aie λ_ _ _ _ _ _ _ q=>sub_int q
def aej:G9 X (binaryOp .Mult)<|rI acR λi j=> .int<|i*j:=opI λ_ _ _ _ _ _ _ hc q=>mul_int q hc.ok
theorem aei:G9 X (binaryOp .Mod)<|rI (λ_ j=>0<j) λi j=> .int<|i %j:=opI λi j _ _ _ _ _ hc q=>by
 have G:(0:Int)<j:=hc;exact mod_int' 'l' (by rw[Int.fmod_eq_emod_of_nonneg i 'l'];exact q)
def unI{f:aC->Sem aC}{g:Int->Int} (rule:∀(i:Int) (t:Tok) (s:aP) (Q:aC->aP->Prop) (E:aC->aP->Prop),Q (.int (g i) s.toks) {s with toks:=s.toks+1}->wpAny (model X.prog X.w) X.A (f<|.int i t) Q E s):UnR X f<|rU λi=> .int<|g i:=by
 intro aB s Z H x v Q I rx h;let⟨i,rfl,q⟩:=h;let⟨t,rfl⟩:=rx;exact rule i t s _ _ ⟨.int<|g i,H,I.tok _,⟨_,Y⟩,q⟩
def ae8:UnR X (unaryOp .USub)<|rU λi=> .int<|-i:=unI λ_ _ _ _ _ q=>neg_int q
def aaQ:V->V->Bool
 | .gQ,.gQ=>true| .gQ,.int _=>true| .int _,.gQ=>true| .gQ,.bl _=>true| .bl _,.gQ=>true| .gQ,.str _=>true| .str _,.gQ=>true
 | .int _,.int _=>true| .bl _,.bl _=>true| .str _,.str _=>true| .O9 _,.O9 _=>true
 | .int _,.str _=>true| .str _,.int _=>true| .bl _,.str _=>true| .str _,.bl _=>true
 |_,_=>false
def rEq:R2:= λx y H Q=>aaQ x y=true/\Q (.bl<|decide<|x=y) H
def rNe:R2:= λx y H Q=>aaQ x y=true/\Q (.bl<|!decide (x=y)) H
def S9{i j:Int}:decide (V.int i=V.int j)=(i==j):=by
 rw[cK];simp
def WQ{i j:Bool}:decide (V.bl i=V.bl j)=(i==j):=by
 rw[cK];simp
def Tc{i j:Str}:decide (V.str i=V.str j)=(i==j):=by
 rw[cK];simp
def S8{i j:Array UInt8}:decide (V.O9 i=V.O9 j)=(i.toList==j.toList):=by
 rw[cK];cases i;cases j;simp
def gI{Q:VK}{k k':Bool}(I:Inv X aB Z H s)(q:Q (.bl k) H)(e:k=k'):EP X aB Z Q (.bool k') s:=by
 subst e;exact⟨.bl k,H,I,Y,q⟩
def iU:G9 X (compareOp .Eq) rEq:=by
 intro aB s Z H x y v u Q I rx ry h;let⟨hs,q⟩:=h;cases x with
 |gQ=>
  cases rx;cases y with
  |gQ=>cases ry;exact age (gI I q 's')
  |bl j=>cases ry;exact agc (gI I q 's')
  |int j=>let⟨t',rfl⟩:=ry;exact agd (gI I q 's')
  |str j=>let⟨t',rfl⟩:=ry;exact agf (gI I q 's')
  |_=>exact absurd (show false=true from hs) bJ
 |bl i=>
  cases rx;cases y with
  |gQ=>cases ry;exact aga (gI I q 's')
  |bl j=>cases ry;exact eq_bool (gI I q WQ)
  |str j=>let⟨t',rfl⟩:=ry;exact afi (gI I q 's')
  |_=>exact absurd (show false=true from hs) bJ
 |int i=>
  let⟨t,rfl⟩:=rx;cases y with
  |gQ=>cases ry;exact agb (gI I q 's')
  |int j=>let⟨t',rfl⟩:=ry;exact eq_int (gI I q S9)
  |str j=>let⟨t',rfl⟩:=ry;exact afj (gI I q 's')
  |_=>exact absurd (show false=true from hs) bJ
 |str i=>
  let⟨t,rfl⟩:=rx;cases y with
  |gQ=>cases ry;exact agg (gI I q 's')
  |bl j=>cases ry;exact afk (gI I q 's')
  |int j=>let⟨t',rfl⟩:=ry;exact afl (gI I q 's')
  |str j=>let⟨t',rfl⟩:=ry;exact eq_str (gI I q Tc)
  |_=>exact absurd (show false=true from hs) bJ
 |O9 i=>
  let⟨t,rfl⟩:=rx;cases y with
  |O9 j=>let⟨t',rfl⟩:=ry;exact PySem.W.eq_bytes (gI I q S8)
  |_=>exact absurd (show false=true from hs) bJ
 |_=>cases y<;>exact absurd (show false=true from hs) bJ
def T4:G9 X (compareOp .NotEq) rNe:=by
 intro aB s Z H x y v u Q I rx ry h;let⟨hs,q⟩:=h;cases x with
 |gQ=>
  cases rx;cases y with
  |gQ=>cases ry;exact agl (gI I q 's')
  |bl j=>cases ry;exact agj (gI I q 's')
  |int j=>let⟨t',rfl⟩:=ry;exact agk (gI I q 's')
  |str j=>let⟨t',rfl⟩:=ry;exact agm (gI I q 's')
  |_=>exact absurd (show false=true from hs) bJ
 |bl i=>
  cases rx;cases y with
  |gQ=>cases ry;exact agh (gI I q 's')
  |bl j=>cases ry;exact ne_bool (gI I q<|congrArg not WQ)
  |str j=>let⟨t',rfl⟩:=ry;exact afm (gI I q 's')
  |_=>exact absurd (show false=true from hs) bJ
 |int i=>
  let⟨t,rfl⟩:=rx;cases y with
  |gQ=>cases ry;exact agi (gI I q 's')
  |int j=>let⟨t',rfl⟩:=ry;exact ne_int (gI I q<|congrArg not S9)
  |str j=>let⟨t',rfl⟩:=ry;exact afn (gI I q 's')
  |_=>exact absurd (show false=true from hs) bJ
 |str i=>
  let⟨t,rfl⟩:=rx;cases y with
  |gQ=>cases ry;exact agn (gI I q 's')
  |bl j=>cases ry;exact afo (gI I q 's')
  |int j=>let⟨t',rfl⟩:=ry;exact afp (gI I q 's')
  |str j=>let⟨t',rfl⟩:=ry;exact ne_str (gI I q<|congrArg not Tc)
  |_=>exact absurd (show false=true from hs) bJ
 |O9 i=>
  let⟨t,rfl⟩:=rx;cases y with
  |O9 j=>let⟨t',rfl⟩:=ry;exact PySem.W.ne_bytes (gI I q<|congrArg not S8)
  |_=>exact absurd (show false=true from hs) bJ
 |_=>cases y<;>exact absurd (show false=true from hs) bJ
def yR:G9 X (compareOp .Lt)<|Uc λi j=> .bl<|decide<|i<j:=aay λ_ _ _ _ _ _ _ q=>lt_int q
def T3:G9 X (compareOp .LtE)<|Uc λi j=> .bl<|decide<|i<=j:=aay λ_ _ _ _ _ _ _ q=>le_int q
def Gj:G9 X (compareOp .Gt)<|Uc λi j=> .bl<|decide<|j<i:=aay λ_ _ _ _ _ _ _ q=>gt_int q
def XI:G9 X (compareOp .GtE)<|Uc λi j=> .bl<|decide<|j<=i:=aay λ_ _ _ _ _ _ _ q=>ge_int q
def dh(b:Expr)(h:op≠ .In:=by decide)(h2:op≠ .NotIn:=by decide):behindInMarks op b=false:=by
 have e1:(op==ai7)=false:=by cases op<;>first|rfl|exact absurd rfl h
 have e2:(op==acE)=false:=by cases op<;>first|rfl|exact absurd rfl h2
 cases b<;>simp[behindInMarks,e1,e2]
def pR(ho:G9 X (compareOp op) r)(ha:PE X a ta)(hb:PE X b tb)(hm:behindInMarks op b=false):PE X (.Compare a [op] [b] pos)<|Ox r ta tb:=by
 intro aB s Z H Q I h;exact wpAny_Compare1 (ac0 ha hb I h λv u s2 x y H2 I2 rx ry q=>ho aB s2 Z H2 x y v u Q I2 rx ry q) hm
def KO(t:TE):TT:= λZ H Q=>t Z H λx U=>RB U Q x
def cu(ho:G9 X (compareOp op) r)(ha:PE X a ta)(hb:PE X b tb)(hm:behindInMarks op b=false):PT X (.Compare a [op] [b] pos)<|KO<|Ox r ta tb:=by
 intro aB s Z H Q I h;refine Wr (iz (ha aB s Z H _ I h) λv s1 ⟨x,L,I1,r1,q1⟩=>iz (hb aB s1 Z L _ I1 q1) λu s2 ⟨y,H2,I2,r2,q2⟩=>
  iz (ho aB s2 Z H2 x y v u _ I2 r1 r2 q2) λc s3 ⟨z,H3,I3,r3,k,e,q3⟩=>?_) hm
 subst e;cases r3;exact jU ⟨H3,I3,q3⟩
def YG(r r':R2)(ta tb tc:TE):TE:= λZ H Q=>ta Z H λx L=>tb Z L λy H2=>r x y H2 λz H3=>∃k,z= .bl k/\(if k=true then tc Z H3 λw' H4=>r' y w' H4 Q else Q (.bl false) H3)
def DF{op':CmpOp}{r':R2}(ho:G9 X (compareOp op) r)(Tp:G9 X (compareOp op') r')(ha:PE X a ta)(hb:PE X b tb)(hc:PE X c tc) (hm:lastMarks [op,op'] [b,c]=false:=by with_unfolding_all rfl):PE X (.Compare a [op,op'] [b,c] pos)<|YG r r' ta tb tc:=by
 intro aB s Z H Q I h;refine Compare_chain (iz (ha aB s Z H _ I h) λv s1 ⟨x,L,I1,r1,q1⟩=>chain_link (iz (hb aB s1 Z L _ I1 q1) λu s2 ⟨y,H2,I2,r2,q2⟩=>
  iz (ho aB s2 Z H2 x y v u _ I2 r1 r2 q2) λd s3 ⟨z,H3,I3,r3,k,e,q3⟩=>?_)) hm
 subst e;cases r3;calc jU ?_;cases k with
 |false=>exact ite_ff ⟨.bl false,H3,I3,Y,q3⟩
 |true=>exact ite_tt (chain_last<|iz (hc aB s3 Z H3 _ I3 q3)<|by rintro w' s4 ⟨z',H4,I4,r4,q4⟩;exact Tp aB s4 Z H4 y z' u w' Q I4 r2 r4 q4)
def Jk:(sizeLine:Nat)<2^63:=by rw[aW];decide
def Sd:G9 X (binaryOp .Add) (λx y H Q=>∃i j,x= .str i/\y= .str j/\i.length+j.length<=sizeLine/\Q (.str<|i++j) H):=by
 intro aB s Z H x y v u Q I rx ry h;let⟨i,j,rfl,rfl,hz,q⟩:=h;let⟨t,rfl⟩:=rx;let⟨t',rfl⟩:=ry;exact add_str (λt' tk=>⟨.str<|i++j,H,I.tok _,⟨_,Y⟩,q⟩) hz
def vals1{x:V}(r:Vals [x] us):∃u,us=[u]/\RelV x u:=by
 cases r with
 |cons r1 r2=>cases r2;exact⟨_,Y,r1⟩
def Nr:uK X (.type "str") (λxs H Q=>∃i,xs=[.int i]/\i.natAbs.log2<1920/\Q (.str<|toString i) H):=by
 intro aB s Z H xs us Q I r h;let⟨i,rfl,hz,q⟩:=h;let⟨u,rfl,t,rfl⟩:=vals1 r;exact PySem.P.str_of_int hz ⟨.str _,H,I.tok _,⟨_,Y⟩,q⟩
def WI:uK X (.builtin "ord") (λxs H Q=>∃x,xs=[.str x]/\x.length=1/\Q (.int (x.cps.getD 0 0:Nat)) H):=by
 intro aB s Z H xs us Q I r h;let⟨x,rfl,hz,q⟩:=h;let⟨u,rfl,t,rfl⟩:=vals1 r;exact ord_of_one hz ⟨.int _,H,I.tok _,⟨_,Y⟩,q⟩
structure Rp (h:eZ) (x dx C:O) (mA:Str->Option aC):Prop where
 obj:h.get? x=some (jt C dx)
 ns:h.Ns1 dx mA
 ne:dx≠x
def Vn(n:h.Ns1 dx mA):∃od,h.get? dx=some od/\∀name,x8 name od=some (mA name):=by
 let⟨o,es,ep,ho,hd,hk,_,hm⟩:=n;calc⟨o,ho,λname=>?_⟩;have e:=hm name;unfold nsFind findBy at e;rw[←Array.find?_toList]at e;unfold x8;rw[hd];dsimp only;split
 .rename_i y q;rw[q]at e;exact congrArg some e
 .rename_i q;rw[q]at e;have a:es.toList.any (·.refKey)=false:=by
   rw[V0];intro y hy;let⟨z,t,ald⟩:=hk y<|zY.mp hy;simp[amU,ald]
  have a':¬es.toList.any (·.refKey)=true:=by rw[a];exact bJ
  rw[az a'];exact congrArg some e
def Rp.look{x:O}(I:Rp h x dx C mA):∃od,PySem.W.InstAt h x (jt C dx) C (some od)/\∀name,x8 name od=some (mA name):=let⟨od,ho,hl⟩:=Vn I.ns
 ⟨od,⟨I.obj,Y,Y,ho⟩,hl⟩
section
variable{x:O} {v:aC}
def get_map{Wt:Bool}(X:K.In s.heap)(I:Rp s.heap x dx C mA)(hg:ux K C name=true)(hh:CS K C=true) (ha:iG K (.ref C) name=some none)(hv:mA name=some v)(hv':SX v=true)(h:Q v {s with toks:=s.toks+1}):wpAny (model prog w) A (getAttr (.ref x) name Wt) Q E s:=by
 let⟨od,atD,hl⟩:=I.look;exact PySem.W.get_value X atD (z9 hg).1 (PySem.W.findObj_own hh ha Y<|by rw[hl,hv]) hv' h
def WT{Q:aC×List aC->aP->Prop}(X:K.In s.heap)(I:Rp s.heap x dx C mA)(hg:ux K C name=true) (hf:iG K (.ref C) name=some (some<|.ref f))(ht:L1 K (.ref f)=true)(hv:mA name=none)(h:Q (.ref f,[.ref x]) s):wpAny (model prog w) A (getMethod (.ref x) name pl) Q E s:=by
 let⟨od,atD,hl⟩:=I.look;exact PySem.W.method_fn X atD (z9 hg).1 (z9 hg).2 hf (iM.mp ht) (by show(x8 name od).map (·.isSome)=some false;rw[hl,hv];rfl) h
theorem aaR{ns:List Str}{Q:Unit->aP->Prop}(X:K.In s.heap)(I:Rp s.heap x dx C mA) (hs:iG K (.ref C) "__setattr__"=some (some<|.builtin "object.__setattr__"))(hp:Rl K C=true)(ht:FJ K C name=some none)(hh:CS K C=true) (hw:AO mA ns)(hsz:ns.length<=sizeLine) (h:∀h',Rp h' x dx C (λy=>if y=name then some v else mA y)->xH dx s.heap h'->Q () {s with heap:=h',toks:=s.toks+2}):wpAny (model prog w) A (setAttr (.ref x) name v) Q E s:=by
 let⟨od,atD,hl⟩:=I.look;calc PySem.W.set_plain X atD hs<|PySem.W.osa_open (s:={s with toks:=s.toks+1}) (r:=none) X atD hp ht λb=>?_;let⟨cd,hc,WW⟩:=PySem.W.any_some hh;have hx:s.heap.get? x=some ⟨.ref C,some dx,.plain,#[]⟩:=I.obj;calc aQ<|bS<|aQ<|aQ<|wpAny_loadPart hx<|aQ<|afs (s:={s with toks:=s.toks+1}) (PySem.W.looks_clsIn X hc) ?_;rw[WW];calc bS (a:=some dx)<|aQ<|bS<|aQ ?_;calc am3 (s:={s with toks:=s.toks+1}) I.ns λh' hn2 hs2=>?_;let⟨oD,esD,epD,hoD,hdD,hcD⟩:=hn2.count<|S0 name v hw;calc aQ (afB hoD (by rw[hdD];exact afw<|bH hcD<|by rw[ay];lia) ?_);exact bS (h _ ⟨(hs2.2 _<|f6 I.ne).trans I.obj,hn2,I.ne⟩ hs2)
def Xq{R:abA->aP->Prop}{S:List aC}(X:K.In s.heap)(hm:OM K C=true) (hi:iG K (.ref C) "__init__"=some (some<|.ref f))(hf:PySem.W.typeIn K (.ref f)=some (.type "function")) (h:codeAny (model prog w) (A.under<|.builtin "type.__call__" ⟨.ref C::S,kw⟩) (.call (.ref f) ⟨.ref (s.heap.objs.size+1)::S,kw⟩) (PySem.W.InitBack (s.heap.objs.size+1) R) {s with heap:=(s.heap.push gK).push (jt C s.heap.objs.size)}):codeAny (model prog w) A (.call (.ref C) ⟨S,kw⟩) R s:=by
 let⟨hh,g,d,t,os⟩:=s;exact PySem.W.make_core (PySem.W.makes_of X hm) (PySem.W.looks_findIn X hi) (λself=>PySem.W.bind_fn X self hf) (.inl Y) h
end
def jy(f:Str)(v:V):List (Str×V)->List (Str×V)
 |[]=>[(f,v)]
 |(g,x)::r=>if g=f then(g,v)::r else(g,x)::jy f v r
def Ga(f g:Str)(v:V):∀fs:List<|Str×V,(jy f v fs).lookup g=if g=f then some v else fs.lookup g
 |[]=>by
  show jd g [(f,v)]=_;by_cases h:g=f
  .have hb:(g==f)=true:=iM.mpr h;simp only[jd,hb,aG h]
  .have hb:(g==f)=false:=bW.mpr h;simp only[jd,hb,az h]
 |(k,x)::r=>by
  have ih:=Ga f g v r;rw[show jy f v ((k,x)::r)=(if k=f then(k,v)::r else(k,x)::jy f v r)from Y];by_cases hk:k=f
  .rw[aG hk];by_cases h:g=k
   .have hb:(g==k)=true:=iM.mpr h;simp only[jd,hb,aG<|h.trans hk]
   .have hb:(g==k)=false:=bW.mpr h;simp only[jd,hb,az (λe:g=f=>h<|e.trans hk.symm)]
  .rw[az hk];by_cases h:g=k
   .have hb:(g==k)=true:=iM.mpr h;simp only[jd,hb,az (λe:g=f=>hk<|h.symm.trans e)]
   .have hb:(g==k)=false:=bW.mpr h;simp only[jd,hb];exact ih
def EY(f:Str)(v:V):∀fs:List<|Str×V,f∈(jy f v fs).map (·.1)/\∀g,g∈fs.map (·.1)->g∈(jy f v fs).map (·.1)
 |[]=>⟨by simp[jy],λg h=>by simp at h⟩
 |(k,x)::r=>by
  let⟨i1,i2⟩:=EY f v r;rw[show jy f v ((k,x)::r)=(if k=f then(k,v)::r else(k,x)::jy f v r)from Y];by_cases hk:k=f
  .rw[aG hk];subst hk;exact⟨'s',λg h=>~~~h⟩
  .rw[az hk];refine⟨?_,λg h=>?_⟩
   .rw[bK];exact aV _ i1
   .rw[bK]at h⊢;rcases aX.mp h with e|e
    .exact aX.mpr (.inl e)
    .exact aV _ (i2 g e)
theorem F7(f:Str)(v:V):∀fs:List<|Str×V,(jy f v fs).length<=fs.length+1
 |[]=>by simp[jy]
 |(k,x)::r=>by
  have ih:=F7 f v r;rw[show jy f v ((k,x)::r)=(if k=f then(k,v)::r else(k,x)::jy f v r)from Y];by_cases hk:k=f
  .rw[aG hk,ay,ay];lia
  .rw[az hk,ay,ay];lia
def pW.some_of{o:Option aC}(r:pW (some v) o):∃u,o=some u/\RelV v u:=by
 cases o with
 |none=>exact(show False from r).elim
 |some u=>exact⟨u,Y,r⟩
def pW.none_of{o:Option aC}(r:pW none o):o=none:=by
 cases o with
 |none=>rfl
 |some u=>exact(show False from r).elim
def Mp(r:RelV v u):SX u=true:=by
 cases v with
 |gQ=>cases(show u=f9 from r);rfl
 |bl b=>cases(show u=wF b from r);rfl
 |int i=>let⟨t,e⟩:=(show∃t,u=AF i t from r);cases e;rfl
 |str x=>let⟨t,e⟩:=(show∃t,u=Nb x t from r);cases e;rfl
 |O9 b=>let⟨t,e⟩:=(show∃t,u=acK b t from r);cases e;rfl
 |U5 b=>let⟨t,e⟩:=(show∃t,u=acL b t from r);cases e;rfl
 |ref a=>cases(show u=bU a from r);rfl
 |ty n=>cases(show u=ku n from r);rfl
section
variable{a:O} {fs Zf:List (Str×V)}
def NL(fQ:vF P w H h)(e:H a=some (.ins C dx fs)):∃mA,Rp h a dx C mA/\(∀f,pW (fs.lookup f)<|mA f)/\AO mA (fs.map (·.1))/\fs.length<=1000/\H dx=some (.own a):=by
 let⟨d,z,ne,ob,mA,n,r,q⟩:=(show iL P w H h a (.ins C dx fs)from fQ a _ e);exact⟨mA,⟨ob,n,ne⟩,r,q,z,d⟩
end
structure Wx (K:aJ) (C:O):Prop where
 pg:ux K C Str.empty=true
 hd:CS K C=true
 po:Rl K C=true
 sa:iG K (.ref C) "__setattr__"=some (some<|.builtin "object.__setattr__")
def Wx.get(c:Wx K C)(f:Str):ux K C f=true:=c.pg
def yh(K:aJ)(C:O)(f:Str):Prop:=iG K (.ref C) f=some none
def yh.aiW{f:Str}(n:yh K C f):FJ K C f=some none:=by
 unfold FJ;rw[show iG K (.ref C) f=some none from n];rfl
structure Meth (K:aJ) (C:O) (m:Str) (f:O):Prop where
 at_:iG K (.ref C) m=some (some<|.ref f)
 fn:L1 K (.ref f)=true
 kp:jf K (.ref f)=true
section
variable{a:O} {fs:List (Str×V)} {f:Str}
def IU{b:Bool}(I:Inv X aB Z H s)(e:H a=some (.ins C dx fs))(c:Wx X.K C)(n:yh X.K C f)(l:fs.lookup f=some v) (h:∀u s',Inv X aB Z H s'->RelV v u->Q u s'):wpAny (model X.prog X.w) A (getAttr (.ref a) f b) Q E s:=by
 let⟨mA,atH,r,_,_,_⟩:=NL I.fQ e;let⟨u,hu,ru⟩:=pW.some_of (v:=v) (o:=mA f) (by rw[←l];exact r f);exact get_map I.Ag atH (c.get f) c.hd n hu (Mp ru) (h u _ (I.tok _) ru)
def IV{g:O}{Q:aC×List aC->aP->Prop}(I:Inv X aB Z H s)(e:H a=some (.ins C dx fs))(c:Wx X.K C)(k:Meth X.K C m g)(l:fs.lookup m=none) (h:Q (.ref g,[.ref a]) s):wpAny (model X.prog X.w) A (getMethod (.ref a) m pl) Q E s:=by
 let⟨mA,atH,r,_,_,_⟩:=NL I.fQ e;have hn:mA m=none:=pW.none_of (by rw[←l];exact r m);exact WT I.Ag atH (c.get m) k.at_ k.fn hn h
theorem Kw{Q:Unit->aP->Prop}(I:Inv X aB Z H s)(e:H a=some (.ins C dx fs))(c:Wx X.K C)(n:yh X.K C f)(hl:fs.length<1000)(ry:RelV y u) (h:∀s',Inv X aB Z (upd H a<|.ins C dx<|jy f y fs) s'->Q () s'):wpAny (model X.prog X.w) A (setAttr (.ref a) f u) Q E s:=by
 let⟨mA,atH,r,wi,_,ho⟩:=NL I.fQ e;have hz:(fs.map (·.1)).length<=sizeLine:=by rw[ai,aW];lia
 calc aaR I.Ag atH c.sa c.po n.aiW c.hd wi hz λh' O' sb=>h _ ?_;have hd:∃o,h'.get? dx=some o:=let⟨o,_,_,e',_⟩:=O'.ns;⟨o,e'⟩;calc I.write (x:=a) (e:=dx) (by rw[e];exact lW) (.inr ho) (λb q hb z=>(sb.2 b hb).trans z) hd ?_;refine⟨by rw[aY atH.ne];exact ho,?_,atH.ne,O'.obj,_,O'.ns,λg=>?_,λg hg=>?_⟩
 .have:=F7 f y fs;lia
 .show pW ((jy f y fs).lookup g) (if g=f then some u else mA g);rw[Ga];by_cases q:g=f
  .rw[aG q,aG q];exact ry
  .rw[az q,az q];exact r g
 .by_cases q:g=f
  .rw[q];exact(EY f y fs).1
  .refine(EY f y fs).2 g (wi g λz=>hg ?_);show(if g=f then some u else mA g)=none;rw[az q];exact z
def Inv.made(I:Inv X aB Z H s):Inv X aB Z (upd (upd H s.heap.objs.size<|.own<|s.heap.objs.size+1) (s.heap.objs.size+1)<|.ins C s.heap.objs.size []) {s with heap:=(s.heap.push gK).push (jt C s.heap.objs.size)}:=by
 have e1:(s.heap.push gK).get? s.heap.objs.size=some gK:=bZ s.heap Y;have e2:((s.heap.push gK).push (jt C s.heap.objs.size)).get? (s.heap.objs.size+1)=some (jt C s.heap.objs.size):=by
  have:=bZ (s.heap.push gK) (o:=jt C s.heap.objs.size) Y;rwa[fP]at this
 have e3:(s.heap.push gK).Ns s.heap.objs.size (λ_=>none):=⟨gK,#[],_,e1,Y,λe he=>absurd he 's',λ_=>rfl⟩;have I1:=I.laid (a:=s.heap.objs.size) (o:= .own<|s.heap.objs.size+1) (h':=s.heap.push gK) (t':=s.toks) (λb u q=>aS _ q) (aT _) ⟨_,e1⟩;calc I1.laid (a:=s.heap.objs.size+1) (o:= .ins C s.heap.objs.size []) (t':=s.toks) (λb u q=>aS _ q) (oV<|fP _ _) ?_;have ne:s.heap.objs.size≠s.heap.objs.size+1:=cj<|HH _;calc⟨by rw[aY ne,aq],b7 _,ne,e2,λ_=>none,(QN e3).at λo q=>aS _ q,λ_=>lW,λy hy=>absurd Y hy⟩
def S5{env:Env}(hb:attributeBase e f env (eval e env)=eval e env) (h:wpAny (model prog w) A (eval e env) (λo s₁=>wpAny (model prog w) A (getAttr o f true) Q E s₁) E s):wpAny (model prog w) A (eval (.Attribute e f pos) env) Q E s:=Attribute_any_ h (by rw[arm_eval_Attribute,hb])
end
inductive RSF (K:aJ) (f:Str) (y x:V) (H:Hp) (R:Hp->Prop):Prop
 |mk (a C dx fs:_) (k0:x= .ref a) (k1:H a=some (.ins C dx fs)) (k2:Wx K C) (k3:yh K C f) (k4:fs.length<1000) (k5:R (upd H a (.ins C dx (jy f y fs))))
def amD(K:aJ)(ta tv:TE)(f:Str):TS:= λD Z H=>tv Z H λy L=>ta Z L λx H2=>RSF K f y x H2 (D.nx Z)
def agv(X:Cx)(op:QO)(rd:V->V->Hp->VK->Prop):Prop:=∀(aB:List<|O×Obj) (s:aP) (Z:St) (H:Hp) (x y:V) (u v:aC) (Q:VK),Inv X aB Z H s->RelV x u->RelV y v->rd x y H Q->wpAny (model X.prog X.w) X.A (inplaceOp op u v) (EP X aB Z Q) X.xe s
def aaP(K:aJ)(ta tv:TE)(rd:V->V->Hp->VK->Prop)(f:Str):TS:= λD Z H=>ta Z H λx L=>∃a C dx fs v,x= .ref a/\L a=some (.ins C dx fs)/\Wx K C/\yh K C f/\fs.lookup f=some v/\tv Z L λy H2=>rd v y H2 λz H3=>∃Te Zf,H3 a=some (.ins C Te Zf)/\Zf.length<1000/\D.nx Z (upd H3 a<|.ins C Te<|jy f z Zf)
section
variable{o value:Expr} {f:Str} {abj:Pos} {tv:TE}
def dP(ha:PE X o ta)(hv:PE X value tv)(hs:nA value (some<|.Attribute o f rF) pos.line X.env=pure false):PS X (.Assign [.Attribute o f rF] value pos)<|amD X.K ta tv f:=by
 intro aB s Z H D I h;calc qA (iz (hv aB s Z H _ I h) ?_) hs;rintro u s1 ⟨y,L,I1,ry,q⟩;calc iz (ha aB s1 Z L _ I1 q) ?_;rintro ov s2 ⟨x,H2,I2,rx,a,C,dx,fs,ex,ea,c,n,l,q2⟩;subst ex;obtain rfl:ov=bU a:=rx;exact Kw I2 ea c n l ry λs3 I3=>⟨Z,_,I3,q2⟩
def Fl{op:QO}{rd:V->V->Hp->VK->Prop}(ha:PE X o ta)(hv:PE X value tv)(hop:agv X op rd):PS X (.AugAssign (.Attribute o f abj) op value pos)<|aaP X.K ta tv rd f:=by
 intro aB s Z H D I h;calc wpAny_AugAssign_AttributeAny<|iz (ha aB s Z H _ I h) ?_;rintro ov s1 ⟨x,L,I1,rx,a,C,dx,fs,v,ex,ea,c,n,l,q⟩;subst ex;obtain rfl:ov=bU a:=rx;calc IU I1 ea c n l λu s2 I2 ru=>iz (hv aB s2 Z L _ I2 q) ?_;rintro w3 s3 ⟨y,H2,I3,ry,q3⟩;calc iz (hop aB s3 Z H2 v y u w3 _ I3 ru ry q3) ?_;rintro w4 s4 ⟨z,H3,I4,rz,Te,Zf,ea',l',q4⟩;exact Kw I4 ea' c n l' rz λs5 I5=>⟨Z,_,I5,q4⟩
def amq:V->V->Hp->VK->Prop:= λx y H Q=>∃i j,x= .int i/\y= .int j/\Q (.int<|i+j) H
def RK:agv X .Add amq:=by
 rintro aB s Z H x y u v Q I rx ry ⟨i,j,rfl,rfl,q⟩;let⟨t,rfl⟩:=(show∃t,u=AF i t from rx);let⟨t',rfl⟩:=(show∃t',v=AF j t' from ry);exact Wm ⟨.int<|i+j,H,I.tok _,⟨_,Y⟩,q⟩
end
structure ia (k:Nat) (A:gZ):Prop where
 hd:A.handled=none
 dp:A.depth+3*k+5<ajg
 un:A.units+16*k+200<G4
theorem ia.mono(r:ia k A)(h:j<=k):ia j A:=⟨r.hd,by have:=r.dp;lia,by have:=r.un;lia⟩
def ia.mn(r:ia k A)(h:j<=k:=by decide):ia j A:=r.mono h
def jH(n:Nat)(h:n<=sizeLine:=by decide):n<=sizeLine:=h
def vv(n:Nat)(h:n<1000:=by decide):n<1000:=h
theorem ia.deeper(r:ia (k+1) A)(env:Env):ia k<|A.deeper env:=⟨r.hd,by have:=r.dp;show A.depth+1+3*k+5<_;lia,by have:=r.un;show A.units+3+16*k+200<_;lia⟩
def RS:(A.under<|.builtin "type.__call__" ⟨.ref C::us,kw⟩).depth=A.depth+1:=by
 first|rfl|simp[M8,Code.weight,Code.isCreation,Code.isGuard,Code.isCaller,afh,OZ,guardIds]
def RT:(A.under<|.builtin "type.__call__" ⟨.ref C::us,kw⟩).units=A.units+1:=by
 first|rfl|simp[M8,Code.cUnits,afh,OZ]
def ia.make(r:ia (k+1) A)(C:O)(us:List aC)(kw:List<|Str×aC):ia k<|A.under<|.builtin "type.__call__" ⟨.ref C::us,kw⟩:=⟨r.hd,by have:=r.dp;rw[RS];omega,by have:=r.un;rw[RT];omega⟩
def ia.depth(r:ia k A):A.depth<ajg:=by have:=r.dp;omega
theorem ia.units(r:ia k A):A.units+64<G4:=by have:=r.un;lia
def m9:TA:= λ_ H Q=>Q [] H
def gf(ta:TE)(tr:TA):TA:= λZ H Q=>ta Z H λx L=>tr Z L λxs H2=>Q (x::xs) H2
section
variable{t:TA}
def iI:PA X [] m9:= λ_ _ _ _ H Q I h=>oK ⟨[],H,I,.nil,h⟩
def aD(ha:PE X e te)(hr:PA X es t)(hs:starEach (e::es) X.env=(false,eval e X.env)::starEach es X.env:=by rfl):PA X (e::es)<|gf te t:=by
 intro pos aB s Z H Q I h;rw[hs];show wpAny _ _ (spliced<|(false,eval e X.env)::backTo pos (starEach es X.env)) _ _ s;calc nu<|iz (ha aB s Z H _ I h) ?_;rintro u s1 ⟨x,L,I1,r1,q1⟩;exact iz (hr pos aB s1 Z L _ I1 q1) (by rintro us s2 ⟨xs,H2,I2,r2,q2⟩;exact⟨x::xs,H2,I2,.cons r1 r2,q2⟩)
def bM(ha:PE X e te)(hs:starEach [e] X.env=(false,eval e X.env)::starEach [] X.env:=by rfl):PA X [e]<|gf te m9:=aD ha iI hs
def aiV(t:TA):TE:= λZ H Q=>t Z H λxs L=>xs.length<=sizeLine/\∀p,L p=none->Q (.ref p) (upd L p<|.tup xs)
def ae3(t:TA):TE:= λZ H Q=>t Z H λxs L=>xs.length<=sizeLine/\∀p,L p=none->Q (.ref p) (upd L p<|.lst xs)
def mC{x1}(h:PA X es t):PE X (.Tuple es x1 pos)<|aiV t:=by
 intro aB s Z H Q I hq;calc wpAny_Tuple_spliced<|iz (h pos aB s Z H _ I hq) ?_;rintro us s1 ⟨xs,L,I1,r,z,q⟩;calc⟨by rw[←r.length];exact z,?_⟩;have hf:L s1.heap.objs.size=none:=I1.fQ.fresh<|aT _;calc⟨.ref s1.heap.objs.size,upd L s1.heap.objs.size<|.tup xs,I1.laid (t':=s1.toks) (λb u e=>aS _ e) (aT _) ?_,Y,q _ hf⟩;exact⟨z,us,r,⟨_,bZ _ Y,Y,_,Y⟩⟩
def cg(h:PA X es t):PE X (.List es pos)<|ae3 t:=by
 intro aB s Z H Q I hq;calc wpAny_List_spliced<|iz (h pos aB s Z H _ I hq) ?_;rintro us s1 ⟨xs,L,I1,r,z,q⟩;calc⟨by rw[←r.length];exact z,?_⟩;have hf:L s1.heap.objs.size=none:=I1.fQ.fresh<|aT _;calc⟨.ref s1.heap.objs.size,upd L s1.heap.objs.size<|.lst xs,I1.laid (t':=s1.toks) (λb u e=>aS _ e) (aT _) ?_,Y,q _ hf⟩;exact⟨z,us,0,r,bZ _ Y⟩
abbrev Sp:=List V->Hp->VK->XK->Prop
abbrev Za:=List Env->Hp->aP->XK->aC->aP->Prop
end
structure Ro (P:eL) (w:gH) (K:aJ) (mg:Str->Option aC) (base:eZ) (A:gZ) (outer:List Env) (s:aP) (H:Hp):Prop where
 frames:A.frames=some outer
 mod:Mod K mg base
 bs:∀b o,base.get? b=some o->s.heap.get? b=some o/\H b=none
 WH:base.objs.size<=s.heap.objs.size
 Cj:s.heap.FunFrames base outer
 ZZ:∀b∈xS outer,H b=none
 fQ:vF P w H s.heap
 bare:EC s.gens
def CE(outer:List Env)(P:eL)(w:gH)(H:Hp)(s:aP)(Q:VK)(u:aC)(s':aP):Prop:=∃v U,s'.os=s.os/\EC s'.gens/\Un (xS outer) [] H U s.heap s'.heap/\vF P w U s'.heap/\RelV v u/\Q v U
def CR(CX:Za)(outer:List Env)(P:eL)(w:gH)(H:Hp)(s:aP)(Q:VK)(E:XK)(r:abA)(s':aP):Prop:=match r with
 | .ok (.ret u)=>CE outer P w H s Q u s'
 | .ok _=>False
 | .error e=>CX outer H s E e s'
structure nQ (P:eL) (w:gH) (K:aJ) (mg:Str->Option aC) (base:eZ) (CX:Za) (k:Nat) (f:O) (fd:kM) (ps:List Str) (sp:Sp):Prop where
 len:∀S H Q E,sp S H Q E->S.length=ps.length
 run:∀(A:gZ) (outer:List Env) (s:aP) (H:Hp) (args:Args) (us:List aC) (S:List V) (Q:VK) (E:XK),ia k A->Ro P w K mg base A outer s H->OY s fd args (ps.zip us)->Vals S us->sp S H Q E->
  codeAny (model P w) A (.call (.ref f) args) (CR CX outer P w H s Q E) s
variable{CX:Za} {sp:Sp}
def nQ.imp{sp':Sp}(F:nQ P w K mg base CX k f fd ps sp) (h:∀S H Q E,sp' S H Q E->sp S H Q E):nQ P w K mg base CX k f fd ps sp':=⟨λS H Q E q=>F.len S H Q E<|h _ _ _ _ q,λA outer s H args us S Q E hr he hb hv hs=>F.run A outer s H args us S Q E hr he hb hv<|h _ _ _ _ hs⟩
def Ro.make(e:Ro P w K mg base A outer s H)(C:O)(us:List aC)(kw:List<|Str×aC):Ro P w K mg base (A.under<|.builtin "type.__call__" ⟨.ref C::us,kw⟩) outer s H:=⟨by first|exact e.frames|(simpa [M8,Code.envs,OZ,pushEnvs]using e.frames),e.mod,e.bs,e.WH,e.Cj,e.ZZ,e.fQ,e.bare⟩
def Inv.adf(I:Inv X aB Z H s):Ro X.prog X.w X.K X.mg X.base X.A X.stack s H:=⟨I.ok.frames,I.ok.mod,I.bs,bH I.ok.WH I.sz,I.stack,I.As,I.fQ,I.bare⟩
def Inv.after{Q:VK}(I:Inv X aB Z H s)(h:CE X.stack X.prog X.w H s Q u s'):EP X aB Z Q u s':=by
 let⟨v,U,os,bare,un,fQ,r,q⟩:=h;let⟨hh,g,d,t,XM⟩:=s';obtain rfl:XM=s.os:=os;exact⟨v,U,I.call (h':=hh) (g':=g) (d':=d) (t':=t) (ch:=[]) un fQ bare λb z=>absurd z 's',r,q⟩
def vz(sp:Sp)(Mi:List V)(E:XK)(t:TA):TE:= λZ H Q=>t Z H λS L=>sp (S++Mi) L Q E
inductive RMt (C:O) (m:Str) (H:Hp) (x:V) (p:Prop):Prop
 |mk (a dx fs:_) (k0:x= .ref a) (k1:H a=some (.ins C dx fs)) (k2:fs.lookup m=none) (k3:p)
def MV(C:O)(m:Str)(sp:Sp)(Mi:List V)(E:XK)(ta:TE)(t:TA):TE:= λZ H Q=>ta Z H λx L=>RMt C m L x (t Z L λS H2=>sp (x::(S++Mi)) H2 Q E)
def Binds(K:aJ)(fd:kM)(ps:List Str)(ds:List aC):Prop:=∀(s:aP) (us:List aC),K.In s.heap->(us++ds).length=ps.length->OY s fd ⟨us,[]⟩ (ps.zip<|us++ds)
def Binds.all(h:∀us:List aC,us.length=ps.length->Y6 fd ⟨us,[]⟩=pure (ps.zip us)):Binds K fd ps []:= λs us _ hl=>by
 rw[cV]at hl⊢;exact .of_eq (h us hl)
def Passes(CX:Za)(X:Cx)(E:XK):Prop:=∀(aB:List<|O×Obj) (Z:St) (H:Hp) (s:aP) (e:aC) (s':aP),Inv X aB Z H s->CX X.stack H s E e s'->X.xe e s'
section
variable{Mi:List V} {ds:List aC} {E:XK} {kh:Pos} {o:Expr} {t:TA}
def Of{Q:VK}(F:nQ X.prog X.w X.K X.mg X.base CX k f fd ps sp)(hr:ia k X.A)(hb:Binds X.K fd ps ds)(hd:Vals Mi ds)(hx:Passes CX X E) (I:Inv X aB Z H s)(r:Vals S us)(h:sp (S++Mi) H Q E):wpAny (model X.prog X.w) X.A (call (.ref f) us) (EP X aB Z Q) X.xe s:=by
 have r2:Vals (S++Mi)<|us++ds:=r.append hd;have hl:(us++ds).length=ps.length:=by rw[←r2.length];exact F.len _ _ _ _ h
 calc QT<|AQ (F.run X.A X.stack s H ⟨us,[]⟩ (us++ds) (S++Mi) Q E hr I.adf (hb s us I.Ag hl) r2 h) λr s' hq=>?_;cases r with
 |error e=>exact hx aB Z H s e s' I hq
 |ok fl=>
  cases fl with
  |ret u=>exact I.after hq
  |next=>exact dY hq
  |brk=>exact dY hq
  |cont=>exact dY hq
def N8(F:nQ X.prog X.w X.K X.mg X.base CX k f fd ps sp)(hr:ia k X.A)(hg:Gl X x)(hm:X.mg x=some (.ref f))(hk:jf X.K (.ref f)=true)(hb:Binds X.K fd ps ds)(hd:Vals Mi ds)(hx:Passes CX X E) (ha:PA X (e::es) t)(ER:(x==("__debug__":Str))=false:=by decide)(he:starEach (e::es) X.env=(false,eval e X.env)::starEach es X.env:=by rfl)(yc:(backTo pos<|starEach es X.env).any (·.1)=false:=by rfl):PE X (.Call (.Name x p) (e::es) [] pos)<|vz sp Mi E t:=by
 intro aB s Z H Q I h;calc eV<|pQ I hg hm ?_ ER;calc je (h₀:=X.base) I.ok.mod.kin hk (iz (ha pos aB s Z H _ I h) ?_) he yc;rintro us s1 ⟨S,L,I1,r,q⟩;calc⟨I1.Ag,?_⟩;exact Of F hr hb hd hx I1 r q
def T7(he:PE X o ta)(c:Wx X.K C)(hm:Meth X.K C m f)(F:nQ X.prog X.w X.K X.mg X.base CX k f fd ps sp)(hr:ia k X.A)(hb:Binds X.K fd ps ds)(hd:Vals Mi ds)(hx:Passes CX X E)(ha:PA X (e::es) t)
  (A0:starEach (e::es) X.env=(false,eval e X.env)::starEach es X.env:=by rfl)(yc:(backTo pos<|starEach es X.env).any (·.1)=false:=by rfl)
  (ht:eval (.Call (.Attribute o m kh) (e::es) [] pos) X.env=(do
   let ov←eval o X.env
   standAt kh.atName
   let(f,first)←holding [ov] (getMethod ov m pl)
   callWith pos f first (backTo pos (starEach (e::es) X.env)) (K4 pos (xK [] X.env))):=by rfl):
  PE X (.Call (.Attribute o m kh) (e::es) [] pos) (MV C m sp Mi E ta t):=by
 intro aB s Z H Q I h;calc Nc (pl:=pl) (iz (he aB s Z H _ I h) ?_) ht;rintro u s1 ⟨x,L,I1,rx,a,dx,fs,ex,ea,l,q⟩;subst ex;obtain rfl:u=bU a:=rx;calc IV I1 ea c hm l ?_;calc je (first:=[.ref a]) (h₀:=X.base) I.ok.mod.kin hm.kp (iz (ha pos aB s1 Z L _ I1 q) ?_) A0 yc;rintro us s2 ⟨S,H2,I2,r,q2⟩;calc⟨I2.Ag,?_⟩;exact Of (us:= .ref a::us) (S:= .ref a::S) F hr hb hd hx I2 (.cons Y r) q2
def XQ(he:PE X o ta)(c:Wx X.K C)(hm:Meth X.K C m f)(F:nQ X.prog X.w X.K X.mg X.base CX k f fd ps sp)(hr:ia k X.A)(hb:Binds X.K fd ps ds)(hd:Vals Mi ds)(hx:Passes CX X E)
  (ht:eval (.Call (.Attribute o m kh) [] [] pos) X.env=(do
   let ov←eval o X.env
   standAt kh.atName
   let(f,first)←holding [ov] (getMethod ov m pl)
   callWith pos f first (backTo pos (starEach [] X.env)) (K4 pos (xK [] X.env))):=by rfl):
  PE X (.Call (.Attribute o m kh) [] [] pos) (MV C m sp Mi E ta m9):=by
 intro aB s Z H Q I h;calc Nc (pl:=pl) (iz (he aB s Z H _ I h) ?_) ht;rintro u s1 ⟨x,L,I1,rx,a,dx,fs,ex,ea,l,q⟩;subst ex;obtain rfl:u=bU a:=rx;calc IV I1 ea c hm l ?_;exact O2 (first:=[.ref a]) I1.Ag hm.kp (Of (us:=[.ref a]) (S:=[.ref a]) F hr hb hd hx I1 (.cons Y .nil) q)
structure Mk (K:aJ) (C f:O):Prop where
 makes:OM K C=true
 init:iG K (.ref C) "__init__"=some (some<|.ref f)
 fn:L1 K (.ref f)=true
 kp:jf K (.ref C)=true
def DL{Q:VK}(M:Mk X.K C f)(F:nQ X.prog X.w X.K X.mg X.base CX k f fd ps sp)(hr:ia (k+1) X.A)(hb:Binds X.K fd ps ds)(hd:Vals Mi ds) (hx:Passes CX X E)(I:Inv X aB Z H s)(r:Vals S us) (h:∀x dx,H x=none->H dx=none->dx≠x->sp (.ref x::(S++Mi)) (upd (upd H dx<|.own x) x<|.ins C dx []) (λv H2=>v= .gQ/\Q (.ref x) H2) E):wpAny (model X.prog X.w) X.A (call (.ref C) us) (EP X aB Z Q) X.xe s:=by
 have hq:=h (s.heap.objs.size+1) s.heap.objs.size (I.fQ.fresh<|SQ _) (I.fQ.fresh<|aT _)<|cj<|HH _;have I2:=Inv.made (C:=C) I;have r2:Vals (V.ref (s.heap.objs.size+1)::(S++Mi))<|bU (s.heap.objs.size+1)::(us++ds):= .cons Y<|r.append hd;have hl:(bU (s.heap.objs.size+1)::us++ds).length=ps.length:=by
  have e:=r2.length;rw[F.len _ _ _ _ hq]at e;exact e.symm
 calc QT<|Xq (f:=f) I.Ag M.makes M.init (iM.mp M.fn)<|AQ (F.run _ X.stack _ _ ⟨bU (s.heap.objs.size+1)::us,[]⟩ (bU (s.heap.objs.size+1)::(us++ds)) _ _ E (hr.make C us []) (I2.adf.make C us []) (hb _ (bU (s.heap.objs.size+1)::us) I2.Ag hl) r2 hq) λr s' hq'=>?_;cases r with
 |error e=>exact hx aB Z _ _ e s' I2 hq'
 |ok fl=>
  cases fl with
  |ret u=>
   let⟨v,U,I3,rv,ev,q3⟩:=I2.after hq';subst ev;exact⟨rv,⟨V.ref<|s.heap.objs.size+1,U,I3,Y,q3⟩⟩
  |next=>exact dY hq'
  |brk=>exact dY hq'
  |cont=>exact dY hq'
end
structure aZ (N P:List Str) (sc:qL):Prop where
 kind:sc.kind= .function
 co:sc.isCoroutine=false
 gen:sc.isGenerator=false
 nd:N.Nodup
 pre:N.take P.length=P
 par:∀x∈P,sc.names.lookup x=some .local∨sc.names.lookup x=some .cell
 aef:∀y∈sc.names,y.2≠ .free
def Me{kindOf:Str->Option jR}{x:Str}:∀{binds:List (Str×aC)} {m:Str->Option aC},(∀v,(x,v)∉binds)->UO kindOf binds m x=m x
 |[],_,_=>rfl
 |(n,v)::r,m,h=>by
  unfold UO;rw[Me λw hw=>h w<|aV _ hw];split
  .have:x≠n:=by rintro rfl;exact h v bz
   simp[this]
  .rfl
def Mb{kindOf:Str->Option jR}{x:Str}:∀{binds:List (Str×aC)} {m:Str->Option aC},(∀v,(x,v)∉binds)->UN kindOf binds m x=m x
 |[],_,_=>rfl
 |(n,v)::r,m,h=>by
  unfold UN;rw[Mb λw hw=>h w<|aV _ hw];split
  .rfl
  .have:x≠n:=by rintro rfl;exact h v bz
   simp[this]
def Mc{kindOf:Str->Option jR}{x:Str}{v:aC}:∀{P:List Str} {S:List aC} {i:Nat} {m:Str->Option aC},P.Nodup->P[i]? =some x->S[i]? =some v->kindOf x=some .local->UO kindOf (P.zip S) m x=some v
 |[],_,_,_,_,h,_,_=>by simp at h
 |_::_,[],_,_,_,_,h,_=>by simp at h
 |p::P,w::S,0,m,nd,G,h2,hk=>by
  simp at G h2;subst G;subst h2;show UO kindOf ((p,w)::P.zip S) m p=_;unfold UO;rw[Me λv hv=>(iS.mp nd).1 (Ik hv).1,aG hk];simp
 |p::P,w::S,i+1,m,nd,G,h2,hk=>by
  show UO kindOf ((p,w)::P.zip S) m x=_;unfold UO;exact Mc (i:=i) (iS.mp nd).2 (~~~G) (~~~h2) hk
def Ma{kindOf:Str->Option jR}{x:Str}{v:aC}:∀{P:List Str} {S:List aC} {i:Nat} {m:Str->Option aC},P.Nodup->P[i]? =some x->S[i]? =some v->kindOf x≠some .local->UN kindOf (P.zip S) m x=some v
 |[],_,_,_,_,h,_,_=>by simp at h
 |_::_,[],_,_,_,_,h,_=>by simp at h
 |p::P,w::S,0,m,nd,G,h2,hk=>by
  simp at G h2;subst G;subst h2;show UN kindOf ((p,w)::P.zip S) m p=_;unfold UN;rw[Mb λv hv=>(iS.mp nd).1 (Ik hv).1,az hk];simp
 |p::P,w::S,i+1,m,nd,G,h2,hk=>by
  show UN kindOf ((p,w)::P.zip S) m x=_;unfold UN;exact Ma (i:=i) (iS.mp nd).2 (~~~G) (~~~h2) hk
def start(N:List Str)(S:List V):St:=S.map some++fC (N.length-S.length) none
noncomputable def jF(CX:Za)(P:eL)(w:gH)(K:aJ)(mg:Str->Option aC)(base:eZ)(N:List Str)(qual:Str)(scope:qL)(f:O)(cd:aC)(A:gZ)(outer:List Env)(s:aP)(H:Hp)(E:XK):Cx where
 prog:=P
 w:=w
 K:=K
 mg:=mg
 base:=base
 A:=A.deeper (envOfC qual scope s.heap.objs.size f cd)
 N:=N
 Hx:=s
 H_0:=H
 env:=envOfC qual scope s.heap.objs.size f cd
 outer:=outer
 stack:=envOfC qual scope s.heap.objs.size f cd::outer
 ex:=[]
 calm:=true
 fn:= λ_=>true
 pn:=[]
 xe:= λe s'=>wpAny (model P w) (A.deeper<|envOfC qual scope s.heap.objs.size f cd) (leaving (envOfC qual scope s.heap.objs.size f cd) e) (λ_ s''=>CX outer H s E e s'') (λe' s''=>CX outer H s E e' s'') s'
def Pa{sc:qL}(h:sc.names.lookup x=some .cell):∃c,(cellsFrom n sc.names []).lookup x=some c:=by
 have q:=L0 sc.names n []<|.inl h;exact Lg.mp q
theorem Vf{cd:aC}{s1:aP}{E:XK} (atE:aZ N ps scope)(hd:A.handled=none)(e0:Ro P w K mg base A outer s H)(hl:S.length=ps.length)(r:Vals S us) (x:InCallC s s.heap.objs.size (UO (envOfC qual scope s.heap.objs.size f cd).kindOf (ps.zip us) λ_=>none) (cellsFrom (s.heap.objs.size+1) scope.names []) (UN (envOfC qual scope s.heap.objs.size f cd).kindOf (ps.zip us) λ_=>none) s1):Inv (jF CX P w K mg base N qual scope f cd A outer s H E) [] (start N S) H s1:=by
 have yc:ps.length<=N.length:=by have:=congrArg jc atE.pre;rw[dW]at this;lia
 let⟨G,tk,rfl,hk⟩:=x.done;have noA:∀b:O,b∉(jF CX P w K mg base N qual scope f cd A outer s H E).ex:= λb z=>absurd (show b∈([]:List O)from z) 's';refine⟨⟨e0.mod,atE.kind,Y,Y,aT _,λy z c G h2=>?_,λy hy=>?_,λy c _ h=>?_,λ_=>hd,gZ.frames_deeper e0.frames,.inr ⟨Y,Y⟩,λb z=>absurd z<|noA b,e0.bs,e0.WH,λb _ _=>noA b,λb z=>absurd z<|noA b,e0.Cj,e0.ZZ⟩,rfl,e0.bare,Un.kept hk,⟨_,x.toInCall.ns,λi y v G h2 h3=>?_⟩,λy c h=>⟨_,x.cell y c h⟩,e0.fQ.fresh<|aT _,λy c h=>?_,λp hp=>absurd (show p∈([]:List<|O×Obj)from hp) 's',e0.fQ.kept hk,?_⟩
 .exact name_of_addr x.apart (c9 G) (c9 h2)
 .have hy:scope.names.lookup y=some .cell∨scope.names.lookup y=some .free:=hy;rcases hy with hy|hy
  .exact Pa hy
  .exact absurd Y (atE.aef _<|c9 hy)
 .exact kL (x.above y c<|c9 h)
 .have hi:i<S.length:=by
   unfold start at h2;by_cases hi:i<S.length
   .exact hi
   .rw[dM<|~~~hi]at h2;rw[nR]at h2;split at h2<;>cases h2
  have ha:S[i]? =some v:=by
   unfold start at h2;rw[bX<|~~~hi,aH]at h2;cases e:S[i]?with
   |none=>rw[e]at h2;cases h2
   |some a=>rw[e]at h2;cases h2;rfl
  let⟨u,hu,rv⟩:=r.get ha;have hp:ps[i]? =some y:=by
   rw[←atE.pre,M6 'l'];exact G
  have ndP:ps.Nodup:=by rw[←atE.pre];exact atE.nd.sublist (List.take_sublist _ _)
  calc⟨u,rv,?_⟩;rcases atE.par y (bf hp)with k|k
  .exact .inl ⟨k,Mc ndP hp hu k⟩
  .let⟨c,e⟩:=Pa (n:=s.heap.objs.size+1) k;calc .inr ⟨.inl k,c,e,?_⟩;have q:=x.cell y c e;rw[Ma ndP hp hu<|by show scope.names.lookup y≠_;rw[k];decide]at q;exact q
 .exact e0.fQ.fresh (kL<|x.above y c<|c9 h)
 .unfold start;show _=N.length;rw[ak,ai,pN]
  lia
def abT{Wu:Arguments}{dV kV doc pm fG ct oc:aC}{an od:Option O} {osl:Array (Option aC)}(lk:K.lookup f=some ⟨oc,od,.func<|jZ name qual Wu body scope dV kV doc pm an fG ct,osl⟩)(Zi:vD K fG qual=true)(atE:aZ N ps scope) (len:∀S H Q E,sp S H Q E->S.length=ps.length) (Dh:∀(A:gZ) (outer:List Env) (s:aP) (H:Hp) (S:List V) (Q:VK) (E:XK),ia k (A.deeper<|envOfC qual scope s.heap.objs.size f fG)->sp S H Q E->∃t,OR (jF CX P w K mg base N qual scope f fG A outer s H E) body t/\t {nx:= λ_ U=>Q .gQ U,rt:=Q} (start N S) H):nQ P w K mg base CX (k+1) f (jZ name qual Wu body scope dV kV doc pm an fG ct) ps sp:=by
 calc⟨len,λA outer s H args us S Q E hr e0 hb r Tq=>?_⟩;have hl:=len _ _ _ _ Tq;have KX:K.In s.heap:=e0.mod.kin.keeps λb o e=>(e0.bs b o e).1;have lim:s.heap.NoLimit:=e0.mod.nolimit.keeps λb o e=>(e0.bs b o e).1;have ahr:∀y∈ps.zip us,scope.names.lookup y.1=some .local∨(scope.names.lookup y.1=some .cell/\((cellsFrom (s.heap.objs.size+1) scope.names []).lookup y.1).isSome=true):= λ⟨n,v⟩ hy=>by
  rcases atE.par n (Ik hy).1 with q|q
  .exact .inl q
  .exact .inr ⟨q,L0 _ _ _<|.inl q⟩
 calc codeAny_call_function hr.depth (KX _ _ lk) Y atE.co atE.gen Y (PySem.W.codeRec_of KX Zi)<|hb _ _ _ _ ?_;calc wpAny_newFunctionEnv_cells atE.kind ahr λenv he s1 x=>?_;subst he;calc⟨lim.keeps x.toInCall.keep,codeAny_func ?_⟩;let⟨t,ht,hq⟩:=Dh A outer s H S Q E (hr.deeper _) Tq;have I:Inv (jF CX P w K mg base N qual scope f fG A outer s H E) [] (start N S) H s1:=Vf atE hr.hd e0 hl r x;calc fF (ht [] s1 (start N S) H _ I hq) (λfl s' hs=>?_) λe s' hs=>hs;have fin:∀{σ':St} {U:Hp} {v:V} {u:aC},Inv (jF CX P w K mg base N qual scope f fG A outer s H E) [] σ' U s'->RelV v u->Q v U->CE outer P w H s Q u s':= λ{σ' U v u} atD rv q=>⟨v,U,atD.os,atD.bare,atD.base,atD.fQ,rv,q⟩;cases fl with
 |ret u=>
  obtain⟨v,σ',U,atD,rv,q⟩:=hs;exact fin atD rv q
 |next=>
  obtain⟨σ',U,atD,q⟩:=hs;exact fin (v:=V.gQ) (u:=f9) atD Y q
 |brk=>
  let⟨_,_,_,q⟩:=hs;exact dY q
 |cont=>
  let⟨_,_,_,q⟩:=hs;exact dY q
section
variable{t:TA} {id T:String} {r:List V->Hp->VK->Prop}
def tCB(r:List V->Hp->VK->Prop)(t:TA):TE:= λZ H Q=>t Z H λS L=>r S L Q
def cy(hc:uK X (.builtin id) r)(hg:Gl X x)(hm:X.mg x=none)(hv:ny x=some (.builtin id))(ha:PA X (e::es) t)(hn:x≠"__name__":=by decide)(ER:(x==("__debug__":Str))=false:=by decide) (he:starEach (e::es) X.env=(false,eval e X.env)::starEach es X.env:=by rfl)(yc:(backTo pos<|starEach es X.env).any (·.1)=false:=by rfl):PE X (.Call (.Name x p) (e::es) [] pos)<|tCB r t:=by
 intro aB s Z H Q I h;calc eV<|yC I hg hm hv ?_ hn ER;exact af4 (iz (ha pos aB s Z H _ I h)<|by rintro us s1 ⟨S,L,I1,r1,q1⟩;exact hc aB s1 Z L S us Q I1 r1 q1) he yc
def rB(hc:uK X (.type T) r)(hg:Gl X x)(hm:X.mg x=none)(hv:ny x=some (.type T))(ha:PA X (e::es) t)(hn:x≠"__name__":=by decide)(ER:(x==("__debug__":Str))=false:=by decide) (he:starEach (e::es) X.env=(false,eval e X.env)::starEach es X.env:=by rfl)(yc:(backTo pos<|starEach es X.env).any (·.1)=false:=by rfl):PE X (.Call (.Name x p) (e::es) [] pos)<|tCB r t:=by
 intro aB s Z H Q I h;calc eV<|yC I hg hm hv ?_ hn ER;exact fq (iz (ha pos aB s Z H _ I h)<|by rintro us s1 ⟨S,L,I1,r1,q1⟩;exact hc aB s1 Z L S us Q I1 r1 q1) he yc
end
end L2
namespace HT
open PySem PyProof.Rows
variable{sl:O} {A:gZ} {lo hi:Option Int} {prog:eL} {s:aP} {vl vu:aC} {E:aC->aP->Prop} {w:gH}
def pM(n d:Nat):Option Int->Nat
 |none=>d
 |some v=>if v<0 then(v+(n:Int)).toNat else min v.toNat n
def J7(n d:Nat):pM n d none=d:=rfl
theorem oz(n d k:Nat):pM n d (some (k:Int))=min k n:=by
 show(if(k:Int)<0 then((k:Int)+(n:Int)).toNat else min (k:Int).toNat n)=min k n;rw[az 'l',iR]
theorem aeD(n d:Nat)(hd:d<=n)(o:Option Int):pM n d o<=n:=by
 cases o with
 |none=>exact hd
 |some v=>
  show(if v<0 then(v+(n:Int)).toNat else min v.toNat n)<=n;by_cases hv:v<0
  .rw[aG hv];lia
  .rw[az hv];exact Nat.min_le_right _ _
theorem S7(v:Int)(n d:Nat):(if v<0 then max (v+(n:Int)) 0 else min v (n:Int))=((pM n d (some v):Nat):Int):=by
 show(if v<0 then max (v+(n:Int)) 0 else min v (n:Int))=(((if v<0 then(v+(n:Int)).toNat else min v.toNat n):Nat):Int);by_cases hv:v<0
 .simp only[aG hv];lia
 .simp only[az hv];lia
def Rr(lo hi:Option Int)(n:Nat):qj lo hi 1 (n:Int)=(((pM n 0 lo:Nat):Int),((pM n n hi:Nat):Int)):=by
 have G:¬((1:Int)<0):='o'
 unfold qj;simp only[G,UP];refine aj3 ?_ ?_
 .cases lo with
  |none=>rfl
  |some v=>exact S7 v n 0
 .cases hi with
  |none=>rfl
  |some v=>exact S7 v n n
theorem Sh(i j:Nat):kX (i:Int) (j:Int) 1=j-i:=by
 unfold kX;have G:(1:Int)>0:='l'
 simp only[G,OP,Int.ediv_one];split<;>lia
def Ky{v:aC}{o:Option Int}{Q:Option Int->aP->Prop}(p:LZ v o)(h:Q o s):wpAny (model prog w) A (afe v) Q E s:=by
 cases p with
 |none=>exact ai6 h
 |int i t=>exact slicePart_int h
def Fv{n:Nat}{Q:Int×Int×Nat->aP->Prop}(hs:s.heap.IsSliceOf sl vl vu .none)(pl:LZ vl lo)(pu:LZ vu hi) (h:Q (((pM n 0 lo:Nat):Int),1,pM n n hi-pM n 0 lo) s):wpAny (model prog w) A (CQ (.ref sl)<|pure (n:Int)) Q E s:=by
 let⟨os,hos,hcs,hds⟩:=id hs;unfold CQ afd;calc aQ<|aQ<|lG hos hds (x:=vl) Y<|aQ<|lG hos hds (x:=vu) Y<|aQ<|lG hos hds (x:= .none) Y<|bS ?_;calc aQ<|ai6 ?_;show wpAny _ _ (if((1:Int)==0)=true then _ else _) _ _ s;rw[az 'd'];calc aQ<|Ky pl<|aQ<|Ky pu<|aQ<|bS ?_;show wpAny _ _ (match qj lo hi 1 (n:Int)with|(lo,hi)=>pure (lo,(1:Int),kX lo hi 1)) _ _ s;rw[Rr lo hi n];show wpAny _ _ (pure (((pM n 0 lo:Nat):Int),(1:Int),kX ((pM n 0 lo:Nat):Int) ((pM n n hi:Nat):Int) 1)) _ _ s;rw[Sh];exact bS h
theorem XW(xs:Array aC)(i k:Nat):((fh k).filterMap λ(m:Nat)=>xs[((i:Int)+(m:Int)*1).toNat]?).toArray=((xs.toList.drop i).take k).toArray:=by
 have e:(λ(m:Nat)=>xs[((i:Int)+(m:Int)*1).toNat]?)= λm=>xs[i+m]? :=by
  funext m;have:((i:Int)+(m:Int)*1).toNat=i+m:='l'
  rw[this]
 rw[e];have:=pick_run xs i k;rw[List.filterMap_map]at this;have e2:((λx=>xs[x]?)∘λx=>i+x)= λm=>xs[i+m]? :=rfl;rw[e2]at this;rw[this]
def Dd{t:O}{items:Array aC}{Q:aC->aP->Prop}(ht:IsTup s.heap t items)(hs:s.heap.IsSliceOf sl vl vu .none)(pl:LZ vl lo)(pu:LZ vu hi) (hw:¬(pM items.size 0 lo=0/\pM items.size items.size hi=items.size)) (h:Q (.ref s.heap.objs.size) {s with heap:=s.heap.push {cls:= .type "tuple",data:= .seq ((items.toList.drop<|pM items.size 0 lo).take (pM items.size items.size hi-pM items.size 0 lo)).toArray} }) (hsz:items.size<=sizeLine):wpAny (model prog w) A (getItem (.ref t)<|.ref sl) Q E s:=by
 have Tt:sizeOk<|.seq ((items.toList.drop<|pM items.size 0 lo).take (pM items.size items.size hi-pM items.size 0 lo)).toArray:=by
  show((items.toList.drop<|pM items.size 0 lo).take (pM items.size items.size hi-pM items.size 0 lo)).toArray.size<=sizeLine;rw[bG,dW,bN,jK];omega
 have hj:pM items.size items.size hi<=items.size:=aeD _ _ (aT _) hi;let⟨os,hos,hcs,hds⟩:=id hs;have hTs:s.TypeIs (.ref sl) "slice":=⟨os,hos,hcs⟩;unfold getItem;try with_reducible refine S2 ?_
 first|refine aQ (bS ?_)|skip
 calc aQ (wpAny_sequenceKey ht.typeIs 'd' ?_);calc aQ<|wpAny_callSpecial?_slot (name:=sA "__getitem__") ht.typeIs j9<|afy j9 ht.typeIs entry_tuple_getitem ?_<|args_tuple_getitem _ _;show wpAny _ _ (afg (.ref t)>>=_) _ _ s;calc aQ<|tupleItemsOf_ ht ?_;calc aQ<|K7 hTs ?_;rw[aG 'd'];calc aQ<|Fv hs pl pu ?_;have hno:¬((((pM items.size 0 lo:Nat):Int)==0&&(1:Int)==1&&(pM items.size items.size hi-pM items.size 0 lo)==items.size)=true):=by
  intro q;rw[bI,bI]at q;have q1:((pM items.size 0 lo:Nat):Int)=0:=eq_of_beq q.1.1;have q2:pM items.size items.size hi-pM items.size 0 lo=items.size:=eq_of_beq q.2;exact hw ⟨'o','o'⟩
 show wpAny _ _ (if(((pM items.size 0 lo:Nat):Int)==0&&(1:Int)==1&&(pM items.size items.size hi-pM items.size 0 lo)==items.size)=true then _ else _) _ _ s;rw[az hno,XW];first
  |exact aQ (m:=lM _) (jT (bS ⟨_,rfl,bS h⟩) Tt)
  |exact aQ (m:=lM _) (jT (aQ (bS (bS ⟨_,rfl,bS h⟩))) Tt)
  |exact aQ (aQ (m:=lM _) (jT (bS (bS ⟨_,rfl,bS h⟩)) Tt))
  |exact aQ (aQ (m:=lM _) (jT (bS ⟨_,rfl,bS h⟩) Tt))
end HT
namespace L2
open PySem PySem.Spec PyProof.Rows
abbrev TO:=St->Hp->(Option Int->Hp->Prop)->Prop
def PO(X:Cx)(e:Option Expr)(t:TO):Prop:=∀(aB:List<|O×Obj) (s:aP) (Z:St) (H:Hp) (Q:Option Int->Hp->Prop),Inv X aB Z H s->t Z H Q->wpAny (model X.prog X.w) X.A (evalPart e X.env) (λu s'=>∃o U,Inv X aB Z U s'/\LZ u o/\Q o U) X.xe s
def Ut:TO:= λ_ H Q=>Q none H
def Qx(t:TE):TO:= λZ H Q=>t Z H λx L=>∃i,x= .int i/\Q (some i) L
variable{a l D:O} {A:gZ} {X:Cx} {env:Env} {e b G7 iter tg value:Expr} {ob:HO} {h':eZ} {H L U:Hp} {Qd:Hp->Prop} {i:Int} {aB:List (O×Obj)} {kvs:List (List Key×V)} {own:List (Str×Nat)} {trs:List (TE×TE)} {Eu agq:List Expr} {S:List Nat} {xs ys:List V} {us d7:List aC} {M:acG} {n j t' kk:Nat} {lo hi:Option Expr} {o:Option V} {pos p2 rF py abj:Pos} {prog P:eL} {scope sc:qL} {s:aP} {Z:St} {T:String} {te ta tb tv:TE} {g:TG} {wi:TI} {tl th:TO} {tt:TT} {α κ:Type} {x y:V} {r u v:aC} {Q E:aC->aP->Prop} {w:gH}
def Ib:PO X none Ut:=by
 intro aB s Z H Q I h;rw[akj];exact bS ⟨none,H,I,.none,h⟩
def mU(h:PE X e te):PO X (some e)<|Qx te:=by
 intro aB s Z H Q I hw;rw[evalPart_some];calc iz (h aB s Z H _ I hw) ?_;rintro u s1 ⟨x,L,I1,r1,q1⟩;let⟨i,rfl,q⟩:=q1;let⟨t,rfl⟩:=r1;exact⟨some i,L,I1,.int i t,q⟩
def SlR(X:Cx)(r:V->Option Int->Option Int->Hp->VK->Prop):Prop:=∀(aB:List<|O×Obj) (s:aP) (Z:St) (H:Hp) (x:V) (v vl vu:aC) (lo hi:Option Int) (sl:O) (Q:VK),Inv X aB Z H s->RelV x v->s.heap.IsSliceOf sl vl vu .none->LZ vl lo->LZ vu hi->r x lo hi H Q->∃T id,lN (.type T) "__getitem__"=pure (some<|.builtin id)/\s.TypeIs v T/\wpAny (model X.prog X.w) X.A (getItem v<|.ref sl) (EP X aB Z Q) X.xe s
def tSl(r:V->Option Int->Option Int->Hp->VK->Prop)(te:TE)(tl th:TO):TE:= λZ H Q=>te Z H λx L=>tl Z L λl H2=>th Z H2 λu H3=>r x l u H3 Q
def p5{r:V->Option Int->Option Int->Hp->VK->Prop}(hr:SlR X r)(he:PE X e te)(hl:PO X lo tl)(hu:PO X hi th):PE X (.Subscript e (.Slice lo hi none p2) pos)<|tSl r te tl th:=by
 intro aB s Z H Q I h;calc abx<|iz (he aB s Z H _ I h) ?_;rintro v s1 ⟨x,L,I1,r1,q1⟩;calc wpAny_Slice<|iz (hl aB s1 Z L _ I1 q1) ?_;rintro vl s2 ⟨l,H2,I2,pl,q2⟩;calc iz (hu aB s2 Z H2 _ I2 q2) ?_;rintro vu s3 ⟨u,H3,I3,pu,q3⟩;rw[akj];calc bS ?_;have I4:Inv X aB Z H3 {s3 with heap:=s3.heap.push {cls:= .type "slice",data:= .fields #[vl,vu,.none]} }:=I3.kept (t':=s3.toks) λb ob q=>aS _ q;let⟨T,id,hT,ht,hg⟩:=hr aB {s3 with heap:=s3.heap.push {cls:= .type "slice",data:= .fields #[vl,vu,.none]} } Z H3 x v vl vu l u s3.heap.objs.size Q I4 r1 (acF ..) pl pu q3;show wpAny (model X.prog X.w) X.A (subscriptTail e (.Slice lo hi none p2) v<|.ref s3.heap.objs.size) (EP X aB Z Q) X.xe {s3 with heap:=s3.heap.push {cls:= .type "slice",data:= .fields #[vl,vu,.none]} };exact tail_any (ops:=[.ref s3.heap.objs.size,v]) ht hT hg (by with_unfolding_all rfl)
def uO(xs:List V)(lo hi:Option Int):List V:=(xs.drop<|HT.pM xs.length 0 lo).take (HT.pM xs.length xs.length hi-HT.pM xs.length 0 lo)
def FW(xs:List V)(lo hi:Option Int):(uO xs lo hi).length<=xs.length:=by
 unfold uO;rw[dW,bN];omega
def aip(K:aJ):V->Option Int->Option Int->Hp->VK->Prop:= λx lo hi H Q=>∃a xs,x= .ref a/\oS K H a xs/\¬(HT.pM xs.length 0 lo=0/\HT.pM xs.length xs.length hi=xs.length)/\∀p,H p=none->Q (.ref p) (upd H p<|.tup<|uO xs lo hi)
def aeE:SlR X<|aip X.K:=by
 intro aB s Z H x v vl vu lo hi sl Q I rx hs pl pu h;let⟨a,xs,rfl,hx,hw,q⟩:=h;cases rx;let⟨d7,r,ht,hz⟩:=I.tuple hx;have xQ:d7.toArray.size=xs.length:=by rw[bG];exact r.length.symm
 calc⟨"tuple",_,j9.lookup,ht.typeIs,?_⟩;calc HT.Dd ht hs pl pu (by rw[xQ];exact hw) ?_ (by rw[xQ];exact hz);rw[xQ];calc⟨.ref s.heap.objs.size,_,I.laid (t':=s.toks) (o:= .tup<|uO xs lo hi) (λb ob q=>aS _ q) (aT _) ?_,Y,q _<|I.fQ.fresh<|aT _⟩;exact⟨bH (FW xs lo hi) hz,_,(r.drop<|HT.pM xs.length 0 lo).take (HT.pM xs.length xs.length hi-HT.pM xs.length 0 lo),IsTup.new _ _⟩
def ixN(n:Nat)(i:Int):Option Nat:=if 0<=i then(if i<n then some i.toNat else none)else if-(n:Int)<=i then some (i+n).toNat else none
def UX{α:Type}(xs:List α)(i:Int):Option α:=(ixN xs.length i).bind λj=>xs[j]?
theorem aaa(h:ixN n i=some j):seqIndex? i n=some j/\j<n/\ -(n:Int)<=i/\i<n:=by
 unfold ixN at h;by_cases h0:0<=i
 .rw[aG h0]at h;by_cases G:i<n
  .rw[aG G]at h;have e:i.toNat=j:=aL h;exact⟨by rw[seqIndex_of h0 G,e],'l','l',G⟩
  .rw[az G]at h;cases h
 .rw[az h0]at h;by_cases G: -(n:Int)<=i
  .rw[aG G]at h;have e:(i+n).toNat=j:=aL h;exact⟨by rw[am1 'l' G,e],'l',G,'l'⟩
  .rw[az G]at h;cases h
def Nl{xs:List α}{v:α}(h:UX xs i=some v):∃j,seqIndex? i xs.length=some j/\xs[j]? =some v/\j<xs.length/\ -(xs.length:Int)<=i/\i<xs.length:=by
 unfold UX at h;cases e:ixN xs.length i with
 |none=>rw[e]at h;cases h
 |some j=>
  rw[e]at h;let⟨G,h2,h3,h4⟩:=aaa e;exact⟨j,G,h,h2,h3,h4⟩
theorem cJ{xs:List α}{v:α}(h:xs[j]? =some v):UX xs (j:Int)=some v:=by
 have hj:j<xs.length:=(au.mp h).1;have e:ixN xs.length (j:Int)=some j:=by
  unfold ixN;rw[aG 'l',aG 'l'];simp
 unfold UX;rw[e];exact h
def ZI(b:Expr):Prop:=∀o i,subscripted b false o i=operate [o,i] (getItem o i)
def IxR(X:Cx)(r:R2):Prop:=∀(value AU:Expr) (aB:List<|O×Obj) (s:aP) (Z:St) (H:Hp) (x y:V) (v u:aC) (Q:VK),Inv X aB Z H s->RelV x v->RelV y u->r x y H Q->subscripted AU false v u=operate [v,u] (getItem v u)->wpAny (model X.prog X.w) X.A (subscriptTail value AU v u) (EP X aB Z Q) X.xe s
def ZH(X:Cx)(id:String)(r:V->List V->Hp->VK->Prop):Prop:=∀(aB:List<|O×Obj) (s:aP) (Z:St) (H:Hp) (x:V) (xs:List V) (v:aC) (us:List aC) (Q:VK),Inv X aB Z H s->RelV x v->Vals xs us->r x xs H Q->wpAny (model X.prog X.w) X.A (call (.builtin id)<|v::us) (EP X aB Z Q) X.xe s
section
variable{a:Expr}
def dj{r:R2}(hr:IxR X r)(ha:PE X a ta)(hb:PE X b tb)(hs:ZI b):PE X (.Subscript a b pos)<|Ox r ta tb:=by
 intro aB s Z H Q I h;exact abx (ac0 ha hb I h λv u s2 x y H2 I2 rx ry q=>hr a b aB s2 Z H2 x y v u Q I2 rx ry q<|hs _ _)
inductive aaK (K:aJ) (x:V) (y:V) (H:Hp) (Q:VK):Prop
 |mk (p xs i v:_) (k0:x= .ref p) (k1:y= .int i) (k2:cP K H p xs) (k3:UX xs i=some v) (k4:Q v H)
end
variable{K:aJ}
section
variable{a:Expr}
def Ud{Q:VK}:aaK K x y H Q=∃p xs i v,x= .ref p/\y= .int i/\cP K H p xs/\UX xs i=some v/\Q v H:=propext ⟨λ⟨p,xs,i,v,a,b,c,d,e⟩=>⟨p,xs,i,v,a,b,c,d,e⟩,λ⟨p,xs,i,v,a,b,c,d,e⟩=>⟨p,xs,i,v,a,b,c,d,e⟩⟩
inductive aew (K:aJ) (x:V) (y:V) (H:Hp) (Q:VK):Prop
 |mk (p xs i v:_) (k0:x= .ref p) (k1:y= .int i) (k2:oS K H p xs) (k3:UX xs i=some v) (k4:Q v H)
def ain:R2:= λx y H Q=>∃z i c,x= .str z/\y= .int i/\z.length<=sizeLine/\UX z.cps.toList i=some c/\Q (.str ⟨#[c]⟩) H
theorem ck:IxR X<|aaK X.K:=by
 intro value AU aB s Z H x y v u Q I rx ry h hs;let⟨p,xs,i,z,rfl,rfl,hq,he,q⟩:=h;cases rx;let⟨t,rfl⟩:=ry;let⟨d7,r,pl,hz⟩:=I.list hq;let⟨j,G,h2,h3,h4,h5⟩:=Nl he;let⟨w,ew,m8⟩:=r.get h2;have hl:=r.length;have hn:=Jk;have fin:EP X aB Z Q w s:=⟨z,H,I,m8,q⟩;by_cases h0:0<=i
 .have hj:i.toNat=j:=by
   rw[seqIndex_of h0 h5]at G;exact aL G
  exact item_listR pl.isList h0 'l' (by rw[hj];simpa using ew) fin hs
 .have hj:(i+(d7.toArray.size:Int)).toNat=j:=by
   rw[am1 'l' h4]at G;rw[bG,←hl];exact aL G
  exact V3 (x:=w) pl.isList.typeIs acN.lookup (wpAny_getItem_list_neg (Q:= λr s'=>r=w/\EP X aB Z Q r s') pl.isList 'l' (by rw[bG]<;>lia) 'l' (by rw[hj];simpa using ew) ⟨Y,fin⟩) hs
theorem pC:IxR X<|aew X.K:=by
 intro value AU aB s Z H x y v u Q I rx ry h hs;let⟨p,xs,i,z,rfl,rfl,hq,he,q⟩:=h;cases rx;let⟨t,rfl⟩:=ry;let⟨d7,r,pl,hz⟩:=I.tuple hq;let⟨j,G,h2,h3,h4,h5⟩:=Nl he;let⟨w,ew,m8⟩:=r.get h2;have hl:=r.length;have hn:=Jk;have fin:EP X aB Z Q w s:=⟨z,H,I,m8,q⟩;exact V3 (x:=w) pl.typeIs j9.lookup (getItem_tuple (j:=j) (Q:= λr s'=>r=w/\EP X aB Z Q r s') pl 'l' 'l' (by rw[bG,←hl];exact G) (~~~ew) ⟨Y,fin⟩) hs
theorem RN:IxR X ain:=by
 intro value AU aB s Z H x y v u Q I rx ry h hs;let⟨z,i,c,rfl,rfl,hz,he,q⟩:=h;let⟨t,rfl⟩:=rx;let⟨t',rfl⟩:=ry;let⟨j,G,h2,h3,h4,h5⟩:=Nl he;have hl:z.cps.toList.length=z.length:=by simp[ajb]
 rw[hl]at G h4 h5;have hn:=Jk;exact tail_any (QS s z t) slot_str_getitem.lookup (getItem_str (c:=c) (by
  have e1:decide (i< -(2^63:Int))=false:=bB 'l';have e2:decide (i≥2^63)=false:=bB 'l';rw[e1,e2,mW]) (by rw[G];simpa using h2) ⟨.str ⟨#[c]⟩,H,I.tok _,⟨_,Y⟩,q⟩) hs
theorem Ot(lo hi:Option Int)(n:Nat):(sC lo hi none n).1=((HT.pM n 0 lo:Nat):Int)/\(sC lo hi none n).2.1=((HT.pM n n hi:Nat):Int)/\(sC lo hi none n).2.2=1:=by
 refine⟨?_,?_,Y⟩
 .cases lo with
  |none=>simp[sC,HT.pM]
  |some i=>
   simp only[sC,HT.pM,UK,show(1:Int)>0 by decide,OP];by_cases h:i<0
   .simp only[h,OP]<;>lia
   .simp only[h,UP]<;>lia
 .cases hi with
  |none=>simp[sC,HT.pM]
  |some i=>
   simp only[sC,HT.pM,UK,show(1:Int)>0 by decide,OP];by_cases h:i<0
   .simp only[h,OP]<;>lia
   .simp only[h,UP]<;>lia
def LN(d7:List aC)(lo hi:Option Int):slicePick d7.toArray lo hi none=((d7.drop<|HT.pM d7.length 0 lo).take (HT.pM d7.length d7.length hi-HT.pM d7.length 0 lo)).toArray:=by
 let⟨G,h2,h3⟩:=Ot lo hi d7.toArray.size;unfold slicePick;rw[G,h2,h3];simp only[sliceRange_one,pick_run,bG]<;>rfl
def aex(K:aJ):V->Option Int->Option Int->Hp->VK->Prop:= λx lo hi H Q=>∃a xs,x= .ref a/\cP K H a xs/\∀p,H p=none->Q (.ref p) (upd H p<|.lst<|uO xs lo hi)
theorem wm:SlR X<|aex X.K:=by
 intro aB s Z H x v vl vu lo hi sl Q I rx hs pl pu h;let⟨a,xs,rfl,hx,q⟩:=h;cases rx;let⟨d7,r,ht,hz⟩:=I.list hx;have xQ:=r.length;calc⟨"list",_,acN.lookup,ht.isList.typeIs,?_⟩;calc wpAny_getItem_list_slice ht.isList hs pl pu .none 's' ?_ (by rw[bG]<;>lia);rw[LN,←xQ];calc⟨.ref s.heap.objs.size,_,I.laid (t':=s.toks) (o:= .lst<|uO xs lo hi) (λb ob q=>aS _ q) (aT _) ?_,Y,q _<|I.fQ.fresh<|aT _⟩;exact⟨bH (FW xs lo hi) hz,_,0,(r.drop<|HT.pM xs.length 0 lo).take (HT.pM xs.length xs.length hi-HT.pM xs.length 0 lo),bZ _ Y⟩
def sY:V->Bool
 | .gQ=>true
 | .bl _=>true
 | .int _=>true
 | .str _=>true
 |_=>false
noncomputable def QZ:V->V->Bool
 | .gQ,.gQ=>true
 | .bl a,.bl b=>a==b
 | .bl a,.int b=>(if a then 1 else 0)==b
 | .int a,.bl b=>a==(if b then 1 else 0)
 | .int a,.int b=>a==b
 | .str a,.str b=>a==b
 |_,_=>false
def adg(ry:RelV y u)(rx:RelV x v)(fy:sY y=true)(fx:sY x=true):afq A s u v<|QZ y x:=by
 cases y with
 |gQ=>
  cases ry;cases x with
  |gQ=>cases rx;exact ake _
  |bl b=>cases rx;exact akb b
  |int b=>let⟨t,rfl⟩:=rx;exact akc b t
  |str b=>let⟨t,rfl⟩:=rx;exact akd b t
  |_=>exact absurd (show false=true from fx) bJ
 |bl a=>
  cases ry;cases x with
  |gQ=>cases rx;exact aj6 a
  |bl b=>cases rx;exact aj4 a b
  |int b=>let⟨t,rfl⟩:=rx;exact aj5 a b t
  |str b=>let⟨t,rfl⟩:=rx;exact aj7 a b t
  |_=>exact absurd (show false=true from fx) bJ
 |int a=>
  let⟨t',rfl⟩:=ry;cases x with
  |gQ=>cases rx;exact aka a t'
  |bl b=>cases rx;exact aj8 a t' b
  |int b=>let⟨t,rfl⟩:=rx;exact aj9 a t' b t
  |str b=>let⟨t,rfl⟩:=rx;exact M9 a t' b t
  |_=>exact absurd (show false=true from fx) bJ
 |str a=>
  let⟨t',rfl⟩:=ry;cases x with
  |gQ=>cases rx;exact akg a t'
  |bl b=>cases rx;exact akf a t' b
  |int b=>let⟨t,rfl⟩:=rx;exact Na a t' b t
  |str b=>let⟨t,rfl⟩:=rx;exact akh a t' b t
  |_=>exact absurd (show false=true from fx) bJ
 |_=>exact absurd (show false=true from fy) bJ
noncomputable def QY(x:V)(u:aC):Bool:=match u with
 | .none=>QZ .gQ x
 | .bool b=>QZ (.bl b) x
 | .int i _=>QZ (.int i) x
 | .str z _=>QZ (.str z) x
 |_=>false
def Ny(r:RelV y u)(f:sY y=true):QY x u=QZ y x:=by
 cases y with
 |gQ=>cases r;rfl
 |bl b=>cases r;rfl
 |int i=>let⟨t,rfl⟩:=r;rfl
 |str z=>let⟨t,rfl⟩:=r;rfl
 |_=>exact absurd (show false=true from f) bJ
def C5{x:V}:∀{xs:List V} {us:List aC},Vals xs us->xs.all sY=true->us.any (QY x)=xs.any λy=>QZ y x
 |_,_,.nil,_=>rfl
 |y::xs,u::us,.cons r t,f=>by
  rw[abt,bI]at f;rw[eS,eS,Ny r f.1,C5 t f.2]
def uS{A:gZ}{s:aP}{x:V}{v:aC}(rx:RelV x v)(fx:sY x=true):∀{xs:List V} {us:List aC},Vals xs us->xs.all sY=true->∀u∈us,afq A s u v (QY x u)
 |_,_,.nil,_=> λu hu=>by cases hu
 |y::xs,u::us,.cons r t,f=> λu' hu=>by
  rw[abt,bI]at f;rcases aX.mp hu with rfl|hu
  .rw[Ny r f.1];exact adg r rx f.1 fx
  .exact uS rx fx t f.2 u' hu
noncomputable def Jb(x:V)(xs:List V):Bool:=xs.any λy=>QZ y x
def rIn(K:aJ)(neg:Bool):R2:= λx y H Q=>∃p xs,y= .ref p/\(cP K H p xs∨oS K H p xs)/\sY x=true/\xs.all sY=true/\Q (.bl<|if neg then !Jb x xs else Jb x xs) H
def pI:G9 X (compareOp .In)<|rIn X.K false:=by
 intro aB s Z H x y v u Q I rx ry h;let⟨p,xs,rfl,hq,fx,fs,q⟩:=h;cases ry;rcases hq with hq|hq
 .let⟨d7,r,pl,hz⟩:=I.list hq;calc SeqAt.in_listAt (QY x) pl.isList (λw hw=>uS rx fx r fs w<|~~~hw) ⟨.bl _,H,I,Y,?_⟩;rw[show d7.toArray.any (QY x)=d7.any (QY x)by simp,C5 r fs];exact q
 .let⟨d7,r,pl,hz⟩:=I.tuple hq;calc SeqAt.in_tupleAt (QY x) pl (λw hw=>uS rx fx r fs w<|~~~hw) ⟨.bl _,H,I,Y,?_⟩;rw[show d7.toArray.any (QY x)=d7.any (QY x)by simp,C5 r fs];exact q
def N4:G9 X (compareOp .NotIn)<|rIn X.K true:=by
 intro aB s Z H x y v u Q I rx ry h;let⟨p,xs,rfl,hq,fx,fs,q⟩:=h;cases ry;rcases hq with hq|hq
 .let⟨d7,r,pl,hz⟩:=I.list hq;calc SeqAt.notIn_listAt (QY x) pl.isList (λw hw=>uS rx fx r fs w<|~~~hw) ⟨.bl _,H,I,Y,?_⟩;rw[show d7.toArray.any (QY x)=d7.any (QY x)by simp,C5 r fs];exact q
 .let⟨d7,r,pl,hz⟩:=I.tuple hq;calc SeqAt.notIn_tupleAt (QY x) pl (λw hw=>uS rx fx r fs w<|~~~hw) ⟨.bl _,H,I,Y,?_⟩;rw[show d7.toArray.any (QY x)=d7.any (QY x)by simp,C5 r fs];exact q
inductive Yd (K:aJ) (xs:List V) (H:Hp) (Q:VK):Prop
 |mk (p ys:_) (k0:xs=[.ref p]) (k1:cP K H p ys∨oS K H p ys) (k2:Q (.int ys.length) H)
theorem bQ:uK X (.builtin "len")<|Yd X.K:=by
 intro aB s Z H xs us Q I r h;let⟨p,ys,rfl,hq,q⟩:=h;let⟨u,rfl,rx⟩:=vals1 r;cases rx;have hn:=Jk;rcases hq with hq|hq
 .let⟨d7,r',pl,hz⟩:=I.list hq;have xQ:=r'.length;exact Calls.call_len_list pl.isList (by simp only[bG]<;>lia) ⟨.int ys.length,H,I.tok _,⟨s.toks+1,by rw[bG,xQ]⟩,q⟩
 .let⟨d7,r',pl,hz⟩:=I.tuple hq;have xQ:=r'.length;exact len_tuple pl (by simp only[bG]<;>lia) ⟨.int ys.length,H,I.tok _,⟨s.toks+1,by rw[bG,xQ]⟩,q⟩
theorem vW:uK X (.builtin "len") (λxs H Q=>∃z,xs=[.str z]/\z.length<=sizeLine/\Q (.int z.length) H):=by
 intro aB s Z H xs us Q I r h;let⟨z,rfl,hz,q⟩:=h;let⟨u,rfl,t,rfl⟩:=vals1 r;have hn:=Jk;exact len_str 'l' ⟨.int z.length,H,I.tok _,⟨_,Y⟩,q⟩
def C7:uK X (.type "list") (λxs H Q=>∃p ys,xs=[.ref p]/\(cP X.K H p ys∨oS X.K H p ys)/\∀l,H l=none->Q (.ref l) (upd H l<|.lst ys)):=by
 intro aB s Z H xs us Q I r h;let⟨p,ys,rfl,hq,q⟩:=h;let⟨u,rfl,rx⟩:=vals1 r;cases rx;have fin:∀(d7:List aC),Vals ys d7->ys.length<=sizeLine->∀(h':eZ) (c':Nat),(∀b o',s.heap.get? b=some o'->h'.get? b=some o')->h'.get? s.heap.objs.size=some {cls:= .type "list",dict:=none,data:= .seq d7.toArray c',slots:= #[]}->EP X aB Z Q (.ref s.heap.objs.size) {s with heap:=h'}:= λd7 r' hz h' c' kp e=>
  ⟨.ref s.heap.objs.size,_,I.laid (t':=s.toks) kp (aT _)<|show iL X.prog X.w _ h' _ (.lst ys)from⟨hz,d7,c',r',e⟩,Y,q _<|I.fQ.fresh<|aT _⟩
 rcases hq with hq|hq
 .let⟨d7,r',pl,hz⟩:=I.list hq;have xQ:=r'.length;let⟨o,ho,hc,n,hd⟩:=pl.isList;exact aki p (.inl Y) ho hc hd (λh' c' kp e=>fin d7 r' hz h' c' kp e) (by simp only[bG]<;>omega)
 .let⟨d7,r',pl,hz⟩:=I.tuple hq;have xQ:=r'.length;let⟨o,ho,hc,n,hd⟩:=pl;exact aki p (.inr Y) ho hc hd (λh' c' kp e=>fin d7 r' hz h' c' kp e) (by simp only[bG]<;>omega)
def tyV(K:aJ)(T:String)(x:V)(H:Hp):Prop:=match x with
 | .str _=>T="str"
 | .int _=>T="int"
 | .ref p=>(T="list"/\∃xs,cP K H p xs)∨(T="tuple"/\∃o,K.lookup p=some o/\o.cls= .type "tuple"/\o.dict=none)∨
   (T="dict"/\((∃kvs,H p=some (.dK kvs))∨∃kvs,H p=some (.dT kvs)))∨(T="set"/\∃atE n,H p=some (.set atE n))
 |_=>False
def YT(I:Inv X aB Z H s)(r:RelV x v)(ty:tyV X.K T x H):s.TypeIs v T/\∀a,v= .ref a->∃ob,s.heap.get? a=some ob/\ob.dict=none:=by
 cases x with
 |str z=>
  let⟨t,rfl⟩:=r;cases(show T="str"from ty);exact⟨QS s z t,λ_ e=>nomatch e⟩
 |int i=>
  let⟨t,rfl⟩:=r;cases(show T="int"from ty);exact⟨typeIs_int s i t,λ_ e=>nomatch e⟩
 |ref p=>
  cases r;rcases ty with⟨rfl,xs,hq⟩|⟨rfl,o,hk,hc,hd⟩|⟨rfl,hk⟩|⟨rfl,atE,n,hk⟩
  .let⟨d7,_,pl,_⟩:=I.list hq;calc⟨pl.isList.typeIs,λa e=>?_⟩;cases e;let⟨o,n,e,c,hd,_⟩:=pl;exact⟨o,e,hd⟩
  .calc⟨⟨o,I.Ag p o hk,hc⟩,λa e=>?_⟩;cases e;exact⟨o,I.Ag _ o hk,hd⟩
  .have z:∃o,s.heap.get? p=some o/\o.ExactDict:=by
    rcases hk with⟨kvs,hk⟩|⟨kvs,hk⟩
    .let⟨_,_,_,_,o,_,_,e,ex,_⟩:=I.fQ p _ hk;exact⟨o,e,ex⟩
    .let⟨_,_,_,_,o,_,_,e,ex,_⟩:=I.fQ p _ hk;exact⟨o,e,ex⟩
   let⟨o,e,ex⟩:=z;calc⟨⟨o,e,ex.1⟩,λa e2=>?_⟩;cases e2;exact⟨o,e,ex.2.1⟩
  .let⟨o,_,_,_,e,ex,_⟩:=I.fQ p _ hk;calc⟨⟨o,e,ex.1⟩,λa e2=>?_⟩;cases e2;exact⟨o,e,ex.2.1⟩
 |_=>exact dY ty
def amK(K:aJ)(T:String)(r:V->List V->Hp->VK->Prop)(to:TE):TE:= λZ H Q=>to Z H λx L=>tyV K T x L/\r x [] L Q
def tBM(K:aJ)(T:String)(r:V->List V->Hp->VK->Prop)(to:TE)(t:TA):TE:= λZ H Q=>to Z H λx L=>tyV K T x L/\t Z L λxs H2=>r x xs H2 Q
end
section
variable{a o:Expr} {es:List Expr} {to:TE} {t:TA} {name:Str} {kh nZ:Pos} {id:String} {r:V->List V->Hp->VK->Prop}
def N7(pa:PlainAttrs T)(slot:Slot T name id)(hty:ajh (.builtin id)=pure (.type "method_descriptor"))(hm:ZH X id r)(ho:PE X o to) (rK:attributeBase o name X.env (eval o X.env)=eval o X.env:=by rfl)(rL:(kh.endLine==nZ.line)=true:=by rfl):PE X (.Call (.Attribute o name kh) [] [] nZ)<|amK X.K T r to:=by
 intro aB s Z H Q I h;calc wpAny_Call_method0_late rK rL<|iz (ho aB s Z H _ I h) ?_;rintro v s1 ⟨x,L,I1,r1,ty,q1⟩;let⟨G,h2⟩:=YT I1 r1 ty;exact⟨T,id,pa,slot,hty,G,h2,oJ Y<|AR<|hm aB s1 Z L x [] v [] Q I1 r1 .nil q1⟩
def gR(pa:PlainAttrs T)(slot:Slot T name id)(hty:ajh (.builtin id)=pure (.type "method_descriptor"))(hm:ZH X id r)(ho:PE X o to)(ha:PA X (e::es) t) (rK:attributeBase o name X.env (eval o X.env)=eval o X.env:=by rfl) (ak8:((backTo nZ<|starEach (e::es) X.env).all (λx=> !x.1)&&(K4 nZ<|xK [] X.env).all (λx=>x.1.isSome)&&decide ((e::es).length+([]:List Keyword).length+(if([]:List Keyword).isEmpty then 0 else 1)<30))=true:=by rfl) (rL:(kh.endLine==nZ.line)=true:=by rfl)(hs:starEach (e::es) X.env=(false,eval e X.env)::starEach es X.env:=by rfl)(adE:(backTo nZ<|starEach es X.env).any (·.1)=false:=by rfl):PE X (.Call (.Attribute o name kh) (e::es) [] nZ)<|tBM X.K T r to t:=by
 intro aB s Z H Q I h;calc wpAny_Call_method_late rK ak8 rL Y<|iz (ho aB s Z H _ I h) ?_;rintro v s1 ⟨x,L,I1,r1,ty,q1⟩;let⟨G,h2⟩:=YT I1 r1 ty;calc⟨T,id,pa,slot,hty,G,h2,?_⟩;have hA:=ha nZ aB s1 Z L _ I1 q1;rw[hs]at hA⊢;calc oJ (by show(false||(backTo nZ<|starEach es X.env).any (·.1))=false;rw[adE]<;>rfl)<|QL ?_;exact iz hA (by rintro us s2 ⟨S,H2,I2,r2,q2⟩;exact hm aB s2 Z H2 x S v us Q I2 r1 r2 q2)
end
def MtM(X:Cx)(id:String)(r:V->List V->Hp->VK->Prop):Prop:=∀(aB:List<|O×Obj) (s:aP) (Z:St) (H:Hp) (x:V) (xs:List V) (v:aC) (us:List aC) (Q:VK),Inv X aB Z H s->RelV x v->Vals xs us->r x xs H Q->wpAny (model X.prog X.w) X.A (call (.builtin id)<|v::us) (EP X aB Z Q) X.xe s
def Vals.one:∀{x:V} {us:List aC},Vals [x] us->∃u,us=[u]/\RelV x u:=by
 intro x us h;cases h with
 |cons r t=>cases t;exact⟨_,Y,r⟩
def Vals.zero:∀{us:List aC},Vals [] us->us=[]
 |_,.nil=>rfl
def Vals.dropLast(h:Vals xs us):Vals xs.dropLast us.dropLast:=by
 induction h with
 |nil=>exact .nil
 |cons r t ih=>
  cases t with
  |nil=>exact .nil
  |cons q t'=>exact .cons r ih
def Vals.reverse(h:Vals xs us):Vals xs.reverse us.reverse:=by
 induction h with
 |nil=>exact .nil
 |cons r t ih=>rw[uv,uv];exact Vals.append ih (.cons r .nil)
theorem RD(l:List α):l.eraseIdx (l.length-1)=l.dropLast:=by
 induction l with
 |nil=>rfl
 |cons a r ih=>
  cases r with
  |nil=>rfl
  |cons b r=>
   have e:(a::b::r).length-1=((b::r).length-1)+1:=by
    have G:(a::b::r).length=r.length+2:=rfl;have h2:(b::r).length=r.length+1:=rfl
    lia
   rw[e,List.eraseIdx_cons_succ,ih];all_goals rfl
section
variable{b:O} {zs:List V}
def Inv.Xp{its':List aC}{f:Array aC->Array aC}(I:Inv X aB Z H s)(hH:H l=some (.lst xs)) (e:s.heap.get? l=some {cls:= .type "list",data:= .seq d7.toArray n})(hf:f d7.toArray=its'.toArray)(hv:Vals ys its')(hz:ys.length<=sizeLine):Inv X aB Z (upd H l<|.lst ys) {s with heap:=s.heap.update l<|Ep f,toks:=t'}:=by
 have q:=amX e f;rw[hf]at q;calc I.write (x:=l) (e:=l) (by rw[hH];exact trivial) (.inl Y) (λb' u hb hu=>(fj s.heap (Ep f)<|f6 hb).trans hu) ⟨_,q⟩ ?_;exact⟨hz,its',_,hv,q⟩
def Inv.al7(I:Inv X aB Z H s)(hv:Vals ys d7)(hz:ys.length<=sizeLine):Inv X aB Z (upd H s.heap.objs.size<|.lst ys) {s with heap:=s.heap.push {cls:= .type "list",data:= .seq d7.toArray},toks:=t'}:=I.laid (λ_ _ q=>aS _ q) (aT _) ⟨hz,d7,0,hv,bZ _ Y⟩
def Inv.fresh(I:Inv X aB Z H s):H s.heap.objs.size=none:=I.fQ.fresh (aT _)
def Inv.P0(I:Inv X aB Z H s)(hH:H l=some (.lst xs)):xs.length<=sizeLine/\∃(d7:List aC) (n:Nat),Vals xs d7/\xs.length=d7.length/\s.heap.get? l=some {cls:= .type "list",data:= .seq d7.toArray n}:=by
 let⟨z,d7,n,r,e⟩:=I.fQ l _ hH;exact⟨z,d7,n,r,r.length,e⟩
theorem P6(h:n<=sizeLine):lO n=false:=by
 unfold lO;exact bB 'l'
end
inductive Ub (x:V) (S:List V) (H:Hp) (Q:VK):Prop
 |mk (l xs y:_) (k0:x= .ref l) (k1:S=[y]) (k2:H l=some (.lst xs)) (k3:xs.length<sizeLine) (k4:Q .gQ (upd H l (.lst (xs++[y]))))
theorem d9:MtM X "list.append" Ub:=by
 intro aB s Z H x S v us Q I rx rv h;let⟨l,xs,y,rfl,rfl,hH,hz,q⟩:=h;cases rx;let⟨u,rfl,ru⟩:=rv.one;let⟨z,d7,n,r,hl,e⟩:=I.P0 hH;calc HL bh ⟨_,e,Y⟩ F.entry_list_append (F.args_list_append_2 _ _) (PySem.list_append l d7.toArray n u<|by rw[bG];lia) ⟨e,?_⟩;calc⟨.gQ,_,I.Xp (its':=d7++[u]) hH e 's' (r.append<|.cons ru .nil) ?_,Y,q⟩;rw[ak,aI]
 lia
inductive aaJ (x:V) (S:List V) (H:Hp) (Q:VK):Prop
 |mk (l b xs zs:_) (k0:x= .ref l) (k1:S=[.ref b]) (k2:H l=some (.lst xs)) (k3:H b=some (.lst zs)) (k4:xs.length+zs.length<=sizeLine) (k5:Q .gQ (upd H l (.lst (xs++zs))))
theorem kR:MtM X "list.extend" aaJ:=by
 intro aB s Z H x S v us Q I rx rv h;let⟨l,b,xs,zs,rfl,rfl,hH,hB,hz,q⟩:=h;cases rx;let⟨u,rfl,ru⟩:=rv.one;cases ru;let⟨z,d7,n,r,hl,e⟩:=I.P0 hH;let⟨z2,Dj,n2,r2,Tn,e2⟩:=I.P0 hB;have hsz:d7.toArray.size+Dj.toArray.size<=sizeLine:=by rw[bG,bG];lia
 have WZ:¬(!d7.toArray.isEmpty&&lO (d7.toArray.size+Dj.toArray.size))=true:=by
  rw[P6 hsz,Zs];exact bJ
 calc HL cz ⟨_,e,Y⟩ Wn (V4 _ _) (aoH l d7.toArray n b Dj.toArray n2 WZ (by rw[bG];lia) 'l') ⟨e,e2,?_⟩;calc⟨.gQ,_,I.Xp (its':=d7++Dj) hH e 's' (r.append r2) ?_,Y,q⟩;rw[ak]
 lia
inductive amr (x:V) (S:List V) (H:Hp) (Q:VK):Prop
 |mk (l xs y:_) (k0:x= .ref l) (k1:S=[]) (k2:H l=some (.lst xs)) (k3:xs[xs.length-1]? =some y) (k4:Q y (upd H l (.lst xs.dropLast)))
def RX:MtM X "list.pop" amr:=by
 intro aB s Z H x S v us Q I rx rv h;let⟨l,xs,y,rfl,rfl,hH,hy,q⟩:=h;cases rx;have PK:=rv.zero;subst PK;let⟨z,d7,n,r,hl,e⟩:=I.P0 hH;let⟨u,hu,ru⟩:=r.get hy;have Z7:d7.toArray[d7.toArray.size-1]? =some u:=by
  show d7.toArray[d7.length-1]? =some u;rw[←lu,←hl];exact hu
 calc HL qp ⟨_,e,Y⟩ F.entry_list_pop (F.args_list_pop_1 _) (aoK l d7.toArray n u Z7<|by rw[bG];omega) ⟨e,?_⟩;refine⟨y,_,I.Xp (its':=d7.dropLast) hH e ?_ r.dropLast ?_,ru,q⟩
 .show d7.toArray.eraseIdxIfInBounds (d7.toArray.size-1)=d7.dropLast.toArray;rw[bG,List.eraseIdxIfInBounds_toArray,RD]
 .rw[List.length_dropLast];omega
def Ye:V->List V->Hp->VK->Prop:= λx S H Q=>∃l xs,x= .ref l/\S=[]/\H l=some (.lst xs)/\Q .gQ (upd H l<|.lst xs.reverse)
def RY:MtM X "list.reverse" Ye:=by
 intro aB s Z H x S v us Q I rx rv h;let⟨l,xs,rfl,rfl,hH,q⟩:=h;cases rx;have PK:=rv.zero;subst PK;let⟨z,d7,n,r,hl,e⟩:=I.P0 hH;calc HL O0 ⟨_,e,Y⟩ F.entry_list_reverse (F.args_list_reverse_1 _) (aoI l d7.toArray n<|by rw[bG];omega) ⟨e,?_⟩;calc⟨.gQ,_,I.Xp (its':=d7.reverse) hH e 's' r.reverse ?_,Y,q⟩;rw[jP];omega
inductive aeu (x:V) (y:V) (H:Hp) (Q:VK):Prop
 |mk (l b xs zs:_) (k0:x= .ref l) (k1:y= .ref b) (k2:H l=some (.lst xs)) (k3:H b=some (.lst zs)) (k4:xs.length+zs.length<=sizeLine) (k5:∀p,H p=none->Q (.ref p) (upd H p (.lst (xs++zs))))
def qx:G9 X (binaryOp .Add) aeu:=by
 intro aB s Z H x y v u Q I rx ry h;let⟨l,b,xs,zs,rfl,rfl,hH,hB,hz,q⟩:=h;cases rx;cases ry;let⟨z,d7,n,r,hl,e⟩:=I.P0 hH;let⟨z2,Dj,n2,r2,Tn,e2⟩:=I.P0 hB;calc PySem.P.add_list e e2 ?_ (by rw[bG,bG];omega);have ea:d7.toArray++Dj.toArray=(d7++Dj).toArray:='s'
 rw[ea];exact⟨.ref _,_,I.al7 (t':=s.toks) (r.append r2)<|by rw[ak];omega,Y,q _ I.fresh⟩
def Vals.ints:∀{ns:List Int} {us:List aC},Vals (ns.map V.int) us->IntsAre us ns
 |[],us,h=>by
  rw[mh]at h;cases h;exact IntsAre.nil
 |n::ns,us,h=>by
  rw[bK]at h;cases h with
  |cons r t=>
   let⟨k,rfl⟩:=r;exact IntsAre.cons n k (Vals.ints t)
def Vals.bls:∀{bs:List Bool} {us:List aC},Vals (bs.map V.bl) us->us=bs.map wF
 |[],us,h=>by
  rw[mh]at h;cases h;rfl
 |b::bs,us,h=>by
  rw[bK]at h;cases h with
  |cons r t=>
   cases r;rw[Vals.bls t,bK]
def Vals.ait(r:Vals [V.ref a] us):us=[bU a]:=by
 cases r with
 |cons r t=>
  cases t;cases r;rfl
section
variable{ns:List Int}
def abd(hh:A.handled=none)(hl:s.heap.IsList l d7.toArray)(hi:IntsAre d7 ns) (h:∀h' tk t',(∀b o,s.heap.get? b=some o->h'.get? b=some o)->Q (.int ns.sum t') {s with heap:=h',toks:=tk}):wpAny (model prog w) A (call (.builtin "sum") [.ref l]) Q E s:=by
 let⟨xs,e⟩:=hi.allInts.items;have hn:numsOf (intItems xs).toList=ns:=by rw[←e];exact hi.numsOf
 rw[nums_intItems]at hn;rw[e]at hl;calc PySem.sum_intListG hh hl λh' tk t' hk=>?_;have:=h h' tk t' hk;rw[preSum_eq,oN 's',hn];exact this
end
inductive air (K:aJ) (S:List V) (H:Hp) (Q:VK):Prop
 |mk (a:O) (ns:List Int) (k0:S=[V.ref a]) (k1:cP K H a (ns.map V.int)) (k2:Q (.int ns.sum) H)
def ac7(hc:X.calm=true):uK X (.builtin "sum")<|air X.K:=by
 intro aB s Z H S us Q I r h;let⟨a,ns,rfl,hs,q⟩:=h;let⟨d7,rv,hl,_⟩:=I.list hs;rw[Vals.ait r];exact abd (I.ok.hd hc) hl.isList rv.ints λh' tk t' hk=>⟨.int _,H,I.kept hk,⟨_,Y⟩,q⟩
def aev(K:aJ):V->List V->Hp->VK->Prop:= λx xs H Q=>∃(a:O) (ys:List V) (y:V) (j:Nat) (z:V),x=V.ref a/\xs=[y]/\cP K H a ys/\sY y=true/\ys.all sY=true/\ys[j]? =some z/\QZ z y=true/\(∀(m:Nat) (z':V),m<j->ys[m]? =some z'->QZ z' y=false)/\Q (.int (j:Nat)) H
def HX(f:ys.all sY=true){z:V}(h:ys[j]? =some z):sY z=true:=dO.mp f z (bf h)
theorem Xs:ZH X "list.index"<|aev X.K:=by
 intro aB s Z H x xs v us Q I rx rxs h;let⟨a,ys,y,j,z,rfl,rfl,hs,fy,fys,hz,hzj,hno,q⟩:=h;cases rx;cases rxs with
 |cons ry rt=>
  rename_i uy ut;cases rt;let⟨d7,rv,⟨⟨cls,dd,data,sl⟩,n,ho,hc,hdn,hd⟩,xQ⟩:=I.list hs;simp only at hc hd;subst hc hd;let⟨u,hu,ru⟩:=rv.get hz;let⟨hjl,hje⟩:=au.mp hu;have hvl:=rv.length;have hj:j<d7.toArray.size:= ~~~hjl
  have hsl:=aW;refine HL Lj ⟨_,ho,Y⟩ PySem.F.entry_list_index (PySem.F.args_list_index_2 _ _) (SeqAt.list_indexAt a d7.toArray n dd sl uy (QY y) j hj 'l' ?_ ?_) ⟨ho,λu' hu'=>uS ry fy rv fys u'<|~~~hu',?_⟩
  .have e1:d7.toArray[j]=u:=by simpa using hje
   rw[e1,Ny ru<|HX fys hz];exact hzj
  .intro m hm hmj;have hml:m<d7.length:=by simpa using hm
   have hmy:m<ys.length:='l'
   have Z7:ys[m]? =some ys[m]:=aK hmy;let⟨u2,hu2,ru2⟩:=rv.get Z7;let⟨_,hme⟩:=au.mp hu2;have e1:d7.toArray[m]=u2:= ~~~hme
   rw[e1,Ny ru2<|HX fys Z7];exact hno m _ hmj Z7
  .exact⟨.int (j:Nat),H,I.tok _,⟨_,Y⟩,q⟩
def W4{items:Array aC}(hl:s.heap.IsList l items) (h:∀s₂:aP,s₂={s with heap:=s.heap.push {cls:= .type "list_iterator",data:= .fields #[.ref l,.int 0 0]} }->(s₂.heap.IsListIter s.heap.objs.size l 0/\s₂.heap.IsList l items)->l≠s.heap.objs.size->Q (.ref s.heap.objs.size) s₂):wpAny (model prog w) A (pyIter<|.ref l) Q E s:=by
 have xU:l<s.heap.objs.size:=by let⟨_,e,_⟩:=hl;exact bA e
 exact acP hl (h _ Y ⟨⟨_,bZ _ Y,Y,Y⟩,hl.push _⟩<|cj xU)
def QC{bs:List Bool}(e:d7=bs.map wF):TruthOf prog w A (λi v=>d7.toArray[i]? =some v) λi=>bs.getD i false:= λi v s Q E hv hq=>by
 have hv':d7[i]? =some v:= ~~~hv
 rw[e,aH]at hv';let⟨b,hb,rfl⟩:=cH.mp hv';have hg:bs.getD i false=b:=by rw[List.getD_eq_getElem?_getD,hb]<;>rfl
 have hq':Q (bs.getD i false) s:=hq;rw[hg]at hq';exact jU hq'
def any_range:∀bs:List Bool,(fh bs.length).any (λi=>bs.getD i false)=bs.any id
 |[]=>rfl
 |b::bs=>by
  rw[ay,List.range_succ_eq_map,eS,Ez,eS,←any_range bs];all_goals rfl
inductive aik (K:aJ) (S:List V) (H:Hp) (Q:VK):Prop
 |mk (a:O) (bs:List Bool) (k0:S=[V.ref a]) (k1:cP K H a (bs.map V.bl)) (k2:Q (.bl (bs.any id)) H)
def ac6(hc:X.calm=true):uK X (.builtin "any")<|aik X.K:=by
 intro aB s Z H S us Q I r h;let⟨a,bs,rfl,hs,q⟩:=h;let⟨d7,rv,hl,_⟩:=I.list hs;rw[Vals.ait r];have hb:=rv.bls;calc call_any_walk<|W4 hl.isList λs₂ e2 st Lw=>?_;subst e2;calc⟨_,_,_,_,_,_,_,Y,Walks.list (A:=X.A.in1) (I.ok.hd hc) _ a Lw d7.toArray,st,QC hb,λh' tk hk=>?_⟩;refine⟨.bl _,H,I.kept λb o eo=>hk b o (λRJ=>?_)<|aS _ eo,?_,q⟩
 .rcases aX.mp RJ with e1|RJ
  .exact absurd (e1▸bA eo) (fJ _)
  .cases RJ
 .show wF _=wF _;rw[←any_range,hb,bG,ai]
mutual
inductive Dp (K:aJ) (H:Hp):V->jY->Prop
 |gQ:Dp K H .gQ .none
 |bl (b:Bool):Dp K H (.bl b) (.bool b)
 |int (i:Int):Dp K H (.int i) (.int i)
 |str (x:Str):Dp K H (.str x) (.str x)
 |lst {a:O} {xs:List V} {ds:List jY}:cP K H a xs->C3 K H xs ds->Dp K H (.ref a) (.list ds)
 |tup {a:O} {xs:List V} {ds:List jY}:oS K H a xs->C3 K H xs ds->Dp K H (.ref a) (.tuple ds)
inductive C3 (K:aJ) (H:Hp):List V->List jY->Prop
 |nil:C3 K H [] []
 |cons {v:V} {S:List V} {d:jY} {ds:List jY}:Dp K H v d->C3 K H S ds->C3 K H (v::S) (d::ds)
end
mutual
def Dp.reads (I:Inv X aB Z H s):∀(d:jY) (v:V) (u:aC),Dp X.K H v d->RelV v u->∃as,Reads s.heap u d as
 | .none,_,_,h,r=>by
  cases h;cases r;exact⟨_,acJ.none⟩
 | .bool b,_,_,h,r=>by
  cases h;cases r;exact⟨_,acJ.bool b⟩
 | .int i,_,_,h,r=>by
  cases h;let⟨t,rfl⟩:=r;exact⟨_,acJ.int i t⟩
 | .str x,_,_,h,r=>by
  cases h;let⟨t,rfl⟩:=r;exact⟨_,acJ.str x t⟩
 | .list ds,_,_,h,r=>by
  cases h with
  |lst hs ha=>
   cases r;let⟨d7,rv,⟨o,n,ho,hc,_,hd⟩,_⟩:=I.list hs;let⟨as,hr⟩:=Dp.readsAll I ds _ d7 ha rv;exact⟨_,acJ.list ho hc hd hr⟩
 | .tuple ds,_,_,h,r=>by
  cases h with
  |tup hs ha=>
   cases r;let⟨d7,rv,⟨o,ho,hc,n,hd⟩,_⟩:=I.tuple hs;let⟨as,hr⟩:=Dp.readsAll I ds _ d7 ha rv;exact⟨_,acJ.tuple ho hc hd hr⟩
 | .dict _,_,_,h,_=>by cases h
def Dp.readsAll (I:Inv X aB Z H s):∀(ds:List jY) (S:List V) (us:List aC),C3 X.K H S ds->Vals S us->∃as,ReadsAll s.heap us ds as
 |[],_,_,h,r=>by
  cases h;cases r;exact⟨_,aoM⟩
 |d::ds,_,_,h,r=>by
  cases h with
  |cons G h2=>
   cases r with
   |cons r1 r2=>
    let⟨as,q1⟩:=Dp.reads I d _ _ G r1;let⟨bs,q2⟩:=Dp.readsAll I ds _ _ h2 r2;exact⟨_,aoL q1 q2⟩
end
def ail(K:aJ):R2:= λx y H Q=>∃d e,Dp K H x d/\Dp K H y e/\l8 d=true/\l8 e=true/\Q (.bl<|gO d e) H
def Se(hu:X.A.units+64<G4):G9 X (compareOp .Eq)<|ail X.K:=by
 intro aB s Z H x y v u Q I rx ry h;let⟨d,e,hd,he,sd,se,q⟩:=h;let⟨as,r1⟩:=Dp.reads I d x v hd rx;let⟨bs,r2⟩:=Dp.reads I e y u he ry;exact SeqAt.compareEq_shaped r1 r2 sd se hu ⟨.bl _,H,I,Y,q⟩
abbrev Ww(h:eZ)(c:O)(v:Option aC):Prop:=h.IsCell c v
noncomputable def amz(scope sc:qL):qL:={scope with names:=scope.names.map λ(n,k)=>if(k== .free&&sc.kind== .function&&sc.names.lookup n==some .cell)then(n,.cell)else(n,k)}
def fW(cells:List<|Str×O):List (Str×jR)->List (Str×O)->List (Str×O)
 |[],acc=>acc
 |(n,k)::r,acc=>if k== .free then fW cells r ((n,(cells.lookup n).getD 0)::acc)else fW cells r acc
def C8(env:Env)(f:Str×jR->List (Str×O)->Sem (ForInStep<|List<|Str×O))
  (hf:∀n k c,f (n,k) c=if k== .free then(do let a←cellOf env n;pure (.yield ((n,a)::c)))else pure (.yield c)):
  ∀(names:List (Str×jR)) (acc:List (Str×O)),(∀y∈names,y.2= .free->∃c,env.cells.lookup y.1=some c)->forIn names acc f=pure (fW env.cells names acc)
 |[],acc,_=>by rw[Zu];rfl
 |(n,k)::r,acc,h=>by
  rw[List.forIn_cons,hf];have ih:= λacc=>C8 env f hf r acc λy hy=>h y<|aV _ hy;unfold fW;by_cases hk:(k==oW)=true
  .rw[aG hk,aG hk];let⟨c,hc⟩:=h (n,k) bz (~~~hk);have e:cellOf env n=pure c:=by unfold cellOf;rw[hc]
   rw[e];have e2:(env.cells.lookup n).getD 0=c:=by rw[hc];rfl
   rw[e2];exact ih _
  .rw[az hk,az hk];exact ih _
def II(h:∀y∈scope.names,y.2= .free->∃c,env.cells.lookup y.1=some c):closureFor scope env=pure (fW env.cells scope.names []):=by
 simp only[closureFor];rw[C8 env _ (λn k c=>rfl) scope.names [] h];rfl
def mem_lookup{α:Type}:∀{l:List (Str×α)} {n:Str} {c:α},(n,c)∈l->∃c',l.lookup n=some c'
 |(k,v)::r,n,c,h=>by
  rw[eu];cases hb:n==k with
  |true=>exact⟨_,Y⟩
  |false=>
   rcases aX.mp h with e|h
   .cases e;simp at hb
   .exact mem_lookup h
def sW{cells:List (Str×O)}:∀{names:List (Str×jR)} {acc:List (Str×O)} {n:Str} {c:O},(n,c)∈fW cells names acc->(n,c)∈acc∨((n,.free)∈names/\c=(cells.lookup n).getD 0)
 |[],_,_,_,h=> .inl h
 |(m,k)::r,acc,n,c,h=>by
  unfold fW at h;split at h
  .rename_i hk;have hk:k= .free:=by simpa using hk
   rcases sW h with h|⟨G,h2⟩
   .rcases aX.mp h with e|h
    .cases e;exact .inr ⟨hk▸bz,Y⟩
    .exact .inl h
   .exact .inr ⟨aV _ G,h2⟩
  .rcases sW h with h|⟨G,h2⟩
   .exact .inl h
   .exact .inr ⟨aV _ G,h2⟩
def yt{cells:List (Str×O)}:∀{names:List (Str×jR)} {acc:List (Str×O)} {p:Str×O},p∈acc->p∈fW cells names acc
 |[],_,_,h=>h
 |(m,k)::r,acc,p,h=>by
  unfold fW;split
  .exact yt (aV _ h)
  .exact yt h
def yu{cells:List (Str×O)}:∀{names:List (Str×jR)} {acc:List (Str×O)} {n:Str},(n,.free)∈names->(n,(cells.lookup n).getD 0)∈fW cells names acc
 |(m,k)::r,acc,n,h=>by
  unfold fW;rcases aX.mp h with e|h
  .cases e;exact yt bz
  .split
   .exact yu h
   .exact yu h
def uN:∀{names:List (Str×jR)} {h:eZ} {acc:List (Str×O)} {x:Str} {c:O},(x,c)∈cellsFrom h.objs.size names acc->(x,c)∈acc∨((x,.cell)∈names/\h.objs.size<=c/\Ww (pushCells h names) c none)
 |[],_,_,_,_,h=> .inl h
 |(n,k)::r,h,acc,x,c,hm=>by
  unfold cellsFrom at hm;unfold pushCells;split at hm
  .rename_i hk;rw[aG hk];have hk:k= .cell:=by simpa using hk
   rw[←fP h {cls:= .type "cell",data:= .cell none}]at hm;rcases uN hm with hm|⟨G,h2,h3⟩
   .rcases aX.mp hm with e|hm
    .cases e;exact .inr ⟨hk▸bz,aT _,_,sR r _ _ _<|bZ _ Y,Y⟩
    .exact .inl hm
   .rw[fP]at h2;exact .inr ⟨aV _ G,uB h2,h3⟩
  .rename_i hk;rw[az hk];rcases uN hm with hm|⟨G,h2,h3⟩
   .exact .inl hm
   .exact .inr ⟨aV _ G,h2,h3⟩
def Ae:∀{names:List (Str×jR)} {n:Nat} {acc:List (Str×O)} {p:Str×O},p∈acc->p∈cellsFrom n names acc
 |[],_,_,_,h=>h
 |(m,k)::r,n,acc,p,h=>by
  unfold cellsFrom;split
  .exact Ae (aV _ h)
  .exact Ae h
def EM:∀{names:List (Str×jR)} {n:Nat} {acc:List (Str×O)} {x:Str},(x,.cell)∈names->∃c,(x,c)∈cellsFrom n names acc
 |(m,k)::r,n,acc,x,h=>by
  unfold cellsFrom;rcases aX.mp h with e|h
  .cases e;exact⟨n,Ae bz⟩
  .split
   .exact EM h
   .exact EM h
def EN:∀{names:List (Str×jR)} {h:eZ} {acc:List (Str×O)} {x y:Str} {c:O},(∀p∈acc,p.2<h.objs.size)->(∀x y c,(x,c)∈acc->(y,c)∈acc->x=y)->(x,c)∈cellsFrom h.objs.size names acc->(y,c)∈cellsFrom h.objs.size names acc->x=y
 |[],_,_,_,_,_,_,hi,G,h2=>hi _ _ _ G h2
 |(n,k)::r,h,acc,x,y,c,hl,hi,G,h2=>by
  unfold cellsFrom at G h2;split at G
  .rename_i hk;rw[aG hk]at h2;rw[←fP h {cls:= .type "cell",data:= .cell none}]at G h2;refine EN (h:=h.push _) (λp hp=>?_) (λx y c a b=>?_) G h2
   .rw[fP];rcases aX.mp hp with rfl|hp
    .exact HH _
    .exact uC (hl p hp)
   .rcases aX.mp a with e|a<;>rcases aX.mp b with e'|b
    .cases e;cases e';rfl
    .cases e;exact absurd (hl _ b) (fJ _)
    .cases e';exact absurd (hl _ a) (fJ _)
    .exact hi _ _ _ a b
  .rename_i hk;rw[az hk]at h2;exact EN hl hi G h2
def Ge{globals:O}{Nf:List (Str×O)}{qual:Str}{agr:Option O}{code:aC}{Ws:Env}{O4:O}{Q:Env->aP->Prop} (h:Q (newEnv scope s.heap.objs.size globals (cellsFrom (s.heap.objs.size+1) scope.names Nf) qual agr code (some Ws) O4) {s with heap:=pushCells (s.heap.push {cls:= .type "dict",data:= .dict #[]}) scope.names}):wpAny M A (ajf scope globals Nf [] qual agr code (some Ws) O4) Q E s:=by
 simp only[ajf,Rh,OP];calc aQ<|wpAny_alloc ?_;calc aQ<|wpAny_layCells _ (λn k c=>rfl) scope.names Nf _ _ ?_;rw[show({s with heap:=s.heap.push {cls:= .type "dict",data:= .dict #[]} }:aP).heap.objs.size=s.heap.objs.size+1 from fP ..];rw[Zu];exact aQ (bS<|bS h)
def yE{sc:qL}:∀{names:List (Str×jR)} {x:Str} {k:jR},(names.map λ(n,k)=>if(k==oW&&sc.kind== .function&&sc.names.lookup n==some .cell)then(n,Iq)else(n,k)).lookup x=some k->∃k',names.lookup x=some k'/\(k=k'∨(k'= .free/\k= .cell))
 |[],_,_,h=>by simp at h
 |(n,k₀)::r,x,k,h=>by
  have ih:= @yE sc r x k;have h':jd x ((if(k₀==oW&&sc.kind== .function&&sc.names.lookup n==some .cell)=true then(n,Iq)else(n,k₀))::(r.map _))=some k:=h;cases hx:x==n with
  |true=>
   simp only[eu,hx];by_cases hc:(k₀==oW&&sc.kind== .function&&sc.names.lookup n==some .cell)=true
   .rw[aG hc]at h';simp only[eu,hx]at h';cases h';simp only[bI,iM]at hc;exact⟨k₀,Y,.inr ⟨hc.1.1,Y⟩⟩
   .rw[az hc]at h';simp only[eu,hx]at h';cases h';exact⟨_,Y,.inl Y⟩
  |false=>
   simp only[eu,hx];by_cases hc:(k₀==oW&&sc.kind== .function&&sc.names.lookup n==some .cell)=true
   .rw[aG hc]at h';simp only[eu,hx]at h';exact ih h'
   .rw[az hc]at h';simp only[eu,hx]at h';exact ih h'
structure FO (N:List Str) (sc scope:qL) (own:List<|Str×Nat):Prop where
 kind:scope.kind= .function
 uniq:∀y∈scope.names,scope.names.lookup y.1=some y.2
 ix:∀p∈own,N[p.2]? =some p.1
 free:∀y∈scope.names,y.2= .free->sc.names.lookup y.1=some .cell∨sc.names.lookup y.1=some .free
 own:∀y∈scope.names,y.2= .local∨y.2= .cell->y.1∈own.map (·.1)∨y.1∉N
def wipe(Z:St):List Nat->St
 |[]=>Z
 |v::S=>(wipe Z S).set v none
def tX(Z:St):∀S:List Nat,(wipe Z S).length=Z.length
 |[]=>rfl
 |v::S=>by unfold wipe;rw[YZ,tX Z S]
def Ax{Z:St}{i:Nat}{x:V}:∀{S:List Nat},(wipe Z S)[i]? =some (some x)->Z[i]? =some (some x)/\i∉S
 |[],h=>⟨h,'s'⟩
 |v::S,h=>by
  unfold wipe at h;by_cases hi:v=i
  .subst hi;by_cases hv:v<(wipe Z S).length
   .rw[xG hv]at h;cases h
   .rw[gu<|~~~hv]at h;cases h
  .rw[Az hi]at h;let⟨G,h2⟩:=Ax h;exact⟨G,by simp only[aX,not_or];exact⟨λe=>hi e.symm,h2⟩⟩
noncomputable abbrev Cx.Mf(X:Cx)(s:aP)(H:Hp)(scope:qL)(lX:Env)(fp:List O):Cx:={X with Hx:=s,H_0:=H,env:=lX,outer:=X.stack,ex:=fp,fn:= λx=>scope.names.lookup x==some .cell,pn:=[],xe:= λ_ _=>False}
def FQ{fp:List O}(I:Inv X aB Z H s)(ok:FO X.N X.env.scope scope own)(hN:X.N.Nodup)(hfp:∀b∈fp,sP X aB H b/\b<s.heap.objs.size):Inv (X.Mf s H scope (compEnvC scope (cellsFrom (s.heap.objs.size+1) scope.names<|fW X.env.cells scope.names []) s.heap.objs.size X.env) fp) [] (wipe Z (own.map (·.2))) H {s with heap:=pushCells (s.heap.push {cls:= .type "dict",data:= .dict #[]}) scope.names}:=by
 have F2:∀y∈scope.names,y.2= .free->∃c,X.env.cells.lookup y.1=some c:= λy hy e=>by
  rcases ok.free y hy e with k|k
  .exact I.ok.has _ (.inl k)
  .exact I.ok.has _ (.inr k)
 generalize Py:compEnvC scope (cellsFrom (s.heap.objs.size+1) scope.names<|fW X.env.cells scope.names []) s.heap.objs.size X.env=lX;have kp:∀b o,s.heap.get? b=some o->(pushCells (s.heap.push {cls:= .type "dict",data:= .dict #[]}) scope.names).get? b=some o:= λb o e=>sR _ _ _ _<|aS _ e;have hL:lX.locals=s.heap.objs.size:=by rw[←Py];rfl
 have hcl:lX.cells=cellsFrom (s.heap.objs.size+1) scope.names (fW X.env.cells scope.names []):=by rw[←Py];rfl
 have Di:lX.scope=amz scope X.env.scope:=by rw[←Py];rfl
 rw[←fP s.heap {cls:= .type "dict",data:= .dict #[]}]at hcl;have cm:∀{y c},(y,c)∈fW X.env.cells scope.names []->X.env.cells.lookup y=some c/\c<s.heap.objs.size:= λ{y c} hm=>by
  rcases sW hm with hm|⟨G,rfl⟩
  .cases hm
  .let⟨c,hc⟩:=F2 _ G Y;rw[hc];let⟨w,z⟩:=I.cell _ _ hc;exact⟨Y,z.lt⟩
 have mem:∀{y c},lX.cells.lookup y=some c->(X.env.cells.lookup y=some c/\c<s.heap.objs.size)∨(s.heap.objs.size+1<=c/\Ww (pushCells (s.heap.push {cls:= .type "dict",data:= .dict #[]}) scope.names) c none):= λ{y c} e=>by
  rw[hcl]at e;rcases uN (c9 e)with hm|⟨_,h2,h3⟩
  .exact .inl (cm hm)
  .rw[fP]at h2;exact .inr ⟨h2,h3⟩
 have look:∀{y},scope.names.lookup y=some .free->∃c,lX.cells.lookup y=some c/\X.env.cells.lookup y=some c:= λ{y} hl=>by
  have hy:(y,oW)∈scope.names:=c9 hl;let⟨c',e'⟩:=mem_lookup<|Ae (names:=scope.names) (n:=(s.heap.push {cls:= .type "dict",data:= .dict #[]}).objs.size)<|yu (cells:=X.env.cells) (acc:=[]) hy;rw[←hcl]at e';calc⟨c',e',?_⟩;rw[hcl]at e';rcases uN (c9 e')with hm|⟨G,_,_⟩
  .exact(cm hm).1
  .have:=ok.uniq _ G;rw[hl]at this;cases this
 have okB:(X.Mf s H scope lX fp).Ok:=by
  refine⟨I.ok.mod,by show lX.scope.kind=_;rw[Di];exact ok.kind,by show lX.globals=_;rw[←Py];exact I.ok.glob,by show lX.builtins=_;rw[←Py];exact I.ok.blt,by show s.heap.objs.size<=lX.locals;rw[hL];exact aT _,
   λy z c e1 e2=>?_,λy hy=>?_,λy c z e=>?_,I.ok.hd,I.ok.frames,.inl Y,λb hb=>⟨?_,λy c e z=>?_⟩,I.bs,bH I.ok.WH I.sz,λb o e hb=>?_,λb hb z=>?_,I.stack,I.As⟩
  .have e1:lX.cells.lookup y=some c:=e1;have e2:lX.cells.lookup z=some c:=e2;rw[hcl]at e1 e2;calc EN (λp hp=>?_) (λy z c a b=>I.ok.inj y z c (cm a).1 (cm b).1) (c9 e1)<|c9 e2;rw[fP];exact uC (cm (y:=p.1) (c:=p.2) hp).2
  .show∃c,lX.cells.lookup y=some c;have key:∀k,lX.kindOf y=some k->(k= .cell∨k= .free)->∃c,lX.cells.lookup y=some c:= λk hk hk'=>by
    unfold Env.kindOf at hk;rw[Di]at hk;let⟨k',e,r⟩:=yE hk;have:k'= .cell∨k'= .free:=by
     rcases r with rfl|⟨rfl,_⟩
     .exact hk'
     .exact .inr Y
    rcases this with rfl|rfl
    .let⟨c,hm⟩:=EM (n:=(s.heap.push {cls:= .type "dict",data:= .dict #[]}).objs.size) (acc:=fW X.env.cells scope.names [])<|c9 e;let⟨c',e'⟩:=mem_lookup hm;exact⟨c',by rw[hcl];exact e'⟩
    .let⟨c,G,_⟩:=look e;exact⟨c,G⟩
   rcases hy with hy|hy
   .exact key _ hy (.inl Y)
   .exact key _ hy (.inr Y)
  .have z:(scope.names.lookup y==some Iq)=true:=z;have z:scope.names.lookup y=some .cell:=by simpa using z
   have e:lX.cells.lookup y=some c:=e;rw[hcl]at e;rcases uN (c9 e)with hm|⟨_,h2,_⟩
   .rcases sW hm with hm|⟨G,_⟩
    .cases hm
    .have q:=ok.uniq _ G;rw[z]at q;cases q
   .rw[fP]at h2;exact uB h2
  .show b≠lX.locals;rw[hL];exact cj (hfp b hb).2
  .have e:lX.cells.lookup y=some c:=e;rcases mem e with⟨G,_⟩|⟨G,_⟩
   .exact(hfp b hb).1.2.2.2.2.1 y c G z
   .have h2:s.heap.objs.size+1<=b:=by rw[←z];exact G
    exact absurd (bD (hfp b hb).2<|uB h2) (fJ _)
  .rcases(hfp b hb).1.2.2.2.1 with z|z
   .exact I.ok.R5 b o e z
   .exact absurd (bD (bA e)<|bH I.ok.WH z) (fJ _)
  .rcases aX.mp (I.FA b z)with z|z
   .exact(hfp b hb).1.2.1 z
   .exact(hfp b hb).1.2.2.1 z
 refine⟨okB,Y,I.bare,Un.kept kp,⟨λ_=>none,?_,λi y av e1 e2 e3=>?_⟩,λy c e=>?_,?_,λy c e=>?_,λp hp=>?_,I.fQ.kept kp,by rw[tX];exact I.len⟩
 .show eZ.Ns _ lX.locals _;rw[hL];exact Heap.Ns.keeps (Heap.Ns.new ..) λb o e=>sR _ _ _ _ e
 .let⟨e2,Lw⟩:=Ax e2;have hfr:scope.names.lookup y=some .free/\(lX.kindOf y=some .cell∨lX.kindOf y=some .free):=by
   have key:∀k,lX.scope.names.lookup y=some k->k= .local∨k= .cell∨k= .free->scope.names.lookup y=some .free/\(lX.kindOf y=some .cell∨lX.kindOf y=some .free):= λk hk hk'=>by
    have hk0:=hk;rw[Di]at hk;let⟨k',e,r⟩:=yE hk;have no:¬(k'= .local∨k'= .cell):= λhh=>by
     rcases ok.own _ (c9 e) hh with e'|e'
     .let⟨p,hp,hpy⟩:=b6.mp e';have e3:=ok.ix p hp;have:p.1=y:=hpy;rw[this]at e3;exact Lw (b6.mpr ⟨p,hp,Ju hN e3 e1⟩)
     .exact e' (bf e1)
    rcases r with rfl|⟨rfl,rfl⟩
    .rcases hk' with rfl|rfl|rfl
     .exact absurd (.inl Y) no
     .exact absurd (.inr Y) no
     .exact⟨e,.inr hk0⟩
    .exact⟨e,.inl hk0⟩
   have e3:Vis lX.scope y:=e3;rcases e3 with e3|e3|e3
   .exact key _ e3 (.inl Y)
   .exact key _ e3 (.inr<|.inl Y)
   .exact key _ e3 (.inr<|.inr Y)
  let⟨m,hn,hl⟩:=I.loc;have alG:Vis X.env.scope y:=(ok.free _ (c9 hfr.1) Y).elim (λk=> .inr<|.inl k) (λk=> .inr<|.inr k);let⟨w,r,q⟩:=hl i y av e1 e2 alG;calc⟨w,r,.inr ⟨hfr.2,?_⟩⟩;let⟨c,G,h2⟩:=look hfr.1;rcases q with⟨k,_⟩|⟨_,c',e',z⟩
  .have k:X.env.scope.names.lookup y=some .local:=k;rcases ok.free _ (c9 hfr.1) rfl with k'|k'<;>rw[show X.env.scope.names.lookup y=_ from k']at k<;>cases k
  .rw[h2]at e';cases e';exact⟨c,G,z.keeps kp⟩
 .have e:lX.cells.lookup y=some c:=e;rcases mem e with⟨G,_⟩|⟨_,z⟩
  .let⟨w,z⟩:=I.cell y c G;exact⟨w,z.keeps kp⟩
  .exact⟨_,z⟩
 .show H lX.locals=none;rw[hL];exact I.fQ.fresh (aT _)
 .have e:lX.cells.lookup y=some c:=e;rcases mem e with⟨G,_⟩|⟨G,_⟩
  .exact I.o6 y c G
  .exact I.fQ.fresh (uB G)
 .exact absurd (show p∈([]:List<|O×Obj)++[]from hp) 's'
def WB(I:Inv X aB Z H s)(hD:H D=some (.lst xs))(hz:xs.length<sizeLine)(r:RelV y v) (h:∀s',Inv X aB Z (upd H D<|.lst<|xs++[y]) s'->Q .none s'):wpAny (model X.prog X.w) X.A (call (.builtin "list.append") [.ref D,v]) Q E s:=by
 let⟨hz',d7,n,ri,e⟩:=I.fQ D _ hD;have hl:=ri.length;calc append_at (hsz:=by rw[bG];omega) e λh' sb Tp=>?_;calc h {s with heap:=h'} (I.write (t':=s.toks) (by rw[hD];trivial) (.inl Y) (λb u hb q=>(sb.2 b hb).trans q) ⟨_,Tp⟩ ⟨by rw[ak];exact hz,d7++[v],n+1,ri.append<|.cons r .nil,?_⟩);rw[Tp];simp
def PTs(X:Cx)(Eu:List Expr)(t:TT):Prop:=
 ∀(aB:List<|O×Obj) (s:aP) (Z:St) (H:Hp) (Q:Bool->Hp->Prop),Inv X aB Z H s->t Z H Q->
  wpAny (model X.prog X.w) X.A (forIn Eu true λc r=>if r=true then do let ok←isTrue c X.env (eval c X.env);pure (uz ok)else pure (uz r)) (TP X aB Z Q) X.xe s
def AM:TT:= λ_ H Q=>Q true H
def iF:PTs X [] AM:= λ_ _ _ H _ I h=>wpAny_tests_nil ⟨H,I,h⟩
def OE{t:Sem α}{Q Q':α->aP->Prop}(h:wpAny M A t Q (λ_ _=>False) s)(hQ:∀a s,Q a s->Q' a s):wpAny M A t Q' E s:=fF h hQ λ_ _ z=>dY z
def C9{R:abA->aP->Prop}{EH:Expr}{it acc:aC}(I:Nat->aP->Prop)
  (Ng:∀n s,I n s->wpAny (model prog w) A (pyNext it) (λr s₁=>match r with
   |none=>R (.ok .next) s₁
   |some v=>wpAny (model prog w) A (B3 EH it v) (λ_ acu=>wpAny (model prog w) A (assign EH env v) (λ_ s₂=>
     wpAny (model prog w) A (forIn Eu true λc r=>if r=true then do let ok←isTrue c env (eval c env);pure (uz ok)else pure (uz r)) (λok s₃=>
      if ok=true then wpAny (model prog w) A (eval G7 env) (λx s₄=>
       wpAny (model prog w) A (call (.builtin "list.append") [acc,x]) (λ_ s₅=>∃m,m<n/\I m s₅) (notedBy (model prog w) A env λe s'=>R (.error e) s') s₄) (notedBy (model prog w) A env λe s'=>R (.error e) s') s₃
      else∃m,m<n/\I m s₃) (notedBy (model prog w) A env λe s'=>R (.error e) s') s₂) (notedBy (model prog w) A env λe s'=>R (.error e) s') acu) (notedBy (model prog w) A env λe s'=>R (.error e) s') s₁) (notedBy (model prog w) A env λe s'=>R (.error e) s') s)
  (n:Nat)(h:I n s):
  codeAny (model prog w) A (.compLoop (.ListComp G7 [⟨EH,iter,Eu,0⟩] scope pos) 0 it acc env) R s:=by
 calc codeAny_loop Y I (λn s hI=>?_) n h;show wpAny _ A ((compTurn (.ListComp G7 [⟨EH,iter,Eu,0⟩] scope pos) 0 it acc env).onRaise (λx=>do noteFrame x env;theTreesLotGoes x)) _ _ s;calc wpAny_noted ?_;rw[compTurn_list];calc aQ<|x9<|aQ<|fF (Ng n s hI) (λr s₁ h₁=>?_) λ_ _ h'=>h';cases r with
 |none=>exact bS h₁
 |some v=>
  calc aQ<|fF h₁ (λ_ acu ahI=>?_) λ_ _ h'=>h';calc aQ<|fF ahI (λ_ s₂ h₂=>aQ<|fF h₂ (λok s₃ h₃=>?_) λ_ _ h'=>h') λ_ _ h'=>h';cases ok with
  |false=>exact bS ⟨Y,h₃⟩
  |true=>
   exact aQ (aQ<|fF h₃ (λx s₄ h₄=>aQ<|fF h₄ (λ_ s₅ h₅=>bS<|bS ⟨Y,h₅⟩) λ_ _ h'=>h') λ_ _ h'=>h')
def KL(wi:TI)(g:TG)(tt:TT)(te:TE)(S:List Nat):TE:= λZ H Q=>wi Z H λatD L=>∀D,L D=none->∃W:Nat->Nat->Hp->Prop,(∃m,W 0 m<|upd L D<|.lst [])/\∀i m H,W i m H->(atD.stop i H/\Q (.ref D) H)∨(atD.go i H/\∃Nx:Hp->Prop,(∀U,Nx U->∃m',m'<m/\W (i+1) m' U)/\∀x U,atD.Zr i H x U->g x (wipe Z S) U λσ2 H2=>wipe σ2 S=wipe Z S/\tt σ2 H2 λb H3=>
  if b=true then te σ2 H3 λy H4=>∃acc,H4 D=some (.lst acc)/\acc.length<sizeLine/\Nx (upd H4 D<|.lst<|acc++[y])else Nx H3)
def TH{Q:VK}{use:Option (aC->Sem Unit)}{Qf:aC->aP->Prop} (hc:X.calm=true)(hN:X.N.Nodup)(I:Inv X aB Z H s)(hi:PI X tg iter wi)(ok:FO X.N X.env.scope scope own) (hg:∀(s:aP) (H:Hp) (C:O) (cl:List<|Str×O) (fp:List O),PG (X.Mf s H scope (compEnvC scope cl C X.env) fp) tg g)(ht:∀(s:aP) (H:Hp) (C:O) (cl:List<|Str×O) (fp:List O),PTs (X.Mf s H scope (compEnvC scope cl C X.env) fp) Eu tt) (he:∀(s:aP) (H:Hp) (C:O) (cl:List<|Str×O) (fp:List O),PE (X.Mf s H scope (compEnvC scope cl C X.env) fp) G7 te)(hs:∀x,jS iter X.env x=pure x) (h:KL wi g tt te (own.map (·.2)) Z H Q) (hRR:∀D C s' m U,Inv X aB Z U s'->Q (.ref D) U->s'.heap.Ns C m->sP X aB U C->compPost (model X.prog X.w) X.A X.xe use Qf (.ref D) C (.ok .next) s'):wpAny (model X.prog X.w) X.A (comprehension (.ListComp G7 [⟨tg,iter,Eu,0⟩] scope pos) scope X.env rF (newList []) false (eval iter X.env) use) Qf X.xe s:=by
 have F2:∀y∈scope.names,y.2= .free->∃c,X.env.cells.lookup y.1=some c:= λy hy e=>by
  rcases ok.free y hy e with k|k
  .exact I.ok.has _ (.inl k)
  .exact I.ok.has _ (.inr k)
 calc S1 (use:=use) Y hs (II F2) ok.kind (λy hy e=>by rw[ok.uniq y hy,e])<|iz (hi aB s Z H _ I h) λxv s1 hx=>iz hx λitv s2 h2=>?_;let⟨it,fp,tn,atD,H2,e,I2,T,st2,f2,q⟩:=h2;subst e;calc jT (Ge ?_) (by show 0<=sizeLine;decide);generalize hD:s2.heap.objs.size=D;have hDn:H2 D=none:=I2.fQ.fresh<|oV hD;let⟨W,⟨m0,w0⟩,Ng⟩:=q D hDn;generalize hs3:({s2 with heap:=s2.heap.push {cls:= .type "list",data:= .seq ([]:List aC).toArray} }:aP)=s3;have I3:Inv X aB Z (upd H2 D<|.lst []) s3:=by
  rw[←hs3];calc I2.laid (t':=s2.toks) (λb o e=>aS _ e) (oV hD) ⟨b7 _,[],0,.nil,?_⟩;rw[←hD];exact bZ _ Y
 have h3:s3.heap=s2.heap.push {cls:= .type "list",data:= .seq ([]:List aC).toArray}:=by rw[←hs3]
 have sz:∀b∈fp,b<s2.heap.objs.size:= λb hb=>by
  let⟨o,e,_⟩:=T.obj _ _ st2 b hb;exact bA e
 have f3:∀b∈fp,sP X aB (upd H2 D<|.lst []) b/\b<s3.heap.objs.size:= λb hb=>by
  have xU:=sz b hb;calc⟨⟨?_,(f2 b hb).2⟩,by rw[h3,fP];exact uC xU⟩;rw[aY<|by rw[←hD];exact cj xU];exact(f2 b hb).1
 have st3:tn 0 s3.heap:=T.keep _ _ _ st2 λb _ o e=>by rw[h3];exact aS _ e
 have I4:=FQ I3 ok hN f3;have pg:=hg s3 (upd H2 D<|.lst []) s3.heap.objs.size (cellsFrom (s3.heap.objs.size+1) scope.names<|fW X.env.cells scope.names []) fp;have pt:=ht s3 (upd H2 D<|.lst []) s3.heap.objs.size (cellsFrom (s3.heap.objs.size+1) scope.names<|fW X.env.cells scope.names []) fp;have pe:=he s3 (upd H2 D<|.lst []) s3.heap.objs.size (cellsFrom (s3.heap.objs.size+1) scope.names<|fW X.env.cells scope.names []) fp;show codeAny _ _ (.compStart (.ListComp G7 [⟨tg,iter,Eu,0⟩] scope pos) 0 (.ref it) (.ref D)<|compEnvC scope (cellsFrom (s3.heap.objs.size+1) scope.names<|fW X.env.cells scope.names []) s3.heap.objs.size X.env) (compPost (model X.prog X.w) X.A X.xe use Qf (.ref D) s3.heap.objs.size) {s3 with heap:=pushCells (s3.heap.push {cls:= .type "dict",data:= .dict #[]}) scope.names};have nfp:∀b∈fp,(upd H2 D<|.lst []) b=none:= λb hb=>(f3 b hb).1.1;generalize hce:compEnvC scope (cellsFrom (s3.heap.objs.size+1) scope.names<|fW X.env.cells scope.names []) s3.heap.objs.size X.env=ce at I4 pg pt pe⊢;have cL:ce.locals=s3.heap.objs.size:=by subst hce;rfl
 generalize hH3:upd H2 D (.lst [])=H3 at I3 I4 pg pt pe w0 nfp f3;generalize hs4:({s3 with heap:=pushCells (s3.heap.push {cls:= .type "dict",data:= .dict #[]}) scope.names}:aP)=s4 at I4⊢;have st4:tn 0 s4.heap:=T.keep _ _ _ st3 λb _ o e=>by rw[←hs4];exact sR _ _ _ _ (aS _ e)
 have KD:∀{σ':St} {U:Hp} {s':aP},Inv (X.Mf s3 H3 scope ce fp) [] σ' U s'->(∀b∈fp,U b=none)->∀b∈fp,sP (X.Mf s3 H3 scope ce fp) [] U b:= λ{σ' U s'} I' hn b hb=>
  ⟨hn b hb,(I'.ok.exf b hb).1,I'.ok.Pp b hb,.inl hb,λx c e=>(I'.ok.exf b hb).2 x c e,λp hp=>absurd (show p∈([]:List<|O×Obj)++[]from hp) 's'⟩
 have loop:codeAny (model X.prog X.w) X.A (.compLoop (.ListComp G7 [⟨tg,iter,Eu,0⟩] scope pos) 0 (.ref it) (.ref D) ce) (compPost (model X.prog X.w) X.A X.xe use Qf (.ref D) s3.heap.objs.size) s4:=by
  calc C9 (λn s'=>∃i U,Inv (X.Mf s3 H3 scope ce fp) [] (wipe Z (own.map (·.2))) U s'/\tn i s'.heap/\(∀b∈fp,U b=none)/\W i n U) ?_ m0 ⟨0,H3,I4,st4,nfp,w0⟩;rintro n s5 ⟨i,H5,I5,st5,n5,w5⟩;rcases Ng i n H5 w5 with⟨stop,qq⟩|⟨go,Nx,hNx,step⟩
  .have td:=T.done (X.Mf s3 H3 scope ce fp) Y Y Y hc i [] s5 _ H5 (λ_ _=>False) I5 (KD I5 n5) st5 stop;calc OE td ?_;rintro r s6 ⟨hr,I6⟩;subst hr;have I7:Inv X aB Z H5 s6:=I3.Mg (ch:=fp) I6.os I6.base I6.fQ I6.bare λb hb=>⟨(f3 b hb).1.2.2.2.1,(f3 b hb).1.2.1,(f3 b hb).1.2.2.2.2.1,(f3 b hb).1.2.2.2.2.2⟩;have nC:H5 s3.heap.objs.size=none:=by
    have z:H5 ce.locals=none:=I6.free;rw[cL]at z;exact z
   let⟨m,hn,_⟩:=I6.loc;have hn:s6.heap.Ns ce.locals m:=hn;rw[cL]at hn;exact hRR D s3.heap.objs.size s6 m H5 I7 qq hn (I3.Cg (aT _) nC)
  .have ti:=T.item (X.Mf s3 H3 scope ce fp) Y Y Y hc i [] s5 _ H5 (λ_ _=>False) I5 (KD I5 n5) st5 go;calc OE ti ?_;rintro r s6 ⟨u,hr,h6⟩;subst hr;calc OE h6 ?_;rintro _ s7 ⟨x,H7,I7,r7,y7,Wh,n7⟩;have I7':=I7.pinned (KD I7 n7)<|T.obj _ _ Wh;calc OE (pg _ s7 _ H7 x u _ I7' r7<|step x H7 y7) ?_;rintro _ s8 ⟨σ8,H8,I8,hw8,q8⟩;calc OE (pt _ s8 σ8 H8 _ I8 q8) ?_;rintro b s9 ⟨H9,I9,q9⟩;have fin:∀{s':aP} {U:Hp},Inv (X.Mf s3 H3 scope ce fp) ([]++Fj fp s7.heap) σ8 U s'->Nx U->∃m,m<n/\∃i U,Inv (X.Mf s3 H3 scope ce fp) [] (wipe Z (own.map (·.2))) U s'/\tn i s'.heap/\(∀b∈fp,U b=none)/\W i m U:= λ{s' U} I' nx=>by
    let⟨m',hm,w'⟩:=hNx U nx;have XX:∀b∈fp,∀o,s7.heap.get? b=some o->s'.heap.get? b=some o/\U b=none:= λb hb o e=>
     let z:=I'.pin (b,o) (eU _<|eU _<|wc hb e)
     ⟨z.1,z.2.1⟩
    have hl:(wipe Z (own.map (·.2))).length=σ8.length:=by rw[←hw8,tX]
    refine⟨m',hm,i+1,U,(I'.zW (aB:=[])).weak hl (λj v e=>?_),T.keep _ _ _ Wh λb hb o e=>(XX b hb o e).1,λb hb=>?_,w'⟩
    .rw[←hw8]at e;exact(Ax e).1
    .let⟨o,e,_⟩:=T.obj _ _ Wh b hb;exact(XX b hb o e).2
   cases b with
   |false=>
    simp only[CZ,UP]at q9⊢;exact fin I9 q9
   |true=>
    simp only[OP]at q9⊢;calc OE (pe _ s9 σ8 H9 _ I9 q9) ?_;rintro z Wg ⟨yv,H10,I10,r10,acc,RH,adJ,nx⟩;exact WB (X:=X.Mf s3 H3 scope ce fp) I10 RH adJ r10 λQ6 I11=>fin I11 nx
 exact V5 loop (T.self X.A 0 _ _ _ st4 loop)
def tD(hc:X.calm=true)(hN:X.N.Nodup)(hi:PI X tg iter wi)(ok:FO X.N X.env.scope scope own) (hg:∀(s:aP) (H:Hp) (C:O) (cl:List<|Str×O) (fp:List O),PG (X.Mf s H scope (compEnvC scope cl C X.env) fp) tg g)(ht:∀(s:aP) (H:Hp) (C:O) (cl:List<|Str×O) (fp:List O),PTs (X.Mf s H scope (compEnvC scope cl C X.env) fp) Eu tt) (he:∀(s:aP) (H:Hp) (C:O) (cl:List<|Str×O) (fp:List O),PE (X.Mf s H scope (compEnvC scope cl C X.env) fp) G7 te)(hs:∀x,jS iter X.env x=pure x:=by intro _;rfl):PE X (.ListComp G7 [⟨tg,iter,Eu,0⟩] scope pos) (KL wi g tt te (own.map (·.2))):=by
 intro aB s Z H Q I h;rw[akk];calc TH hc hN I hi ok hg ht he hs h λD C s' m U I' q hn f=>⟨m,hn,λh'' sb=>?_⟩;let⟨f0,f1,f2,f3,f4,f5⟩:=f;exact⟨.ref D,U,I'.turned (t':=s'.toks) (λb o hb e=>(sb.2 b hb).trans e) f0 f1 f3 f4 f5,Y,q⟩
def yV{i:Nat}{y:Str}{YE:Pos}(hc:X.calm=true)(hN:X.N.Nodup)(hy:X.N[i]? =some y)(hyl:X.env.scope.names.lookup y=some .local)
  (hsw:nA (.ListComp G7 [⟨tg,iter,Eu,0⟩] scope pos) (some<|.Name y py) YE.line X.env=pure true)(hi:PI X tg iter wi)(ok:FO X.N X.env.scope scope own)
  (hg:∀(s:aP) (H:Hp) (C:O) (cl:List<|Str×O) (fp:List O),PG (X.Mf s H scope (compEnvC scope cl C X.env) fp) tg g)(ht:∀(s:aP) (H:Hp) (C:O) (cl:List<|Str×O) (fp:List O),PTs (X.Mf s H scope (compEnvC scope cl C X.env) fp) Eu tt)
  (he:∀(s:aP) (H:Hp) (C:O) (cl:List<|Str×O) (fp:List O),PE (X.Mf s H scope (compEnvC scope cl C X.env) fp) G7 te)(hs:∀x,jS iter X.env x=pure x:=by intro _;rfl):
  PS X (.Assign [.Name y py] (.ListComp G7 [⟨tg,iter,Eu,0⟩] scope pos) YE) (CL (KL wi g tt te (own.map (·.2)))<|ic i):=by
 intro aB s Z H D I h;rw[Wq _ _ _ _ hsw];calc aQ<|x9<|aQ ?_;show wpAny _ X.A (do let _←comprehension (.ListComp G7 [⟨tg,iter,Eu,0⟩] scope pos) scope X.env (firstIterPos [⟨tg,iter,Eu,0⟩] pos) (newList []) false (eval iter X.env) (some (assign (.Name y py) X.env))) _ _ s;have h:KL wi g tt te (own.map (·.2)) Z H (λx L=>ic i x Z L D.nx):=h;calc aQ<|iz (TH (Qf:= λ_ s'=>SP X aB D .next s') hc hN I hi ok hg ht he hs h λatF C s' m U I' q hn f=>?_) λ_ s' hq=>bS<|bS hq;show wpAny _ _ (assign (.Name y py) X.env<|.ref atF) _ _ _;calc K6<|Au (v:=V.ref atF) I' hN hy (.inl hyl) Y (?_)<|.inr hyl;rintro s2 I2 ⟨a,sb,ha⟩;let⟨f0,f1,f2,f3,f4,f5⟩:=f;have haC:C≠a:=by
  rcases ha with z|z
  .rw[z];exact f1
  .exactλe=>f4 y a z e.symm
 calc⟨m,hn.sameBut sb haC,λh3 sb3=>?_⟩;exact⟨_,U,I2.turned (t':=s2.toks) (λb o hb e=>(sb3.2 b hb).trans e) f0 f1 f3 f4 f5,q⟩
def Av{gs:List Comprehension}{y:Str}{l:Nat}(hk:env.scope.kind= .function)(hy:env.scope.names.lookup y=some .local)(hl:(py.line==pos.line)=true) (ha:(scope.names.any λ(n,k)=>n==y&&(k== .local||k== .cell))=false):nA (.ListComp G7 gs scope pos) (some<|.Name y py) l env=pure true:=by
 have ky:env.kindOf y=some .local:=hy;have hb:env.blockKind= .function:=by unfold Env.blockKind;rw[hk];rfl
 unfold nA;simp only[hb,ky,ha];show pure (_&&(py.line==pos.line)&&_)=_;rw[hl];rfl
def PX{lo:Int}(Pv:Nat->Hp->Prop)(h0:Pv 0<|upd L D<|.lst []) (hs:∀i H,i<n->Pv i H->g (.int<|lo+i) (wipe Z S) H λσ2 H2=>wipe σ2 S=wipe Z S/\tt σ2 H2 λb H3=>
   if b=true then te σ2 H3 λy H4=>∃acc,H4 D=some (.lst acc)/\acc.length<sizeLine/\Pv (i+1) (upd H4 D<|.lst<|acc++[y])else Pv (i+1) H3)(hd:∀H,Pv n H->Qd H):
  ∃W:Nat->Nat->Hp->Prop,(∃m,W 0 m<|upd L D<|.lst [])/\∀i m H,W i m H->((UR lo n).stop i H/\Qd H)∨((UR lo n).go i H/\∃Nx:Hp->Prop,(∀U,Nx U->∃m',m'<m/\W (i+1) m' U)/\∀x U,(UR lo n).Zr i H x U->g x (wipe Z S) U λσ2 H2=>wipe σ2 S=wipe Z S/\tt σ2 H2 λb H3=>
    if b=true then te σ2 H3 λy H4=>∃acc,H4 D=some (.lst acc)/\acc.length<sizeLine/\Nx (upd H4 D<|.lst<|acc++[y])else Nx H3):=by
 calc⟨λi m H=>m=n-i/\i<=n/\Pv i H,⟨n,'s',b7 _,h0⟩,?_⟩;rintro i m H ⟨rfl,hi,p⟩;by_cases xU:i<n
 .calc .inr ⟨xU,Pv<|i+1,λU p'=>⟨n-(i+1),'o',Y,xU,p'⟩,λx U y=>?_⟩;let⟨e,y⟩:=y;subst e y;exact hs i _ xU p
 .have e:i=n:=by omega
  subst e;exact .inl ⟨aT _,hd H p⟩
def HY(Pv:Nat->Hp->Prop)(h0:Pv 0<|upd L D<|.lst [])(hl:∀i H,i<=xs.length->Pv i H->cP K H a xs) (hs:∀i x H,xs[i]? =some x->Pv i H->g x (wipe Z S) H λσ2 H2=>wipe σ2 S=wipe Z S/\tt σ2 H2 λb H3=>
   if b=true then te σ2 H3 λy H4=>∃acc,H4 D=some (.lst acc)/\acc.length<sizeLine/\Pv (i+1) (upd H4 D<|.lst<|acc++[y])else Pv (i+1) H3)(hd:∀H,Pv xs.length H->Qd H):
  ∃W:Nat->Nat->Hp->Prop,(∃m,W 0 m<|upd L D<|.lst [])/\∀i m H,W i m H->((Itl K a).stop i H/\Qd H)∨((Itl K a).go i H/\∃Nx:Hp->Prop,(∀U,Nx U->∃m',m'<m/\W (i+1) m' U)/\∀x U,(Itl K a).Zr i H x U->g x (wipe Z S) U λσ2 H2=>wipe σ2 S=wipe Z S/\tt σ2 H2 λb H3=>
    if b=true then te σ2 H3 λy H4=>∃acc,H4 D=some (.lst acc)/\acc.length<sizeLine/\Nx (upd H4 D<|.lst<|acc++[y])else Nx H3):=by
 calc⟨λi m H=>m=xs.length-i/\i<=xs.length/\Pv i H,⟨xs.length,'s',b7 _,h0⟩,?_⟩;rintro i m H ⟨rfl,hi,p⟩;have q:=hl i H hi p;by_cases xU:i<xs.length
 .calc .inr ⟨⟨xs,xs[i],q,by simp[xU]⟩,Pv<|i+1,λU p'=>⟨xs.length-(i+1),'o',Y,xU,p'⟩,λx U y=>?_⟩;let⟨e,y⟩:=y;subst e;exact hs i x _ (y xs q) p
 .have e:i=xs.length:=by omega
  subst e;exact .inl ⟨⟨xs,q,aT _⟩,hd H p⟩
def adZ(Pv:Nat->Hp->Prop)(h0:Pv 0<|upd L D<|.lst [])(hl:∀i H,i<=xs.length->Pv i H->oS K H a xs) (hs:∀i x H,xs[i]? =some x->Pv i H->g x (wipe Z S) H λσ2 H2=>wipe σ2 S=wipe Z S/\tt σ2 H2 λb H3=>
   if b=true then te σ2 H3 λy H4=>∃acc,H4 D=some (.lst acc)/\acc.length<sizeLine/\Pv (i+1) (upd H4 D<|.lst<|acc++[y])else Pv (i+1) H3)(hd:∀H,Pv xs.length H->Qd H):
  ∃W:Nat->Nat->Hp->Prop,(∃m,W 0 m<|upd L D<|.lst [])/\∀i m H,W i m H->((Itt K a).stop i H/\Qd H)∨((Itt K a).go i H/\∃Nx:Hp->Prop,(∀U,Nx U->∃m',m'<m/\W (i+1) m' U)/\∀x U,(Itt K a).Zr i H x U->g x (wipe Z S) U λσ2 H2=>wipe σ2 S=wipe Z S/\tt σ2 H2 λb H3=>
    if b=true then te σ2 H3 λy H4=>∃acc,H4 D=some (.lst acc)/\acc.length<sizeLine/\Nx (upd H4 D<|.lst<|acc++[y])else Nx H3):=by
 calc⟨λi m H=>m=xs.length-i/\i<=xs.length/\Pv i H,⟨xs.length,'s',b7 _,h0⟩,?_⟩;rintro i m H ⟨rfl,hi,p⟩;have q:=hl i H hi p;by_cases xU:i<xs.length
 .calc .inr ⟨⟨xs,xs[i],q,by simp[xU]⟩,Pv<|i+1,λU p'=>⟨xs.length-(i+1),'o',Y,xU,p'⟩,λx U y=>?_⟩;let⟨e,y⟩:=y;subst e;exact hs i x _ (y xs q) p
 .have e:i=xs.length:=by omega
  subst e;exact .inl ⟨⟨xs,q,aT _⟩,hd H p⟩
noncomputable def agF(N:List Str)(sc scope:qL)(own:List<|Str×Nat):Bool:=(match scope.kind with| .function=>true|_=>false)&&(scope.names.all λy=>decide<|scope.names.lookup y.1=some y.2)&&(own.all λp=>decide<|N[p.2]? =some p.1)&&(scope.names.all λy=>match y.2 with
   | .free=>(match sc.names.lookup y.1 with|some .cell=>true|some .free=>true|_=>false)
   | .local=>decide (y.1∈own.map (·.1))||decide (y.1∉N)
   | .cell=>decide (y.1∈own.map (·.1))||decide (y.1∉N)
   |_=>true)
def gq{N:List Str}(h:agF N sc scope own=true):FO N sc scope own:=by
 unfold agF at h;simp only[bI,dO,aU]at h;let⟨⟨⟨G,h2⟩,h3⟩,h4⟩:=h;refine⟨?_,h2,h3,λy hy e=>?_,λy hy e=>?_⟩
 .split at G
  .assumption
  .cases G
 .have q:=h4 y hy;simp only[e]at q;split at q<;>first|exact .inl (by assumption)|exact .inr (by assumption)|cases q
 .have q:=h4 y hy;rcases e with e|e<;>(simp only[e,nj,aU]at q;exact q)
section
variable [DecidableEq κ]
def mS(kvs:List<|κ×V)(k:κ):Option V:=(kvs.find? λkv=>decide<|kv.1=k).map (·.2)
def putK(kvs:List<|κ×V)(k:κ)(v:V):List<|κ×V:=if(kvs.any λkv=>decide<|kv.1=k)=true then kvs.map (λkv=>if kv.1=k then(kv.1,v)else kv)else kvs++[(k,v)]
def jI{p:κ×V}{r:List (κ×V)}{k:κ}(e:p.1=k):mS (p::r) k=some p.2:=by simp[mS,gA,e]
def jq{p:κ×V}{r:List (κ×V)}{k:κ}(e:¬p.1=k):mS (p::r) k=mS r k:=by simp[mS,gA,e]
def qf(k:κ):∀kvs:List<|κ×V,(kvs.any λkv=>decide<|kv.1=k)=(mS kvs k).isSome
 |[]=>rfl
 |p::r=>by
  rw[eS];by_cases e:p.1=k
  .simp only[jI e,aR e,xF,Rh]
  .rw[jq e,bB e,mV];exact qf k r
def QF(k j:κ)(y:V):∀kvs:List<|κ×V,mS (kvs.map λkv=>if kv.1=k then(kv.1,y)else kv) j=(mS kvs j).map λx=>if j=k then y else x
 |[]=>rfl
 |p::r=>by
  have ih:=QF k j y r;rw[bK];by_cases h:p.1=k
  .rw[aG h];by_cases e:p.1=j
   .rw[jI (p:=(p.1,y)) e,jI e,gY,aG<|e.symm.trans h]
   .rw[jq (p:=(p.1,y)) e,jq e,ih]
  .rw[az h];by_cases e:p.1=j
   .rw[jI (p:=p) e,jI e,gY,az λz=>h<|e.trans z]
   .rw[jq (p:=p) e,jq e,ih]
def M0(k j:κ)(y:V):∀kvs:List<|κ×V,mS kvs k=none->mS (kvs++[(k,y)]) j=if j=k then some y else mS kvs j
 |[],_=>by
  by_cases e:k=j
  .rw[aG e.symm];exact jI (p:=(k,y)) e
  .rw[az λz=>e z.symm];exact jq (p:=(k,y)) e
 |p::r,hn=>by
  rw[Wj];have hk:¬p.1=k:= λz=>by rw[jI z]at hn;cases hn
  rw[jq hk]at hn;have ih:=M0 k j y r hn;by_cases e:p.1=j
  .rw[jI e,jI e,az λz=>hk<|e.trans z]
  .rw[jq e,jq e,ih]
def YV(kvs:List<|κ×V)(k j:κ)(y:V):mS (putK kvs k y) j=if j=k then some y else mS kvs j:=by
 unfold putK;by_cases a:(kvs.any λkv=>decide<|kv.1=k)=true
 .rw[aG a,QF];rw[qf]at a;by_cases e:j=k
  .let⟨x,hx⟩:=Lg.mp a;rw[aG e,e,hx,gY,aG Y]
  .rw[az e];cases mS kvs j with
   |none=>rfl
   |some x=>rw[gY,az e]
 .rw[az a];calc M0 k j y kvs ?_;rw[qf]at a;cases q:mS kvs k with
  |none=>rfl
  |some x=>rw[q]at a;exact(a Y).elim
theorem pZ(kvs:List<|κ×V)(k:κ)(v:V):(putK kvs k v).length<=kvs.length+1:=by
 unfold putK;split
 .rw[ai];lia
 .rw[ak,ay,kW];lia
def pW.uQ{u:Option aC}(r:pW o u):o.isSome=u.isSome:=by
 cases o with
 |none=>cases u with
  |none=>rfl
  |some _=>exact(show False from r).elim
 |some _=>cases u with
  |none=>exact(show False from r).elim
  |some _=>rfl
def KV.val{kvs:List (κ×V)}{S:List (κ×aC)}(r:KV kvs S)(k:κ):pW (mS kvs k)<|valueAt S k:=by
 unfold KV at r;induction r with
 |nil=>exact lW
 | @cons p q ps qs h t ih=>
  let⟨G,h2⟩:=h;by_cases e:p.1=k
  .have e':q.1=k:=G.symm.trans e;have b:valueAt (q::qs) k=some q.2:=by simp[valueAt,gA,e']
   rw[jI e,b];exact h2
  .have e':¬q.1=k:= λz=>e<|G.trans z;have b:valueAt (q::qs) k=valueAt qs k:=by simp[valueAt,gA,e']
   rw[jq e,b];exact ih
def KV.any{kvs:List (κ×V)}{S:List (κ×aC)}(r:KV kvs S)(k:κ):(kvs.any λkv=>decide<|kv.1=k)=S.any λkv=>decide<|kv.1=k:=by
 unfold KV at r;induction r with
 |nil=>rfl
 |cons h t ih=>rw[eS,eS,ih,h.1]
def KV.aez{kvs:List (κ×V)}{S:List (κ×aC)}(r:KV kvs S)(k:κ)(ry:RelV y u):KV (kvs.map λkv=>if kv.1=k then(kv.1,y)else kv)<|S.map λkv=>if kv.1=k then(kv.1,u)else kv:=by
 unfold KV at r⊢;induction r with
 |nil=>exact .nil
 | @cons p q ps qs h t ih=>
  rw[bK,bK];calc .cons ?_ ih;let⟨G,h2⟩:=h;by_cases e:p.1=k
  .rw[aG e,aG<|G.symm.trans e];exact⟨G,ry⟩
  .rw[az e,az λz=>e<|G.trans z];exact⟨G,h2⟩
def KV.put{kvs:List (κ×V)}{S:List (κ×aC)}(r:KV kvs S)(k:κ)(ry:RelV y u):KV (putK kvs k y)<|stored S k u:=by
 unfold putK stored;rw[r.any k];by_cases e:(S.any λkv=>decide<|kv.1=k)=true
 .rw[aG e,aG e];exact r.aez k ry
 .rw[az e,az e];exact abz r ⟨Y,ry⟩
def KV.length{kvs:List (κ×V)}{S:List (κ×aC)}(r:KV kvs S):kvs.length=S.length:=tY r
def F5{k:Key}(r:RelV (kV k) u):(iE P w).is k u=true:=by
 cases k with
 |inl i=>let⟨t,e⟩:=(show∃t,u=AF i t from r);subst e;exact P1 P w i t
 |inr x=>let⟨t,e⟩:=(show∃t,u=Nb x t from r);subst e;exact P4 P w x t
def Ms{P:eL}{w:gH}:∀{ks:List Key} {us:List aC},Vals (ks.map kV) us->ItemsAre (iE P w) ks us
 |[],_,r=>by rw[mh]at r;cases r;exact .nil
 |k::ks,_,r=>by
  rw[bK]at r;cases r with
  |cons h t=>exact .cons (F5 h) (Ms t)
abbrev KT(H:Hp):List (List Key×V)->List (List Key×O×aC)->Prop:=Paired λp q=>p.1=q.1/\H q.2.1=some (.tup<|p.1.map kV)/\RelV p.2 q.2.2
def KT.val{xs:List (List Key×O×aC)}(r:KT H kvs xs)(k:List Key):pW (mS kvs k) ((atKey xs k).map (·.2)):=by
 induction r with
 |nil=>exact lW
 | @cons p q ps qs h t ih=>
  let⟨G,_,h2⟩:=h;by_cases e:p.1=k
  .have e':q.1=k:=G.symm.trans e;have b:atKey (q::qs) k=some q.2:=by simp[atKey,gA,e']
   rw[jI e,b];exact h2
  .have e':¬q.1=k:= λz=>e<|G.trans z;have b:atKey (q::qs) k=atKey qs k:=by simp[atKey,gA,e']
   rw[jq e,b];exact ih
def KT.aez{xs:List (List Key×O×aC)}(r:KT H kvs xs)(k:List Key)(ry:RelV y u):KT H (kvs.map λkv=>if kv.1=k then(kv.1,y)else kv)<|xs.map<|putAt k u:=by
 induction r with
 |nil=>exact .nil
 | @cons p q ps qs h t ih=>
  rw[bK,bK];calc .cons ?_ ih;let⟨G,h2,h3⟩:=h;unfold putAt;by_cases e:p.1=k
  .rw[aG e,aG<|G.symm.trans e];exact⟨G,h2,ry⟩
  .rw[az e,az λz=>e<|G.trans z];exact⟨G,h2,h3⟩
def KT.put{xs:List (List Key×O×aC)}(r:KT H kvs xs)(k:List Key){b:O}(hb:H b=some (.tup<|k.map kV))(ry:RelV y u):KT H (putK kvs k y)<|storedH xs k b u:=by
 have e:(kvs.any λkv=>decide<|kv.1=k)=(atKey xs k).isSome:=by
  rw[qf,(r.val k).uQ,sQ]
 unfold putK storedH;rw[e];by_cases q:(atKey xs k).isSome=true
 .rw[aG q,aG q];exact r.aez k ry
 .rw[az q,az q];exact abz r ⟨Y,hb,ry⟩
def KT.keeps{xs:List (List Key×O×aC)}(r:KT H kvs xs)(ht:∀b ys,H b=some (.tup ys)->U b=some (.tup ys)):KT U kvs xs:=Paired.aeb r λ_ _ z=>⟨z.1,ht _ _ z.2.1,z.2.2⟩
end
section
variable{h:eZ}
def aci{u:HO}(ok:vF P w H h)(e:Rd H a u):iL P w H h a u:=e.ok ok
def IJ{kvs:List (Key×V)}(ok:vF P w H h)(e:Rd H a<|.dK kvs):kvs.length<=sizeLine/\(a==oX)=false/\∃S,KV kvs S/\h.DictOf (iE P w) a S:=show iL P w H h a (.dK kvs)from aci ok e
def Pg{kvs:List (Key×V)}(ok:vF P w H h)(e:H a=some (.dK kvs)):kvs.length<=sizeLine/\(a==oX)=false/\∃S,KV kvs S/\h.DictOf (iE P w) a S:=IJ ok (.inl e)
def Jh{ks:List Key}(ok:vF P w H h)(e:H a=some (.tup<|ks.map kV)):(L3<|iE P w).is h ks a:=by
 let⟨_,d7,r,o,G,h2,n,h3⟩:=(show iL P w H h a (.tup<|ks.map kV)from ok a _ e);exact⟨o,d7.toArray,n,G,h2,h3,~~~Ms r⟩
def Pk(ok:vF P w H h)(e:Rd H a<|.dT kvs):kvs.length<=sizeLine/\(a==oX)=false/\∃xs,KT H kvs xs/\h.DictOfH (L3<|iE P w) a xs:=by
 let⟨z,y,xs,r,o,es,ep,G,h2,h3,h4,h5⟩:=(show iL P w H h a (.dT kvs)from aci ok e);calc⟨z,y,xs,r,o,es,ep,G,h2,h3,h4,λx hx=>?_,h5⟩;have all:∀{l:List (List Key×V)} {m:List (List Key×O×aC)},KT H l m->∀x∈m,(L3<|iE P w).is h x.1 x.2.1:=by
  intro l m q;induction q with
  |nil=>intro x hx;exact nomatch hx
  | @cons p q ps qs hq t ih=>
   intro x hx;rcases aX.mp hx with e|hx
   .subst e;exact Jh ok (by rw[←hq.1];exact hq.2.1)
   .exact ih x hx
 exact all r x hx
def agS(ok:vF P w H h)(e:H a=some (.dT kvs)):kvs.length<=sizeLine/\(a==oX)=false/\∃xs,KT H kvs xs/\h.DictOfH (L3<|iE P w) a xs:=Pk ok (.inl e)
def sO(H:Hp)(a:O)(y:V)(r:Option V):Prop:=(∃kvs k,Rd H a (.dK kvs)/\y=kV k/\r=mS kvs k)∨∃kvs k b,Rd H a (.dT kvs)/\y= .ref b/\H b=some (.tup<|k.map kV)/\r=mS kvs k
def Rn(H:Hp)(a:O)(y v:V)(U:Hp):Prop:=(∃kvs k,H a=some (.dK kvs)/\y=kV k/\kvs.length<sizeLine/\U=upd H a (.dK<|putK kvs k v))∨∃kvs k b,H a=some (.dT kvs)/\y= .ref b/\H b=some (.tup<|k.map kV)/\kvs.length<sizeLine/\U=upd H a (.dT<|putK kvs k v)
def sO.k{H:Hp}{a:O}{kvs:List (Key×V)}{k:Key}(e:H a=some (.dK kvs)):sO H a (kV k)<|mS kvs k:= .inl ⟨kvs,k,.inl e,Y,Y⟩
def Rn.k{H:Hp}{a:O}{kvs:List (Key×V)}{k:Key}{v:V}(e:H a=some (.dK kvs))(hl:kvs.length<sizeLine):Rn H a (kV k) v<|upd H a<|.dK<|putK kvs k v:= .inl ⟨kvs,k,e,Y,hl,Y⟩
end
section
variable{v:V}
def Inv.big(I:Inv X aB Z H s):oX<s.heap.objs.size:=by
 have h:mainGlobals<s.heap.objs.size:=(I.mod.glob.keeps I.bk).lt;exact x6 'd' h
def U1(hu:A.units+1<G4)(I:Inv X aB Z H s)(g:sO H a y<|some v)(ry:RelV y u)(h:∀w' s',Inv X aB Z H s'->RelV v w'->Q w' s'):wpAny (model X.prog X.w) A (getItem (.ref a) u) Q E s:=by
 rcases g with⟨kvs,k,e,ey,l⟩|⟨kvs,k,b,e,ey,eb,l⟩
 .subst ey;let⟨z,hd,S,sF,dd⟩:=IJ I.fQ e;let⟨w',hw,m8⟩:=pW.some_of (v:=v) (o:=valueAt S k) (by rw[l];exact sF.val k);exact afA (F5 ry) dd.mapOf hw (h w' _ (I.tok _) m8)
 .subst ey;cases(show u=bU b from ry);let⟨z,hd,xs,sF,dd⟩:=Pk I.fQ e;let⟨w',hw,m8⟩:=pW.some_of (v:=v) (o:=(atKey xs k).map (·.2)) (by rw[l];exact sF.val k);let⟨p,hp,hp2⟩:=cH.mp hw;calc wpAny_getItem_heap (vE hu) (Jh I.fQ eb) dd hp ?_;rw[hp2];exact h w' _ (I.tok _) m8
def akD(hu:A.units+1<G4)(I:Inv X aB Z H s)(g:sO H a y o)(ry:RelV y u)(h:∀s',Inv X aB Z H s'->Q (.bool o.isSome) s'):wpAny (model X.prog X.w) A (compareOp .In u<|.ref a) Q E s:=by
 rcases g with⟨kvs,k,e,ey,l⟩|⟨kvs,k,b,e,ey,eb,l⟩
 .subst ey;let⟨z,hd,S,sF,dd⟩:=IJ I.fQ e;calc wpAny_in_of (F5 ry) hd dd.mapOf ?_;rw[←(sF.val k).uQ,←l];exact h _ (I.tok _)
 .subst ey;cases(show u=bU b from ry);let⟨z,hd,xs,sF,dd⟩:=Pk I.fQ e;calc wpAny_in_heap (vE hu) (Jh I.fQ eb) hd dd ?_;have q:=(sF.val k).uQ;rw[sQ]at q;rw[←q,←l];exact h _ (I.tok _)
def ZS(hu:A.units+1<G4)(I:Inv X aB Z H s)(g:sO H a y o)(ry:RelV y u)(h:∀s',Inv X aB Z H s'->Q (.bool<|!o.isSome) s'):wpAny (model X.prog X.w) A (compareOp .NotIn u<|.ref a) Q E s:=by
 rcases g with⟨kvs,k,e,ey,l⟩|⟨kvs,k,b,e,ey,eb,l⟩
 .subst ey;let⟨z,hd,S,sF,dd⟩:=IJ I.fQ e;calc wpAny_notIn_of (F5 ry) hd dd.mapOf ?_;rw[←(sF.val k).uQ,←l];exact h _ (I.tok _)
 .subst ey;cases(show u=bU b from ry);let⟨z,hd,xs,sF,dd⟩:=Pk I.fQ e;calc wpAny_notIn_heap (vE hu) (Jh I.fQ eb) hd dd ?_;have q:=(sF.val k).uQ;rw[sQ]at q;rw[←q,←l];exact h _ (I.tok _)
def HV(I:Inv X aB Z H s)(mu:Mut<|H a)(hs:xH a s.heap h')(he:∃q,h'.get? a=some q)(new:iL X.prog X.w (upd H a ob) h' a ob):Inv X aB Z (upd H a ob) {s with heap:=h',toks:=t'}:=I.write (x:=a) (e:=a) mu (.inl Y) (λb q hb z=>(hs.2 b hb).trans z) he new
def Nt{kvs:List (Key×V)}{S:List (Key×aC)}(z:kvs.length<=sizeLine)(hd:(a==oX)=false)(sF:KV kvs S)(dd:h'.DictOf (iE P w) a S):iL P w U h' a<|.dK kvs:=⟨z,hd,S,sF,dd⟩
theorem U3{Q:Unit->aP->Prop}(hu:A.units+1<G4)(I:Inv X aB Z H s)(g:Rn H a y v U)(ry:RelV y u)(rv:RelV v r)(h:∀s',Inv X aB Z U s'->Q () s'):wpAny (model X.prog X.w) A (setItem (.ref a) u r) Q E s:=by
 rcases g with⟨kvs,k,e,ey,l,eH⟩|⟨kvs,k,b,e,ey,eb,l,eH⟩
 .subst ey eH;let⟨z,hd,S,sF,dd⟩:=Pg I.fQ e;have hz:S.length<=sizeLine:=by rw[←sF.length];exact z
  have hl:(putK kvs k v).length<=sizeLine:=by have:=pZ kvs k v;lia
  calc wpAny_setItem_pairs (hsz:=hz) (F5 ry) dd λh' V8 hs=>h _ ?_;have he:∃q,h'.get? a=some q:=let⟨q,_,_,hq,_⟩:=V8;⟨q,hq⟩;exact HV I (by rw[e];exact lW) hs he (Nt hl hd (sF.put k rv) V8)
 .subst ey eH;cases(show u=bU b from ry);let⟨z,hd,xs,sF,dd⟩:=agS I.fQ e;have hz:xs.length<=sizeLine:=by rw[←tY sF];exact z
  have hl:(putK kvs k v).length<=sizeLine:=by have:=pZ kvs k v;lia
  calc wpAny_setItem_heap (hsz:=hz) (vE hu) (Jh I.fQ eb) dd λh' V8 hs=>h _ ?_;let⟨q,es,ep,hq,h2,h3,h4,_,h5⟩:=V8;calc HV I (by rw[e];exact lW) hs ⟨q,hq⟩ ⟨hl,hd,_,(sF.put k eb rv).keeps λc ys ec=>?_,q,es,ep,hq,h2,h3,h4,h5⟩;rw[aY<|gz ec e λz=>nomatch z];exact ec
end
section
variable{kvs:List (Key×V)} {k:Key}
theorem agN(I:Inv X aB Z H s)(e:Rd H a<|.dK kvs)(h:∀t s',Inv X aB Z H s'->Q (.int kvs.length t) s'):wpAny (model X.prog X.w) A (call (.builtin "len") [.ref a]) Q E s:=by
 let⟨z,hd,S,sF,dd⟩:=IJ I.fQ e;calc call_len_dict hd dd (by rw[←sF.length];rw[aW]at z;lia) ?_;rw[←sF.length];exact h _ _ (I.tok _)
def acU(i:Expr):Prop:=∀ov iv,subscripted i false ov iv=operate [ov,iv] (getItem ov iv)
def Uq{AU:Expr}{id:String} (hl:lN (.type T) "__getitem__"=pure (some<|.builtin id))(hs:acU AU) (h:wpAny (model prog w) A (eval value env) (λo s₁=>wpAny (model prog w) A (eval AU env) (λi s₂=>s₂.TypeIs o T/\wpAny (model prog w) A (getItem o i) Q E s₂) E s₁) E s):wpAny (model prog w) A (eval (.Subscript value AU pos) env) Q E s:=by
 calc abx<|fF h (λo s₁ h₁=>fF h₁ (λi s₂ h₂=>?_) λ_ _ x=>x) λ_ _ x=>x;obtain⟨hT,h₂⟩:=h₂;unfold subscriptTail;calc aQ ?_;rw[getitemInPython_of_ne hT.not_modules];calc aQ<|ON hT hl ?_;have fin:wpAny (model prog w) A (subscripted AU false o i) (λr s₃=>wpAny (model prog w) A (letTemporaryGo value o r>>= λ_=>pure r) Q E s₃) E s₂:=by
  rw[hs o i];exact wpAny_operating (fF h₂ (λr s₃ h₃=>aQ<|wpAny_letTemporaryGo<|bS h₃) λ_ _ x=>x)
 first
  |exact bS (aQ fin)
  |exact aQ (bS (aQ fin))
  |exact aQ fin
end
def Pe(I:Inv X aB Z H s)(g:sO H a y o):s.TypeIs (.ref a) "dict":=by
 rcases g with⟨kvs,k,e,_,_⟩|⟨kvs,k,b,e,_,_,_⟩
 .let⟨_,_,S,_,dd⟩:=IJ I.fQ e;exact dd.typeIs
 .let⟨_,_,xs,_,dd⟩:=Pk I.fQ e;exact dd.typeIs
def aiN(td ty:TE):TE:= λZ H Q=>td Z H λx L=>ty Z L λy H2=>∃a v,x= .ref a/\sO H2 a y (some v)/\Q v H2
def amL(ty td:TE):TE:= λZ H Q=>ty Z H λy L=>td Z L λx H2=>∃a o,x= .ref a/\sO H2 a y o/\Q (.bl o.isSome) H2
def abf(ty td:TE):TE:= λZ H Q=>ty Z H λy L=>td Z L λx H2=>∃a o,x= .ref a/\sO H2 a y o/\Q (.bl<|!o.isSome) H2
def aix(td ty tv:TE):TS:= λD Z H=>tv Z H λv L=>td Z L λx H2=>ty Z H2 λy H3=>∃a H4,x= .ref a/\Rn H3 a y v H4/\D.nx Z H4
section
variable{o i:Expr} {td ty:TE}
def Am(hu:X.A.units+1<G4)(ho:PE X o td)(hi:PE X i ty)(hs:acU i):PE X (.Subscript o i pos)<|aiN td ty:=by
 intro aB s Z H Q I h;calc Uq Ip.lookup hs<|iz (ho aB s Z H _ I h) ?_;rintro u s1 ⟨x,L,I1,rx,q1⟩;calc iz (hi aB s1 Z L _ I1 q1) ?_;rintro iv s2 ⟨y,H2,I2,ry,a,v,ex,g,q2⟩;subst ex;obtain rfl:u=bU a:=rx;exact⟨Pe I2 g,U1 hu I2 g ry λw' s3 I3 m8=>⟨v,H2,I3,m8,q2⟩⟩
def aek(hu:X.A.units+1<G4)(hi:PE X i ty)(ho:PE X o td):PC X .In i o<|amL ty td:=by
 intro aB s Z H Q I h;calc iz (hi aB s Z H _ I h) ?_;rintro iv s1 ⟨y,L,I1,ry,q1⟩;calc iz (ho aB s1 Z L _ I1 q1) ?_;rintro u s2 ⟨x,H2,I2,rx,a,ov,ex,g,q2⟩;subst ex;obtain rfl:u=bU a:=rx;exact akD hu I2 g ry λs3 I3=>⟨.bl ov.isSome,H2,I3,Y,q2⟩
def Fg(hu:X.A.units+1<G4)(hi:PE X i ty)(ho:PE X o td):PC X .NotIn i o<|abf ty td:=by
 intro aB s Z H Q I h;calc iz (hi aB s Z H _ I h) ?_;rintro iv s1 ⟨y,L,I1,ry,q1⟩;calc iz (ho aB s1 Z L _ I1 q1) ?_;rintro u s2 ⟨x,H2,I2,rx,a,ov,ex,g,q2⟩;subst ex;obtain rfl:u=bU a:=rx;exact ZS hu I2 g ry λs3 I3=>⟨.bl<|!ov.isSome,H2,I3,Y,q2⟩
def Oc(hu:X.A.units+1<G4)(ho:PE X o td)(hi:PE X i ty)(hv:PE X value tv)(hs:nA value (some<|.Subscript o i rF) pos.line X.env=pure false):PS X (.Assign [.Subscript o i rF] value pos)<|aix td ty tv:=by
 intro aB s Z H D I h;calc wpAny_Assign_Subscript (iz (hv aB s Z H _ I h) ?_) hs;rintro r s1 ⟨v,L,I1,rv,q1⟩;calc iz (ho aB s1 Z L _ I1 q1) ?_;rintro u s2 ⟨x,H2,I2,rx,q2⟩;calc iz (hi aB s2 Z H2 _ I2 q2) ?_;rintro iv s3 ⟨y,H3,I3,ry,a,H4,ex,g,q3⟩;subst ex;obtain rfl:u=bU a:=rx;exact U3 hu I3 g ry rv λs4 I4=>⟨Z,H4,I4,q3⟩
def Pf(h:eZ)(hb:oX<h.objs.size):iL P w H (h.push {cls:= .type "dict",data:= .dict #[]}) h.objs.size<|.dK []:=⟨b7 _,bW.mpr<|f6<|cj hb,[],.nil,aja h⟩
def ae1:TE:= λ_ H Q=>∀p,H p=none->Q (.ref p) (upd H p<|.dK [])
end
def DG:PE X (.Dict [] [] pos) ae1:= λaB s Z H Q I h=>
 wpAny_Dict_empty ⟨.ref s.heap.objs.size,_,I.laid (a:=s.heap.objs.size) (o:= .dK []) (t':=s.toks) (λ_ _ q=>aS _ q) (aT _)<|Pf s.heap I.big,Y,h _<|I.fQ.fresh<|aT _⟩
def SH:List (TE×TE)->St->Hp->(List (V×V)->Hp->Prop)->Prop
 |[],_,H,Q=>Q [] H
 |(tk,tv)::r,Z,H,Q=>tk Z H λx L=>tv Z L λy H2=>SH r Z H2 λps H3=>Q ((x,y)::ps) H3
abbrev VV:List (V×V)->List (aC×aC)->Prop:=Paired λp q=>RelV p.1 q.1/\RelV p.2 q.2
def PPs(X:Cx)(pos:Pos)(O5:List<|Option Expr)(Iu:List Expr)(trs:List<|TE×TE):Prop:=∀(aB:List<|O×Obj) (s:aP) (Z:St) (H:Hp) (Q:List (V×V)->Hp->Prop),Inv X aB Z H s->SH trs Z H Q->wpAny (model X.prog X.w) X.A (evalPairs<|pairTrees O5 Iu X.env pos) (λS s'=>∃ps U,Inv X aB Z U s'/\VV ps S/\Q ps U) X.xe s
def aaE:PPs X pos [] [] []:= λaB s Z H Q I h=>pairTrees_nil_walk ⟨[],H,I,.nil,h⟩
def XZ{k v:Expr}{ks:List (Option Expr)}{S:List Expr}{tk:TE}(hk:PE X k tk)(hv:PE X v tv)(hr:PPs X pos ks S trs):PPs X pos (some k::ks) (v::S)<|(tk,tv)::trs:= λaB s Z H Q I h=>
 pairTrees_cons_walk (iz (hk aB s Z H _ I h) λu s1 ⟨x,L,I1,rx,q1⟩=>iz (hv aB s1 Z L _ I1 q1) λw2 s2 ⟨y,H2,I2,ry,q2⟩=>
  iz (hr aB s2 Z H2 _ I2 q2) (by rintro ws s3 ⟨ps,H3,I3,sF,q3⟩;exact⟨(x,y)::ps,H3,I3,.cons ⟨rx,ry⟩ sF,q3⟩))
noncomputable def rP(kvs more:List<|Key×V):List<|Key×V:=more.foldl (λacc kv=>putK acc kv.1 kv.2) kvs
def KV.merge:∀{more:List (Key×V)} {rs:List (Key×aC)} {kvs:List (Key×V)} {S:List (Key×aC)},KV more rs->KV kvs S->KV (rP kvs more) (merged S rs):=by
 intro more rs kvs S r;unfold KV at r;induction r generalizing kvs S with
 |nil=>intro q;exact q
 | @cons p q ps qs h t ih=>
  intro r0;have e:KV (putK kvs p.1 p.2)<|stored S q.1 q.2:=by
   have:=r0.put p.1 h.2;rw[←h.1];exact this
  exact ih e
theorem A2:∀(more kvs:List<|Key×V),(rP kvs more).length<=kvs.length+more.length
 |[],kvs=>by show kvs.length<=kvs.length+0;lia
 |p::r,kvs=>by
  have G:=A2 r<|putK kvs p.1 p.2;have h2:=pZ kvs p.1 p.2;show(rP (putK kvs p.1 p.2) r).length<=_;rw[ay];lia
def IG{P:eL}{w:gH}:∀{kvs:List (Key×V)} {ws:List (aC×aC)},VV (kvs.map λkv=>(kV kv.1,kv.2)) ws->∃rs,Carries (iE P w) ws rs/\KV kvs rs
 |[],_,r=>by rw[mh]at r;cases r;exact⟨[],lW,.nil⟩
 |p::kvs,_,r=>by
  rw[bK]at r;cases r with
  | @cons a b as bs h t=>
   let⟨rs,c,q⟩:=IG (P:=P) (w:=w) t;let⟨b1,b2⟩:=b;exact⟨(p.1,b2)::rs,⟨F5 h.1,Y,c⟩,.cons ⟨Y,h.2⟩ q⟩
def aiO(trs:List<|TE×TE):TE:= λZ H Q=>∀p,H p=none->SH trs Z (upd H p<|.dK []) λps H2=>H2 p=some (.dK [])/\∃kvs:List<|Key×V,ps=kvs.map (λkv=>(kV kv.1,kv.2))/\kvs.length<=15/\Q (.ref p) (upd H2 p<|.dK<|rP [] kvs)
theorem aaB{O5:List (Option Expr)}{Iu:List Expr}(h:PPs X pos O5 Iu trs)(Ck:O5.all (·.isSome)=true)(hl:O5.length=Iu.length)(h0:O5≠[]) (h15:O5.length<=15):PE X (.Dict O5 Iu pos)<|aiO trs:=by
 intro aB s Z H Q I q;have hn:=I.fQ.fresh<|aT s.heap.objs.size;have I1:=I.laid (a:=s.heap.objs.size) (o:= .dK []) (h':=s.heap.push {cls:= .type "dict",data:= .dict #[]}) (t':=s.toks) (λ_ _ q=>aS _ q) (aT _)<|Pf s.heap I.big;calc wpAny_Dict_walk (knd:=iE X.prog X.w) Ck hl h0 h15<|iz (h aB _ Z _ _ I1<|q _ hn) ?_;rintro ws s2 ⟨ps,H2,I2,sF,e,kvs,ep,lk,q2⟩;subst ep;let⟨rs,c,rk⟩:=IG (P:=X.prog) (w:=X.w) sF;let⟨z,hd,vs0,r0,dd⟩:=Pg I2.fQ e;cases r0;calc⟨rs,c,dd,λh' V8 hs=>⟨.ref s.heap.objs.size,_,?_,Y,q2⟩⟩;have hz:(rP [] kvs).length<=sizeLine:=by
  have G:=A2 kvs [];rw[kW]at G;rw[aW];lia
 have he:∃q,h'.get? s.heap.objs.size=some q:=let⟨q,_,_,hq,_⟩:=V8;⟨q,hq⟩;exact HV I2 (by rw[e];exact lW) hs he (Nt hz hd (rk.merge .nil) V8)
section
variable{kvs:List (Key×V)}
def WO(I:Inv X aB Z H s)(e:Rd H a<|.dK kvs)(h:∀p s',H p=none->Inv X aB Z (upd H p<|.dK kvs) s'->Q (.ref p) s'):wpAny (model X.prog X.w) A (call (.type "dict") [.ref a]) Q E s:=by
 let⟨z,hd,S,sF,dd⟩:=IJ I.fQ e;calc kt_call_dict hd dd (by rw[←sF.length];exact z) λh' V8 hs=>?_;calc h _ _ (I.fQ.fresh<|aT _)<|I.laid (a:=s.heap.objs.size) (o:= .dK kvs) (t':=s.toks) (λb q hq=>?_) (aT _)<|Nt z (bW.mpr<|f6<|cj I.big) sF V8;exact(hs.2 b<|cj<|bA hq).trans (aS _ hq)
def Inv.VU{ch:List O}{T:O}(I:Inv X aB Z H s)(k:∀b o,b∉ch->s.heap.get? b=some o->h'.get? b=some o)(hf:∀b∈ch,sP X aB H b)(hT:s.heap.objs.size<=T) (new:iL X.prog X.w (upd H T ob) h' T ob):Inv X aB Z (upd H T ob) {s with heap:=h',toks:=t'}:=by
 have hn:H T=none:=I.fQ.fresh hT;have nit:∀b u,H b=some u->b∉ch:= λb u e z=>by
  have q:=(hf b z).1;rw[q]at e;cases e
 refine I.step (g':=s.gens) (d':=s.drawn) (ch:=ch) (λb hb=>⟨(hf b hb).2.2.2.1,(hf b hb).2.1,(hf b hb).2.2.2.2.1,(hf b hb).2.2.2.2.2⟩) (λb o _ _ hc e _=>k b o hc e) (λb o _ _ hc e _=>⟨o.slots,k b o hc e⟩) (λb o _ e n=>?_) (λb o hc e=>⟨o,k b o hc e⟩) (λb xs e=>?_) (λb o u e=>?_) (λb ps e=>⟨#[],?_⟩) (λm hm=>?_) (λb u e=>?_) I.bare
 .rw[aY<|cj<|bD (bA e) hT];exact n
 .rw[aY<|bg e hn];exact e
 .rw[aY<|bg e hn];exact e
 .rw[aY<|bg e hn,e];simp
 .let⟨o,es,ep,ho,r⟩:=hm;exact⟨o,es,ep,k _ o (λz=>(hf _ z).2.1 Y) ho,r⟩
 .by_cases hb:b=T
  .subst hb;rw[aq]at e;cases e;exact new
  .rw[aY hb]at e;refine(I.fQ b u e).CK (λc v hc q=>k c v ?_ q) (λc q=>by rw[aY<|bg q hn];exact q) λc xs q=>by rw[aY<|bg q hn];exact q
   rcases hc with z|z
   .rw[z];exact nit b u e
   .exact nit c _ z
def XT{R:It->Hp->Prop}{atD:It}{tn:Nat->eZ->Prop}{tk:Nat}(I:Inv X aB Z H s)(o:Obj) (T:Turn X.prog X.w X.K tg atD [s.heap.objs.size] s.heap.objs.size tn)(st:tn 0<|s.heap.push o)(q:R atD H):PIE X aB Z tg R (.ref s.heap.objs.size) {s with heap:=s.heap.push o,toks:=tk}:=by
 calc⟨s.heap.objs.size,[s.heap.objs.size],tn,atD,H,Y,I.kept λb ob e=>aS _ e,T,st,λb hb=>?_,q⟩;have e:b=s.heap.objs.size:= ~~~hb
 subst e;exact I.Cg (aT _) (I.fQ.fresh<|aT _)
def Its(x:Str):It:=⟨λi _=>i<x.cps.size,λi H v U=>U=H/\∃c,x.cps[i]? =some c/\v= .str ⟨#[c]⟩,λi _=>x.cps.size<=i⟩
def QD(it:O)(x:Str)(t:Tok)(ty:String)(hty:ty="str_ascii_iterator"∨ty="str_iterator"):Turn P w K tg (Its x) [it] it (λi h=>h.IsStrIter it ty x t i)where
 mem:='s'
 obj:= λi h st b hb=>by
  have e:b=it:= ~~~hb
  subst e;let⟨o,e,c,d⟩:=st;exact⟨o,e,λv z=>by rw[d]at z;cases z⟩
 keep:= λi h h' st k=>let⟨o,ho,r⟩:=st;⟨o,k it 's' o ho,r⟩
 item:=by
  intro X hP hw hK hc i aB s Z H E I hf st hg;subst hP hw hK;let⟨f0,f1,f2,f3,f4,f5⟩:=hf it 's';have W:Walks X.prog X.w X.A it [it] [it] x.cps.size (SignAt x) λi h=>h.IsStrIter it ty x t i:=by
   rcases hty with e|e
   .rw[e];exact Walks.strAscii (I.ok.hd hc) it x t
   .rw[e];exact Walks.strWide (I.ok.hd hc) it x t
  have hno:["enumerate","zip","dict_itemiterator","dict_reverseitemiterator","odict_iterator","itertools.zip_longest","itertools.pairwise"].contains ty=false:=by
   rcases hty with e|e
   .rw[e];decide
   .rw[e];decide
  calc W.item i s _ _ hg st λv h' tk hv Q8 kk=>?_;let⟨c,u,hcx,rfl⟩:=hv;have I1:Inv X aB Z H {s with heap:=h',toks:=tk}:=I.turned (λb o hb e=>kk b o (~~~hb) e) f0 f1 f3 f4 f5;let⟨oi,e,cc,dd⟩:=id Q8;exact⟨_,Y,Tg (s:={s with heap:=h',toks:=tk}) e cc dd hno ⟨.str ⟨#[c]⟩,H,I1,⟨u,Y⟩,⟨Y,c,hcx,Y⟩,Q8,λb hb=>(hf b hb).1⟩⟩
 done:=by
  intro X hP hw hK hc i aB s Z H E I hf st hg;subst hP hw hK;let⟨f0,f1,f2,f3,f4,f5⟩:=hf it 's';have hx:x.cps[i]? =none:=Array.getElem?_eq_none hg;rcases hty with e|e
  .rw[e]at st;exact wpAny_pyNext_ascii_end (I.ok.hd hc) st hx λh' eb=>⟨Y,I.turned (t':=s.toks) (λb o hb e=>eb b o hb e) f0 f1 f3 f4 f5⟩
  .rw[e]at st;exact wpAny_pyNext_wide_end (I.ok.hd hc) st hx λh' eb=>⟨Y,I.turned (t':=s.toks) (λb o hb e=>eb b o hb e) f0 f1 f3 f4 f5⟩
 self:= λA i s Q E st h=>by
  rcases hty with e|e
  .rw[e]at st;exact wpAny_pyIter_striter_ascii st h
  .rw[e]at st;exact wpAny_pyIter_striter_wide st h
def ahL(te:TE):TI:= λZ H R=>te Z H λv L=>∃x,v= .str x/\R (Its x) L
def aen(he:PE X e te):PI X tg e<|ahL te:=by
 intro aB s Z H R I h;calc iz (he aB s Z H _ I h) ?_;rintro v s1 ⟨y,L,I1,r1,x,ex,q⟩;subst ex;let⟨t,rfl⟩:=r1;cases ha:x.cps.all (·<128)
 .exact wpAny_pyIter_wide ha (XT (tk:=s1.toks) I1 _ (QD _ x t "str_iterator"<|.inr Y) ⟨_,bZ _ Y,Y,Y⟩ q)
 .exact wpAny_pyIter_ascii ha (XT (tk:=s1.toks) I1 _ (QD _ x t "str_ascii_iterator"<|.inl Y) ⟨_,bZ _ Y,Y,Y⟩ q)
def Yj{k:Key}(h:F6 k u=true):RelV (kV k) u:=by
 rcases ja h with⟨i,t,rfl,rfl⟩|⟨x,t,rfl,rfl⟩
 .exact⟨t,Y⟩
 .exact⟨t,Y⟩
def Ite(K:aJ)(a:O):It:=⟨λi H=>∃(xs:List V) (x:V),cP K H a xs/\xs[i]? =some x,λi H v U=>∃T x,v= .ref T/\H T=none/\U=upd H T (.tup [.int (i:Nat),x])/\∀xs,cP K H a xs->xs[i]? =some x,λi H=>∃xs:List V,cP K H a xs/\xs.length<=i⟩
theorem VS(a e it:O):Turn P w K (.Tuple agq kk abj) (Ite K a) [e,it] e (λi h=>(∃old,IsEnum h e it ((i:Nat):Int) old)/\h.IsListIter it a i/\e≠it)where
 mem:='s'
 obj:= λi h st b hb=>by
  let⟨⟨old,he⟩,⟨o,ho,hc,hd⟩,_⟩:=st;have e':b=e∨b=it:= ~~~hb
  rcases e' with z|z
  .rw[z];exact⟨_,he,λv q=>nomatch q⟩
  .rw[z];exact⟨o,ho,λv q=>by rw[hd]at q;cases q⟩
 keep:= λi h h' st k=>let⟨⟨old,he⟩,hi,Lw⟩:=st;⟨⟨old,k e 's' _ he⟩,hi.at λo q=>k it 's' o q,Lw⟩
 item:=by
  intro X hP hw hK hc i aB s Z H E I hf st hg;subst hP hw hK;let⟨⟨old,he⟩,Lm,Lw⟩:=st;let⟨xs,x,hq,hx⟩:=hg;let⟨d7,rv,p,hz⟩:=I.list hq;let⟨u,hu,ru⟩:=rv.get hx;have hel:e<s.heap.objs.size:=bA he;have hil:it<s.heap.objs.size:=by let⟨_,q,_⟩:=Lm;exact bA q
  calc wpAny_pyNext_enum_item he Lm p.isList (x:=u) (~~~hu) Lw λh' ho alb hT hsz hk=>?_;calc⟨_,Y,wpAny_letOwnedTupleGo_enum (s:={s with heap:=h',toks:=s.toks+1}) ho λh'' he' sb=>?_⟩;have Lu:h''.get? s.heap.objs.size=some {cls:= .type "tuple",data:= .seq #[.int i s.toks,u]}:=(sb.2 _<|mE hel).trans hT;have new:iL X.prog X.w (upd H s.heap.objs.size<|.tup [.int (i:Nat),x]) h'' s.heap.objs.size<|.tup [.int (i:Nat),x]:=⟨by show 2<=sizeLine;decide,[.int i s.toks,u],.cons ⟨_,Y⟩<|.cons ru .nil,⟨_,Lu,Y,_,Y⟩⟩;have I1:Inv X aB Z (upd H s.heap.objs.size<|.tup [.int (i:Nat),x]) {s with heap:=h'',toks:=s.toks+1}:=I.VU (ch:=[e,it]) (λb ob hb q=>(sb.2 b λz=>hb<|by simp[z]).trans (hk b ob (λz=>hb<|by simp[z]) (λz=>hb<|by simp[z]) q)) hf (aT _) new;refine⟨.ref s.heap.objs.size,_,I1,Y,⟨_,x,Y,I.fQ.fresh<|aT _,Y,λys hy=>by rw[I.PY hy hq];exact hx⟩,⟨⟨u,?_⟩,alb.at λo q=>(sb.2 it<|f6 Lw).trans q,Lw⟩,λb hb=>?_⟩
  .have e1:((i+1:Nat):Int)=(i:Int)+1:=by lia
   rw[e1];exact he'
  .have hb':b<s.heap.objs.size:=by
    have e':b=e∨b=it:= ~~~hb
    rcases e' with z|z
    .rw[z];exact hel
    .rw[z];exact hil
   rw[aY<|cj hb'];exact(hf b hb).1
 done:=by
  intro X hP hw hK hc i aB s Z H E I hf st hg;subst hP hw hK;let⟨⟨old,he⟩,Lm,Lw⟩:=st;let⟨xs,hq,hx⟩:=hg;let⟨d7,rv,p,hz⟩:=I.list hq;let⟨f0,f1,f2,f3,f4,f5⟩:=hf it 's';have hl:=rv.length;exact wpAny_pyNext_enum_end (I.ok.hd hc) he Lm p.isList (by simp;lia) λh' eb=>⟨Y,I.turned (t':=s.toks) (λb o hb q=>eb b o hb q) f0 f1 f3 f4 f5⟩
 self:= λA i s Q E st h=>let⟨⟨_,he⟩,_⟩:=st;acO he h
def W0(K:aJ)(ta:TA):TI:= λZ H R=>ta Z H λS L=>∃a xs,S=[.ref a]/\cP K L a xs/\R (Ite K a) L
def DI{ta:TA}{p:Pos}(hg:Gl X "enumerate")(hm:X.mg "enumerate"=none)(ha:PA X [e] ta)(hs:starEach [e] X.env=[(false,eval e X.env)]:=by rfl):PI X (.Tuple agq kk abj) (.Call (.Name "enumerate" p) [e] [] pos)<|W0 X.K ta:=by
 intro aB s Z H R I h;calc Call_<|yC I hg hm boot_enumerate<|fq (iz (ha pos aB s Z H _ I h) ?_) hs Y;rintro us s1 ⟨S,L,I1,r1,q1⟩;let⟨a,xs,ex,hq,q⟩:=q1;subst ex;cases r1 with
 |cons r rr=>
  cases rr;cases r;let⟨d7,rv,p',hz⟩:=I1.list hq;calc call_enumerate_list p'.isList λh' he Lm hsz hk=>acO he ?_;have I2:Inv X aB Z L {s1 with heap:=h'}:=I1.kept (t':=s1.toks) hk;calc⟨s1.heap.objs.size+1,[s1.heap.objs.size+1,s1.heap.objs.size],_,_,L,Y,I2,VS a (s1.heap.objs.size+1) s1.heap.objs.size,⟨⟨.none,he⟩,Lm,Nat.succ_ne_self _⟩,λb hb=>?_,q⟩;have e':b=s1.heap.objs.size+1∨b=s1.heap.objs.size:= ~~~hb
  have hle:s1.heap.objs.size<=b:=by
   rcases e' with z|z
   .rw[z];exact HG _ _
   .rw[z];exact aT _
  exact I1.Cg hle (I1.fQ.fresh hle)
end
end L2
namespace TL
open PySem PySem.Builtin PySem.Builtin.Str PySem.StrLaws
abbrev tl(x:Str):List Nat:=x.cps.toList
def ad0(x:Str):x.length=(tl x).length:=by simp[tl,ajb]
def NB{x y:Str}(h:tl x=tl y):x=y:=Str.ext' (Array.toList_inj.mp h)
def FE(x y:Str):tl (x++y)=tl x++tl y:=by
 show(x++y).cps.toList=_;rw[Str.cps_append,Array.toList_append]
def GZ(s:String):tl (sA s)=s.toList.map sG:=af8 s
def Jf(atE:List Nat):List (List Nat)->List Nat
 |[]=>[]
 |[p]=>p
 |p::q::r=>p++(atE++Jf atE (q::r))
def OG(y:Str):∀L4:List Str,tl (abC y L4)=Jf (tl y) (L4.map tl)
 |[]=>rfl
 |[_]=>rfl
 |x::z::r=>by
  show tl (x++y++abC y (z::r))=tl x++(tl y++Jf (tl y) ((z::r).map tl));rw[FE,FE,OG y<|z::r,cC]
def join_eq(y:Str)(L4:List Str):wD y L4=abC y L4:=glued_eq_join y L4
def NR(n:Nat):List Nat:=(sr 10 n).map sG
def YN(n:Nat):tl (sA<|toString ((n:Nat):Int))=NR n:=ajc n
def AY:∀d:Nat,d<10->(OL d).toNat=48+d:='d'
variable{n:Nat}
def NS(h:n<10):NR n=[48+n]:=by
 unfold NR;rw[OX h];show [(OL n).toNat]=_;rw[AY n h]
def Mx(h:10<=n):NR n=NR (n/10)++[48+n %10]:=by
 have hm:n %10<10:=ai4 n 'd';have t:sr 10 (n/10)++sr 10 (n %10)=sr 10 (10*(n/10)+n %10):=Nat.toDigits_append_toDigits 'd' 'o' hm;rw[Nat.div_add_mod]at t;show(sr 10 n).map sG=_;rw[←t,bP,OX hm];show(sr 10<|n/10).map sG++[(OL<|n %10).toNat]=_;rw[AY _ hm]<;>rfl
theorem P7(n:Nat):NumText.AllDigits<|NR n:=by
 induction n using Zv with
 |_ n ih=>
  by_cases h:n<10
  .rw[NS h];intro c hc;rw[cA.mp hc]
   lia
  .rw[Mx 'l'];intro c hc;rcases cN.mp hc with hc|hc
   .exact ih (n/10) 'l' c hc
   .have hm:n %10<10:=ai4 n 'd';rw[cA.mp hc]
    lia
end TL
namespace L2
open PySem PySem.Spec PyProof.Rows
theorem aau{n:Nat}(h:n<=16777216):Li n=false:=by
 have e:(2:Nat)^24=16777216:='d'
 unfold Li sizeLine;exact bB 'l'
def wu:∀{ys:List Str} {us:List aC},Vals (ys.map V.str) us->StrsAre us ys
 |[],_,.nil=> .nil
 |y::ys,_,.cons r t=>by
  let⟨k,rfl⟩:=r;exact .cons y k (wu t)
variable{f:O} {X:Cx} {H U:Hp} {k:Nat} {kh pos:Pos} {A B:Prop} {st:b5} {name x qual:Str} {id:String} {r:V->List V->Hp->VK->Prop}
def aaq:ZH X "str.join" (λx xs H Q=>∃a p,∃ys:List Str,x= .str a/\xs=[.ref p]/\(cP X.K H p (ys.map V.str)∨oS X.K H p (ys.map V.str))/\(ys.map (·.length)).sum+ys.length*a.length<=16777216/\Q (.str<|wD a ys) H):=by
 intro aB s Z H x xs v us Q I rx rs h;let⟨a,p,ys,rfl,rfl,hp,hz,h⟩:=h;let⟨t,rfl⟩:=rx;cases rs with
 |cons r1 rs=>
  cases rs;cases r1;rcases hp with hp|hp
  .let⟨d7,r,⟨o,n,ho,hc,_,hd⟩,_⟩:=I.list hp;exact af5 (items:=d7.toArray) ⟨o,ho,hc,n,hd⟩ (by rw[mJ];exact wu r) hz λt' k=>⟨.str _,H,I.tok k,⟨t',Y⟩,h⟩
  .let⟨d7,r,ht,_⟩:=I.tuple hp;exact af6 (items:=d7.toArray) ht (by rw[mJ];exact wu r) hz λt' k=>⟨.str _,H,I.tok k,⟨t',Y⟩,h⟩
def mt0{C:Str->Prop}{g:Str->V}(rule:∀(a:Str) (t:Tok) (s:aP) (Q:aC->aP->Prop),C a->(∀(u:aC) (k:Nat),RelV (g a) u->Q u {s with toks:=k})->wpAny (model X.prog X.w) X.A (call (.builtin id) [.str a t]) Q X.xe s):ZH X id (λx xs H Q=>∃a,x= .str a/\xs=[]/\C a/\Q (g a) H):=by
 intro aB s Z H x xs v us Q I rx rs h;let⟨a,rfl,rfl,hc,h⟩:=h;let⟨t,rfl⟩:=rx;cases rs;exact rule a t s _ hc λu k r=>⟨g a,H,I.tok k,r,h⟩
theorem Xu:ZH X "str.upper" (λx xs H Q=>∃a,x= .str a/\xs=[]/\a.length<=5592405/\Q (.str<|O1 a) H):=mt0 (C:= λa=>a.length<=5592405) (g:= λa=> .str<|O1 a) λa _ s _ hc h=>
  aoN (aau (by have G:a.length<=5592405:=hc;have:=af7 a;lia)) (h _ (s.toks+1) ⟨_,Y⟩)
section
variable{o e:Expr} {to te:TE}
def tM0(r:V->List V->Hp->VK->Prop)(to:TE):TE:= λZ H Q=>to Z H λx L=>(∃a,x= .str a)/\r x [] L Q
def tM1(r:V->List V->Hp->VK->Prop)(to te:TE):TE:= λZ H Q=>to Z H λx L=>(∃a,x= .str a)/\te Z L λy H2=>r x [y] H2 Q
def aih(slot:Slot "str" name id)(ty:ajh (.builtin id)=pure (.type "method_descriptor"))(rule:ZH X id r)(ho:PE X o to) (rK:attributeBase o name X.env (eval o X.env)=eval o X.env:=by rfl)(rL:(kh.endLine==pos.line)=true:=by rfl):PE X (.Call (.Attribute o name kh) [] [] pos)<|tM0 r to:=by
 intro aB s Z H Q I h;calc PySem.Call_method0 rK rL<|iz (ho aB s Z H _ I h) ?_;rintro v s1 ⟨x,L,I1,r1,q1⟩;let⟨⟨a,rfl⟩,q1⟩:=q1;let⟨t,rfl⟩:=_root_.id r1;exact⟨"str",_,aby,slot,ty,QS _ _ _,(λ_ e=>nomatch e),oJ Y<|AR<|rule aB s1 Z L _ [] _ [] Q I1 r1 .nil q1⟩
def aii(slot:Slot "str" name id)(ty:ajh (.builtin id)=pure (.type "method_descriptor"))(rule:ZH X id r)(ho:PE X o to)(he:PE X e te) (hs:starEach [e] X.env=[(false,eval e X.env)]:=by rfl)(rK:attributeBase o name X.env (eval o X.env)=eval o X.env:=by rfl)(rL:(kh.endLine==pos.line)=true:=by rfl):PE X (.Call (.Attribute o name kh) [e] [] pos)<|tM1 r to te:=by
 intro aB s Z H Q I h;calc PySem.Call_method1 rK hs rL<|iz (ho aB s Z H _ I h) ?_;rintro v s1 ⟨x,L,I1,r1,q1⟩;let⟨⟨a,rfl⟩,q1⟩:=q1;let⟨t,rfl⟩:=_root_.id r1;calc⟨"str",_,aby,slot,ty,QS _ _ _,(λ_ e=>nomatch e),oJ Y<|QL<|nu ?_⟩;exact iz (he aB s1 Z L _ I1 q1) (by rintro u s2 ⟨y,H2,I2,r2,q2⟩;exact oK<|rule aB s2 Z H2 _ [y] _ [u] Q I2 r1 (.cons r2 .nil) q2)
def T6(ho:PE X o to)(he:PE X e te)(hs:starEach [e] X.env=[(false,eval e X.env)]:=by rfl)(rK:attributeBase o "join" X.env (eval o X.env)=eval o X.env:=by rfl)(rL:(kh.endLine==pos.line)=true:=by rfl):PE X (.Call (.Attribute o "join" kh) [e] [] pos) (tM1 (λx xs H Q=>∃a p,∃ys:List Str,x= .str a/\xs=[.ref p]/\(cP X.K H p (ys.map V.str)∨oS X.K H p (ys.map V.str))/\(ys.map (·.length)).sum+ys.length*a.length<=16777216/\Q (.str<|wD a ys) H) to te):=aii F.slot_str_join F.type_str_join aaq ho he hs rK rL
def XS(ho:PE X o to)(rK:attributeBase o "upper" X.env (eval o X.env)=eval o X.env:=by rfl)(rL:(kh.endLine==pos.line)=true:=by rfl):PE X (.Call (.Attribute o "upper" kh) [] [] pos)<|tM0 (λx xs H Q=>∃a,x= .str a/\xs=[]/\a.length<=5592405/\Q (.str<|O1 a) H) to:=aih F.slot_str_upper F.type_str_upper Xu ho rK rL
def inClass(s:b5)(j:Nat):b5:=match s with
 | .ClassDef _ _ _ body _ _ _ _ _ _ _=>body.getD j (.Pass ⟨0,0,0,0⟩)
 |_=> .Pass ⟨0,0,0,0⟩
def sX(s:b5):Arguments:=match s with
 | .FunctionDef _ a _ _ _ _ _ _ _ _=>a
 |_=>{posonlyargs:=[],args:=[],vararg:=none,kwonlyargs:=[],kw_defaults:=[],kwarg:=none,defaults:=[]}
def qR(s:b5):List b5:=match s with
 | .FunctionDef _ _ b _ _ _ _ _ _ _=>b
 |_=>[]
def aO(s:b5):qL:=match s with
 | .FunctionDef _ _ _ _ _ _ sc _ _ _=>sc
 |_=>{kind:= .function,names:=[],isGenerator:=false,isCoroutine:=false}
abbrev QX:Za:= λ_ _ _ _ _ _=>False
abbrev E0:XK:= λ_ _ _=>False
def Gn:Passes QX X E0:= λ_ _ _ _ _ _ _ h=>h.elim
end
structure S4 (K:aJ) (x qual:Str) (st:b5) (f:O) (fd:kM):Prop where
 ex:∃(oc:aC) (od:Option O) (kV doc pm:aC) (an:Option O) (fG ct:aC) (osl:Array<|Option aC),
  fd=jZ x qual (sX st) (qR st) (aO st) .none kV doc pm an fG ct/\K.lookup f=some ⟨oc,od,.func fd,osl⟩/\vD K fG qual=true
 kp:jf K (.ref f)=true
section
variable{P:eL} {w:gH} {K:aJ} {mg:Str->Option aC} {base:eZ}
def S4.ok{fd:kM}{N ps:List Str}{sp:Sp}(F:S4 K x qual st f fd)(atE:aZ N ps<|aO st)(len:∀S H Q E,sp S H Q E->S.length=ps.length) (Dh:∀(fG:aC) (A:gZ) (outer:List Env) (s:aP) (H:Hp) (S:List V) (Q:VK) (E:XK),ia k (A.deeper<|envOfC qual (aO st) s.heap.objs.size f fG)->sp S H Q E->∃t,OR (jF QX P w K mg base N qual (aO st) f fG A outer s H E).nox (qR st) t/\t {nx:= λ_ U=>Q .gQ U,rt:=Q} (start N S) H):nQ P w K mg base QX (k+1) f fd ps sp:=by
 let⟨oc,od,kV,doc,pm,an,fG,ct,osl,rfl,lk,Zi⟩:=F.ex;calc abT lk Zi atE len λA outer s H S Q E hr Tq=>?_;let⟨t,h,q⟩:=Dh fG A outer s H S Q E hr Tq;exact⟨t,h.nox,q⟩
def adm{oc:aC}{od an:Option O}{osl:Array (Option aC)}{kV doc pm fG ct:aC}(l:K.lookup f=some ⟨oc,od,.func<|jZ x qual (sX st) (qR st) (aO st) .none kV doc pm an fG ct,osl⟩) (c:vD K fG qual=true)(k:jf K (.ref f)=true):S4 K x qual st f<|jZ x qual (sX st) (qR st) (aO st) .none kV doc pm an fG ct:=⟨⟨oc,od,kV,doc,pm,an,fG,ct,osl,Y,l,c⟩,k⟩
def Ja{A:gZ}(hr:ia k A):A.units+1<G4:=V2 (Nat.add_le_add_left (by decide:1<=64) _) hr.units
def J(i:Nat)(hN:X.N[i]? =some x:=by rfl)(hv:Vis X.env.scope x:=by first|exact ji rfl|exact M7 (ji rfl)|exact M7 (M7 rfl))(hd:(x==("__debug__":Str))=false:=by decide) (Zi:(x==("__classdict__":Str))=false:=by decide):PE X (.Name x pos) (gF i):=aem hN hv hd Zi
def Ad:uK X (.builtin "len") (λxs H Q=>∃a kvs,xs=[V.ref a]/\H a=some (.dK kvs)/\Q (.int kvs.length) H):=by
 intro aB s Z H xs us Q I r h;let⟨a,kvs,rfl,ha,q⟩:=h;let⟨u,rfl,ru⟩:=vals1 r;cases ru;exact agN I (.inl ha) λt s' I'=>⟨.int kvs.length,H,I',⟨t,Y⟩,q⟩
def m7(h:B):if false=true then A else B:=by
 rw[az bJ];exact h
def oh(h:A):if true=true then A else B:=by
 rw[aG Y];exact h
def aN(H U:Hp):Prop:=∀b o,H b=some o->U b=some o
def aN.refl(H:Hp):aN H H:= λ_ _ h=>h
def aN.trans{L H2:Hp}(a:aN H L)(b:aN L H2):aN H H2:= λc o h=>b c o (a c o h)
def aN.free(e:aN H U){l:O}(h:U l=abv):H l=abv:=by
 cases q:H l with
 |none=>rfl
 |some o=>
  rw[e l o q]at h;cases h
end
def aN.seq{K:aJ}{a:O}{xs:List V}(e:aN H U)(h:cP K H a xs):cP K U a xs:=by
 rcases h with(h|⟨o,h⟩)|h
 .exact .inl (.inl<|e _ _ h)
 .exact .inl (.inr ⟨o,e _ _ h⟩)
 .exact .inr h
def ah5{α:Type}{l:List α}(hN:l.Nodup){i j:Nat}{x:α}(a:l[i]? =some x)(b:l[j]? =some x):i=j:=by
 let⟨G,e1⟩:=au.mp a;let⟨h2,e2⟩:=au.mp b;exact(G2 hN).mp (e1.trans e2.symm)
end L2
namespace L2
open PySem PySem.Spec PyProof.Rows
open PySem.W (WData Codec OpenSpec Well WellAll ReadsW ReadsAllW)
mutual
inductive Dw (K:aJ) (H:Hp):V->lF->Prop
 |gQ:Dw K H .gQ .none
 |bl (b:Bool):Dw K H (.bl b) (.bool b)
 |int (i:Int):Dw K H (.int i) (.int i)
 |str (x:Str):Dw K H (.str x) (.str x)
 |O9 (b:Array UInt8):Dw K H (.O9 b) (.bytes b.toList)
 |lst {a:O} {xs:List V} {ds:List lF}:cP K H a xs->wH K H xs ds->Dw K H (.ref a) (.list ds)
 |tup {a:O} {xs:List V} {ds:List lF}:oS K H a xs->wH K H xs ds->Dw K H (.ref a) (.tuple ds)
inductive wH (K:aJ) (H:Hp):List V->List lF->Prop
 |nil:wH K H [] []
 |cons {v:V} {S:List V} {d:lF} {ds:List lF}:Dw K H v d->wH K H S ds->wH K H (v::S) (d::ds)
end
def Td{K:aJ}{H:Hp}:∀ns:List Int,wH K H (ns.map V.int) (ns.map lF.int)
 |[]=> .nil
 |n::r=> .cons (.int n) (Td r)
def Tw{K:aJ}{H:Hp}:∀(ns:List Int) (xs:List V),wH K H xs (ns.map lF.int)->xs=ns.map V.int
 |[],xs,h=>by
  cases h;rfl
 |n::r,xs,h=>by
  cases h with
  |cons G h2=>
   cases G;rw[Tw r _ h2]<;>rfl
variable{XP:(Str->Option aC)->eZ->Prop} {a b:O} {CX:Za} {d:DefRec} {u:HO} {h:eZ} {H:Hp} {A B:List O} {ps abG:List Str} {xs:List V} {us S:List aC} {ds:List lF} {k:Nat} {r:ajd} {P q:eL} {K:aJ} {v:aC} {w:gH} {YP:gH->eZ->Prop}
section
variable{R:SW} {cl:Str->Option O}
def aeV(fQ:vF P w H h)(KX:K.In h)(q:cP K H a xs):∃(d7:List aC) (o:Obj) (n:Nat),Vals xs d7/\h.get? a=some o/\o.cls= .type "list"/\o.data= .seq d7.toArray n:=by
 rcases q with q|⟨o,d7,n,e,hc,_,hd,_,hv⟩
 .let⟨_,d7,n,hv,e⟩:=(show iL P w H h a (.lst xs)from q.ok fQ);exact⟨d7,_,n,hv,e,Y,Y⟩
 .exact⟨d7.toList,o,n,hv,KX _ _ e,hc,by simp[hd]⟩
def aeW(fQ:vF P w H h)(KX:K.In h)(q:oS K H a xs):∃(d7:List aC) (o:Obj) (n:Nat),Vals xs d7/\h.get? a=some o/\o.cls= .type "tuple"/\o.data= .seq d7.toArray n:=by
 rcases q with q|⟨o,d7,n,e,hc,hd,_,hv⟩
 .let⟨_,d7,hv,o,e,hc,n,hd⟩:=(show iL P w H h a (.tup xs)from q.ok fQ);exact⟨d7,o,n,hv,e,hc,hd⟩
 .exact⟨d7.toList,o,n,hv,KX _ _ e,hc,by simp[hd]⟩
mutual
def Dw.reads (fQ:vF P w H h) (KX:K.In h):∀(d:lF) (v:V) (u:aC),Dw K H v d->RelV v u->∃as,HJ R cl h u d as
 | .none,_,_,x,r=>by
  cases x;cases r;exact⟨_,HJ.none⟩
 | .bool b,_,_,x,r=>by
  cases x;cases r;exact⟨_,HJ.bool b⟩
 | .int i,_,_,x,r=>by
  cases x;let⟨t,rfl⟩:=r;exact⟨_,HJ.int i t⟩
 | .str s,_,_,x,r=>by
  cases x;let⟨t,rfl⟩:=r;exact⟨_,HJ.str s t⟩
 | .bytes b,_,_,x,r=>by
  cases x;let⟨t,rfl⟩:=r;exact⟨_,HJ.bytes _ t⟩
 | .list ds,_,_,x,r=>by
  cases x with
  |lst hs ha=>
   cases r;let⟨d7,o,n,rv,ho,hc,hd⟩:=aeV fQ KX hs;let⟨as,hr⟩:=Dw.readsAll fQ KX ds _ d7 ha rv;exact⟨_,HJ.list ho hc hd hr⟩
 | .tuple ds,_,_,x,r=>by
  cases x with
  |tup hs ha=>
   cases r;let⟨d7,o,n,rv,ho,hc,hd⟩:=aeW fQ KX hs;let⟨as,hr⟩:=Dw.readsAll fQ KX ds _ d7 ha rv;exact⟨_,HJ.tuple ho hc hd hr⟩
 | .float _,_,_,x,_=>by cases x
 | .dict _,_,_,x,_=>by cases x
 | .bytearray _,_,_,x,_=>by cases x
 | .set _,_,_,x,_=>by cases x
 | .frozenset _,_,_,x,_=>by cases x
 | .obj _ _,_,_,x,_=>by cases x
def Dw.readsAll (fQ:vF P w H h) (KX:K.In h):∀(ds:List lF) (S:List V) (us:List aC),wH K H S ds->Vals S us->∃as,aft R cl h us ds as
 |[],_,_,x,r=>by
  cases x;cases r;exact⟨_,aft.nil⟩
 |d::ds,_,_,x,r=>by
  cases x with
  |cons G h2=>
   cases r with
   |cons r1 r2=>
    let⟨as,q1⟩:=Dw.reads fQ KX d _ _ G r1;let⟨bs,q2⟩:=Dw.readsAll fQ KX ds _ _ h2 r2;exact⟨_,aft.cons q1 q2⟩
end
end
mutual
def Ua:lF->Bool
 | .none=>true
 | .bool _=>true
 | .int _=>true
 | .str _=>true
 | .bytes _=>true
 | .list xs=>Hv xs
 | .tuple xs=>Hv xs
 |_=>false
def Hv:List lF->Bool
 |[]=>true
 |x::r=>Ua x&&Hv r
end
def Qk{α:Type}{f:α->lF}(h:∀a,Ua (f a)=true):∀l:List α,Hv (l.map f)=true
 |[]=>rfl
 |x::r=>by
  show(Ua (f x)&&Hv (r.map f))=true;rw[h x,Qk h r]<;>rfl
def yT:∀(c:nP) (a:c.denote),Ua (c.enc a)=true
 | .unit,_=>rfl
 | .bool,_=>rfl
 | .int _ _,_=>rfl
 | .nat _ _,_=>rfl
 | .u8,_=>rfl
 | .bytes _ _,_=>rfl
 | .text _ _ _ _,_=>rfl
 | .list _ _ c,a=>Qk (λx=>yT c x) a
 | .pair c d,a=>by
  show(Ua (c.enc a.1)&&(Ua (d.enc a.2)&&true))=true;rw[yT c a.1,yT d a.2]<;>rfl
 | .triple c d e,a=>by
  show(Ua (c.enc a.1)&&(Ua (d.enc a.2.1)&&(Ua (e.enc a.2.2)&&true)))=true;rw[yT c a.1,yT d a.2.1,yT e a.2.2]<;>rfl
 | .option c,none=>rfl
 | .option c,some x=>yT c x
def MD:∀(cs:List nP) (a:nP.denoteAll cs),Hv (nP.encAll cs a)=true
 |[],_=>rfl
 |c::cs,a=>by
  show(Ua (c.enc a.1)&&Hv (nP.encAll cs a.2))=true;rw[yT c a.1,MD cs a.2]<;>rfl
def CN:∀{xs:List lF} {d:lF},d∈xs->d.weight<=lF.weightAll xs
 |[],d,h=>absurd h 's'
 |x::r,d,h=>by
  show d.weight<=x.weight+1+lF.weightAll r;rcases aX.mp h with e|m
  .rw[e];omega
  .have z:=CN m;omega
def toV:aC->V
 | .none=> .gQ
 | .bool b=> .bl b
 | .int i _=> .int i
 | .str x _=> .str x
 | .bytes b _=> .O9 b
 | .ref a=> .ref a
 |_=> .gQ
def US(A:List O):aC->Prop
 | .none=>True
 | .bool _=>True
 | .int _ _=>True
 | .str _ _=>True
 | .bytes _ _=>True
 | .ref a=>a∈A
 |_=>False
def US.mono(h:∀a∈A,a∈B):∀{u:aC},US A u->US B u:= λ{u} x=>by
 cases u with
 |ref a=>exact h a x
 |none=>trivial
 |bool b=>trivial
 |int i t=>trivial
 |str s t=>trivial
 |bytes b t=>trivial
 |_=>exact dY x
def Yk{u:aC}(x:US A u):RelV (toV u) u:=by
 cases u with
 |ref a=>rfl
 |none=>rfl
 |bool b=>rfl
 |int i t=>exact⟨t,Y⟩
 |str s t=>exact⟨t,Y⟩
 |bytes b t=>exact⟨t,Y⟩
 |_=>exact dY x
def vB{A:List O}:∀{S:List aC},(∀u∈S,US A u)->Vals (S.map toV) S
 |[],_=> .nil
 |u::r,h=> .cons (Yk<|h u<|bz ..) (vB λx hx=>h x<|aV _ hx)
def wG(h:eZ)(A:List O)(a:O):Prop:=∃S:List aC,S.length<=sizeLine/\(∀u∈S,US A u)/\(h.get? a=some {cls:= .type "list",data:= .seq S.toArray}∨h.get? a=some {cls:= .type "tuple",data:= .seq S.toArray})
def wG.mono{h:eZ}{A B:List O}{a:O}(k:∀a∈A,a∈B)(x:wG h A a):wG h B a:=by
 let⟨S,G,h2,h3⟩:=x;exact⟨S,G,λu hu=>(h2 u hu).mono k,h3⟩
def tW{P:kO}{h:eZ}:∀{S:List aC} {ds:List lF},EE P h S ds->S.length=ds.length
 |_,_,.nil=>rfl
 |_,_,.cons _ b=>by
  show _+1=_+1;rw[tW b]
def M4{P:kO}(x:Well P h v<|.list ds):∃(a:O) (S:List aC),v= .ref a/\h.get? a=some {cls:= .type "list",data:= .seq S.toArray}/\EE P h S ds:=by
 cases x with
 |list ho Ck=>exact⟨_,_,Y,ho,Ck⟩
def K1{P:kO}(x:Well P h v<|.tuple ds):∃(a:O) (S:List aC),v= .ref a/\h.get? a=some {cls:= .type "tuple",data:= .seq S.toArray}/\EE P h S ds:=by
 cases x with
 |tuple ho Ck=>exact⟨_,_,Y,ho,Ck⟩
def M3{P:kO}{d:lF}(x:EE P h us<|d::ds):∃(v:aC) (S:List aC),us=v::S/\Well P h v d/\EE P h S ds:=by
 cases x with
 |cons a b=>exact⟨_,_,Y,a,b⟩
def TQ{n:Nat}(h:n<=1048576):n<=sizeLine:=bH h 'd'
section
variable{P:kO}
mutual
def WC:∀(d:lF) (v:aC),Well P h v d->Ua d=true->d.weight<=1048576->∃A:List O,US A v/\∀a∈A,wG h A a
 | .none,_,x,_,_=>by
  cases x;exact⟨[],trivial,λa m=>absurd m 's'⟩
 | .bool b,_,x,_,_=>by
  cases x;exact⟨[],trivial,λa m=>absurd m 's'⟩
 | .int i,_,x,_,_=>by
  cases x;exact⟨[],trivial,λa m=>absurd m 's'⟩
 | .str s,_,x,_,_=>by
  cases x;exact⟨[],trivial,λa m=>absurd m 's'⟩
 | .bytes b,_,x,_,_=>by
  cases x;exact⟨[],trivial,λa m=>absurd m 's'⟩
 | .list ds,_,x,p,z=>by
  let⟨a,S,rfl,ho,Ck⟩:=M4 x;have z2:lF.weightAll ds<=1048576:=z;let⟨A,G,h2⟩:=C6 ds _ Ck p λd hd=>bH (CN hd) z2;have k:∀b∈A,b∈a::A:= λb hb=>aV _ hb;calc⟨a::A,bz ..,λb hb=>?_⟩;rcases aX.mp hb with e|m
  .rw[e];exact⟨S,TQ<|by rw[tW Ck];exact bH (FI ds) z2,λu hu=>(G u hu).mono k,.inl ho⟩
  .exact(h2 b m).mono k
 | .tuple ds,_,x,p,z=>by
  let⟨a,S,rfl,ho,Ck⟩:=K1 x;have z2:lF.weightAll ds<=1048576:=z;let⟨A,G,h2⟩:=C6 ds _ Ck p λd hd=>bH (CN hd) z2;have k:∀b∈A,b∈a::A:= λb hb=>aV _ hb;calc⟨a::A,bz ..,λb hb=>?_⟩;rcases aX.mp hb with e|m
  .rw[e];exact⟨S,TQ<|by rw[tW Ck];exact bH (FI ds) z2,λu hu=>(G u hu).mono k,.inr ho⟩
  .exact(h2 b m).mono k
 | .float _,_,_,p,_=>dU (show false=true from p)
 | .dict _,_,_,p,_=>dU (show false=true from p)
 | .bytearray _,_,_,p,_=>dU (show false=true from p)
 | .set _,_,_,p,_=>dU (show false=true from p)
 | .frozenset _,_,_,p,_=>dU (show false=true from p)
 | .obj _ _,_,_,p,_=>dU (show false=true from p)
def C6:∀(ds:List lF) (S:List aC),EE P h S ds->Hv ds=true->(∀d∈ds,d.weight<=1048576)->∃A:List O,(∀u∈S,US A u)/\∀a∈A,wG h A a
 |[],_,x,_,_=>by
  cases x;exact⟨[],λu m=>absurd m 's',λa m=>absurd m 's'⟩
 |d::ds,_,x,p,z=>by
  let⟨v,S,rfl,x1,x2⟩:=M3 x;have q:Ua d=true/\Hv ds=true:=Q9.mp p;let⟨A,a1,a2⟩:=WC d v x1 q.1<|z d<|bz ..;let⟨B,b1,b2⟩:=C6 ds S x2 q.2 λe he=>z e<|aV _ he;have kA:∀b∈A,b∈A++B:= λb hb=>cN.mpr<|.inl hb;have kB:∀b∈B,b∈A++B:= λb hb=>cN.mpr<|.inr hb;refine⟨A++B,λu hu=>?_,λb hb=>?_⟩
  .rcases aX.mp hu with e|m
   .rw[e];exact a1.mono kA
   .exact(b1 u m).mono kB
  .rcases cN.mp hb with m|m
   .exact(a2 b m).mono kA
   .exact(b2 b m).mono kB
end
noncomputable def Z6(o:Obj):Option HO:=match o.data with
 | .seq S _=>if(o.cls==ku "list")=true then some (.ND o<|.lst<|S.toList.map toV)else some (.ND o<|.tup<|S.toList.map toV)
 |_=>none
noncomputable def vV(K:aJ)(h:eZ)(A:List O):Hp:= λb=>if b∈A then(if(K.lookup b).isNone=true then(h.get? b).bind Z6 else none)else none
def O6(H:Hp):Prop:=∀b,H b=none∨∃o u,H b=some (.ND o u)
def PD(S:List aC):Z6 {cls:= .type "list",data:= .seq S.toArray}=some (.ND {cls:= .type "list",data:= .seq S.toArray} (.lst<|S.map toV)):=by
 show(if(ku "list"==ku "list")=true then some (HO.ND {cls:= .type "list",data:= .seq S.toArray} (.lst<|S.toArray.toList.map toV))else some (HO.ND {cls:= .type "list",data:= .seq S.toArray} (.tup<|S.toArray.toList.map toV)))=_;rw[aG<|fY _]
def PF(S:List aC):Z6 {cls:= .type "tuple",data:= .seq S.toArray}=some (.ND {cls:= .type "tuple",data:= .seq S.toArray} (.tup<|S.map toV)):=by
 show(if(ku "tuple"==ku "list")=true then some (HO.ND {cls:= .type "tuple",data:= .seq S.toArray} (.lst<|S.toArray.toList.map toV))else some (HO.ND {cls:= .type "tuple",data:= .seq S.toArray} (.tup<|S.toArray.toList.map toV)))=_;rw[az 'd']
def HQ{o:Obj}(hb:b∈A)(hk:K.lookup b=none)(e:h.get? b=some o):vV K h A b=Z6 o:=by
 unfold vV;rw[aG hb,hk,aG<|show(none:Option Obj).isNone=true from Y,e]<;>rfl
def aav(q:vV K h A b=some u):b∈A/\K.lookup b=none:=by
 unfold vV at q;by_cases hb:b∈A
 .rw[aG hb]at q;cases hk:K.lookup b with
  |none=>exact⟨hb,Y⟩
  |some o=>
   rw[hk,az 's']at q;cases q
 .rw[az hb]at q;cases q
def HR(ar:∀a∈A,wG h A a)(q:vV K h A b=some u):K.lookup b=none/\∃S:List aC,S.length<=sizeLine/\(∀u∈S,US A u)/\((h.get? b=some {cls:= .type "list",data:= .seq S.toArray}/\u= .ND {cls:= .type "list",data:= .seq S.toArray} (.lst<|S.map toV))∨(h.get? b=some {cls:= .type "tuple",data:= .seq S.toArray}/\u= .ND {cls:= .type "tuple",data:= .seq S.toArray} (.tup<|S.map toV))):=by
 let⟨hb,hk⟩:=aav q;let⟨S,G,h2,h3⟩:=ar b hb;calc⟨hk,S,G,h2,?_⟩;rcases h3 with e|e
 .rw[HQ hb hk e,PD]at q;exact .inl ⟨e,(aL q).symm⟩
 .rw[HQ hb hk e,PF]at q;exact .inr ⟨e,(aL q).symm⟩
def UW(ar:∀a∈A,wG h A a):O6<|vV K h A:= λb=>by
 cases q:vV K h A b with
 |none=>exact .inl Y
 |some u=>
  obtain⟨_,S,_,_,⟨_,e⟩|⟨_,e⟩⟩:=HR ar q
  .exact .inr ⟨_,_,by rw[e]⟩
  .exact .inr ⟨_,_,by rw[e]⟩
end
def ZN(ar:∀a∈A,wG h A a):vF P w (vV K h A) h:= λb u q=>by
 obtain⟨_,S,G,h2,⟨e,rfl⟩|⟨e,rfl⟩⟩:=HR ar q
 .exact⟨e,by rw[ai];exact G,S,_,vB h2,e⟩
 .exact⟨e,by rw[ai];exact G,S,vB h2,_,e,Y,_,Y⟩
def Ic{c c':aC}(e:(some {cls:=c,data:= .seq S.toArray}:Option Obj)=some {cls:=c',data:= .seq us.toArray}):c=c'/\S=us:=by
 have e1:=aL e;have e2:c=c':=congrArg Obj.cls e1;have e3:Ri S.toArray=Ri us.toArray:=congrArg Obj.data e1;injection e3 with e4;calc⟨e2,?_⟩;have e5:=congrArg OH e4;simpa using e5
def akz(KX:K.In h)(ar:∀a∈A,wG h A a)(ha:a∈A)(e:h.get? a=some {cls:= .type "list",data:= .seq S.toArray}):(∀u∈S,US A u)/\cP K (vV K h A) a (S.map toV):=by
 let⟨us,G,h2,h3⟩:=ar a ha;have hu:us=S:=by
  rcases h3 with q|q
  .rw[e]at q;exact(Ic q).2.symm
  .rw[e]at q;exact absurd (Rk (Ic q).1) 'd'
 subst hu;calc⟨h2,?_⟩;cases hk:K.lookup a with
 |none=>exact .inl (.inr ⟨_,by rw[HQ ha hk e,PD]⟩)
 |some o=>
  have e2:=KX a o hk;rw[e]at e2;obtain rfl:=aL e2;exact .inr ⟨_,us.toArray,_,hk,Y,Y,Y,by rw[bG];exact G,~~~vB h2⟩
def akA(KX:K.In h)(ar:∀a∈A,wG h A a)(ha:a∈A)(e:h.get? a=some {cls:= .type "tuple",data:= .seq S.toArray}):(∀u∈S,US A u)/\oS K (vV K h A) a (S.map toV):=by
 let⟨us,G,h2,h3⟩:=ar a ha;have hu:us=S:=by
  rcases h3 with q|q
  .rw[e]at q;exact absurd (Rk (Ic q).1) 'd'
  .rw[e]at q;exact(Ic q).2.symm
 subst hu;calc⟨h2,?_⟩;cases hk:K.lookup a with
 |none=>exact .inl (.inr ⟨_,by rw[HQ ha hk e,PF]⟩)
 |some o=>
  have e2:=KX a o hk;rw[e]at e2;obtain rfl:=aL e2;exact .inr ⟨_,us.toArray,_,hk,Y,Y,by rw[bG];exact G,~~~vB h2⟩
mutual
def ade {Pm:kO} (KX:K.In h) (ar:∀a∈A,wG h A a):∀(d:lF) (v:aC),Well Pm h v d->Ua d=true->US A v->Dw K (vV K h A) (toV v) d
 | .none,_,x,_,_=>by
  cases x;exact .gQ
 | .bool b,_,x,_,_=>by
  cases x;exact .bl b
 | .int i,_,x,_,_=>by
  cases x;exact .int i
 | .str s,_,x,_,_=>by
  cases x;exact .str s
 | .bytes b,_,x,_,_=>by
  cases x;have z:=Dw.O9 (K:=K) (H:=vV K h A) b.toArray;exact z
 | .list ds,_,x,p,hu=>by
  let⟨a,S,rfl,ho,Ck⟩:=M4 x;let⟨h2,hs⟩:=akz KX ar hu ho;exact .lst hs (Nu KX ar ds _ Ck p h2)
 | .tuple ds,_,x,p,hu=>by
  let⟨a,S,rfl,ho,Ck⟩:=K1 x;let⟨h2,hs⟩:=akA KX ar hu ho;exact .tup hs (Nu KX ar ds _ Ck p h2)
 | .float _,_,_,p,_=>dU (show false=true from p)
 | .dict _,_,_,p,_=>dU (show false=true from p)
 | .bytearray _,_,_,p,_=>dU (show false=true from p)
 | .set _,_,_,p,_=>dU (show false=true from p)
 | .frozenset _,_,_,p,_=>dU (show false=true from p)
 | .obj _ _,_,_,p,_=>dU (show false=true from p)
def Nu {Pm:kO} (KX:K.In h) (ar:∀a∈A,wG h A a):∀(ds:List lF) (S:List aC),EE Pm h S ds->Hv ds=true->(∀u∈S,US A u)->wH K (vV K h A) (S.map toV) ds
 |[],_,x,_,_=>by
  cases x;exact .nil
 |d::ds,_,x,p,hu=>by
  let⟨v,S,rfl,x1,x2⟩:=M3 x;have q:Ua d=true/\Hv ds=true:=Q9.mp p;exact .cons (ade KX ar d v x1 q.1<|hu _<|bz ..) (Nu KX ar ds S x2 q.2 λu m=>hu u<|aV _ m)
end
def VH{mg mb:Str->Option aC}{fa:O}{fd:kM}{sp:Sp}{s₁:aP}{vals:List aC}{R:SW}{cl:Str->Option O}{d0:lF} (KX:K.In s₁.heap)(hns:s₁.heap.Ns mainGlobals mg)(hb:s₁.heap.Ns abD mb)(hbb:∀x:Str,x≠"__name__"->mb x=ny x)(alk:s₁.heap.NoLimit)(hg:s₁.gens= #[]) (hwl:EE w.params s₁.heap vals ds)(yc:Hv ds=true)(hwt:∀d∈ds,d.weight<=1048576)(hr:ia k callerA) (F:∀base:eZ,K.In base->base.Ns mainGlobals mg->nQ P w K mg base CX k fa fd ps sp)(ahd:∀(s:aP) (us:List aC),us.length=ps.length->OY s fd ⟨us,[]⟩ (ps.zip us))(xQ:ds.length=ps.length) (Tq:∀(H:Hp) (xs:List V),O6 H->wH K H xs ds->sp xs H (λv U=>Dw K U v d0) λ_ _ _=>False) (hCX:∀H e s',CX [] H s₁ (λ_ _ _=>False) e s'->False):codeAny (model P w) callerA (.call (.ref fa) ⟨vals,[]⟩) (λr s'=>∃u as,r= .ok (.ret u)/\HJ R cl s'.heap u d0 as/\OldK s₁.heap s'.heap/\s'.os=s₁.os/\EC s'.gens) s₁:=by
 let⟨A,ho,ar⟩:=C6 ds vals hwl yc hwt;have hO:O6<|vV K s₁.heap A:=UW ar;have fQ:vF P w (vV K s₁.heap A) s₁.heap:=ZN ar;have hS:=Nu KX ar ds vals hwl yc ho;have hV:=vB ho;have hK:∀b u,vV K s₁.heap A b=some u->K.lookup b=none:= λb u q=>(HR ar q).1;have noA:∀{b:O} {o:Obj} {es:Array zZ} {ep:Nat},s₁.heap.get? b=some o->o.data= .dict es ep->vV K s₁.heap A b=none:= λ{b o es ep} e d=>by
  cases q:vV K s₁.heap A b with
  |none=>rfl
  |some u=>
   obtain⟨_,S,_,_,⟨e2,_⟩|⟨e2,_⟩⟩:=HR ar q
   .rw[e2]at e;cases e;have d':Ri S.toArray _=ai8 es ep:=d;cases d'
   .rw[e2]at e;cases e;have d':Ri S.toArray _=ai8 es ep:=d;cases d'
 generalize vV K s₁.heap A=H at hO fQ hS hK noA;have S6:∀{b:O} {o:Obj},s₁.heap.get? b=some o->H b=none->(NG s₁.heap H).get? b=some o:= λe n=>WX e n;have nsK:∀{b:O} {m:Str->Option aC},s₁.heap.Ns b m->(NG s₁.heap H).Ns b m:= λ{b m} ⟨o,es,ep,e,d,r⟩=>⟨o,es,ep,S6 e<|noA e d,d,r⟩;have nK:∀b o,K.lookup b=some o->H b=none:= λb o e=>by
  cases q:H b with
  |none=>rfl
  |some u=>
   rw[hK b u q]at e;cases e
 have hKb:K.In<|NG s₁.heap H:= λb o e=>S6 (KX b o e)<|nK b o e;have hM:Mod K mg<|NG s₁.heap H:=⟨hKb,nsK hns,⟨mb,nsK hb,hbb⟩,let⟨mc,G,h2⟩:=alk;⟨mc,nsK G,h2⟩⟩;have e0:Ro P w K mg (NG s₁.heap H) callerA [] s₁ H:=⟨Y,hM,λb o e=>aaw e,oV<|U9 _ _,trivial,λb hb=>absurd (show b∈([]:List O)from hb) 's',fQ,.of_eq hg⟩;have hl:vals.length=ps.length:=by rw[tW hwl];exact xQ
 calc AQ ((F _ hKb<|nsK hns).run callerA [] s₁ H ⟨vals,[]⟩ vals (vals.map toV) _ _ hr e0 (ahd s₁ vals hl) hV (Tq H _ hO hS)) λr s' x=>?_;cases r with
 |error e=>exact(hCX H e s' x).elim
 |ok fl=>
  cases fl with
  |next=>exact dY x
  |brk=>exact dY x
  |cont=>exact dY x
  |ret u=>
   let⟨v,U,os,bare,un,ahx,r',q⟩:=x;have kept:∀b o,s₁.heap.get? b=some o->s'.heap.get? b=some o:= λb o e=>by
    cases q2:H b with
    |none=>exact un.keep b o e q2 (by intro z;exact absurd (show b∈([]:List O)from z) 's') 's'
    |some u2=>
     rcases hO b with z|⟨ob,u3,z⟩
     .rw[q2]at z;cases z
     .have z2:=un.Ci b ob _ z;let⟨e1,_⟩:=fQ b _ z;let⟨e2,_⟩:=ahx b _ z2;rw[e]at e1;cases e1;exact e2
   have KX':K.In s'.heap:= λb o e=>kept b o<|KX b o e;let⟨as,hrd⟩:=Dw.reads (R:=R) (cl:=cl) ahx KX' d0 v u q r';exact⟨u,as,Y,hrd,OldK.of_keep kept,os,bare⟩
def Ji(h:lF.layableAll ds=true):∀d∈ds,d.weight<=1048576:= λd hd=>
 (PySem.W.layableW_iff.mp<|dO.mp h d hd).2.2
def IK:∀(cs:List nP) (a:nP.denoteAll cs),(nP.encAll cs a).length=cs.length
 |[],_=>rfl
 |c::cs,a=>by
  show(nP.encAll cs a.2).length+1=cs.length+1;rw[IK cs a.2]
def VX{K:kO->aJ}{CX:gH->Za}{sp:gH->Sp} (PL:r.wellSaid=true)(hdf:d.params.defaults=[])(xQ:r.args.length=ps.length)(hr:ia k callerA) (hY:∀(w:gH) (h:eZ),YP w h->(K w.params).In h) (F:∀(w:gH) (mg:Str->Option aC) (fa:O) (h:eZ),YP w h->(K w.params).In h->h.Ns mainGlobals mg->mg d.name=some (.ref fa)->∃fd:kM,(∀(s:aP) (us:List aC),us.length=ps.length->OY s fd ⟨us,[]⟩ (ps.zip us))/\∀base:eZ,(K w.params).In base->base.Ns mainGlobals mg->nQ r.prog w (K w.params) mg base (CX w) k fa fd ps (sp w)) (Tq:∀(w:gH) (H:Hp) (xs:List V) (a:nP.denoteAll r.args),O6 H->nP.withinAll r.args a=true->nP.app r.args r.asked a=true->wH (K w.params) H xs (nP.encAll r.args a)->sp w xs H (λv U=>Dw (K w.params) U v<|r.ret.enc<|nP.app r.args r.f a) λ_ _ _=>False) (hCX:∀(w:gH) (H:Hp) (s:aP) (e:aC) (s':aP),CX w [] H s (λ_ _ _=>False) e s'->False):Er q abG XP YP r d [] λf S=>K5 f S:=by
 intro w Hx s₁ mg mb atG af fa o pm cd doc dV kV ho hd Zi hD hmg hg args vals as alz alf hrd hwl hlo;let⟨a,e1,e2⟩:=PySem.W.os_pre_some alz;let⟨e3,hwi⟩:=nP.encAll_of_decAll r.args args a e1;subst e3;have KX:=hY w _ af;let⟨fd,hb,hF⟩:=F w mg fa _ af KX atG.T.g hmg;calc PySem.W.enter_call (AQ (VH (R:=[]) (cl:=classAt Hx.heap) (d0:=r.ret.enc<|nP.app r.args r.f a) KX atG.T.g atG.T.b atG.T.builtins atG.T.nolimit hg hwl (MD _ _) (Ji alf) hr hF hb (by rw[IK];exact xQ) (λH xs hO hS=>Tq w H xs a hO hwi e2 hS) λH e s'=>hCX w H s₁ e s') λr' s' hq=>?_);let⟨u,as',rfl,G,h2,h3,h4⟩:=hq;exact⟨.inl ⟨u,_,as',Y,λ_=>rfl,G,(ajd.post_iff PL hwi _ _).mpr Y,λz=>dU<|show false=true from z⟩,h2,h3,h4⟩
def SN{K:kO->aJ}{sp:aJ->Sp} (PL:r.wellSaid=true)(hdf:d.params.defaults=[])(xQ:r.args.length=ps.length)(hr:ia k callerA) (hY:∀(w:gH) (h:eZ),YP w h->(K w.params).In h) (F:∀(w:gH) (mg:Str->Option aC) (fa:O) (h:eZ),YP w h->(K w.params).In h->h.Ns mainGlobals mg->mg d.name=some (.ref fa)->∃fd:kM,(∀(s:aP) (us:List aC),us.length=ps.length->OY s fd ⟨us,[]⟩ (ps.zip us))/\∀base:eZ,(K w.params).In base->base.Ns mainGlobals mg->nQ r.prog w (K w.params) mg base CX k fa fd ps (sp<|K w.params)) (Tq:∀(K:aJ) (H:Hp) (xs:List V) (a:nP.denoteAll r.args),O6 H->nP.withinAll r.args a=true->nP.app r.args r.asked a=true->wH K H xs (nP.encAll r.args a)->sp K xs H (λv U=>Dw K U v<|r.ret.enc<|nP.app r.args r.f a) λ_ _ _=>False) (hCX:∀(H:Hp) (s:aP) (e:aC) (s':aP),CX [] H s (λ_ _ _=>False) e s'->False):Er q abG XP YP r d [] λf S=>K5 f S:=VX (K:=K) (CX:= λ_=>CX) (sp:= λw=>sp<|K w.params) PL hdf xQ hr hY F (λw H xs a G h2 h3 h4=>Tq (K w.params) H xs a G h2 h3 h4) λ_ H s e s'=>hCX H s e s'
end L2
namespace XF
open PySem Builtin Builtin.ObjectAttr
noncomputable abbrev ZP:List aC:=[.type "ValueError",.type "Exception",.type "BaseException",.type "object"]
section
variable{prog:eL} {w:gH} {A:gZ} {E:aC->aP->Prop} {h:eZ} {g:Array QM} {d:Drawn} {t:Nat} {os:acH} {nm q:Str} {C N x:O} {bs:List aC} {sn:List Str} {sub:List aC} {ab:Bool} {col:Option Bool} {dd:Option O} {k0 k1 k2 k3 k5:Option aC} {newId:String} {mN mA:Str->Option aC} {name:Str} {v:aC}
def ac5{M:acG}{o:Obj}{ab9:aC}{Q:Unit->aP->Prop}(cls:h.get? C=some (ju nm q C N bs ZP true sn sub ab col dd k0 k1 k2 k3 k5 newId)) (here:h.get? x=some o)(oc:o.cls= .ref C)(fin:Q () ⟨h,g,d,t,os⟩):wpAny M A (afv "BaseException.__getattribute__" ⟨[.ref x,ab9],[]⟩) Q E ⟨h,g,d,t,os⟩:=by
 have kd:builtinKind "BaseException.__getattribute__"=some .slot:='d'
 have sp:splitId "BaseException.__getattribute__"=some ("BaseException","__getattribute__"):='d'
 have inB:(bU C::ZP).contains (.type "BaseException")=true:=by rw[nN,show ZP.contains (.type "BaseException")=true by decide];exact OU _
 have ao:=F.args_bexc_ga (.ref x) ab9;simp only[afv,kd,sp];calc aQ ?_;unfold isInstance;repeat (first|(with_reducible calc fm here ?_;rw[oc])|(with_reducible calc FL cls ?_;rw[inB])|wp_step)
 exact fin
def Vu{tk:Tok}{Q:Fin->aP->Prop} (cls:h.get? C=some (ju nm q C N bs ZP true sn sub ab col dd k0 k1 k2 k3 k5 newId))(ns:h.Ns N mN)(nn:mN name=none) (nb:lN (.type "ValueError") name=pure none)(I:h.Inst x C mA)(hv:mA name=some v)(fin:Q (.done<|.ret v) ⟨h,g,d,t,os⟩):wpAny (model prog w) A (AE ⟨[.ref x,.str name tk],[]⟩) Q E ⟨h,g,d,t,os⟩:=by
 let⟨o,here,oc,nc,od⟩:=I;rcases od with⟨_,emp⟩|⟨dx,edx,ne,dns⟩
 .rw[emp name]at hv;cases hv
 unfold AE;repeat (first|(with_reducible calc fm here ?_;rw[oc])|(with_reducible calc jV cls ns UM.mro nb ?_;rw[nn])|wp_step)
 split
 .rename_i c bad;exact absurd bad (nc c)
 unfold instanceDict;repeat (first|(with_reducible calc fm here ?_;rw[oc])|with_reducible calc fm cls ?_|wp_step)
 rw[edx];repeat (first|(with_reducible calc wpAny_nsGet dns.ns ?_;rw[hv])|wp_step)
 exact fin
def U6{Wt:Bool}{Q:aC->aP->Prop} (cls:h.get? C=some (ju nm q C N bs ZP true sn sub ab col dd k0 k1 k2 k3 k5 newId))(ns:h.Ns N mN)(n1:mN "__getattribute__"=none)(n2:mN "__getattr__"=none)(nn:mN name=none) (nb:lN (.type "ValueError") name=pure none)(I:h.Inst x C mA)(hv:mA name=some v)(hh:handedOut v=pure v)(fin:Q v ⟨h,g,d,t+1,os⟩):wpAny (model prog w) A (getAttr (.ref x) name Wt) Q E ⟨h,g,d,t,os⟩:=by
 let⟨o,here,oc,_⟩:=id I;have FB:=UM;have bd:=FB.ga.bind<|.ref x;have x0:(Wt&&onTheHeap (uw "BaseException.__getattribute__"))=false:=by cases Wt<;>rfl
 have x2:(uw "BaseException.__getattribute__"==uw "object.__getattribute__")=false:='d'
 have x1:(onTheHeap (bU C)&&uw "BaseException.__getattribute__"==uw "object.__getattribute__")=false:=by rw[x2];rfl
 unfold getAttr getAttrBy;repeat (any_goals (first|assumption|(with_reducible calc fm here ?_;rw[oc])|(with_reducible calc jV cls ns FB.mro FB.ga.lookup ?_;rw[n1])|(with_reducible calc jV cls ns FB.mro FB.noGetattr ?_;rw[n2])|wp_step))
 calc Y7 FB.ga.plain F.entry_bexc_ga<|ac5 cls here oc<|Vu cls ns nn nb I hv ?_;repeat (any_goals (first|assumption|wp_step))
end
end XF
namespace XF
open PySem
structure Ch (fr ch:List O) (h h':eZ):Prop where
 keep:∀b o,h.get? b=some o->b∉fr->b∉ch->h'.get? b=some o
 slot:∀b o,h.get? b=some o->b∉ch->∃sl,h'.get? b=some {o with slots:=sl}
def Ch.refl(fr ch:List O)(h:eZ):Ch fr ch h h:=⟨λ_ _ e _ _=>e,λ_ o e _=>⟨o.slots,e⟩⟩
variable{atF e C dx T:O} {S:Array aC} {env:Env} {h G base:eZ} {fr ch:List O} {outer:List Env} {Q:Unit->aP->Prop}
def Ch.trans{h2:eZ}(a:Ch fr ch h G)(b:Ch fr ch G h2):Ch fr ch h h2:=⟨λc o e n1 n2=>b.keep c o (a.keep c o e n1 n2) n1 n2,λc o e n=>let⟨_,e1⟩:=a.slot c o e n;let⟨sl,e2⟩:=b.slot c _ e1 n;⟨sl,e2⟩⟩
def Ch.mono{ch':List O}(a:Ch fr ch h G)(m:∀b∈ch,b∈ch'):Ch fr ch' h G:=⟨λc o e n1 n2=>a.keep c o e n1 λz=>n2<|m c z,λc o e n=>a.slot c o e λz=>n<|m c z⟩
def Ob(h:eZ)(e C dx:O)(S:Array aC):Prop:=∃o,h.get? e=some o/\o.cls= .ref C/\o.dict=some dx/\o.data= .fields S
def Tr(h:eZ)(e C dx T:O)(fl:aC):Prop:=∃S oT ts,Ob h e C dx S/\S[1]? =some (.ref T)/\T≠e/\h.get? T=some oT/\oT.data= .fields ts/\ts[3]? =some fl
section
variable{M:acG} {A:gZ} {E:aC->aP->Prop} {s:aP}
def IL{acQ:aC}{hn:Bool}
  (fr:A.frames=some (env::outer))(ff:s.heap.FunFrames base<|env::outer)(fL:env.frame=some atF)(ob:Ob s.heap e C dx S)(sz:1<S.size)
  (fin:∀h' T,Ch ((env::outer).filterMap (·.frame)) [e] s.heap h'->s.heap.objs.size<=T->Tr h' e C dx T (rawInt atF)->Q () {s with heap:=h'}):
  wpAny M A (do let a←frameOf env;let pl←entryPlaceOf atF hn;let b←LY acQ a .none (rawInt atF) .none pl;setField (.ref e) 1 b) Q E s:=by
 let⟨o,he,oc,od,oU⟩:=ob;have nef:e∉(env::outer).filterMap (·.frame):= λm=>by
  let⟨_,o2,e2,nf⟩:=ff.mem m;rw[he]at e2;cases e2;exact nf S oU
 calc aQ<|wpAny_frameOf_fun fr ff fL λG so=>?_;calc aQ<|wpAny_entryPlaceOf λpl ip=>?_;unfold LY newFields;calc aQ<|jT ?_<|ip.sizeOk5 _ _ _ _ _;have he1:G.get? e=some o:=(so.2.1 e nef).trans he;generalize eN:({cls:= .type "traceback",dict:=none,data:= .fields ([acQ,.ref atF,.none,rawInt atF,.none]++(if pl.isEmpty then fC 6 f9 else pl)).toArray}:Obj)=N;have he2:(G.push N).get? e=some o:=aS _ he1;calc Es he2 oU sz ?_;have ne:G.objs.size≠e:=mE<|bA he1;have hT:(G.push N).get? G.objs.size=some N:=bZ G (by rw[←eN];rfl);have d3:=nS oU (·.setIfInBounds 1 (bU G.objs.size));have he3:=lD (lE (·.setIfInBounds 1 (bU G.objs.size))) he2<|z8 d3;have hT3:=(fj (G.push N) (lE (·.setIfInBounds 1 (bU G.objs.size)))<|f6 ne).trans hT;refine fin _ G.objs.size ⟨λb ob hb n1 n2=>?_,λb ob hb n2=>?_⟩ (oV so.1.symm) ?_
 .have nb:b≠e:= λz=>n2 (by rw[z];exact vK e);rw[fj _ _<|f6 nb];exact aS _ ((so.2.1 b n1).trans hb)
 .have nb:b≠e:= λz=>n2 (by rw[z];exact vK e);let⟨sl,hs⟩:=so.2.2 b ob hb;calc⟨sl,?_⟩;rw[fj _ _<|f6 nb];exact aS _ hs
 .refine⟨_,N,([acQ,.ref atF,.none,rawInt atF,.none]++(if pl.isEmpty then fC 6 f9 else pl)).toArray,⟨_,he3,(Obj.cls_mapFields _ _).trans oc,?_,d3⟩,?_,ne,hT3,by rw[←eN],by first|rfl|simp⟩
  .let⟨c0,d0,t0,s0⟩:=o;obtain rfl:t0= .fields S:=oU;exact od
  .simp[sz]
def R6 (fr:A.frames=some (env::outer))(ff:s.heap.FunFrames base<|env::outer)(fL:env.frame=some atF)(ob:Ob s.heap e C dx S)(G:S[1]? =some .none) (fin:∀h' T,Ch ((env::outer).filterMap (·.frame)) [e] s.heap h'->s.heap.objs.size<=T->Tr h' e C dx T (rawInt atF)->Q () {s with heap:=h'}):wpAny M A (noteFrame (.ref e) env) Q E s:=by
 let⟨o,he,oc,od,oU⟩:=id ob;unfold noteFrame;simp only[fL];calc aQ<|lG he oU G ?_;rw[az 'd'];exact IL fr ff fL ob (fN.mp G).1 fin
def Vp (fr:A.frames=some (env::outer))(ff:s.heap.FunFrames base<|env::outer)(fL:env.frame=some atF)(tr:Tr s.heap e C dx T .none) (fin:∀h' T',Ch ((env::outer).filterMap (·.frame)) [e,T] s.heap h'->s.heap.objs.size<=T'->Tr h' e C dx T' (rawInt atF)->Q () {s with heap:=h'}):wpAny M A (noteFrame (.ref e) env) Q E s:=by
 let⟨S,oT,ts,⟨o,he,oc,od,oU⟩,G,ne,hT,dT,h3⟩:=tr;have sz3:3<ts.size:=(fN.mp h3).1;unfold noteFrame;simp only[fL];calc aQ<|lG he oU G ?_;rw[aG<|show(bU T !=f9)=true from 's'];calc aQ<|lG hT dT h3 ?_;rw[az<|show¬((f9==rawInt atF)=true)from by simp[rawInt]];calc aQ<|Es hT dT sz3 ?_;have JS:∀b,b≠T->(s.heap.update T (lE (·.setIfInBounds 3 f9))).get? b=s.heap.get? b:= λb hb=>fj _ _<|f6 hb;have nT:∀b o,s.heap.get? b=some o->(∀S,o.data≠ .fields S)->b≠T:= λb o hb nf z=>by
  rw[z,hT]at hb;cases hb;exact nf ts dT
 calc IL fr (ff.of_keeps λb o hb nf=>⟨o,(JS b<|nT b o hb nf).trans hb,Y⟩) fL ⟨o,(JS e<|f6 ne).trans he,oc,od,oU⟩ (fN.mp G).1 λh' T' ch le tr'=>?_;refine fin h' T' ⟨λb ob hb n1 n2=>?_,λb ob hb n2=>?_⟩ (by rw[show(s.heap.update T (lE (·.setIfInBounds 3 f9))).objs.size=s.heap.objs.size from xJ ..]at le;exact le) tr'
 .have a1:b≠e:= λz=>n2 (by simp[z]);have a2:b≠T:= λz=>n2 (by simp[z]);exact ch.keep b ob ((JS b a2).trans hb) n1 (by simp[a1])
 .have a1:b≠e:= λz=>n2 (by simp[z]);have a2:b≠T:= λz=>n2 (by simp[z]);exact ch.slot b ob ((JS b a2).trans hb) (by simp[a1])
def Ah{fl:aC}(tr:Tr s.heap e C dx T fl) (fin:∀h',Ch fr [T] s.heap h'->h'.objs.size=s.heap.objs.size->Tr h' e C dx T .none->Q () {s with heap:=h'}):wpAny M A (setFlight (.ref e) none) Q E s:=by
 let⟨S,oT,ts,⟨o,he,oc,od,oU⟩,G,ne,hT,dT,h3⟩:=tr;have sz3:3<ts.size:=(fN.mp h3).1;calc wpAny_setFlight_none he oU G hT dT sz3 ?_;have JS:∀b,b≠T->(s.heap.update T (lE (·.setIfInBounds 3 f9))).get? b=s.heap.get? b:= λb hb=>fj _ _<|f6 hb;calc fin _ ⟨λb ob hb n1 n2=>(JS b λz=>n2<|by simp[z]).trans hb,λb ob hb n2=>⟨ob.slots,(JS b λz=>n2<|by simp[z]).trans hb⟩⟩ (xJ ..) ?_;exact⟨S,_,_,⟨o,(JS e<|f6 ne).trans he,oc,od,oU⟩,G,ne,lD _ hT<|z8<|nS dT _,nS dT _,by simp[sz3]⟩
end
end XF
namespace L2
open PySem PySem.Spec PyProof.Rows
def ff(c p:Int):List<|Str×V:=[("code",.int c),("place",.int p)]
structure Flt (K:aJ) (C fI:O):Prop where
 obj:∃nm q N bs sn sub ab col dd k0 k1 k2 k3 k5 mN,K.lookup C=some (ju nm q C N bs XF.ZP true sn sub ab col dd k0 k1 k2 k3 k5 "ValueError.__new__")/\
  (∀h:eZ,K.In h->h.Ns N mN)/\mN "__init__"=some (.ref fI)/\mN "__setattr__"=none/\mN "__getattribute__"=none/\mN "__getattr__"=none/\mN "code"=none/\mN "place"=none
 fn:∃oI,K.lookup fI=some oI/\oI.cls= .type "function"
 kp:jf K (.ref C)=true
def G8(e C:O)(h:eZ):Prop:=∃t:O,h.get? e=some {cls:= .ref C,data:= .fields #[.ref t,.none,.none,.none,.bool false,.none]}
def OQ(e C dx:O)(h:eZ):Prop:=∃t:O,h.get? e=some {cls:= .ref C,dict:=some dx,data:= .fields #[.ref t,.none,.none,.none,.bool false,.none]}
variable{e C dx:O} {h h':eZ} {H:Hp} {P:eL} {w:gH}
def G8.st(G h2:eZ)(x:G8 e C G)(k:∀o,G.get? e=some o->h2.get? e=some o):G8 e C h2:=let⟨t,q⟩:=x;⟨t,k _ q⟩
def OQ.st(G h2:eZ)(x:OQ e C dx G)(k:∀o,G.get? e=some o->h2.get? e=some o):OQ e C dx h2:=let⟨t,q⟩:=x;⟨t,k _ q⟩
def G8.ok(x:G8 e C h):iL P w H h e<|.ext<|G8 e C:=⟨x,let⟨_,q⟩:=x;⟨_,q⟩,λa b y k=>G8.st a b y k⟩
def OQ.ok(x:OQ e C dx h):iL P w H h e<|.ext<|OQ e C dx:=⟨x,let⟨_,q⟩:=x;⟨_,q⟩,λa b y k=>OQ.st a b y k⟩
def vF.ch{fr c:List O}(ok:vF P w H h)(x:XF.Ch fr c h h')(n1:∀b∈fr,H b=none)(n2:∀b∈c,H b=none):vF P w H h':= λb u e=>by
 have no:∀b u,H b=some u->b∉fr/\b∉c:= λb u e=>⟨λz=>(by rw[n1 b z]at e;cases e),λz=>(by rw[n2 b z]at e;cases e)⟩;refine(ok b u e).CK (λd v hd q=>?_) (λ_ q=>q) λ_ _ q=>q;rcases hd with rfl|hd
 .exact x.keep d v q (no d u e).1 (no d u e).2
 .exact x.keep d v q (no d _ hd).1 (no d _ hd).2
def pU(P:eL)(w:gH)(C:O):Za:= λouter H s E ev s'=>∃(e dx T:O) (c p:Int) (U:Hp),ev= .ref e/\s'.os=s.os/\EC s'.gens/\Un (xS outer) [] H U s.heap s'.heap/\vF P w U s'.heap/\s.heap.objs.size<=e/\s.heap.objs.size<=T/\U e=none/\U T=none/\XF.Tr s'.heap e C dx T .none/\U dx=some (.xd<|ff c p)/\E (.ref C) (some dx) U
section
variable{K:aJ} {mg:Str->Option aC} {base:eZ} {N:List Str} {qual:Str} {scope:qL} {f:O} {cd:aC} {A:gZ} {outer:List Env} {s0:aP} {H0:Hp} {E:XK} {aB:List (O×Obj)} {Z:St} {s:aP} {c p:Int}
def Jj{T:O}(I:Inv (jF (pU P w C) P w K mg base N qual scope f cd A outer s0 H0 E) aB Z H s)(G:s0.heap.objs.size<=e)(n1:H e=none){ch0:List O}(Pz:∀b∈ch0,s0.heap.objs.size<=b/\H b=none) (le:s.heap.objs.size<=T)(x:XF.Ch (xS<|envOfC qual scope s0.heap.objs.size f cd::outer) ch0 s.heap h')(tr:XF.Tr h' e C dx T<|rawInt s0.heap.objs.size)(hd:H dx=some (.xd<|ff c p))(hE:E (.ref C) (some dx) H){A':gZ}{E':aC->aP->Prop}:wpAny (model P w) A' (setFlight (.ref e) none) (λ_ s''=>pU P w C outer H0 s0 E (.ref e) s'') E' {s with heap:=h'}:=by
 calc XF.Ah (fr:=xS<|envOfC qual scope s0.heap.objs.size f cd::outer) tr λh2 y sz Wi=>?_;have leT:s0.heap.objs.size<=T:=bH I.sz le;have nT:H T=none:=I.fQ.fresh le;have all:XF.Ch (xS<|envOfC qual scope s0.heap.objs.size f cd::outer) (T::ch0) s.heap h2:=(x.mono λb z=>aV _ z).trans (y.mono λb z=>by rw[cA.mp z];exact bz);have nfr:∀b∈xS (envOfC qual scope s0.heap.objs.size f cd::outer),H b=none:=I.As;have nch:∀b∈T::ch0,H b=none:= λb z=>by
  rcases aX.mp z with rfl|z
  .exact nT
  .exact(Pz b z).2
 have gch:∀b∈T::ch0,s0.heap.objs.size<=b:= λb z=>by
  rcases aX.mp z with rfl|z
  .exact leT
  .exact(Pz b z).1
 have old:∀b o,s0.heap.get? b=some o->b∉T::ch0:= λb o q z=>absurd (bA q)<|ai5.mpr<|gch b z;have sub:∀b∈xS (envOfC qual scope s0.heap.objs.size f cd::outer),b=s0.heap.objs.size∨b∈xS outer:= λb z=>aX.mp<|I.FA b z;have bs:Un (xS outer) [] H0 H s0.heap s.heap:=I.base;refine⟨e,dx,T,c,p,H,Y,I.os,I.bare,⟨λb o q n hb _=>?_,λb o q n hb _=>?_,bs.free,λb o q _=>?_,bs.Em,bs.Ci,bs.Ek⟩,I.fQ.ch all nfr nch,G,leT,n1,nT,Wi,hd,hE⟩
 .calc all.keep b o (bs.keep b o q n hb 's') (λz=>?_)<|old b o q;rcases sub b z with rfl|z
  .exact absurd (bA q) (fJ _)
  .exact hb z
 .let⟨sl,q1⟩:=bs.slot b o q n hb 's';let⟨sl2,q2⟩:=all.slot b _ q1<|old b o q;exact⟨sl2,q2⟩
 .let⟨o1,q1⟩:=bs.there b o q 's';let⟨sl2,q2⟩:=all.slot b _ q1<|old b o q;exact⟨_,q2⟩
def acf:Passes (pU P w C) (jF (pU P w C) P w K mg base N qual scope f cd A outer s0 H0 E) E:=by
 intro aB Z H s ev s' I x;let⟨e,dx,T,c,p,U,rfl,os,bare,un,fQ,g1,g2,n1,n2,tr,hd,hE⟩:=x;let⟨hh,g,d,t,XM⟩:=s';obtain rfl:XM=s.os:=os;have I2:=I.call (h':=hh) (g':=g) (d':=d) (t':=t) (ch:=[]) un fQ bare (λb z=>absurd z 's');have z1:s0.heap.objs.size<=e:=bH I.sz g1;have z2:s0.heap.objs.size<=T:=bH I.sz g2;show wpAny (model P w) _ (leaving _<|.ref e) _ _ _;unfold leaving;calc aQ<|XF.Vp (base:=base) (atF:=s0.heap.objs.size) I2.ok.frames I2.stack Y tr λh' T' ch le tr'=>?_;calc Jj I2 z1 n1 (λb z=>?_) le ch tr' hd hE;rcases aX.mp z with rfl|z
 .exact⟨z1,n1⟩
 .rw[cA.mp z];exact⟨z2,n2⟩
def aey{S:Array aC}(I:Inv (jF (pU P w C) P w K mg base N qual scope f cd A outer s0 H0 E) aB Z H s)(G:s0.heap.objs.size<=e)(n1:H e=none)(ob:XF.Ob s.heap e C dx S)(v1:S[1]? =some .none)(hd:H dx=some (.xd<|ff c p))(hE:E (.ref C) (some dx) H):(jF (pU P w C) P w K mg base N qual scope f cd A outer s0 H0 E).xe (.ref e) s:=by
 show wpAny (model P w) _ (leaving _<|.ref e) _ _ _;unfold leaving;calc aQ<|XF.R6 (base:=base) (atF:=s0.heap.objs.size) I.ok.frames I.stack Y ob v1 λh' T' ch le tr'=>?_;calc Jj I G n1 (λb z=>?_) le ch tr' hd hE;rw[cA.mp z];exact⟨G,n1⟩
end
end L2
namespace XF
open PySem Builtin Builtin.ObjectAttr
section
variable{prog:eL} {w:gH} {A:gZ} {E:aC->aP->Prop} {h:eZ} {g:Array QM} {d:Drawn} {t:Nat} {os:acH} {nm q:Str} {C N x:O} {bs bm:List aC} {B sa S3:String} {sn:List Str} {sub:List aC} {ab:Bool} {col:Option Bool} {dd:Option O} {k0 k1 k2 k3 k5:Option aC} {newId:String} {mN:Str->Option aC} {name:Str} {v:aC}
def acW(h h':eZ)(x:O)(o:Obj)(name:Str)(v:aC):Prop:=(∀b u,b≠x->h.get? b=some u->h'.get? b=some u)/\h'.get? x=some {o with dict:=some h.objs.size}/\h'.Ns1 h.objs.size (λy=>if y=name then some v else none)
end
variable{o:Obj} {tk:Tok}
section
variable{prog:eL} {w:gH} {A:gZ} {E:aC->aP->Prop} {h:eZ} {g:Array QM} {d:Drawn} {t:Nat} {os:acH} {nm q:Str} {C N x:O} {bs bm:List aC} {B sa S3:String} {sn:List Str} {sub:List aC} {ab:Bool} {col:Option Bool} {dd:Option O} {k0 k1 k2 k3 k5:Option aC} {newId:String} {mN:Str->Option aC} {name:Str} {v:aC}
theorem Vy{Q:Fin->aP->Prop}(SF:abB B bm sa S3)(cls:h.get? C=some (ju nm q C N bs bm true sn sub ab col dd k0 k1 k2 k3 k5 newId))(ns:h.Ns N mN)(nn:mN name=none) (nb:lN (.type B) name=pure none)(here:h.get? x=some o)(oc:o.cls= .ref C)(nc:∀c,o.data≠ .cls c)(od:o.dict=none) (fin:∀h' tk',acW h h' x o name v->Q (.done<|.ret .none) ⟨h',g,d,tk',os⟩):wpAny (model prog w) A (Eo ⟨[.ref x,.str name tk,v],[]⟩) Q E ⟨h,g,d,t,os⟩:=by
 have pass:=SF.passes<|.ref x;unfold Eo;repeat (first|rw[refuse_eq]|(rw[refuseLoop_ref,pass])|(with_reducible calc fm here ?_;rw[oc])|with_reducible calc wpAny_mroOf_exc cls ?_|(with_reducible calc jV cls ns SF.mro nb ?_;rw[nn])|wp_step)
 rw[od,az<|by simp[typeHasDict]];split
 .rename_i z;cases z
 split
 .rename_i c z;exact absurd z (nc c)
 have e1:(h.push {cls:= .type "dict",data:= .dict #[]}).get? x=some o:=aS _ here;have ne:x≠h.objs.size:=cj<|bA here;calc aQ<|wpAny_alloc'<|aQ<|wpAny_update' e1<|bS ?_;have e2:((h.push {cls:= .type "dict",data:= .dict #[]}).update x λo=>{cls:=o.cls,dict:=some h.objs.size,data:=o.data,slots:=o.slots}).get? h.objs.size=some {cls:= .type "dict",data:= .dict #[]}:=(SV _ _ _ _ ne.symm).trans (eZ.get?_push_at Y Y);have e3:((h.push {cls:= .type "dict",data:= .dict #[]}).update x λo=>{cls:=o.cls,dict:=some h.objs.size,data:=o.data,slots:=o.slots}).Ns h.objs.size (λ_=>none):=⟨_,#[],_,e2,Y,λz hz=>absurd hz 's',λ_=>rfl⟩;show wpAny _ _ (storeInDict h.objs.size (.str name tk) name v) _ _ _;unfold storeInDict newKeyGuard;calc aQ<|bS<|aQ<|am3 (QN e3) λh' n' sb=>?_;let⟨oD,eD,pD,hD,dD,cD⟩:=n'.count<|S0 name v AO.nil;refine aQ (afB hD (by rw[dD];exact afw<|bH cD<|by rw[ay,kW,aW];lia) ?_)
 wp_walk
 refine fin h' _ ⟨λb u nb' hb=>?_,?_,n'⟩
 .exact(sb.2 b<|cj<|bA hb).trans ((SV _ _ _ _ nb').trans (aS _ hb))
 .refine(sb.2 x ne).trans (lD _ e1 ?_);have fr:=(eZ.get?_some_iff.mp here).2;let⟨c0,d0,t0,s0⟩:=o;cases t0<;>first|rfl|exact fr
def Yb{R:abA->aP->Prop}(SF:abB B bm sa S3)(cls:h.get? C=some (ju nm q C N bs bm true sn sub ab col dd k0 k1 k2 k3 k5 newId))(ns:h.Ns N mN)(nn:mN name=none) (nb:lN (.type B) name=pure none)(here:h.get? x=some o)(oc:o.cls= .ref C)(nc:∀c,o.data≠ .cls c)(od:o.dict=none) (fin:∀h' tk',acW h h' x o name v->R (.ok<|.ret .none) ⟨h',g,d,tk',os⟩):codeAny (model prog w) A (.call (.builtin sa) ⟨[.ref x,.str name tk,v],[]⟩) R ⟨h,g,d,t,os⟩:=Y7 SF.slot.plain SF.entry (wpAny_check_sa SF cls here oc<|Vy SF cls ns nn nb here oc nc od fin)
def X8{Q:Unit->aP->Prop}(SF:abB B bm sa S3)(cls:h.get? C=some (ju nm q C N bs bm true sn sub ab col dd k0 k1 k2 k3 k5 newId))(ns:h.Ns N mN)(n1:mN "__setattr__"=none)(nn:mN name=none) (nb:lN (.type B) name=pure none)(here:h.get? x=some o)(oc:o.cls= .ref C)(nc:∀c,o.data≠ .cls c)(od:o.dict=none) (fin:∀h' tk',acW h h' x o name v->Q () ⟨h',g,d,tk',os⟩):wpAny (model prog w) A (setAttr (.ref x) name v) Q E ⟨h,g,d,t,os⟩:=by
 have bd:=SF.slot.bind<|.ref x;unfold setAttr callSpecial? specialOf;repeat (any_goals (first|assumption|(with_reducible calc fm here ?_;rw[oc])|(with_reducible calc jV cls ns SF.mro SF.slot.lookup ?_;rw[n1])|wp_step))
 calc Yb SF cls ns nn nb here oc nc od λh' tk' y=>?_;repeat (any_goals (first|assumption|wp_step))
 exact fin h' tk' y
end
end XF
namespace L2
open PySem PySem.Spec PyProof.Rows
def Iz(f:Str):Prop:=f="code"∨f="place"
variable{f:Str} {Q:Unit->aP->Prop}
def Iz.base(h:Iz f):lN (.type "ValueError") f=pure none:=by
 rcases h with rfl|rfl
 .rw[B4,qM];kernel_rfl
 .rw[B4,qM];kernel_rfl
section
variable{X:Cx} {aB:List (O×Obj)} {Z:St} {H:Hp} {s:aP} {a C dx fI:O} {y:V} {u:aC} {A:gZ} {E:aC->aP->Prop}
def aiy(I:Inv X aB Z H s)(F:Flt X.K C fI)(e:H a=some (.ext<|G8 a C))(hf:Iz f)(ry:RelV y u) (h:∀s' dx,H dx=none->dx≠a->Inv X aB Z (upd (upd H dx<|.xd [(f,y)]) a<|.ext<|OQ a C dx) s'->Q () s'):wpAny (model X.prog X.w) A (setAttr (.ref a) f u) Q E s:=by
 let⟨nm,q,N,bs,sn,sub,ab,col,dd,k0,k1,k2,k3,k5,mN,lk,ns,m1,m2,m3,m4,m5,m6⟩:=F.obj;let⟨⟨t,hx⟩,_,_⟩:=I.fQ a _ e;have mf:mN f=none:=by rcases hf with rfl|rfl<;>assumption
 let⟨hh,g,d,tk,os⟩:=s;calc XF.X8 K3 (I.Ag _ _ lk) (ns _ I.Ag) m2 mf hf.base hx Y (λc z=>by cases z) Y λh' tk' P=>?_;let⟨kp,Zk,n1⟩:=P;have fr:H hh.objs.size=none:=I.fQ.fresh<|aT _;have ne:hh.objs.size≠a:=mE<|bA hx;have ua:∀b,H b=none->b≠a:= λb n z=>by rw[z,e]at n;cases n
 have od:∀b o,hh.get? b=some o->b≠hh.objs.size:= λb o q=>cj<|bA q;calc h _ hh.objs.size fr ne ?_;have Hb:∀b,b≠a->b≠hh.objs.size->(upd (upd H hh.objs.size<|.xd [(f,y)]) a<|.ext<|OQ a C hh.objs.size) b=H b:= λb n1 n2=>by rw[aY n1,aY n2]
 refine I.step (g':=g) (d':=d) (ch:=[]) (λ_ z=>nomatch z) (λb o _ _ _ q n=>kp b o (ua b n) q) (λb o _ _ _ q n=>⟨o.slots,kp b o (ua b n) q⟩) (λb o _ q n=>by rw[Hb b (ua b n)<|od b o q];exact n) (λb o _ q=>?_) (λb xs q=>?_) (λb o v q=>?_) (λb ps q=>?_) (λm hm=>?_) (λb v q=>?_) I.bare
 .by_cases z:b=a
  .rw[z];exact⟨_,Zk⟩
  .exact⟨o,kp b o z q⟩
 .rw[Hb b (λz=>by rw[z,e]at q;cases q)<|bg q fr];exact q
 .rw[Hb b (λz=>by rw[z,e]at q;cases q)<|bg q fr];exact q
 .exact⟨#[],by rw[Hb b (λz=>by rw[z,e]at q;cases q)<|bg q fr,q];simp⟩
 .let⟨o,es,ep,ho,r⟩:=hm;exact⟨o,es,ep,kp _ o (ua _ I.free) ho,r⟩
 .by_cases z:b=a
  .subst z;rw[aq]at q;cases q;exact OQ.ok ⟨t,Zk⟩
  .by_cases z2:b=hh.objs.size
   .subst z2;rw[aY ne,aq]at q;cases q;calc⟨_,n1,λg'=>?_⟩;show pW (jd g' [(f,y)]) (if g'=f then some u else none);rw[eu];by_cases zf:g'=f
    .rw[aG zf,zf,fY];exact ry
    .rw[az zf,bW.mpr zf];exact lW
   .rw[Hb b z z2]at q;refine(I.fQ b v q).CK (λc o hc qc=>kp c o ?_ qc) (λc hc=>?_) λc xs hc=>?_
    .rcases hc with rfl|hc
     .exact z
     .intro zz;rw[zz,e]at hc;cases hc
    .rw[Hb c (λzz=>by rw[zz,e]at hc;cases hc)<|bg hc fr];exact hc
    .rw[Hb c (λzz=>by rw[zz,e]at hc;cases hc)<|bg hc fr];exact hc
def aiz{f0:Str}{y0:V}(I:Inv X aB Z H s)(F:Flt X.K C fI)(e:H a=some (.ext<|OQ a C dx))(e2:H dx=some (.xd [(f0,y0)]))(ne0:f≠f0)(hf:Iz f)(ry:RelV y u) (w1:∀mA:Str->Option aC,(∀g,pW ([(f0,y0)].lookup g)<|mA g)->AO mA [f0]) (h:∀s',Inv X aB Z (upd H dx<|.xd [(f0,y0),(f,y)]) s'->Q () s'):wpAny (model X.prog X.w) A (setAttr (.ref a) f u) Q E s:=by
 let⟨nm,q,N,bs,sn,sub,ab,col,dd,k0,k1,k2,k3,k5,mN,lk,ns,m1,m2,m3,m4,m5,m6⟩:=F.obj;let⟨⟨t,hx⟩,_,_⟩:=I.fQ a _ e;let⟨mA,n1,sF⟩:=I.fQ dx _ e2;have mf:mN f=none:=by rcases hf with rfl|rfl<;>assumption
 have ne:dx≠a:=gz e2 e (by intro z;cases z);have neC:a≠C:= λz=>by
  have:=I.Ag _ _ lk;rw[←z,hx]at this;cases this
 let⟨hh,g,d,tk,os⟩:=s;calc store_attr (x:=a) (mA:=mA) (ns:=[f0]) K3 (I.Ag _ _ lk) (ns _ I.Ag) m2 mf hf.base neC ⟨_,hx,Y,λc z=>(by cases z),.inr ⟨dx,Y,ne,n1⟩⟩ (λh' tk' I' kp ko=>?_) (w1 mA sF) (by rw[aW,aI];decide);have keep:∀b o,b≠dx->hh.get? b=some o->h'.get? b=some o:= λb o nb q=>by
  by_cases z:b=a
  .subst z;rw[hx]at q;cases q;let⟨o1,q1,z1,z2,z3,z4⟩:=ko _ hx;let⟨c1,d1,t1,s1⟩:=o1;cases z1;cases z2;cases z3;have:=z4 dx Y;cases this;exact q1
  .exact kp b o z (λo0 d0 q0 dq=>by rw[hx]at q0;cases q0;cases dq;exact nb) q
 have n2:h'.Ns1 dx λz=>if z=f then some u else mA z:=by
  let⟨o1,q1,_,_,z⟩:=I';have q2:=keep a _ (f6 ne) hx;rw[q1]at q2;cases q2;rcases z with⟨z,_⟩|⟨d0,z,_,n0⟩
  .cases z
  .cases z;exact n0
 have ua:∀b,H b=none->b≠dx:= λb n z=>by rw[z,e2]at n;cases n
 refine h _ (I.step (g':=g) (d':=d) (ch:=[]) (λ_ z=>nomatch z) (λb o _ _ _ q n=>keep b o (ua b n) q) (λb o _ _ _ q n=>⟨o.slots,keep b o (ua b n) q⟩) (λb o _ q n=>by rw[aY<|ua b n];exact n) (λb o _ q=>?_) (λb xs q=>?_) (λb o v q=>?_) (λb ps q=>?_) (λm hm=>?_) (λb v q=>?_) I.bare)
 .by_cases z:b=dx
  .rw[z];let⟨o,_,_,q,_⟩:=n2;exact⟨_,q⟩
  .exact⟨o,keep b o z q⟩
 .rw[aY<|gz q e2<|by intro z;cases z];exact q
 .rw[aY<|gz q e2<|by intro z;cases z];exact q
 .exact⟨#[],by rw[aY (gz q e2<|by intro z;cases z),q];simp⟩
 .let⟨o,es,ep,ho,r⟩:=hm;exact⟨o,es,ep,keep _ o (ua _ I.free) ho,r⟩
 .by_cases z:b=dx
  .subst z;rw[aq]at q;cases q;calc⟨_,n2,λg'=>?_⟩;show pW (jd g' [(f0,y0),(f,y)]) (if g'=f then some u else mA g');have r:=sF g';rw[eu]at r⊢;by_cases zf:g'=f
   .rw[aG zf,zf,bW.mpr ne0];show pW (jd f [(f,y)]) (some u);rw[eu,fY];exact ry
   .rw[az zf];by_cases z0:g'=f0
    .rw[z0,fY]at r⊢;exact r
    .rw[bW.mpr z0]at r⊢;show pW (jd g' [(f,y)]) (mA g');rw[eu,bW.mpr zf];exact r
  .rw[aY z]at q;refine(I.fQ b v q).CK (λc o hc qc=>keep c o ?_ qc) (λc hc=>?_) λc xs hc=>?_
   .rcases hc with rfl|hc
    .exact z
    .exact gz hc e2 (by intro z;cases z)
   .rw[aY<|gz hc e2<|by intro z;cases z];exact hc
   .rw[aY<|gz hc e2<|by intro z;cases z];exact hc
end
section
variable{X:Cx} {C fI:O} {o value:Expr} {pos rF:Pos} {ta tv:TE}
def amE(C:O)(ta tv:TE)(f:Str):TS:= λD Z H=>tv Z H λy L=>ta Z L λx H2=>∃a,x= .ref a/\H2 a=some (.ext<|G8 a C)/\∀dx,H2 dx=none->dx≠a->D.nx Z (upd (upd H2 dx<|.xd [(f,y)]) a<|.ext<|OQ a C dx)
def aer(F:Flt X.K C fI)(hf:Iz f)(ha:PE X o ta)(hv:PE X value tv)(hs:nA value (some<|.Attribute o f rF) pos.line X.env=pure false):PS X (.Assign [.Attribute o f rF] value pos)<|amE C ta tv f:=by
 intro aB s Z H D I h;calc qA (iz (hv aB s Z H _ I h) ?_) hs;rintro u s1 ⟨y,L,I1,ry,q⟩;calc iz (ha aB s1 Z L _ I1 q) ?_;rintro ov s2 ⟨x,H2,I2,rx,a,ex,ea,q2⟩;subst ex;obtain rfl:ov=bU a:=rx;exact aiy I2 F ea hf ry λs3 dx n1 n2 I3=>⟨Z,_,I3,q2 dx n1 n2⟩
def amF(C:O)(ta tv:TE)(f:Str):TS:= λD Z H=>tv Z H λy L=>ta Z L λx H2=>∃a dx f0 i0,x= .ref a/\H2 a=some (.ext<|OQ a C dx)/\H2 dx=some (.xd [(f0,.int i0)])/\f≠f0/\D.nx Z (upd H2 dx<|.xd [(f0,.int i0),(f,y)])
def aes(F:Flt X.K C fI)(hf:Iz f)(ha:PE X o ta)(hv:PE X value tv)(hs:nA value (some<|.Attribute o f rF) pos.line X.env=pure false):PS X (.Assign [.Attribute o f rF] value pos)<|amF C ta tv f:=by
 intro aB s Z H D I h;calc qA (iz (hv aB s Z H _ I h) ?_) hs;rintro u s1 ⟨y,L,I1,ry,q⟩;calc iz (ha aB s1 Z L _ I1 q) ?_;rintro ov s2 ⟨x,H2,I2,rx,a,dx,f0,i0,ex,ea,ed,nf,q2⟩;subst ex;obtain rfl:ov=bU a:=rx;calc aiz I2 F ea ed nf hf ry (λmA r g hg=>?_) λs3 I3=>⟨Z,_,I3,q2⟩;have:=r g;rw[eu]at this;by_cases z:g=f0
 .rw[z];exact vK f0
 .rw[bW.mpr z]at this;exact absurd (pW.none_of this) hg
end
end L2
namespace XF
open PySem
variable{C fI:O} {h:eZ} {us:List aC} {oI:Obj} {mN:Str->Option aC}
section
variable{prog:eL} {w:gH} {A:gZ} {E:aC->aP->Prop} {g:Array QM} {d:Drawn} {t:Nat} {os:acH} {nm q:Str} {N:O} {bs bm:List aC} {ahi:Bool} {sn:List Str} {sub:List aC} {ab:Bool} {col:Option Bool} {dd:Option O} {k0 k1 k2 k3 k5:Option aC} {B newId W2:String}
noncomputable abbrev made(h:eZ)(C:O)(us:List aC):eZ:=(h.push {cls:= .type "tuple",data:= .seq us.toArray}).push {cls:= .ref C,data:= .fields #[.ref h.objs.size,.none,.none,.none,.bool false,.none]}
def TR(h:eZ)(C:O)(us:List aC):(made h C us).get? (h.objs.size+1)=some {cls:= .ref C,data:= .fields #[.ref h.objs.size,.none,.none,.none,.bool false,.none]}:=by heap_get
def Ai{b:O}{o:Obj}(e:h.get? b=some o):(made h C us).get? b=some o:=aS _ (aS _ e)
def VW(FB:amV B newId W2 bm){Q:Fin->aP->Prop} (cls:h.get? C=some (ju nm q C N bs bm ahi sn sub ab col dd k0 k1 k2 k3 k5 newId))(ns:h.Ns N mN)(mi:mN "__init__"=some (.ref fI))(fo:h.get? fI=some oI)(fc:oI.cls= .type "function") (go:wpAny (model prog w) A (call (.ref fI)<|.ref (h.objs.size+1)::us) (λr s'=>r= .none/\Q (.done<|.ret<|.ref<|h.objs.size+1) s') E ⟨made h C us,g,d,t,os⟩)(sz:us.length<=sizeLine):wpAny (model prog w) A (Builtin.«type.__call__» ⟨.ref C::us,[]⟩) Q E ⟨h,g,d,t,os⟩:=by
 repeat (first|with_reducible calc fm cls ?_|with_reducible calc wpAny_madeBy_exc cls ?_|wp_step)
 calc codeAny_call_builtin_code (UL _ FB.quiet)<|wpAny_check_new_sub FB cls ?_;calc codeAny_exc_new_sub FB cls ?_ sz;show wpAny _ _ _ _ _ _;have agI:(made h C us).get? C=_:=Ai cls;have fo1:(made h C us).get? fI=_:=Ai fo;have ns1:(made h C us).Ns N mN:=let⟨o,es,ep,z,r⟩:=ns;⟨o,es,ep,Ai z,r⟩;have ZO:=TR h C us;have inC:(bU C::bm).contains (.ref C)=true:='s'
 unfold isInstance;repeat (first|with_reducible calc fm ZO ?_|(with_reducible calc FL agI ?_;rw[inC])|wp_step)
 show wpAny _ _ (lN (.ref C) _) _ _ _;calc jV agI ns1 FB.mroIs FB.init.lookup ?_;rw[mi];calc S2<|aQ ?_;unfold bindSpecial;calc aQ<|K7 (T:="function") ⟨_,fo1,fc⟩ ?_;rw[aG 'd'];calc bS<|aQ<|fF go (λr s' z=>?_) λ_ _ z=>z;let⟨rfl,z⟩:=z
 wp_walk
 exact z
def call_cls(FB:amV B newId W2 bm){Q:aC->aP->Prop} (cls:h.get? C=some (ju nm q C N bs bm ahi sn sub ab col dd k0 k1 k2 k3 k5 newId))(ns:h.Ns N mN)(mi:mN "__init__"=some (.ref fI))(fo:h.get? fI=some oI)(fc:oI.cls= .type "function") (go:wpAny (model prog w) (A.under<|.builtin "type.__call__" ⟨.ref C::us,[]⟩) (call (.ref fI)<|.ref (h.objs.size+1)::us) (λr s'=>r= .none/\Q (.ref<|h.objs.size+1) s') E ⟨made h C us,g,d,t,os⟩)(sz:us.length<=sizeLine):wpAny (model prog w) A (call (.ref C) us) Q E ⟨h,g,d,t,os⟩:=by
 have f1:=tc_lookup;have f2:=tc_bind<|.ref C;have ty:(⟨h,g,d,t,os⟩:aP).TypeIs (.ref C) "type":=⟨_,cls,Y⟩;calc QT<|codeAny_of_tree ?_;show wpAny _ _ (callAny (.ref C) _) _ _ _;repeat (any_goals (first|assumption|with_reducible calc fm cls ?_|wp_step))
 calc⟨Y,?_⟩;calc codeAny_call_builtin_at (UL _ 'd') entry_typeCall<|wpAny_check_type_call_sub cls<|VW FB cls ns mi fo fc ?_ sz;exact go
end
section
variable{M:acG} {A:gZ} {E:aC->aP->Prop} {env:Env} {s:aP} {nm q:Str} {N:O} {bs bm:List aC} {sn:List Str} {sub:List aC} {ab:Bool} {col:Option Bool} {dd:Option O} {k0 k1 k2 k3 k5:Option aC} {newId:String}
def Sj{x:Sem aC}{Q:Flow->aP->Prop}(isB:bm.contains (.type "BaseException")=true)(nh:A.handled=none) (h:wpAny M A x (λv s1=>∃e t dx,v= .ref e/\s1.heap.get? C=some (ju nm q C N bs bm true sn sub ab col dd k0 k1 k2 k3 k5 newId)/\s1.heap.get? e=some {cls:= .ref C,dict:=some dx,data:= .fields #[.ref t,.none,.none,.none,.bool false,.none]}/\E (.ref e) s1) E s):wpAny M A (raiseStmt env (some x) none) Q E s:=by
 have inB:(bU C::bm).contains (.type "BaseException")=true:=by rw[nN,isB];exact OU _
 unfold raiseStmt;calc aQ<|fF h (λv s1 z=>?_) λ_ _ z=>z;let⟨e,t,dx,rfl,cls,he,hE⟩:=z;let⟨hp,g,d,tk,os⟩:=s1;repeat (first|with_reducible calc fm he ?_|with_reducible calc fm cls ?_|(with_reducible calc FL cls ?_;rw[inB])|wp_step)
 exact wpAny_raiseNew_none nh hE
end
end XF
namespace L2
open PySem PySem.Spec PyProof.Rows
def acp(C:O):Sp:= λS H Q _=>∃(e:O) (c p:Int),S=[.ref e,.int c,.int p]/\H e=some (.ext<|G8 e C)/\∀dx,H dx=none->dx≠e->Q .gQ (upd (upd H dx<|.xd<|ff c p) e<|.ext<|OQ e C dx)
def Inv.drop{X:Cx}{aB:List (O×Obj)}{Z:St}{H:Hp}{s:aP}{a:O}{φ:eZ->Prop}(I:Inv X aB Z H s)(e:H a=some (.ext φ)):Inv X aB Z (λb=>if b=a then none else H b) s:=by
 have keep:∀b u,H b=some u->u≠ .ext φ->(if b=a then none else H b)=some u:= λb u q n=>by
  rw[az]
  .exact q
  .intro z;rw[z,e]at q;exact n (aL q).symm
 have gQ:∀b,H b=none->(if b=a then none else H b)=none:= λb n=>by
  split
  .rfl
  .exact n
 refine⟨I.ok,I.os,I.bare,⟨I.base.keep,I.base.slot,λb o q n hx=>gQ b<|I.base.free b o q n hx,I.base.there,λb xs q=>keep b _ (I.base.Em b xs q) (by intro z;cases z),λb o u q=>keep b _ (I.base.Ci b o u q) (by intro z;cases z),λb ps q=>?_⟩,I.loc,I.cell,gQ _ I.free,λx c q=>gQ c<|I.o6 x c q,λp hp=>?_,λb u q=>?_,I.len⟩
 .let⟨m,q2⟩:=I.base.Ek b ps q;exact⟨m,keep b _ q2<|by intro z;cases z⟩
 .let⟨q1,q2,q3,q4,q5⟩:=I.pin p hp;exact⟨q1,gQ _ q2,q3,q4,q5⟩
 .have hb:H b=some u:=by
   have q:(if b=a then none else H b)=some u:=q;split at q
   .cases q
   .exact q
  exact(I.fQ b u hb).CK (λc v _ z=>z) (λc z=>keep c _ z<|by intro y;cases y) λc xs z=>keep c _ z (by intro y;cases y)
def Rz(X:Cx)(C:O)(E:XK):Prop:=∀(aB:List<|O×Obj) (Z:St) (H:Hp) (s:aP) (e dx:O) (c p:Int) (S:Array aC),Inv X aB Z H s->X.Hx.heap.objs.size<=e->H e=none->XF.Ob s.heap e C dx S->S[1]? =some .none->H dx=some (.xd<|ff c p)->E (.ref C) (some dx) H->X.xe (.ref e) s
def aiu{P:eL}{w:gH}{K:aJ}{mg:Str->Option aC}{base:eZ}{N:List Str}{qual:Str}{scope:qL}{f:O}{cd:aC}{A:gZ}{outer:List Env}{s0:aP}{H0:Hp}{E:XK}{C:O}:Rz (jF (pU P w C) P w K mg base N qual scope f cd A outer s0 H0 E) C E:= λ_ _ _ _ _ _ _ _ _ I G n1 ob v1 hd hE=>aey I G n1 ob v1 hd hE
def J8(C:O)(E:XK)(t:TA):TS:= λ_ Z H=>t Z H λS L=>∃c p,S=[.int c,.int p]/\∀dx,L dx=none->E (.ref C) (some dx) (upd L dx<|.xd<|ff c p)
section
variable{X:Cx} {k:Nat} {C fI:O} {fd:kM} {E:XK} {x:Str} {np nZ pos:Pos} {a b:Expr} {t:TA}
theorem Vw(R:Rz X C E)(F:Flt X.K C fI)(atG:nQ X.prog X.w X.K X.mg X.base QX k fI fd ["self","code","place"]<|acp C)(hr:ia (k+1) X.A)(hg:Gl X x)(hm:X.mg x=some (.ref C))(hb:Binds X.K fd ["self","code","place"] []) (ha:PA X [a,b] t)(ER:(x==("__debug__":Str))=false:=by decide)(he:starEach [a,b] X.env=(false,eval a X.env)::starEach [b] X.env:=by rfl)(yc:(backTo nZ<|starEach [b] X.env).any (·.1)=false:=by rfl):PS X (.Raise (some<|.Call (.Name x np) [a,b] [] nZ) none pos)<|J8 C E t:=by
 intro aB s Z H D I h;let⟨nm,q,N,bs,sn,sub,ab,col,dd,k0,k1,k2,k3,k5,mN,lk,ns,m1,m2,m3,m4,m5,m6⟩:=F.obj;let⟨oI,lI,cI⟩:=F.fn;rw[arm_exec_Raise];calc aQ (x9<|XF.Sj (C:=C) (nm:=nm) (q:=q) (N:=N) (bs:=bs) (bm:=XF.ZP) (sn:=sn) (sub:=sub) (ab:=ab) (col:=col) (dd:=dd) (k0:=k0) (k1:=k1) (k2:=k2) (k3:=k3) (k5:=k5) (newId:="ValueError.__new__") 'd' hr.hd ?_);calc aQ<|fF (Q:= λv s1=>∃e t dx,v= .ref e/\s1.heap.get? C=some (ju nm q C N bs XF.ZP true sn sub ab col dd k0 k1 k2 k3 k5 "ValueError.__new__")/\s1.heap.get? e=some {cls:= .ref C,dict:=some dx,data:= .fields #[.ref t,.none,.none,.none,.bool false,.none]}/\X.xe (.ref e) s1) ?_ (λv s3 z=>aQ<|x9<|bS z) λ_ _ z=>z;calc eV<|pQ I hg hm ?_ ER;calc je (h₀:=X.base) I.ok.mod.kin F.kp (iz (ha nZ aB s Z H _ I h) ?_) he yc;rintro us s1 ⟨S,L,I1,r,c,p,ev,hE⟩;calc⟨I1.Ag,?_⟩;subst ev;let⟨hh,g,d,tk,os⟩:=s1;have sz:us.length<=sizeLine:=by rw[←r.length,aW];show 2<=16777216;decide
 calc XF.call_cls PySem.F.excBase_ValueError (I1.Ag _ _ lk) (ns _ I1.Ag) m1 (I1.Ag _ _ lI) cI ?_ sz;generalize ee:hh.objs.size+1=e;have fre:hh.objs.size<=e:='l'
 have q1:(XF.made hh C us).get? e=some {cls:= .ref C,data:= .fields #[.ref hh.objs.size,.none,.none,.none,.bool false,.none]}:=by rw[←ee];exact XF.TR hh C us
 have nH:L e=none:=I1.fQ.fresh fre;have I2:Inv X aB Z (upd L e<|.ext<|G8 e C) ⟨XF.made hh C us,g,d,tk,os⟩:=I1.laid (t':=tk) (λb u z=>XF.Ai z) fre<|G8.ok ⟨hh.objs.size,q1⟩;have r2:Vals (V.ref e::[V.int c,V.int p])<|bU e::us:= .cons Y r;have hl:((bU e::us)++[]).length=(["self","code","place"]:List Str).length:=by rw[cV,←r2.length];rfl
 have bb:=hb _ (bU e::us) I2.Ag hl;rw[cV]at bb;refine QT (AQ (atG.run _ X.stack _ _ ⟨bU e::us,[]⟩ (bU e::us) _ (λv H2=>v= .gQ/\∃dx,L dx=none/\dx≠e/\H2=upd (upd L dx<|.xd<|ff c p) e (.ext<|OQ e C dx)) (λ_ _ _=>False) (hr.make C us []) (I2.adf.make C us []) bb r2 ?Tq) λrr s' z=>?_)
 case Tq=>
  refine⟨e,c,p,Y,aq,λdx n1 n2=>⟨Y,dx,?_,n2,?_⟩⟩
  .rw[aY n2]at n1;exact n1
  .funext y;unfold upd;split
   .rfl
   .split
    .rfl
    .rfl
 cases rr with
 |error ev=>exact z.elim
 |ok fl=>
  cases fl with
  |ret u=>
   let⟨v,H2,I3,rv,ev,dx,n1,n2,rfl⟩:=I2.after z;subst ev;obtain rfl:u=f9:=rv;calc⟨Y,e,?_⟩;let⟨⟨t1,q4⟩,_,_⟩:=I3.fQ e _ aq;have I4:=I3.drop (a:=e) aq;have eq:(λy=>if y=e then none else(upd (upd L dx<|.xd<|ff c p) e<|.ext<|OQ e C dx) y)=upd L dx (.xd<|ff c p):=by
    funext y;by_cases z2:y=e
    .rw[aG z2,z2,aY<|f6 n2];exact nH.symm
    .rw[az z2,aY z2]
   rw[eq]at I4;calc⟨t1,dx,Y,I3.Ag _ _ lk,q4,R aB Z _ s' e dx c p _ I4 (bH I1.sz fre) (by rw[aY<|f6 n2];exact nH) ⟨_,q4,Y,Y,Y⟩ Y aq<|hE dx n1⟩
  |next=>exact dY z
  |brk=>exact dY z
  |cont=>exact dY z
end
end L2
namespace XF
open PySem
variable{e C dx T:O} {env:Env} {Q:Unit->aP->Prop} {fl:aC}
section
variable{M:acG} {A:gZ} {E:aC->aP->Prop} {s:aP}
def Dr{base:eZ}{outer:List Env}{atF:O} (fr:A.frames=some (env::outer))(ff:s.heap.FunFrames base<|env::outer)(fL:env.frame=some atF)(tr:Tr s.heap e C dx T fl) (fin:∀h' T',Ch ((env::outer).filterMap (·.frame)) [e,T] s.heap h'->(T'=T∨s.heap.objs.size<=T')->Tr h' e C dx T' (rawInt atF)->Q () {s with heap:=h'}):wpAny M A (noteFrame (.ref e) env) Q E s:=by
 by_cases same:fl=rawInt atF
 .subst same;let⟨S,oT,ts,⟨o,he,oc,od,oU⟩,G,ne,hT,dT,h3⟩:=id tr;exact wpAny_noteFrame_inFlight fL he oU G hT dT h3 (fin s.heap T (Ch.refl _ _ _) (.inl Y) tr)
 let⟨S,oT,ts,⟨o,he,oc,od,oU⟩,G,ne,hT,dT,h3⟩:=tr;have sz3:3<ts.size:=(fN.mp h3).1;unfold noteFrame;simp only[fL];calc aQ<|lG he oU G ?_;rw[aG<|show(bU T !=f9)=true from 's'];calc aQ<|lG hT dT h3 ?_;rw[az<|show¬((fl==rawInt atF)=true)fromλz=>same<|eq_of_beq z];calc aQ<|Es hT dT sz3 ?_;have JS:∀b,b≠T->(s.heap.update T (lE (·.setIfInBounds 3 f9))).get? b=s.heap.get? b:= λb hb=>fj _ _<|f6 hb;have nT:∀b o,s.heap.get? b=some o->(∀S,o.data≠ .fields S)->b≠T:= λb o hb nf z=>by
  rw[z,hT]at hb;cases hb;exact nf ts dT
 calc IL fr (ff.of_keeps λb o hb nf=>⟨o,(JS b<|nT b o hb nf).trans hb,Y⟩) fL ⟨o,(JS e<|f6 ne).trans he,oc,od,oU⟩ (fN.mp G).1 λh' T' ch le tr'=>?_;refine fin h' T' ⟨λb ob hb n1 n2=>?_,λb ob hb n2=>?_⟩ (.inr (by rw[show(s.heap.update T (lE (·.setIfInBounds 3 f9))).objs.size=s.heap.objs.size from xJ ..]at le;exact le)) tr'
 .have a1:b≠e:= λz=>n2 (by simp[z]);have a2:b≠T:= λz=>n2 (by simp[z]);exact ch.keep b ob ((JS b a2).trans hb) n1 (by simp[a1])
 .have a1:b≠e:= λz=>n2 (by simp[z]);have a2:b≠T:= λz=>n2 (by simp[z]);exact ch.slot b ob ((JS b a2).trans hb) (by simp[a1])
def aap{fo:Option O}{fr:List O}(tr:Tr s.heap e C dx T fl) (fin:∀h' fl',Ch fr [T] s.heap h'->(∀b o,b≠T->s.heap.get? b=some o->h'.get? b=some o)->Tr h' e C dx T fl'->Q () {s with heap:=h'}):wpAny M A (setFlight (.ref e) fo) Q E s:=by
 let⟨S,oT,ts,⟨o,he,oc,od,oU⟩,G,ne,hT,dT,h3⟩:=tr;have sz3:3<ts.size:=(fN.mp h3).1;unfold setFlight;calc aQ<|lG he oU G ?_;rw[aG<|show(bU T !=f9)=true from 's'];calc Es hT dT sz3 ?_;generalize (fo.elim f9 λf=>rawInt f)=z;have JS:∀b,b≠T->(s.heap.update T (lE (·.setIfInBounds 3 z))).get? b=s.heap.get? b:= λb hb=>fj _ _<|f6 hb;calc fin _ z ⟨λb ob hb n1 n2=>(JS b λz=>n2<|by simp[z]).trans hb,λb ob hb n2=>⟨ob.slots,(JS b λz=>n2<|by simp[z]).trans hb⟩⟩ (λb ob nb hb=>(JS b nb).trans hb) ?_;exact⟨S,_,_,⟨o,(JS e<|f6 ne).trans he,oc,od,oU⟩,G,ne,lD _ hT<|z8<|nS dT _,nS dT _,by simp[sz3]⟩
def Vq{x:aC}{agW:Env}(h:env.frame=agW.frame):noteFrame x env=noteFrame x agW:=by
 unfold noteFrame frameOf;rw[h]
end
end XF
namespace L2
open PySem PySem.Spec PyProof.Rows
variable{f C e dx a:O} {atG:O->Nat->V->Hp->Prop} {A:gZ} {b:Bool} {R:Bool->Hp->Prop} {X:Cx} {D:Ends} {G7 iter:Expr} {base h h':eZ} {H H3 L H2:Hp} {lo:Int} {aB:List (O×Obj)} {own:List (Str×Nat)} {outer:List Env} {Eu:List Expr} {N:List Str} {xs ys:List V} {i j n0:Nat} {Pv:Nat->St->Hp->Prop} {use:Option (aC->Sem Unit)} {pos:Pos} {P:eL} {K:aJ} {r:R2} {scope:qL} {s:aP} {Z:St} {qual:Str} {mg:Str->Option aC} {tg:TA} {te tb ta tc tl:TE} {g:TG} {wi:TI} {t u:TS} {tt tt':TT} {y x v:V} {Q:VK} {cd:aC} {Qf:aC->aP->Prop} {w:gH} {E:XK}
section
variable{s0:aP} {H0:Hp} {T:O} {c p:Int} {fl:aC}
def Vl(I:Inv (jF (pU P w C) P w K mg base N qual scope f cd A outer s0 H0 E) aB Z H s)(G:s0.heap.objs.size<=e)(h2:s0.heap.objs.size<=T)(n1:H e=none)(n2:H T=none)(tr:XF.Tr s.heap e C dx T fl) (hd:H dx=some (.xd<|ff c p))(hE:E (.ref C) (some dx) H):(jF (pU P w C) P w K mg base N qual scope f cd A outer s0 H0 E).xe (.ref e) s:=by
 show wpAny (model P w) _ (leaving _<|.ref e) _ _ _;unfold leaving;calc aQ<|XF.Dr (base:=base) (atF:=s0.heap.objs.size) I.ok.frames I.stack Y tr λh' T' x le tr'=>?_;calc XF.Ah (fr:=xS<|envOfC qual scope s0.heap.objs.size f cd::outer) tr' λZ4 y sz Wi=>?_;have nT':H T'=none:=le.elim (λz=>by rw[z];exact n2) λz=>I.fQ.fresh z;have gT':s0.heap.objs.size<=T':=le.elim (λz=>by rw[z];exact h2) λz=>bH I.sz z;have all:XF.Ch (xS<|envOfC qual scope s0.heap.objs.size f cd::outer) [e,T,T'] s.heap Z4:=(x.mono λb z=>by simp at z⊢;rcases z with z|z<;>simp[z]).trans (y.mono λb z=>by rw[cA.mp z];simp);have nfr:∀b∈xS (envOfC qual scope s0.heap.objs.size f cd::outer),H b=none:=I.As;have nch:∀b∈[e,T,T'],H b=none:= λb z=>by
  simp at z;rcases z with rfl|rfl|rfl<;>assumption
 have gch:∀b∈[e,T,T'],s0.heap.objs.size<=b:= λb z=>by
  simp at z;rcases z with rfl|rfl|rfl<;>assumption
 have old:∀b o,s0.heap.get? b=some o->b∉[e,T,T']:= λb o q z=>absurd (bA q)<|ai5.mpr<|gch b z;have sub:∀b∈xS (envOfC qual scope s0.heap.objs.size f cd::outer),b=s0.heap.objs.size∨b∈xS outer:= λb z=>aX.mp<|I.FA b z;have bs:Un (xS outer) [] H0 H s0.heap s.heap:=I.base;refine⟨e,dx,T',c,p,H,Y,I.os,I.bare,⟨λb o q n hb _=>?_,λb o q n hb _=>?_,bs.free,λb o q _=>?_,bs.Em,bs.Ci,bs.Ek⟩,I.fQ.ch all nfr nch,G,gT',n1,nT',Wi,hd,hE⟩
 .calc all.keep b o (bs.keep b o q n hb 's') (λz=>?_)<|old b o q;rcases sub b z with rfl|z
  .exact absurd (bA q) (fJ _)
  .exact hb z
 .let⟨sl,q1⟩:=bs.slot b o q n hb 's';let⟨sl2,q2⟩:=all.slot b _ q1<|old b o q;exact⟨sl2,q2⟩
 .let⟨o1,q1⟩:=bs.there b o q 's';let⟨sl2,q2⟩:=all.slot b _ q1<|old b o q;exact⟨_,q2⟩
end
def Lv(X:Cx)(C:O)(E:XK):Prop:=∀(aB:List<|O×Obj) (Z:St) (H:Hp) (s:aP) (e dx T:O) (c p:Int) (fl:aC),Inv X aB Z H s->X.Hx.heap.objs.size<=e->X.Hx.heap.objs.size<=T->H e=none->H T=none->XF.Tr s.heap e C dx T fl->H dx=some (.xd<|ff c p)->E (.ref C) (some dx) H->X.xe (.ref e) s
def ab7{s0:aP}{H0:Hp}:Lv (jF (pU P w C) P w K mg base N qual scope f cd A outer s0 H0 E) C E:= λ_ _ _ _ _ _ _ _ _ _ I G h2 n1 n2 tr hd hE=>Vl I G h2 n1 n2 tr hd hE
noncomputable abbrev Cx.ue(X:Cx)(s:aP)(H:Hp)(scope:qL)(lX:Env)(fp:List O)(E:aC->aP->Prop):Cx:=(X.Mf s H scope lX fp).HE E
def Tr.ne{h h':eZ}{e C dx T c:O}{fl:aC}(tr:XF.Tr h e C dx T fl)(n1:e≠c)(n2:T≠c)(k:∀b o,b≠c->h.get? b=some o->h'.get? b=some o):XF.Tr h' e C dx T fl:=by
 let⟨S,oT,ts,⟨o,he,oc,od,oU⟩,G,ne,hT,dT,h3⟩:=tr;exact⟨S,oT,ts,⟨o,k _ _ n1 he,oc,od,oU⟩,G,ne,k _ _ n2 hT,dT,h3⟩
def Rv{s3:aP}{ce:Env}{fp:List O}{C0:O}{EX:XK}{D:aC}(lv:Lv X C0 EX) (uP:X.stack=X.env::X.outer/\X.env.frame=some X.env.locals)(I3:Inv X aB Z H3 s3)(f3:∀b∈fp,sP X aB H3 b)(cf:ce.frame=X.env.frame)(cL:ce.locals=s3.heap.objs.size):Passes (pU X.prog X.w C0) (X.ue s3 H3 scope ce fp<|notedBy (model X.prog X.w) X.A ce λx s'=>compPost (model X.prog X.w) X.A X.xe use Qf D s3.heap.objs.size (.error x) s') EX:=by
 intro pB σB HB sB ev s' IB x;let⟨e,dx,T,c,p,U,rfl,os,bare,un,fQ,g1,g2,n1,n2,tr,hd,hE⟩:=x;have I2:=IB.Mg (ch:=[]) os un fQ bare (λb z=>absurd z 's');have szB:s3.heap.objs.size<=sB.heap.objs.size:=IB.sz;have ltL:s3.heap.objs.size<sB.heap.objs.size:=by
  have z:ce.locals<sB.heap.objs.size:=IB.lt;rw[cL]at z;exact z
 have nC:U s3.heap.objs.size=none:=by
  have z:U ce.locals=none:=I2.free;rw[cL]at z;exact z
 have hcs:∀m,s'.heap.Ns ce.locals m->s'.heap.Ns s3.heap.objs.size m:= λm z=>by rw[cL]at z;exact z
 show wpAny (model X.prog X.w) X.A (noteFrame (.ref e) ce) _ _ s';rw[XF.Vq cf];have fr:X.A.frames=some (X.env::X.outer):=by rw[←uP.1];exact I3.ok.frames
 have ff0:s'.heap.FunFrames X.base<|X.env::X.outer:=by
  rw[←uP.1];exact I2.Cj
 calc XF.Dr (base:=X.base) fr ff0 uP.2 tr λG T' x le tr1=>?_;have Pw:(X.env::X.outer).filterMap (·.frame)=xS X.stack:=by rw[uP.1];rfl
 rw[Pw]at x;have ltS:s3.heap.objs.size<s'.heap.objs.size:=by
  have z:ce.locals<s'.heap.objs.size:=I2.lt;rw[cL]at z;exact z
 have ge:s3.heap.objs.size<e:=bD ltL g1;have gT:s3.heap.objs.size<T:=bD ltL g2;have gT':s3.heap.objs.size<T':=le.elim (λz=>by rw[z];exact gT) λz=>bD ltS z;have nT':U T'=none:=le.elim (λz=>by rw[z];exact n2) λz=>fQ.fresh z;have old:∀b o,s3.heap.get? b=some o->b∉[e,T]:= λb o q z=>by
  have l:=bA q;simp at z;rcases z with rfl|rfl
  .exact absurd (x6 l ge) (fJ _)
  .exact absurd (x6 l gT) (fJ _)
 have bs:Un (xS X.stack) fp H3 U s3.heap s'.heap:=I2.base;have un1:Un (xS X.stack) fp H3 U s3.heap G:=⟨λb o q n hb hx=>x.keep b o (bs.keep b o q n hb hx) hb<|old b o q,λb o q n hb hx=>by
   let⟨sl,q1⟩:=bs.slot b o q n hb hx;let⟨sl2,q2⟩:=x.slot b _ q1<|old b o q;exact⟨sl2,q2⟩,bs.free,λb o q hx=>by
   let⟨o1,q1⟩:=bs.there b o q hx;let⟨sl2,q2⟩:=x.slot b _ q1<|old b o q;exact⟨_,q2⟩,bs.Em,bs.Ci,bs.Ek⟩
 have nfr:∀b∈xS X.stack,U b=none:= λb hb=>I2.As b hb;have alx:vF X.prog X.w U G:=fQ.ch x nfr λb z=>by
  simp at z;rcases z with rfl|rfl<;>assumption
 have I7:Inv X aB Z U {s' with heap:=G}:=I3.Mg (ch:=fp) (s':={s' with heap:=G}) I2.os un1 alx bare λb hb=>⟨(f3 b hb).2.2.2.1,(f3 b hb).2.1,(f3 b hb).2.2.2.2.1,(f3 b hb).2.2.2.2.2⟩;let⟨m,hn,_⟩:=I2.loc;have hn:=hcs m hn;let⟨oC,es,ep,hoC,rC⟩:=hn;have aia:s3.heap.objs.size∉xS X.stack:= λz=>by
  let⟨_,o,ho,_⟩:=I3.stack.mem z;exact absurd (bA ho) (fJ _)
 have alv:G.get? s3.heap.objs.size=some oC:=x.keep _ _ hoC aia (by
  simp;exact⟨cj ge,cj gT⟩)
 calc⟨m,⟨oC,es,ep,alv,rC⟩,λh2 sb lX _=>?_⟩;let⟨f0,fa,_,fb,fc,fd⟩:=I3.Cg (U:=U) (b:=s3.heap.objs.size) (aT _) nC;have I8:Inv X aB Z U {s' with heap:=h2}:=I7.turned (t':=s'.toks) (λb o hb q=>(sb.2 b hb).trans q) f0 fa fb fc fd;have Wi:XF.Tr h2 e C0 dx T'<|rawInt X.env.locals:=Tr.ne tr1 (mE ge) (mE gT') λb o hb q=>(sb.2 b hb).trans q;let⟨S,oT,ts,⟨o,he,oc,od,oU⟩,v1,ne,hT,dT,h3⟩:=id Wi;show wpAny _ _ (abE _ (.ref e) lX) _ _ _;unfold abE;calc aQ<|lG he oU v1 ?_;rw[az<|show¬((bU T'==f9)=true)from 's'];calc aQ<|XF.aap (fr:=[]) (s:={s' with heap:=h2}) Wi λh3 fl' _ kp tr3=>wpAny_throw ?_;let⟨t0,ta,_,tb,tc,td⟩:=I3.Cg (U:=U) (b:=T') (kL gT') nT';have I9:Inv X aB Z U {s' with heap:=h3}:=I8.turned (t':=s'.toks) kp t0 ta tb tc td;exact lv aB Z U _ e dx T' c p fl' I9 (bH I3.sz<|kL ge) (bH I3.sz<|kL gT') n1 nT' tr3 hd hE
def PU{tg:Expr}{rF:Pos} (hc:X.calm=true)(hN:X.N.Nodup)(I:Inv X aB Z H s)(hi:PI X tg iter wi)(ok:FO X.N X.env.scope scope own) (C0:O)(EX:XK)(lv:Lv X C0 EX)(uP:X.stack=X.env::X.outer/\X.env.frame=some X.env.locals) (hg:∀(s:aP) (H:Hp) (C:O) (cl:List<|Str×O) (fp:List O) (EB:aC->aP->Prop),PG (X.ue s H scope (compEnvC scope cl C X.env) fp EB) tg g)(ht:∀(s:aP) (H:Hp) (C:O) (cl:List<|Str×O) (fp:List O) (EB:aC->aP->Prop),PTs (X.ue s H scope (compEnvC scope cl C X.env) fp EB) Eu tt) (he:∀(s:aP) (H:Hp) (C:O) (cl:List<|Str×O) (fp:List O) (EB:aC->aP->Prop),Passes (pU X.prog X.w C0) (X.ue s H scope (compEnvC scope cl C X.env) fp EB) EX->PE (X.ue s H scope (compEnvC scope cl C X.env) fp EB) G7 te)(hs:∀x,jS iter X.env x=pure x) (h:KL wi g tt te (own.map (·.2)) Z H Q) (hRR:∀D C s' m U,Inv X aB Z U s'->Q (.ref D) U->s'.heap.Ns C m->sP X aB U C->compPost (model X.prog X.w) X.A X.xe use Qf (.ref D) C (.ok .next) s'):wpAny (model X.prog X.w) X.A (comprehension (.ListComp G7 [⟨tg,iter,Eu,0⟩] scope pos) scope X.env rF (newList []) false (eval iter X.env) use) Qf X.xe s:=by
 have F2:∀y∈scope.names,y.2= .free->∃c,X.env.cells.lookup y.1=some c:= λy hy e=>by
  rcases ok.free y hy e with k|k
  .exact I.ok.has _ (.inl k)
  .exact I.ok.has _ (.inr k)
 calc S1 (use:=use) Y hs (II F2) ok.kind (λy hy e=>by rw[ok.uniq y hy,e])<|iz (hi aB s Z H _ I h) λxv s1 hx=>iz hx λitv s2 h2=>?_;let⟨it,fp,tn,atD,H2,e,I2,T,st2,f2,q⟩:=h2;subst e;calc jT (Ge ?_)<|jH 0;generalize hD:s2.heap.objs.size=D;have hDn:H2 D=none:=I2.fQ.fresh<|oV hD;let⟨W,⟨m0,w0⟩,Ng⟩:=q D hDn;generalize hs3:({s2 with heap:=s2.heap.push {cls:= .type "list",data:= .seq ([]:List aC).toArray} }:aP)=s3;have I3:Inv X aB Z (upd H2 D<|.lst []) s3:=by
  rw[←hs3];calc I2.laid (t':=s2.toks) (λb o e=>aS _ e) (oV hD) ⟨b7 _,[],0,.nil,?_⟩;rw[←hD];exact bZ _ Y
 have h3:s3.heap=s2.heap.push {cls:= .type "list",data:= .seq ([]:List aC).toArray}:=by rw[←hs3]
 have sz:∀b∈fp,b<s2.heap.objs.size:= λb hb=>by
  let⟨o,e,_⟩:=T.obj _ _ st2 b hb;exact bA e
 have f3:∀b∈fp,sP X aB (upd H2 D<|.lst []) b/\b<s3.heap.objs.size:= λb hb=>by
  have xU:=sz b hb;calc⟨⟨?_,(f2 b hb).2⟩,by rw[h3,fP];exact uC xU⟩;rw[aY<|by rw[←hD];exact cj xU];exact(f2 b hb).1
 have st3:tn 0 s3.heap:=T.keep _ _ _ st2 λb _ o e=>by rw[h3];exact aS _ e
 have I4:=FQ I3 ok hN f3;generalize hEB:notedBy (model X.prog X.w) X.A (compEnvC scope (cellsFrom (s3.heap.objs.size+1) scope.names<|fW X.env.cells scope.names []) s3.heap.objs.size X.env) (λx s'=>compPost (model X.prog X.w) X.A X.xe use Qf (.ref D) s3.heap.objs.size (.error x) s')=EB;have I4:=I4.HE EB;have pg:=hg s3 (upd H2 D<|.lst []) s3.heap.objs.size (cellsFrom (s3.heap.objs.size+1) scope.names<|fW X.env.cells scope.names []) fp EB;have pt:=ht s3 (upd H2 D<|.lst []) s3.heap.objs.size (cellsFrom (s3.heap.objs.size+1) scope.names<|fW X.env.cells scope.names []) fp EB;have pe:=he s3 (upd H2 D<|.lst []) s3.heap.objs.size (cellsFrom (s3.heap.objs.size+1) scope.names<|fW X.env.cells scope.names []) fp EB (by rw[←hEB];exact Rv lv uP I3 (λb hb=>(f3 b hb).1) Y Y);show codeAny _ _ (.compStart (.ListComp G7 [⟨tg,iter,Eu,0⟩] scope pos) 0 (.ref it) (.ref D)<|compEnvC scope (cellsFrom (s3.heap.objs.size+1) scope.names<|fW X.env.cells scope.names []) s3.heap.objs.size X.env) (compPost (model X.prog X.w) X.A X.xe use Qf (.ref D) s3.heap.objs.size) {s3 with heap:=pushCells (s3.heap.push {cls:= .type "dict",data:= .dict #[]}) scope.names};have nfp:∀b∈fp,(upd H2 D<|.lst []) b=none:= λb hb=>(f3 b hb).1.1;generalize hce:compEnvC scope (cellsFrom (s3.heap.objs.size+1) scope.names<|fW X.env.cells scope.names []) s3.heap.objs.size X.env=ce at I4 pg pt pe hEB⊢;have cL:ce.locals=s3.heap.objs.size:=by subst hce;rfl
 generalize hH3:upd H2 D (.lst [])=H3 at I3 I4 pg pt pe w0 nfp f3;generalize hs4:({s3 with heap:=pushCells (s3.heap.push {cls:= .type "dict",data:= .dict #[]}) scope.names}:aP)=s4 at I4⊢;have st4:tn 0 s4.heap:=T.keep _ _ _ st3 λb _ o e=>by rw[←hs4];exact sR _ _ _ _ (aS _ e)
 have KD:∀{σ':St} {U:Hp} {s':aP},Inv (X.ue s3 H3 scope ce fp EB) [] σ' U s'->(∀b∈fp,U b=none)->∀b∈fp,sP (X.ue s3 H3 scope ce fp EB) [] U b:= λ{σ' U s'} I' hn b hb=>
  ⟨hn b hb,(I'.ok.exf b hb).1,I'.ok.Pp b hb,.inl hb,λx c e=>(I'.ok.exf b hb).2 x c e,λp hp=>absurd (show p∈([]:List<|O×Obj)++[]from hp) 's'⟩
 have loop:codeAny (model X.prog X.w) X.A (.compLoop (.ListComp G7 [⟨tg,iter,Eu,0⟩] scope pos) 0 (.ref it) (.ref D) ce) (compPost (model X.prog X.w) X.A X.xe use Qf (.ref D) s3.heap.objs.size) s4:=by
  calc C9 (λn s'=>∃i U,Inv (X.ue s3 H3 scope ce fp EB) [] (wipe Z (own.map (·.2))) U s'/\tn i s'.heap/\(∀b∈fp,U b=none)/\W i n U) ?_ m0 ⟨0,H3,I4,st4,nfp,w0⟩;rintro n s5 ⟨i,H5,I5,st5,n5,w5⟩;rw[hEB];rcases Ng i n H5 w5 with⟨stop,qq⟩|⟨go,Nx,hNx,step⟩
  .have td:=T.done (X.ue s3 H3 scope ce fp EB) Y Y Y hc i [] s5 _ H5 (λ_ _=>False) I5 (KD I5 n5) st5 stop;calc OE td ?_;rintro r s6 ⟨hr,I6⟩;subst hr;have I7:Inv X aB Z H5 s6:=I3.Mg (ch:=fp) I6.os I6.base I6.fQ I6.bare λb hb=>⟨(f3 b hb).1.2.2.2.1,(f3 b hb).1.2.1,(f3 b hb).1.2.2.2.2.1,(f3 b hb).1.2.2.2.2.2⟩;have nC:H5 s3.heap.objs.size=none:=by
    have z:H5 ce.locals=none:=I6.free;rw[cL]at z;exact z
   let⟨m,hn,_⟩:=I6.loc;have hn:s6.heap.Ns ce.locals m:=hn;rw[cL]at hn;exact hRR D s3.heap.objs.size s6 m H5 I7 qq hn (I3.Cg (aT _) nC)
  .have ti:=T.item (X.ue s3 H3 scope ce fp EB) Y Y Y hc i [] s5 _ H5 (λ_ _=>False) I5 (KD I5 n5) st5 go;calc OE ti ?_;rintro r s6 ⟨u,hr,h6⟩;subst hr;calc OE h6 ?_;rintro _ s7 ⟨x,H7,I7,r7,y7,Wh,n7⟩;have I7':=I7.pinned (KD I7 n7)<|T.obj _ _ Wh;calc iz (pg _ s7 _ H7 x u _ I7' r7<|step x H7 y7) ?_;rintro _ s8 ⟨σ8,H8,I8,hw8,q8⟩;calc iz (pt _ s8 σ8 H8 _ I8 q8) ?_;rintro b s9 ⟨H9,I9,q9⟩;have fin:∀{s':aP} {U:Hp},Inv (X.ue s3 H3 scope ce fp EB) ([]++Fj fp s7.heap) σ8 U s'->Nx U->∃m,m<n/\∃i U,Inv (X.ue s3 H3 scope ce fp EB) [] (wipe Z (own.map (·.2))) U s'/\tn i s'.heap/\(∀b∈fp,U b=none)/\W i m U:= λ{s' U} I' nx=>by
    let⟨m',hm,w'⟩:=hNx U nx;have XX:∀b∈fp,∀o,s7.heap.get? b=some o->s'.heap.get? b=some o/\U b=none:= λb hb o e=>
     let z:=I'.pin (b,o) (eU _<|eU _<|wc hb e)
     ⟨z.1,z.2.1⟩
    have hl:(wipe Z (own.map (·.2))).length=σ8.length:=by rw[←hw8,tX]
    refine⟨m',hm,i+1,U,(I'.zW (aB:=[])).weak hl (λj v e=>?_),T.keep _ _ _ Wh λb hb o e=>(XX b hb o e).1,λb hb=>?_,w'⟩
    .rw[←hw8]at e;exact(Ax e).1
    .let⟨o,e,_⟩:=T.obj _ _ Wh b hb;exact(XX b hb o e).2
   cases b with
   |false=>
    simp only[CZ,UP]at q9⊢;exact fin I9 q9
   |true=>
    simp only[OP]at q9⊢;calc iz (pe _ s9 σ8 H9 _ I9 q9) ?_;rintro z Wg ⟨yv,H10,I10,r10,acc,RH,adJ,nx⟩;exact WB (X:=X.ue s3 H3 scope ce fp EB) I10 RH adJ r10 λQ6 I11=>fin I11 nx
 exact V5 loop (T.self X.A 0 _ _ _ st4 loop)
def ael{tg:Expr}(hc:X.calm=true)(hN:X.N.Nodup)(hi:PI X tg iter wi)(ok:FO X.N X.env.scope scope own) (C0:O)(EX:XK)(lv:Lv X C0 EX)(uP:X.stack=X.env::X.outer/\X.env.frame=some X.env.locals) (hg:∀(s:aP) (H:Hp) (C:O) (cl:List<|Str×O) (fp:List O) (EB:aC->aP->Prop),PG (X.ue s H scope (compEnvC scope cl C X.env) fp EB) tg g)(ht:∀(s:aP) (H:Hp) (C:O) (cl:List<|Str×O) (fp:List O) (EB:aC->aP->Prop),PTs (X.ue s H scope (compEnvC scope cl C X.env) fp EB) Eu tt) (he:∀(s:aP) (H:Hp) (C:O) (cl:List<|Str×O) (fp:List O) (EB:aC->aP->Prop),Passes (pU X.prog X.w C0) (X.ue s H scope (compEnvC scope cl C X.env) fp EB) EX->PE (X.ue s H scope (compEnvC scope cl C X.env) fp EB) G7 te)(hs:∀x,jS iter X.env x=pure x:=by intro _;rfl):PE X (.ListComp G7 [⟨tg,iter,Eu,0⟩] scope pos) (KL wi g tt te (own.map (·.2))):=by
 intro aB s Z H Q I h;rw[akk];calc PU hc hN I hi ok C0 EX lv uP hg ht he hs h λD C s' m U I' q hn f=>⟨m,hn,λh'' sb=>?_⟩;let⟨f0,f1,f2,f3,f4,f5⟩:=f;exact⟨.ref D,U,I'.turned (t':=s'.toks) (λb o hb e=>(sb.2 b hb).trans e) f0 f1 f3 f4 f5,Y,q⟩
def Vx{y:Str}{py:Pos}{tg:Expr}{YE:Pos}(hc:X.calm=true)(hN:X.N.Nodup)(hy:X.N[i]? =some y)(hyl:X.env.scope.names.lookup y=some .local)
  (hsw:nA (.ListComp G7 [⟨tg,iter,Eu,0⟩] scope pos) (some<|.Name y py) YE.line X.env=pure true)(hi:PI X tg iter wi)(ok:FO X.N X.env.scope scope own)
  (C0:O)(EX:XK)(lv:Lv X C0 EX)(uP:X.stack=X.env::X.outer/\X.env.frame=some X.env.locals)
  (hg:∀(s:aP) (H:Hp) (C:O) (cl:List<|Str×O) (fp:List O) (EB:aC->aP->Prop),PG (X.ue s H scope (compEnvC scope cl C X.env) fp EB) tg g)(ht:∀(s:aP) (H:Hp) (C:O) (cl:List<|Str×O) (fp:List O) (EB:aC->aP->Prop),PTs (X.ue s H scope (compEnvC scope cl C X.env) fp EB) Eu tt)
  (he:∀(s:aP) (H:Hp) (C:O) (cl:List<|Str×O) (fp:List O) (EB:aC->aP->Prop),Passes (pU X.prog X.w C0) (X.ue s H scope (compEnvC scope cl C X.env) fp EB) EX->PE (X.ue s H scope (compEnvC scope cl C X.env) fp EB) G7 te)(hs:∀x,jS iter X.env x=pure x:=by intro _;rfl):
  PS X (.Assign [.Name y py] (.ListComp G7 [⟨tg,iter,Eu,0⟩] scope pos) YE) (CL (KL wi g tt te (own.map (·.2)))<|ic i):=by
 intro aB s Z H D I h;rw[Wq _ _ _ _ hsw];calc aQ<|x9<|aQ ?_;show wpAny _ X.A (do let _←comprehension (.ListComp G7 [⟨tg,iter,Eu,0⟩] scope pos) scope X.env (firstIterPos [⟨tg,iter,Eu,0⟩] pos) (newList []) false (eval iter X.env) (some (assign (.Name y py) X.env))) _ _ s;have h:KL wi g tt te (own.map (·.2)) Z H (λx L=>ic i x Z L D.nx):=h;calc aQ<|iz (PU (Qf:= λ_ s'=>SP X aB D .next s') hc hN I hi ok C0 EX lv uP hg ht he hs h λatF C s' m U I' q hn f=>?_) λ_ s' hq=>bS<|bS hq;show wpAny _ _ (assign (.Name y py) X.env<|.ref atF) _ _ _;calc K6<|Au (v:=V.ref atF) I' hN hy (.inl hyl) Y (?_)<|.inr hyl;rintro s2 I2 ⟨a,sb,ha⟩;let⟨f0,f1,f2,f3,f4,f5⟩:=f;have haC:C≠a:=by
  rcases ha with z|z
  .rw[z];exact f1
  .exactλe=>f4 y a z e.symm
 calc⟨m,hn.sameBut sb haC,λh3 sb3=>?_⟩;exact⟨_,U,I2.turned (t':=s2.toks) (λb o hb e=>(sb3.2 b hb).trans e) f0 f1 f3 f4 f5,q⟩
def ZG(e C dx:O)(h:eZ):Prop:=∃S,XF.Ob h e C dx S
def ZG.ok(x:ZG e C dx h):iL P w H h e<|.ext<|ZG e C dx:=⟨x,let⟨_,o,q,_⟩:=x;⟨o,q⟩,λG h2 y k=>let⟨S,o,q,r⟩:=y;⟨S,o,k o q,r⟩⟩
def Inv.aiY{φ:eZ->Prop}(I:Inv X aB Z H s)(n:H e=none)(g:X.Hx.heap.objs.size<=e)(nL:e≠X.env.locals)(nc:∀x c,X.env.cells.lookup x=some c->c≠e)(np:∀p∈X.pn++aB,p.1≠e) (ok:∀U,iL X.prog X.w U s.heap e<|.ext φ):Inv X aB Z (upd H e<|.ext φ) s:=by
 have ke:∀b u,H b=some u->upd H e (.ext φ) b=some u:= λb u q=>by rw[aY<|bg q n];exact q
 refine⟨I.ok,I.os,I.bare,⟨I.base.keep,I.base.slot,λb o q n0 hx=>?_,I.base.there,λb xs q=>ke b _<|I.base.Em b xs q,λb o u q=>ke b _<|I.base.Ci b o u q,λb ps q=>?_⟩,I.loc,I.cell,?_,λx c q=>?_,λp hp=>?_,λb u q=>?_,I.len⟩
 .rw[aY<|cj<|bD (bA q) g];exact I.base.free b o q n0 hx
 .let⟨m,q2⟩:=I.base.Ek b ps q;exact⟨m,ke b _ q2⟩
 .rw[aY<|f6 nL];exact I.free
 .rw[aY<|nc x c q];exact I.o6 x c q
 .let⟨q1,q2,q3,q4,q5⟩:=I.pin p hp;exact⟨q1,by rw[aY<|np p hp];exact q2,q3,q4,q5⟩
 .by_cases z:b=e
  .subst z;rw[aq]at q;cases q;exact ok _
  .rw[aY z]at q;exact(I.fQ b u q).CK (λ_ _ _ r=>r) (λc r=>ke c _ r) λc xs r=>ke c _ r
abbrev Cx.To(X:Cx)(e:O):Cx:={X with A:=X.A.mark<|some<|.ref e,calm:=false,xe:= λ_ _=>False}
def Inv.To(I:Inv X aB Z H s)(e:O):Inv (X.To e) aB Z H s:=⟨⟨I.ok.mod,I.ok.kind,I.ok.glob,I.ok.blt,I.ok.above,I.ok.inj,I.ok.has,I.ok.cab,λz=>dU z,I.ok.frames,I.ok.stk,I.ok.exf,I.ok.bs,I.ok.WH,I.ok.R5,I.ok.Pp,I.ok.Cj,I.ok.ZZ⟩,I.os,I.bare,I.base,I.loc,I.cell,I.free,I.o6,I.pin,I.fQ,I.len⟩
def Inv.QE(ok:X.Ok)(I:Inv (X.To e) aB Z H s):Inv X aB Z H s:=⟨ok,I.os,I.bare,I.base,I.loc,I.cell,I.free,I.o6,I.pin,I.fQ,I.len⟩
noncomputable abbrev Cx.KZ(X:Cx)(pn:List<|O×Obj)(W:aC->aP->Prop):Cx:={X with pn:=pn,xe:=W}
def Inv.KZ(I:Inv X aB Z H s)(W:aC->aP->Prop):Inv (X.KZ (X.pn++aB) W) [] Z H s:=⟨⟨I.ok.mod,I.ok.kind,I.ok.glob,I.ok.blt,I.ok.above,I.ok.inj,I.ok.has,I.ok.cab,I.ok.hd,I.ok.frames,I.ok.stk,I.ok.exf,I.ok.bs,I.ok.WH,I.ok.R5,I.ok.Pp,I.ok.Cj,I.ok.ZZ⟩,I.os,I.bare,I.base,I.loc,I.cell,I.free,I.o6,λp hp=>I.pin p<|by rw[cV]at hp;exact hp,I.fQ,I.len⟩
def Inv.BY{pB:List (O×Obj)}{W:aC->aP->Prop}(ok:X.Ok)(I:Inv (X.KZ (X.pn++aB) W) pB Z H s):Inv X aB Z H s:=⟨ok,I.os,I.bare,I.base,I.loc,I.cell,I.free,I.o6,λp hp=>I.pin p<|AB _ hp,I.fQ,I.len⟩
def De(n:Nat)(D:Ends):Ends:={nx:= λ_ H=>D.nx (fC n none) H,rt:=D.rt,bk:= λ_ H=>D.bk (fC n none) H,ct:= λ_ H=>D.ct (fC n none) H}
def hEX(C:O)(n i:Nat)(th:TS)(D:Ends):XK:= λcv dxo H=>cv= .ref C/\∃dx c p,dxo=some dx/\H dx=some (.xd<|ff c p)/\∀e,H e=none->e≠dx->th (De n D) ((fC n none).set i (some<|.ref e)) (upd H e<|.ext<|ZG e C dx)
def Inv.chg{ch:List O}(I:Inv X aB Z H s)(x:XF.Ch (xS X.stack) ch s.heap h')(Pz:∀b∈ch,sP X aB H b):Inv X aB Z H {s with heap:=h'}:=by
 let⟨m,⟨o,es,ep,ho,r⟩,_⟩:=id I.loc;refine I.step (g':=s.gens) (d':=s.drawn) (t':=s.toks) (ch:=ch) (λb hb=>let⟨_,a,_,c,d,f⟩:=Pz b hb;⟨c,a,d,f⟩) (λb o hL hb hc q n=>x.keep b o q (λz=>(aX.mp<|I.FA b z).elim hL hb) hc) (λb o _ _ hc q n=>x.slot b o q hc)
  (λ_ _ _ _ n=>n) (λb o hc q=>let⟨sl,q2⟩:=x.slot b o q hc;⟨_,q2⟩) (λ_ _ q=>q) (λ_ _ _ q=>q) (λb ps q=>⟨#[],by rw[q];simp⟩) (λm' hm=>?_) (I.fQ.ch x I.As λb z=>(Pz b z).1) I.bare
 let⟨o',HW,ep',Tp,r'⟩:=hm;let⟨sl,q⟩:=x.slot _ o' Tp λz=>(Pz _ z).2.1 Y;exact⟨_,HW,ep',q,r'⟩
def Inv.names{m':Str->Option aC}{t':Nat}(I:Inv X aB Z H s)(hn:h'.Ns X.env.locals m')(sb:xH X.env.locals s.heap h'):Inv X aB (fC X.N.length none) H {s with heap:=h',toks:=t'}:=by
 have k:∀b o,b≠X.env.locals->s.heap.get? b=some o->h'.get? b=some o:= λb o nb q=>(sb.2 b nb).trans q;have nl:∀b o,X.Hx.heap.get? b=some o->b≠X.env.locals:= λb o q=>cj<|bD (bA q) I.ok.above;refine⟨I.ok,I.os,I.bare,⟨λb o q n hb hx=>k b o (nl b o q)<|I.base.keep b o q n hb hx,λb o q n hb hx=>?_,I.base.free,λb o q hx=>?_,I.base.Em,I.base.Ci,I.base.Ek⟩,⟨m',hn,λi y v _ z _=>?_⟩,λy c q=>?_,I.free,I.o6,λp hp=>?_,λb u q=>?_,pN⟩
 .let⟨sl,q1⟩:=I.base.slot b o q n hb hx;exact⟨sl,k b _ (nl b o q) q1⟩
 .let⟨o1,q1⟩:=I.base.there b o q hx;exact⟨o1,k b _ (nl b o q) q1⟩
 .rw[nR]at z;split at z<;>cases z
 .let⟨v,o,ho,hd⟩:=I.cell y c q;exact⟨v,o,k c o (I.cne y c q) ho,hd⟩
 .let⟨q1,q2,q3,q4,q5⟩:=I.pin p hp;exact⟨k _ _ q3 q1,q2,q3,q4,q5⟩
 .refine(I.fQ b u q).CK (λc v hc r=>k c v ?_ r) (λ_ r=>r) λ_ _ r=>r;intro z;rcases hc with rfl|hc
  .rw[z,I.free]at q;cases q
  .rw[z,I.free]at hc;cases hc
def amO(C:O)(n i:Nat)(tb:XK->TS)(th:TS):TS:= λD Z H=>tb (hEX C n i th D) D Z H
def aeq{fI:O}{x n:Str}{body:List b5}{b0:b5}{KJ:List b5}{np Vb:Pos}{tb:XK->TS}{th:TS}(F:Flt X.K C fI)(hr:X.A.handled=none)(uP:X.stack=X.env::X.outer/\X.env.frame=some X.env.locals)
  (hg:Gl X x)(hm:X.mg x=some (.ref C))(hN:X.N.Nodup)(hi:X.N[i]? =some n)(hnl:X.env.scope.names.lookup n=some .local)
  (hb:∀(pn:List<|O×Obj) (W:aC->aP->Prop) (EX:XK),Passes (pU X.prog X.w C) (X.KZ pn W) EX->OR (X.KZ pn W) body (tb EX))(hh:∀e,OR (X.To e) (b0::KJ) th)(ER:(x==("__debug__":Str))=false:=by decide):
  PS X (.Try body [.ExceptHandler (some<|.Name x np) (some n) (b0::KJ) Vb] [] [] pos) (amO C X.N.length i tb th):=by
 intro aB s Z H D I h;let⟨nm,q,N,bs,sn,sub,ab,col,dd,k0,k1,k2,k3,k5,mN,lk,ns,m1,m2,m3,m4,m5,m6⟩:=F.obj;calc afx ?_;generalize hW:(λ(e:aC) (s1:aP)=>wpAny (model X.prog X.w) X.A (noteFrame e X.env) (λ_ s2=>wpAny (model X.prog X.w) X.A (setFlight e none) (λ_ s3=>wpAny (model X.prog X.w) X.A (handleBy e X.env [.ExceptHandler (some<|.Name x np) (some n) (b0::KJ) Vb]) (SP X aB D) X.xe s3) X.xe s2) X.xe s1)=W;have pass:Passes (pU X.prog X.w C) (X.KZ (X.pn++aB) W)<|hEX C X.N.length i th D:=by
  intro pB σB HB sB ev s' IB y;let⟨e,dx,T,c,p,U,rfl,os,bare,un,fQ,g1,g2,n1,n2,tr,hd,_,Te,c',p',edx,WW,hT⟩:=y;cases edx;have IX:Inv X aB σB HB sB:=IB.BY I.ok;have I2:Inv X aB σB U s':=IX.Mg (ch:=[]) os un fQ bare (λb z=>absurd z 's');have fe:sP X aB U e:=IX.Cg g1 n1;have fT:sP X aB U T:=IX.Cg g2 n2;have ned:e≠dx:= λz=>by rw[z,hd]at n1;cases n1
  rw[←hW];have fr:X.A.frames=some (X.env::X.outer):=by rw[←uP.1];exact I.ok.frames
  have ff0:s'.heap.FunFrames X.base<|X.env::X.outer:=by rw[←uP.1];exact I2.stack
  have Pw:(X.env::X.outer).filterMap (·.frame)=xS X.stack:=by rw[uP.1];rfl
  calc XF.Dr (base:=X.base) fr ff0 uP.2 tr λG T' x1 le tr1=>?_;rw[Pw]at x1;have fT':sP X aB U T':=le.elim (λz=>by rw[z];exact fT) λz=>I2.Cg z<|fQ.fresh z;have I3:Inv X aB σB U {s' with heap:=G}:=I2.chg x1 λb z=>by
   simp at z;rcases z with rfl|rfl<;>assumption
  calc XF.Ah (fr:=xS X.stack) (s:={s' with heap:=G}) tr1 λh2 x2 _ Wi=>?_;have I4:Inv X aB σB U {s' with heap:=h2}:=I3.chg x2 λb z=>by rw[cA.mp z];exact fT'
  calc ZA (Wo ?_) (by intro z;cases z);calc pQ (X:=X.To e) (I4.To e) hg hm ?_ ER;let⟨S,oT,ts,⟨o,he,oc,od,oU⟩,v1,ne,Lu,dT,h3⟩:=id Wi;let⟨hh',gg,dr,tk,XM⟩:=s';calc Rm (I4.Ag _ _ lk) he oc 'd' ?_;calc codeAny_handlers_suite_as<|XF.Ah (fr:=xS X.stack) (s:=⟨h2,gg,dr,tk,XM⟩) Wi λh4 x4 _ tr4=>?_;have I5:Inv X aB σB U ⟨h4,gg,dr,tk,XM⟩:=I4.chg x4 λb z=>by rw[cA.mp z];exact fT'
  let⟨vs4,_,_,ob4,_⟩:=id tr4;have I6:Inv X aB (fC X.N.length none) (upd U e<|.ext<|ZG e C dx) ⟨h4,gg,dr,tk,XM⟩:=
   (I5.aiY n1 (bH IX.sz g1) fe.2.1 fe.2.2.2.2.1 fe.2.2.2.2.2 λ_=>ZG.ok ⟨vs4,ob4⟩).weak (by rw[pN];exact I5.len.symm) λj v z=>by rw[nR]at z;split at z<;>cases z
  have st:=Au (M:=model X.prog X.w) (A:=X.A.mark<|some<|.ref e) (E:= λ_ _=>False) (v:=V.ref e) (u:=bU e) (Q:= λ_ s9=>Inv X aB ((fC X.N.length none).set i (some<|V.ref e)) (upd U e<|.ext<|ZG e C dx) s9) I6 hN hi (.inl hnl) Y (λs9 I9 _=>I9)<|.inr hnl;calc fF st (λ_ s9 I9=>?_) λ_ _ z=>z.elim;calc fF (hh e aB s9 _ _ (De X.N.length D) (I9.To e)<|hT e n1 ned) (λf Wg z=>?_) λ_ _ z=>z.elim;have go:∀{σ':St} {H9:Hp},Inv (X.To e) aB σ' H9 Wg->(∀Q6,Inv X aB (fC X.N.length none) H9 Q6->SP X aB D f Q6)->
    wpAny (model X.prog X.w) X.A (do bindName X.env n .none;unbindBehindTheSuite X.env n Vb) (λ_ Q6=>SP X aB D f Q6) X.xe Wg:= λ{σ' H9} atD k=>by
   have J1:=atD.QE I.ok;let⟨m,hn,_⟩:=J1.loc;exact wpAny_nameGoes (show X.env.kindOf n=some .local from hnl) hn (by rw[I.ok.kind];rfl) λh' m' hn' sb=>k _ (J1.names hn' sb)
  cases f with
  |next=>
   obtain⟨σ',H9,atD,z⟩:=z;exact go atD λQ6 J2=>⟨_,H9,J2,z⟩
  |brk=>
   obtain⟨σ',H9,atD,z⟩:=z;exact go atD λQ6 J2=>⟨_,H9,J2,z⟩
  |cont=>
   obtain⟨σ',H9,atD,z⟩:=z;exact go atD λQ6 J2=>⟨_,H9,J2,z⟩
  |ret u=>
   obtain⟨v,σ',H9,atD,rv,z⟩:=z;exact go atD λQ6 J2=>⟨v,_,H9,J2,rv,z⟩
 have Dh:=hb _ W _ pass [] s Z H D (I.KZ W) h;calc fF Dh (λf s1 z=>?_) λe s1 z=>z;cases f with
 |next=>
  obtain⟨σ',H9,atD,z⟩:=z;exact oO ⟨σ',H9,atD.BY I.ok,z⟩
 |brk=>
  obtain⟨σ',H9,atD,z⟩:=z;exact⟨σ',H9,atD.BY I.ok,z⟩
 |cont=>
  obtain⟨σ',H9,atD,z⟩:=z;exact⟨σ',H9,atD.BY I.ok,z⟩
 |ret u=>
  obtain⟨v,σ',H9,atD,rv,z⟩:=z;exact⟨v,σ',H9,atD.BY I.ok,rv,z⟩
section
variable{fI:O} {e:Expr} {f:Str}
def tXF(C:O)(ta:TE)(f:Str):TE:= λZ H Q=>ta Z H λx L=>∃a dx fs v,x= .ref a/\L a=some (.ext<|ZG a C dx)/\L dx=some (.xd fs)/\fs.lookup f=some v/\Q v L
def T8(F:Flt X.K C fI)(hf:Iz f)(he:PE X e ta)(hb:attributeBase e f X.env (eval e X.env)=eval e X.env:=by rfl):PE X (.Attribute e f pos)<|tXF C ta f:=by
 intro aB s Z H Q I h;let⟨nm,q,N,bs,sn,sub,ab,col,dd,k0,k1,k2,k3,k5,mN,lk,ns,m1,m2,m3,m4,m5,m6⟩:=F.obj;calc S5 hb<|iz (he aB s Z H _ I h) ?_;rintro u s1 ⟨x,L,I1,rx,a,dx,fs,v,ex,ea,ed,l,q⟩;subst ex;obtain rfl:u=bU a:=rx;let⟨⟨S,o,ho,oc,od,oU⟩,_,_⟩:=I1.fQ a _ ea;let⟨mA,n1,sF⟩:=I1.fQ dx _ ed;let⟨u2,hu,ru⟩:=pW.some_of (v:=v) (o:=mA f) (by rw[←l];exact sF f);have mf:mN f=none:=by rcases hf with rfl|rfl<;>assumption
 have ne:dx≠a:=gz ed ea (by intro z;cases z);let⟨hh,g,d,tk,os⟩:=s1;have To:handedOut u2=pure u2:=PySem.W.handedOut_of<|Mp ru;exact XF.U6 (I1.Ag _ _ lk) (ns _ I1.Ag) m3 m4 mf hf.base ⟨o,ho,oc,λc z=>(by rw[oU]at z;cases z),.inr ⟨dx,od,ne,n1⟩⟩ hu To ⟨v,L,I1.tok _,ru,q⟩
end
inductive X2 {A B:Type} (p:A->B->Prop):Prop
 |mk (a b:_) (k0:p a b)
inductive X3 {A B C:Type} (p:A->B->C->Prop):Prop
 |mk (a b c:_) (k0:p a b c)
inductive X4 {A B C D:Type} (p:A->B->C->D->Prop):Prop
 |mk (a b c d:_) (k0:p a b c d)
inductive X5 {A B C D E:Type} (p:A->B->C->D->E->Prop):Prop
 |mk (a b c d e:_) (k0:p a b c d e)
inductive X7 {A B C D E F atG:Type} (p:A->B->C->D->E->F->atG->Prop):Prop
 |mk (a b c d e f g:_) (k0:p a b c d e f g)
inductive A3 (a b c:Prop):Prop
 |mk (k0:a) (k1:b) (k2:c)
inductive A4 (a b c d:Prop):Prop
 |mk (k0:a) (k1:b) (k2:c) (k3:d)
inductive A5 (a b c d e:Prop):Prop
 |mk (k0:a) (k1:b) (k2:c) (k3:d) (k4:e)
inductive A6 (a b c d e f:Prop):Prop
 |mk (k0:a) (k1:b) (k2:c) (k3:d) (k4:e) (k5:f)
inductive A7 (a b c d e f g:Prop):Prop
 |mk (k0:a) (k1:b) (k2:c) (k3:d) (k4:e) (k5:f) (k6:g)
inductive A8 (a b c d e f g h:Prop):Prop
 |mk (k0:a) (k1:b) (k2:c) (k3:d) (k4:e) (k5:f) (k6:g) (k7:h)
inductive A9 (a b c d e f g h i:Prop):Prop
 |mk (k0:a) (k1:b) (k2:c) (k3:d) (k4:e) (k5:f) (k6:g) (k7:h) (k8:i)
inductive A11 (a b c d e f g h i j k:Prop):Prop
 |mk (k0:a) (k1:b) (k2:c) (k3:d) (k4:e) (k5:f) (k6:g) (k7:h) (k8:i) (k9:j) (k10:k)
inductive A12 (a b c d e f g h i j k l:Prop):Prop
 |mk (k0:a) (k1:b) (k2:c) (k3:d) (k4:e) (k5:f) (k6:g) (k7:h) (k8:i) (k9:j) (k10:k) (k11:l)
def un{α:Type}:Nat->(List α->Prop)->Prop
 |0,p=>p []
 |n+1,p=>∀a,un n λt=>p (a::t)
@[elab_as_elim]theorem tV{α:Type}:∀{n:Nat} {us:List α} {p:List α->Prop},us.length=n->un n p->p us:=by
 intro n us;induction us generalizing n with
 |nil=>intro p e h;subst e;exact h
 |cons a t ih=>intro p e h;subst e;exact ih Y (h a)
@[simp]def aop:Qy te D Z H=te Z H D.rt:=rfl
@[simp]def amv:YH te D Z H=te Z H (λ_ L=>D.nx Z L):=rfl
@[simp]def amx:Qw D Z H=D.nx Z H:=rfl
@[simp]def aoq:Qz t u D Z H=t {D with nx:=u D} Z H:=rfl
@[simp]def aor:gF i Z H Q=∃v,Z[i]? =some (some v)/\Q v H:=propext ⟨λ⟨v,e,k⟩=>⟨v,e,k⟩,λ⟨v,e,k⟩=>⟨v,e,k⟩⟩
@[simp]def r_c:tC v Z H Q=Q v H:=rfl
@[simp]def arh:Ox r ta tb Z H Q=ta Z H λx L=>tb Z L λy H2=>r x y H2 Q:=rfl
@[simp]def arj{r:V->Hp->VK->Prop}:tUn r ta Z H Q=ta Z H λx L=>r x L Q:=rfl
@[simp]def r_i{C:Int->Int->Prop}{g:Int->Int->V}:rI C g x y H Q=∃i j,x= .int i/\y= .int j/\C i j/\Q (g i j) H:=propext ⟨λ⟨i,j,a,b,c,k⟩=>⟨i,j,a,b,c,k⟩,λ⟨i,j,a,b,c,k⟩=>⟨i,j,a,b,c,k⟩⟩
@[simp]def arc{g:Int->Int->V}:Uc g x y H Q=∃i j,x= .int i/\y= .int j/\Q (g i j) H:=propext ⟨λ⟨i,j,a,b,k⟩=>⟨i,j,a,b,k⟩,λ⟨i,j,a,b,k⟩=>⟨i,j,a,b,k⟩⟩
@[simp]def r_u{g:Int->V}:rU g x H Q=∃i,x= .int i/\Q (g i) H:=propext ⟨λ⟨i,a,k⟩=>⟨i,a,k⟩,λ⟨i,a,k⟩=>⟨i,a,k⟩⟩
@[simp]def aok:Yd K xs H Q=∃p ys,xs=[.ref p]/\(cP K H p ys∨oS K H p ys)/\Q (.int ys.length) H:=propext ⟨λ⟨p,y,a,b,c⟩=>⟨p,y,a,b,c⟩,λ⟨p,y,a,b,c⟩=>⟨p,y,a,b,c⟩⟩
@[simp]def ajO{r':R2}:YG r r' ta tb tc Z H Q=ta Z H λx L=>tb Z L λy H2=>r x y H2 λz H3=>∃k,z= .bl k/\(if k=true then tc Z H3 λw' H4=>r' y w' H4 Q else Q (.bl false) H3):=rfl
@[simp]def ard:YI tt t u D Z H=tt Z H λb L=>if b=true then t D Z L else u D Z L:=rfl
@[simp]def aoi:tIf tt ta tb Z H Q=tt Z H λc L=>if c=true then ta Z L Q else tb Z L Q:=rfl
@[simp]def amy:KO te Z H R=te Z H λx U=>∃k,x= .bl k/\R k U:=congrArg (te Z H) (funext λ_=>funext λ_=>ais)
@[simp]def r_b:tB te Z H R=te Z H λx L=>∃c,x= .bl c/\R c L:=congrArg (te Z H) (funext λ_=>funext λ_=>ais)
@[simp]def aon:aiS tt Z H R=tt Z H λc L=>R (!c) L:=rfl
@[simp]def aof:aeZ tt tt' Z H R=tt Z H λc L=>if c=true then tt' Z L R else R false L:=rfl
@[simp]def ari:tOr tt tt' Z H R=tt Z H λc L=>if c=true then R true L else tt' Z L R:=rfl
@[simp]def ams:YF ta tb Z H Q=ta Z H λx L=>∃c,x= .bl c/\if c=true then tb Z L Q else Q (.bl false) L:=rfl
@[simp]def aoo:ae5 ta tb Z H Q=ta Z H λx L=>∃c,x= .bl c/\if c=true then Q (.bl true) L else tb Z L Q:=rfl
@[simp]def aom{R:List V->Hp->Prop}:m9 Z H R=R [] H:=rfl
@[simp]def amu{R:List V->Hp->Prop}:gf te tg Z H R=te Z H λx L=>tg Z L λxs H2=>R (x::xs) H2:=rfl
@[simp]def amt{sp:Sp}{Mi:List V}:vz sp Mi E tg Z H Q=tg Z H λS L=>sp (S++Mi) L Q E:=rfl
@[simp]def ara{r:List V->Hp->VK->Prop}:tCB r tg Z H Q=tg Z H λS L=>r S L Q:=rfl
@[simp]def aog:CL te g D Z H=te Z H λx L=>g x Z L D.nx:=rfl
@[simp]def amw{R:St->Hp->Prop}:ic i v Z H R=R (Z.set i<|some v) H:=rfl
@[simp]def arb:rEq x y H Q=(aaQ x y=true/\Q (.bl<|decide<|x=y) H):=rfl
@[simp]def arf:rNe x y H Q=(aaQ x y=true/\Q (.bl<|!decide (x=y)) H):=rfl
@[simp]def ajP:J8 C E tg D Z H=tg Z H λS L=>∃c p,S=[.int c,.int p]/\∀dx,L dx=none->E (.ref C) (some dx) (upd L dx<|.xd<|ff c p):=rfl
@[simp]def ajQ{S:List V}:L2.start N S=S.map some++fC (N.length-S.length) none:=rfl
@[simp]def aoh{ti:TIp}:aiM i te ti D Z H=∃x,Z[i]? =some (some x)/\te Z H λy L=>ti x y L λz H2=>D.nx (Z.set i<|some z) H2:=rfl
@[simp]def aoj{f:Int->Int->Int}:ipI f x y H Q=∃i j,x= .int i/\y= .int j/\Q (.int<|f i j) H:=rfl
@[simp]def apd{CX:Za}:(jF CX P w K mg base N qual scope f cd A outer s H E).K=K:=rfl
@[simp]def ajR:wipe Z []=Z:=rfl
@[simp]def ajS{v:Nat}{S:List Nat}:wipe Z (v::S)=(wipe Z S).set v none:=rfl
def qg{v:Option V}:wipe ((wipe Z [i]).set i v) [i]=wipe Z [i]:=by
 simp[wipe,acC]
def Sm(D:O)(H U:Hp):Prop:=∀b o,b≠D->H b=some o->U b=some o
def aN.sm{U:Hp}(h:aN H U)(D:O):Sm D H U:= λb o _ q=>h b o q
structure Ab (atG:O->Nat->V->Hp->Prop) (L:Hp) (D:O) (i:Nat) (H:Hp):Prop where
 same:aN L H
 lst:∃ys,H D=some (.lst ys)/\ys.length=i/\∀k y,ys[k]? =some y->atG D k y H
def lY{D:O}(n:L D=none):Ab atG L D 0<|upd L D<|.lst []:=⟨λb o q=>by rw[aY<|bg q n];exact q,[],aq,Y,λk y z=>by simp at z⟩
theorem uR{D:O}(n:L D=none)(Gs:∀D j y H U,atG D j y H->Sm D H U->atG D j y U)(p:Ab atG L D j H2)(s:aN H2 H3)(g:atG D j y H3)(hj:j<sizeLine):∃acc,H3 D=some (.lst acc)/\acc.length<sizeLine/\Ab atG L D (j+1) (upd H3 D<|.lst<|acc++[y]):=by
 let⟨same,ys,hD,len,all⟩:=p;have sm:Sm D H3<|upd H3 D<|.lst<|ys++[y]:= λb o nb q=>by rw[aY nb];exact q
 refine⟨ys,s _ _ hD,'l',λb o q=>?_,ys++[y],aq,by rw[ak,len];rfl,λk z hz=>?_⟩
 .rw[aY<|bg q n];exact s _ _ (same _ _ q)
 .by_cases hk:k<ys.length
  .rw[bX hk]at hz;exact Gs _ _ _ _ _ (all k z hz) λb o nb q=>sm b o nb (s b o q)
  .rw[dM 'l']at hz;have e0:k-ys.length=0:=by
    cases e:k-ys.length with
    |zero=>rfl
    |succ m=>rw[e]at hz;simp at hz
   rw[e0]at hz;have e1:y=z:= ~~~hz
   subst e1;have e2:k=j:='l'
   subst e2;exact Gs _ _ _ _ _ g sm
def Cp(hl:∀R:V->Hp->Prop,R (.ref a) L->tl Z H R)(hS:cP K L a xs)(hz:xs.length<=sizeLine)(Gs:∀D j y H U,atG D j y H->Sm D H U->atG D j y U) (he:∀D j x H2,L D=none->xs[j]? =some x->Ab atG L D j H2->∀R:VK,(∀y H3,aN H2 H3->atG D j y H3->R y H3)->te ((wipe Z [i]).set i (some x)) H2 R) (hq:∀D H2,L D=none->Ab atG L D xs.length H2->Q (.ref D) H2):KL (F4 K tl) (ic i) AM te [i] Z H Q:=by
 calc hl _ ⟨a,Y,⟨xs,hS⟩,λD n=>HY (Pv:=Ab atG L D) (xs:=xs) (lY n) (λj H2 _ p=>p.same.seq hS) (λj x H2 hx p=>?_) λH2 p=>hq D H2 n p⟩;calc⟨qg,?_⟩;exact he D j x H2 n hx p _ λy H3 s g=>uR n Gs p s g (bD (au.mp hx).1 hz)
theorem Vj{z:Str}(hl:∀R:V->Hp->Prop,R (.str z) L->tl Z H R)(hz:z.cps.size<=sizeLine)(Gs:∀D j y H U,atG D j y H->Sm D H U->atG D j y U) (he:∀D j c H2,L D=none->z.cps[j]? =some c->Ab atG L D j H2->∀R:VK,(∀y H3,aN H2 H3->atG D j y H3->R y H3)->te ((wipe Z [i]).set i (some<|.str ⟨#[c]⟩)) H2 R) (hq:∀D H2,L D=none->Ab atG L D z.cps.size H2->Q (.ref D) H2):KL (ahL tl) (ic i) AM te [i] Z H Q:=by
 calc hl _ ⟨z,Y,λD n=>?_⟩;calc⟨λj m H=>m=z.cps.size-j/\j<=z.cps.size/\Ab atG L D j H,⟨z.cps.size,Y,b7 _,lY n⟩,?_⟩;rintro j m H2 ⟨rfl,hj,p⟩;by_cases lt:j<z.cps.size
 .calc .inr ⟨lt,Ab atG L D<|j+1,λU p'=>⟨z.cps.size-(j+1),'l',Y,lt,p'⟩,λx U y=>?_⟩;let⟨e,c,hc,rfl⟩:=y;subst e;calc And.intro qg ?_;exact he D j c _ n hc p _ λy H3 s g=>uR n Gs p s g (bD lt hz)
 .have e:j=z.cps.size:=by lia
  subst e;exact .inl ⟨aT _,hq D H2 n p⟩
def PV(hl:∀R:It->Hp->Prop,R (UR lo n0) L->wi Z H R)(hz:n0<=sizeLine)(Gs:∀D j y H U,atG D j y H->Sm D H U->atG D j y U) (he:∀D (j:Nat) H2,L D=none->j<n0->Ab atG L D j H2->∀R:VK,(∀y H3,aN H2 H3->atG D j y H3->R y H3)->te ((wipe Z [i]).set i (some<|.int<|lo+j)) H2 R) (hq:∀D H2,L D=none->Ab atG L D n0 H2->Q (.ref D) H2):KL wi (ic i) AM te [i] Z H Q:=by
 calc hl _ λD n=>PX (Pv:=Ab atG L D) (lY n) (λj H2 hj p=>?_) λH2 p=>hq D H2 n p;calc⟨qg,?_⟩;exact he D j H2 n hj p _ λy H3 s g=>uR n Gs p s g (bD hj hz)
def Ab.vals{D:O}(p:Ab (λ_ j y _=>ys[j]? =some y) L D ys.length H2):H2 D=some (.lst ys):=by
 let⟨_,zs,hD,len,all⟩:=p;have e:zs=ys:=by
  apply lK;intro k;by_cases hk:k<zs.length
  .have:=all k zs[k]<|aK hk;rw[aK hk];exact this.symm
  .rw[gu 'o',gu 'o']
 rw[←e];exact hD
def YW(N:Nat)(Pv:Nat->St->Hp->Prop)(tb:TS)(D:Ends)(j:Nat)(Z:St)(b:Bool)(L:Hp):Prop:=if b=true then∃Nx:St->Hp->Prop,(∀σ' U,Nx σ' U->∃m',m'<N-j/\∃j',m'=N-j'/\j'<=N/\Pv j' σ' U)/\tb {D with nx:=Nx,ct:=Nx,bk:=D.nx} Z L else D.nx Z L
def oH{c:TT}{tb:TS}(N:Nat)(Pv:Nat->St->Hp->Prop)(j0:Nat)(hj:j0<=N)(h0:Pv j0 Z H)(hs:∀j Z H,j<=N->Pv j Z H->c Z H (YW N Pv tb D j Z)):SI c tb D Z H:=by
 calc⟨λm Z H=>∃j,m=N-j/\j<=N/\Pv j Z H,⟨_,j0,Y,hj,h0⟩,?_⟩;rintro m Z H ⟨j,rfl,hj,p⟩;exact hs j Z H hj p
def oG{N:Nat}{tb:TS}(hb:b=true)(hj:j<=N) (h:tb {D with nx:= λσ' U=>∃j',j<j'/\j'<=N/\Pv j' σ' U,ct:= λσ' U=>∃j',j<j'/\j'<=N/\Pv j' σ' U,bk:=D.nx} Z L):YW N Pv tb D j Z b L:=by
 subst hb;exact⟨_,by rintro σ' U ⟨j',l1,l2,p⟩;exact⟨N-j','o',j',Y,l2,p⟩,h⟩
def kK{N:Nat}{tb:TS}(hb:b=false)(h:D.nx Z L):YW N Pv tb D j Z b L:=by
 subst hb;exact h
def Sm.trans{D:O}(x:Sm D H L)(y:Sm D L H2):Sm D H H2:= λb o n q=>y b o n (x b o n q)
def Sm.refl(D:O)(H:Hp):Sm D H H:= λ_ _ _ q=>q
def Sm.upd{D:O}{u:HO}:Sm D H<|upd H D u:= λb o n q=>by rw[aY n];exact q
def Sm.same{D:O}(x:Sm D H L)(y:aN L H2):Sm D H H2:= λb o n q=>y b o (x b o n q)
def Sm.all{D:O}(x:Sm D H L)(n:H D=none):aN H L:= λb o q=>x b o (bg q n) q
def aN.new{D:O}{u:HO}(n:H D=none):aN H<|L2.upd H D u:= λb o q=>by rw[aY<|bg q n];exact q
def Rw:uK X (.type "dict") (λxs H Q=>∃a kvs,xs=[V.ref a]/\H a=some (.dK kvs)/\∀p,H p=none->Q (.ref p) (upd H p<|.dK kvs)):=by
 intro aB s Z H xs us Q I r h;let⟨a,kvs,rfl,ha,q⟩:=h;let⟨u,rfl,ru⟩:=vals1 r;cases ru;exact WO I (.inl ha) λp s' n I'=>⟨.ref p,_,I',Y,q p n⟩
inductive aio (x:V) (xs:List V) (H:Hp) (Q:VK):Prop
 |mk (d kvs k v:_) (k0:x= .ref d) (k1:xs=[kV k,v]) (k2:H d=some (.dK kvs)) (k3:kvs.length<sizeLine) (k4:(match mS kvs k with
 |some y=>Q y H
 |none=>Q v<|upd H d<|.dK<|putK kvs k v))
theorem Lz:ZH X "dict.setdefault" aio:=by
 intro aB s Z H x xs v us Q I rx rs h;let⟨d,kvs,k,y,rfl,rfl,hd,hz,q⟩:=h;cases rx;cases rs with
 |cons r1 rs=>
  cases rs with
  |cons r2 rs=>
   cases rs;let⟨z,hs,S,sF,dd⟩:=Pg I.fQ hd;refine call_meetsIn FH dd.typeIs PySem.F.entry_dict_setdefault (PySem.F.args_dict_setdefault_3 _ _ _) (kt_meets_setdefault (iE X.prog X.w) d (F5 r1) hs _) ⟨S,dd,by rw[←sF.length];exact z,λw' hw=>?_,λhw h' V8 hsb=>?_⟩
   .cases e:mS kvs k with
    |none=>
     have:=pW.none_of (by rw[←e];exact sF.val k);rw[hw]at this;cases this
    |some y'=>
     rw[e]at q;let⟨w2,e2,ry⟩:=pW.some_of (v:=y') (by rw[←e];exact sF.val k);rw[hw]at e2;cases e2;exact⟨y',H,I.tok _,ry,q⟩
   .have e:mS kvs k=none:=by
     cases e:mS kvs k with
     |none=>rfl
     |some y=>
      let⟨w2,e2,_⟩:=pW.some_of (v:=y) (by rw[←e];exact sF.val k);rw[hw]at e2;cases e2
    rw[e]at q;have he:∃q,h'.get? d=some q:=let⟨q,_,_,hq,_⟩:=V8;⟨q,hq⟩;have hl:(putK kvs k y).length<=sizeLine:=by have:=pZ kvs k y;lia
    exact⟨y,_,HV I (by rw[hd];exact lW) hsb he<|Nt hl hs (sF.put k r2) V8,r2,q⟩
def En:∀{xs:List V} {us:List aC},xs.length=us.length->(∀(j:Nat) (x:V) (u:aC),xs[j]? =some x->us[j]? =some u->RelV x u)->Vals xs us
 |[],[],_,_=> .nil
 |x::xs,u::us,hl,h=> .cons (h 0 x u Y Y) (En (~~~hl) λj y w e1 e2=>h (j+1) y w (~~~e1)<|~~~e2)
 |[],_::_,hl,_=>by simp at hl
 |_::_,[],hl,_=>by simp at hl
def ab5{κ:Type}:∀{kvs:List (κ×V)} {S:List (κ×aC)},KV kvs S->∀{j:Nat} {p:κ×V} {q:κ×aC},kvs[j]? =some p->S[j]? =some q->p.1=q.1/\RelV p.2 q.2:=by
 intro kvs S h;induction h with
 |nil=>intro j p q e;simp at e
 |cons h t ih=>
  intro j p q e1 e2;cases j with
  |zero=>
   obtain rfl:=aL e1;obtain rfl:=aL e2;exact h
  |succ j=>exact ih (~~~e1) (~~~e2)
def IF(hc:X.calm=true):uK X (.type "list") (λxs H Q=>∃d kvs,xs=[V.ref d]/\H d=some (.dK kvs)/\∀l,H l=none->Q (.ref l) (upd H l<|.lst<|kvs.map λkv=>kV kv.1)):=by
 intro aB s Z H xs us Q I r h;let⟨d,kvs,rfl,hd,q⟩:=h;let⟨u,rfl,ru⟩:=vals1 r;cases ru;let⟨z,hs,S,sF,dd⟩:=Pg I.fQ hd;let⟨ep,Mr⟩:=dd.dictAt;have hl:kvs.length=S.length:=tY sF;calc SY (PySem.W.kdl_dict (knd:=iE X.prog X.w) (kvs:=S) (ep:=ep) hs) (I.ok.hd hc) Mr 'o' λh' tk acc c hk hD Dg=>?_;have hv:Vals (kvs.map λkv=>kV kv.1) acc.toList:=En (by rw[ai,hl,←Dg.1];exact jK.symm) λj x u e1 e2=>by
  let⟨k,y,e3,hk⟩:=Dg.2 j u (by rw[←lu];exact e2);rw[aH]at e1;cases e4:kvs[j]?with
  |none=>rw[e4]at e1;cases e1
  |some kv=>
   rw[e4]at e1;obtain rfl:=aL e1;let⟨e5,_⟩:=ab5 sF e4 e3;show RelV (kV kv.1) u;rw[e5];exact Yj (show F6 k u=true from hk)
 exact⟨.ref s.heap.objs.size,_,I.laid (t':=tk) hk (aT _)<|show iL X.prog X.w _ h' _ (.lst<|kvs.map λkv=>kV kv.1)from⟨by rw[ai];exact z,acc.toList,c,hv,~~~hD⟩,Y,q _<|I.fQ.fresh<|aT _⟩
def ae2(td:TE):TE:= λZ H Q=>td Z H λx L=>∃d kvs,x= .ref d/\L d=some (.dK kvs)/\∀l,L l=none->Q (.ref l) (upd L l (.lst (kvs.map (·.2))))
def Qj{e:Expr}{td:TE}{p kh nZ:Pos}(hc:X.calm=true)(hg:Gl X "list")(hm:X.mg "list"=none)(he:PE X e td)(rK:attributeBase e "values" X.env (eval e X.env)=eval e X.env:=by rfl)(rL:(kh.endLine==nZ.line)=true:=by rfl) (hs:starEach [.Call (.Attribute e "values" kh) [] [] nZ] X.env=[(false,eval (.Call (.Attribute e "values" kh) [] [] nZ) X.env)]:=by rfl):PE X (.Call (.Name "list" p) [.Call (.Attribute e "values" kh) [] [] nZ] [] pos)<|ae2 td:=by
 intro aB s Z H Q I h;calc eV (yC I hg hm (show ny "list"=some (.type "list")by decide) ?_ 'd' 'd');calc fq ?_ hs Y;rw[hs];show wpAny _ _ (spliced<|(false,eval (.Call (.Attribute e "values" kh) [] [] nZ) X.env)::backTo pos []) _ _ s;calc nu<|wpAny_Call_method (T:="dict") (id:="dict.values") rK Y rL Rj Y5 F.type_dict_values<|iz (he aB s Z H _ I h) ?_;rintro u s1 ⟨x,L,I1,rx,d,kvs,ex,hd,q⟩;subst ex;obtain rfl:u=bU d:=rx;let⟨z,hsm,S,sF,dd⟩:=Pg I1.fQ hd;let⟨ep,Mr⟩:=dd.dictAt;have hl:kvs.length=S.length:=tY sF;calc⟨dd.typeIs,dd.mapOf.noDict,?_⟩;have I2:Inv X aB Z L {s1 with heap:=s1.heap.push {cls:= .type "dict_values",data:= .fields #[.ref d]} }:=I1.kept (t':=s1.toks) λb ob q=>aS _ q;have fin:wpAny (model X.prog X.w) X.A (call (.type "list") [.ref s1.heap.objs.size]) (EP X aB Z Q) X.xe {s1 with heap:=s1.heap.push {cls:= .type "dict_values",data:= .fields #[.ref d]} }:=by
  calc SY (PySem.W.kdl_values (knd:=iE X.prog X.w) (kvs:=S) (ep:=ep) (r:=s1.heap.objs.size) (d:=d)) (I.ok.hd hc) ⟨⟨_,bZ _ Y,Y,Y⟩,Mr.at' λo e=>aS _ e⟩ 'o' λh' tk acc c hk hD Dg=>?_;have hv:Vals (kvs.map (·.2)) acc.toList:=En (by rw[ai,hl,←Dg.1];exact jK.symm) λj x u e1 e2=>by
   let⟨k,e3⟩:=Dg.2 j u (by rw[←lu];exact e2);rw[aH]at e1;cases e4:kvs[j]?with
   |none=>rw[e4]at e1;cases e1
   |some kv=>
    rw[e4]at e1;obtain rfl:=aL e1;exact(ab5 sF e4 e3).2
  exact⟨.ref _,_,I2.laid (t':=tk) hk (aT _) (show iL X.prog X.w _ h' _ (.lst (kvs.map (·.2)))from⟨by rw[ai];exact z,acc.toList,c,hv,~~~hD⟩),Y,q _<|I2.fQ.fresh<|aT _⟩
 show wpAny _ _ (callWith nZ (.builtin "dict.values") [.ref d] [] []) _ X.xe s1;exact method_meetsIn Y5 F.entry_dict_values Y (AR ⟨Y,dd.typeIs,F.args_dict_values_1 _,_,meets_dict_values (iE X.prog X.w) d hsm,⟨S,dd⟩,oK fin⟩)
def Dc{tb:TS}(Pv:Nat->St->Hp->Prop)(h0:Pv 0 Z H)(hl:∀i Z H,i<=xs.length->Pv i Z H->cP K H a xs) (hs:∀i x Z H T,xs[i]? =some x->Pv i Z H->H T=none->g (.ref T) Z (upd H T<|.tup [.int (i:Nat),x]) λσ2 H2=>tb {D with nx:=Pv<|i+1,ct:=Pv<|i+1,bk:=D.nx} σ2 H2)(hd:∀Z H,Pv xs.length Z H->D.nx Z H):∃W:Nat->Nat->St->Hp->Prop,(∃m,W 0 m Z H)/\∀i m Z H,W i m Z H->((Ite K a).stop i H/\D.nx Z H)∨((Ite K a).go i H/\∃N:St->Hp->Prop,(∀σ' U,N σ' U->∃m',m'<m/\W (i+1) m' σ' U)/\∀x U,(Ite K a).Zr i H x U->g x Z U λσ2 H2=>tb {D with nx:=N,ct:=N,bk:=D.nx} σ2 H2):=by
 calc⟨λi m Z H=>m=xs.length-i/\i<=xs.length/\Pv i Z H,⟨xs.length,'s',b7 _,h0⟩,?_⟩;rintro i m Z H ⟨rfl,hi,p⟩;have q:=hl i Z H hi p;by_cases xU:i<xs.length
 .calc .inr ⟨⟨xs,xs[i],q,by simp[xU]⟩,Pv<|i+1,λσ' U p'=>⟨xs.length-(i+1),'o',Y,xU,p'⟩,λx U y=>?_⟩;let⟨T,z,rfl,nT,rfl,hz⟩:=y;exact hs i z Z H T (hz xs q) p nT
 .have e:i=xs.length:=by omega
  subst e;exact .inl ⟨⟨xs,q,aT _⟩,hd Z H p⟩
theorem EZ{D:O}(n:L D=none)(Gs:∀D j y H U ys,H D=some (.lst ys)->atG D j y H->Sm D H U->atG D j y U)(p:Ab atG L D j H2)(s:aN H2 H3)(g:atG D j y H3)(hj:j<sizeLine):∃acc,H3 D=some (.lst acc)/\acc.length<sizeLine/\Ab atG L D (j+1) (upd H3 D<|.lst<|acc++[y]):=by
 let⟨same,ys,hD,len,all⟩:=p;have Df:=s _ _ hD;have sm:Sm D H3<|upd H3 D<|.lst<|ys++[y]:= λb o nb q=>by rw[aY nb];exact q
 refine⟨ys,Df,'l',λb o q=>?_,ys++[y],aq,by rw[ak,len];rfl,λk z hz=>?_⟩
 .rw[aY<|bg q n];exact s _ _ (same _ _ q)
 .by_cases hk:k<ys.length
  .rw[bX hk]at hz;exact Gs _ _ _ _ _ _ hD (all k z hz) λb o nb q=>sm b o nb (s b o q)
  .rw[dM 'l']at hz;have e0:k-ys.length=0:=by
    cases e:k-ys.length with
    |zero=>rfl
    |succ m=>rw[e]at hz;simp at hz
   rw[e0]at hz;have e1:y=z:= ~~~hz
   subst e1;have e2:k=j:='l'
   subst e2;exact Gs _ _ _ _ _ _ Df g sm
def VY{v u:Option V}(h:i≠j):wipe (((wipe Z [i,j]).set i v).set j u) [i,j]=wipe Z [i,j]:=by
 simp only[wipe,acC];apply lK;intro k;simp only[List.getElem?_set,YZ];by_cases G:i=k
 .subst G;by_cases h2:j=i
  .exact absurd h2.symm h
  .simp[h2]
 .by_cases h2:j=k
  .subst h2;simp[G]
  .simp[G,h2]
section
variable{i2:Nat}
def Dk(hl:∀R:V->Hp->Prop,R (.ref a) L->tl Z H R)(hS:cP K L a xs)(hz:xs.length<=sizeLine)(Gs:∀D j y H U ys,H D=some (.lst ys)->atG D j y H->Sm D H U->atG D j y U) (he:∀D j x H2,L D=none->xs[j]? =some x->Ab atG L D j H2->∀R:VK,(∀y H3,aN H2 H3->atG D j y H3->R y H3)->te ((wipe Z [i]).set i (some x)) H2 R) (hq:∀D H2,L D=none->Ab atG L D xs.length H2->Q (.ref D) H2):KL (F4 K tl) (ic i) AM te [i] Z H Q:=by
 calc hl _ ⟨a,Y,⟨xs,hS⟩,λD n=>HY (Pv:=Ab atG L D) (xs:=xs) (lY n) (λj H2 _ p=>p.same.seq hS) (λj x H2 hx p=>?_) λH2 p=>hq D H2 n p⟩;calc⟨qg,?_⟩;exact he D j x H2 n hx p _ λy H3 s g=>EZ n Gs p s g (bD (au.mp hx).1 hz)
def Vi(hl:∀R:It->Hp->Prop,R (UR lo n0) L->wi Z H R)(hz:n0<=sizeLine)(Gs:∀D j y H U ys,H D=some (.lst ys)->atG D j y H->Sm D H U->atG D j y U) (he:∀D (j:Nat) H2,L D=none->j<n0->Ab atG L D j H2->∀R:VK,(∀y H3,aN H2 H3->atG D j y H3->R y H3)->te ((wipe Z [i]).set i (some<|.int<|lo+j)) H2 R) (hq:∀D H2,L D=none->Ab atG L D n0 H2->Q (.ref D) H2):KL wi (ic i) AM te [i] Z H Q:=by
 calc hl _ λD n=>PX (Pv:=Ab atG L D) (lY n) (λj H2 hj p=>?_) λH2 p=>hq D H2 n p;calc⟨qg,?_⟩;exact he D j H2 n hj p _ λy H3 s g=>EZ n Gs p s g (bD hj hz)
def Xc{ta:TA}(Lw:i≠i2)(hl:∀R:List V->Hp->Prop,R [.ref a] L->ta Z H R)(hS:cP K L a xs)(hz:xs.length<=sizeLine)(Gs:∀D j y H U ys,H D=some (.lst ys)->atG D j y H->Sm D H U->atG D j y U) (he:∀D j x H2,L D=none->xs[j]? =some x->Ab atG L D j H2->∀R:VK,(∀y H3,aN H2 H3->atG D j y H3->R y H3)->∀T,H2 T=none->te (((wipe Z [i,i2]).set i (some<|.int (j:Nat))).set i2 (some x)) (upd H2 T<|.tup [.int (j:Nat),x]) R) (hq:∀D H2,L D=none->Ab atG L D xs.length H2->Q (.ref D) H2):KL (W0 K ta) (Z3 K 2<|IT (ic i)<|IT (ic i2) Z2) AM te [i,i2] Z H Q:=by
 calc hl _ ⟨a,xs,Y,hS,λD n=>?_⟩;calc⟨λj m H=>m=xs.length-j/\j<=xs.length/\Ab atG L D j H,⟨xs.length,Y,b7 _,lY n⟩,?_⟩;rintro j m H2 ⟨rfl,hj,p⟩;have q:=p.same.seq hS;by_cases lt:j<xs.length
 .calc .inr ⟨⟨xs,xs[j],q,by simp[lt]⟩,Ab atG L D<|j+1,λU p'=>⟨xs.length-(j+1),'o',Y,lt,p'⟩,λx U y=>?_⟩;let⟨T,z,rfl,nT,rfl,hz'⟩:=y;have hx:=hz' xs q;calc⟨T,_,Y,oS.of aq,Y,_,_,Y,_,_,Y,Y,VY Lw,?_⟩;have s0:aN H2<|upd H2 T<|.tup [.int (j:Nat),z]:= λb o q=>by rw[aY<|bg q nT];exact q
  exact he D j z H2 n hx p _ (λy H3 s g=>EZ n Gs p s g<|bD lt hz) T nT
 .have e:j=xs.length:=by omega
  subst e;exact .inl ⟨⟨xs,q,aT _⟩,hq D H2 n p⟩
def pY(hl:∀R:V->Hp->Prop,(∀a L,aN H L->L a=some (.lst xs)->R (.ref a) L)->tl Z H R)(len:ys.length=xs.length)(hz:xs.length<=sizeLine) (he:∀(j:Nat) x H2,xs[j]? =some x->aN H H2->∀R:VK,(∀y H3,aN H2 H3->ys[j]? =some y->R y H3)->te ((wipe Z [i]).set i (some x)) H2 R) (hq:∀D H2,H D=none->aN H H2->H2 D=some (.lst ys)->Q (.ref D) H2):KL (F4 K tl) (ic i) AM te [i] Z H Q:=by
 refine hl _ λa L s1 G=>⟨a,Y,⟨xs,cP.of G⟩,λD n=>HY (Pv:=Ab (λ_ j y _=>ys[j]? =some y) L D) (xs:=xs) (lY n) (λj H2 _ p=>cP.of<|p.same _ _ G) (λj x H2 hx p=>?_) λH2 p=>?_⟩
 .calc⟨qg,?_⟩;exact he j x H2 hx (s1.trans p.same) _ λy H3 s g=>uR n (λ_ _ _ _ _ h _=>h) p s g (bD (au.mp hx).1 hz)
 .rw[←len]at p;exact hq D H2 (s1.free n) (s1.trans p.same) p.vals
def aak(hl:∀R:V->Hp->Prop,(∀a L,aN H L->L a=some (.tup xs)->R (.ref a) L)->tl Z H R)(len:ys.length=xs.length)(hz:xs.length<=sizeLine) (he:∀(j:Nat) x H2,xs[j]? =some x->aN H H2->∀R:VK,(∀y H3,aN H2 H3->ys[j]? =some y->R y H3)->te ((wipe Z [i]).set i (some x)) H2 R) (hq:∀D H2,H D=none->aN H H2->H2 D=some (.lst ys)->Q (.ref D) H2):KL (adK K tl) (ic i) AM te [i] Z H Q:=by
 refine hl _ λa L s1 G=>⟨a,Y,⟨xs,oS.of G⟩,λD n=>adZ (Pv:=Ab (λ_ j y _=>ys[j]? =some y) L D) (xs:=xs) (lY n) (λj H2 _ p=>oS.of<|p.same _ _ G) (λj x H2 hx p=>?_) λH2 p=>?_⟩
 .calc⟨qg,?_⟩;exact he j x H2 hx (s1.trans p.same) _ λy H3 s g=>uR n (λ_ _ _ _ _ h _=>h) p s g (bD (au.mp hx).1 hz)
 .rw[←len]at p;exact hq D H2 (s1.free n) (s1.trans p.same) p.vals
def Vk(hl:∀R:It->Hp->Prop,R (UR lo n0) L->wi Z H R)(len:ys.length=n0)(hz:n0<=sizeLine) (he:∀(j:Nat) H2,j<n0->aN L H2->∀R:VK,(∀y H3,aN H2 H3->ys[j]? =some y->R y H3)->te ((wipe Z [i]).set i (some<|.int<|lo+j)) H2 R) (hq:∀D H2,L D=none->aN L H2->H2 D=some (.lst ys)->Q (.ref D) H2):KL wi (ic i) AM te [i] Z H Q:=by
 calc PV (atG:= λ_ j y _=>ys[j]? =some y) (L:=L) hl hz (λ_ _ _ _ _ h _=>h) (λD j H2 n hj p R r=>he j H2 hj p.same R r) λD H2 n p=>?_;rw[←len]at p;exact hq D H2 n p.same p.vals
end
end L2
namespace L2
open PySem PySem.Spec PyProof.Rows PySem.Calls
def aao:lN (.type "list_reverseiterator") "__len__"=pure none:=by rw[B4,qM];kernel_rfl
def Xo:lN (.type "list_reverseiterator") "__length_hint__"=pure (some<|.builtin "list_reverseiterator.__length_hint__"):=by rw[B4,qM];kernel_rfl
section
variable{prog:eL} {w:gH} {A:gZ} {E:aC->aP->Prop} {s:aP} {r l:O}
def WY{Q:Bool->aP->Prop}(hT:s.TypeIs (.ref r) "list_reverseiterator")(h:Q false s):wpAny (model prog w) A (CP<|.ref r) Q E s:=by
 unfold CP;refine aQ (ON hT aao ?_)
 wp_delta
 calc jL (λRI=>absurd RI 'd') λ_=>?_;calc jL (λRI=>absurd RI 'd') λ_=>?_;calc aQ<|ON hT Xo ?_;generalize hid:("list_reverseiterator.__length_hint__":String)=id0
 wp_delta
 rw[show splitId id0=some ("list_reverseiterator","__length_hint__")from by subst hid;decide];subst hid;calc aQ (wpAny_isInstance (T:="list_reverseiterator") (b:=true) hT (by rw[isSubtype_type];kernel_rfl) ?_);calc jL (λRI=>absurd RI 'd') λ_=>?_;calc jL (λ_=>?_) (λRI=>absurd 'd' RI);calc jL (λRI=>absurd RI 'd') λ_=>?_;exact bS h
end
variable{items:Array aC} {R:abA->aP->Prop}
section
variable{prog:eL} {w:gH} {A:gZ} {E:aC->aP->Prop} {s:aP} {r l:O}
theorem RE(hh:A.handled=none)(Lw:l≠r)(Lm:s.heap.IsRevIter r l<|(items.size:Int)-1)(hl:s.heap.IsList l items)(atE:O)(hSr:atE≠r)(hSl:atE≠l)(res:aC)(c₀:Nat)(hS:s.heap.get? atE=some {cls:= .type "list",data:= .seq #[] c₀}) (hR:∀h' tk C4 c',(∀b o,b≠atE->b≠r->s.heap.get? b=some o->h'.get? b=some o)->h'.get? atE=some {cls:= .type "list",dict:=none,data:= .seq C4 c',slots:= #[]}->ItemsOf (λi v=>items[items.size-1-i]? =some v) C4 items.size->R (.ok<|.ret res) {s with heap:=h',toks:=tk})(hn:items.size<=sizeLine):wpAny (model prog w) A.in1 (gw (.ref atE) (.ref r) res) (λfin s'=>match fin with| .done f=>R (.ok f) s'| .again c'=>c'.quiet=true/\codeAny (model prog w) A c' R s') (λe s'=>R (.error e) s') s:=by
 have W:=Walks.listRev (prog:=prog) (w:=w) (A:=A.in1) hh r l Lw items;have hSf:atE∉[r,l]:=by simp only[aX,iB,B7,not_or];exact⟨hSr,hSl⟩
 have key:codeAny (model prog w) A (.builtin "list.extend.loop" ⟨[.ref atE,.ref r,res],[]⟩) R s:=by
  have e0:(items.size:Int)-1-((0:Nat):Int)=(items.size:Int)-1:='l'
  calc codeAny_extend_loopS W.toS hn atE hSf res items.size 0 s #[] c₀ Y (b7 _) ⟨b7 _,by rw[e0];exact Lm,hl⟩ hS (ItemsOf.nil _) λs' C4 c' hm WU Dg=>?_;rw[Moved.eq_with hm];calc hR s'.heap s'.toks C4 c' (λb o hb hr e=>hm.heap b o (λRJ=>?_) e) WU Dg;rcases aX.mp RJ with e'|RJ
  .exact hb e'
  .exact hr (cA.mp RJ)
 unfold gw;calc aQ<|K7 (T:="list_reverseiterator") Lm.typeIs ?_;have G:ED (.ref atE) (.ref r)=false:=by simp[ED,hSr]
 have h2:(ku "list_reverseiterator"==ku "list")=false:='d'
 have h3:(ku "list_reverseiterator"==ku "tuple")=false:='d'
 simp only[G,h2,h3,mW,CZ,UP];calc aQ<|wpAny_pyIter_revIter Lm ?_;calc aQ<|S2<|WY Lm.typeIs ?_;calc jL (λRI=>absurd RI bJ) (λ_=>bS ⟨plainId_quiet PySem.F.plain_extend_loop _,key⟩)
def W3(hh:A.handled=none)(Lw:l≠r)(Lm:s.heap.IsRevIter r l<|(items.size:Int)-1)(hl:s.heap.IsList l items)(atE:O)(hSr:atE≠r)(hSl:atE≠l)(hS:s.heap.get? atE=some {cls:= .type "list",data:= .seq #[]})
  (hR:∀h' tk C4 c',(∀b o,b≠atE->b≠r->s.heap.get? b=some o->h'.get? b=some o)->h'.get? atE=some {cls:= .type "list",dict:=none,data:= .seq C4 c',slots:= #[]}->ItemsOf (λi v=>items[items.size-1-i]? =some v) C4 items.size->R (.ok<|.ret .none) {s with heap:=h',toks:=tk})(hn:items.size<=sizeLine):
  wpAny (model prog w) A.in1 (Builtin.«list.__init__» ⟨[.ref atE,.ref r],[]⟩)
   (λfin s'=>match fin with| .done f=>R (.ok f) s'| .again c'=>c'.quiet=true/\codeAny (model prog w) A c' R s') (λe s'=>R (.error e) s') s:=by
 show wpAny _ _ (do let old←sM (.ref atE);af9 (.ref atE) (λ_=> #[]);letGo old.toList.reverse;gw (.ref atE) (.ref r) .none) _ _ s;calc aQ ?_;unfold sM;calc aQ (QU hS rfl (bS ?_));show wpAny _ _ (updateSeq atE (λ_=> #[])>>= λ_=>letGo (#[]:Array aC).toList.reverse>>= λ_=>gw (.ref atE) (.ref r) .none) _ _ s;calc aQ (ago hS rfl ?_);have ahc:=lD (Ep λ_=>(#[]:Array aC)) hS Y;have JS:∀b o,b≠atE->s.heap.get? b=some o->(s.heap.update atE<|Ep λ_=>(#[]:Array aC)).get? b=some o:=
  λb o hb e=>(fj _ _<|f6 hb).trans e
 calc aQ<|wpAny_letGo ?_;calc RE hh Lw (Lm.at λo e=>JS r o hSr.symm e) (hl.at λo e=>JS l o hSl.symm e) atE hSr hSl .none _ ahc (λh' tk C4 c' hk WU Dg=>?_) hn;exact hR h' tk C4 c' (λb o hb hr e=>hk b o hb hr<|JS b o hb e) WU Dg
def Xj{Q:aC->aP->Prop}(hh:A.handled=none)(Lw:l≠r)(Lm:s.heap.IsRevIter r l<|(items.size:Int)-1)(hl:s.heap.IsList l items)(hn:items.size<=sizeLine) (hQ:∀h' tk C4 c',(∀b o,b≠r->s.heap.get? b=some o->h'.get? b=some o)->h'.get? s.heap.objs.size=some {cls:= .type "list",dict:=none,data:= .seq C4 c',slots:= #[]}->ItemsOf (λi v=>items[items.size-1-i]? =some v) C4 items.size->Q (.ref s.heap.objs.size) {s with heap:=h',toks:=tk}):wpAny (model prog w) A (call (.type "list") [.ref r]) Q E s:=by
 calc callType_codes (Q₁:= λobj s₁=>obj= .ref s.heap.objs.size/\s₁={s with heap:=s.heap.push {cls:= .type "list",data:= .seq #[]} }) PySem.F.called_list (PySem.F.typeCall_list_1 _) PySem.F.entry_list_init (code_list_new _ ⟨Y,Y⟩) λobj s₁ h₁=>?_;let⟨rfl,rfl⟩:=h₁;have hS:(s.heap.push {cls:= .type "list",data:= .seq #[]}).get? s.heap.objs.size=some {cls:= .type "list",data:= .seq #[]}:=bZ _ Y;have hr:r<s.heap.objs.size:=let⟨_,ho,_⟩:=Lm;bA ho;have hl':l<s.heap.objs.size:=let⟨_,ho,_⟩:=hl;bA ho;calc⟨⟨_,hS,Y⟩,PySem.F.args_list_init_2 _ _,W3 (A:=A.in1) hh Lw (Lm.at λo e=>aS _ e) (hl.at λo e=>aS _ e) _ (mE hr) (mE hl') hS (λh' tk C4 c' hk WU Dg=>?_) hn⟩;exact⟨Y,hQ h' tk C4 c' (λb o hb e=>hk b o (cj<|bA e) hb<|aS _ e) WU Dg⟩
end
section
variable{X:Cx}
def aiQ(te:TE):TE:= λZ H Q=>te Z H λx L=>∃a xs,x= .ref a/\L a=some (.lst xs)/\∀l,L l=none->Q (.ref l) (upd L l<|.lst xs.reverse)
theorem Sg{e:Expr}{te:TE}{p p2 pos nZ:Pos}(hc:X.calm=true)(hg:Gl X "list")(hm:X.mg "list"=none)(hg2:Gl X "reversed")(hm2:X.mg "reversed"=none)(he:PE X e te) (hs:starEach [.Call (.Name "reversed" p2) [e] [] nZ] X.env=[(false,eval (.Call (.Name "reversed" p2) [e] [] nZ) X.env)]:=by rfl)(hs2:starEach [e] X.env=[(false,eval e X.env)]:=by rfl):PE X (.Call (.Name "list" p) [.Call (.Name "reversed" p2) [e] [] nZ] [] pos)<|aiQ te:=by
 intro aB s Z H Q I h;calc eV (yC I hg hm (show ny "list"=some (.type "list")by decide) ?_ 'd' 'd');calc fq ?_ hs Y;rw[hs];show wpAny _ _ (spliced<|(false,eval (.Call (.Name "reversed" p2) [e] [] nZ) X.env)::backTo pos []) _ _ s;calc nu ?_;calc eV (yC I hg2 hm2 (show ny "reversed"=some (.type "reversed")by decide) ?_ 'd' 'd');calc fq ?_ hs2 Y;rw[hs2];show wpAny _ _ (spliced<|(false,eval e X.env)::backTo nZ []) _ _ s;calc nu<|iz (he aB s Z H _ I h) ?_;rintro u s1 ⟨x,L,I1,rx,a,xs,ex,ha,q⟩;calc oK ?_;subst ex;obtain rfl:u=bU a:=rx;obtain⟨z,d7,n,hv,ahm⟩:iL X.prog X.w L s1.heap a (.lst xs):=I1.fQ a _ ha;have hl:s1.heap.IsList a d7.toArray:=amW ahm;have ln:xs.length=d7.length:=hv.length;calc call_reversed_list hl<|oK ?_;have xU:a<s1.heap.objs.size:=bA ahm;calc Xj (I.ok.hd hc) (cj xU) ⟨_,bZ _ Y,Y,Y⟩ (hl.at λo e=>aS _ e) (by rw[bG,←ln];exact z) λh' tk acc c hk hD Dg=>?_;have hk':∀b o,s1.heap.get? b=some o->h'.get? b=some o:= λb o e=>hk b o (cj<|bA e)<|aS _ e;have hsz:(s1.heap.push<|revObj a<|(d7.toArray.size:Int)-1).objs.size=s1.heap.objs.size+1:=by simp[eZ.push]
 have hV:Vals xs.reverse acc.toList:=En (by rw[jP,ln];exact(Dg.1.trans 's').symm) λj x u e1 e2=>by
  have e3:=Dg.2 j u (by rw[←lu];exact e2);have hj:j<xs.length:=by
   have:=(au.mp e1).1;rwa[jP]at this
  rw[List.getElem?_reverse hj]at e1;rw[List.getElem?_toArray,bG,←ln]at e3;let⟨u',e4,r⟩:=hv.get e1;obtain rfl:u'=u:=aL<|e4.symm.trans e3;exact r
 exact⟨.ref _,_,I1.laid (t':=tk) hk' (by rw[hsz];lia)<|show iL X.prog X.w _ h' _ (.lst xs.reverse)from⟨by rw[jP];exact z,acc.toList,c,hV,~~~hD⟩,Y,q _<|I1.fQ.fresh<|by rw[hsz];lia⟩
inductive aim (x:V) (S:List V) (H:Hp) (Q:VK):Prop
 |mk (l b xs zs:_) (k0:x= .ref l) (k1:S=[.ref b]) (k2:H l=some (.lst xs)) (k3:H b=some (.tup zs)) (k4:xs.length+zs.length<=sizeLine) (k5:Q .gQ (upd H l (.lst (xs++zs))))
theorem Jq:MtM X "list.extend" aim:=by
 intro aB s Z H x S v us Q I rx rv h;let⟨l,b,xs,zs,rfl,rfl,hH,hB,hz,q⟩:=h;cases rx;let⟨u,rfl,ru⟩:=rv.one;cases ru;let⟨z,d7,n,r,hl,e⟩:=I.P0 hH;obtain⟨z2,Dj,r2,⟨o2,e2,c2,n2,d2⟩⟩:iL X.prog X.w H s.heap b (.tup zs):=I.fQ b _ hB;have Tn:zs.length=Dj.length:=r2.length;have hsz:d7.toArray.size+Dj.toArray.size<=sizeLine:=by rw[bG,bG];lia
 have WZ:¬(!d7.toArray.isEmpty&&lO (d7.toArray.size+Dj.toArray.size))=true:=by
  rw[P6 hsz,Zs];exact bJ
 have fin:EP X aB Z Q .none {s with heap:=s.heap.update l (Ep λx=>x++Dj.toArray)}:=⟨.gQ,_,I.Xp (its':=d7++Dj) hH e 's' (r.append r2)<|by rw[ak];lia,Y,q⟩;calc afy cz ⟨_,e,Y⟩ Wn ?_<|V4 _ _;unfold Builtin.«list.extend»;calc aQ<|wpAny_of_eq (a:=(bU l,bU b)) Y ?_;show wpAny _ _ (gw (.ref l) (.ref b) .none) _ _ s;unfold gw;calc aQ<|K7 (T:="tuple") ⟨o2,e2,c2⟩ ?_;calc jL (λ_=>?_) (λRI=>absurd 's' RI);unfold sM;calc aQ<|aQ<|QU e2 d2<|bS ?_;calc aQ<|aQ<|QU e Y<|bS ?_;calc jL (λRI=>absurd RI WZ) λ_=>?_;calc aQ ?_;show wpAny _ _ (updateSeq l λx=>x++Dj.toArray) _ _ s;calc ago e Y ?_;exact bS ⟨_,Y,fin⟩
end
end L2
namespace L2
open PySem PySem.Spec PyProof.Rows
def ag9(C:O)(n:Nat)(th:TS)(D:Ends):XK:= λcv dxo H=>cv= .ref C/\∃dx c p,dxo=some dx/\H dx=some (.xd<|ff c p)/\th D (fC n none) H
def aiU(C:O)(n:Nat)(tb:XK->TS)(th:TS):TS:= λD Z H=>tb (ag9 C n th D) D Z H
def aaG{X:Cx}{C fI:O}{x:Str}{body:List b5}{b0:b5}{KJ:List b5}{np Vb pos:Pos}{tb:XK->TS}{th:TS}(F:Flt X.K C fI)(uP:X.stack=X.env::X.outer/\X.env.frame=some X.env.locals) (hg:Gl X x)(hm:X.mg x=some (.ref C)) (hb:∀(pn:List<|O×Obj) (W:aC->aP->Prop) (EX:XK),Passes (pU X.prog X.w C) (X.KZ pn W) EX->OR (X.KZ pn W) body (tb EX))(hh:∀e,OR (X.To e) (b0::KJ) th)(ER:(x==("__debug__":Str))=false:=by decide):PS X (.Try body [.ExceptHandler (some<|.Name x np) none (b0::KJ) Vb] [] [] pos)<|aiU C X.N.length tb th:=by
 intro aB s Z H D I h;let⟨nm,q,N,bs,sn,sub,ab,col,dd,k0,k1,k2,k3,k5,mN,lk,ns,m1,m2,m3,m4,m5,m6⟩:=F.obj;calc afx ?_;generalize hW:(λ(e:aC) (s1:aP)=>wpAny (model X.prog X.w) X.A (noteFrame e X.env) (λ_ s2=>wpAny (model X.prog X.w) X.A (setFlight e none) (λ_ s3=>wpAny (model X.prog X.w) X.A (handleBy e X.env [.ExceptHandler (some<|.Name x np) none (b0::KJ) Vb]) (SP X aB D) X.xe s3) X.xe s2) X.xe s1)=W;have pass:Passes (pU X.prog X.w C) (X.KZ (X.pn++aB) W)<|ag9 C X.N.length th D:=by
  intro pB σB HB sB ev s' IB y;let⟨e,dx,T,c,p,U,rfl,os,bare,un,fQ,g1,g2,n1,n2,tr,hd,_,Te,c',p',edx,WW,hT⟩:=y;cases edx;have IX:Inv X aB σB HB sB:=IB.BY I.ok;have I2:Inv X aB σB U s':=IX.Mg (ch:=[]) os un fQ bare (λb z=>absurd z 's');have fe:sP X aB U e:=IX.Cg g1 n1;have fT:sP X aB U T:=IX.Cg g2 n2;have ned:e≠dx:= λz=>by rw[z,hd]at n1;cases n1
  rw[←hW];have fr:X.A.frames=some (X.env::X.outer):=by rw[←uP.1];exact I.ok.frames
  have ff0:s'.heap.FunFrames X.base<|X.env::X.outer:=by rw[←uP.1];exact I2.stack
  have Pw:(X.env::X.outer).filterMap (·.frame)=xS X.stack:=by rw[uP.1];rfl
  calc XF.Dr (base:=X.base) fr ff0 uP.2 tr λG T' x1 le tr1=>?_;rw[Pw]at x1;have fT':sP X aB U T':=le.elim (λz=>by rw[z];exact fT) λz=>I2.Cg z<|fQ.fresh z;have I3:Inv X aB σB U {s' with heap:=G}:=I2.chg x1 λb z=>by
   simp at z;rcases z with rfl|rfl<;>assumption
  calc XF.Ah (fr:=xS X.stack) (s:={s' with heap:=G}) tr1 λh2 x2 _ Wi=>?_;have I4:Inv X aB σB U {s' with heap:=h2}:=I3.chg x2 λb z=>by rw[cA.mp z];exact fT'
  calc ZA (Wo ?_) (by intro z;cases z);calc pQ (X:=X.To e) (I4.To e) hg hm ?_ ER;let⟨S,oT,ts,⟨o,he,oc,od,oU⟩,v1,ne,Lu,dT,h3⟩:=id Wi;let⟨hh',gg,dr,tk,XM⟩:=s';calc Rm (I4.Ag _ _ lk) he oc 'd' ?_;calc codeAny_handlers_suite<|XF.Ah (fr:=xS X.stack) (s:=⟨h2,gg,dr,tk,XM⟩) Wi λh4 x4 _ tr4=>?_;have I5:Inv X aB σB U ⟨h4,gg,dr,tk,XM⟩:=I4.chg x4 λb z=>by rw[cA.mp z];exact fT'
  have I6:Inv X aB (fC X.N.length none) U ⟨h4,gg,dr,tk,XM⟩:=I5.weak (by rw[pN];exact I5.len.symm) λj v z=>by rw[nR]at z;split at z<;>cases z
  calc fF (hh e aB _ _ _ D (I6.To e) hT) (λf Wg z=>?_) λ_ _ z=>z.elim;cases f with
  |next=>
   obtain⟨σ',H9,atD,z⟩:=z;exact⟨σ',H9,atD.QE I.ok,z⟩
  |brk=>
   obtain⟨σ',H9,atD,z⟩:=z;exact⟨σ',H9,atD.QE I.ok,z⟩
  |cont=>
   obtain⟨σ',H9,atD,z⟩:=z;exact⟨σ',H9,atD.QE I.ok,z⟩
  |ret u=>
   obtain⟨v,σ',H9,atD,rv,z⟩:=z;exact⟨v,σ',H9,atD.QE I.ok,rv,z⟩
 have Dh:=hb _ W _ pass [] s Z H D (I.KZ W) h;calc fF Dh (λf s1 z=>?_) λe s1 z=>z;cases f with
 |next=>
  obtain⟨σ',H9,atD,z⟩:=z;exact oO ⟨σ',H9,atD.BY I.ok,z⟩
 |brk=>
  obtain⟨σ',H9,atD,z⟩:=z;exact⟨σ',H9,atD.BY I.ok,z⟩
 |cont=>
  obtain⟨σ',H9,atD,z⟩:=z;exact⟨σ',H9,atD.BY I.ok,z⟩
 |ret u=>
  obtain⟨v,σ',H9,atD,rv,z⟩:=z;exact⟨v,σ',H9,atD.BY I.ok,rv,z⟩
end L2
namespace L2
open PySem PySem.Spec PyProof.Rows PySem.Calls
section
variable{X:Cx}
def Wy(P:eL)(w:gH)(K:aJ)(c:O)(S:List<|Key×aC):Prop:=∀h:eZ,K.In h->h.DictOf (iE P w) c S
def YJ(S:List<|Key×aC)(ty:TE):TE:= λZ H Q=>ty Z H λy L=>∃k t,y=kV k/\valueAt S k=some (.ref t)/\Q (.ref t) L
end
variable{p pos:Pos} {x:Str}
section
variable{X:Cx}
def Oa{c:O}{S:List (Key×aC)}{i:Expr}{ty:TE}(hd:Wy X.prog X.w X.K c S)(hm:X.mg x=some (.ref c))(hi:PE X i ty)(hs:acU i)(hg:Gl X x:=by rfl)(ER:(x==("__debug__":Str))=false:=by decide):PE X (.Subscript (.Name x p) i pos)<|YJ S ty:=by
 intro aB s Z H Q I h;calc Uq Ip.lookup hs<|pQ I hg hm (iz (hi aB s Z H _ I h) ?_) ER;rintro iv s2 ⟨y,H2,I2,ry,k,t,ey,hw,q⟩;subst ey;have dd:=hd _ I2.Ag;exact⟨dd.typeIs,afA (F5 ry) dd.mapOf hw ⟨.ref t,H2,I2.tok _,Y,q⟩⟩
def SG{ι:Type}(f:ι->O)(sp:ι->Sp)(tv:TE)(t:TA):TE:= λZ H Q=>tv Z H λx L=>∃i,x= .ref (f i)/\t Z L λS H2=>sp i S H2 Q E0
def XO{ι:Type}{f:ι->O}{fd:ι->kM}{k:ι->Nat}{ps:List Str}{sp:ι->Sp}{e:Expr}{es:List Expr}{tv:TE}{t:TA}(F:∀i,nQ X.prog X.w X.K X.mg X.base QX (k i) (f i) (fd i) ps<|sp i)(hr:∀i,ia (k i) X.A)(hk:∀i,jf X.K (.ref<|f i)=true)(hb:∀i,Binds X.K (fd i) ps [])(hv:PE X (.Name x p) tv)(ha:PA X (e::es) t) (he:starEach (e::es) X.env=(false,eval e X.env)::starEach es X.env:=by rfl)(yc:(backTo pos<|starEach es X.env).any (·.1)=false:=by rfl):PE X (.Call (.Name x p) (e::es) [] pos)<|SG f sp tv t:=by
 intro aB s Z H Q I h;calc eV<|iz (hv aB s Z H _ I h) ?_;rintro u s0 ⟨y,L,I1,ry,i,ey,q⟩;subst ey;obtain rfl:u=bU (f i):=ry;calc je (h₀:=X.base) I1.ok.mod.kin (hk i) (iz (ha pos aB s0 Z L _ I1 q) ?_) he yc;rintro us s1 ⟨S,H2,I2,r,q2⟩;calc⟨I2.Ag,?_⟩;have q2':sp i (S++[]) H2 Q E0:=by rw[cV];exact q2
 exact Of (F i) (hr i) (hb i) .nil Gn I2 r q2'
def cP.CK{K:aJ}{H U:Hp}{a:O}{xs:List V}(h:cP K H a xs)(s:∀o,H a=some o->U a=some o):cP K U a xs:=by
 rcases h with(h|⟨o,h⟩)|h
 .exact .inl (.inl<|s _ h)
 .exact .inl (.inr ⟨o,s _ h⟩)
 .exact .inr h
end
end L2
namespace Scr
open PySem PySem.Spec PyProof.Rows L2 TL
open VasesBase (quoted escape hexOf lex PTok Toks Fault PName here take takeName takeNum next Range rangeRow wrong nameNext takeRange takeSign takeWord Bytes showInt showNat showRange joined word textRow)
open GM (Ends okC lim closed more nF Aa lZ Ei zU jO Aw Ent pL wK ents wI Valid Apart rank xR pos ord)
open Vasesa (RawBranch RawNode Raw takeRanges takeHands takeBranch takeNode rangeNext takeStates takeParties takeExtras takeScript place known onceEach namedExtras namedHands namedBranches namedNode namedStates named Branch Node Script showBranch showNode sidesFault sidesApart renumbered looked)
open VasesaNeutral (encode callOf asked1 bytesOf)
def top(i:Nat):b5:=PySem.Challenge.pw_scripttold_s01_answers.main.body.getD i (.Pass ⟨0,0,0,0⟩)
variable{x f C r D dx ll le ls d cl gv:O} {A B atH:O->Prop} {s:bL×kP} {X:Cx} {res:Except Fault cU} {e o:Expr} {base:eZ} {H U L H0:Hp} {c z:Int} {Z:L2.St} {kvs:List (Key×V)} {cs:List (List (List Int))} {past:List (List Nat)} {atF:List (Nat×List (Nat×Nat))} {ss:List (dJ×eW)} {fs:List (Str×V)} {names seats:List bL} {outer:List Env} {es:List Expr} {args:List Int} {t xs:List Nat} {N ps:List Str} {b:List UInt8} {S ys:List V} {k p n i m most j:Nat} {en:Option (Nat×Nat)} {kh:Pos} {P:eL} {scope:qL} {g:bF} {sp:Sp} {q qual y:Str} {mg:Str->Option aC} {ta te:TE} {l l1 l' rest:cU} {α β γ:Type} {v sv:V} {Q Q1:VK} {cd:aC} {tk:eF} {st:dQ} {w:gH} {E:XK}
def gW{P:List Str}{sc:qL}(a:sc.kind= .function:=by rfl)(b:sc.isCoroutine=false:=by rfl)(c:sc.isGenerator=false:=by rfl)(d:N.Nodup:=by decide)(e:N.take P.length=P:=by rfl)(f:∀x∈P,sc.names.lookup x=some .local∨sc.names.lookup x=some .cell:=by decide)(g:∀y∈sc.names,y.2≠ .free:=by decide):aZ N P sc:=⟨a,b,c,d,e,f,g⟩
abbrev qX:b5:=inClass (top 12) 0
def LH:aZ ["self","code","place"] ["self","code","place"]<|aO qX:=gW
abbrev DM:b5:=inClass (top 14) 0
def LG:aZ ["self","title","parties","extras","start_name","states"] ["self","title","parties","extras","start_name","states"]<|aO DM:=gW
abbrev tH:b5:=inClass (top 15) 0
def CD:aZ ["self","name","kind","pair","branches"] ["self","name","kind","pair","branches"]<|aO tH:=gW
abbrev rW:b5:=inClass (top 16) 0
def AJ:aZ ["self","label","ranges","handed","behind"] ["self","label","ranges","handed","behind"]<|aO rW:=gW
abbrev Ka:b5:=top 23
def Qp:aZ ["byte"] ["byte"]<|aO Ka:=gW
abbrev Kc:b5:=top 24
def Qq:aZ ["byte"] ["byte"]<|aO Kc:=gW
abbrev Kd:b5:=top 25
def Qs:aZ ["byte"] ["byte"]<|aO Kd:=gW
abbrev GC:b5:=top 26
def Oj:aZ ["byte"] ["byte"]<|aO GC:=gW
abbrev MM:b5:=top 27
def Sq:aZ ["byte"] ["byte"]<|aO MM:=gW
abbrev MO:b5:=top 28
def CI:aZ ["letters_and_digits","byte"] ["letters_and_digits"]<|aO MO:=gW
abbrev MN:b5:=top 29
def CH:aZ ["word","sign"] ["word"]<|aO MN:=gW
abbrev DP:b5:=inClass (top 51) 0
def LK:aZ ["self","kind","value","place","past"] ["self","kind","value","place","past"]<|aO DP:=gW
abbrev ML:b5:=top 52
def So:aZ ["text","place"] ["text","place"]<|aO ML:=gW
abbrev BI:b5:=top 53
def zO:aZ ["text","place"] ["text","place"]<|aO BI:=gW
abbrev BH:b5:=top 54
def sf:aZ ["text","place"] ["text","place"]<|aO BH:=gW
abbrev GG:b5:=top 55
def qZ:aZ ["text","place","past","word"] ["text","place"]<|aO GG:=gW
abbrev GD:b5:=top 56
def qY:aZ ["digits","value","byte"] ["digits"]<|aO GD:=gW
abbrev BD:b5:=top 57
def zK:aZ ["text","place","below","first","past","count","needless","value"] ["text","place"]<|aO BD:=gW
abbrev zl:b5:=top 58
def HC:aZ ["byte"] ["byte"]<|aO zl:=gW
abbrev wU:b5:=top 59
def ve:aZ ["text","place","told"] ["text","place"]<|aO wU:=gW
abbrev wW:b5:=top 60
def vj:aZ ["text","place","byte"] ["text","place"]<|aO wW:=gW
abbrev BE:b5:=top 61
def zL:aZ ["text","place","at","told","length"] ["text","place"]<|aO BE:=gW
abbrev GH:b5:=top 62
def D7:aZ ["text","place","sign","past"] ["text","place"]<|aO GH:=gW
abbrev DV:b5:=top 63
def BO:aZ ["text","place","byte"] ["text","place"]<|aO DV:=gW
abbrev GL:b5:=top 64
def Ec:aZ ["text","tokens","place","token"] ["text"]<|aO GL:=gW
abbrev Bm:b5:=inClass (top 72) 0
def Ko:aZ ["self","title","party_count","seats","holders","start_state","states"] ["self","title","party_count","seats","holders","start_state","states"]<|aO Bm:=gW
abbrev DO:b5:=inClass (top 73) 0
def LJ:aZ ["self","name","kind","seats","sides","branches"] ["self","name","kind","seats","sides","branches"]<|aO DO:=gW
abbrev Bh:b5:=inClass (top 74) 0
def Kl:aZ ["self","label","ranges","handed","behind"] ["self","label","ranges","handed","behind"]<|aO Bh:=gW
abbrev Bj:b5:=inClass (top 83) 0
def Km:aZ ["self","tokens"] ["self","tokens"]<|aO Bj:=gW
abbrev y9:b5:=inClass (top 83) 1
def Hy:aZ ["self"] ["self"]<|aO y9:=gW
abbrev rX:b5:=inClass (top 83) 2
def AK:aZ ["self","kind"] ["self","kind"]<|aO rX:=gW
abbrev Bk:b5:=inClass (top 83) 3
def Kn:aZ ["self","fixed"] ["self","fixed"]<|aO Bk:=gW
abbrev Bl:b5:=inClass (top 83) 4
def zu:aZ ["self","token"] ["self"]<|aO Bl:=gW
abbrev rY:b5:=inClass (top 83) 5
def AL:aZ ["self","kind"] ["self","kind"]<|aO rY:=gW
abbrev p8:b5:=inClass (top 83) 6
def xZ:aZ ["self","words"] ["self","words"]<|aO p8:=gW
abbrev qH:b5:=inClass (top 83) 7
def zw:aZ ["self","word"] ["self","word"]<|aO qH:=gW
abbrev DR:b5:=top 84
def LM:aZ ["token","count","most"] ["token","count","most"]<|aO DR:=gW
abbrev zo:b5:=top 85
def xx:aZ ["reader","parties","party"] ["reader"]<|aO zo:=gW
abbrev BB:b5:=top 86
def zI:aZ ["reader","extras","name"] ["reader"]<|aO BB:=gW
abbrev qJ:b5:=top 87
def qa:aZ ["reader","low","high"] ["reader"]<|aO qJ:=gW
abbrev tN:b5:=top 88
def r8:aZ ["reader","most"] ["reader"]<|aO tN:=gW
abbrev DT:b5:=top 89
def BL:aZ ["reader","count","word"] ["reader","count"]<|aO DT:=gW
abbrev BF:b5:=top 90
def zM:aZ ["reader","ranges"] ["reader"]<|aO BF:=gW
abbrev BC:b5:=top 91
def zJ:aZ ["reader","handed","seat"] ["reader"]<|aO BC:=gW
abbrev BA:b5:=top 92
def zH:aZ ["reader","count","label","ranges","handed"] ["reader","count"]<|aO BA:=gW
abbrev wX:b5:=top 93
def vm:aZ ["reader","branches"] ["reader"]<|aO wX:=gW
abbrev GF:b5:=top 94
def DZ:aZ ["reader","name","first"] ["reader","name"]<|aO GF:=gW
abbrev GI:b5:=top 95
def D8:aZ ["reader","name","sender","receiver"] ["reader","name"]<|aO GI:=gW
abbrev DU:b5:=top 96
def BN:aZ ["reader","count","name"] ["reader","count"]<|aO DU:=gW
abbrev BG:b5:=top 97
def zN:aZ ["reader","states"] ["reader"]<|aO BG:=gW
abbrev J9:b5:=top 98
def GO:aZ ["tokens","reader","title","parties","extras","start_name"] ["tokens"]<|aO J9:=gW
abbrev DN:b5:=inClass (top 100) 0
def LI:aZ ["self","seats","party_count","states"] ["self","seats","party_count","states"]<|aO DN:=gW
abbrev Ui:b5:=top 101
def Yo:aZ ["numbers","name"] ["numbers","name"]<|aO Ui:=gW
abbrev Uj:b5:=top 102
def Yp:aZ ["numbers","name"] ["numbers","name"]<|aO Uj:=gW
abbrev u7:b5:=top 103
def tQ:aZ ["parties","numbers","party"] ["parties"]<|aO u7:=gW
abbrev wV:b5:=top 104
def vg:aZ ["states","numbers","number","state"] ["states"]<|aO wV:=gW
abbrev zp:b5:=top 105
def xA:aZ ["names","pair","sender","receiver"] ["names","pair"]<|aO zp:=gW
abbrev wY:b5:=top 106
def vn:aZ ["names","handed","numbers","name","number"] ["names","handed"]<|aO wY:=gW
abbrev tO:b5:=top 107
def r9:aZ ["names","branches","labels","settled","branch","handed","behind"] ["names","branches"]<|aO tO:=gW
abbrev zq:b5:=top 108
def xB:aZ ["names","number","state","word","side","seats"] ["names","number","state"]<|aO zq:=gW
abbrev u9:b5:=top 109
def tR:aZ ["draft","parties","seats","holders","extra","names","start_state","states","number","state"] ["draft"]<|aO u9:=gW
abbrev DS:b5:=top 111
def BK:aZ ["bounds","word","number"] ["bounds"]<|aO DS:=gW
abbrev By:b5:=top 112
def zG:aZ ["script","handed","seat"] ["script","handed"]<|aO By:=gW
abbrev Bw:b5:=top 113
def zE:aZ ["script","branch","ranges","bounds","handed","behind"] ["script","branch"]<|aO Bw:=gW
abbrev DW:b5:=top 114
def BP:aZ ["script","state","words","side","branches","branch"] ["script","state"]<|aO DW:=gW
abbrev GK:b5:=top 115
def Eb:aZ ["script","seat"] ["script","seat"]<|aO GK:=gW
abbrev Kg:b5:=top 116
def GQ:aZ ["script","lines","seat","state","line"] ["script"]<|aO Kg:=gW
abbrev w9:b5:=top 118
def vq:aZ ["state","branch"] ["state"]<|aO w9:=gW
abbrev zk:b5:=top 119
def xw:aZ ["states","first","entries","met","at","step","behind"] ["states","first"]<|aO zk:=gW
abbrev Ke:b5:=top 120
def Qt:aZ ["states","first"] ["states","first"]<|aO Ke:=gW
abbrev Kh:b5:=top 121
def GR:aZ ["script","number","entries","steps","entry"] ["script","number"]<|aO Kh:=gW
abbrev wZ:b5:=top 122
def vp:aZ ["states","sides","second","number"] ["states","sides"]<|aO wZ:=gW
abbrev Bx:b5:=top 125
def zF:aZ ["draft","script","number","state"] ["draft","script"]<|aO Bx:=gW
abbrev GJ:b5:=top 126
def Ea:aZ ["text","draft","script"] ["text"]<|aO GJ:=gW
abbrev xg:b5:=top 129
def vt:aZ ["states","first","talks","waiting","number"] ["states","first"]<|aO xg:=gW
abbrev za:b5:=inClass (top 130) 0
def Hz:aZ ["self","script"] ["self","script"]<|aO za:=gW
abbrev tL:b5:=inClass (top 130) 1
def r6:aZ ["self","found","number","branch"] ["self"]<|aO tL:=gW
abbrev tK:b5:=inClass (top 130) 2
def CF:aZ ["self"] ["self"]<|aO tK:=gW
abbrev zb:b5:=inClass (top 130) 3
def xh:aZ ["self","option","place","behind"] ["self","option"]<|aO zb:=gW
abbrev qI:b5:=inClass (top 130) 4
def zx:aZ ["self"] ["self"]<|aO qI:=gW
abbrev p9:b5:=inClass (top 130) 5
def o9:aZ ["self","numbers","count","number","options"] ["self","numbers"]<|aO p9:=gW
abbrev rZ:b5:=top 132
def qK:aZ ["state","numbers","sides","side","branches","branch"] ["state","numbers"]<|aO rZ:=gW
abbrev Qo:b5:=top 133
def MP:aZ ["script","met","numbers","number","states"] ["script"]<|aO Qo:=gW
abbrev u0:b5:=top 134
def tP:aZ ["state","branches","branch"] ["state"]<|aO u0:=gW
abbrev Kf:b5:=top 135
def GP:aZ ["script","states","state"] ["script"]<|aO Kf:=gW
abbrev GB:b5:=top 136
def Oi:aZ ["one","other"] ["one","other"]<|aO GB:=gW
abbrev GA:b5:=inClass (top 149) 0
def Oh:aZ ["self"] ["self"]<|aO GA:=gW
abbrev Gz:b5:=inClass (top 149) 1
def Og:aZ ["self","script"] ["self","script"]<|aO Gz:=gW
abbrev zm:b5:=top 150
def HD:aZ ["number","things"] ["number","things"]<|aO zm:=gW
abbrev GN:b5:=top 151
def Ol:aZ ["word"] ["word"]<|aO GN:=gW
abbrev DX:b5:=top 152
def BQ:aZ ["pairs","answer","pair"] ["pairs"]<|aO DX:=gW
abbrev Br:b5:=top 153
def zB:aZ ["desk","given","fault"] ["desk","given"]<|aO Br:=gW
abbrev Bt:b5:=top 154
def Kr:aZ ["desk","given"] ["desk","given"]<|aO Bt:=gW
abbrev zh:b5:=top 155
def xr:aZ ["desk","given","script","extras","branches","state"] ["desk","given"]<|aO zh:=gW
abbrev Bs:b5:=top 156
def zC:aZ ["desk","given","script","number"] ["desk","given"]<|aO Bs:=gW
abbrev zj:b5:=top 157
def xu:aZ ["desk","given","states","state","answer"] ["desk","given"]<|aO zj:=gW
abbrev BJ:b5:=top 158
def zP:aZ ["branch","answer","bounds"] ["branch"]<|aO BJ:=gW
abbrev wQ:b5:=top 159
def vc:aZ ["desk","given","states","branches"] ["desk","given"]<|aO wQ:=gW
abbrev Bq:b5:=top 160
def zA:aZ ["desk","given","number","state"] ["desk","given"]<|aO Bq:=gW
abbrev ze:b5:=top 161
def xo:aZ ["desk","given","states","met"] ["desk","given"]<|aO ze:=gW
abbrev zg:b5:=top 162
def xq:aZ ["desk","given","steps"] ["desk","given"]<|aO zg:=gW
abbrev Bu:b5:=top 163
def zD:aZ ["desk","given","before"] ["desk","given"]<|aO Bu:=gW
abbrev zc:b5:=top 164
def xm:aZ ["desk","given","other"] ["desk","given"]<|aO zc:=gW
abbrev zd:b5:=top 165
def HA:aZ ["desk","given"] ["desk","given"]<|aO zd:=gW
abbrev uZ:b5:=top 166
def DY:aZ ["desk","given"] ["desk","given"]<|aO uZ:=gW
abbrev wR:b5:=top 167
def vd:aZ ["desk","given","options","option","state"] ["desk","given"]<|aO wR:=gW
abbrev Bo:b5:=top 168
def Kq:aZ ["desk","given"] ["desk","given"]<|aO Bo:=gW
abbrev Bv:b5:=top 169
def Ks:aZ ["desk","given"] ["desk","given"]<|aO Bv:=gW
abbrev DQ:b5:=top 170
def LL:aZ ["desk","given"] ["desk","given"]<|aO DQ:=gW
abbrev tM:b5:=top 171
def CG:aZ ["desk","given"] ["desk","given"]<|aO tM:=gW
abbrev Bp:b5:=top 173
def zy:aZ ["desk","number","given","answer"] ["desk","number","given"]<|aO Bp:=gW
abbrev tG:b5:=inClass (top 174) 0
def CC:aZ ["self","calls"] ["self","calls"]<|aO tG:=gW
abbrev p7:b5:=inClass (top 174) 1
def xY:aZ ["self"] ["self"]<|aO p7:=gW
abbrev mQ:b5:=inClass (top 174) 2
def l9:aZ ["self","number"] ["self"]<|aO mQ:=gW
abbrev o8:b5:=inClass (top 174) 3
def oA:aZ ["self","length","row"] ["self"]<|aO o8:=gW
abbrev nM:b5:=inClass (top 174) 4
def mR:aZ ["self","number","given","turn"] ["self","number"]<|aO nM:=gW
abbrev MK:b5:=top 175
def Ku:aZ ["calls","desk","reader","told","number","answer"] ["calls"]<|aO MK:=gW
structure g9 where
 f:Str->O
 d:Str->kM
 c:Str->O
structure jw (K:aJ) (mg:Str->Option aC) (a:g9) (x:Str) (st:b5) (ps:List Str):Prop where
 fn:S4 K x x st (a.f x) (a.d x)
 b:Binds K (a.d x) ps []
 m:mg x=some (.ref<|a.f x)
structure Lo (K:aJ) (a:g9) (C x q:Str) (st:b5) (ps:List Str):Prop where
 fn:S4 K x q st (a.f q) (a.d q)
 b:Binds K (a.d q) ps []
 mt:Meth K (a.c C) x (a.f q)
structure Iw (K:aJ) (mg:Str->Option aC) (a:g9) (C q:Str) (st:b5) (ps fs:List Str):Prop where
 fn:S4 K "__init__" q st (a.f q) (a.d q)
 b:Binds K (a.d q) ps []
 cl:Wx K (a.c C)
 mkr:Mk K (a.c C) (a.f q)
 m:mg C=some (.ref<|a.c C)
 no:∀f∈fs,yh K (a.c C) f
noncomputable def cI:List<|Str×Int:=[(("TOO_LONG":Str),1),(("NO_TOKEN":Str),2),(("NOT_ALLOWED":Str),3),(("ONE_TOO_MANY":Str),4),(("NAMED_TWICE":Str),5),(("UNKNOWN_NAME":Str),6),(("BAD_BOUND":Str),7),(("SENT_TO_ITSELF":Str),8),(("PARTY_HANDED":Str),9),(("FORM_TOO_LONG":Str),10),(("SIDES_SHARE":Str),11),(("FIRST_DIGIT":Str),48),(("FIRST_GREAT":Str),65),(("FIRST_SMALL":Str),97),(("MOST_NAME_BYTES":Str),16),(("MOST_DIGITS":Str),10),(("LARGEST_NUMBER":Str),1000000000),(("MOST_QUOTED_BYTES":Str),255),(("LINE_END":Str),10),(("REMARK":Str),35),(("MINUS":Str),45),(("QUOTE":Str),34),(("BACKSLASH":Str),92),(("LETTER_N":Str),110),(("LETTER_X":Str),120),(("NO_BYTE":Str),-1),(("END":Str),0),(("TALK":Str),1),(("BOTH":Str),2),(("TRUTH_RANGE":Str),0),(("NUMBER_RANGE":Str),1),(("TEXT_RANGE":Str),2),(("MOST_PARTIES":Str),8),(("MOST_EXTRA_SEATS":Str),8),(("MOST_STATES":Str),64),(("MOST_BRANCHES":Str),8),(("MOST_RANGES":Str),4),(("MOST_HANDED":Str),2),(("MOST_TEXT_BYTES":Str),255),(("MOST_BYTES":Str),4096),(("MOST_TOLD":Str),1000),(("LOAD":Str),0),(("FIRST_OF_TELLING":Str),12),(("NO_SCRIPT":Str),-1),(("NO_SUCH_THING":Str),-2),(("IS_NO_SCRIPT":Str),-3),(("NOT_REACHED":Str),-4),(("NO_TELLING":Str),-5),(("NO_SUCH_OPTION":Str),-6),(("LOG_IS_FULL":Str),-7),(("LOG_IS_EMPTY":Str),-8),(("NOT_FOUND":Str),-9)]
noncomputable def cS:List<|Str×Str:=[(("LETTERS":Str),("abcdefghijklmnopqrstuvwxyz":Str)),(("DIGITS":Str),("0123456789":Str)),(("NAME":Str),("name":Str)),(("NUMBER":Str),("number":Str)),(("QUOTED":Str),("quoted":Str)),(("FIXED":Str),("fixed":Str)),(("ENDING":Str),("ending":Str))]
def WA(K:aJ)(mg:Str->Option aC)(a:g9)(x:Str)(S:List V):Prop:=mg x=some (.ref<|a.c x)/\∀H:Hp,oS K H (a.c x) S
noncomputable def cB:List Str:=["len","range","enumerate","sum","any","list","dict","str","ord","reversed"]
noncomputable def cM:List Str:=["Reader","Desk","Telling","CallReader"]
noncomputable def cF:List Str:=["Draft","DraftState","DraftBranch","Token","Script","State","Branch","Names"]
noncomputable def wz:List V:=[.str "script",.str "parties",.str "seat",.str "of",.str "start",.str "end",.str "both",.str "flag",.str "num",.str "text",.str "part",.str "stop",.str "send",.str "recv",.str "program",.str "for",.str "def",.str "if",.str "pick",.str "any",.str "set",.str "go",.str "true",.str "false"]
noncomputable def Ih:List V:=[.str "->",.str "<-",.str "=",.str "{",.str "}",.str "(",.str ")",.str "[",.str "]",.str ",",.str ";",.str ":",.str "!",.str "?",.str "|"]
def KP:List V:=[.int 32,.int 9,.int 10]
structure Txt (K:aJ) (mg:Str->Option aC) (a:g9):Prop where
 gi:∀x i,cI.lookup x=some i->∃t,mg x=some (.int i t)
 gs:∀x i,cS.lookup x=some i->∃t,mg x=some (.str i t)
 gb:∀x∈cB,mg x=none
 imm:∀x∈cF,∀y∈cM,a.c x≠a.c y
 aqO:∀x∈cM,∀y∈cM,x≠y->a.c x≠a.c y
 RESERVED:WA K mg a "RESERVED" wz
 SIGNS:WA K mg a "SIGNS" Ih
 Wv:WA K mg a "BLANKS" KP
 U5:Flt K (a.c "Fault") (a.f "Fault.__init__")
 akI:S4 K "__init__" "Fault.__init__" qX (a.f "Fault.__init__") (a.d "Fault.__init__")
 akH:Binds K (a.d "Fault.__init__") ["self","code","place"] []
 adk:mg "Fault"=some (.ref<|a.c "Fault")
 AV:Iw K mg a "Draft" "Draft.__init__" DM ["self","title","parties","extras","start_name","states"] ["title","parties","extras","start_name","states"]
 gC:Iw K mg a "DraftState" "DraftState.__init__" tH ["self","name","kind","pair","branches"] ["name","kind","pair","branches"]
 j7:Iw K mg a "DraftBranch" "DraftBranch.__init__" rW ["self","label","ranges","handed","behind"] ["label","ranges","handed","behind"]
 rM:jw K mg a "is_digit" Ka ["byte"]
 Jd:jw K mg a "is_great" Kc ["byte"]
 PN:jw K mg a "is_small" Kd ["byte"]
 EV:jw K mg a "is_letter" GC ["byte"]
 sign_of:jw K mg a "sign_of" MM ["byte"]
 Uz:jw K mg a "word_of" MO ["letters_and_digits"]
 spelled:jw K mg a "spelled" MN ["word"]
 Token:Iw K mg a "Token" "Token.__init__" DP ["self","kind","value","place","past"] ["kind","value","place","past"]
 byte_at:jw K mg a "byte_at" ML ["text","place"]
 GU:jw K mg a "skip_remark" BI ["text","place"]
 zS:jw K mg a "skip_blanks" BH ["text","place"]
 MG:jw K mg a "read_name" GG ["text","place"]
 My:jw K mg a "number_of" GD ["digits"]
 Gv:jw K mg a "read_number" BD ["text","place"]
 v9:jw K mg a "is_hex_digit" zl ["byte"]
 AZ:jw K mg a "escape_length" wU ["text","place"]
 Be:jw K mg a "quoted_length" wW ["text","place"]
 Gw:jw K mg a "read_quoted" BE ["text","place"]
 MH:jw K mg a "read_sign" GH ["text","place"]
 J5:jw K mg a "read_token" DV ["text","place"]
 MY:jw K mg a "tokens_of" GL ["text"]
 Script:Iw K mg a "Script" "Script.__init__" Bm ["self","title","party_count","seats","holders","start_state","states"] ["title","party_count","seats","holders","start_state","states"]
 State:Iw K mg a "State" "State.__init__" DO ["self","name","kind","seats","sides","branches"] ["name","kind","seats","sides","branches"]
 Branch:Iw K mg a "Branch" "Branch.__init__" Bh ["self","label","ranges","handed","behind"] ["label","ranges","handed","behind"]
 Reader:Iw K mg a "Reader" "Reader.__init__" Bj ["self","tokens"] ["tokens","at"]
 ki:Lo K a "Reader" "ahead" "Reader.ahead" y9 ["self"]
 jb:Lo K a "Reader" "sees_kind" "Reader.sees_kind" rX ["self","kind"]
 nE:Lo K a "Reader" "sees" "Reader.sees" Bk ["self","fixed"]
 jE:Lo K a "Reader" "take" "Reader.take" Bl ["self"]
 cG:Lo K a "Reader" "take_kind" "Reader.take_kind" rY ["self","kind"]
 ir:Lo K a "Reader" "take_one_of" "Reader.take_one_of" p8 ["self","words"]
 fM:Lo K a "Reader" "take_fixed" "Reader.take_fixed" qH ["self","word"]
 mX:jw K mg a "check_room" DR ["token","count","most"]
 DJ:jw K mg a "read_parties" zo ["reader"]
 Gr:jw K mg a "read_extras" BB ["reader"]
 tE:jw K mg a "read_number_range" qJ ["reader"]
 wO:jw K mg a "read_text_range" tN ["reader"]
 CA:jw K mg a "read_range" DT ["reader","count"]
 Gx:jw K mg a "read_ranges" BF ["reader"]
 Gu:jw K mg a "read_handed" BC ["reader"]
 yZ:jw K mg a "read_branch" BA ["reader","count"]
 Bg:jw K mg a "read_branches" wX ["reader"]
 ME:jw K mg a "read_both" GF ["reader","name"]
 MI:jw K mg a "read_talk" GI ["reader","name"]
 CB:jw K mg a "read_state" DU ["reader","count"]
 Gy:jw K mg a "read_states" BG ["reader"]
 Pj:jw K mg a "draft_of" J9 ["tokens"]
 yg:Iw K mg a "Names" "Names.__init__" DN ["self","seats","party_count","states"] ["seats","party_count","states"]
 claim:jw K mg a "claim" Ui ["numbers","name"]
 meant:jw K mg a "meant" Uj ["numbers","name"]
 yL:jw K mg a "number_parties" u7 ["parties"]
 Bb:jw K mg a "number_states" wV ["states"]
 Ed:jw K mg a "settle_seats" zp ["names","pair"]
 BR:jw K mg a "settle_handed" wY ["names","handed"]
 xC:jw K mg a "settle_branches" tO ["names","branches"]
 Ef:jw K mg a "settle_state" zq ["names","number","state"]
 zQ:jw K mg a "settled_script" u9 ["draft"]
 J0:jw K mg a "range_form" DS ["bounds"]
 F1:jw K mg a "handed_form" By ["script","handed"]
 FT:jw K mg a "branch_form" Bw ["script","branch"]
 KG:jw K mg a "state_form" DW ["script","state"]
 MQ:jw K mg a "seat_form" GK ["script","seat"]
 JQ:jw K mg a "one_form" Kg ["script"]
 BV:jw K mg a "states_behind" w9 ["state"]
 vX:jw K mg a "entries_from" zk ["states","first"]
 yG:jw K mg a "met_from" Ke ["states","first"]
 Qn:jw K mg a "route_to" Kh ["script","number"]
 BS:jw K mg a "share_a_state" wZ ["states","sides"]
 FU:jw K mg a "check_sides" Bx ["draft","script"]
 Ft:jw K mg a "script_of" GJ ["text"]
 ur:jw K mg a "talks_come_to" xg ["states","first"]
 Telling:Iw K mg a "Telling" "Telling.__init__" za ["self","script"] ["states","standing","log","earlier"]
 jB:Lo K a "Telling" "options" "Telling.options" tL ["self"]
 qt:Lo K a "Telling" "is_full" "Telling.is_full" tK ["self"]
 vM:Lo K a "Telling" "tell" "Telling.tell" zb ["self","option"]
 sU:Lo K a "Telling" "take_back" "Telling.take_back" qI ["self"]
 rH:Lo K a "Telling" "tell_along" "Telling.tell_along" p9 ["self","numbers"]
 uY:jw K mg a "renumbered_state" rZ ["state","numbers"]
 tidied:jw K mg a "tidied" Qo ["script"]
 yJ:jw K mg a "nameless_state" u0 ["state"]
 Js:jw K mg a "nameless" Kf ["script"]
 L7:jw K mg a "are_alike" GB ["one","other"]
 lH:Iw K mg a "Desk" "Desk.__init__" GA ["self"] ["script","telling"]
 EI:Lo K a "Desk" "hold" "Desk.hold" Gz ["self","script"]
 jG:jw K mg a "is_number_in" zm ["number","things"]
 vA:jw K mg a "told_text" GN ["word"]
 wB:jw K mg a "told_pairs" DX ["pairs"]
 yl:jw K mg a "answer_load" Br ["desk","given"]
 yo:jw K mg a "answer_show" Bt ["desk","given"]
 vS:jw K mg a "answer_sizes" zh ["desk","given"]
 ym:jw K mg a "answer_seat" Bs ["desk","given"]
 vU:jw K mg a "answer_state" zj ["desk","given"]
 G0:jw K mg a "told_branch" BJ ["branch"]
 uc:jw K mg a "answer_branch" wQ ["desk","given"]
 yk:jw K mg a "answer_find" Bq ["desk","given"]
 vQ:jw K mg a "answer_reach" ze ["desk","given"]
 vR:jw K mg a "answer_route" zg ["desk","given"]
 yp:jw K mg a "answer_tidy" Bu ["desk","given"]
 vO:jw K mg a "answer_alike" zc ["desk","given"]
 vP:jw K mg a "answer_begin" zd ["desk","given"]
 rJ:jw K mg a "answer_options" uZ ["desk","given"]
 ud:jw K mg a "answer_choose" wR ["desk","given"]
 yj:jw K mg a "answer_back" Bo ["desk","given"]
 yq:jw K mg a "answer_told" Bv ["desk","given"]
 B9:jw K mg a "answer_run" DQ ["desk","given"]
 qu:jw K mg a "answer_standing" tM ["desk","given"]
 FP:jw K mg a "answer_call" Bp ["desk","number","given"]
 eX:Iw K mg a "CallReader" "CallReader.__init__" tG ["self","calls"] ["calls","at"]
 rG:Lo K a "CallReader" "is_done" "CallReader.is_done" p7 ["self"]
 i7:Lo K a "CallReader" "take_number" "CallReader.take_number" mQ ["self"]
 qB:Lo K a "CallReader" "take_row" "CallReader.take_row" o8 ["self"]
 oZ:Lo K a "CallReader" "take_given" "CallReader.take_given" nM ["self","number"]
 answers:jw K mg a "answers" MK ["calls"]
abbrev jM(P:eL)(w:gH)(K:aJ)(mg:Str->Option aC)(base:eZ)(n:Nat)(a:g9)(x:Str):=nQ P w K mg base QX n (a.f x) (a.d x)
abbrev yb(P:eL)(w:gH)(K:aJ)(mg:Str->Option aC)(base:eZ)(n:Nat)(a:g9)(x:Str):=nQ P w K mg base (pU P w<|a.c "Fault") n (a.f x) (a.d x)
variable{a:g9} {K:aJ}
def Txt.gB{x:Str}(T:Txt K mg a)(h:x∈cB:=by decide):mg x=none:=T.gb _ h
def Iw.nO{c f:Str}{st:b5}{fs:List Str}(C:Iw K mg a c q st ps fs)(h:f∈fs:=by decide):yh K (a.c c) f:=C.no _ h
def jh{x:Str}(i:Int){pos:Pos}(T:Txt X.K X.mg a)(h:cI.lookup x=some i:=by decide)(hg:Gl X x:=by rfl)(hd:(x==("__debug__":Str))=false:=by decide):PE X (.Name x pos)<|tC<|.int i:=by
 let⟨t,e⟩:=T.gi x i h;exact N9 hg e ⟨t,Y⟩ hd
def CY{x:Str}(z:Str){pos:Pos}(T:Txt X.K X.mg a)(h:cS.lookup x=some z:=by decide)(hg:Gl X x:=by rfl)(hd:(x==("__debug__":Str))=false:=by decide):PE X (.Name x pos)<|tC<|.str z:=by
 let⟨t,e⟩:=T.gs x z h;exact N9 hg e ⟨t,Y⟩ hd
def pgt{x:Str}{pos:Pos}(T:WA X.K X.mg a x S)(hg:Gl X x:=by rfl)(hd:(x==("__debug__":Str))=false:=by decide):PE X (.Name x pos)<|tC<|.ref<|a.c x:=N9 hg T.1 Y hd
def c8{x:Str}{st:b5}{p pos:Pos}{t:TA}(T:jw X.K X.mg a x st ps)(atG:nQ X.prog X.w X.K X.mg X.base QX k (a.f x) (a.d x) ps sp)(hr:ia k X.A)(ha:PA X (e::es) t) (hg:Gl X x:=by rfl)(ER:(x==("__debug__":Str))=false:=by decide)(he:starEach (e::es) X.env=(false,eval e X.env)::starEach es X.env:=by rfl)(yc:(backTo pos<|starEach es X.env).any (·.1)=false:=by rfl):PE X (.Call (.Name x p) (e::es) [] pos)<|vz sp [] E0 t:=N8 atG hr hg T.m T.fn.kp T.b .nil Gn ha ER he yc
def sp1(g:Int->V):Sp:= λS H Q _=>∃n:Int,S=[.int n]/\Q (g n) H
def yd(n:Int):Bool:=decide (48<=n)&&decide (n<58)
def isG(n:Int):Bool:=decide (65<=n)&&decide (n<91)
def isS(n:Int):Bool:=decide (97<=n)&&decide (n<123)
def Wd(n:Int):Bool:=isG n||isS n
def rng{lo hi n:Int}{Q:V->Hp->Prop}(h:Q (.bl<|decide (lo<=n)&&decide (n<hi)) H):n<lo/\Q (.bl false) H∨lo<=n/\Q (.bl<|decide<|n<hi) H:=by
 by_cases z:lo<=n
 .rw[aR z,CO]at h;exact .inr ⟨z,h⟩
 .rw[bB z,Ay]at h;exact .inl ⟨'o',h⟩
def nG(T:Txt K mg a):jM P w K mg base 1 a "is_digit" ["byte"]<|sp1 λn=> .bl<|yd n:=by
 refine T.rM.fn.ok Qp ?_ ?_
 .right
 .ext⟨n,rfl,k⟩;calc⟨_,aF<|bq<|DF T3 yR (jh 48 T) (J 0)<|fZ om (jh 48 T) bR,?_⟩;simp;exact rng k
def Gg(T:Txt K mg a):jM P w K mg base 1 a "is_great" ["byte"]<|sp1 λn=> .bl<|isG n:=by
 refine T.Jd.fn.ok Qq ?_ ?_
 .right
 .ext⟨n,rfl,k⟩;calc⟨_,aF<|bq<|DF T3 yR (jh 65 T) (J 0)<|fZ om (jh 65 T) bR,?_⟩;simp;exact rng k
def Qa(T:Txt K mg a):jM P w K mg base 1 a "is_small" ["byte"]<|sp1 λn=> .bl<|isS n:=by
 refine T.PN.fn.ok Qs ?_ ?_
 .right
 .ext⟨n,rfl,k⟩;calc⟨_,aF<|bq<|DF T3 yR (jh 97 T) (J 0)<|fZ om (jh 97 T) bR,?_⟩;simp;exact rng k
def Dv(T:Txt K mg a):jM P w K mg base 2 a "is_letter" ["byte"]<|sp1 λn=> .bl<|Wd n:=by
 refine T.EV.fn.ok Oj ?_ ?_
 .right
 .ext⟨n,rfl,k⟩;calc⟨_,aF<|bq<|XR (c8 T.Jd (Gg T) hr<|bM<|J 0)<|JU<|c8 T.PN (Qa T) hr<|bM<|J 0,?_⟩;simp[sp1];cases z:isG n<;>simp[Wd,z]at k⊢<;>exact k
def Ru{xs:List α}(j:Nat){v:α}(e:z=(j:Int))(h:xs[j]? =some v):UX xs z=some v:=by
 rw[e];exact cJ h
def adb:∀k:Nat,k<10->("0123456789":Str).cps.toList[k]? =some (48+k):='d'
def Xe:∀k:Nat,k<26->("abcdefghijklmnopqrstuvwxyz":Str).cps.toList[k]? =some (97+k):='d'
def ai0:∀k:Nat,k<26->O1 ⟨#[97+k]⟩=(⟨#[65+k]⟩:Str):='d'
def ch(n:Nat):Str:=⟨#[n]⟩
def Yy:Sp:= λS H Q _=>∃n:Nat,S=[.int n]/\(Wd n||yd n)=true/\Q (.str<|ch n) H
def Sa(T:Txt K mg a):jM P w K mg base 3 a "sign_of" ["byte"] Yy:=by
 refine T.sign_of.fn.ok Sq ?_ ?_
 .right
 .ext⟨n,rfl,hn,k⟩;have EU:ia 1 _:=hr.mono 'd';calc⟨_,aj (dZ (fX<|c8 T.rM (nG T) EU<|bM<|J 0) (aF<|bq<|dj RN (CY "0123456789" T) (fZ yS (J 0)<|jh 48 T) λ_ _=>rfl) b9)<|aj (dZ (fX<|c8 T.Jd (Gg T) EU<|bM<|J 0) (aF<|bq<|XS<|dj RN (CY "abcdefghijklmnopqrstuvwxyz" T) (fZ yS (J 0)<|jh 65 T) λ_ _=>rfl) b9)<|aF<|bq<|dj RN (CY "abcdefghijklmnopqrstuvwxyz" T) (fZ yS (J 0)<|jh 97 T) λ_ _=>rfl,?_⟩;simp[sp1,ain,tM0];have dv:∀(z:Str),z.length<=26->z.length<=sizeLine:= λz h=>by rw[aW];omega
  have l1:("abcdefghijklmnopqrstuvwxyz":Str).length<=sizeLine:=dv _ 'd';have l2:("0123456789":Str).length<=sizeLine:=dv _ 'd';by_cases z:yd n=true
  .calc .inr ⟨z,l2,n,?_,k⟩;unfold yd at z;rw[bI,aU,aU]at z;calc Ru (n-48) 'o' ?_;rw[adb (n-48) 'o'];exact congrArg some 'o'
  .calc .inl ⟨~~~z,?_⟩;by_cases z2:isG n=true
   .refine .inr ⟨z2,l1,97+(n-65),?_,by show 1<=5592405;decide,?_⟩
    .unfold isG at z2;rw[bI,aU,aU]at z2;calc Ru (n-65) 'o' ?_;exact Xe (n-65) 'o'
    .unfold isG at z2;rw[bI,aU,aU]at z2;rw[ai0 (n-65) 'o',show 65+(n-65)=n by omega];exact k
   .calc .inl ⟨~~~z2,l1,n,?_,k⟩;have z3:isS n=true:=by
     simp[Wd,z,z2]at hn;exact hn
    unfold isS at z3;rw[bI,aU,aU]at z3;calc Ru (n-97) 'o' ?_;rw[Xe (n-97) 'o'];exact congrArg some 'o'
def sw(b:List Nat):Str:=⟨b.toArray⟩
def iv(b:List Nat):List V:=b.map λ(c:Nat)=>V.int (c:Int)
def SD(K:aJ):Sp:= λS H Q _=>∃(l:O) (b:List Nat),S=[.ref l]/\cP K H l (iv b)/\b.length<=16/\(∀c∈b,(Wd (c:Int)||yd (c:Int))=true)/\∀U,aN H U->Q (.str<|sw b) U
theorem Sb(T:Txt K mg a):jM P w K mg base 4 a "word_of" ["letters_and_digits"]<|SD K:=by
 refine T.Uz.fn.ok CI ?_ ?_
 .right
 .ext⟨l,b,rfl,hS,hb,hc,k⟩;calc⟨_,aF<|bq<|T6 cQ<|tD (own:=[("byte",1)]) Y CI.nd (gc<|J 0) (gq 'r') (λ_ _ _ _ _=>wk (i:=1) CI.nd Y<|ji Y) (λ_ _ _ _ _=>iF) λ_ _ _ _ _=>c8 T.sign_of (Sa T) hr<|bM<|J 1,?_⟩;have hz:(iv b).length<=sizeLine:=by rw[iv,ai,aW];lia
  have e:b.map (λc=>V.str<|ch c)=(b.map ch).map V.str:=by rw[dB];rfl
  have len:((b.map ch).map (·.length)).sum=b.length:=by
   rw[dB];clear hS hb hc k hz e;induction b with
   |nil=>rfl
   |cons c r ih=>rw[bK,gS,ih];show 1+r.length=r.length+1;lia
  refine⟨⟨_,Y⟩,Cp (atG:= λ_ j y _=>(b.map λc=>V.str<|ch c)[j]? =some y) (xs:=iv b) (a:=l) (L:=H) (λR r=>⟨_,Y,r⟩) hS hz (λ_ _ _ _ _ h _=>h) (λD j x H2 n hx p R r=>?_) λD H2 n p=>?_⟩
  .unfold iv at hx;rw[aH]at hx;cases q:b[j]?with
   |none=>rw[q]at hx;cases hx
   |some c=>
    rw[q]at hx;obtain rfl:V.int (c:Int)=x:=aL hx;simp[Yy];calc⟨c,Y,~~~hc c (bf q),r _ _ (aN.refl _) ?_⟩;rw[aH,q];rfl
  .have p':Ab (λ_ j y _=>(b.map λc=>V.str<|ch c)[j]? =some y) H D (b.map λc=>V.str<|ch c).length H2:=by rw[ai];rw[iv,ai]at p;exact p
   refine⟨_,D,b.map ch,Y,Y,.inl<|cP.of<|by rw[←e];exact p'.vals,?_,?_⟩
   .rw[len,ai];show b.length+b.length*0<=_
    lia
   .have ew:wD ("":Str) (b.map ch)=sw b:=by
     apply TL.NB;rw[TL.join_eq,TL.OG];clear hS hb hc k hz e len p p';induction b with
     |nil=>rfl
     |cons c r ih=>
      cases r with
      |nil=>rfl
      |cons c' r'=>
       have:TL.Jf (TL.tl ("":Str)) (Rc TL.tl<|Rc ch<|c::c'::r')=[c]++(TL.tl ("":Str)++TL.Jf (TL.tl ("":Str)) (Rc TL.tl<|Rc ch<|c'::r')):='r'
       rw[this,ih];rfl
    rw[ew];exact k _ p.same
inductive VF (S:List V) (H:Hp) (Q:VK) (rq:XK):Prop
 |mk (z:Str) (k0:S=[.str z]) (k1:z.length<=100000) (k2:∀D U,aN H U->H D=none->U D=some (.lst (iv z.cps.toList))->Q (.ref D) U)
theorem wj(T:Txt K mg a):jM P w K mg base 1 a "spelled" ["word"] VF:=by
 refine T.spelled.fn.ok CH ?_ ?_
 .right
 .ext⟨z,rfl,hz,k⟩;calc⟨_,aF<|bq<|tD (own:=[("sign",1)]) Y CH.nd (aen<|J 0) (gq 'r') (λ_ _ _ _ _=>wk (i:=1) CH.nd Y<|ji Y) (λ_ _ _ _ _=>iF) λ_ _ _ _ _=>cy WI 'r' T.gB 'd'<|bM<|J 1,?_⟩;have sz:z.cps.size<=sizeLine:=by rw[aW];have:z.cps.size=z.length:=rfl;lia
  refine Vj (atG:= λ_ j y _=>(iv z.cps.toList)[j]? =some y) (z:=z) (L:=H) (λR r=>⟨_,Y,r⟩) sz (λ_ _ _ _ _ h _=>h) (λD j c H2 n hc p R r=>?_) λD H2 n p=>?_
  .simp;calc⟨Y,r _ _ (aN.refl _) ?_⟩;rw[iv,aH,lu,hc];rfl
  .have p':Ab (λ_ j y _=>(iv z.cps.toList)[j]? =some y) H D (iv z.cps.toList).length H2:=by rw[iv,ai,jK];exact p
   exact k D H2 p.same n p'.vals
def bt(t:List Nat)(p:Nat):Int:=match t[p]?with
 |some c=>(c:Int)
 |none=> -1
def wJ(h:p<t.length):bt t p=(t[p]:Int):=by unfold bt;rw[aK h]
def sV(h:t.length<=p):bt t p= -1:=by unfold bt;rw[gu h]
def Je(h:p<t.length):UX (iv t) (p:Int)=some (.int<|bt t p):=by
 calc cJ ?_;rw[iv,aH,aK h,wJ h];rfl
def Co(t:List Nat):(iv t).length=t.length:=by rw[iv,ai]
def Sz(K:aJ)(C:List Nat->Nat->Prop)(g:List Nat->Nat->V):Sp:= λS H Q _=>∃(l:O) (t:List Nat) (p:Nat),S=[.ref l,.int p]/\cP K H l (iv t)/\C t p/\Q (g t p) H
def jn(T:Txt K mg a):jM P w K mg base 1 a "byte_at" ["text","place"]<|Sz K (λ_ _=>True) λt p=> .int<|bt t p:=by
 refine T.byte_at.fn.ok So ?_ ?_
 .right
 .ext⟨l,t,p,rfl,hS,_,k⟩;calc⟨_,aF<|bq<|rS (cu yR (J 1) (cy bQ 'r' T.gB bC<|bM<|J 0)<|dh _) (dj ck (J 0) (J 1) λ_ _=>rfl)<|jh (-1) T,?_⟩;simp[Ud];calc⟨_,.inl hS,?_⟩;rw[Co];by_cases z:p<t.length
  .exact .inr ⟨z,_,hS,_,Je z,k⟩
  .calc .inl ⟨'o',?_⟩;have k:Q (.int<|bt t p) H:=k;rw[sV 'o']at k;exact k
noncomputable def jz(t:List Nat)(p:Nat):Nat:=p+((t.drop p).takeWhile (· !=10)).length
theorem uX(h:p<t.length)(n:t[p]≠10):jz t p=jz t (p+1):=by
 unfold jz;rw[bx h,iY,aG<|~~~n,ay]
 lia
def Ym(h:p<t.length)(n:t[p]=10):jz t p=p:=by
 unfold jz;rw[bx h,iY,az<|~~~n];rfl
def aaM(h:t.length<=p):jz t p=p:=by
 unfold jz;rw[gU h];rfl
def Yl(h:p<=t.length):jz t p<=t.length:=by
 unfold jz;have:=(pO (p:=(· !=10)) (l:=t.drop p)).length_le;rw[bN]at this;omega
def J6(t:List Nat)(p:Nat):p<=jz t p:=HG _ _
def NN(c:Nat):Bool:=c==32||c==9||c==10
noncomputable def kJ(t:List Nat)(p:Nat):Nat:=if h:p<t.length then(if NN t[p]=true then kJ t (p+1)else if t[p]=35 then kJ t (jz t<|p+1)else p)else p
termination_by t.length-p
decreasing_by
 .omega
 .have:=J6 t<|p+1;omega
def acq(K:aJ):Sp:=Sz K (λt p=>p<=t.length) λt p=> .int (jz t p)
theorem JO(T:Txt K mg a):jM P w K mg base 1 a "skip_remark" ["text","place"]<|acq K:=by
 refine T.GU.fn.ok zO ?_ ?_
 .right
 .ext⟨l,t,p,rfl,hS,hp,k⟩;have k:Q (.int<|jz t p) H:=k;calc⟨_,aj (iV dN (Cy (cu yR (J 1) (cy bQ 'r' T.gB bC<|bM<|J 0)<|dh _)<|An<|cu T4 (dj ck (J 0) (J 1) λ_ _=>rfl) (jh 10 T)<|dh _).pt<|aF<|yU (i:=1) zO.nd Y (ji Y) bR yx)<|aF<|bq<|J 1,?_⟩;calc oH t.length (λq Z U=>Z=[some<|.ref l,some<|.int q]/\U=H/\jz t q=jz t p) p hp ⟨Y,Y,Y⟩ ?_;rintro q Z U hq ⟨rfl,rfl,e⟩;simp[Ud];calc⟨_,.inl hS,?_⟩;rw[Co];by_cases z:q<t.length
  .calc .inr ⟨z,_,hS,_,Je z,Y,?_⟩;rw[wJ z];by_cases z2:t[q]=10
   .calc .inl ⟨by rw[z2];rfl,kK Y ?_⟩;rw[Ym z z2]at e;simp;rw[e];exact k
   .calc .inr ⟨by simp;lia,oG Y hq ?_⟩;rw[uX z z2]at e;simp;exact⟨q+1,'l','l','l',e⟩
  .calc .inl ⟨'l',kK Y ?_⟩;rw[aaM 'l']at e;simp;rw[e];exact k
def HU(h:p<t.length)(b:NN t[p]=true):kJ t p=kJ t (p+1):=by
 rw[kJ,dif_pos h,aG b]
def Nn(h:p<t.length)(b:t[p]=35):kJ t p=kJ t (jz t p):=by
 rw[kJ,dif_pos h,az<|by rw[b];decide,aG b,uX h<|by rw[b];decide]
def Nq(h:p<t.length)(b:NN t[p]=false)(c:t[p]≠35):kJ t p=p:=by
 rw[kJ,dif_pos h,az<|by rw[b];decide,az c]
theorem Cb(h:t.length<=p):kJ t p=p:=by
 rw[kJ,dif_neg 'l']
def Ve(n:Int):Jb (.int n) KP=(n==32||n==9||n==10):=by
 show(QZ (.int 32) (.int n)||(QZ (.int 9) (.int n)||(QZ (.int 10) (.int n)||false)))=_;have f:∀k:Int,QZ (.int k) (.int n)=(n==k):= λk=>by
  show(k==n)=(n==k);exact abq
 rw[f,f,f,mW,abr]
def amI(K:aJ):Sp:=Sz K (λt p=>p<=t.length) λt p=> .int (kJ t p)
theorem yQ(T:Txt K mg a):jM P w K mg base 2 a "skip_blanks" ["text","place"]<|amI K:=by
 refine T.zS.fn.ok sf ?_ ?_
 .right
 .ext⟨l,t,p,rfl,hS,hp,k⟩;have k:Q (.int<|kJ t p) H:=k;calc⟨_,aj (iV dN (Gq (cu pI (c8 T.byte_at (jn T) hr<|aD (J 0)<|bM<|J 1) (pgt T.Wv)<|by with_unfolding_all rfl)<|yX<|cu iU (c8 T.byte_at (jn T) hr<|aD (J 0)<|bM<|J 1) (jh 35 T)<|dh _).pt<|aF<|dZ (cu iU (dj ck (J 0) (J 1) λ_ _=>rfl) (jh 35 T)<|dh _) (aF<|pK (i:=1) sf.nd Y (ji Y)<|c8 T.GU (JO T) hr<|aD (J 0)<|bM<|J 1)<|aF<|yU (i:=1) sf.nd Y (ji Y) bR yx)<|aF<|bq<|J 1,?_⟩;calc oH t.length (λq Z U=>Z=[some<|.ref l,some<|.int q]/\U=H/\kJ t q=kJ t p) p hp ⟨Y,Y,Y⟩ ?_;rintro q Z U hq ⟨rfl,rfl,e⟩;simp[Sz,rIn];calc⟨l,t,q,⟨Y,Y⟩,hS,KP,.inr<|T.Wv.2 U,Y,'d',?_⟩;rw[Ve];by_cases z:q<t.length
  .rw[wJ z];have nv:∀k:Nat,((t[q]:Int)==(k:Int))=(t[q]==k):= λk=>by
    by_cases y:t[q]=k
    .rw[y,fY,fY]
    .rw[bW.mpr y,bW.mpr 'l']
   have bb:((t[q]:Int)==32||(t[q]:Int)==9||(t[q]:Int)==10)=NN t[q]:=by unfold NN;rw[←nv 32,←nv 9,←nv 10];rfl
   rw[bb];by_cases y:NN t[q]=true
   .calc .inr ⟨y,oG Y hq ?_⟩;rw[HU z y]at e;have n35:¬t[q]=35:= λx=>by rw[x]at y;cases y
    simp[Ud];calc⟨_,hS,_,Je z,Y,?_⟩;rw[wJ z];exact .inl ⟨by simp;lia,q+1,'l','l','l',e⟩
   .calc .inl ⟨~~~y,l,t,q,⟨Y,Y⟩,hS,Y,?_⟩;rw[wJ z];by_cases x:t[q]=35
    .calc .inr ⟨'l',oG Y hq ?_⟩;simp[Ud,acq,Sz];calc⟨_,hS,_,Je z,Y,?_⟩;rw[wJ z];have g:=J6 t<|q+1;rw[←uX z (by rw[x];decide)]at g;calc .inr ⟨by rw[x];rfl,l,t,q,⟨Y,Y⟩,hS,hq,jz t q,'l',Yl hq,Y,?_⟩;rw[←Nn z x];exact e
    .calc .inl ⟨'l',kK Y ?_⟩;rw[Nq z (~~~y) x]at e;simp;rw[e];exact k
  .rw[sV 'l'];calc .inl ⟨Y,l,t,q,⟨Y,Y⟩,hS,Y,?_⟩;rw[sV 'l'];calc .inl ⟨'d',kK Y ?_⟩;rw[Cb 'l']at e;simp;rw[e];exact k
inductive At (C:O) (H:Hp) (x:O) (fs:List<|Str×V):Prop
 |mk (dx:_) (k0:H x=some (.ins C dx fs))
def At.same(h:At C H x fs)(s:aN H U):At C U x fs:=let⟨dx,q⟩:=h;⟨dx,s _ _ q⟩
inductive wo (C:O) (names:List Str) (S:List V) (H:Hp) (Q:VK) (rq:XK):Prop
 |mk (p dx:O) (us:List V) (k0:S= .ref p::us) (k1:us.length=names.length) (k2:H p=some (.ins C dx [])) (k3:Q .gQ (upd H p (.ins C dx (names.zip us))))
def ae4(C:O)(names:List Str)(t:TA):TE:= λZ H Q=>t Z H λS L=>S.length=names.length/\∀x H2,aN L H2->L x=none->At C H2 x (names.zip S)->Q (.ref x) H2
inductive RF (C:O) (f:Str) (H:Hp) (Q:VK) (x:V):Prop
 |mk (p:O) (fs:List (Str×V:_)) (v:V) (e:x= .ref p) (h:At C H p fs) (l:fs.lookup f=some v) (k:Q v H)
def tF(C:O)(ta:TE)(f:Str):TE:= λZ H Q=>ta Z H λx L=>RF C f L Q x
@[simp]def aol{names:List Str}{t:TA}:ae4 C names t Z H Q=t Z H λS L=>S.length=names.length/\∀x H2,aN L H2->L x=none->At C H2 x (names.zip S)->Q (.ref x) H2:=rfl
@[simp]def r_f{f:Str}:tF C ta f Z H Q=ta Z H λx L=>∃p fs v,x= .ref p/\At C L p fs/\fs.lookup f=some v/\Q v L:=congrArg (ta Z H) (funext λ_=>funext λ_=>propext ⟨λ⟨p,fs,v,e,h,l,k⟩=>⟨p,fs,v,e,h,l,k⟩,λ⟨p,fs,v,e,h,l,k⟩=>⟨p,fs,v,e,h,l,k⟩⟩)
def oq{C:Str}{st:b5}{fs:List Str}{p pos:Pos}{t:TA}(T:Iw X.K X.mg a C q st ps fs)(atG:nQ X.prog X.w X.K X.mg X.base QX k (a.f q) (a.d q) ps<|wo (a.c C) fs)(hr:ia (k+1) X.A)(ha:PA X (e::es) t) (hg:Gl X C:=by rfl)(ER:(C==("__debug__":Str))=false:=by decide)(he:starEach (e::es) X.env=(false,eval e X.env)::starEach es X.env:=by rfl)(yc:(backTo pos<|starEach es X.env).any (·.1)=false:=by rfl):PE X (.Call (.Name C p) (e::es) [] pos)<|ae4 (a.c C) fs t:=by
 intro aB s Z H Q I h;calc eV<|pQ I hg T.m ?_ ER;calc je (h₀:=X.base) I.ok.mod.kin T.mkr.kp (iz (ha pos aB s Z H _ I h) ?_) he yc;rintro us s1 ⟨S,L,I1,r,len,q⟩;calc⟨I1.Ag,?_⟩;calc DL (E:=E0) T.mkr atG hr T.b .nil Gn I1 r λx dx n1 n2 ne=>?_;rw[cV];calc⟨x,dx,S,Y,len,aq,Y,?_⟩;rw[dS];calc q x _ (λb o z=>?_) n1 ⟨dx,aq⟩;rw[aY<|bg z n1,aY<|bg z n2];exact z
def bE{C:Str}{st:b5}{fs:List Str}{f:Str}{pos:Pos}(T:Iw X.K X.mg a C q st ps fs)(he:PE X e ta)(hf:f∈fs:=by decide)(hb:attributeBase e f X.env (eval e X.env)=eval e X.env:=by rfl):PE X (.Attribute e f pos)<|tF (a.c C) ta f:=by
 intro aB s Z H Q I h;calc S5 hb<|iz (he aB s Z H _ I h) ?_;rintro u s1 ⟨x,L,I1,rx,p,Zf,v,ex,⟨dx,ea⟩,l,q⟩;subst ex;obtain rfl:u=bU p:=rx;exact IU I1 ea T.cl (T.no f hf) l λu' s2 I2 ru=>⟨v,L,I2,ru,q⟩
def t7(C:O)(E:XK)(H:Hp)(c p:Int):Prop:=∀dx U,aN H U->U dx=some (.xd<|ff c p)->E (.ref C) (some dx) U
def t7.same{p:Int}(h:t7 C E H c p)(s:aN H U):t7 C E U c p:= λdx H2 s2 q=>h dx H2 (s.trans s2) q
def t7.at{p:Int}(h:t7 C E H c p):∀dx,H dx=none->E (.ref C) (some dx) (upd H dx<|.xd<|ff c p):= λdx n=>h dx _ (λb o q=>by rw[aY<|bg q n];exact q) aq
def Ak{x:Str}{st:b5}{fd:kM}(F:S4 K x qual st f fd)(atE:aZ N ps<|aO st)(len:∀S H Q E,sp S H Q E->S.length=ps.length) (Dh:∀(fG:aC) (A:gZ) (outer:List Env) (s:aP) (H:Hp) (S:List V) (Q:VK) (E:XK),ia k (A.deeper<|envOfC qual (aO st) s.heap.objs.size f fG)->sp S H Q E->∃t,OR (jF (pU P w C) P w K mg base N qual (aO st) f fG A outer s H E) (qR st) t/\t {nx:= λ_ U=>Q .gQ U,rt:=Q} (L2.start N S) H):nQ P w K mg base (pU P w C) (k+1) f fd ps sp:=by
 let⟨oc,od,kV,doc,pm,an,fG,ct,osl,rfl,lk,Zi⟩:=F.ex;exact abT lk Zi atE len λA outer s H S Q E hr Tq=>Dh fG A outer s H S Q E hr Tq
def eB{A:gZ}{s:aP}{x:Str}{st:b5}{p pos:Pos}{t:TA} (T:jw K mg a x st ps)(atG:nQ P w K mg base (pU P w C) k (a.f x) (a.d x) ps sp)(hr:ia k (jF (pU P w C) P w K mg base N qual scope f cd A outer s H E).A)(ha:PA (jF (pU P w C) P w K mg base N qual scope f cd A outer s H E) (e::es) t) (hg:Gl (jF (pU P w C) P w K mg base N qual scope f cd A outer s H E) x:=by rfl)(ER:(x==("__debug__":Str))=false:=by decide) (he:starEach (e::es) (jF (pU P w C) P w K mg base N qual scope f cd A outer s H E).env=(false,eval e (jF (pU P w C) P w K mg base N qual scope f cd A outer s H E).env)::starEach es (jF (pU P w C) P w K mg base N qual scope f cd A outer s H E).env:=by rfl) (yc:(backTo pos<|starEach es (jF (pU P w C) P w K mg base N qual scope f cd A outer s H E).env).any (·.1)=false:=by rfl):PE (jF (pU P w C) P w K mg base N qual scope f cd A outer s H E) (.Call (.Name x p) (e::es) [] pos)<|vz sp [] E t:=N8 atG hr hg T.m T.fn.kp T.b .nil acf ha ER he yc
def XG(T:Txt K mg a):jM P w K mg base 1 a "Fault.__init__" ["self","code","place"]<|acp<|a.c "Fault":=by
 refine T.akI.ok LH ?_ ?_
 .right
 .ext⟨e,c,p,rfl,he,k⟩;calc⟨_,aj (aer T.U5 (.inl Y) (J 0) (J 1) Y)<|aF<|aes T.U5 (.inr Y) (J 0) (J 2) Y,?_⟩;calc⟨_,Y,_,Y,e,Y,he,λdx n1 n2=>?_⟩;calc⟨_,Y,_,Y,e,dx,"code",c,Y,aq,by rw[aY n2,aq],'d',?_⟩;have e1:upd (upd (upd H dx<|.xd [("code",.int c)]) e<|.ext<|OQ e (a.c "Fault") dx) dx (.xd [("code",.int c),("place",.int p)])=upd (upd H dx<|.xd<|ff c p) e (.ext<|OQ e (a.c "Fault") dx):=by
   funext b;unfold upd;by_cases z:b=dx
   .subst z;rw[aG Y,az n2,aG Y];rfl
   .rw[az z,az z,az z]
  show Q .gQ (upd _ dx _);rw[e1];exact k dx n1 n2
def kr{A:gZ}{s:aP}{np nZ pos:Pos}{e1 e2:Expr}{t:TA}(T:Txt K mg a) (hr:ia 2 (jF (pU P w<|a.c "Fault") P w K mg base N qual scope f cd A outer s H E).A)(ha:PA (jF (pU P w<|a.c "Fault") P w K mg base N qual scope f cd A outer s H E) [e1,e2] t) (hg:Gl (jF (pU P w<|a.c "Fault") P w K mg base N qual scope f cd A outer s H E) "Fault":=by rfl) (he:starEach [e1,e2] (jF (pU P w<|a.c "Fault") P w K mg base N qual scope f cd A outer s H E).env=(false,eval e1 (jF (pU P w<|a.c "Fault") P w K mg base N qual scope f cd A outer s H E).env)::starEach [e2] (jF (pU P w<|a.c "Fault") P w K mg base N qual scope f cd A outer s H E).env:=by rfl) (yc:(backTo nZ<|starEach [e2] (jF (pU P w<|a.c "Fault") P w K mg base N qual scope f cd A outer s H E).env).any (·.1)=false:=by rfl):PS (jF (pU P w<|a.c "Fault") P w K mg base N qual scope f cd A outer s H E) (.Raise (some<|.Call (.Name "Fault" np) [e1,e2] [] nZ) none pos)<|J8 (a.c "Fault") E t:=Vw aiu T.U5 (XG T) hr hg T.adk T.akH ha 'd' he yc
def yN(T:Txt K mg a):jM P w K mg base 1 a "Token.__init__" ["self","kind","value","place","past"]<|wo (a.c "Token") ["kind","value","place","past"]:=by
 refine T.Token.fn.ok LK ?_ ?_
 .rintro _ _ _ _ ⟨p,dx,us,rfl,l,_⟩;simp[l]
 .ext⟨p,dx,us,rfl,l,hp,k⟩;revert hp k;calc tV l ?_;intro v1 v2 v3 v4 hp k;have C:=T.Token;calc⟨_,aj (dP (J 0) (J 1) Y)<|aj (dP (J 0) (J 2) Y)<|aj (dP (J 0) (J 3) Y)<|aF<|dP (J 0) (J 4) Y,?_⟩;calc⟨_,Y,_,Y,p,_,dx,_,Y,hp,C.cl,C.nO,'d',_,Y,_,Y,p,_,dx,_,Y,aq,C.cl,C.nO,vv 1,_,Y,_,Y,p,_,dx,_,Y,aq,C.cl,C.nO,vv 2,_,Y,_,Y,p,_,dx,_,Y,aq,C.cl,C.nO,vv 3,?_⟩;rw[dS,dS,dS];exact k
def lU(f:Nat->Bool)(t:List Nat)(p:Nat):Nat:=p+((t.drop p).takeWhile f).length
section
variable{f:Nat->Bool}
theorem Ij(h:p<t.length)(n:f t[p]=true):lU f t p=lU f t (p+1):=by
 unfold lU;rw[bx h,iY,aG n,ay]
 lia
def Uw(h:p<t.length)(n:f t[p]=false):lU f t p=p:=by
 unfold lU;rw[bx h,iY,az<|by rw[n];decide];rfl
def YR(h:t.length<=p):lU f t p=p:=by
 unfold lU;rw[gU h];rfl
def aiZ:p<=lU f t p:=HG _ _
def abl:(t.drop p).take (lU f t p-p)=(t.drop p).takeWhile f:=by
 unfold lU;rw[nU];exact(OJ.mp<|pO f).symm
end
def RU{α:Type}{f:α->Bool}:∀{l:List α} {x:α},x∈l.takeWhile f->f x=true
 |[],x,h=>by simp at h
 |y::r,x,h=>by
  rw[iY]at h;by_cases z:f y=true
  .rw[aG z]at h;rcases aX.mp h with rfl|h
   .exact z
   .exact RU h
  .rw[az z]at h;simp at h
def ld(c:Nat):Bool:=Wd (c:Int)||yd (c:Int)
def dg(c:Nat):Bool:=yd (c:Int)
def Xd:Wd (-1)=false/\yd (-1)=false:='d'
def nb(b:List UInt8):List Nat:=b.map G6
def gP(b:List UInt8):(nb b).length=b.length:=ai ..
def Dq(b:List UInt8)(p:Nat):nb (b.drop p)=(nb b).drop p:=uA ..
def Jt{c:List UInt8}(h:nb b=nb c):b=c:=(UE λx y e=>g8.mp e).mp h
def Xv(f:Nat->Bool)(g:UInt8->Bool)(h:∀c,f c.toNat=g c)(b:List UInt8):(nb b).takeWhile f=nb (b.takeWhile g):=by
 unfold nb;rw[List.takeWhile_map];congr 1;congr 1;funext c;exact h c
def yy(c:UInt8):yd (c.toNat:Int)=bO c:=by
 unfold yd bO;rw[cK,bI,aU,aU,aU];omega
def PM(c:UInt8):Wd (c.toNat:Int)=dR c:=by
 unfold Wd isG isS dR;rw[cK,nj,nj,bI,bI,aU,aU,aU,aU,aU,aU];omega
def TJ(c:UInt8):ld c.toNat=(dR c||bO c):=by unfold ld;rw[PM,yy]
def Ow{b c:List Nat}(h:sw b=sw c):b=c:=by
 have:=congrArg TL.tl h;exact this
def WK{q:Nat}(G:p<=q)(h2:q<=t.length):uO (iv t) (some (p:Int)) (some (q:Int))=iv ((t.drop p).take (q-p)):=by
 unfold uO;rw[Co,HT.oz,HT.oz,iW h2,iW<|bH G h2];unfold iv;rw[←uA,←qh]
def oB(c:Nat):Str:=if c=1 then "->"else if c=2 then "<-"else ch c
noncomputable def kindOf:eF->Str
 | .name b=>if dH.contains b=true then "fixed"else "name"
 | .num _=>"number"
 | .text _=>"quoted"
 | .sign _=>"fixed"
 | .halt_=>"ending"
def valOf:eF->V
 | .name b=> .str (sw<|nb b)
 | .num n=> .int n
 | .text _=> .str ""
 | .sign c=> .str (oB c)
 | .halt_=> .str ""
def qC(a:g9)(H:Hp)(x:O)(k:eF)(p q:Nat):Prop:=At (a.c "Token") H x [("kind",.str<|kindOf k),("value",valOf k),("place",.int (p:Int)),("past",.int (q:Int))]
def aeA:wz=dH.map λb=>V.str<|sw<|nb b:='d'
def adO(b:List UInt8):Jb (.str<|sw<|nb b) wz=dH.contains b:=by
 rw[aeA];unfold Jb;rw[Ez];rw[cK,G1,gr];constructor
 .rintro ⟨c,hc,e⟩;have e:(sw (nb c)==sw (nb b))=true:=e;have e2:=Jt<|Ow<|eq_of_beq e;rw[←e2];exact hc
 .intro h;calc⟨b,h,?_⟩;show(sw (nb b)==sw (nb b))=true;exact fY _
inductive SA (K:aJ) (a:g9) (C:List UInt8->Nat->Prop) (r:List UInt8->Nat->Option (eF×Nat)) (S:List V) (H:Hp) (Q:VK) (E:XK):Prop
 |mk (l:O) (b:List UInt8) (p:Nat) (k0:S=[.ref l,.int p]) (k1:cP K H l (iv (nb b))) (k2:b.length<=4096) (k3:p<b.length) (k4:C b p) (k5:(match r b p with
 |some (k,n)=>∀x U,aN H U->qC a U x k p (p+n)->Q (.ref x) U
 |none=>t7 (a.c "Fault") E H 2 p))
noncomputable def Oe(b:List UInt8)(p:Nat):Option<|eF×Nat:=let w:=(b.drop p).takeWhile λc=>dR c||bO c
 if 16<w.length then none else some (.name w,w.length)
theorem NY(T:Txt K mg a):yb P w K mg base 5 a "read_name" ["text","place"]<|SA K a (λ_ _=>True) Oe:=by
 refine Ak T.MG.fn qZ ?_ ?_
 .right
 .ext⟨l,b,p,rfl,hS,hb,hp,_,k⟩;have EU:ia 1 _:=hr.mono 'd';have kZ:ia 2 _:=hr.mono 'd';have Wa:ia 4 _:=hr;calc⟨_,aj (pK (i:=2) qZ.nd Y (ji Y)<|J 1)<|aj (iV dG (Gq (fX<|c8 T.EV (Dv T) kZ<|bM<|c8 T.byte_at (jn T) EU<|aD (J 0)<|bM<|J 2)<|yX<|fX<|c8 T.rM (nG T) EU<|bM<|c8 T.byte_at (jn T) EU<|aD (J 0)<|bM<|J 2).pt<|aF<|yU (i:=2) qZ.nd Y (ji Y) bR yx)<|aj (dZ (cu Gj (fZ yS (J 2)<|J 1) (jh 16 T)<|dh _) (aF<|kr T kZ<|aD (jh 2 T)<|bM<|J 1) b9)<|aj (pK (i:=3) qZ.nd Y (ji Y)<|c8 T.Uz (Sb T) Wa<|bM<|p5 wm (J 0) (mU<|J 1)<|mU<|J 2)<|aF<|bq<|oq T.Token (yN T) kZ<|aD (rS (cu pI (J 3) (pgt T.RESERVED)<|by with_unfolding_all rfl) (CY "fixed" T)<|CY "name" T)<|aD (J 3)<|aD (J 1)<|bM<|J 2,?_⟩;simp;have e0:(b.drop p).takeWhile (λc=>dR c||bO c)=(b.drop p).take (lU ld (nb b) p-p)/\((b.drop p).takeWhile (λc=>dR c||bO c)).length=lU ld (nb b) p-p:=by
   have G:=Xv ld _ TJ<|b.drop p;have h2:((b.drop p).takeWhile (λc=>dR c||bO c)).length=lU ld (nb b) p-p:=by
    rw[←gP,←G,Dq];unfold lU
    lia
   exact⟨by rw[←h2];exact OJ.mp<|pO _,h2⟩
  calc oH (nb b).length (λq Z U=>Z=[some<|.ref l,some<|.int p,some<|.int q,none]/\U=H/\lU ld (nb b) q=lU ld (nb b) p/\p<=q) p (by rw[gP];lia) ⟨Y,Y,Y,aT _⟩ ?_;rintro q Z U hq ⟨rfl,rfl,e,hpq⟩;have fin:lU ld (nb b) q=q->Qz (YI (KO<|Ox (Uc λi j=>V.bl<|decide<|j<i) (Ox (Uc λi j=>V.int<|i-j) (gF 2)<|gF 1)<|tC<|V.int 16) (J8 (a.c "Fault") E<|gf (tC<|V.int 2)<|gf (gF 1) m9) Qw) (Qz (CL (vz (SD K) [] E0<|gf (tSl (aex K) (gF 0) (Qx<|gF 1)<|Qx<|gF 2) m9)<|ic 3)<|Qy<|ae4 (a.c "Token") ["kind","value","place","past"]<|gf (tIf (KO<|Ox (rIn K false) (gF 3)<|tC<|V.ref<|a.c "RESERVED") (tC<|V.str "fixed")<|tC<|V.str "name")<|gf (gF 3)<|gf (gF 1)<|gf (gF 2) m9) {nx:= λx U=>Q V.gQ U,rt:=Q} [some<|.ref l,some<|.int p,some<|.int q,none] U:=by
   intro z;rw[z]at e;rw[←e]at e0;unfold Oe at k;simp only[e0.2]at k;simp[tSl,Qx,aex,SD,rIn];by_cases big:16<q-p
   .rw[aG big]at k;exact .inr ⟨'l',_,_,⟨Y,Y⟩,k.at⟩
   .rw[az big]at k;calc .inl ⟨'l',_,hS,λD nD=>?_⟩;rw[WK hpq hq,←Dq,show(nb<|b.drop p).take (q-p)=nb ((b.drop p).take (q-p))from(qh ..).symm,←e0.1];refine⟨_,cP.of aq,by rw[gP,e0.2];lia,λc hc=>?_,λH2 s2=>?_⟩
    .let⟨d,hd,rfl⟩:=b6.mp hc;have:=RU hd;rw[←TJ]at this;unfold ld at this;simpa using this
    .have s3:aN U H2:= λx o q1=>s2 x o (by rw[aY<|bg q1 nD];exact q1);calc⟨wz,.inr<|T.RESERVED.2 _,Y,'d',?_⟩;rw[adO];have fk:∀x H3,aN H2 H3->At (a.c "Token") H3 x [("kind",.str<|if dH.contains ((b.drop p).takeWhile λc=>dR c||bO c)=true then "fixed"else "name"),("value",.str<|sw<|nb<|(b.drop p).takeWhile λc=>dR c||bO c),("place",.int (p:Int)),("past",.int (q:Int))]->Q (.ref x) H3:= λx H3 s4 L8=>by
      calc k x H3 (s3.trans s4) ?_;unfold qC;rw[show p+(q-p)=q by lia];exact L8
     by_cases rs:dH.contains ((b.drop p).takeWhile λc=>dR c||bO c)=true
     .rw[aG rs]at fk;exact .inr ⟨rs,λx H3 s4 _ L8=>fk x H3 s4 L8⟩
     .rw[az rs]at fk;exact .inl ⟨~~~rs,λx H3 s4 _ L8=>fk x H3 s4 L8⟩
  simp[Sz,sp1];calc⟨l,nb b,q,⟨Y,Y⟩,hS,?_⟩;by_cases z:q<(nb b).length
  .rw[wJ z];by_cases y:Wd ((nb b)[q]:Int)=true
   .calc .inr ⟨y,oG Y hq ?_⟩;rw[Ij z<|by unfold ld;rw[y];rfl]at e;simp;exact⟨q+1,'l','l','l',e,'l'⟩
   .calc .inl ⟨~~~y,l,nb b,q,⟨Y,Y⟩,hS,?_⟩;rw[wJ z];by_cases x:yd ((nb b)[q]:Int)=true
    .calc .inr ⟨x,oG Y hq ?_⟩;rw[Ij z<|by unfold ld;rw[x];exact OU _]at e;simp;exact⟨q+1,'l','l','l',e,'l'⟩
    .calc .inl ⟨~~~x,kK Y<|fin<|Uw z ?_⟩;unfold ld;simp[y,x]
  .rw[sV 'l'];calc .inl ⟨Xd.1,l,nb b,q,⟨Y,Y⟩,hS,?_⟩;rw[sV 'l'];exact .inl ⟨Xd.2,kK Y<|fin<|YR 'l'⟩
noncomputable def dec(t:List Nat):Int:=t.foldl (λ(v:Int) (c:Nat)=>v*10+(c:Int)-48) 0
def take_snoc{l:List α}{x:α}(h:l[i]? =some x):l.take (i+1)=l.take i++[x]:=by
 rw[List.take_add_one,h];rfl
def WR(t:List Nat)(c:Nat):dec (t++[c])=dec t*10+(c:Int)-48:=by
 unfold dec;rw[V1];rfl
def Nh(t:List Nat):Prop:=∀c∈t,48<=c/\c<=57
theorem U4:∀{t:List Nat},Nh t->0<=dec t/\dec t<10^t.length:=by
 intro t h;have key:∀(r:List Nat) (v:Int) (k:Nat),Nh r->0<=v->v<10^k->0<=r.foldl (λ(v:Int) (c:Nat)=>v*10+(c:Int)-48) v/\r.foldl (λ(v:Int) (c:Nat)=>v*10+(c:Int)-48) v<10^(k+r.length):=by
  intro r;induction r with
  |nil=>intro v k _ G h2;exact⟨G,h2⟩
  |cons c r ih=>
   intro v k h G h2;have hc:=h c bz;have:=ih (v*10+(c:Int)-48) (k+1) (λx hx=>h x<|aV _ hx) 'l' (by rw[Int.pow_succ];lia);rw[List.foldl_cons,ay,show k+(r.length+1)=k+1+r.length by lia];exact this
 have:=key t 0 0 h (Int.le_refl 0) 'd';rw[sy]at this;exact this
def Pc:∀(b:List UInt8),Nh (nb b)->dec (nb b)=(nB b:Int):=by
 intro b h;unfold dec nB;have key:∀(r:List UInt8) (v:Int) (n:Nat),Nh (nb r)->v=(n:Int)->(nb r).foldl (λ(v:Int) (c:Nat)=>v*10+(c:Int)-48) v=((r.foldl (λn b=>10*n+(b.toNat-48)) n:Nat):Int):=by
  intro r;induction r with
  |nil=>intro v n _ e;exact e
  |cons c r ih=>
   intro v n h e;have hc:=h c.toNat bz;show(nb r).foldl _ (v*10+(c.toNat:Int)-48)=_;exact ih _ _ (λx hx=>h x<|aV _ hx) (by show _=((10*n+(c.toNat-48):Nat):Int);omega)
 exact key b 0 0 h Y
inductive aiD (K:aJ) (S:List V) (H:Hp) (Q:VK) (rq:XK):Prop
 |mk (l:O) (t:List Nat) (k0:S=[.ref l]) (k1:cP K H l (iv t)) (k2:t.length<=10) (k3:Nh t) (k4:Q (.int (dec t)) H)
theorem NW(T:Txt K mg a):jM P w K mg base 1 a "number_of" ["digits"]<|aiD K:=by
 refine T.My.fn.ok qY ?_ ?_
 .right
 .ext⟨l,t,rfl,hS,ht,hd,k⟩;calc⟨_,aj (pK (i:=1) qY.nd Y (ji Y) bR)<|aj (lS dN Y (gc<|J 0) (wk (i:=2) qY.nd Y<|ji Y)<|aF<|pK (i:=1) qY.nd Y (ji Y)<|fZ yS (fZ om (fZ aej (J 1) bR)<|J 2)<|jh 48 T)<|aF<|bq<|J 1,?_⟩;refine⟨_,Y,l,Y,⟨_,hS⟩,mL (K:=K) (a:=l) (xs:=iv t) (λi Z U=>∃v:Option V,Z=[some<|.ref l,some<|.int<|dec<|t.take i,v]/\U=H) ⟨none,Y,Y⟩ (λi Z U _ ⟨_,_,e⟩=>by rw[e];exact hS) ?_ ?_⟩
  .rintro i y Z U hi ⟨v,rfl,rfl⟩;rw[iv,aH]at hi;cases q:t[i]?with
   |none=>rw[q]at hi;cases hi
   |some c=>
    rw[q]at hi;obtain rfl:V.int (c:Int)=y:=aL hi;have bd:=U4 (t:=t.take i) λx hx=>hd x<|List.mem_of_mem_take hx;have:(10:Int)^(t.take i).length<=10^10:=by
     have hl:(t.take i).length<=10:=by rw[dW];lia
     exact_mod_cast SR (by decide:0<10) hl
    have e:=WR (t.take i) c;rw[←take_snoc q]at e;simp;calc⟨.inl ⟨'l','l'⟩,?_⟩;rw[e]
  .rintro Z U ⟨v,rfl,rfl⟩;rw[Co,iC];exact⟨_,Y,k⟩
theorem ZT{c:Nat}{r:List Nat}(h:Nh<|c::r)(n:c≠48):0<dec (c::r):=by
 have key:∀(r:List Nat) (v:Int),Nh r->0<v->0<r.foldl (λ(v:Int) (c:Nat)=>v*10+(c:Int)-48) v:=by
  intro r;induction r with
  |nil=>intro v _ h;exact h
  |cons c r ih=>
   intro v h G;have hc:=h c bz;exact ih _ (λx hx=>h x<|aV _ hx) (by show 0<v*10+(c:Int)-48;lia)
 have hc:=h c bz;exact key r (0*10+(c:Int)-48) (λx hx=>h x<|aV _ hx) 'l'
def ZU(c:UInt8):dg c.toNat=bO c:=yy c
noncomputable def J4(m:Bool)(b:List UInt8)(p:Nat):Option<|eF×Nat:=(kC m<|(b.drop p).takeWhile bO).map λn=>(.num n,((b.drop p).takeWhile bO).length+(if m=true then 1 else 0))
def ako(b:List UInt8)(p:Nat):Prop:=(bt (nb b) p=45/\yd (bt (nb b)<|p+1)=true)∨yd (bt (nb b) p)=true
noncomputable def uW(b:List UInt8)(p:Nat):Option<|eF×Nat:=if bt (nb b) p=45 then J4 true b (p+1)else J4 false b p
theorem XA{m:Bool}{l:List UInt8}(hd:Nh<|nb l)(ne:l≠[]):kC m l=if(bt (nb l) 0=48/\(m=true∨1<l.length))∨10<l.length then none else if 1000000000<dec (nb l)then none else some (if m=true then-(dec<|nb l)else dec (nb l)):=by
 obtain⟨c,r,rfl⟩:∃c r,l=c::r:=by
  cases l with
  |nil=>exact absurd Y ne
  |cons c r=>exact⟨c,r,Y⟩
 have h0:bt (nb<|c::r) 0=(c.toNat:Int):=rfl;have hh:((c::r).head?=some 48)↔c.toNat=48:=by
  constructor
  .intro z;have:c=48:=aL z;rw[this];rfl
  .intro z;have:c=48:=g8.mp z;rw[this];rfl
 rw[h0,Pc _ hd];unfold kC Y9;simp only[hh];have dz:nB (c::r)=0->c.toNat=48:= λz=>by
  by_cases n:c.toNat=48
  .exact n
  .have:=ZT (c:=c.toNat) (r:=nb r) hd n;have e:=Pc _ hd;rw[show nb (c::r)=c.toNat::nb r from Y]at e;rw[e,z]at this;exact absurd this 'd'
 have d1:c.toNat=48->r=[]->nB (c::r)=0:= λz e=>by
  rw[e];show 10*0+(c.toNat-48)=0
  lia
 have rl:r=[]∨1<(c::r).length:=by
  cases r with
  |nil=>exact .inl Y
  |cons _ _=>exact .inr (by rw[ay,ay];lia)
 generalize nB (c::r)=d at*;generalize (c::r).length=n at*;by_cases a1:10<n
 .rw[aG<|.inr<|.inl a1,aG<|.inr a1]
 by_cases a2:1<n/\c.toNat=48
 .rw[aG<|.inr<|.inr a2,aG<|.inl ⟨'l',.inr a2.1⟩]
 rw[az<|by simp only[reduceCtorEq,false_or];exactλz=>z.elim a1 a2];by_cases a3:c.toNat=48/\m=true
 .rw[aG<|.inr ⟨a3.2,d1 a3.1<|rl.elim id λz=>absurd ⟨z,a3.1⟩ a2⟩,aG<|.inl ⟨'l',.inl a3.2⟩]
 rw[az (c:=((c.toNat:Int)=48/\(m=true∨1<n))∨10<n) (by
  rintro (⟨z1,z2|z2⟩|z)
  .exact a3 ⟨'l',z2⟩
  .exact a2 ⟨z2,'l'⟩
  .exact a1 z)]
 by_cases a4:1000000000<d
 .rw[aG<|.inl a4,aG 'l']
 .rw[az (by
   rintro (z|⟨z1,z2⟩)
   .exact a4 z
   .exact a3 ⟨dz z2,z1⟩),az<|show¬(1000000000:Int)<(d:Int)by lia]
theorem JK(T:Txt K mg a):yb P w K mg base 3 a "read_number" ["text","place"]<|SA K a ako uW:=by
 refine Ak T.Gv.fn zK ?_ ?_
 .right
 .ext⟨l,b,p,rfl,hS,hb,hp,hC,k⟩;have EU:ia 1 _:=hr.mono 'd';have kZ:ia 2 _:=hr;have nd:=zK.nd;calc⟨_,aj (iy 2 nd<|pR iU (dj ck (J 0) (J 1) λ_ _=>rfl) (jh 45 T)<|dh _)<|aj (iy 3 nd<|rS (fX<|J 2) (fZ om (J 1) bR)<|J 1)<|aj (iy 4 nd<|J 3)<|aj (iV dG (fX<|c8 T.rM (nG T) EU<|bM<|c8 T.byte_at (jn T) EU<|aD (J 0)<|bM<|J 4)<|aF<|yU (i:=4) nd Y (ji Y) bR yx)<|aj (iy 5 nd<|fZ yS (J 4)<|J 3)<|aj (iy 6 nd<|XN (pR iU (dj ck (J 0) (J 3) λ_ _=>rfl) (jh 48 T)<|dh _)<|JU<|XR (J 2)<|JU<|pR Gj (J 5) bR<|dh _)<|aj (dZ (Gq (fX<|J 6)<|yX<|cu Gj (J 5) (jh 10 T)<|dh _).pt (aF<|kr T kZ<|aD (jh 2 T)<|bM<|J 1) b9)<|aj (iy 7 nd<|c8 T.My (NW T) EU<|bM<|p5 wm (J 0) (mU<|J 3)<|mU<|J 4)<|aj (dZ (cu Gj (J 7) (jh 1000000000 T)<|dh _) (aF<|kr T kZ<|aD (jh 2 T)<|bM<|J 1) b9)<|aF<|bq<|oq T.Token (yN T) kZ<|aD (CY "number" T)<|aD (rS (fX<|J 2) (aij ae8<|J 7)<|J 7)<|aD (J 1)<|bM<|J 4,?_⟩;obtain⟨m,f,hm,hf,hfd,hft,k⟩:∃(m:Bool) (f:Nat),decide (bt (nb b) p=45)=m/\f=(if m=true then p+1 else p)/\yd (bt (nb b) f)=true/\f<(nb b).length/\(match J4 m b f with
    |some (k,n)=>∀x U,aN H U->qC a U x k p (p+n)->Q (.ref x) U
    |none=>t7 (a.c "Fault") E H 2 p):=by
   have lt:∀q,yd (bt (nb b) q)=true->q<(nb b).length:= λq z=>by
    by_cases y:q<(nb b).length
    .exact y
    .rw[sV 'l']at z;cases z
   unfold uW at k;by_cases z:bt (nb b) p=45
   .rw[aG z]at k;have d1:yd (bt (nb b)<|p+1)=true:=by
     rcases hC with hC|hC
     .exact hC.2
     .rw[z]at hC;cases hC
    exact⟨true,p+1,aR z,Y,d1,lt _ d1,k⟩
   .rw[az z]at k;have d1:yd (bt (nb b) p)=true:=hC.elim (λy=>absurd y.1 z) id;exact⟨false,p,bB z,Y,d1,lt _ d1,k⟩
  have hp':p<(nb b).length:=by rw[gP];exact hp
  have hle:p<=f:=by rw[hf];split<;>lia
  calc⟨_,Y,_,Y,l,_,_,_,Y,Y,hS,Je hp',Y,?_⟩;have hv:decide (V.int (bt (nb b) p)=V.int 45)=m:=by rw[←hm];simp
  rw[hv];have start:∀R:L2.St->Hp->Prop,R [some<|.ref l,some<|.int p,some<|.bl m,some<|.int f,some<|.int f,none,none,none] H->CL (tIf (tB<|gF 2) (Ox (Uc λi j=>V.int<|i+j) (gF 1)<|tC<|V.int 1)<|gF 1) (ic 3) {nx:=CL (gF 3) (ic 4) {nx:=R,rt:=Q},rt:=Q} [some<|.ref l,some<|.int p,some<|.bl m,none,none,none,none,none] H:= λR r=>by
   simp;cases m with
   |true=>exact .inr ⟨Y,by rw[hf]at r;exact r⟩
   |false=>exact .inl ⟨Y,by rw[hf]at r;exact r⟩
  calc start _ ?_;calc oH (nb b).length (λq Z U=>Z=[some<|.ref l,some<|.int p,some<|.bl m,some<|.int f,some<|.int q,none,none,none]/\U=H/\lU dg (nb b) q=lU dg (nb b) f/\f<=q) f 'l' ⟨Y,Y,Y,aT _⟩ ?_;rintro q Z U hq ⟨rfl,rfl,e,hfq⟩;have step:∀(z:q<(nb b).length),yd ((nb b)[q]:Int)=true->∃j',q<j'/\j'<=(nb b).length/\((q:Int)+1=(j':Int)/\lU dg (nb b) j'=lU dg (nb b) f/\f<=j'):= λz y=>by
   rw[Ij z y]at e;exact⟨q+1,'l','l','l',e,'l'⟩
  simp[Sz,sp1];calc⟨l,nb b,q,⟨Y,Y⟩,hS,?_⟩;by_cases z:q<(nb b).length/\yd (bt (nb b) q)=true
  .calc .inr ⟨z.2,oG Y hq ?_⟩;have y:=z.2;rw[wJ z.1]at y;simp;exact step z.1 y
  .have z0:yd (bt (nb b) q)=false/\lU dg (nb b) q=q:=by
    by_cases y:q<(nb b).length
    .have x:yd (bt (nb b) q)=false:=by
      cases h:yd (bt (nb b) q)with
      |false=>rfl
      |true=>exact absurd ⟨y,h⟩ z
     calc⟨x,Uw y ?_⟩;rw[wJ y]at x;exact x
    .calc⟨?_,YR 'l'⟩;rw[sV 'l'];rfl
   calc .inl ⟨z0.1,kK Y ?_⟩;rw[z0.2]at e;generalize eds:(b.drop f).takeWhile bO=ds at*;have n1:nb ds=((nb b).drop f).takeWhile dg:=by rw[←eds,←Dq,Xv dg _ ZU]
   have n2:nb ds=((nb b).drop f).take (q-f):=by rw[n1,e,abl]
   have len:ds.length=q-f:=by rw[←gP,n1,e];unfold lU;lia
   have pos:f<q:=by
    rw[e,Ij hft<|by rw[wJ hft]at hfd;exact hfd];exact aiZ
   have ne:ds≠[]:= λy=>by rw[y]at len;simp at len;lia
   have all:Nh<|nb ds:= λc hc=>by
    rw[n1]at hc;have:=RU hc;unfold dg yd at this;rw[bI,aU,aU]at this
    lia
   have b0:bt (nb ds) 0=bt (nb b) f:=by
    unfold bt;rw[n2,M6 'l',sH];rfl
   unfold J4 at k;rw[eds,XA all ne,b0,len]at k;calc⟨_,Y,_,Y,_,_,Y,Y,?_⟩;generalize Pn:(decide (bt (nb b) f=48)&&(m||decide (1<q-f)))=nl at*;have need:∀R:VK,R (.bl nl) U->YF (Ox rEq (Ox (aaK K) (gF 0)<|gF 3)<|tC<|V.int 48) (ae5 (gF 2)<|Ox (Uc λi j=>V.bl<|decide<|j<i) (gF 5)<|tC<|V.int 1) [some<|.ref l,some<|.int p,some<|.bl m,some<|.int f,some<|.int q,some<|.int<|(q:Int)-(f:Int),none,none] U R:= λR r=>by
    calc⟨_,Y,_,Y,⟨_,_,_,_,Y,Y,hS,Je hft,Y,decide<|bt (nb b) f=48,'s',?_⟩⟩;cases G:decide (bt (nb b) f=48)with
    |false=>
     rw[G,Ay]at Pn;rw[←Pn]at r;exact r
    |true=>
     rw[G,CO]at Pn;calc⟨_,Y,m,Y,?_⟩;cases h2:m with
     |true=>
      rw[h2,xF]at Pn;rw[←Pn]at r;exact r
     |false=>
      rw[h2,mV]at Pn;calc⟨_,Y,_,_,Y,Y,?_⟩;rw[←Pn]at r;have e3:decide ((1:Int)<(q:Int)-(f:Int))=decide (1<q-f):=by
       rw[cK,aU,aU]
       lia
      show R (.bl<|decide<|(1:Int)<(q:Int)-(f:Int)) U;rw[e3];exact r
   calc need _ ?_;have cnd:((bt (nb b) f=48/\(m=true∨1<q-f))∨10<q-f)↔(nl=true∨10<q-f):=by
    rw[←Pn,bI,nj,aU,aU]
   simp only[cnd]at k;by_cases bad:nl=true∨10<q-f
   .rw[aG bad]at k;have k:t7 (a.c "Fault") E U 2 p:=k;calc⟨_,Y,nl,Y,?_⟩;have rs:J8 (a.c "Fault") E (gf (tC<|V.int 2)<|gf (gF 1) m9) {nx:= λ_ _=>False,rt:=Q} [some<|.ref l,some<|.int p,some<|.bl m,some<|.int f,some<|.int q,some<|.int<|(q:Int)-(f:Int),some<|.bl nl,none] U:=⟨_,Y,_,_,Y,k.at⟩;cases G:nl with
    |true=>rw[G]at rs;exact rs
    |false=>
     rw[G]at bad;have b2:10<q-f:=bad.elim (λy=>dU y) id;rw[G]at rs;calc⟨_,Y,_,_,Y,Y,_,Y,?_⟩;show(if decide ((10:Int)<(q:Int)-(f:Int))=true then _ else _);rw[aG<|aR 'l'];exact rs
   .rw[az bad]at k;have n1':nl=false:=by
     cases h:nl with
     |false=>rfl
     |true=>exact absurd (.inl h) bad
    have b2:¬10<q-f:= λy=>bad<|.inr y;calc⟨_,Y,nl,Y,?_⟩;rw[n1'];calc⟨_,Y,_,_,Y,Y,_,Y,?_⟩;show(if decide ((10:Int)<(q:Int)-(f:Int))=true then _ else _);rw[az<|by rw[bB 'l'];decide];calc⟨_,Y,_,Y,_,Y,_,Y,_,Y,l,_,Y,hS,λD nD=>?_⟩;rw[WK hfq hq,←n2];have s2:aN U<|upd U D<|.lst<|iv<|nb ds:= λx o q1=>by rw[aY<|bg q1 nD];exact q1
    calc⟨D,nb ds,Y,cP.of aq,by rw[gP,len];lia,all,?_⟩;calc⟨_,Y,_,_,Y,Y,_,Y,?_⟩;show(if decide ((1000000000:Int)<dec (nb ds))=true then _ else _);by_cases y:1000000000<dec (nb ds)
    .rw[aG y]at k;have k:t7 (a.c "Fault") E U 2 p:=k;rw[aG<|aR y];exact⟨_,Y,_,_,Y,(k.same s2).at⟩
    .rw[az y]at k;rw[az<|by rw[bB y];decide];have e5:p+(q-f+(if m=true then 1 else 0))=q:=by
      rw[hf]at pos hfq⊢;split<;>simp_all<;>lia
     have k:∀x H2,aN U H2->qC a H2 x (.num<|if m=true then-(dec<|nb ds)else dec (nb ds)) p (p+(q-f+(if m=true then 1 else 0)))->Q (.ref x) H2:=k;rw[e5]at k;calc⟨_,Y,m,Y,?_⟩;cases h2:m with
     |true=>
      rw[h2,aG Y]at k;calc⟨_,Y,_,Y,_,Y,_,Y,Y,λx H2 s3 _ L8=>k x H2 (s2.trans s3) L8⟩
     |false=>
      rw[h2,az 'd']at k;calc⟨_,Y,_,Y,_,Y,Y,λx H2 s3 _ L8=>k x H2 (s2.trans s3) L8⟩
def qS{c:Prop}[Decidable c]{A B:Prop}(h:c)(x:A):if c then A else B:=by rw[aG h];exact x
def o7{c:Prop}[Decidable c]{A B:Prop}(h:¬c)(x:B):if c then A else B:=by rw[az h];exact x
def dF{p:Prop}[Decidable p](h:¬p):¬decide p=true:=by rw[bB h];decide
def Jc(n:Int):Bool:=yd n||(decide (97<=n)&&decide (n<103))
def amH(g:Int->V):Sp:= λS H Q _=>∃n:Int,S=[.int n]/\∀U,aN H U->Q (g n) U
def acs(K:aJ)(g:List Nat->Nat->V):Sp:= λS H Q _=>∃(l:O) (t:List Nat) (p:Nat),S=[.ref l,.int p]/\cP K H l (iv t)/\∀U,aN H U->Q (g t p) U
def NJ(n:Int):∀t:List Int,Jb (.int n) (t.map V.int)=t.contains n:=by
 intro t;unfold Jb;rw[Ez,cK,G1,gr];constructor
 .rintro ⟨c,hc,e⟩;have e:(c==n)=true:=e;rw[←eq_of_beq e];exact hc
 .intro h;exact⟨n,h,fY n⟩
theorem ahG(n:Int):Jb (.int n) (iv ("abcdef":Str).cps.toList)=(decide (97<=n)&&decide (n<103)):=by
 have e:iv ("abcdef":Str).cps.toList=([97,98,99,100,101,102]:List Int).map V.int:='d'
 rw[e,NJ,cK,gr,bI,aU,aU];simp
 lia
noncomputable def jk(t:List Nat)(p:Nat):Nat:=if bt t (p+1)=34∨bt t (p+1)=92∨bt t (p+1)=110 then 2 else if bt t (p+1)=120/\Jc (bt t<|p+2)=true/\Jc (bt t<|p+3)=true then 4 else 0
noncomputable def ou(t:List Nat)(p:Nat):Nat:=if bt t p=92 then jk t p else if bt t p= -1∨bt t p=10 then 0 else 1
def wN(T:Txt K mg a):jM P w K mg base 2 a "is_hex_digit" ["byte"]<|amH λn=> .bl<|Jc n:=by
 refine T.v9.fn.ok HC ?_ ?_
 .right
 .ext⟨n,rfl,k⟩;have k:∀U,aN H U->Q (.bl<|Jc n) U:=k;calc⟨_,aF<|bq<|XR (c8 T.rM (nG T) hr<|bM<|J 0)<|JU<|pR pI (J 0) (c8 T.spelled (wj T) hr<|bM cQ)<|by with_unfolding_all rfl,?_⟩;calc⟨_,Y,n,Y,yd n,Y,?_⟩;unfold Jc at k;cases z:yd n with
  |true=>
   rw[z,xF]at k;exact k H (aN.refl H)
  |false=>
   rw[z,mV]at k;calc⟨_,Y,_,Y,'d',λD U s n0 hD=>⟨D,_,Y,.inl<|cP.of hD,Y,'d',?_⟩⟩;show Q (.bl<|Jb (.int n) _) U;rw[ahG];exact k U s
def in3{x y n:Int}:Jb (.int n) [.int x,.int y,.int z]=decide (n=x∨n=y∨n=z):=by
 have:=NJ n [x,y,z];show Jb (.int n) ([x,y,z].map V.int)=_;rw[this,cK,gr,aU];simp
def in2{x y n:Int}:Jb (.int n) [.int x,.int y]=decide (n=x∨n=y):=by
 have:=NJ n [x,y];show Jb (.int n) ([x,y].map V.int)=_;rw[this,cK,gr,aU];simp
def E7(T:Txt K mg a):jM P w K mg base 3 a "escape_length" ["text","place"]<|acs K λt p=> .int<|jk t p:=by
 refine T.AZ.fn.ok ve ?_ ?_
 .right
 .ext⟨l,t,p,rfl,hS,k⟩;have k:∀U,aN H U->Q (.int<|jk t p) U:=k;have EU:ia 1 _:=hr.mono 'd';calc⟨_,aj (pK (i:=2) ve.nd Y (ji Y)<|c8 T.byte_at (jn T) EU<|aD (J 0)<|bM<|fZ om (J 1) bR)<|aj (dZ (cu pI (J 2) (mC<|aD (jh 34 T)<|aD (jh 92 T)<|bM<|jh 110 T)<|by with_unfolding_all rfl) (aF<|bq bR) b9)<|aj (dZ (Cy (cu iU (J 2) (jh 120 T)<|dh _)<|Cy (fX<|c8 T.v9 (wN T) hr<|bM<|c8 T.byte_at (jn T) EU<|aD (J 0)<|bM<|fZ om (J 1) bR)<|An<|fX<|c8 T.v9 (wN T) hr<|bM<|c8 T.byte_at (jn T) EU<|aD (J 0)<|bM<|fZ om (J 1) bR).pt (aF<|bq bR) b9)<|aF<|bq bR,?_⟩;calc⟨_,Y,_,Y,_,_,Y,Y,l,t,p+1,Y,hS,trivial,?_⟩;unfold jk at k;calc⟨_,Y,jH 3,λtp n0=>?_⟩;have s1:aN H<|upd H tp<|.tup [.int 34,.int 92,.int 110]:= λx o q1=>by rw[aY<|bg q1 n0];exact q1
  calc⟨tp,_,Y,.inr<|oS.of aq,Y,Y,_,Y,?_⟩;show(if Jb (.int<|bt t<|p+1) [.int 34,.int 92,.int 110]=true then _ else _);rw[in3];by_cases z:bt t (p+1)=34∨bt t (p+1)=92∨bt t (p+1)=110
  .rw[aG z]at k;calc qS (aR z) ?_;exact k _ s1
  .rw[az z]at k;calc o7 (dF z) ?_;calc⟨_,Y,Y,decide<|bt t (p+1)=120,'s',?_⟩;by_cases y:bt t (p+1)=120
   .calc qS (aR y) ?_;calc⟨_,Y,_,Y,_,_,Y,Y,l,t,p+2,Y,s1.seq hS,trivial,_,Y,λH2 s2=>⟨_,Y,?_⟩⟩;by_cases x:Jc (bt t<|p+2)=true
    .calc qS x ?_;calc⟨_,Y,_,Y,_,_,Y,Y,l,t,p+3,Y,(s1.trans s2).seq hS,trivial,_,Y,λH3 s3=>⟨_,Y,?_⟩⟩;by_cases v:Jc (bt t<|p+3)=true
     .rw[aG ⟨y,x,v⟩]at k;calc qS v ?_;exact k _ ((s1.trans s2).trans s3)
     .rw[az λc=>v c.2.2]at k;calc o7 v ?_;exact k _ ((s1.trans s2).trans s3)
    .rw[az λc=>x c.2.1]at k;calc o7 x ?_;exact k _ (s1.trans s2)
   .rw[az λc=>y c.1]at k;calc o7 (dF y) ?_;exact k _ s1
def E9(T:Txt K mg a):jM P w K mg base 4 a "quoted_length" ["text","place"]<|acs K λt p=> .int<|ou t p:=by
 refine T.Be.fn.ok vj ?_ ?_
 .right
 .ext⟨l,t,p,rfl,hS,k⟩;have k:∀U,aN H U->Q (.int<|ou t p) U:=k;have EU:ia 1 _:=hr.mono 'd';calc⟨_,aj (pK (i:=2) vj.nd Y (ji Y)<|c8 T.byte_at (jn T) EU<|aD (J 0)<|bM<|J 1)<|aj (dZ (cu iU (J 2) (jh 92 T)<|dh _) (aF<|bq<|c8 T.AZ (E7 T) hr<|aD (J 0)<|bM<|J 1) b9)<|aF<|bq<|rS (cu pI (J 2) (mC<|aD (jh (-1) T)<|bM<|jh 10 T)<|by with_unfolding_all rfl) bR bR,?_⟩;calc⟨_,Y,_,Y,l,t,p,Y,hS,trivial,?_⟩;unfold ou at k;calc⟨_,Y,Y,decide<|bt t p=92,'s',?_⟩;by_cases z:bt t p=92
  .rw[aG z]at k;calc qS (aR z) ?_;exact⟨_,Y,_,Y,l,t,p,Y,hS,k⟩
  .rw[az z]at k;calc o7 (dF z) ?_;calc⟨_,Y,jH 2,λtp n0=>?_⟩;have s1:aN H<|upd H tp<|.tup [.int<|-1,.int 10]:= λx o q1=>by rw[aY<|bg q1 n0];exact q1
   calc⟨tp,_,Y,.inr<|oS.of aq,Y,Y,_,Y,?_⟩;show(if Jb (.int<|bt t p) [.int<|-1,.int 10]=true then _ else _);rw[in2];by_cases y:bt t p= -1∨bt t p=10
   .rw[aG y]at k;calc qS (aR y) ?_;exact k _ s1
   .rw[az y]at k;calc o7 (dF y) ?_;exact k _ s1
theorem Ql:∀(k n m:Nat) (r:List UInt8),r.length<=k->r.length<n->r.length<m->quoted n r=quoted m r:=by
 intro k;induction k with
 |zero=>
  intro n m r h0 G h2;cases r with
  |nil=>cases n with
   |zero=>lia
   |succ n=>cases m with
    |zero=>lia
    |succ m=>rfl
  |cons c r=>simp at h0
 |succ k ih=>
  intro n m r h0 G h2;cases n with
  |zero=>lia
  |succ n=>cases m with
   |zero=>lia
   |succ m=>
    cases r with
    |nil=>rfl
    |cons c r=>
     rw[ay]at h0 G h2;unfold quoted;have e1:=ih n m r 'l' 'l' 'l';have e2:∀j,quoted n (r.drop j)=quoted m (r.drop j):= λj=>ih n m _ (by rw[bN];lia) (by rw[bN];lia) (by rw[bN];lia);rw[e1];simp only[e2]
noncomputable def qE(b:List UInt8)(p:Nat):Option<|Nat×Nat:=(quoted ((b.drop p).length+1)<|b.drop p).map λx=>(x.1.length,x.2)
def IC(h:p<b.length):bt (nb b) p=((b[p]).toNat:Int):=by
 rw[wJ<|by rw[gP];exact h];unfold nb;rw[vG]
theorem O8(h:p<b.length)(c:UInt8):bt (nb b) p=(c.toNat:Int)↔b[p]=c:=by
 rw[IC h];constructor
 .intro z;exact g8.mp 'l'
 .intro z;rw[z]
theorem PB(c:UInt8):(hexOf c).isSome=Jc (c.toNat:Int):=by
 unfold hexOf Jc;rw[yy];by_cases z:bO c=true
 .rw[aG z,z];rfl
 .rw[az z];have z:bO c=false:=by simpa using z
  rw[z,mV];by_cases y:97<=c.toNat/\c.toNat<=102
  .rw[aG y];simp
   lia
  .rw[az y];simp
   lia
def WS(b:List UInt8)(p:Nat):(escape<|b.drop<|p+1).map (·.2)=if jk (nb b) p=0 then none else some (jk (nb b) p-1):=by
 by_cases G:p+1<b.length
 .rw[bx G];generalize ec:b[p+1]=c;have k:∀d:UInt8,bt (nb b) (p+1)=(d.toNat:Int)↔c=d:= λd=>by rw[←ec];exact O8 G d
  have k34:=k 34;have k92:=k 92;have ahO:=k 110;have ahP:=k 120;have fin:∀(v:Option<|UInt8×Nat) (n:Nat),escape (c::b.drop (p+1+1))=v->jk (nb b) p=n->v.map (·.2)=(if n=0 then none else some (n-1))->(escape<|c::b.drop (p+1+1)).map (·.2)=if jk (nb b) p=0 then none else some (jk (nb b) p-1):= λv n e1 e2 e3=>by rw[e1,e2];exact e3
  by_cases a1:c=34∨c=92
  .refine fin (some (c,1)) 2 ?_ ?_ Y
   .unfold escape;exact aG (~~~a1)
   .unfold jk;exact aG (a1.elim (λz=> .inl<|k34.mpr z) λz=> .inr<|.inl<|k92.mpr z)
  have c1:¬(c==34||c==92)=true:= ~~~a1
  by_cases a2:c=110
  .refine fin (some (10,1)) 2 ?_ ?_ Y
   .unfold escape;exact(az c1).trans (aG<|~~~a2)
   .unfold jk;exact aG (.inr<|.inr<|ahO.mpr a2)
  have c2:¬(c==110)=true:= ~~~a2
  have l1:¬(bt (nb b) (p+1)=34∨bt (nb b) (p+1)=92∨bt (nb b) (p+1)=110):=by
   rintro (z|z|z)
   .exact a1 (.inl<|k34.mp z)
   .exact a1 (.inr<|k92.mp z)
   .exact a2 (ahO.mp z)
  by_cases a3:c=120
  .have c3:(c==120)=true:=by simpa using a3
   by_cases h3:p+3<b.length
   .have x2:Jc (bt (nb b)<|p+2)=(hexOf b[p+1+1]).isSome:=by rw[PB,IC 'o']
    have x3:Jc (bt (nb b)<|p+3)=(hexOf b[p+1+1+1]).isSome:=by rw[PB,IC 'o']
    have dd:b.drop (p+1+1)=b[p+1+1]::b[p+1+1+1]::b.drop (p+1+1+1+1):=by rw[bx<|show p+1+1<b.length by omega,bx<|show p+1+1+1<b.length by omega]
    have e1:escape (c::b.drop (p+1+1))=(match hexOf b[p+1+1],hexOf b[p+1+1+1]with
      |some x,some y=>some (QV<|16*x+y,3)
      |_,_=>none):=by
     rw[dd];unfold escape;exact(az c1).trans ((az c2).trans (aG c3))
    cases e2:hexOf b[p+1+1]with
    |none=>
     rw[e2]at e1 x2;calc fin none 0 e1 ?_ Y;unfold jk;exact(az l1).trans (az<|by rintro ⟨_,z,_⟩;rw[x2]at z;cases z)
    |some u=>
     cases e3:hexOf b[p+1+1+1]with
     |none=>
      rw[e2,e3]at e1;rw[e3]at x3;calc fin none 0 e1 ?_ Y;unfold jk;exact(az l1).trans (az<|by rintro ⟨_,_,z⟩;rw[x3]at z;cases z)
     |some v=>
      rw[e2,e3]at e1;rw[e2]at x2;rw[e3]at x3;calc fin _ 4 e1 ?_ Y;unfold jk;exact(az l1).trans (aG ⟨ahP.mpr a3,x2,x3⟩)
   .refine fin none 0 ?_ ?_ Y
    .unfold escape;refine(az c1).trans ((az c2).trans ((aG c3).trans ?_));cases e2:b.drop (p+1+1)with
     |nil=>rfl
     |cons u r=>
      cases r with
      |nil=>rfl
      |cons v r=>
       have:=congrArg jc e2;rw[bN,ay,ay]at this;omega
    .unfold jk;refine(az l1).trans (az ?_);rintro ⟨_,_,z⟩;rw[sV<|by rw[gP];omega]at z;cases z
  .refine fin none 0 ?_ ?_ Y
   .unfold escape;exact(az c1).trans ((az c2).trans (az<|~~~a3))
   .unfold jk;exact(az l1).trans (az<|by rintro ⟨z,_⟩;exact a3<|ahP.mp z)
 .rw[gU 'o'];have e:jk (nb b) p=0:=by
   unfold jk;rw[sV<|by rw[gP];omega];exact(az 'd').trans (az<|by rintro ⟨z,_⟩;cases z)
  rw[e];rfl
def aet(h:b.length<=p):qE b p=none:=by
 unfold qE;rw[gU h];rfl
theorem Yc(h:bt (nb b) p=34):qE b p=some (0,1):=by
 have hp:p<b.length:=by
  by_cases z:p<b.length
  .exact z
  .rw[sV<|by rw[gP];lia]at h;cases h
 unfold qE;rw[bx hp,(O8 hp 34).mp h];rfl
theorem aaH(h:bt (nb b) p≠34):qE b p=if ou (nb b) p=0 then none else(qE b<|p+ou (nb b) p).map λx=>(x.1+1,x.2+ou (nb b) p):=by
 by_cases hp:p<b.length
 .have k:∀d:UInt8,bt (nb b) p=(d.toNat:Int)↔b[p]=d:=O8 hp;have k34:=k 34;have k92:=k 92;have k10:=k 10;have nn:bt (nb b) p≠-1:=by rw[IC hp];lia
  have n34:¬b[p]=34:= λz=>h<|k34.mpr z;have dr:∀j,(b.drop<|p+1).drop j=b.drop (p+(j+1)):= λj=>by rw[iJ];congr 1;lia
  have fu:∀j,quoted (b.drop p).length (b.drop<|p+(j+1))=quoted ((b.drop<|p+(j+1)).length+1) (b.drop<|p+(j+1)):= λj=>Ql _ _ _ _ (aT _) (by rw[bN,bN];lia) 'l';have Q0:quoted ((b.drop p).length+1) (b.drop p)=if(b[p]==34)=true then some ([],1)else if(b[p]==10)=true then none else if(b[p]==92)=true then(match escape (b.drop<|p+1)with
    |some (c,k)=>(quoted (b.drop p).length<|(b.drop<|p+1).drop k).map λx=>(c::x.1,x.2+k+1)
    |none=>none)else(quoted (b.drop p).length<|b.drop<|p+1).map λx=>(b[p]::x.1,x.2+1):=by
   conv=>lhs;arg 2;rw[bx hp]
   rfl
  rw[az<|~~~n34]at Q0;have fin:∀(v:Option<|List UInt8×Nat) (n:Nat),quoted ((b.drop p).length+1) (b.drop p)=v->ou (nb b) p=n->v.map (λx=>(x.1.length,x.2))=(if n=0 then none else(qE b<|p+n).map λx=>(x.1+1,x.2+n))->qE b p=if ou (nb b) p=0 then none else(qE b<|p+ou (nb b) p).map λx=>(x.1+1,x.2+ou (nb b) p):= λv n e1 e2 e3=>by
   rw[e2,←e3,←e1];rfl
  by_cases a1:b[p]=10
  .rw[aG<|~~~a1]at Q0;calc fin none 0 Q0 ?_ Y;unfold ou;exact(az λz=>by rw[k92.mp z]at a1;cases a1).trans (aG<|.inr<|k10.mpr a1)
  rw[az<|~~~a1]at Q0;by_cases a2:b[p]=92
  .rw[aG<|~~~a2]at Q0;have ql:ou (nb b) p=jk (nb b) p:=by
    unfold ou;exact aG (k92.mpr a2)
   have es:=WS b p;cases ee:escape (b.drop<|p+1)with
   |none=>
    rw[ee]at es Q0;by_cases z:jk (nb b) p=0
    .exact fin none 0 Q0 (ql.trans z) Y
    .rw[az z]at es;cases es
   |some x=>
    let⟨c,j⟩:=x;rw[ee]at es Q0;by_cases z:jk (nb b) p=0
    .rw[aG z]at es;cases es
    .rw[az z]at es;have ej:j=jk (nb b) p-1:=aL es;calc fin _ (j+1) Q0 (by rw[ql];lia) ?_;rw[az 'l'];dsimp only;rw[dr,fu,nV];unfold qE;rw[nV];congr 1
  .rw[az<|~~~a2]at Q0;refine fin _ 1 Q0 ?_ ?_
   .unfold ou;exact(az λz=>a2<|k92.mp z).trans (az (by
     rintro (z|z)
     .exact nn z
     .exact a1<|k10.mp z))
   .have f0:=fu 0;rw[show p+(0+1)=p+1 from Y]at f0;rw[az 'd',f0,nV];unfold qE;rw[nV];congr 1
 .rw[aet 'l'];have e:ou (nb b) p=0:=by
   unfold ou;rw[sV<|by rw[gP];lia];rfl
  rw[e,aG Y]
noncomputable def rdQ(b:List UInt8)(p:Nat):Option<|eF×Nat:=match CV ((b.drop<|p+1).length+1) (b.drop<|p+1)with
 |some (t,k)=>if xN<t.length then none else some (.text t,k+1)
 |none=>none
noncomputable def Hw(b:List UInt8)(q told:Nat):Option Nat:=match qE b q with
 |some (n,k)=>if 255<told+n then none else some (q+k)
 |none=>none
theorem Yi{e:Nat}(h:Hw b (p+1) 0=some e):∃t n,rdQ b p=some (.text t,n)/\p+n=e:=by
 unfold Hw qE at h;unfold rdQ;cases z:CV ((b.drop<|p+1).length+1) (b.drop<|p+1)with
 |none=>rw[z]at h;cases h
 |some x=>
  let⟨t,k⟩:=x;rw[z]at h;have h:(if 255<0+t.length then none else some (p+1+k))=some e:=h;by_cases y:255<0+t.length
  .rw[aG y]at h;cases h
  .rw[az y]at h;calc⟨t,k+1,az<|by unfold xN;lia,?_⟩;have:=aL h
   lia
def Yh(h:Hw b (p+1) 0=none):rdQ b p=none:=by
 unfold Hw qE at h;unfold rdQ;cases z:CV ((b.drop<|p+1).length+1) (b.drop<|p+1)with
 |none=>rfl
 |some x=>
  let⟨t,k⟩:=x;rw[z]at h;have h:(if 255<0+t.length then none else some (p+1+k))=none:=h;by_cases y:255<0+t.length
  .exact aG (by unfold xN;omega)
  .rw[az y]at h;cases h
theorem aaI{q:Nat}(h:ou t q≠0):q<t.length/\ou t q<=4:=by
 constructor
 .by_cases z:q<t.length
  .exact z
  .exfalso;apply h;unfold ou;rw[sV 'l'];rfl
 .unfold ou jk;split<;>(try split)<;>(try split)<;>lia
theorem JL(T:Txt K mg a):yb P w K mg base 5 a "read_quoted" ["text","place"]<|SA K a (λ_ _=>True) rdQ:=by
 refine Ak T.Gw.fn zL ?_ ?_
 .right
 .ext⟨l,b,p,rfl,hS,hb,hp,_,k⟩;have EU:ia 1 _:=hr.mono 'd';have kZ:ia 2 _:=hr.mono 'd';have nd:=zL.nd;calc⟨_,aj (iy 2 nd<|fZ om (J 1) bR)<|aj (iy 3 nd bR)<|aj (iV dG (cu T4 (c8 T.byte_at (jn T) EU<|aD (J 0)<|bM<|J 2) (jh 34 T)<|dh _)<|aj (iy 4 nd<|c8 T.Be (E9 T) hr<|aD (J 0)<|bM<|J 2)<|aj (dZ (Gq (cu iU (J 4) bR<|dh _)<|yX<|cu iU (J 3) (jh 255 T)<|dh _).pt (aF<|kr T kZ<|aD (jh 2 T)<|bM<|J 1) b9)<|aj (yU (i:=2) nd Y (ji Y) (J 4) yx)<|aF<|yU (i:=3) nd Y (ji Y) bR yx)<|aF<|bq<|oq T.Token (yN T) kZ<|aD (CY "quoted" T)<|aD cQ<|aD (J 1)<|bM<|fZ om (J 2) bR,?_⟩;calc⟨_,Y,_,_,Y,Y,?_⟩;calc oH ((nb b).length+4) (λq Z U=>X2 λ(c:Nat) (v:Option V)=>A4 (Z=[some<|.ref l,some<|.int p,some<|.int q,some<|.int c,v]) (aN H U) (c<=255)<|Hw b q c=Hw b (p+1) 0) (p+1) (by rw[gP];lia) ⟨0,none,Y,aN.refl H,'l',Y⟩ ?_;rintro q Z U hq ⟨c,v,rfl,sm,hc,e⟩;calc⟨_,Y,_,Y,l,nb b,q,Y,sm.seq hS,trivial,Y,!decide (bt (nb b) q=34),'s',?_⟩;have bad:Hw b q c=none->t7 (a.c "Fault") E H 2 p:= λz=>by
   rw[z]at e;rw[Yh e.symm]at k;exact k
  by_cases z:bt (nb b) q=34
  .calc kK (by rw[aR z];rfl) ?_;have e1:Hw b q c=some (q+1):=by
    unfold Hw;rw[Yc z];exact az 'l'
   let⟨t,n,r1,r2⟩:=Yi<|e.symm.trans e1;rw[r1]at k;have k:∀x H2,aN H H2->qC a H2 x (.text t) p (p+n)->Q (.ref x) H2:=k;rw[r2]at k;exact⟨_,Y,_,Y,_,_,Y,Y,Y,λx H2 s2 _ ZE=>k x H2 (sm.trans s2) ZE⟩
  .calc oG (by rw[bB z];rfl) hq ?_;calc⟨_,Y,_,Y,l,nb b,q,Y,sm.seq hS,λH2 s2=>?_⟩;have st:=aaH z;calc⟨_,Y,Y,decide<|ou (nb b) q=0,'s',?_⟩;by_cases y:ou (nb b) q=0
   .calc qS (aR y) ?_;rw[aG y]at st;have bd:=bad (by unfold Hw;rw[st]);exact⟨_,Y,_,_,Y,(bd.same<|sm.trans s2).at⟩
   .calc o7 (dF y) ?_;rw[az y]at st;calc⟨_,Y,Y,decide<|c=255,by simp;lia,?_⟩;by_cases x:c=255
    .calc qS (aR x) ?_;have bd:=bad (by
      unfold Hw;rw[st];cases qE b (q+ou (nb b) q)with
      |none=>rfl
      |some y=>exact aG<|by show 255<c+(y.1+1);lia)
     exact⟨_,Y,_,_,Y,(bd.same<|sm.trans s2).at⟩
    .calc o7 (dF x) ?_;have ll:=aaI y;calc⟨_,Y,_,Y,_,_,Y,Y,_,Y,_,_,Y,Y,q+ou (nb b) q,'l','l',c+1,_,Y,sm.trans s2,'l',?_⟩;rw[←e];unfold Hw;rw[st];cases qE b (q+ou (nb b) q)with
     |none=>rfl
     |some y=>
      let⟨n,m⟩:=y;show(if 255<c+1+n then none else some (q+ou (nb b) q+m))=if 255<c+(n+1)then none else some (q+(m+ou (nb b) q))
      rw[show c+1+n=c+(n+1)by lia,show q+ou (nb b) q+m=q+(m+ou (nb b) q)by lia]
def di(t:List Nat):List jY:=(t.map λ(c:Nat)=>(c:Int)).map acI
def Ry{K:aJ}{H:Hp}:∀t:List Nat,C3 K H (iv t) (di t)
 |[]=> .nil
 |c::r=> .cons (.int _) (Ry r)
def Mh(t:List Nat):l8 (.list<|di t)=true:=by
 unfold di;generalize (t.map λ(c:Nat)=>(c:Int))=ns;simp[l8,jY.canLay0,fK,jY.depth,fO,PySem.W.ke_canLayAll0,PySem.W.ke_depthAll]
theorem agQ(t u:List Nat):gO (.list<|di t) (.list<|di u)=decide (t=u):=by
 show gk (di t) (di u)=_;unfold di;rw[PySem.W.ked_eqvAll,cK,aU,aU];constructor
 .intro h;exact(UE λx y e=>'l').mp h
 .intro h;rw[h]
def eqI{l m:O}{u:List Nat}(G:cP K H l<|iv t)(h2:cP K H m<|iv u)(q:Q (.bl<|decide<|t=u) H):ail K (.ref l) (.ref m) H Q:=⟨_,_,.lst G<|Ry t,.lst h2<|Ry u,Mh t,Mh u,by rw[agQ];exact q⟩
noncomputable def uq:List<|List Nat×Nat:=[([45,62],1),([60,45],2),([61],61),([123],123),([125],125),([40],40),([41],41),([91],91),([93],93),([44],44),([59],59),([58],58),([33],33),([63],63),([124],124)]
def Ys:Ih=uq.map λx=>V.str<|sw x.1:='d'
def Sx:∀x∈uq,oB x.2=sw x.1/\x.1.length<=2:='d'
def Hg(t:List Nat)(p:Nat)(x:List Nat×Nat):Bool:=decide ((t.drop p).take x.1.length=x.1)
noncomputable def Cz(b:List UInt8)(p:Nat):Option<|eF×Nat:=(uq.find?<|Hg (nb b) p).map λx=>(.sign x.2,x.1.length)
theorem NZ(T:Txt K mg a):yb P w K mg base 3 a "read_sign" ["text","place"]<|SA K a (λ_ _=>True) Cz:=by
 refine Ak T.MH.fn D7 ?_ ?_
 .right
 .ext⟨l,b,p,rfl,hS,hb,hp,_,k⟩;have EU:ia 1 _:=hr.mono 'd';have kZ:ia 2 _:=hr;have nd:=D7.nd;calc⟨_,aj (lS dG Y (XU<|pgt T.SIGNS) (xX 2 nd)<|aj (iy 3 nd<|fZ om (J 1)<|cy vW 'r' T.gB bC<|bM<|J 2)<|aF<|dZ (cu (Se hr.units) (p5 wm (J 0) (mU<|J 1)<|mU<|J 3) (c8 T.spelled (wj T) EU<|bM<|J 2)<|dh _) (aF<|bq<|oq T.Token (yN T) kZ<|aD (CY "fixed" T)<|aD (J 2)<|aD (J 1)<|bM<|J 3) b9)<|aF<|kr T kZ<|aD (jh 2 T)<|bM<|J 1,?_⟩;refine⟨_,Y,⟨_,T.SIGNS.2 H⟩,ZY (K:=K) (a:=a.c "SIGNS") (xs:=Ih) (λi Z U=>X2 λ(v u:Option V)=>A3 (Z=[some<|.ref l,some<|.int p,v,u]) (aN H U)<|(uq.drop i).find? (Hg (nb b) p)=uq.find? (Hg (nb b) p)) ⟨none,none,Y,aN.refl H,Y⟩ (λi Z U _ _=>T.SIGNS.2 U) ?_ ?_⟩
  .rintro i y Z U hi ⟨v,u,rfl,sm,e⟩;rw[Ys,aH]at hi;cases q:uq[i]?with
   |none=>rw[q]at hi;cases hi
   |some x=>
    rw[q]at hi;obtain rfl:V.str (sw x.1)=y:=aL hi;let⟨sc,sl⟩:=Sx x<|bf q;have lw:(sw x.1).length=x.1.length:=rfl;have dr:uq.drop i=x::uq.drop (i+1):=by
     let⟨G,h2⟩:=au.mp q;rw[bx G,h2]
    rw[dr,gA]at e;calc⟨_,Y,_,Y,_,Y,by rw[lw,aW];lia,_,_,Y,Y,?_⟩;calc⟨_,Y,_,Y,_,Y,_,Y,_,Y,l,_,Y,sm.seq hS,λD nD=>?_⟩;have ct:uO (iv<|nb b) (some (p:Int)) (some<|(p:Int)+((sw x.1).length:Nat))=iv (((nb b).drop p).take x.1.length):=by
     rw[lw,show(p:Int)+(x.1.length:Nat)=((p+x.1.length:Nat):Int)by lia];unfold uO;rw[Co,HT.oz,HT.oz,iW<|show p<=(nb b).length by rw[gP];lia];unfold iv;rw[←uA,←qh];congr 1;by_cases z:p+x.1.length<=(nb b).length
     .rw[iW z,nU]
     .rw[Nat.min_eq_right 'l',oN<|by rw[bN];lia,oN<|by rw[bN];lia]
    rw[ct];have s2:aN U<|upd U D<|.lst<|iv<|((nb b).drop p).take x.1.length:= λz o q1=>by rw[aY<|bg q1 nD];exact q1
    calc⟨_,Y,_,Y,by rw[lw];lia,λD2 H2 s3 n2 pP=>eqI (cP.of<|s3 _ _ aq) (cP.of pP) ⟨_,Y,?_⟩⟩;have s4:=(sm.trans s2).trans s3;show(if decide (((nb b).drop p).take x.1.length=(sw x.1).cps.toList)=true then _ else _);by_cases z:((nb b).drop p).take x.1.length=x.1
    .have Lm:Hg (nb b) p x=true:=aR z;rw[Lm]at e;unfold Cz at k;rw[←e]at k;have k:∀y H3,aN H H3->qC a H3 y (.sign x.2) p (p+x.1.length)->Q (.ref y) H3:=k;calc qS (aR z) ?_;calc⟨_,Y,_,Y,_,Y,Y,λy H3 s5 _ L8=>k y H3 (s4.trans s5) ?_⟩;unfold qC;show At _ _ _ [_,("value",.str<|oB x.2),_,_];rw[sc,show((p+x.1.length:Nat):Int)=(p:Int)+(x.1.length:Nat)by lia];exact L8
    .have Lm:Hg (nb b) p x=false:=bB z;rw[Lm]at e;exact o7 (dF z) ⟨_,_,Y,s4,e⟩
  .rintro Z U ⟨v,u,rfl,sm,e⟩;have:uq.drop Ih.length=[]:=by decide
   rw[this]at e;unfold Cz at k;rw[←e]at k;have k:t7 (a.c "Fault") E H 2 p:=k;exact⟨_,Y,_,_,Y,(k.same sm).at⟩
noncomputable def Oo:List Nat:=[61,123,125,40,41,91,93,44,59,58,33,63,124]
def Vz:uq=([45,62],1)::([60,45],2)::Oo.map λn=>([n],n):='d'
def FZ{t:List Nat}{p c:Nat}{r:List Nat}(h:t.drop p=c::r):∀atF:List Nat,(atF.map λn=>([n],n)).find? (Hg t p)=if atF.contains c=true then some ([c],c)else none
 |[]=>rfl
 |n::atF=>by
  have e:Hg t p ([n],n)=(c==n):=by
   unfold Hg;rw[h,cK,aU];show List.take 1 (c::r)=[n]↔_;simp
  rw[bK,gA,e,nN,FZ h atF];by_cases z:c=n
  .subst z;simp
  .rw[bW.mpr z];rfl
def Oq(c:UInt8):uF.contains c=Oo.contains c.toNat:=by
 have e:Oo=uF.map G6:='d'
 rw[e,cK,gr,gr,b6];constructor
 .intro h;exact⟨c,h,Y⟩
 .rintro ⟨d,hd,ed⟩;rw[←g8.mp ed];exact hd
noncomputable def Ug(b:List UInt8)(p:Nat):Option<|eF×Nat:=if Wd (bt (nb b) p)=true then Oe b p else if yd (bt (nb b) p)=true∨(bt (nb b) p=45/\yd (bt (nb b)<|p+1)=true)then uW b p else if bt (nb b) p=34 then rdQ b p else Cz b p
theorem YO(hp:p<b.length):gj (b.drop p)=Ug b p:=by
 have hd:b.drop p=b[p]::b.drop (p+1):=bx hp;have hn:(nb b).drop p=(b[p]).toNat::nb (b.drop<|p+1):=by rw[←Dq,hd];rfl
 have k:∀d:UInt8,bt (nb b) p=(d.toNat:Int)↔b[p]=d:=O8 hp;have k45:=k 45;have k34:=k 34;have hh:(b.drop<|p+1).head?=b[p+1]? :=by rw[List.head?_drop]
 have hh2:∀d:UInt8,(b.drop<|p+1).head?=some d↔bt (nb b) (p+1)=(d.toNat:Int):= λd=>by
  rw[hh];by_cases z:p+1<b.length
  .rw[aK z,O8 z];exact⟨λh=>aL h,λh=>congrArg some h⟩
  .rw[gu 'l',sV<|by rw[gP];lia];constructor
   .intro h;cases h
   .intro h;exact absurd h 'l'
 have t2:∀x y:Nat,(((nb b).drop p).take 2=[x,y])↔((b[p]).toNat=x/\bt (nb b) (p+1)=(y:Int)):= λx y=>by
  rw[hn,List.take_succ_cons];by_cases z:p+1<b.length
  .rw[bx z,IC z];show [(b[p]).toNat,(b[p+1]).toNat]=[x,y]↔_;simp
   lia
  .rw[gU 'l',sV<|by rw[gP];lia];constructor
   .intro h;simp[nb]at h
   .rintro ⟨_,h⟩;lia
 have sg:Cz b p=if(b[p]).toNat=45/\bt (nb b) (p+1)=62 then some (.sign 1,2)else if(b[p]).toNat=60/\bt (nb b) (p+1)=45 then some (.sign 2,2)else if uF.contains b[p]=true then some (.sign (b[p]).toNat,1)else none:=by
  unfold Cz;rw[Vz,gA,gA,FZ hn,Oq];by_cases z1:(b[p]).toNat=45/\bt (nb b) (p+1)=62
  .have:Hg (nb b) p ([45,62],1)=true:=aR<|(t2 45 62).mpr z1;rw[this,aG z1];rfl
  .have:Hg (nb b) p ([45,62],1)=false:=bB λh=>z1<|(t2 45 62).mp h;rw[this,az z1];by_cases z2:(b[p]).toNat=60/\bt (nb b) (p+1)=45
   .have:Hg (nb b) p ([60,45],2)=true:=aR<|(t2 60 45).mpr z2;rw[this,aG z2];rfl
   .have:Hg (nb b) p ([60,45],2)=false:=bB λh=>z2<|(t2 60 45).mp h;rw[this,az z2];dsimp only;split<;>rfl
 have i45:(b[p]).toNat=45↔b[p]=45:=⟨λh=>g8.mp h,λh=>by rw[h];rfl⟩;have i60:(b[p]).toNat=60↔b[p]=60:=⟨λh=>g8.mp h,λh=>by rw[h];rfl⟩;have bp:bt (nb b) p=((b[p]).toNat:Int):=IC hp;unfold Ug;rw[bp,PM,yy];have sp:gj (b.drop p)=if dR b[p]=true then Oe b p else if bO b[p]=true then J4 false b p else if b[p]=45 then(if bt (nb b) (p+1)=62 then some (.sign 1,2)else J4 true b (p+1))else if b[p]=60 then(if bt (nb b) (p+1)=45 then some (.sign 2,2)else none)else if b[p]=34 then rdQ b p else if uF.contains b[p]=true then some (.sign (b[p]).toNat,1)else none:=by
  conv=>lhs;rw[hd]
  unfold gj;dsimp only;rw[←hd];simp only[iM];by_cases c1:dR b[p]=true
  .rw[aG c1,aG c1];rfl
  .rw[az c1,az c1];by_cases c2:bO b[p]=true
   .rw[aG c2,aG c2];rfl
   .rw[az c2,az c2];by_cases c3:b[p]=45
    .rw[aG c3,aG c3];by_cases c4:bt (nb b) (p+1)=62
     .rw[aG c4,aG<|(hh2 62).mpr c4]
     .rw[az c4,az λh=>c4<|(hh2 62).mp h];rfl
    .rw[az c3,az c3];by_cases c5:b[p]=60
     .rw[aG c5,aG c5];by_cases c6:bt (nb b) (p+1)=45
      .rw[aG c6,aG<|(hh2 45).mpr c6]
      .rw[az c6,az λh=>c6<|(hh2 45).mp h]
     .rw[az c5,az c5];by_cases c7:b[p]=34
      .rw[aG c7,aG c7];rfl
      .rw[az c7,az c7]
 rw[sp];by_cases c1:dR b[p]=true
 .rw[aG c1,aG c1]
 rw[az c1,az c1];have n45:((b[p]).toNat:Int)=45↔b[p]=45:=by rw[←i45];lia
 have n34:((b[p]).toNat:Int)=34↔b[p]=34:=⟨λh=>g8.mp<|show(b[p]).toNat=34 by lia,λh=>by rw[h];rfl⟩;by_cases c2:bO b[p]=true
 .rw[aG c2,aG<|.inl c2];unfold uW;rw[bp,az λh=>by rw[n45.mp h]at c2;cases c2]
 rw[az c2];by_cases c3:b[p]=45
 .rw[aG c3];by_cases c4:yd (bt (nb b)<|p+1)=true
  .rw[az (show¬bt (nb b) (p+1)=62 fromλh=>by rw[h]at c4;cases c4),aG<|show bO b[p]=true∨((b[p]).toNat:Int)=45/\yd (bt (nb b)<|p+1)=true from .inr ⟨n45.mpr c3,c4⟩];unfold uW;rw[bp,aG<|n45.mpr c3]
  .rw[az (c:=bO b[p]=true∨((b[p]).toNat:Int)=45/\yd (bt (nb b)<|p+1)=true) (by
    rintro (h|h)
    .exact c2 h
    .exact c4 h.2),az (show¬((b[p]).toNat:Int)=34 fromλh=>by rw[n34.mp h]at c3;cases c3),sg]
   by_cases c5:bt (nb b) (p+1)=62
   .rw[aG c5,aG ⟨i45.mpr c3,c5⟩]
   .rw[az c5,az λh=>c5 h.2,az (λh=>by rw[i60.mp h.1]at c3;cases c3),az<|by rw[c3];decide];unfold J4;have em:(b.drop<|p+1).takeWhile bO=[]:=by
     by_cases z:p+1<b.length
     .rw[bx z,iY,az];rw[←yy,←IC z];exact c4
     .rw[gU 'l'];rfl
    rw[em];rfl
 rw[az c3,az (c:=_∨_) (by
  rintro (h|h)
  .exact c2 h
  .exact c3<|n45.mp h.1)]
 by_cases c7:b[p]=34
 .rw[az (λh=>by rw[h]at c7;cases c7),aG c7,aG<|n34.mpr c7]
 .rw[az<|show¬((b[p]).toNat:Int)=34 fromλh=>c7<|n34.mp h,sg,az<|show¬((b[p]).toNat=45/\bt (nb b) (p+1)=62)fromλh=>c3<|i45.mp h.1];by_cases c5:b[p]=60
  .rw[aG c5];by_cases c6:bt (nb b) (p+1)=45
   .rw[aG c6,aG<|show(b[p]).toNat=60/\bt (nb b) (p+1)=45 from⟨i60.mpr c5,c6⟩]
   .rw[az c6,az<|show¬((b[p]).toNat=60/\bt (nb b) (p+1)=45)fromλh=>c6 h.2,az<|by rw[c5];decide]
  .rw[az c5,az c7,az<|show¬((b[p]).toNat=60/\bt (nb b) (p+1)=45)fromλh=>c5<|i60.mp h.1]
def LD(T:Txt K mg a):yb P w K mg base 6 a "read_token" ["text","place"]<|SA K a (λ_ _=>True) λb p=>gj<|b.drop p:=by
 refine Ak T.J5.fn BO ?_ ?_
 .right
 .ext⟨l,b,p,rfl,hS,hb,hp,_,k⟩;have EU:ia 1 _:=hr.mono 'd';have kZ:ia 2 _:=hr.mono 'd';have Lx:ia 3 _:=hr.mono 'd';have k:match Ug b p with
    |some (k,n)=>∀x U,aN H U->qC a U x k p (p+n)->Q (.ref x) U
    |none=>t7 (a.c "Fault") E H 2 p:=by rw[←YO hp];exact k
  calc⟨_,aj (pK (i:=2) BO.nd Y (ji Y)<|dj ck (J 0) (J 1) λ_ _=>rfl)<|aj (dZ (fX<|c8 T.EV (Dv T) kZ<|bM<|J 2) (aF<|bq<|eB T.MG (NY T) hr<|aD (J 0)<|bM<|J 1) b9)<|aj (dZ (Gq (fX<|c8 T.rM (nG T) EU<|bM<|J 2)<|yX (Cy (cu iU (J 2) (jh 45 T)<|dh _)<|An<|fX<|c8 T.rM (nG T) EU<|bM<|c8 T.byte_at (jn T) EU<|aD (J 0)<|bM<|fZ om (J 1) bR).pt).pt (aF<|bq<|eB T.Gv (JK T) Lx<|aD (J 0)<|bM<|J 1) b9)<|aj (dZ (cu iU (J 2) (jh 34 T)<|dh _) (aF<|bq<|eB T.Gw (JL T) hr<|aD (J 0)<|bM<|J 1) b9)<|aF<|bq<|eB T.MH (NZ T) Lx<|aD (J 0)<|bM<|J 1,?_⟩;unfold Ug at k;calc⟨_,Y,_,Y,l,_,_,_,Y,Y,hS,Je<|by rw[gP];exact hp,?_⟩;calc⟨_,Y,_,Y,_,Y,?_⟩;by_cases c1:Wd (bt (nb b) p)=true
  .rw[aG c1]at k;exact qS c1 ⟨_,Y,_,Y,l,b,p,Y,hS,hb,hp,trivial,k⟩
  rw[az c1]at k;calc o7 c1 ?_;calc⟨_,Y,_,Y,_,Y,?_⟩;have num:(yd (bt (nb b) p)=true∨(bt (nb b) p=45/\yd (bt (nb b)<|p+1)=true))->(match uW b p with
    |some (k,n)=>∀x U,aN H U->qC a U x k p (p+n)->Q (.ref x) U
    |none=>t7 (a.c "Fault") E H 2 p):= λh=>by rw[aG h]at k;exact k
  by_cases c2:yd (bt (nb b) p)=true
  .exact qS c2 ⟨_,Y,_,Y,l,b,p,Y,hS,hb,hp,.inr c2,num<|.inl c2⟩
  calc o7 c2 ?_;have rest:¬(bt (nb b) p=45/\yd (bt (nb b)<|p+1)=true)->Qz (YI (KO<|Ox rEq (gF 2)<|tC<|V.int 34) (Qy<|vz (SA K a (λ_ _=>True) rdQ) [] E<|gf (gF 0)<|gf (gF 1) m9) Qw) (Qy<|vz (SA K a (λ_ _=>True) Cz) [] E<|gf (gF 0)<|gf (gF 1) m9) {nx:= λ_ U=>Q .gQ U,rt:=Q} [some<|.ref l,some<|.int p,some<|.int<|bt (nb b) p] H:= λh=>by
   rw[az λz=>z.elim c2 h]at k;calc⟨_,Y,Y,decide<|bt (nb b) p=34,'s',?_⟩;by_cases c4:bt (nb b) p=34
   .rw[aG c4]at k;exact qS (aR c4) ⟨_,Y,_,Y,l,b,p,Y,hS,hb,hp,trivial,k⟩
   .rw[az c4]at k;exact o7 (dF c4) ⟨_,Y,_,Y,l,b,p,Y,hS,hb,hp,trivial,k⟩
  calc⟨_,Y,Y,decide<|bt (nb b) p=45,'s',?_⟩;by_cases c3:bt (nb b) p=45
  .calc qS (aR c3) ?_;calc⟨_,Y,_,Y,_,_,Y,Y,l,nb b,p+1,Y,hS,trivial,_,Y,_,Y,?_⟩;by_cases c4:yd (bt (nb b)<|p+1)=true
   .exact qS c4 ⟨_,Y,_,Y,l,b,p,Y,hS,hb,hp,.inl ⟨c3,c4⟩,num<|.inr ⟨c3,c4⟩⟩
   .exact o7 c4 (rest λz=>c4 z.2)
  .exact o7 (dF c3) (rest λz=>c3 z.1)
theorem ZX{r:List UInt8}{c:UInt8}(h:CU r=some (c,k)):k<=r.length:=by
 unfold CU at h;repeat' split at h
 all_goals first
  |(cases h;done)
  |(cases h;simp only[ay];lia)
theorem Si:∀(n:Nat) (r:List UInt8) (t:List UInt8) (k:Nat),quoted n r=some (t,k)->1<=k/\k<=r.length:=by
 intro n;induction n with
 |zero=>intro r t k h;unfold quoted at h;cases h
 |succ n ih=>
  intro r t k h;cases r with
  |nil=>unfold quoted at h;cases h
  |cons c r=>
   unfold quoted at h;rw[ay];split at h
   .cases h;lia
   .split at h
    .cases h
    .split at h
     .cases e:CU r with
      |none=>rw[e]at h;cases h
      |some x=>
       let⟨d,j⟩:=x;rw[e]at h;have hj:=ZX e;dsimp only at h;cases q:quoted n (r.drop j)with
       |none=>rw[q]at h;cases h
       |some y=>
        let⟨t',k'⟩:=y;have hk:=ih _ _ _ q;rw[bN]at hk;rw[q]at h;cases h;dsimp only
        lia
     .cases q:quoted n r with
      |none=>rw[q]at h;cases h
      |some y=>
       let⟨t',k'⟩:=y;have hk:=ih _ _ _ q;rw[q]at h;cases h;dsimp only
       lia
theorem YS{f:UInt8->Bool}{c:UInt8}{r:List UInt8}(h:f c=true):1<=((c::r).takeWhile f).length:=by
 rw[iY,aG h,ay]
 lia
def SM{f:UInt8->Bool}{l:List UInt8}:(l.takeWhile f).length<=l.length:=(pO f).length_le
theorem Ii{l:List UInt8}{t:eF}(h:gj l=some (t,k)):1<=k/\k<=l.length:=by
 cases l with
 |nil=>cases h
 |cons c r=>
  unfold gj at h;dsimp only at h;split at h
  .rename_i c1;split at h
   .cases h
   .cases h;exact⟨YS<|by rw[c1];rfl,SM⟩
  .split at h
   .rename_i c2;cases e:kC false ((c::r).takeWhile bO)with
    |none=>rw[e]at h;cases h
    |some n=>
     rw[e]at h;cases h;exact⟨YS c2,SM⟩
   .split at h
    .split at h
     .rename_i hh;cases h;cases r with
      |nil=>cases hh
      |cons d r=>rw[ay,ay];lia
     .cases e:kC true (r.takeWhile bO)with
      |none=>rw[e]at h;cases h
      |some n=>
       rw[e]at h;cases h;have:=SM (f:=bO) (l:=r);rw[ay]
       lia
    .split at h
     .split at h
      .rename_i hh;cases h;cases r with
       |nil=>cases hh
       |cons d r=>rw[ay,ay];lia
      .cases h
     .split at h
      .cases e:quoted (r.length+1) r with
       |none=>rw[e]at h;cases h
       |some y=>
        let⟨t',k'⟩:=y;have:=Si _ _ _ _ e;rw[e]at h;dsimp only at h;split at h
        .cases h
        .cases h;rw[ay]
         lia
      .split at h
       .cases h;rw[ay]
        lia
       .cases h
theorem Xg:∀(k n m at_:Nat) (l:List UInt8),l.length<=k->l.length<n->l.length<m->lex n at_ l=lex m at_ l:=by
 intro k;induction k with
 |zero=>
  intro n m at_ l h0 G h2;cases l with
  |nil=>cases n with
   |zero=>lia
   |succ n=>cases m with
    |zero=>lia
    |succ m=>rfl
  |cons c r=>simp at h0
 |succ k ih=>
  intro n m at_ l h0 G h2;cases n with
  |zero=>lia
  |succ n=>cases m with
   |zero=>lia
   |succ m=>
    cases l with
    |nil=>rfl
    |cons c r=>
     rw[ay]at h0 G h2;unfold lex;rw[ih n m (at_+1) r 'l' 'l' 'l'];have dw:(r.dropWhile (· !=10)).length<=r.length:=(QI _).length_le;rw[ih n m (at_+1+(r.takeWhile (· !=10)).length) (r.dropWhile (· !=10)) 'l' 'l' 'l'];cases e:gj (c::r)with
     |none=>rfl
     |some y=>
      let⟨t,j⟩:=y;have hj:=Ii e;dsimp only;rw[ih n m (at_+j) ((c::r).drop j) (by rw[bN,ay];lia) (by rw[bN,ay];lia)<|by rw[bN,ay];lia]
def AG(b:List UInt8)(p:Nat):Except Fault cU:=lex ((b.drop p).length+1) p (b.drop p)
def Xf(h:b.length<=p):AG b p= .ok [⟨p,.halt_⟩]:=by
 unfold AG;rw[gU h];rfl
def Np(c:UInt8):kH c=NN c.toNat:=by
 have k:∀d:UInt8,(c==d)=(c.toNat==d.toNat):= λd=>by
  rw[cK,iM,iM];exact⟨λh=>by rw[h],λh=>g8.mp h⟩
 unfold kH NN;rw[k,k,k];rfl
def E1(hp:p<b.length):AG b p=if kH b[p]=true then AG b (p+1)else if b[p]=35 then AG b (jz (nb b)<|p+1)else match gj (b.drop p)with
  |none=> .error ⟨2,p⟩
  |some (t,k)=>(AG b<|p+k).map λl=>⟨p,t⟩::l:=by
 have hd:b.drop p=b[p]::b.drop (p+1):=bx hp;have rm:jz (nb b) (p+1)=p+1+((b.drop<|p+1).takeWhile (· !=10)).length:=by
  unfold jz;rw[←Dq,Xv (· !=10) (· !=10) λc=>?_,gP];rw[cK,bne_iff_ne,bne_iff_ne];exact⟨λh z=>h<|by rw[z];rfl,λh z=>h<|g8.mp z⟩
 have dw:∀l:List UInt8,l.dropWhile (· !=10)=l.drop ((l.takeWhile (· !=10)).length):=by
  intro l;conv=>rhs;arg 2;rw[←List.takeWhile_append_dropWhile (p:=(· !=10)) (l:=l)]
  rw[Zt]
 unfold AG;conv=>lhs;arg 3;rw[hd]
 conv=>lhs;unfold lex
 rw[←hd];have f1:∀(q:Nat) (l:List UInt8),l.length<(b.drop p).length->lex (b.drop p).length q l=lex (l.length+1) q l:= λq l h=>Xg _ _ _ _ _ (aT _) h 'o';by_cases c1:kH b[p]=true
 .rw[aG c1,aG c1,f1 _ _<|by rw[bN,bN];omega]
 .rw[az c1,az c1];by_cases c2:b[p]=35
  .rw[aG<|~~~c2,aG c2,dw,iJ,rm,f1 _ _<|by rw[bN,bN];omega]
  .rw[az<|~~~c2,az c2];cases e:gj (b.drop p)with
   |none=>rfl
   |some y=>
    let⟨t,k⟩:=y;have hk:=Ii e;rw[bN]at hk;dsimp only;rw[iJ,f1 _ _<|by rw[bN,bN];omega]
def TN(b:List UInt8):∀(n p:Nat),b.length-p<=n->AG b p=AG b (kJ (nb b) p):=by
 intro n;induction n with
 |zero=>
  intro p h;rw[Cb<|by rw[gP];omega]
 |succ n ih=>
  intro p h;by_cases hp:p<b.length
  .have hp':p<(nb b).length:=by rw[gP];exact hp
   have ev:(nb b)[p]=(b[p]).toNat:=vG (f:=G6) (l:=b) ..;by_cases c1:kH b[p]=true
   .rw[E1 hp,aG c1,HU hp'<|by rw[ev,←Np];exact c1];exact ih (p+1) 'o'
   .by_cases c2:b[p]=35
    .have e35:(nb b)[p]=35:=by rw[ev,c2];rfl
     have g:=J6 (nb b)<|p+1;rw[E1 hp,az c1,aG c2,Nn hp' e35,uX hp'<|by rw[e35];decide];exact ih _ 'o'
    .rw[Nq hp' (by rw[ev,←Np];simpa using c1) (by
      rw[ev];intro z;exact c2<|g8.mp z)]
  .rw[Cb<|by rw[gP];omega]
def HS(t:List Nat):∀(n p:Nat),t.length-p<=n->kJ t (kJ t p)=kJ t p/\(p<=t.length->kJ t p<=t.length)/\p<=kJ t p:=by
 intro n;induction n with
 |zero=>
  intro p h;rw[Cb (t:=t) (p:=p) 'o'];exact⟨Cb 'o',λh=>h,aT _⟩
 |succ n ih=>
  intro p h;by_cases hp:p<t.length
  .by_cases c1:NN t[p]=true
   .rw[HU hp c1];let⟨x,y,z⟩:=ih (p+1) 'o';exact⟨x,λ_=>y 'o','o'⟩
   .by_cases c2:t[p]=35
    .have g:=J6 t<|p+1;have st:=uX hp (by rw[c2];decide);rw[Nn hp c2];let⟨x,y,z⟩:=ih (jz t p) 'o';exact⟨x,λ_=>y<|Yl 'o','o'⟩
    .have e:=Nq hp (~~~c1) c2;rw[e];exact⟨e,λh=>h,aT _⟩
  .rw[Cb (t:=t) (p:=p) 'o'];exact⟨Cb 'o',λh=>h,aT _⟩
section
variable{C m q':Str} {st Q8:b5} {fs ps':List Str} {t:TA} {pos:Pos} {pl:Sem Bool} {F:O}
def qG(TC:Iw X.K X.mg a C q st ps fs)(TM:Lo X.K a C m q' Q8 ps')(atG:nQ X.prog X.w X.K X.mg X.base QX k (a.f q') (a.d q') ps' sp)(hr:ia k X.A)(he:PE X o ta)(ha:PA X (e::es) t)
  (A0:starEach (e::es) X.env=(false,eval e X.env)::starEach es X.env:=by rfl)(yc:(backTo pos<|starEach es X.env).any (·.1)=false:=by rfl)
  (ht:eval (.Call (.Attribute o m kh) (e::es) [] pos) X.env=(do
   let ov←eval o X.env
   standAt kh.atName
   let(f,first)←holding [ov] (getMethod ov m pl)
   callWith pos f first (backTo pos (starEach (e::es) X.env)) (K4 pos (xK [] X.env))):=by rfl):
  PE X (.Call (.Attribute o m kh) (e::es) [] pos) (MV (a.c C) m sp [] E0 ta t):=T7 he TC.cl TM.mt atG hr TM.b .nil Gn ha A0 yc ht
def iw(TC:Iw X.K X.mg a C q st ps fs)(TM:Lo X.K a C m q' Q8 ps')(atG:nQ X.prog X.w X.K X.mg X.base QX k (a.f q') (a.d q') ps' sp)(hr:ia k X.A)(he:PE X o ta)
  (ht:eval (.Call (.Attribute o m kh) [] [] pos) X.env=(do
   let ov←eval o X.env
   standAt kh.atName
   let(f,first)←holding [ov] (getMethod ov m pl)
   callWith pos f first (backTo pos (starEach [] X.env)) (K4 pos (xK [] X.env))):=by rfl):
  PE X (.Call (.Attribute o m kh) [] [] pos) (MV (a.c C) m sp [] E0 ta m9):=XQ he TC.cl TM.mt atG hr TM.b .nil Gn ht
def N6{x:Str}{p:Pos}(hx:Passes (pU X.prog X.w F) X E)(T:jw X.K X.mg a x st ps)(atG:nQ X.prog X.w X.K X.mg X.base (pU X.prog X.w F) k (a.f x) (a.d x) ps sp)(hr:ia k X.A)(ha:PA X (e::es) t) (hg:Gl X x:=by rfl)(ER:(x==("__debug__":Str))=false:=by decide)(he:starEach (e::es) X.env=(false,eval e X.env)::starEach es X.env:=by rfl)(yc:(backTo pos<|starEach es X.env).any (·.1)=false:=by rfl):PE X (.Call (.Name x p) (e::es) [] pos)<|vz sp [] E t:=N8 atG hr hg T.m T.fn.kp T.b .nil hx ha ER he yc
end
section
variable{Cf:O} {A:gZ} {s:aP} {C m q':Str} {st Q8:b5} {fs ps':List Str} {t:TA} {pos:Pos} {pl:Sem Bool}
def gJ(TC:Iw K mg a C q st ps fs)(TM:Lo K a C m q' Q8 ps')(atG:nQ P w K mg base (pU P w Cf) k (a.f q') (a.d q') ps' sp)(hr:ia k (jF (pU P w Cf) P w K mg base N qual scope f cd A outer s H E).A)(he:PE (jF (pU P w Cf) P w K mg base N qual scope f cd A outer s H E) o ta)
  (ha:PA (jF (pU P w Cf) P w K mg base N qual scope f cd A outer s H E) (e::es) t)
  (A0:starEach (e::es) (jF (pU P w Cf) P w K mg base N qual scope f cd A outer s H E).env=(false,eval e (jF (pU P w Cf) P w K mg base N qual scope f cd A outer s H E).env)::starEach es (jF (pU P w Cf) P w K mg base N qual scope f cd A outer s H E).env:=by rfl)
  (yc:(backTo pos<|starEach es (jF (pU P w Cf) P w K mg base N qual scope f cd A outer s H E).env).any (·.1)=false:=by rfl)
  (ht:eval (.Call (.Attribute o m kh) (e::es) [] pos) (jF (pU P w Cf) P w K mg base N qual scope f cd A outer s H E).env=(do
   let ov←eval o (jF (pU P w Cf) P w K mg base N qual scope f cd A outer s H E).env
   standAt kh.atName
   let(f',first)←holding [ov] (getMethod ov m pl)
   callWith pos f' first (backTo pos (starEach (e::es) (jF (pU P w Cf) P w K mg base N qual scope f cd A outer s H E).env)) (K4 pos (xK [] (jF (pU P w Cf) P w K mg base N qual scope f cd A outer s H E).env))):=by rfl):
  PE (jF (pU P w Cf) P w K mg base N qual scope f cd A outer s H E) (.Call (.Attribute o m kh) (e::es) [] pos) (MV (a.c C) m sp [] E ta t):=T7 he TC.cl TM.mt atG hr TM.b .nil acf ha A0 yc ht
end
inductive fE {α β:Type} (R:α->β->Prop):List α->List β->Prop
 |nil:fE R [] []
 |cons {x:α} {y:β} {xs:List α} {ys:List β}:R x y->fE R xs ys->fE R (x::xs) (y::ys)
section
variable{R atE:α->β->Prop}
def fE.len:∀{xs:List α} {ys:List β},fE R xs ys->xs.length=ys.length
 |_,_,.nil=>rfl
 |_,_,.cons _ t=>by rw[ay,ay,t.len]
def fE.mono(h:∀x y,R x y->atE x y):∀{xs:List α} {ys:List β},fE R xs ys->fE atE xs ys
 |_,_,.nil=> .nil
 |_,_,.cons r t=> .cons (h _ _ r) (t.mono h)
def fE.snoc{x:α}{y:β}(r:R x y):∀{xs:List α} {ys:List β},fE R xs ys->fE R (xs++[x]) (ys++[y])
 |_,_,.nil=> .cons r .nil
 |_,_,.cons h t=> .cons h (t.snoc r)
def fE.get:∀{xs:List α} {ys:List β},fE R xs ys->∀{i:Nat} {y:β},ys[i]? =some y->∃x,xs[i]? =some x/\R x y
 |_,_,.nil,i,y,e=>by simp at e
 |_,_,.cons r t,0,y,e=>by
  obtain rfl:=aL e;exact⟨_,Y,r⟩
 |_,_,.cons r t,i+1,y,e=>t.get (i:=i) (~~~e)
def fE.get':∀{xs:List α} {ys:List β},fE R xs ys->∀{i:Nat} {x:α},xs[i]? =some x->∃y,ys[i]? =some y/\R x y:=by
 intro xs ys h;induction h with
 |nil=>intro i x e;simp at e
 |cons r t ih=>
  intro i x e;cases i with
  |zero=>
   obtain rfl:=aL e;exact⟨_,Y,r⟩
  |succ i=>exact ih (~~~e)
def At.sm(h:At C H x fs)(s:Sm D H U)(n:x≠D):At C U x fs:=let⟨dx,q⟩:=h;⟨dx,s _ _ n q⟩
def At.yK(h:At C H x fs)(q:H D=some (.lst ys)):x≠D:= λe=>by
 let⟨dx,z⟩:=h;rw[e,q]at z;cases z
end
inductive Tk (a:g9) (H:Hp) (x:O) (t:mF):Prop
 |mk (q:_) (k0:qC a H x t.tok t.place q)
def Tk.same{t:mF}(h:Tk a H x t)(s:aN H U):Tk a U x t:=let⟨q,h⟩:=h;⟨q,At.same h s⟩
def Tk.sm{t:mF}(h:Tk a H x t)(s:Sm D H U)(n:x≠D):Tk a U x t:=let⟨q,h⟩:=h;⟨q,At.sm h s n⟩
def Tk.yK{t:mF}(h:Tk a H x t)(q:H D=some (.lst ys)):x≠D:=let⟨_,h⟩:=h;At.yK h q
inductive aeU (K:aJ) (a:g9) (S:List V) (H:Hp) (Q:VK) (E:XK):Prop
 |mk (l:O) (b:List UInt8) (k0:S=[.ref l]) (k1:cP K H l (iv (nb b))) (k2:b.length<=4096) (k3:(match HM (b.length+1) 0 b with
 | .ok ts=>∀D rs U,aN H U->H D=none->U D=some (.lst<|rs.map V.ref)->fE (Tk a U) rs ts->Q (.ref D) U
 | .error f=>t7 (a.c "Fault") E H f.code f.place))
theorem N3(T:Txt K mg a):yb P w K mg base 7 a "tokens_of" ["text"]<|aeU K a:=by
 refine Ak T.MY.fn Ec ?_ ?_
 .right
 .ext⟨l,b,rfl,hS,hb,k⟩;have nd:=Ec.nd;refine⟨_,aj (iy 1 nd<|cg iI)<|aj (iy 2 nd<|c8 T.zS (yQ T) hr.mn<|aD (J 0)<|bM bR)<|aj (iV dG (cu yR (J 2) (cy bQ 'r' T.gB bC<|bM<|J 0)<|dh _)<|aj (iy 3 nd<|eB T.J5 (LD T) hr.mn<|aD (J 0)<|bM<|J 2)<|aj (bV<|gR aM bh bw d9 (J 1)<|bM<|J 3)<|aF<|iy 2 nd<|c8 T.zS (yQ T) hr.mn<|aD (J 0)<|bM<|bE T.Token<|J 3)<|aj (bV<|gR aM bh bw d9 (J 1)<|bM<|oq T.Token (yN T) hr.mn<|aD (CY "ending" T)<|aD cQ<|aD (J 2)<|bM<|J 2)<|aF<|bq<|J 1,?_⟩
  left
  have lx:HM (b.length+1) 0 b=AG b 0:=rfl;rw[lx]at k;calc⟨jH 0,λD nD=>?_⟩;have s0:aN H<|upd H D<|.lst []:=aN.new nD;calc⟨_,Y,l,nb b,0,Y,s0.seq hS,b7 _,?_⟩;let⟨i1,i2,i3⟩:=HS (nb b) _ 0<|aT _;refine oH b.length (λq Z U=>X3 λ(v:Option V) (rs:List O) (pre:cU)=>A7 (Z=[some<|.ref l,some<|.ref D,some<|.int q,v]) (aN H U) (U D=some (.lst<|rs.map V.ref)) (fE (Tk a U) rs pre) (pre.length<=q) (kJ (nb b) q=q) (AG b 0=(AG b q).map (pre++·))) (kJ (nb b) 0) (by have:=i2<|b7 _;rwa[gP]at this)
   ⟨none,[],[],Y,s0,aq,.nil,b7 _,i1,by rw[←TN b _ 0 (aT _)];cases AG b 0<;>rfl⟩ ?_
  rintro q Z U hq ⟨v,rs,pre,rfl,sm,hD,al,hp,bl,e⟩;calc⟨_,Y,_,Y,l,_,Y,.inl<|sm.seq hS,_,_,Y,Y,_,Y,?_⟩;by_cases z:q<b.length
  .calc oG (by rw[Co,gP];exact aR 'l') hq ?_;calc⟨_,Y,_,Y,l,b,q,Y,sm.seq hS,hb,z,trivial,?_⟩;have op:=E1 z;have hz:q<(nb b).length:=by rw[gP];exact z
   have ev:(nb b)[q]=(b[q]).toNat:=vG (f:=G6) (l:=b) ..;have c1:¬kH b[q]=true:= λc=>by
    have:=HU hz (by rw[ev,←Np];exact c);have h3:=(HS (nb b) _ (q+1)<|aT _).2.2
    lia
   have c2:¬b[q]=35:= λc=>by
    have e35:(nb b)[q]=35:=by rw[ev,c];rfl
    have G:=Nn hz e35;have h2:=uX hz (by rw[e35];decide);have h3:=J6 (nb b)<|q+1;have h4:=(HS (nb b) _ (jz (nb b) q)<|aT _).2.2
    lia
   rw[az c1,az c2]at op;show(match gj (b.drop q)with
    |some (k,n)=>∀x H2,aN U H2->qC a H2 x k q (q+n)->_
    |none=>t7 (a.c "Fault") E U 2 q)
   cases tk:gj (b.drop q)with
   |none=>
    rw[tk]at op;rw[e,op]at k;exact t7.same k sm
   |some y=>
    let⟨t,n⟩:=y;rw[tk]at op;have hn:=Ii tk;rw[bN]at hn;have op:AG b q=(AG b<|q+n).map λl=>⟨q,t⟩::l:=op;show∀x H2,aN U H2->qC a H2 x t q (q+n)->_;intro x H2 s2 ZE;have pP:=s2 _ _ hD;refine⟨_,Y,.inl ⟨Y,_,cP.of pP⟩,_,Y,D,_,_,Y,Y,pP,?_,?_⟩
    .rw[ai,al.len,aW];lia
    .have s3:Sm D H2<|upd H2 D<|.lst<|rs.map V.ref++[.ref x]:=Sm.upd;have L8:qC a (upd H2 D<|.lst<|rs.map V.ref++[.ref x]) x t q<|q+n:=At.sm ZE s3<|At.yK ZE pP;have Kz:aN H<|upd H2 D<|.lst<|rs.map V.ref++[.ref x]:=((sm.trans s2).sm D|>.trans s3).all nD;calc⟨_,Y,_,Y,x,_,_,Y,L8,Y,l,nb b,q+n,Y,Kz.seq hS,by show q+n<=(nb b).length;rw[gP];lia,?_⟩;let⟨j1,j2,j3⟩:=HS (nb b) _ (q+n)<|aT _;refine⟨kJ (nb b)<|q+n,'l',by have:=j2 (by rw[gP];lia);rwa[gP]at this,some<|.ref x,rs++[x],pre++[⟨q,t⟩],Y,Kz,?_,?_,?_,j1,?_⟩
     .rw[bP];exact aq
     .calc fE.snoc ⟨_,L8⟩<|al.mono λy u h=>?_;have h2:=h.same s2;exact h2.sm s3 (h2.yK pP)
     .rw[ak,aI];lia
     .rw[e,op,←TN b _ (q+n) (aT _)];cases AG b (q+n)with
      |error f=>rfl
      |ok l=>show fS (pre++⟨q,t⟩::l)=fS (pre++[⟨q,t⟩]++l);rw[cC];rfl
  .calc kK (by rw[Co,gP];exact bB 'l') ?_;have eq:q=b.length:=by lia
   rw[Xf (p:=q) 'l']at e;rw[e]at k;calc⟨_,Y,.inl ⟨Y,_,cP.of hD⟩,_,Y,_,Y,Y,λx H2 s2 nx ZE=>?_⟩;have pP:=s2 _ _ hD;have ZE:qC a H2 x .halt_ q q:=ZE;calc⟨D,_,_,Y,Y,pP,by rw[ai,al.len,aW];lia,_,Y,?_⟩;have s3:Sm D H2<|upd H2 D<|.lst<|rs.map V.ref++[.ref x]:=Sm.upd;calc k D (rs++[x]) _ (((sm.trans s2).sm D|>.trans s3).all nD) nD (by rw[bP];exact aq) ?_;calc fE.snoc ⟨q,At.sm ZE s3<|At.yK ZE pP⟩<|al.mono λy u h=>?_;have h2:=h.same s2;exact h2.sm s3 (h2.yK pP)
def Ln(a:g9)(C:O):Prop:=∀y∈cM,C≠a.c y
structure Kp (a:g9) (A:O->Prop) (H U:Hp):Prop where
 ins:∀x C dx fs,Ln a C->H x=some (.ins C dx fs)->U x=some (.ins C dx fs)
 tup:∀x ts,H x=some (.tup ts)->U x=some (.tup ts)
 lst:∀x ts,A x->H x=some (.lst ts)->U x=some (.lst ts)
 dic:∀x ts,A x->H x=some (.dK ts)->U x=some (.dK ts)
def Kp.same(s:aN H U):Kp a A H U:=⟨λx _ _ _ _=>s x _,λx _=>s x _,λx _ _=>s x _,λx _ _=>s x _⟩
def Kp.trans(x:Kp a A H L)(y:Kp a A L U):Kp a A H U:=⟨λz C dx fs i q=>y.ins z C dx fs i<|x.ins z C dx fs i q,λz ts q=>y.tup z ts<|x.tup z ts q,λz ts i q=>y.lst z ts i<|x.lst z ts i q,λz ts i q=>y.dic z ts i<|x.dic z ts i q⟩
def Kp.mono(x:Kp a A H U)(h:∀z,B z->A z):Kp a B H U:=⟨x.ins,x.tup,λz ts i=>x.lst z ts<|h z i,λz ts i=>x.dic z ts<|h z i⟩
def Kp.mut(s:Sm D H U)(e:H D=some (.ins C dx fs))(n:¬Ln a C):Kp a A H U:=⟨λx C' Te Zf i q=>s x _ (λz=>by rw[z,e]at q;cases q;exact n i) q,λx ts q=>s x _ (λz=>by rw[z,e]at q;cases q) q,λx ts _ q=>s x _ (λz=>by rw[z,e]at q;cases q) q,λx ts _ q=>s x _ (λz=>by rw[z,e]at q;cases q) q⟩
def Kp.Ly(s:Sm D H U)(e:H D=some (.lst ys)):Kp a (·≠D) H U:=⟨λx C' Te Zf i q=>s x _ (λz=>by rw[z,e]at q;cases q) q,λx ts q=>s x _ (λz=>by rw[z,e]at q;cases q) q,λx ts n q=>s x _ n q,λx ts n q=>s x _ n q⟩
def Kp.agR{ys:List (Key×V)}(s:Sm D H U)(e:H D=some (.dK ys)):Kp a (·≠D) H U:=⟨λx C' Te Zf i q=>s x _ (λz=>by rw[z,e]at q;cases q) q,λx ts q=>s x _ (λz=>by rw[z,e]at q;cases q) q,λx ts n q=>s x _ n q,λx ts n q=>s x _ n q⟩
def At.kp(h:At C H x fs)(i:Ln a C)(k:Kp a A H U):At C U x fs:=let⟨dx,q⟩:=h;⟨dx,k.ins x C dx fs i q⟩
def Txt.ok(T:Txt K mg a)(x:Str)(h:x∈cF:=by decide):Ln a<|a.c x:=T.imm x h
def R4(x:Str)(h:x∈cM:=by decide):¬Ln a (a.c x):= λi=>i x h Y
def Tk.kp{t:mF}(h:Tk a H x t)(i:Ln a<|a.c "Token")(k:Kp a A H U):Tk a U x t:=let⟨q,h⟩:=h;⟨q,At.kp h i k⟩
inductive kE (a:g9) (H:Hp) (r tl:O) (l:cU):Prop
 |mk (rs:List O) (all:cU) (j:Nat) (k0:At (a.c "Reader") H r [("tokens",.ref tl),("at",.int (j:Int))]) (k1:H tl=some (.lst (rs.map V.ref))/\fE (Tk a H) rs all/\l=all.drop j/\all.length<=4097/\Ends l/\okC l)
section
variable{tl:O}
def kE.same(h:kE a H r tl l)(s:aN H U):kE a U r tl l:=let⟨rs,all,j,G,h2,h3,h4⟩:=h;⟨rs,all,j,G.same s,s _ _ h2,h3.mono λ_ _ t=>t.same s,h4⟩
def kE.Ly(h:kE a H r tl l)(s:Sm D H U)(e:H D=some (.lst ys))(n:tl≠D):kE a U r tl l:=let⟨rs,all,j,G,h2,h3,h4⟩:=h;⟨rs,all,j,G.sm s<|G.yK e,s _ _ n h2,h3.mono λ_ _ t=>t.sm s<|t.yK e,h4⟩
def kE.at(h:kE a H r tl l):∃dx fs,H r=some (.ins (a.c "Reader") dx fs):=let⟨_,_,_,⟨dx,h⟩,_⟩:=h;⟨dx,_,h⟩
def kE.VQ(h:kE a H r tl l):∃ys,H tl=some (.lst ys):=let⟨_,_,_,_,h,_⟩:=h;⟨_,h⟩
def kE.ends(h:kE a H r tl l):Ends l:=let⟨_,_,_,_,_,_,_,_,h,_⟩:=h;h
def kE.codes(h:kE a H r tl l):okC l:=let⟨_,_,_,_,_,_,_,_,_,h⟩:=h;h
def kE.kp(h:kE a H r tl l)(s:Sm r H L):Kp a A H L:=let⟨_,_,e⟩:=h.at; .mut s e (R4 "Reader")
def kE.free{z:O}(s:Sm r H L)(h:kE a L r tl l1)(n:L z=none):H z=none:=by
 cases q:H z with
 |none=>rfl
 |some o=>
  by_cases e:z=r
  .let⟨dx,fs,q2⟩:=h.at;rw[e,q2]at n;cases n
  .rw[s z o e q]at n;cases n
def jv(C r:O)(E:XK)(H:Hp)(c p:Int):Prop:=∀dx U,Sm r H U->U dx=some (.xd<|ff c p)->E (.ref C) (some dx) U
def jv.sm{p:Int}(h:jv C r E H c p)(s:Sm r H U):jv C r E U c p:= λdx H2 s2 q=>h dx H2 (s.trans s2) q
def jv.same{p:Int}(h:jv C r E H c p)(s:aN H U):jv C r E U c p:=h.sm (s.sm r)
def jv.at{p:Int}(h:jv C r E H c p):∀dx,H dx=none->E (.ref C) (some dx) (upd H dx<|.xd<|ff c p):= λdx n=>h dx _ ((aN.new n).sm r) aq
def Pu:eF->Str
 | .name b=>sw (nb b)
 | .sign c=>oB c
 |_=>""
noncomputable def codes:List Nat:=[1,2,61,123,125,40,41,91,93,44,59,58,33,63,124]
noncomputable def IA:eF->Bool
 | .name b=>dH.contains b
 | .sign c=>codes.contains c
 |_=>false
def MS:∀c∈codes,∀b∈dH,oB c≠sw (nb b):='d'
def Yr:∀c∈codes,∀d∈codes,oB c=oB d->c=d:='d'
noncomputable def F0(t:mF)(z:Str):Bool:=decide (kindOf t.tok="fixed")&&decide (valOf t.tok= .str z)
def str_inj{x:Str}(h:V.str x= .str y):x=y:=by cases h;rfl
def adR:¬("number":Str)="fixed":='d'
def alW:¬("quoted":Str)="fixed":='d'
def ahR:¬("ending":Str)="fixed":='d'
def alV:¬("name":Str)="fixed":='d'
def Tf{t:mF}(h:IA tk=true)(o:∀c,t.tok= .sign c->c∈codes):F0 t (Pu tk)=(t.tok==tk):=by
 let⟨p,t⟩:=t;unfold F0;rw[cK,bI,aU,aU,iM];dsimp only at o⊢;constructor
 .rintro ⟨G,h2⟩;cases t with
  |num n=>exact absurd G adR
  |text b=>exact absurd G alW
  |halt_=>exact absurd G ahR
  |name b=>
   have G:(if dH.contains b=true then("fixed":Str)else "name")="fixed":=G;by_cases z:dH.contains b=true
   .have e:sw (nb b)=Pu tk:=str_inj h2;cases tk with
    |name c=>rw[Jt<|Ow e]
    |sign c=>exact absurd e.symm (MS c (by simpa [IA]using h) b<|~~~z)
    |num _=>cases h
    |text _=>cases h
    |halt_=>cases h
   .rw[az z]at G;exact absurd G alV
  |sign c=>
   have e:oB c=Pu tk:=str_inj h2;cases tk with
   |name b=>exact absurd e (MS c (o c Y) b<|by simpa [IA]using h)
   |sign d=>rw[Yr c (o c Y) d (by simpa [IA]using h) e]
   |num _=>cases h
   |text _=>cases h
   |halt_=>cases h
 .rintro rfl;cases t with
  |num _=>cases h
  |text _=>cases h
  |halt_=>cases h
  |name b=>exact⟨aG h,Y⟩
  |sign c=>exact⟨Y,Y⟩
end
inductive aaS (a:g9) (S:List V) (H:Hp) (Q:VK) (rq:XK):Prop
 |mk (r tl t rest:_) (k0:S=[.ref r]) (k1:kE a H r tl (t::rest)) (k2:∀x,Tk a H x t->Q (.ref x) H)
inductive aa6 (a:g9) (S:List V) (H:Hp) (Q:VK) (rq:XK):Prop
 |mk (r tl t rest z:_) (k0:S=[.ref r,.str z]) (k1:kE a H r tl (t::rest)) (k2:Q (.bl (decide (kindOf t.tok=z))) H)
inductive aeR (a:g9) (S:List V) (H:Hp) (Q:VK) (rq:XK):Prop
 |mk (r tl t rest z:_) (k0:S=[.ref r,.str z]) (k1:kE a H r tl (t::rest)) (k2:Q (.bl (F0 t z)) H)
def Taken(a:g9)(H:Hp)(r tl:O)(t:mF)(rest:cU)(Q:VK):Prop:=∀x U,Sm r H U->kE a U r tl rest->Tk a U x t->Q (.ref x) U
inductive aeS (a:g9) (S:List V) (H:Hp) (Q:VK) (rq:XK):Prop
 |mk (r tl t rest:_) (k0:S=[.ref r]) (k1:kE a H r tl (t::rest)) (k2:t.tok≠ .halt_) (k3:Taken a H r tl t rest Q)
inductive aa9 (a:g9) (S:List V) (H:Hp) (Q:VK) (E:XK):Prop
 |mk (r tl t rest z:_) (k0:S=[.ref r,.str z]) (k1:kE a H r tl (t::rest)) (k2:(kindOf t.tok=z->t.tok≠ .halt_)) (k3:(if kindOf t.tok=z then Taken a H r tl t rest Q else jv (a.c "Fault") r E H 3 t.place))
inductive Up (K:aJ) (a:g9) (S:List V) (H:Hp) (Q:VK) (E:XK):Prop
 |mk (r tl:O) (t:mF) (rest:cU) (w:O) (ws:List Str) (k0:S=[.ref r,.ref w]) (k1:kE a H r tl (t::rest)) (k2:H w=some (.tup (ws.map V.str))) (k3:(if ws.any (F0 t)=true then Taken a H r tl t rest Q else jv (a.c "Fault") r E H 3 t.place))
inductive aaX (a:g9) (S:List V) (H:Hp) (Q:VK) (E:XK):Prop
 |mk (r tl l tk z:_) (k0:S=[.ref r,.str z]) (k1:z=Pu tk) (k2:IA tk=true) (k3:kE a H r tl l) (k4:(match take tk l with
 | .ok l'=>∀v U,Sm r H U->kE a U r tl l'->Q v U
 | .error f=>jv (a.c "Fault") r E H f.code f.place))
def Tv(x:Str):∀ws:List Str,Jb (.str x) (ws.map V.str)=ws.any λz=>decide (V.str x= .str z)
 |[]=>rfl
 |z::ws=>by
  show(QZ (.str z) (.str x)||Jb (.str x) (ws.map V.str))=_;rw[Tv x ws,eS];congr 1;show(z==x)=_;rw[cK,iM,aU];exact⟨λe=>by rw[e],λe=>(str_inj e).symm⟩
def VM(ws:List Str):(ws.map V.str).all sY=true:=by
 rw[acB,dO];exactλ_ _=>rfl
def jD(T:Txt K mg a):jM P w K mg base 1 a "Reader.ahead" ["self"]<|aaS a:=by
 refine T.ki.fn.ok Hy ?_ ?_
 .right
 .ext⟨r,tl,t,rest,rfl,⟨rs,all,j,hR,A1,al,el,_⟩,k⟩;refine⟨_,aF<|bq<|dj ck (bE T.Reader<|J 0) (bE T.Reader<|J 0) λ_ _=>rfl,?_⟩
  left
  have e:all[j]? =some t:=by
   have:=congrArg (λl=>l[0]?) el;simpa using this.symm
  let⟨x,hx,tk⟩:=al.get e;exact⟨_,Y,r,_,_,Y,hR,Y,_,Y,r,_,_,Y,hR,Y,tl,_,_,_,Y,Y,cP.of A1,cJ<|by rw[aH,hx];rfl,k x tk⟩
def iT(T:Txt K mg a):jM P w K mg base 2 a "Reader.sees_kind" ["self","kind"]<|aa6 a:=by
 refine T.jb.fn.ok AK ?_ ?_
 .right
 .ext⟨r,tl,t,rest,z,rfl,hR,k⟩;refine⟨_,aF<|bq<|pR iU (bE T.Token<|iw T.Reader T.ki (jD T) hr.mn<|J 0) (J 1)<|dh _,?_⟩
  left
  let⟨dx,fs,EU⟩:=id hR.at;let⟨_,_,_,⟨Te,kZ⟩,_⟩:=id hR;calc⟨_,Y,r,_,_,Y,kZ,Y,r,tl,t,rest,Y,hR,λx tk=>?_⟩;let⟨q,tk⟩:=tk;calc⟨x,_,_,Y,tk,Y,_,Y,Y,?_⟩;have e:decide (V.str (kindOf t.tok)= .str z)=decide (kindOf t.tok=z):=by
   rw[cK,aU,aU];exact⟨str_inj,λe=>by rw[e]⟩
  rw[e];exact k
def lR(T:Txt K mg a):jM P w K mg base 3 a "Reader.sees" ["self","fixed"]<|aeR a:=by
 refine T.nE.fn.ok Kn ?_ ?_
 .right
 .ext⟨r,tl,t,rest,z,rfl,hR,k⟩;refine⟨_,aF<|bq<|XN (qG T.Reader T.jb (iT T) hr.mn (J 0)<|bM<|CY "fixed" T)<|JU<|pR iU (bE T.Token<|iw T.Reader T.ki (jD T) hr.mn<|J 0) (J 1)<|dh _,?_⟩
  left
  let⟨_,_,_,⟨Te,kZ⟩,_⟩:=id hR;calc⟨_,Y,r,_,_,Y,kZ,Y,r,tl,t,rest,_,Y,hR,_,Y,?_⟩;unfold F0 at k;by_cases z1:kindOf t.tok="fixed"
  .rw[aR z1,CO]at k;calc qS (aR z1) ⟨_,Y,r,_,_,Y,kZ,Y,r,tl,t,rest,Y,hR,λx tk=>?_⟩;let⟨q,tk⟩:=tk;calc⟨x,_,_,Y,tk,Y,_,Y,?_,k⟩;cases h:t.tok with
   |num n=>rw[h]at z1;exact absurd z1 adR
   |_=>rfl
  .rw[bB z1,Ay]at k;exact o7 (dF z1) k
def iH(T:Txt K mg a):jM P w K mg base 2 a "Reader.take" ["self"]<|aeS a:=by
 refine T.jE.fn.ok zu ?_ ?_
 .right
 .ext⟨r,tl,t,rest,rfl,hR,nh,k⟩;have nd:=zu.nd;refine⟨_,aj (iy 1 nd<|iw T.Reader T.ki (jD T) hr.mn<|J 0)<|aj (Fl (J 0) bR RK)<|aF<|bq<|J 1,?_⟩
  left
  let⟨rs,all,j,⟨dx,kZ⟩,A1,al,el,ln,en,oc⟩:=id hR;calc⟨_,Y,r,_,_,Y,kZ,Y,r,tl,t,rest,Y,hR,λx tk=>?_⟩;calc⟨_,Y,r,_,dx,_,_,Y,kZ,T.Reader.cl,T.Reader.nO,Y,_,_,Y,Y,dx,_,kZ,vv 2,_,Y,?_⟩;have s1:Sm r H<|upd H r<|.ins (a.c "Reader") dx [("tokens",.ref tl),("at",.int<|(j:Int)+1)]:=Sm.upd;have ZO:At (a.c "Reader") (upd H r<|.ins (a.c "Reader") dx [("tokens",.ref tl),("at",.int<|(j:Int)+1)]) r [("tokens",.ref tl),("at",.int (((j+1:Nat)):Int))]:=⟨dx,aq⟩;have kp:Kp a (λ_=>True) H<|upd H r<|.ins (a.c "Reader") dx [("tokens",.ref tl),("at",.int<|(j:Int)+1)]:=hR.kp s1;calc k x _ s1 ⟨rs,all,j+1,ZO,kp.lst _ _ trivial A1,al.mono λ_ _ t=>t.kp (T.ok "Token") kp,?_,ln,en.tail nh,λu hu=>oc u<|aV _ hu⟩<|tk.kp (T.ok "Token") kp;rw[←iJ,←el];rfl
def qF(T:Txt K mg a):yb P w K mg base 3 a "Reader.take_kind" ["self","kind"]<|aa9 a:=by
 refine Ak T.cG.fn AL ?_ ?_
 .right
 .ext⟨r,tl,t,rest,z,rfl,hR,nh,k⟩;refine⟨_,aj (dZ (qz<|fX<|qG T.Reader T.jb (iT T) hr.mn (J 0)<|bM<|J 1) (aF<|kr T hr.mn<|aD (jh (3) T)<|bM<|bE T.Token<|iw T.Reader T.ki (jD T) hr.mn<|J 0) b9)<|aF<|bq<|iw T.Reader T.jE (iH T) hr.mn<|J 0,?_⟩
  left
  let⟨_,_,_,⟨Te,kZ⟩,_⟩:=id hR;calc⟨_,Y,r,_,_,Y,kZ,Y,_,Y,r,tl,t,rest,z,Y,hR,_,Y,?_⟩;by_cases y:kindOf t.tok=z
  .rw[aG y]at k;rw[aR y];exact m7 ⟨_,Y,r,_,_,Y,kZ,Y,r,tl,t,rest,Y,hR,nh y,k⟩
  .rw[az y]at k;rw[bB y];calc oh ⟨_,Y,r,_,_,Y,kZ,Y,r,tl,t,rest,Y,hR,λx tk=>?_⟩;let⟨q,tk⟩:=tk;exact⟨x,_,_,Y,tk,Y,_,_,Y,k.at⟩
def ig(T:Txt K mg a):yb P w K mg base 3 a "Reader.take_one_of" ["self","words"]<|Up K a:=by
 refine Ak T.ir.fn xZ ?_ ?_
 .right
 .ext⟨r,tl,t,rest,w,ws,rfl,hR,hw,k⟩;refine⟨_,aj (dZ (Gq (qz<|fX<|qG T.Reader T.jb (iT T) hr.mn (J 0)<|bM<|CY "fixed" T)<|yX<|cu N4 (bE T.Token<|iw T.Reader T.ki (jD T) hr.mn<|J 0) (J 1)<|by with_unfolding_all rfl).pt (aF<|kr T hr.mn<|aD (jh (3) T)<|bM<|bE T.Token<|iw T.Reader T.ki (jD T) hr.mn<|J 0) b9)<|aF<|bq<|iw T.Reader T.jE (iH T) hr.mn<|J 0,?_⟩
  left
  let⟨_,_,_,⟨Te,kZ⟩,_⟩:=id hR;calc⟨_,Y,r,_,_,Y,kZ,Y,r,tl,t,rest,_,Y,hR,_,Y,?_⟩;have bad:ws.any (F0 t)=false->jv (a.c "Fault") r E H 3 t.place:= λb=>by
   rw[b,az bJ]at k;exact k
  by_cases y:kindOf t.tok="fixed"
  .rw[aR y];calc m7 ⟨_,Y,r,_,_,Y,kZ,Y,r,tl,t,rest,Y,hR,λx tk=>?_⟩;let⟨q,tk⟩:=tk;have fv:∃v,valOf t.tok= .str v:=by
    cases h:t.tok with
    |num n=>rw[h]at y;exact absurd y adR
    |_=>exact⟨_,Y⟩
   let⟨v,fv⟩:=fv;calc⟨x,_,_,Y,tk,Y,_,Y,w,_,Y,.inr<|oS.of hw,by rw[fv];rfl,VM ws,_,Y,?_⟩;have e:Jb (valOf t.tok) (ws.map V.str)=ws.any (F0 t):=by
    rw[fv,Tv];congr 1;funext z;unfold F0;rw[aR y,CO,fv]
   rw[e];by_cases b:ws.any (F0 t)=true
   .rw[aG b]at k;rw[b];calc m7 ⟨_,Y,r,_,_,Y,kZ,Y,r,tl,t,rest,Y,hR,?_,k⟩;intro z;rw[z]at y;exact absurd y ahR
   .have b:ws.any (F0 t)=false:=by simpa using b
    rw[b];calc oh ⟨_,Y,r,_,_,Y,kZ,Y,r,tl,t,rest,Y,hR,λx tk=>?_⟩;let⟨q,tk⟩:=tk;exact⟨x,_,_,Y,tk,Y,_,_,Y,(bad b).at⟩
  .rw[bB y];have b:ws.any (F0 t)=false:=by
    rw[V0];intro z _;unfold F0;rw[bB y];exact bJ
   calc oh<|oh ⟨_,Y,r,_,_,Y,kZ,Y,r,tl,t,rest,Y,hR,λx tk=>?_⟩;let⟨q,tk⟩:=tk;exact⟨x,_,_,Y,tk,Y,_,_,Y,(bad b).at⟩
def eY(T:Txt K mg a):yb P w K mg base 4 a "Reader.take_fixed" ["self","word"]<|aaX a:=by
 refine Ak T.fM.fn zw ?_ ?_
 .right
 .ext⟨r,tl,l,tk,z,rfl,ez,fx,hR,k⟩;refine⟨_,aF<|bq<|gJ T.Reader T.ir (ig T) hr.mn (J 0)<|bM<|mC<|bM<|J 1,?_⟩
  left
  let⟨t,rest,el⟩:=hR.ends.cons;subst el;let⟨_,_,_,⟨Te,kZ⟩,_⟩:=id hR;calc⟨_,Y,r,_,_,Y,kZ,Y,_,Y,jH 1,λp np=>?_⟩;have s1:aN H<|upd H p<|.tup [.str z]:=aN.new np;calc⟨r,tl,t,rest,p,[z],Y,hR.same s1,aq,?_⟩;have e:[z].any (F0 t)=(t.tok==tk):=by
   rw[eS,EA,mW,ez];exact Tf fx λc hc=>hR.codes t (bz ..) c hc
  rw[e];unfold take at k;have nx:next tk (t::rest)=(t.tok==tk):=rfl
  rw[nx]at k;by_cases y:(t.tok==tk)=true
  .rw[aG y]at k⊢;exactλx U s2 kF _=>k _ U ((s1.sm r).trans s2) kF
  .rw[az y]at k⊢;exact jv.same k s1
inductive e9 (a:g9) (H:Hp) (v:V) (p:dJ):Prop
 |mk (x q:_) (k0:v= .ref x) (k1:qC a H x (.name p.name) p.place q)
inductive ZK (a:g9) (H:Hp) (v:V) (p:Nat×Int):Prop
 |mk (x q:_) (k0:v= .ref x) (k1:qC a H x (.num p.2) p.1 q)
inductive mw (H:Hp) (v:V) (r:qN):Prop
 |mk (x:_) (k0:v= .ref x) (k1:H x=some (.tup ((rangeRow r).map V.int)))
inductive RL {α:Type} (A:O->Prop) (R:Hp->V->α->Prop) (H:Hp) (v:V) (xs:List α):Prop
 |mk (l S:_) (k0:v= .ref l) (k1:A l) (k2:H l=some (.lst S)) (k3:fE (R H) S xs)
inductive o5 (a:g9) (H:Hp) (v:V) (p:dJ×dJ):Prop
 |mk (x u w:_) (k0:v= .ref x) (k1:H x=some (.tup [u,w])) (k2:e9 a H u p.1) (k3:e9 a H w p.2)
inductive La (a:g9) (A:O->Prop) (H:Hp) (v:V) (b:iK):Prop
 |mk (x u1 u2 u3 u4:_) (k0:v= .ref x) (k1:At (a.c "DraftBranch") H x [("label",u1),("ranges",u2),("handed",u3),("behind",u4)]) (k2:e9 a H u1 b.label) (k3:RL A mw H u2 b.ranges) (k4:RL A (e9 a) H u3 b.hands) (k5:e9 a H u4 b.to)
def ahS:eW->Int
 | .fin=>0
 | .both _ _=>2
 | .talk _ _ _=>1
def aif:eW->List dJ
 | .fin=>[]
 | .both s t=>[s,t]
 | .talk x y _=>[x,y]
def akB:eW->List iK
 | .talk _ _ bs=>bs
 |_=>[]
inductive Ew (a:g9) (A:O->Prop) (H:Hp) (v:V) (s:dJ×eW):Prop
 |mk (x u1 u3 u4:_) (k0:v= .ref x) (k1:At (a.c "DraftState") H x [("name",u1),("kind",.int (ahS s.2)),("pair",u3),("branches",u4)]) (k2:e9 a H u1 s.1) (k3:RL A (e9 a) H u3 (aif s.2)) (k4:RL A (La a A) H u4 (akB s.2))
def e9.kp{p:dJ}(h:e9 a H v p)(i:Ln a<|a.c "Token")(k:Kp a A H U):e9 a U v p:=let⟨x,q,e,h⟩:=h;⟨x,q,e,At.kp h i k⟩
def ZK.kp{p:Nat×Int}(h:ZK a H v p)(i:Ln a<|a.c "Token")(k:Kp a A H U):ZK a U v p:=let⟨x,q,e,h⟩:=h;⟨x,q,e,At.kp h i k⟩
def mw.kp{r:qN}(h:mw H v r)(k:Kp a A H U):mw U v r:=let⟨x,e,h⟩:=h;⟨x,e,k.tup _ _ h⟩
def RL.kp{R atE:Hp->V->α->Prop}{xs:List α}(h:RL A R H v xs)(k:Kp a A H U)(m:∀v x,R H v x->atE U v x):RL A atE U v xs:=let⟨l,S,e,al,hl,h⟩:=h;⟨l,S,e,al,k.lst _ _ al hl,h.mono m⟩
def RL.mono{R atE:Hp->V->α->Prop}{xs:List α}(h:RL A R H v xs)(k:∀z,A z->B z)(m:∀v x,R H v x->atE H v x):RL B atE H v xs:=let⟨l,S,e,al,hl,h⟩:=h;⟨l,S,e,k _ al,hl,h.mono m⟩
def o5.kp{p:dJ×dJ}(h:o5 a H v p)(i:Ln a<|a.c "Token")(k:Kp a A H U):o5 a U v p:=let⟨x,u,w,e,h,G,h2⟩:=h;⟨x,u,w,e,k.tup _ _ h,G.kp i k,h2.kp i k⟩
def La.kp{b:iK}(h:La a A H v b)(i:Ln a<|a.c "Token")(j:Ln a<|a.c "DraftBranch")(k:Kp a A H U):La a A U v b:=let⟨x,u1,u2,u3,u4,e,h,G,h2,h3,h4⟩:=h;⟨x,u1,u2,u3,u4,e,At.kp h j k,G.kp i k,h2.kp k λ_ _ h=>h.kp k,h3.kp k λ_ _ h=>h.kp i k,h4.kp i k⟩
def La.mono{b:iK}(h:La a A H v b)(k:∀z,A z->B z):La a B H v b:=let⟨x,u1,u2,u3,u4,e,h,G,h2,h3,h4⟩:=h;⟨x,u1,u2,u3,u4,e,h,G,h2.mono k λ_ _ h=>h,h3.mono k λ_ _ h=>h,h4⟩
def Ew.kp{b:dJ×eW}(h:Ew a A H v b)(i:Ln a<|a.c "Token")(j:Ln a<|a.c "DraftBranch")(j2:Ln a<|a.c "DraftState")(k:Kp a A H U):Ew a A U v b:=let⟨x,u1,u3,u4,e,h,G,h3,h4⟩:=h;⟨x,u1,u3,u4,e,At.kp h j2 k,G.kp i k,h3.kp k λ_ _ h=>h.kp i k,h4.kp k λ_ _ h=>h.kp i j k⟩
def Ew.mono{b:dJ×eW}(h:Ew a A H v b)(k:∀z,A z->B z):Ew a B H v b:=let⟨x,u1,u3,u4,e,h,G,h3,h4⟩:=h;⟨x,u1,u3,u4,e,h,G,h3.mono k λ_ _ h=>h,h4.mono k λ_ _ h=>h.mono k⟩
def fV{α:Type}(a:g9)(r tl:O)(H:Hp)(res:Except Fault<|α×cU)(R:(O->Prop)->Hp->V->α->Prop)(Q:VK)(E:XK):Prop:=match res with
 | .ok (x,l')=>∀v U,Sm r H U->kE a U r tl l'->R (λz=>H z=none) U v x->Q v U
 | .error f=>jv (a.c "Fault") r E H f.code f.place
inductive spP {α:Type} (a:g9) (f:cU->Except Fault (α×cU)) (R:(O->Prop)->Hp->V->α->Prop) (S:List V) (H:Hp) (Q:VK) (E:XK):Prop
 |mk (r tl l:_) (k0:S=[.ref r]) (k1:kE a H r tl l) (k2:fV a r tl H (f l) R Q E)
inductive aa1 {α:Type} (a:g9) (f:Nat->cU->Except Fault (α×cU)) (R:(O->Prop)->Hp->V->α->Prop) (S:List V) (H:Hp) (Q:VK) (E:XK):Prop
 |mk (r tl l k:_) (k0:S=[.ref r,.int ((k:Nat):Int)]) (k1:kE a H r tl l) (k2:fV a r tl H (f k l) R Q E)
inductive aiH {α:Type} (a:g9) (z:Str) (f:cU->Except Fault (α×cU)) (R:(O->Prop)->Hp->V->α->Prop) (S:List V) (H:Hp) (Q:VK) (E:XK):Prop
 |mk (r tl l:_) (k0:S=[.ref r,.str z]) (k1:kE a H r tl l) (k2:fV a r tl H (f l) R Q E)
section
variable{tl:O} {R:(O->Prop)->Hp->V->α->Prop}
def fV.err{f:Fault}{res:Except Fault (α×cU)}(h:fV a r tl H res R Q E)(e:res= .error f):jv (a.c "Fault") r E H f.code f.place:=by subst e;exact h
def fV.ok{x:α}{res:Except Fault (α×cU)}(h:fV a r tl H res R Q E)(e:res= .ok (x,l')):∀v U,Sm r H U->kE a U r tl l'->R (λz=>H z=none) U v x->Q v U:=by subst e;exact h
def fV.mk{res:Except Fault (α×cU)}(ho:∀x l',res= .ok (x,l')->∀v U,Sm r H U->kE a U r tl l'->R (λz=>H z=none) U v x->Q v U)(he:∀f,res= .error f->jv (a.c "Fault") r E H f.code f.place):fV a r tl H res R Q E:=by
 cases res with
 |error f=>exact he f Y
 |ok x=>exact ho x.1 x.2 Y
def pF{t:mF}:(kindOf t.tok="name"/\∃p,takeName (t::rest)= .ok (p,rest)/\nameNext (t::rest)=true/\p.place=t.place/\t.tok= .name p.name)∨(kindOf t.tok≠"name"/\takeName (t::rest)= .error ⟨3,t.place⟩/\nameNext (t::rest)=false):=by
 let⟨p,t⟩:=t;cases t with
 |name b=>
  by_cases z:dH.contains b=true
  .refine .inr ⟨?_,aG z,?_⟩
   .show(if dH.contains b=true then("fixed":Str)else "name")≠_;rw[aG z];decide
   .show(!dH.contains b)=false;rw[z];rfl
  .calc .inl ⟨az z,⟨p,b⟩,az z,?_,Y,Y⟩;show(!dH.contains b)=true;simpa using z
 |num n=>exact .inr ⟨by show("number":Str)≠_;decide,Y,Y⟩
 |text n=>exact .inr ⟨by show("quoted":Str)≠_;decide,Y,Y⟩
 |sign n=>exact .inr ⟨by show("fixed":Str)≠_;decide,Y,Y⟩
 |halt_=>exact .inr ⟨by show("ending":Str)≠_;decide,Y,Y⟩
def W9{t:mF}:(kindOf t.tok="number"/\∃n,xO (t::rest)= .ok ((t.place,n),rest)/\t.tok= .num n)∨(kindOf t.tok≠"number"/\xO (t::rest)= .error ⟨3,t.place⟩):=by
 let⟨p,t⟩:=t;cases t with
 |name b=>
  calc .inr ⟨?_,Y⟩;show(if dH.contains b=true then("fixed":Str)else "name")≠_;split<;>decide
 |num n=>exact .inl ⟨Y,n,Y,Y⟩
 |text n=>exact .inr ⟨by show("quoted":Str)≠_;decide,Y⟩
 |sign n=>exact .inr ⟨by show("fixed":Str)≠_;decide,Y⟩
 |halt_=>exact .inr ⟨by show("ending":Str)≠_;decide,Y⟩
end
def lA(T:Txt K mg a):yb P w K mg base 3 a "Reader.take_kind" ["self","kind"]<|aiH a "name" takeName λ_=>e9 a:=by
 refine(qF T).imp ?_;rintro S H Q E ⟨r,tl,l,rfl,hR,k⟩;let⟨t,rest,rfl⟩:=hR.ends.cons;calc⟨r,tl,t,rest,"name",Y,hR,λz h=>by rw[h]at z;exact absurd z 'd',?_⟩;rcases pF (t:=t) (rest:=rest)with⟨G,p,h2,_,h3,h4⟩|⟨G,h2,_⟩
 .rw[aG G];rw[h2]at k;exact(by rintro x U s1 mG ⟨q,tk⟩;exact k _ U s1 mG ⟨x,q,Y,by rw[h3,←h4];exact tk⟩)
 .rw[az G];rw[h2]at k;exact k
def R9(T:Txt K mg a):yb P w K mg base 3 a "Reader.take_kind" ["self","kind"]<|aiH a "number" xO λ_=>ZK a:=by
 refine(qF T).imp ?_;rintro S H Q E ⟨r,tl,l,rfl,hR,k⟩;let⟨t,rest,rfl⟩:=hR.ends.cons;calc⟨r,tl,t,rest,"number",Y,hR,λz h=>by rw[h]at z;exact absurd z 'd',?_⟩;rcases W9 (t:=t) (rest:=rest)with⟨G,p,h2,h3⟩|⟨G,h2⟩
 .rw[aG G];rw[h2]at k;exact(by rintro x U s1 mG ⟨q,tk⟩;exact k _ U s1 mG ⟨x,q,Y,by rw[←h3];exact tk⟩)
 .rw[az G];rw[h2]at k;exact k
inductive aeQ (a:g9) (S:List V) (H:Hp) (Q:VK) (E:XK):Prop
 |mk (x k m fs p:_) (k0:S=[.ref x,.int ((k:Nat):Int),.int ((m:Nat):Int)]) (k1:At (a.c "Token") H x fs) (k2:fs.lookup ("place":Str)=some (V.int p)) (k3:(if m<=k then∀dx,H dx=none->E (.ref (a.c "Fault")) (some dx) (upd H dx (.xd (ff 4 p)))else Q .gQ H))
theorem kT(T:Txt K mg a):yb P w K mg base 3 a "check_room" ["token","count","most"]<|aeQ a:=by
 refine Ak T.mX.fn LM ?_ ?_
 .right
 .ext⟨x,n,m,fs,p,rfl,hx,hp,k⟩;refine⟨_,aF<|dZ (cu XI (J 1) (J 2)<|dh _) (aF<|kr T hr.mn<|aD (jh (4) T)<|bM<|bE T.Token<|J 0) b9,?_⟩
  left
  calc⟨_,Y,_,Y,_,_,Y,Y,_,Y,?_⟩;by_cases z:m<=n
  .rw[aG z]at k;exact qS (aR 'l') ⟨_,Y,x,_,_,Y,hx,hp,_,_,Y,k⟩
  .rw[az z]at k;exact o7 (dF 'l') k
def XE(T:Txt K mg a):jM P w K mg base 1 a "Draft.__init__" ["self","title","parties","extras","start_name","states"]<|wo (a.c "Draft") ["title","parties","extras","start_name","states"]:=by
 refine T.AV.fn.ok LG ?_ ?_
 .rintro _ _ _ _ ⟨p,dx,us,rfl,l,_⟩;simp[l]
 .ext⟨p,dx,us,rfl,l,hp,k⟩;revert hp k;calc tV l ?_;intro v1 v2 v3 v4 v5 hp k;have C:=T.AV;calc⟨_,aj (dP (J 0) (J 1) Y)<|aj (dP (J 0) (J 2) Y)<|aj (dP (J 0) (J 3) Y)<|aj (dP (J 0) (J 4) Y)<|aF<|dP (J 0) (J 5) Y,?_⟩;calc⟨_,Y,_,Y,p,_,dx,_,Y,hp,C.cl,C.nO,'d',_,Y,_,Y,p,_,dx,_,Y,aq,C.cl,C.nO,vv 1,_,Y,_,Y,p,_,dx,_,Y,aq,C.cl,C.nO,vv 2,_,Y,_,Y,p,_,dx,_,Y,aq,C.cl,C.nO,vv 3,_,Y,_,Y,p,_,dx,_,Y,aq,C.cl,C.nO,vv 4,?_⟩;rw[dS,dS,dS,dS];exact k
def uh(T:Txt K mg a):jM P w K mg base 1 a "DraftState.__init__" ["self","name","kind","pair","branches"]<|wo (a.c "DraftState") ["name","kind","pair","branches"]:=by
 refine T.gC.fn.ok CD ?_ ?_
 .rintro _ _ _ _ ⟨p,dx,us,rfl,l,_⟩;simp[l]
 .ext⟨p,dx,us,rfl,l,hp,k⟩;revert hp k;calc tV l ?_;intro v1 v2 v3 v4 hp k;have C:=T.gC;calc⟨_,aj (dP (J 0) (J 1) Y)<|aj (dP (J 0) (J 2) Y)<|aj (dP (J 0) (J 3) Y)<|aF<|dP (J 0) (J 4) Y,?_⟩;calc⟨_,Y,_,Y,p,_,dx,_,Y,hp,C.cl,C.nO,'d',_,Y,_,Y,p,_,dx,_,Y,aq,C.cl,C.nO,vv 1,_,Y,_,Y,p,_,dx,_,Y,aq,C.cl,C.nO,vv 2,_,Y,_,Y,p,_,dx,_,Y,aq,C.cl,C.nO,vv 3,?_⟩;rw[dS,dS,dS];exact k
def Jv(T:Txt K mg a):jM P w K mg base 1 a "DraftBranch.__init__" ["self","label","ranges","handed","behind"]<|wo (a.c "DraftBranch") ["label","ranges","handed","behind"]:=by
 refine T.j7.fn.ok AJ ?_ ?_
 .rintro _ _ _ _ ⟨p,dx,us,rfl,l,_⟩;simp[l]
 .ext⟨p,dx,us,rfl,l,hp,k⟩;revert hp k;calc tV l ?_;intro v1 v2 v3 v4 hp k;have C:=T.j7;calc⟨_,aj (dP (J 0) (J 1) Y)<|aj (dP (J 0) (J 2) Y)<|aj (dP (J 0) (J 3) Y)<|aF<|dP (J 0) (J 4) Y,?_⟩;calc⟨_,Y,_,Y,p,_,dx,_,Y,hp,C.cl,C.nO,'d',_,Y,_,Y,p,_,dx,_,Y,aq,C.cl,C.nO,vv 1,_,Y,_,Y,p,_,dx,_,Y,aq,C.cl,C.nO,vv 2,_,Y,_,Y,p,_,dx,_,Y,aq,C.cl,C.nO,vv 3,?_⟩;rw[dS,dS,dS];exact k
section
variable{tl:O} {R:(O->Prop)->Hp->V->α->Prop} {atE:(O->Prop)->Hp->V->β->Prop}
def kE.ins(h:kE a H r tl l):∃dx j,H r=some (.ins (a.c "Reader") dx [("tokens",.ref tl),("at",.int j)]):=let⟨_,_,_,⟨dx,h⟩,_⟩:=h;⟨dx,_,h⟩
def fV.step{res:Except Fault (β×cU)}{g:β×cU->Except Fault (α×cU)}(k:fV a r tl H0 (res>>=g) R Q E)(s:Sm r H0 H) (ho:∀x l1 v L,res= .ok (x,l1)->Sm r H L->kE a L r tl l1->atE (λz=>H z=none) L v x->fV a r tl H0 (g (x,l1)) R Q E->Q1 v L):fV a r tl H res atE Q1 E:=by
 cases res with
 |error f=>exact jv.sm k s
 |ok x=>exactλv L s hR q=>ho x.1 x.2 v L Y s hR q k
def fV.shift{res:Except Fault (α×cU)}(k:fV a r tl H res R Q E)(s:Sm r H L)(hR:kE a L r tl l1)(m:∀A B H v x,(∀z,A z->B z)->R A H v x->R B H v x):fV a r tl L res R Q E:=by
 cases res with
 |error f=>exact jv.sm k s
 |ok x=>exactλv H2 s2 kF q=>k v H2 (s.trans s2) kF (m _ _ _ _ _ (λz n=>kE.free s hR n) q)
def Nj(a:g9)(r tl:O)(H:Hp)(res:Except Fault cU)(Q:VK)(E:XK):Prop:=match res with
 | .ok l'=>∀v U,Sm r H U->kE a U r tl l'->Q v U
 | .error f=>jv (a.c "Fault") r E H f.code f.place
def Nj.step{g:cU->Except Fault (α×cU)}(k:fV a r tl H0 (res>>=g) R Q E)(s:Sm r H0 H) (ho:∀l1 v L,res= .ok l1->Sm r H L->kE a L r tl l1->fV a r tl H0 (g l1) R Q E->Q1 v L):Nj a r tl H res Q1 E:=by
 cases res with
 |error f=>exact jv.sm k s
 |ok x=>exactλv L s hR=>ho x v L Y s hR k
end
def Dn{R:Hp->V->α->Prop}:∀(A B:O->Prop) H v x,(∀z,A z->B z)->(λ_=>R) A H v x->(λ_=>R) B H v x:= λ_ _ _ _ _ _ h=>h
noncomputable def Yg(l:cU):Except Fault<|qN×cU:=xO l>>= λlo=>xO lo.2>>= λhi=>if hi.1.2<lo.1.2 then .error ⟨7,hi.1.1⟩else .ok (.num lo.1.2 hi.1.2,hi.2)
noncomputable def Ue(l:cU):Except Fault<|qN×cU:=xO l>>= λk=>if k.1.2<0∨(255:Int)<k.1.2 then .error ⟨7,k.1.1⟩else .ok (.text k.1.2.toNat,k.2)
def JZ(l:cU):uH l=if next (.name<|cO "flag") l=true then .ok (.flag,l.drop 1)else if next (.name<|cO "num") l=true then Yg (l.drop 1)else if next (.name<|cO "text") l=true then Ue (l.drop 1)else wrong l:=rfl
def yP(T:Txt K mg a):yb P w K mg base 4 a "read_number_range" ["reader"]<|spP a Yg λ_=>mw:=by
 refine Ak T.tE.fn qa ?_ ?_
 .right
 .ext⟨r,tl,l,rfl,hR,k⟩;have nd:=qa.nd;refine⟨_,aj (iy 1 nd<|gJ T.Reader T.cG (R9 T) hr.mn (J 0)<|bM<|CY "number" T)<|aj (iy 2 nd<|gJ T.Reader T.cG (R9 T) hr.mn (J 0)<|bM<|CY "number" T)<|aj (dZ (cu yR (bE T.Token<|J 2) (bE T.Token<|J 1)<|dh _) (aF<|kr T hr.mn<|aD (jh (7) T)<|bM<|bE T.Token<|J 2) b9)<|aF<|bq<|mC<|aD (jh (1) T)<|aD (bE T.Token<|J 1)<|bM<|bE T.Token<|J 2,?_⟩
  left
  let⟨dx,j,kZ⟩:=hR.ins;calc⟨_,Y,r,_,_,Y,kZ,Y,r,tl,l,Y,hR,fV.step k (Sm.refl r H) λlo l1 v1 L e1 s1 mG n1 k1=>?_⟩;let⟨Nv,j1,Lx⟩:=mG.ins;calc⟨_,Y,r,_,_,Y,Lx,Y,r,tl,l1,Y,mG,fV.step k1 s1 λhi l2 v2 H2 e2 s2 kF n2 k2=>?_⟩;let⟨x2,q2,rfl,t2⟩:=n2;let⟨x1,q1,rfl,t1⟩:=n1.kp (T.ok "Token")<|mG.kp (A:= λ_=>True) s2;calc⟨_,Y,x2,_,_,Y,t2,Y,_,Y,x1,_,_,Y,t1,Y,_,_,Y,Y,_,Y,?_⟩;dsimp only at k2;by_cases z:hi.2<lo.2
  .rw[aG z]at k2;exact qS (aR z) ⟨_,Y,x2,_,_,Y,t2,Y,_,_,Y,(jv.sm k2<|s1.trans s2).at⟩
  .rw[az z]at k2;calc o7 (dF z) ⟨_,Y,x1,_,_,Y,t1,Y,_,Y,x2,_,_,Y,t2,Y,jH 3,λp np=>?_⟩;exact k2 _ _ ((s1.trans s2).same (aN.new np)) (kF.same<|aN.new np) ⟨p,Y,aq⟩
theorem Ct(T:Txt K mg a):yb P w K mg base 4 a "read_text_range" ["reader"]<|spP a Ue λ_=>mw:=by
 refine Ak T.wO.fn r8 ?_ ?_
 .right
 .ext⟨r,tl,l,rfl,hR,k⟩;have nd:=r8.nd;refine⟨_,aj (iy 1 nd<|gJ T.Reader T.cG (R9 T) hr.mn (J 0)<|bM<|CY "number" T)<|aj (dZ (Gq (cu yR (bE T.Token<|J 1) bR<|dh _)<|yX<|cu Gj (bE T.Token<|J 1) (jh (255) T)<|dh _).pt (aF<|kr T hr.mn<|aD (jh (7) T)<|bM<|bE T.Token<|J 1) b9)<|aF<|bq<|mC<|aD (jh (2) T)<|bM<|bE T.Token<|J 1,?_⟩
  left
  let⟨dx,j,kZ⟩:=hR.ins;calc⟨_,Y,r,_,_,Y,kZ,Y,r,tl,l,Y,hR,fV.step k (Sm.refl r H) λn l1 v1 L e1 s1 mG n1 k1=>?_⟩;let⟨x1,q1,rfl,t1⟩:=n1;have bad:(n.2<0∨(255:Int)<n.2)->jv (a.c "Fault") r E L 7 n.1:= λz=>by
   dsimp only at k1;rw[aG z]at k1;exact jv.sm k1 s1
  have good:¬(n.2<0∨(255:Int)<n.2)->∀v U,Sm r H U->kE a U r tl l1->mw U v (.text n.2.toNat)->Q v U:= λz=>by
   dsimp only at k1;rw[az z]at k1;exact k1
  calc⟨_,Y,x1,_,_,Y,t1,Y,_,_,Y,Y,_,Y,?_⟩;by_cases z:n.2<0
  .exact qS (aR z) (qS Y ⟨_,Y,x1,_,_,Y,t1,Y,_,_,Y,(bad<|.inl z).at⟩)
  .calc o7 (dF z) ⟨_,Y,x1,_,_,Y,t1,Y,_,_,Y,Y,_,Y,?_⟩;by_cases y:(255:Int)<n.2
   .exact qS (aR y) ⟨_,Y,x1,_,_,Y,t1,Y,_,_,Y,(bad<|.inr y).at⟩
   .calc o7 (dF y) ⟨_,Y,x1,_,_,Y,t1,Y,jH 2,λp np=>?_⟩;calc good (λh=>h.elim z y) _ _ (s1.same<|aN.new np) (mG.same<|aN.new np) ⟨p,Y,?_⟩;show _=some (HO.tup [.int 2,.int ((n.2.toNat:Nat):Int)]);rw[Int.toNat_of_nonneg 'l'];exact aq
abbrev Ux:eF:= .name (cO "flag")
abbrev abn:eF:= .name (cO "num")
abbrev Uy:eF:= .name (cO "text")
def Z0:IA Ux=true/\Pu Ux="flag":='d'
def adn:IA abn=true/\Pu abn="num":='d'
def Z1:IA Uy=true/\Pu Uy="text":='d'
def kE.fx{tl:O}{t:mF}(h:kE a H r tl<|t::rest){z:Str}(f:IA tk=true/\Pu tk=z):F0 t z=next tk (t::rest):=by
 rw[←f.2];exact Tf f.1 λc hc=>h.codes t (bz ..) c hc
def vY{t:mF}{z:Str}(h:F0 t z=true):valOf t.tok= .str z:=by
 unfold F0 at h;rw[bI,aU,aU]at h;exact h.2
def KI{x:Str}(h:x≠y):¬V.str x= .str y:= λe=>h (str_inj e)
def Bc(T:Txt K mg a):yb P w K mg base 5 a "read_range" ["reader","count"]<|aa1 a (lim akm rangeNext uH) λ_=>mw:=by
 refine Ak T.CA.fn BL ?_ ?_
 .right
 .ext⟨r,tl,l,n,rfl,hR,k⟩;have nd:=BL.nd;refine⟨_,aj (iy 2 nd<|gJ T.Reader T.ir (ig T) hr.mn (J 0)<|bM<|mC<|aD cQ<|aD cQ<|bM cQ)<|aj (bV<|eB T.mX (kT T) hr.mn<|aD (J 2)<|aD (J 1)<|bM<|jh (4) T)<|aj (dZ (cu iU (bE T.Token<|J 2) cQ<|dh _) (aF<|bq<|eB T.tE (yP T) hr.mn<|bM<|J 0) b9)<|aj (dZ (cu iU (bE T.Token<|J 2) cQ<|dh _) (aF<|bq<|eB T.wO (Ct T) hr.mn<|bM<|J 0) b9)<|aF<|bq<|mC<|bM<|jh (0) T,?_⟩
  left
  let⟨t,rest,rfl⟩:=hR.ends.cons;let⟨dx,j,kZ⟩:=hR.ins;calc⟨_,Y,r,_,_,Y,kZ,Y,jH 3,λp np=>?_⟩;have s1:aN H<|upd H p<|.tup [.str "flag",.str "num",.str "text"]:=aN.new np;have mG:=hR.same s1;calc⟨r,tl,t,rest,p,["flag","num","text"],Y,mG,aq,?_⟩;have f1:=hR.fx Z0;have f2:=hR.fx adn;have f3:=hR.fx Z1;have e:(["flag","num","text"]:List Str).any (F0 t)=rangeNext (t::rest):=by
   rw[eS,eS,eS,EA,f1,f2,f3,mW];unfold rangeNext;rw[abr]
  rw[e];unfold lim at k;by_cases z:rangeNext (t::rest)=true
  .rw[aG z];intro x H2 s2 kF ⟨q,tk⟩;have pA:=(s1.sm r).trans s2;calc⟨_,Y,_,Y,x,n,4,_,_,Y,tk,Y,?_⟩;by_cases y:4<=n
   .rw[aG y];rw[aG ⟨z,y⟩]at k;exact(jv.sm k pA).at
   .rw[az y];rw[az λh=>y h.2,JZ]at k;calc⟨_,Y,x,_,_,Y,tk,Y,?_⟩;by_cases y1:next Ux (t::rest)=true
    .have vf:=vY<|f1.trans y1;have k:=fV.ok k<|aG y1;calc⟨by rw[vf];rfl,_,Y,o7 (dF<|by rw[vf];exact KI 'd') ?_⟩;calc⟨_,Y,x,_,_,Y,tk,Y,by rw[vf];rfl,_,Y,o7 (dF<|by rw[vf];exact KI 'd') ?_⟩;calc⟨jH 1,λp' np'=>?_⟩;exact k _ _ (pA.same<|aN.new np') (kF.same<|aN.new np') ⟨p',Y,aq⟩
    .rw[az y1]at k;by_cases y2:next abn (t::rest)=true
     .have vf:=vY<|f2.trans y2;rw[aG y2]at k;exact⟨by rw[vf];rfl,_,Y,qS (aR vf) ⟨_,Y,r,tl,rest,Y,kF,fV.shift k pA kF Dn⟩⟩
     .rw[az y2]at k;have y3:next Uy (t::rest)=true:=by
       unfold rangeNext at z;simp only[y1,y2,mV,nj,Bool.not_eq_true,false_or]at z;simpa using z
      have vf:=vY<|f3.trans y3;rw[aG y3]at k;calc⟨by rw[vf];rfl,_,Y,o7 (dF<|by rw[vf];exact KI 'd') ?_⟩;exact⟨_,Y,x,_,_,Y,tk,Y,by rw[vf];rfl,_,Y,qS (aR vf) ⟨_,Y,r,tl,rest,Y,kF,fV.shift k pA kF Dn⟩⟩
  .rw[az z];have z':=z;unfold rangeNext at z;simp only[nj,not_or]at z;rw[az λh=>z' h.1,JZ,az z.1.1,az z.1.2,az z.2]at k;exact jv.same (fV.err k Y) s1
abbrev Own(H0:Hp)(D:O):O->Prop:= λz=>H0 z=none/\z≠D
structure Lp {α:Type} (a:g9) (r tl:O) (H0:Hp) (D:O) (R:(O->Prop)->Hp->V->α->Prop) (H:Hp) (pre:List α) (l:cU):Prop where
 sm:Sm r H0 H
 nD:H0 D=none
 rd:kE a H r tl l
 lst:∃S,H D=some (.lst S)/\fE (R (Own H0 D) H) S pre
section
variable{tl:O} {R:(O->Prop)->Hp->V->α->Prop} {pre:List α}
def Lp.ntl(h:Lp a r tl H0 D R H pre l)(h0:∃ys,H0 tl=some (.lst ys)):tl≠D:= λe=>by
 let⟨ys,q⟩:=h0;rw[e,h.nD]at q;cases q
def Lp.nr(h:Lp a r tl H0 D R H pre l):D≠r:= λe=>by
 let⟨dx,fs,q⟩:=h.rd.at;let⟨S,q2,_⟩:=h.lst;rw[e,q]at q2;cases q2
def Lp.go(h:Lp a r tl H0 D R H pre l)(s:Sm r H L)(hR:kE a L r tl l1)(kp:∀A H U v x,Kp a A H U->R A H v x->R A U v x):Lp a r tl H0 D R L pre l1:=by
 let⟨S,q,al⟩:=h.lst;exact⟨h.sm.trans s,h.nD,hR,S,s _ _ h.nr q,al.mono λ_ _ x=>kp _ _ _ _ _ (h.rd.kp s) x⟩
def Lp.put(h:Lp a r tl H0 D R H pre l)(h0:∃ys,H0 tl=some (.lst ys)){x:α}(q:R (Own H0 D) H v x)(kp:∀A H U v x,Kp a A H U->R A H v x->R A U v x):∃S,H D=some (.lst S)/\S.length=pre.length/\Lp a r tl H0 D R (upd H D<|.lst<|S++[v]) (pre++[x]) l:=by
 let⟨S,e,al⟩:=h.lst;have s1:Sm D H<|upd H D<|.lst<|S++[v]:=Sm.upd;have k1:Kp a (Own H0 D) H<|upd H D<|.lst<|S++[v]:=(Kp.Ly s1 e).mono λz h=>h.2;calc⟨S,e,al.len,λb o n q=>?_,h.nD,h.rd.Ly s1 e<|h.ntl h0,S++[v],aq,fE.snoc (kp _ _ _ _ _ k1 q)<|al.mono λ_ _ x=>kp _ _ _ _ _ k1 x⟩;exact s1 b o (bg q h.nD) (h.sm b o n q)
def Lp.own(h:Lp a r tl H0 D R H pre l){z:O}(n:H z=none):Own H0 D z:=by
 calc⟨kE.free h.sm h.rd n,λe=>?_⟩;let⟨S,q,_⟩:=h.lst;rw[e,q]at n;cases n
def Lp.out(h:Lp a r tl H0 D R H pre l)(m:∀A B H v x,(∀z,A z->B z)->R A H v x->R B H v x):RL (λz=>H0 z=none) (R λz=>H0 z=none) H (.ref D) pre:=by
 let⟨S,q,al⟩:=h.lst;exact⟨D,S,Y,h.nD,q,al.mono λ_ _ x=>m _ _ _ _ _ (λz h=>h.1) x⟩
end
section
variable{R:(O->Prop)->Hp->V->α->Prop} {sep close:Nat} {kj:cU->Bool} {one:cU->Except Fault (α×cU)} {De:Ends}
theorem Gb(alD:IA (.sign sep)=true)(adt:IA (.sign close)=true)(Lw:oB close≠oB sep)(ha:∀l x l',one l= .ok (x,l')->Aa l l')(anF:most<=64) (hm:∀A B H v x,(∀z,A z->B z)->R A H v x->R B H v x)(kp:∀A H U v x,Kp a A H U->R A H v x->R A U v x) {tl:O}{x0:α}(h0:∃ys,H0 tl=some (.lst ys))(hL:Lp a r tl H0 D R H [x0] l)(G:1<=most)(hn:l.length<=n)(ak1:∀l x l',one l= .ok (x,l')->kj l=true) (k:fV a r tl H0 (more sep close most kj one n 1 l>>= λy=> .ok (x0::y.1,y.2)) (λA=>RL A<|R A) Q E) (hnx:∀U,Q (.ref D) U->De.nx [some<|.ref r,some<|.ref D] U):SI (KO<|Ox rEq (tF (a.c "Token") (MV (a.c "Reader") "take_one_of" (Up K a) [] E (gF 0)<|gf (aiV<|gf (tC<|.str<|oB sep)<|gf (tC<|.str<|oB close) m9) m9) "value")<|tC<|.str<|oB sep) (YH<|tBM K "list" Ub (gF 1)<|gf (vz (aa1 a (lim most kj one) R) [] E<|gf (gF 0)<|gf (tCB (Yd K)<|gf (gF 1) m9) m9) m9) De [some<|.ref r,some<|.ref D] H:=by
 calc⟨λm Z H=>Z=[some<|.ref r,some<|.ref D]/\∃(pre:List α) (l:cU) (n:Nat),m=l.length/\Lp a r tl H0 D R H pre l/\l.length<=n/\pre.length<=most/\fV a r tl H0 (more sep close most kj one n pre.length l>>= λy=> .ok (pre++y.1,y.2)) (λA=>RL A<|R A) Q E,⟨_,Y,[x0],l,n,Y,hL,hn,G,k⟩,?_⟩;rintro m Z H ⟨rfl,pre,l,n,rfl,hL,hn,hp,k⟩;let⟨t,rest,rfl⟩:=hL.rd.ends.cons;let⟨dx,j,kZ⟩:=hL.rd.ins;calc⟨_,Y,r,_,_,Y,kZ,Y,jH 2,λp np=>?_⟩;have s1:aN H<|upd H p<|.tup [.str<|oB sep,.str<|oB close]:=aN.new np;have mG:=hL.rd.same s1;calc⟨r,tl,t,rest,p,[oB sep,oB close],Y,mG,aq,?_⟩;have f1:F0 t (oB sep)=next (.sign sep) (t::rest):=hL.rd.fx ⟨alD,Y⟩
 have f2:F0 t (oB close)=next (.sign close) (t::rest):=hL.rd.fx ⟨adt,Y⟩
 rw[eS,eS,EA,f1,f2,mW];unfold more at k;by_cases z1:next (.sign sep) (t::rest)=true
 .rw[aG z1]at k;rw[z1,xF,aG Y];intro x H2 s2 kF ⟨q,tk⟩;have vf:=vY<|f1.trans z1;calc⟨x,_,_,Y,tk,Y,by rw[vf];rfl,_,Y,qS (aR vf) ⟨_,λ_ _ h=>h,?_⟩⟩;have U7:Lp a r tl H0 D R H2 pre rest:=hL.go ((s1.sm r).trans s2) kF kp;let⟨S,hD,al⟩:=id U7.lst;obtain⟨n,rfl⟩:∃m,n=m+1:=⟨n-1,by rw[ay]at hn;lia⟩;rw[nF,bind_assoc]at k;calc⟨_,Y,.inl ⟨Y,_,cP.of hD⟩,_,Y,_,Y,D,_,Y,.inl<|cP.of hD,r,tl,rest,pre.length,by rw[al.len];rfl,kF,?_⟩;calc fV.step k U7.sm λy l3 v H3 e3 s3 xT q3 k3=>?_;have Th:Lp a r tl H0 D R H3 pre l3:=U7.go s3 xT kp;let⟨us,e4,l4,Zh⟩:=Th.put h0 (hm _ _ _ _ _ (λz n=>U7.own n) q3) kp;have lt:pre.length<most:=by
   unfold lim at e3;split at e3
   .cases e3
   .rename_i y;apply qi;exactλw=>y ⟨ak1 _ _ _ e3,w⟩
  refine⟨D,us,v,Y,Y,e4,by rw[l4,aW];lia,l3.length,?_,Y,pre++[y],l3,n,Y,Zh,?_,by rw[ak,aI];lia,?_⟩
  .have:=(GM.sZ ha e3).len;rw[ay]
   lia
  .have:=(GM.sZ ha e3).len;rw[ay]at hn
   lia
  .rw[ak,aI];have e:(λz:List α×cU=>(fS (pre++[y]++z.1,z.2):Except Fault<|List α×cU))= λz=>fS (pre++y::z.1,z.2):=by
    funext z;rw[cC];rfl
   rw[e];rw[bind_assoc]at k3;exact k3
 .rw[az z1]at k;have z1':next (.sign sep) (t::rest)=false:=by simpa using z1
  rw[z1',mV];unfold takeSign take at k;by_cases z2:next (.sign close) (t::rest)=true
  .rw[aG z2]at k⊢;intro x H2 s2 kF ⟨q,tk⟩;have vf:=vY<|f2.trans z2;calc⟨x,_,_,Y,tk,Y,by rw[vf];rfl,_,Y,o7 (dF<|by rw[vf];exact KI Lw)<|hnx _ ?_⟩;have U7:Lp a r tl H0 D R H2 pre rest:=hL.go ((s1.sm r).trans s2) kF kp;have k:∀v U,Sm r H0 U->kE a U r tl rest->RL (λz=>H0 z=none) (R λz=>H0 z=none) U v (pre++[])->Q v U:=k;rw[cV]at k;exact k _ H2 U7.sm kF (U7.out hm)
  .rw[az z2]at k⊢;exact jv.same (jv.sm (fV.err k Y) hL.sm) s1
def TF:∀(A:O->Prop) H U v x,Kp a A H U->(λ_=>mw) A H v x->(λ_=>mw) A U v x:= λ_ _ _ _ _ k h=>h.kp k
def Od{x:qN}(h:uH l= .ok (x,l')):rangeNext l=true:=by
 rw[JZ]at h;unfold rangeNext;by_cases z1:next Ux l=true
 .rw[z1];rfl
 .rw[az z1]at h;by_cases z2:next abn l=true
  .rw[z2];simp
  .rw[az z2]at h;by_cases z3:next Uy l=true
   .rw[z3];simp
   .rw[az z3]at h;cases h
end
def Lp.first{tl:O}{R:(O->Prop)->Hp->V->α->Prop}{x:α}(s:Sm r H0 L)(hR:kE a L r tl l1)(nD:L D=none)(q:R (λz=>H z=none) L v x)(f:∀z,H z=none->H0 z=none) (kp:∀A H U v x,Kp a A H U->R A H v x->R A U v x)(m:∀A B H v x,(∀z,A z->B z)->R A H v x->R B H v x)(own:R (λz=>H z=none/\z≠D) L v x):Lp a r tl H0 D R (upd L D<|.lst [v]) [x] l1:=by
 have s1:aN L<|upd L D<|.lst [v]:=aN.new nD;calc⟨s.same s1,kE.free s hR nD,hR.same s1,[v],aq,.cons (kp _ _ _ _ _ (Kp.same s1)<|m _ _ _ _ _ (λz h=>⟨f z h.1,h.2⟩) own) .nil⟩
def JM(T:Txt K mg a):yb P w K mg base 6 a "read_ranges" ["reader"]<|spP a HN λA=>RL A mw:=by
 refine Ak T.Gx.fn zM ?_ ?_
 .right
 .ext⟨r,tl,l,rfl,hR,k⟩;have nd:=zM.nd;refine⟨_,aj (bV<|gJ T.Reader T.fM (eY T) hr.mn (J 0)<|bM cQ)<|aj (dZ (fX<|qG T.Reader T.nE (lR T) hr.mn (J 0)<|bM cQ) (aj (bV<|iw T.Reader T.jE (iH T) hr.mn<|J 0)<|aF<|bq<|cg iI) b9)<|aj (iy 1 nd<|cg<|bM<|eB T.CA (Bc T) hr.mn<|aD (J 0)<|bM bR)<|aj (iV dG (cu iU (bE T.Token<|gJ T.Reader T.ir (ig T) hr.mn (J 0)<|bM<|mC<|aD cQ<|bM cQ) cQ<|dh _)<|aF<|bV<|gR aM bh bw d9 (J 1)<|bM<|eB T.CA (Bc T) hr.mn<|aD (J 0)<|bM<|cy bQ 'r' T.gB bC<|bM<|J 1)<|aF<|bq<|J 1,?_⟩
  left
  let⟨dx,j,kZ⟩:=hR.ins;rw[GM.Fo]at k;calc⟨_,Y,r,_,_,Y,kZ,Y,r,tl,l,.sign 40,_,Y,'d','d',hR,Nj.step k (Sm.refl r H) λl1 v1 L e1 s1 mG k1=>?_⟩;let⟨Nv,j1,Lx⟩:=mG.ins;let⟨t,rest,rfl⟩:=mG.ends.cons;have f1:F0 t ")"=next (.sign 41) (t::rest):=mG.fx 'd'
  calc⟨_,Y,r,_,_,Y,Lx,Y,r,tl,t,rest,_,Y,mG,_,Y,?_⟩;rw[f1];by_cases z:next (.sign 41) (t::rest)=true
  .rw[aG z]at k1;rw[z];have nh:t.tok≠ .halt_:=by
    have:t.tok= .sign 41:=by simpa [next]using z
    rw[this];simp
   calc oh ⟨_,Y,r,_,_,Y,Lx,Y,r,tl,t,rest,Y,mG,nh,λx H2 s2 kF _=>?_⟩;calc⟨jH 0,λD nD=>?_⟩;exact k1 _ _ ((s1.trans s2).same (aN.new nD)) (kF.same<|aN.new nD) ⟨D,[],Y,kE.free (s1.trans s2) kF nD,aq,.nil⟩
  .rw[az z]at k1;have z:next (.sign 41) (t::rest)=false:=by simpa using z
   rw[z];rw[nF]at k1;calc m7 ⟨_,Y,r,tl,t::rest,0,Y,mG,fV.step k1 s1 λx l2 v2 H2 e2 s2 kF q2 k2=>?_⟩;calc⟨jH 1,λD nD=>?_⟩;have len:=(GM.sZ (λ_ _ _=>GM.pT) e2).len;calc Gb (K:=K) (sep:=44) (close:=41) 'd' 'd' 'd' (λ_ _ _=>GM.pT) 'd' Dn TF hR.VQ (Lp.first (s1.trans s2) kF nD q2 (λz n=>kE.free s1 mG n) TF Dn q2) 'd' len (λ_ _ _=>Od) k2 ?_;exactλU q=>⟨_,Y,q⟩
section
variable{tl:O} {t:mF} {p:dJ}
def Xb(i:Ln a<|a.c "Token"):∀(A:O->Prop) H U v x,Kp a A H U->(λ_=>e9 a) A H v x->(λ_=>e9 a) A U v x:= λ_ _ _ _ _ k h=>h.kp i k
def uT(e:takeName l= .ok (p,l1)):nameNext l=true/\p.place=here l/\lim most nameNext takeName k l=if most<=k then .error ⟨4,p.place⟩else .ok (p,l1):=by
 cases l with
 |nil=>cases e
 |cons t rest=>
  rcases pF (t:=t) (rest:=rest)with⟨G,p',h2,h3,h4,h5⟩|⟨G,h2,h3⟩
  .rw[h2]at e;cases e;calc⟨h3,h4,?_⟩;unfold lim;by_cases z:most<=k
   .rw[aG ⟨h3,z⟩,aG z,h4];rfl
   .rw[az λh=>z h.2,az z,h2]
  .rw[h2]at e;cases e
def we{A:Type}{one:cU->Except Fault (A×cU)}{f:Fault}(e:takeName l= .error f)(ho:one l= .error f):lim most nameNext one k l= .error f:=by
 cases l with
 |nil=>unfold lim;rw[az λh=>by cases h.1];exact ho
 |cons t rest=>
  rcases pF (t:=t) (rest:=rest)with⟨G,p',h2,h3,h4,h5⟩|⟨G,h2,h3⟩
  .rw[h2]at e;cases e
  .unfold lim;rw[az λh=>by rw[h3]at h;cases h.1];exact ho
def e9.tok(h:e9 a H v p):∃x fs,v= .ref x/\At (a.c "Token") H x fs/\fs.lookup ("place":Str)=some (V.int p.place)/\fs.lookup ("value":Str)=some (V.str<|sw<|nb p.name):=let⟨x,q,e,h⟩:=h;⟨x,_,e,h,Y,Y⟩
end
theorem JJ(T:Txt K mg a):yb P w K mg base 4 a "read_handed" ["reader"]<|spP a EG λA=>RL A<|e9 a:=by
 refine Ak T.Gu.fn zJ ?_ ?_
 .right
 .ext⟨r,tl,l,rfl,hR,k⟩;have nd:=zJ.nd;refine⟨_,aj (dZ (qz<|fX<|qG T.Reader T.nE (lR T) hr.mn (J 0)<|bM cQ) (aF<|bq<|cg iI) b9)<|aj (bV<|iw T.Reader T.jE (iH T) hr.mn<|J 0)<|aj (iy 1 nd<|cg<|bM<|gJ T.Reader T.cG (lA T) hr.mn (J 0)<|bM<|CY "name" T)<|aj (iV dG (cu iU (bE T.Token<|gJ T.Reader T.ir (ig T) hr.mn (J 0)<|bM<|mC<|aD cQ<|bM cQ) cQ<|dh _)<|aj (iy 2 nd<|gJ T.Reader T.cG (lA T) hr.mn (J 0)<|bM<|CY "name" T)<|aj (bV<|eB T.mX (kT T) hr.mn<|aD (J 2)<|aD (cy bQ 'r' T.gB bC<|bM<|J 1)<|bM<|jh (2) T)<|aF<|bV<|gR aM bh bw d9 (J 1)<|bM<|J 2)<|aF<|bq<|J 1,?_⟩
  left
  let⟨dx,j,kZ⟩:=hR.ins;let⟨t,rest,rfl⟩:=hR.ends.cons;rw[GM.IZ]at k;have f1:F0 t "["=next (.sign 91) (t::rest):=hR.fx 'd'
  calc⟨_,Y,r,_,_,Y,kZ,Y,r,tl,t,rest,_,Y,hR,_,Y,?_⟩;rw[f1];by_cases z:next (.sign 91) (t::rest)=true
  .rw[aG z,nF]at k;rw[z];have nh:t.tok≠ .halt_:=by
    have:t.tok= .sign 91:=by simpa [next]using z
    rw[this];simp
   calc m7 ⟨_,Y,r,_,_,Y,kZ,Y,r,tl,t,rest,Y,hR,nh,λx L s1 mG _=>?_⟩;let⟨Nv,j1,Lx⟩:=mG.ins;have e0:lim am5 nameNext takeName 0 ((t::rest).drop 1)=takeName rest:=az (λh=>absurd h.2 'd');rw[e0]at k;have kp:=Xb (a:=a)<|T.ok "Token";calc⟨_,Y,r,_,_,Y,Lx,Y,r,tl,rest,Y,mG,fV.step k s1 λp l2 v2 H2 e2 s2 kF q2 k2=>?_⟩;calc⟨jH 1,λD nD=>?_⟩;have hL0:Lp a r tl H D (λ_=>e9 a) (upd H2 D<|.lst [v2]) [p] l2:=Lp.first (H:=L) (s1.trans s2) kF nD q2 (λz n=>kE.free s1 mG n) kp Dn q2;have len:=(GM.cR e2).len;calc⟨λm Z U=>X4 λ(v:Option V) (pre:List dJ) (l:cU) (n:Nat)=>A6 (Z=[some<|.ref r,some<|.ref D,v]) (m=l.length) (Lp a r tl H D (λ_=>e9 a) U pre l) (l.length<=n) (pre.length<=2)<|fV a r tl H (more 44 93 2 nameNext takeName n pre.length l>>= λy=> .ok (pre++y.1,y.2)) (λA=>RL A<|e9 a) Q E,⟨_,none,[p],l2,_,Y,Y,hL0,bH len<|SQ _,by show 1<=2;decide,k2⟩,?_⟩;rintro m Z U ⟨v,pre,l,n,rfl,rfl,hL,hn,hp,k⟩;let⟨t,rest,rfl⟩:=hL.rd.ends.cons;let⟨dx,j,kZ⟩:=hL.rd.ins;calc⟨_,Y,r,_,_,Y,kZ,Y,jH 2,λp np=>?_⟩;have s1:aN U<|upd U p<|.tup [.str ",",.str "]"]:=aN.new np;calc⟨r,tl,t,rest,p,[",","]"],Y,hL.rd.same s1,aq,?_⟩;have f1:F0 t ","=next (.sign 44) (t::rest):=hL.rd.fx 'd'
   have f2:F0 t "]"=next (.sign 93) (t::rest):=hL.rd.fx 'd'
   rw[eS,eS,EA,f1,f2,mW];unfold more at k;by_cases z1:next (.sign 44) (t::rest)=true
   .rw[aG z1]at k;rw[z1,xF,aG Y];intro x H2 s2 kF ⟨q,tk⟩;have vf:=vY<|f1.trans z1;calc⟨x,_,_,Y,tk,Y,by rw[vf];rfl,_,Y,qS (aR vf) ⟨_,λ_ _ h=>h,?_⟩⟩;have U7:Lp a r tl H D (λ_=>e9 a) H2 pre rest:=hL.go ((s1.sm r).trans s2) kF kp;obtain⟨n,rfl⟩:∃m,n=m+1:=⟨n-1,by rw[ay]at hn;lia⟩;rw[nF,bind_assoc]at k;let⟨dx3,j3,Lx⟩:=kF.ins;calc⟨_,Y,r,_,_,Y,Lx,Y,r,tl,rest,Y,kF,?_⟩;refine fV.mk (λy l3 e3 v3 H3 s3 xT q3=>?_) λf e3=>?_
    .let⟨nn,pl,el⟩:=uT (most:=2) (k:=pre.length) e3;have Th:Lp a r tl H D (λ_=>e9 a) H3 pre l3:=U7.go s3 xT kp;let⟨us,e4,l4,Zh⟩:=Th.put hR.VQ q3 kp;let⟨x3,fs3,rfl,L8,pl3,_⟩:=e9.tok q3;calc⟨_,Y,_,Y,D,_,Y,.inl<|cP.of e4,x3,us.length,2,_,_,Y,L8,pl3,?_⟩;rw[show(t::rest).drop 1=rest from Y,el]at k;rw[l4];by_cases y2:2<=pre.length
     .rw[aG y2]at k⊢;exact(jv.sm (fV.err k Y) Th.sm).at
     .rw[az y2]at k⊢;have ln:=(GM.cR e3).len;refine⟨_,Y,.inl ⟨Y,_,cP.of e4⟩,_,Y,D,us,_,Y,Y,e4,by rw[l4,aW];lia,l3.length,?_,_,pre++[y],l3,n,Y,Y,Zh,?_,by rw[ak,aI];lia,?_⟩
      .rw[ay]
       lia
      .rw[ay]at hn
       lia
      .rw[ak,aI];have e:(λz:List dJ×cU=>(fS (pre++[y]++z.1,z.2):Except Fault<|List dJ×cU))= λz=>fS (pre++y::z.1,z.2):=by
        funext z;rw[cC];rfl
       rw[e];have k:fV a r tl H ((more 44 93 2 nameNext takeName n (pre.length+1) l3>>= λy_1=> .ok (y::y_1.1,y_1.2))>>= λy=> .ok (pre++y.1,y.2)) (λA=>RL A<|e9 a) Q E:=k;rw[bind_assoc]at k;exact k
    .rw[show(t::rest).drop 1=rest from Y,we e3 e3]at k;exact jv.sm (fV.err k Y) U7.sm
   .rw[az z1]at k;have z1':next (.sign 44) (t::rest)=false:=by simpa using z1
    rw[z1',mV];unfold takeSign take at k;by_cases z2:next (.sign 93) (t::rest)=true
    .rw[aG z2]at k⊢;intro x H2 s2 kF ⟨q,tk⟩;have vf:=vY<|f2.trans z2;calc⟨x,_,_,Y,tk,Y,by rw[vf];rfl,_,Y,o7 (dF<|by rw[vf];exact KI 'd') ⟨_,Y,?_⟩⟩;have U7:Lp a r tl H D (λ_=>e9 a) H2 pre rest:=hL.go ((s1.sm r).trans s2) kF kp;have k:∀v U,Sm r H U->kE a U r tl rest->RL (λz=>H z=none) (e9 a) U v (pre++[])->Q v U:=k;rw[cV]at k;exact k _ H2 U7.sm kF (U7.out Dn)
    .rw[az z2]at k⊢;exact jv.same (jv.sm (fV.err k Y) hL.sm) s1
  .rw[az z]at k;have z:next (.sign 91) (t::rest)=false:=by simpa using z
   rw[z];calc oh ⟨jH 0,λD nD=>?_⟩;exact k _ _ ((aN.new nD).sm r) (hR.same<|aN.new nD) ⟨D,[],Y,nD,aq,.nil⟩
def EK(l:cU):AS l=takeName l>>= λx=>HN x.2>>= λrs=>EG rs.2>>= λhs=>takeName hs.2>>= λto=> .ok (⟨x.1,rs.1,hs.1,to.1⟩,to.2):=rfl
def Xi{A:Type}{p:dJ}{one:cU->Except Fault (A×cU)}(e:takeName l= .ok (p,l1)):lim most nameNext one k l=if most<=k then .error ⟨4,p.place⟩else one l:=by
 let⟨G,h2,_⟩:=uT (most:=most) (k:=k) e;unfold lim;by_cases z:most<=k
 .rw[aG ⟨G,z⟩,aG z,h2]
 .rw[az λh=>z h.2,az z]
def yO(T:Txt K mg a):yb P w K mg base 7 a "read_branch" ["reader","count"]<|aa1 a (lim B6 nameNext AS)<|La a:=by
 refine Ak T.yZ.fn zH ?_ ?_
 .right
 .ext⟨r,tl,l,n,rfl,hR,k⟩;have nd:=zH.nd;refine⟨_,aj (iy 2 nd<|gJ T.Reader T.cG (lA T) hr.mn (J 0)<|bM<|CY "name" T)<|aj (bV<|eB T.mX (kT T) hr.mn<|aD (J 2)<|aD (J 1)<|bM<|jh (8) T)<|aj (iy 3 nd<|eB T.Gx (JM T) hr.mn<|bM<|J 0)<|aj (iy 4 nd<|eB T.Gu (JJ T) hr.mn<|bM<|J 0)<|aF<|bq<|oq T.j7 (Jv T) hr.mn<|aD (J 2)<|aD (J 3)<|aD (J 4)<|bM<|gJ T.Reader T.cG (lA T) hr.mn (J 0)<|bM<|CY "name" T,?_⟩
  left
  let⟨dx,j,kZ⟩:=hR.ins;have it:=T.ok "Token";refine⟨_,Y,r,_,_,Y,kZ,Y,r,tl,l,Y,hR,fV.mk (λp l1 e1 v1 L s1 mG q1=>?_) λf e1=>?_⟩
  .let⟨x1,fs1,rfl,ZO,pl1,_⟩:=e9.tok q1;calc⟨_,Y,_,Y,x1,n,8,_,_,Y,ZO,pl1,?_⟩;rw[Xi e1]at k;by_cases y:8<=n
   .rw[aG<|show B6<=n from y]at k;rw[aG y];exact(jv.sm (fV.err k Y) s1).at
   .rw[az<|show¬B6<=n from y,EK,e1]at k;rw[az y];calc⟨_,Y,r,tl,l1,Y,mG,fV.step (β:=List qN) k s1 λrs l2 v2 H2 e2 s2 kF q2 k2=>?_⟩;have AI:=s1.trans s2;calc⟨_,Y,r,tl,l2,Y,kF,fV.step k2 AI λhs l3 v3 H3 e3 s3 xT q3 k3=>?_⟩;have Aq:=AI.trans s3;let⟨dx3,j3,Wa⟩:=xT.ins;calc⟨_,Y,_,Y,_,Y,_,Y,r,_,_,Y,Wa,Y,r,tl,l3,Y,xT,fV.step k3 Aq λto l4 v4 H4 e4 s4 Q3 q4 k4=>?_⟩;calc⟨Y,λx H5 s5 nx Zc=>?_⟩;have Q7:=(Aq.trans s4).same s5;refine k4 _ H5 Q7 (Q3.same s5) ⟨x,_,_,_,_,Y,Zc,?_,?_,?_,?_⟩
    .exact(((q1.kp (A:= λ_=>True) it<|mG.kp s2).kp (A:= λ_=>True) it (kF.kp s3)).kp (A:= λ_=>True) it (xT.kp s4)).kp (A:= λ_=>True) it (Kp.same s5)
    .have z:=((q2.kp (kF.kp s3) λ_ _ h=>h.kp<|kF.kp (A:= λ_=>True) s3).kp (xT.kp s4) λ_ _ h=>h.kp<|xT.kp (A:= λ_=>True) s4).kp (a:=a) (Kp.same s5) λ_ _ h=>h.kp (a:=a) (A:= λ_=>True)<|Kp.same s5;exact z.mono (λz n=>kE.free s1 mG n) λ_ _ h=>h
    .have z:=(q3.kp (xT.kp s4) λ_ _ h=>h.kp it<|xT.kp (A:= λ_=>True) s4).kp (a:=a) (Kp.same s5) λ_ _ h=>h.kp (a:=a) (A:= λ_=>True) it<|Kp.same s5;exact z.mono (λz n=>kE.free AI kF n) λ_ _ h=>h
    .exact q4.kp (A:= λ_=>True) it (Kp.same s5)
  .rw[we e1<|by rw[EK,e1];rfl]at k;exact fV.err k Y
def Lr{x:iK}(h:AS l= .ok (x,l')):nameNext l=true:=by
 rw[EK]at h;let⟨⟨p,l1⟩,e,_⟩:=GM.bu h;exact(uT (most:=0) (k:=0) e).1
def adX(T:Txt K mg a):∀(A:O->Prop) H U v x,Kp a A H U->La a A H v x->La a A U v x:= λ_ _ _ _ _ k h=>h.kp (T.ok "Token") (T.ok "DraftBranch") k
def Xr:∀(A B:O->Prop) H v x,(∀z,A z->B z)->La a A H v x->La a B H v x:= λ_ _ _ _ _ m h=>h.mono m
def Fb(T:Txt K mg a):yb P w K mg base 8 a "read_branches" ["reader"]<|spP a lZ λA=>RL A<|La a A:=by
 refine Ak T.Bg.fn vm ?_ ?_
 .right
 .ext⟨r,tl,l,rfl,hR,k⟩;have nd:=vm.nd;refine⟨_,aj (bV<|gJ T.Reader T.fM (eY T) hr.mn (J 0)<|bM cQ)<|aj (iy 1 nd<|cg<|bM<|eB T.yZ (yO T) hr.mn<|aD (J 0)<|bM bR)<|aj (iV dG (cu iU (bE T.Token<|gJ T.Reader T.ir (ig T) hr.mn (J 0)<|bM<|mC<|aD cQ<|bM cQ) cQ<|dh _)<|aF<|bV<|gR aM bh bw d9 (J 1)<|bM<|eB T.yZ (yO T) hr.mn<|aD (J 0)<|bM<|cy bQ 'r' T.gB bC<|bM<|J 1)<|aF<|bq<|J 1,?_⟩
  left
  let⟨dx,j,kZ⟩:=hR.ins;unfold lZ at k;calc⟨_,Y,r,_,_,Y,kZ,Y,r,tl,l,.sign 123,_,Y,'d','d',hR,Nj.step k (Sm.refl r H) λl1 v1 L e1 s1 mG k1=>?_⟩;rw[nF]at k1;calc⟨_,Y,r,tl,l1,0,Y,mG,fV.step k1 s1 λx l2 v2 H2 e2 s2 kF q2 k2=>?_⟩;calc⟨jH 1,λD nD=>?_⟩;have len:=(GM.sZ (λ_ _ _=>GM.oF) e2).len;have own:La a (λz=>L z=none/\z≠D) H2 v2 x:=by
   let⟨y,u1,u2,u3,u4,e,h,G,⟨la,va,ea,na,ha,aa⟩,⟨lb,vb,eb,nb',hb,ab⟩,h4⟩:=q2;exact⟨y,u1,u2,u3,u4,e,h,G,⟨la,va,ea,⟨na,λz=>by rw[z,nD]at ha;cases ha⟩,ha,aa⟩,⟨lb,vb,eb,⟨nb',λz=>by rw[z,nD]at hb;cases hb⟩,hb,ab⟩,h4⟩
  calc Gb (K:=K) (sep:=59) (close:=125) 'd' 'd' 'd' (λ_ _ _=>GM.oF) 'd' Xr (adX T) hR.VQ (Lp.first (s1.trans s2) kF nD q2 (λz n=>kE.free s1 mG n) (adX T) Xr own) 'd' len (λ_ _ _=>Lr) k2 ?_;exactλU q=>⟨_,Y,q⟩
inductive aiI {α:Type} (a:g9) (f:cU->Except Fault (α×cU)) (R:dJ->(O->Prop)->Hp->V->α->Prop) (S:List V) (H:Hp) (Q:VK) (E:XK):Prop
 |mk (r tl l v p:_) (k0:S=[.ref r,v]) (k1:kE a H r tl l) (k2:e9 a H v p) (k3:fV a r tl H (f l) (R p) Q E)
def NX(T:Txt K mg a):yb P w K mg base 4 a "read_both" ["reader","name"]<|aiI a Ei λp A H v n=>Ew a A H v (p,n):=by
 refine Ak T.ME.fn DZ ?_ ?_
 .right
 .ext⟨r,tl,l,v,p,rfl,hR,qn,k⟩;have nd:=DZ.nd;refine⟨_,aj (iy 2 nd<|gJ T.Reader T.cG (lA T) hr.mn (J 0)<|bM<|CY "name" T)<|aF<|bq<|oq T.gC (uh T) hr.mn<|aD (J 1)<|aD (jh (2) T)<|aD (cg<|aD (J 2)<|bM<|gJ T.Reader T.cG (lA T) hr.mn (J 0)<|bM<|CY "name" T)<|bM<|cg iI,?_⟩
  left
  let⟨dx,j,kZ⟩:=hR.ins;have it:=T.ok "Token";calc⟨_,Y,r,_,_,Y,kZ,Y,r,tl,l,Y,hR,fV.step k (Sm.refl r H) λs' l1 v1 L e1 s1 mG q1 k1=>?_⟩;let⟨Nv,j1,Lx⟩:=mG.ins;calc⟨_,Y,_,Y,_,Y,r,_,_,Y,Lx,Y,r,tl,l1,Y,mG,fV.step k1 s1 λt' l2 v2 H2 e2 s2 kF q2 k2=>?_⟩;calc⟨jH 2,λD nD=>⟨jH 0,λD2 Vo=>⟨Y,λx H5 s5 nx Zc=>?_⟩⟩⟩;have sD:aN H2<|upd H2 D<|.lst [v1,v2]:=aN.new nD;have sD2:aN (upd H2 D<|.lst [v1,v2])<|upd (upd H2 D<|.lst [v1,v2]) D2<|.lst []:=aN.new Vo;have sE:=(sD.trans sD2).trans s5;have AI:=s1.trans s2;refine k2 _ H5 (AI.same sE) (kF.same sE) ⟨x,_,_,_,Y,Zc,?_,⟨D,_,Y,kE.free AI kF nD,s5 _ _<|sD2 _ _ aq,?_⟩,⟨D2,[],Y,kE.free AI kF<|sD.free Vo,s5 _ _ aq,.nil⟩⟩
  .exact((qn.kp (A:= λ_=>True) it<|hR.kp s1).kp (A:= λ_=>True) it (mG.kp s2)).kp (A:= λ_=>True) it (Kp.same sE)
  .exact .cons ((q1.kp (A:= λ_=>True) it<|mG.kp s2).kp (A:= λ_=>True) it (Kp.same sE)) (.cons (q2.kp (A:= λ_=>True) it<|Kp.same sE) .nil)
def N1(T:Txt K mg a):yb P w K mg base 9 a "read_talk" ["reader","name"]<|aiI a zU λp A H v n=>Ew a A H v (p,n):=by
 refine Ak T.MI.fn D8 ?_ ?_
 .right
 .ext⟨r,tl,l,v,p,rfl,hR,qn,k⟩;have nd:=D8.nd;refine⟨_,aj (iy 2 nd<|gJ T.Reader T.cG (lA T) hr.mn (J 0)<|bM<|CY "name" T)<|aj (bV<|gJ T.Reader T.fM (eY T) hr.mn (J 0)<|bM cQ)<|aj (iy 3 nd<|gJ T.Reader T.cG (lA T) hr.mn (J 0)<|bM<|CY "name" T)<|aF<|bq<|oq T.gC (uh T) hr.mn<|aD (J 1)<|aD (jh (1) T)<|aD (cg<|aD (J 2)<|bM<|J 3)<|bM<|eB T.Bg (Fb T) hr.mn<|bM<|J 0,?_⟩
  left
  let⟨dx,j,kZ⟩:=hR.ins;have it:=T.ok "Token";calc⟨_,Y,r,_,_,Y,kZ,Y,r,tl,l,Y,hR,fV.step k (Sm.refl r H) λx1 l1 v1 L e1 s1 mG q1 k1=>?_⟩;let⟨Nv,j1,Lx⟩:=mG.ins;calc⟨_,Y,r,_,_,Y,Lx,Y,r,tl,l1,.sign 1,_,Y,'d','d',mG,Nj.step k1 s1 λl2 v2 H2 e2 s2 kF k2=>?_⟩;have AI:=s1.trans s2;let⟨Ze,j2,Wa⟩:=kF.ins;calc⟨_,Y,r,_,_,Y,Wa,Y,r,tl,l2,Y,kF,fV.step k2 AI λx3 l3 v3 H3 e3 s3 xT q3 k3=>?_⟩;have Aq:=AI.trans s3;calc⟨_,Y,_,Y,_,Y,jH 2,λD nD=>?_⟩;have sD:aN H3<|upd H3 D<|.lst [v1,v3]:=aN.new nD;calc⟨_,Y,r,tl,l3,Y,xT.same sD,fV.step k3 (Aq.same sD) λbs l4 v4 H4 e4 s4 Q3 q4 k4=>?_⟩;calc⟨Y,λx H5 s5 nx Zc=>?_⟩;have k34:∀{A:O->Prop},Kp a A H3 H5:= λ{A}=>((Kp.same sD).trans ((xT.same sD).kp s4)).trans (Kp.same s5);have nDr:D≠r:= λz=>by
   let⟨dx3,j3,q⟩:=xT.ins;rw[z,q]at nD;cases nD
  refine k4 _ H5 (((Aq.same sD).trans s4).same s5) (Q3.same s5) ⟨x,_,_,_,Y,Zc,?_,⟨D,_,Y,kE.free Aq xT nD,s5 _ _<|s4 _ _ nDr aq,?_⟩,?_⟩
  .exact(((qn.kp (A:= λ_=>True) it<|hR.kp s1).kp (A:= λ_=>True) it (mG.kp s2)).kp (A:= λ_=>True) it (kF.kp s3)).kp (A:= λ_=>True) it k34
  .exact .cons (((q1.kp (A:= λ_=>True) it<|mG.kp s2).kp (A:= λ_=>True) it (kF.kp s3)).kp (A:= λ_=>True) it k34) (.cons (q3.kp (A:= λ_=>True) it k34) .nil)
  .refine(q4.kp (a:=a) (Kp.same s5) λ_ _ h=>adX T _ _ _ _ _ (Kp.same s5) h).mono (λz n=>kE.free Aq xT<|sD.free n) λ_ _ h=>h.mono λz n=>kE.free Aq xT (sD.free n)
def Bd(T:Txt K mg a):yb P w K mg base 10 a "read_state" ["reader","count"]<|aa1 a (lim oM nameNext jO)<|Ew a:=by
 refine Ak T.CB.fn BN ?_ ?_
 .right
 .ext⟨r,tl,l,n,rfl,hR,k⟩;have nd:=BN.nd;refine⟨_,aj (iy 2 nd<|gJ T.Reader T.cG (lA T) hr.mn (J 0)<|bM<|CY "name" T)<|aj (bV<|eB T.mX (kT T) hr.mn<|aD (J 2)<|aD (J 1)<|bM<|jh (64) T)<|aj (bV<|gJ T.Reader T.fM (eY T) hr.mn (J 0)<|bM cQ)<|aj (dZ (fX<|qG T.Reader T.nE (lR T) hr.mn (J 0)<|bM cQ) (aj (bV<|iw T.Reader T.jE (iH T) hr.mn<|J 0)<|aF<|bq<|oq T.gC (uh T) hr.mn<|aD (J 2)<|aD (jh (0) T)<|aD (cg iI)<|bM<|cg iI) b9)<|aj (dZ (fX<|qG T.Reader T.nE (lR T) hr.mn (J 0)<|bM cQ) (aj (bV<|iw T.Reader T.jE (iH T) hr.mn<|J 0)<|aF<|bq<|eB T.ME (NX T) hr.mn<|aD (J 0)<|bM<|J 2) b9)<|aF<|bq<|eB T.MI (N1 T) hr.mn<|aD (J 0)<|bM<|J 2,?_⟩
  left
  let⟨dx,j,kZ⟩:=hR.ins;have it:=T.ok "Token";refine⟨_,Y,r,_,_,Y,kZ,Y,r,tl,l,Y,hR,fV.mk (λp l1 e1 v1 L s1 mG q1=>?_) λf e1=>?_⟩
  .let⟨x1,fs1,rfl,ZO,pl1,_⟩:=e9.tok q1;calc⟨_,Y,_,Y,x1,n,64,_,_,Y,ZO,pl1,?_⟩;rw[Xi e1]at k;by_cases y:64<=n
   .rw[aG<|show oM<=n from y]at k;rw[aG y];exact(jv.sm (fV.err k Y) s1).at
   .rw[az<|show¬oM<=n from y]at k;unfold jO at k;rw[e1]at k;rw[az y];let⟨Nv,j1,Lx⟩:=mG.ins;have k:fV a r tl H (takeSign 61 l1>>= λl=>K9 l>>= λy=> .ok ((p,y.1),y.2)) (Ew a) Q E:=k;calc⟨_,Y,r,_,_,Y,Lx,Y,r,tl,l1,.sign 61,_,Y,'d','d',mG,Nj.step k s1 λl2 v2 H2 e2 s2 kF k2=>?_⟩;have AI:=s1.trans s2;let⟨Ze,j2,Wa⟩:=kF.ins;let⟨t,rest,rfl⟩:=kF.ends.cons;have q2:=q1.kp (A:= λ_=>True) it<|mG.kp s2;have f1:F0 t "end"=next (.name<|cO "end") (t::rest):=kF.fx 'd'
    have f2:F0 t "both"=next (.name<|cO "both") (t::rest):=kF.fx 'd'
    rw[GM.NQ]at k2;calc⟨_,Y,r,_,_,Y,Wa,Y,r,tl,t,rest,_,Y,kF,_,Y,?_⟩;rw[f1];by_cases z:next (.name<|cO "end") (t::rest)=true
    .rw[aG z]at k2;rw[z];have nh:t.tok≠ .halt_:=by
      have:t.tok= .name (cO "end"):=by simpa [next]using z
      rw[this];simp
     calc oh ⟨_,Y,r,_,_,Y,Wa,Y,r,tl,t,rest,Y,kF,nh,λx H3 s3 xT _=>?_⟩;have Aq:=AI.trans s3;calc⟨_,Y,jH 0,λD nD=>⟨jH 0,λD2 Vo=>⟨Y,λx H5 s5 nx Zc=>?_⟩⟩⟩;have sD:aN H3<|upd H3 D<|.lst []:=aN.new nD;have sD2:aN (upd H3 D<|.lst [])<|upd (upd H3 D<|.lst []) D2<|.lst []:=aN.new Vo;have sE:=(sD.trans sD2).trans s5;exact k2 _ H5 (Aq.same sE) (xT.same sE) ⟨x,_,_,_,Y,Zc,(q2.kp (A:= λ_=>True) it<|kF.kp s3).kp (A:= λ_=>True) it (Kp.same sE),⟨D,[],Y,kE.free Aq xT nD,s5 _ _<|sD2 _ _ aq,.nil⟩,⟨D2,[],Y,kE.free Aq xT<|sD.free Vo,s5 _ _ aq,.nil⟩⟩
    .rw[az z]at k2;have z:next (.name<|cO "end") (t::rest)=false:=by simpa using z
     rw[z];calc m7 ⟨_,Y,r,_,_,Y,Wa,Y,r,tl,t,rest,_,Y,kF,_,Y,?_⟩;rw[f2];by_cases z:next (.name<|cO "both") (t::rest)=true
     .rw[aG z]at k2;rw[z];have nh:t.tok≠ .halt_:=by
       have:t.tok= .name (cO "both"):=by simpa [next]using z
       rw[this];simp
      calc oh ⟨_,Y,r,_,_,Y,Wa,Y,r,tl,t,rest,Y,kF,nh,λx H3 s3 xT _=>?_⟩;have Aq:=AI.trans s3;calc⟨_,Y,_,Y,r,tl,rest,_,p,Y,xT,q2.kp (A:= λ_=>True) it<|kF.kp s3,fV.step k2 Aq λy l4 v4 H4 e4 s4 Q3 q4 k4=>?_⟩;exact k4 _ H4 (Aq.trans s4) Q3 (q4.mono λz n=>kE.free Aq xT n)
     .rw[az z]at k2;have z:next (.name<|cO "both") (t::rest)=false:=by simpa using z
      rw[z];calc m7 ⟨_,Y,_,Y,r,tl,t::rest,_,p,Y,kF,q2,fV.step k2 AI λy l4 v4 H4 e4 s4 Q3 q4 k4=>?_⟩;exact k4 _ H4 (AI.trans s4) Q3 (q4.mono λz n=>kE.free AI kF n)
  .rw[we e1<|by unfold jO;rw[e1];rfl]at k;exact fV.err k Y
def aaj(T:Txt K mg a):∀(A:O->Prop) H U v x,Kp a A H U->Ew a A H v x->Ew a A U v x:= λ_ _ _ _ _ k h=>h.kp (T.ok "Token") (T.ok "DraftBranch") (T.ok "DraftState") k
def RW:∀(A B:O->Prop) H v x,(∀z,A z->B z)->Ew a A H v x->Ew a B H v x:= λ_ _ _ _ _ m h=>h.mono m
def RL.ne{R atE:Hp->V->α->Prop}{xs:List α}(h:RL A R H v xs)(nD:H D=none)(m:∀v x,R H v x->atE H v x):RL (λz=>A z/\z≠D) atE H v xs:=by
 let⟨l,S,e,al,hl,h⟩:=h;exact⟨l,S,e,⟨al,λz=>by rw[z,nD]at hl;cases hl⟩,hl,h.mono m⟩
def La.ne{b:iK}(h:La a A H v b)(nD:H D=none):La a (λz=>A z/\z≠D) H v b:=let⟨x,u1,u2,u3,u4,e,h,G,h2,h3,h4⟩:=h;⟨x,u1,u2,u3,u4,e,h,G,h2.ne nD λ_ _ h=>h,h3.ne nD λ_ _ h=>h,h4⟩
def Ew.ne{b:dJ×eW}(h:Ew a A H v b)(nD:H D=none):Ew a (λz=>A z/\z≠D) H v b:=let⟨x,u1,u3,u4,e,h,G,h3,h4⟩:=h;⟨x,u1,u3,u4,e,h,G,h3.ne nD λ_ _ h=>h,h4.ne nD λ_ _ h=>h.ne nD⟩
def O7(a:g9)(r:O)(H:Hp)(res:Except Fault<|List<|dJ×eW)(Q:VK)(E:XK):Prop:=match res with
 | .ok xs=>∀v U,Sm r H U->RL (λz=>H z=none) (Ew a λz=>H z=none) U v xs->Q v U
 | .error f=>jv (a.c "Fault") r E H f.code f.place
def O7.step{atE:(O->Prop)->Hp->V->β->Prop}{tl:O}{res:Except Fault (β×cU)}{g:β×cU->Except Fault (List<|dJ×eW)}(k:O7 a r H0 (res>>=g) Q E)(s:Sm r H0 H) (ho:∀x l1 v L,res= .ok (x,l1)->Sm r H L->kE a L r tl l1->atE (λz=>H z=none) L v x->O7 a r H0 (g (x,l1)) Q E->Q1 v L):fV a r tl H res atE Q1 E:=by
 cases res with
 |error f=>exact jv.sm k s
 |ok x=>exactλv L s hR q=>ho x.1 x.2 v L Y s hR q k
inductive aiK (a:g9) (S:List V) (H:Hp) (Q:VK) (E:XK):Prop
 |mk (r tl l:_) (k0:S=[.ref r]) (k1:kE a H r tl l) (k2:O7 a r H (if next .halt_ l=true then wrong l else takeStates (l.length+1) 0 l) Q E)
theorem MT{x:dJ×eW}(h:lim oM nameNext jO k l= .ok (x,l')):l'.length<l.length/\k<64:=by
 unfold lim at h;split at h
 .cases h
 .rename_i z;let⟨⟨p,l1⟩,e,h⟩:=GM.bu h;have nn:=(uT (most:=0) (k:=0) e).1;let⟨l2,e2,h⟩:=GM.bu h;let⟨⟨y,l3⟩,e3,h⟩:=GM.bu h;let⟨_,rfl⟩:=GM.Aj h;have a2:l2.length<=l1.length:=(GM.jo 's' e2).len;have a3:l3.length<=l2.length:=(GM.Ej e3).len;calc⟨?_,qi λy=>z ⟨nn,y⟩⟩;cases l with
  |nil=>cases e
  |cons t rest=>
   rcases pF (t:=t) (rest:=rest)with⟨G,p',h2,_⟩|⟨G,h2,_⟩
   .rw[h2]at e;cases e;rw[ay];show l3.length<l1.length+1
    lia
   .rw[h2]at e;cases e
def W8{t:mF}:decide (kindOf t.tok="ending")=next .halt_ (t::rest):=by
 let⟨p,t⟩:=t;cases t with
 |name b=>
  show decide ((if dH.contains b=true then("fixed":Str)else "name")="ending")=false;split<;>decide
 |num n=>rfl
 |text n=>rfl
 |sign n=>rfl
 |halt_=>rfl
theorem JN(T:Txt K mg a):yb P w K mg base 11 a "read_states" ["reader"]<|aiK a:=by
 refine Ak T.Gy.fn zN ?_ ?_
 .right
 .ext⟨r,tl,l,rfl,hR,k⟩;have nd:=zN.nd;refine⟨_,aj (iy 1 nd<|cg<|bM<|eB T.CB (Bd T) hr.mn<|aD (J 0)<|bM bR)<|aj (iV dG (qz<|fX<|qG T.Reader T.jb (iT T) hr.mn (J 0)<|bM<|CY "ending" T)<|aF<|bV<|gR aM bh bw d9 (J 1)<|bM<|eB T.CB (Bd T) hr.mn<|aD (J 0)<|bM<|cy bQ 'r' T.gB bC<|bM<|J 1)<|aF<|bq<|J 1,?_⟩
  left
  have kq:O7 a r H (lim oM nameNext jO 0 l>>= λx=>takeStates l.length 1 x.2>>= λxs=> .ok<|x.1::xs) Q E:=by
   by_cases z:next .halt_ l=true
   .rw[aG z]at k;have e:lim oM nameNext jO 0 l=wrong l:=by
     unfold lim;rw[az λh=>absurd h.2 'd'];let⟨t,rest,rfl⟩:=hR.ends.cons;have:t.tok= .halt_:=by simpa [next]using z
     let⟨p,t⟩:=t;dsimp only at this;subst this;rfl
    rw[e];exact k
   .rw[az z,GM.Fz,az z]at k;exact k
  calc⟨_,Y,r,tl,l,0,Y,hR,O7.step kq (Sm.refl r H) λx l1 v1 L e1 s1 mG q1 k1=>?_⟩;calc⟨jH 1,λD nD=>?_⟩;have hL0:Lp a r tl H D (Ew a) (upd L D<|.lst [v1]) [x] l1:=Lp.first (H:=H) s1 mG nD q1 (λz n=>n) (aaj T) RW<|q1.ne nD;calc⟨λm Z U=>Z=[some<|.ref r,some<|.ref D]/\∃(pre:List<|dJ×eW) (l:cU) (n:Nat),m=l.length/\Lp a r tl H D (Ew a) U pre l/\l.length<=n/\pre.length<=64/\O7 a r H (takeStates n pre.length l>>= λxs=> .ok<|pre++xs) Q E,⟨_,Y,[x],l1,_,Y,hL0,kL (MT e1).1,by show 1<=64;decide,k1⟩,?_⟩;rintro m Z U ⟨rfl,pre,l,n,rfl,hL,hn,hp,k⟩;let⟨t,rest,rfl⟩:=hL.rd.ends.cons;let⟨dx,j,kZ⟩:=hL.rd.ins;obtain⟨n,rfl⟩:∃m,n=m+1:=⟨n-1,by rw[ay]at hn;lia⟩;rw[GM.Fz]at k;calc⟨_,Y,r,_,_,Y,kZ,Y,r,tl,t,rest,_,Y,hL.rd,_,Y,?_⟩;rw[W8 (rest:=rest)];by_cases z:next .halt_ (t::rest)=true
  .rw[aG z]at k;rw[z];have k:∀v U,Sm r H U->RL (λz=>H z=none) (Ew a λz=>H z=none) U v (pre++[])->Q v U:=k;rw[cV]at k;exact m7 ⟨_,Y,k _ U hL.sm<|hL.out RW⟩
  .rw[az z,bind_assoc]at k;have z:next .halt_ (t::rest)=false:=by simpa using z
   rw[z];let⟨S,hD,al⟩:=id hL.lst;calc oh ⟨_,λ_ _ h=>h,?_⟩;calc⟨_,Y,.inl ⟨Y,_,cP.of hD⟩,_,Y,_,Y,D,_,Y,.inl<|cP.of hD,r,tl,t::rest,pre.length,by rw[al.len];rfl,hL.rd,O7.step k hL.sm λy l3 v H3 e3 s3 xT q3 k3=>?_⟩;have Th:Lp a r tl H D (Ew a) H3 pre l3:=hL.go s3 xT<|aaj T;let⟨us,e4,l4,Zh⟩:=Th.put hR.VQ (RW _ _ _ _ _ (λz n=>hL.own n) q3)<|aaj T;let⟨lt,lk⟩:=MT e3;calc⟨D,us,v,Y,Y,e4,by rw[l4,aW];lia,l3.length,lt,Y,pre++[y],l3,n,Y,Zh,'l',by rw[ak,aI];lia,?_⟩;rw[ak,aI];have e:(λz:List (dJ×eW)=>(fS (pre++[y]++z):Except Fault<|List<|dJ×eW))= λz=>fS<|pre++y::z:=by
    funext z;rw[cC];rfl
   rw[e];rw[bind_assoc]at k3;exact k3
inductive Eg (C:O) (n:Nat) (g:List V->List (Str×V)) (S:List V) (H:Hp) (Q:VK) (rq:XK):Prop
 |mk (p dx:O) (us:List V) (k0:S= .ref p::us) (k1:us.length=n) (k2:H p=some (.ins C dx [])) (k3:Q .gQ (upd H p (.ins C dx (g us))))
def acw(C:O)(n:Nat)(g:List V->List (Str×V))(t:TA):TE:= λZ H Q=>t Z H λS L=>S.length=n/\∀x H2,aN L H2->L x=none->At C H2 x (g S)->Q (.ref x) H2
def XY{C:Str}{st:b5}{fs:List Str}{g:List V->List (Str×V)}{p pos:Pos}{t:TA}(T:Iw X.K X.mg a C q st ps fs)(atG:nQ X.prog X.w X.K X.mg X.base QX k (a.f q) (a.d q) ps<|Eg (a.c C) n g)(hr:ia (k+1) X.A)(ha:PA X (e::es) t) (hg:Gl X C:=by rfl)(ER:(C==("__debug__":Str))=false:=by decide)(he:starEach (e::es) X.env=(false,eval e X.env)::starEach es X.env:=by rfl)(yc:(backTo pos<|starEach es X.env).any (·.1)=false:=by rfl):PE X (.Call (.Name C p) (e::es) [] pos)<|acw (a.c C) n g t:=by
 intro aB s Z H Q I h;calc eV<|pQ I hg T.m ?_ ER;calc je (h₀:=X.base) I.ok.mod.kin T.mkr.kp (iz (ha pos aB s Z H _ I h) ?_) he yc;rintro us s1 ⟨S,L,I1,r,len,q⟩;calc⟨I1.Ag,?_⟩;calc DL (E:=E0) T.mkr atG hr T.b .nil Gn I1 r λx dx n1 n2 ne=>?_;rw[cV];calc⟨x,dx,S,Y,len,aq,Y,?_⟩;rw[dS];calc q x _ (λb o z=>?_) n1 ⟨dx,aq⟩;rw[aY<|bg z n1,aY<|bg z n2];exact z
def aaD{C:Str}{st:b5}{fs:List Str}{g:List V->List (Str×V)}{p pos:Pos}(T:Iw X.K X.mg a C q st ps fs)(atG:nQ X.prog X.w X.K X.mg X.base QX k (a.f q) (a.d q) ps<|Eg (a.c C) 0 g)(hr:ia (k+1) X.A) (hg:Gl X C:=by rfl)(ER:(C==("__debug__":Str))=false:=by decide):PE X (.Call (.Name C p) [] [] pos)<|acw (a.c C) 0 g m9:=by
 intro aB s Z H Q I h;let⟨len,q⟩:=h;calc eV<|pQ I hg T.m ?_ ER;calc O2 I.Ag T.mkr.kp<|DL (us:=[]) (S:=[]) (E:=E0) T.mkr atG hr T.b .nil Gn I .nil λx dx n1 n2 ne=>?_;calc⟨x,dx,[],Y,Y,aq,Y,?_⟩;rw[dS];calc q x _ (λb o z=>?_) n1 ⟨dx,aq⟩;rw[aY<|bg z n1,aY<|bg z n2];exact z
noncomputable def rdF:List V->List (Str×V)
 |[v]=>[("tokens",v),("at",.int 0)]
 |_=>[]
def Vs(T:Txt K mg a):jM P w K mg base 1 a "Reader.__init__" ["self","tokens"]<|Eg (a.c "Reader") 1 rdF:=by
 refine T.Reader.fn.ok Km ?_ ?_
 .rintro _ _ _ _ ⟨p,dx,us,rfl,l,_⟩;simp[l]
 .ext⟨p,dx,us,rfl,l,hp,k⟩;revert hp k;calc tV l ?_;intro v1 hp k;have C:=T.Reader;refine⟨_,aj (dP (J 0) (J 1) Y)<|aF<|dP (J 0) bR Y,?_⟩
  left
  calc⟨_,Y,_,Y,p,_,dx,_,Y,hp,C.cl,C.nO,'d',_,Y,p,_,dx,_,Y,aq,C.cl,C.nO,vv 1,?_⟩;rw[dS];exact k
def T5(l:cU):Except Fault<|List dJ×cU:=Et "parties" l>>= λl=>if nameNext l=false then wrong l else takeParties (l.length+1) 0 l
def aai{t:mF}:decide (kindOf t.tok="name")=nameNext (t::rest):=by
 rcases pF (t:=t) (rest:=rest)with⟨G,p',h2,h3,_⟩|⟨G,h2,h3⟩
 .rw[aR G,h3]
 .rw[bB G,h3]
theorem Hs(T:Txt K mg a):yb P w K mg base 5 a "read_parties" ["reader"]<|spP a T5 λA=>RL A<|e9 a:=by
 refine Ak T.DJ.fn xx ?_ ?_
 .right
 .ext⟨r,tl,l,rfl,hR,k⟩;have nd:=xx.nd;refine⟨_,aj (bV<|gJ T.Reader T.fM (eY T) hr.mn (J 0)<|bM cQ)<|aj (iy 1 nd<|cg<|bM<|gJ T.Reader T.cG (lA T) hr.mn (J 0)<|bM<|CY "name" T)<|aj (iV dG (fX<|qG T.Reader T.jb (iT T) hr.mn (J 0)<|bM<|CY "name" T)<|aj (iy 2 nd<|iw T.Reader T.jE (iH T) hr.mn<|J 0)<|aj (bV<|eB T.mX (kT T) hr.mn<|aD (J 2)<|aD (cy bQ 'r' T.gB bC<|bM<|J 1)<|bM<|jh (8) T)<|aF<|bV<|gR aM bh bw d9 (J 1)<|bM<|J 2)<|aF<|bq<|J 1,?_⟩
  left
  let⟨dx,j,kZ⟩:=hR.ins;have kp:=Xb (a:=a)<|T.ok "Token";unfold T5 at k;calc⟨_,Y,r,_,_,Y,kZ,Y,r,tl,l,.name<|cO "parties",_,Y,'d','d',hR,Nj.step k (Sm.refl r H) λl1 v1 L e1 s1 mG k1=>?_⟩;let⟨Nv,j1,Lx⟩:=mG.ins;refine⟨_,Y,r,_,_,Y,Lx,Y,r,tl,l1,Y,mG,fV.mk (λp l2 e2 v2 H2 s2 kF q2=>?_) λf e2=>?_⟩
  .have nn:=uT (most:=sN) (k:=0) e2;rw[az<|by rw[nn.1];decide,GM.Cv,az<|by rw[nn.1];decide,nn.2.2,az 'd']at k1;have k1:fV a r tl H (takeParties l1.length 1 l2>>= λxs=> .ok (p::xs.1,xs.2)) (λA=>RL A<|e9 a) Q E:=k1;calc⟨jH 1,λD nD=>?_⟩;have hL0:Lp a r tl H D (λ_=>e9 a) (upd H2 D<|.lst [v2]) [p] l2:=Lp.first (H:=L) (s1.trans s2) kF nD q2 (λz n=>kE.free s1 mG n) kp Dn q2;calc⟨λm Z U=>X4 λ(v:Option V) (pre:List dJ) (l:cU) (n:Nat)=>A6 (Z=[some<|.ref r,some<|.ref D,v]) (m=l.length) (Lp a r tl H D (λ_=>e9 a) U pre l) (l.length<=n) (pre.length<=8)<|fV a r tl H (takeParties n pre.length l>>= λy=> .ok (pre++y.1,y.2)) (λA=>RL A<|e9 a) Q E,⟨_,none,[p],l2,_,Y,Y,hL0,(GM.cR e2).len,by show 1<=8;decide,k1⟩,?_⟩;rintro m Z U ⟨v,pre,l,n,rfl,rfl,hL,hn,hp,k⟩;let⟨t,rest,rfl⟩:=hL.rd.ends.cons;let⟨dx,j,kZ⟩:=hL.rd.ins;obtain⟨n,rfl⟩:∃m,n=m+1:=⟨n-1,by rw[ay]at hn;lia⟩;rw[GM.Cv]at k;calc⟨_,Y,r,_,_,Y,kZ,Y,r,tl,t,rest,_,Y,hL.rd,_,Y,?_⟩;rw[aai (rest:=rest)];rcases pF (t:=t) (rest:=rest)with⟨G,p,h2,h3,h4,h5⟩|⟨G,h2,h3⟩
   .rw[az<|by rw[h3];decide,bind_assoc]at k;rw[h3];calc oh ⟨_,λ_ _ h=>h,?_⟩;calc⟨_,Y,r,_,_,Y,kZ,Y,r,tl,t,rest,Y,hL.rd,by rw[h5];simp,λx H3 s3 xT tk=>?_⟩;have q3:e9 a H3 (.ref x) p:=let⟨q,tk⟩:=tk;⟨x,q,Y,by rw[h4,←h5];exact tk⟩;have Th:Lp a r tl H D (λ_=>e9 a) H3 pre rest:=hL.go s3 xT kp;let⟨us,e4,l4,Zh⟩:=Th.put hR.VQ q3 kp;let⟨x3,fs3,e3,L8,pl3,_⟩:=e9.tok q3;cases e3;calc⟨_,Y,_,Y,D,_,Y,.inl<|cP.of e4,x,us.length,8,_,_,Y,L8,pl3,?_⟩;rw[(uT (most:=sN) (k:=pre.length) h2).2.2]at k;rw[l4];by_cases y2:8<=pre.length
    .rw[aG<|show sN<=pre.length from y2]at k;rw[aG y2];exact(jv.sm (fV.err k Y) Th.sm).at
    .rw[az<|show¬sN<=pre.length from y2]at k;rw[az y2];rw[ay]at hn;calc⟨_,Y,.inl ⟨Y,_,cP.of e4⟩,_,Y,D,us,_,Y,Y,e4,by rw[l4,aW];lia,rest.length,by rw[ay];lia,_,pre++[p],rest,n,Y,Y,Zh,'l',by rw[ak,aI];lia,?_⟩;rw[ak,aI];have e:(λz:List dJ×cU=>(fS (pre++[p]++z.1,z.2):Except Fault<|List dJ×cU))= λz=>fS (pre++p::z.1,z.2):=by
      funext z;rw[cC];rfl
     rw[e];have k:fV a r tl H ((takeParties n (pre.length+1) rest>>= λy_1=> .ok (p::y_1.1,y_1.2))>>= λy=> .ok (pre++y.1,y.2)) (λA=>RL A<|e9 a) Q E:=k;rw[bind_assoc]at k;exact k
   .rw[aG h3]at k;rw[h3];have k:∀v U,Sm r H U->kE a U r tl (t::rest)->RL (λz=>H z=none) (e9 a) U v (pre++[])->Q v U:=k;rw[cV]at k;exact m7 ⟨_,Y,k _ U hL.sm hL.rd<|hL.out Dn⟩
  .have nn:nameNext l1=false/\wrong (A:=List dJ×cU) l1= .error f:=by
    let⟨t,rest,rfl⟩:=mG.ends.cons;rcases pF (t:=t) (rest:=rest)with⟨G,p',h2,_⟩|⟨G,h2,h3⟩
    .rw[h2]at e2;cases e2
    .rw[h2]at e2;cases e2;exact⟨h3,Y⟩
   rw[aG nn.1,nn.2]at k1;exact jv.sm (fV.err k1 Y) s1
theorem JI(T:Txt K mg a):yb P w K mg base 5 a "read_extras" ["reader"]<|spP a (λl=>takeExtras (l.length+1) 0 l) λA=>RL A<|o5 a:=by
 refine Ak T.Gr.fn zI ?_ ?_
 .right
 .ext⟨r,tl,l,rfl,hR,k⟩;have nd:=zI.nd;refine⟨_,aj (iy 1 nd<|cg iI)<|aj (iV dG (fX<|qG T.Reader T.nE (lR T) hr.mn (J 0)<|bM cQ)<|aj (bV<|eB T.mX (kT T) hr.mn<|aD (iw T.Reader T.jE (iH T) hr.mn<|J 0)<|aD (cy bQ 'r' T.gB bC<|bM<|J 1)<|bM<|jh (8) T)<|aj (iy 2 nd<|gJ T.Reader T.cG (lA T) hr.mn (J 0)<|bM<|CY "name" T)<|aj (bV<|gJ T.Reader T.fM (eY T) hr.mn (J 0)<|bM cQ)<|aF<|bV<|gR aM bh bw d9 (J 1)<|bM<|mC<|aD (J 2)<|bM<|gJ T.Reader T.cG (lA T) hr.mn (J 0)<|bM<|CY "name" T)<|aF<|bq<|J 1,?_⟩
  left
  have it:=T.ok "Token";have kp:∀(A:O->Prop) H U v x,Kp a A H U->(λ_=>o5 a) A H v x->(λ_=>o5 a) A U v x:= λ_ _ _ _ _ k h=>h.kp it k;calc⟨jH 0,λD nD=>?_⟩;have sD:aN H<|upd H D<|.lst []:=aN.new nD;have hL0:Lp a r tl H D (λ_=>o5 a) (upd H D<|.lst []) [] l:=⟨sD.sm r,nD,hR.same sD,[],aq,.nil⟩;have k0:fV a r tl H (takeExtras (l.length+1) 0 l>>= λy=> .ok ([]++y.1,y.2)) (λA=>RL A<|o5 a) Q E:=by
   have e:(takeExtras (l.length+1) 0 l>>= λy=>(.ok ([]++y.1,y.2):Except Fault<|List (dJ×dJ)×cU))=takeExtras (l.length+1) 0 l:=by cases takeExtras (l.length+1) 0 l<;>rfl
   rw[e];exact k
  calc⟨λm Z U=>X4 λ(v:Option V) (pre:List (dJ×dJ)) (l:cU) (n:Nat)=>A6 (Z=[some<|.ref r,some<|.ref D,v]) (m=l.length) (Lp a r tl H D (λ_=>o5 a) U pre l) (l.length<=n) (pre.length<=8)<|fV a r tl H (takeExtras n pre.length l>>= λy=> .ok (pre++y.1,y.2)) (λA=>RL A<|o5 a) Q E,⟨_,none,[],l,_,Y,Y,hL0,SQ _,'d',k0⟩,?_⟩;rintro m Z U ⟨v,pre,l,n,rfl,rfl,hL,hn,hp,k⟩;let⟨t,rest,rfl⟩:=hL.rd.ends.cons;let⟨dx,j,kZ⟩:=hL.rd.ins;obtain⟨n,rfl⟩:∃m,n=m+1:=⟨n-1,by rw[ay]at hn;lia⟩;rw[GM.Mj]at k;have f1:F0 t "seat"=next (.name<|cO "seat") (t::rest):=hL.rd.fx 'd'
  calc⟨_,Y,r,_,_,Y,kZ,Y,r,tl,t,rest,_,Y,hL.rd,_,Y,?_⟩;rw[f1];by_cases z:next (.name<|cO "seat") (t::rest)=true
  .rw[az<|by rw[z];decide]at k;rw[z];have nh:t.tok≠ .halt_:=by
    have:t.tok= .name (cO "seat"):=by simpa [next]using z
    rw[this];simp
   calc oh ⟨_,λ_ _ h=>h,?_⟩;calc⟨_,Y,r,_,_,Y,kZ,Y,r,tl,t,rest,Y,hL.rd,nh,λx H3 s3 xT tk=>?_⟩;have Th:Lp a r tl H D (λ_=>o5 a) H3 pre rest:=hL.go s3 xT kp;let⟨us,e4,al4⟩:=id Th.lst;let⟨q,tk⟩:=tk;calc⟨_,Y,D,_,Y,.inl<|cP.of e4,x,us.length,8,_,_,Y,tk,Y,?_⟩;rw[al4.len];by_cases y2:8<=pre.length
   .rw[aG<|show OO<=pre.length from y2]at k;rw[aG y2];exact(jv.sm (fV.err k Y) Th.sm).at
   .rw[az<|show¬OO<=pre.length from y2]at k;rw[az y2];unfold Aw at k;simp only[bind_assoc]at k;let⟨dx3,j3,Lx⟩:=xT.ins;calc⟨_,Y,r,_,_,Y,Lx,Y,r,tl,rest,Y,xT,fV.step k Th.sm λp1 l4 v4 H4 e4 s4 Q3 q4 k4=>?_⟩;have Zh:=Th.go s4 Q3 kp;let⟨dx4,j4,Wa⟩:=Q3.ins;calc⟨_,Y,r,_,_,Y,Wa,Y,r,tl,l4,.name<|cO "of",_,Y,'d','d',Q3,Nj.step k4 Zh.sm λl5 v5 H5 e5 s5 hR5 k5=>?_⟩;have hL5:=Zh.go s5 hR5 kp;let⟨dx5,j5,hr5⟩:=hR5.ins;let⟨MZ,eD5,t9⟩:=id hL5.lst;calc⟨_,Y,.inl ⟨Y,_,cP.of eD5⟩,_,Y,_,Y,r,_,_,Y,hr5,Y,r,tl,l5,Y,hR5,fV.step k5 hL5.sm λp2 l6 v6 H6 e6 s6 hR6 q6 k6=>?_⟩;have hL6:=hL5.go s6 hR6 kp;calc⟨jH 2,λp np=>?_⟩;have s7:aN H6<|upd H6 p<|.tup [v4,v6]:=aN.new np;have hL7:Lp a r tl H D (λ_=>o5 a) (upd H6 p<|.tup [v4,v6]) pre l6:=hL6.go (s7.sm r) (hR6.same s7) kp;have q7:o5 a (upd H6 p<|.tup [v4,v6]) (.ref p) (p1,p2):=⟨p,v4,v6,Y,aq,((q4.kp (A:= λ_=>True) it<|Q3.kp s5).kp (A:= λ_=>True) it (hR5.kp s6)).kp (A:= λ_=>True) it (Kp.same s7),q6.kp (A:= λ_=>True) it<|Kp.same s7⟩;let⟨us7,e7,l7,hL8⟩:=hL7.put hR.VQ q7 kp;have a4:l4.length<=rest.length:=(GM.cR e4).len;have a5:l5.length<=l4.length:=(GM.jo 's' e5).len;have a6:l6.length<=l5.length:=(GM.cR e6).len;rw[ay]at hn;calc⟨D,us7,_,Y,Y,e7,by rw[l7,aW];lia,l6.length,by rw[ay];lia,_,pre++[(p1,p2)],l6,n,Y,Y,hL8,'l',by rw[ak,aI];lia,?_⟩;rw[ak,aI];have e:(λz:List (dJ×dJ)×cU=>(fS (pre++[(p1,p2)]++z.1,z.2):Except Fault<|List (dJ×dJ)×cU))= λz=>fS (pre++(p1,p2)::z.1,z.2):=by
     funext z;rw[cC];rfl
    rw[e];exact k6
  .have z:next (.name<|cO "seat") (t::rest)=false:=by simpa using z
   rw[aG z]at k;rw[z];have k:∀v U,Sm r H U->kE a U r tl (t::rest)->RL (λz=>H z=none) (o5 a) U v (pre++[])->Q v U:=k;rw[cV]at k;exact m7 ⟨_,Y,k _ U hL.sm hL.rd<|hL.out Dn⟩
def Ss(l:cU):takeScript l=Et "script" l>>= λl=>takeName l>>= λt=>T5 t.2>>= λps=>takeExtras (ps.2.length+1) 0 ps.2>>= λss=>Et "start" ss.2>>= λl=>takeName l>>= λst=>
  (if next .halt_ st.2=true then wrong st.2 else takeStates (st.2.length+1) 0 st.2)>>= λxs=> .ok ⟨t.1,ps.1,ss.1,st.1,xs⟩:=by
 rw[GM.Fq];congr 1;funext l;congr 1;funext t;unfold T5;rw[bind_assoc];congr 1;funext l;by_cases z:nameNext l=false
 .rw[aG z,aG z];rfl
 .rw[az z,az z];congr 1;funext ps;congr 1;funext ss;congr 1;funext l;congr 1;funext st;by_cases z:next .halt_ st.2=true
  .rw[aG z,aG z];rfl
  .rw[az z,az z]
inductive ZJ (a:g9) (A:O->Prop) (H:Hp) (v:V) (w:Raw):Prop
 |mk (x u1 u2 u3 u4 u5:_) (k0:v= .ref x) (k1:At (a.c "Draft") H x [("title",u1),("parties",u2),("extras",u3),("start_name",u4),("states",u5)]) (k2:e9 a H u1 w.title) (k3:RL A (e9 a) H u2 w.parties) (k4:RL A (o5 a) H u3 w.extras) (k5:e9 a H u4 w.start) (k6:RL A (Ew a A) H u5 w.states)
def Ig{tl:O}{atE:(O->Prop)->Hp->V->β->Prop}{K0:Except Fault γ->Prop}(he:∀f,K0 (.error f)->jv (a.c "Fault") r E H0 f.code f.place){res:Except Fault (β×cU)}{g:β×cU->Except Fault γ}(k:K0<|res>>=g)(s:Sm r H0 H) (ho:∀x l1 v L,res= .ok (x,l1)->Sm r H L->kE a L r tl l1->atE (λz=>H z=none) L v x->K0 (g (x,l1))->Q1 v L):fV a r tl H res atE Q1 E:=by
 cases res with
 |error f=>exact jv.sm (he f k) s
 |ok x=>exactλv L s hR q=>ho x.1 x.2 v L Y s hR q k
def Px{tl:O}{K0:Except Fault γ->Prop}(he:∀f,K0 (.error f)->jv (a.c "Fault") r E H0 f.code f.place){g:cU->Except Fault γ}(k:K0<|res>>=g)(s:Sm r H0 H) (ho:∀l1 v L,res= .ok l1->Sm r H L->kE a L r tl l1->K0 (g l1)->Q1 v L):Nj a r tl H res Q1 E:=by
 cases res with
 |error f=>exact jv.sm (he f k) s
 |ok x=>exactλv L s hR=>ho x v L Y s hR k
inductive aaW (a:g9) (S:List V) (H:Hp) (Q:VK) (E:XK):Prop
 |mk (tl rs toks:_) (k0:S=[.ref tl]) (k1:H tl=some (.lst (rs.map V.ref))) (k2:fE (Tk a H) rs toks) (k3:toks.length<=4097) (k4:Ends toks) (k5:okC toks) (k6:(match takeScript toks with
 | .ok w=>∀v U,aN H U->ZJ a (λz=>H z=none) U v w->Q v U
 | .error f=>t7 (a.c "Fault") E H f.code f.place))
def P9(T:Txt K mg a):yb P w K mg base 12 a "draft_of" ["tokens"]<|aaW a:=by
 refine Ak T.Pj.fn GO ?_ ?_
 .right
 .ext⟨tl,rs,toks,rfl,A1,al,ln,en,oc,k⟩;have nd:=GO.nd;refine⟨_,aj (iy 1 nd<|XY T.Reader (Vs T) hr.mn<|bM<|J 0)<|aj (bV<|gJ T.Reader T.fM (eY T) hr.mn (J 1)<|bM cQ)<|aj (iy 2 nd<|gJ T.Reader T.cG (lA T) hr.mn (J 1)<|bM<|CY "name" T)<|aj (iy 3 nd<|eB T.DJ (Hs T) hr.mn<|bM<|J 1)<|aj (iy 4 nd<|eB T.Gr (JI T) hr.mn<|bM<|J 1)<|aj (bV<|gJ T.Reader T.fM (eY T) hr.mn (J 1)<|bM cQ)<|aj (iy 5 nd<|gJ T.Reader T.cG (lA T) hr.mn (J 1)<|bM<|CY "name" T)<|aF<|bq<|oq T.AV (XE T) hr.mn<|aD (J 2)<|aD (J 3)<|aD (J 4)<|aD (J 5)<|bM<|eB T.Gy (JN T) hr.mn<|bM<|J 1,?_⟩
  left
  have it:=T.ok "Token";calc⟨_,Y,Y,λr L s1 nr ZO=>?_⟩;have hR:kE a L r tl toks:=⟨rs,toks,0,ZO,s1 _ _ A1,al.mono λ_ _ t=>t.same s1,Y,ln,en,oc⟩;obtain⟨K0,eK⟩:∃K0:Except Fault Raw->Prop,K0= λres=>(match res with
   | .ok w=>∀v U,Sm r L U->ZJ a (λz=>L z=none) U v w->Q v U
   | .error f=>jv (a.c "Fault") r E L f.code f.place):=⟨_,Y⟩
  have smH:∀{U},Sm r L U->aN H U:= λ{U} s2=>(Sm.all (D:=r) (λb o n q=>s2 b o n<|s1 b o q) nr);have k0:K0<|takeScript toks:=by
   rw[eK];cases e:takeScript toks with
   |error f=>
    rw[e]at k;exactλdx U s2 q=>k dx U (smH s2) q
   |ok w=>
    rw[e]at k;refineλv U s2 q=>k v U (smH s2) ?_;have fr:∀z,L z=none->H z=none:= λz n=>s1.free n;let⟨x,u1,u2,u3,u4,u5,e,h,G,h2,h3,h4,h5⟩:=q;exact⟨x,u1,u2,u3,u4,u5,e,h,G,h2.mono fr λ_ _ h=>h,h3.mono fr λ_ _ h=>h,h4,h5.mono fr λ_ _ h=>h.mono fr⟩
  have he:∀f,K0 (.error f)->jv (a.c "Fault") r E L f.code f.place:= λf h=>by rw[eK]at h;exact h
  rw[Ss]at k0;let⟨Nv,j1,EU⟩:=hR.ins;calc⟨_,Y,r,_,_,Y,EU,Y,r,tl,toks,.name<|cO "script",_,Y,'d','d',hR,Px he k0 (Sm.refl r L) λl2 v2 H2 e2 s2 kF k2=>?_⟩;let⟨Ze,j2,kZ⟩:=kF.ins;calc⟨_,Y,r,_,_,Y,kZ,Y,r,tl,l2,Y,kF,Ig he k2 s2 λt l3 v3 H3 e3 s3 xT q3 k3=>?_⟩;have z3:=s2.trans s3;calc⟨_,Y,r,tl,l3,Y,xT,Ig he k3 z3 λps l4 v4 H4 e4 s4 Q3 q4 k4=>?_⟩;have z4:=z3.trans s4;calc⟨_,Y,r,tl,l4,Y,Q3,Ig he k4 z4 λss l5 v5 H5 e5 s5 hR5 q5 k5=>?_⟩;have z5:=z4.trans s5;let⟨dx5,j5,hr5⟩:=hR5.ins;calc⟨_,Y,r,_,_,Y,hr5,Y,r,tl,l5,.name<|cO "start",_,Y,'d','d',hR5,Px he k5 z5 λl6 v6 H6 e6 s6 hR6 k6=>?_⟩;have z6:=z5.trans s6;let⟨dx6,j6,hr6⟩:=hR6.ins;calc⟨_,Y,r,_,_,Y,hr6,Y,r,tl,l6,Y,hR6,Ig he k6 z6 λst l7 v7 H7 e7 s7 hR7 q7 k7=>?_⟩;have z7:=z6.trans s7;calc⟨_,Y,_,Y,_,Y,_,Y,_,Y,r,tl,l7,Y,hR7,?_⟩;dsimp only at k7;cases e8:(if next .halt_ l7=true then wrong l7 else takeStates (l7.length+1) 0 l7:Except Fault<|List<|dJ×eW)with
  |error f=>
   rw[e8]at k7;exact jv.sm (he f k7) z7
  |ok xs=>
   rw[e8,eK]at k7;intro v8 H8 s8 q8;calc⟨Y,λx H9 s9 nx at9=>?_⟩;have k89:∀{A:O->Prop},Kp a A H7 H9:= λ{A}=>(hR7.kp s8).trans (Kp.same s9);have k69:∀{A:O->Prop},Kp a A H6 H9:= λ{A}=>(hR6.kp s7).trans k89;have k59:∀{A:O->Prop},Kp a A H5 H9:= λ{A}=>(hR5.kp s6).trans k69;have k49:∀{A:O->Prop},Kp a A H4 H9:= λ{A}=>(Q3.kp s5).trans k59;have k39:∀{A:O->Prop},Kp a A H3 H9:= λ{A}=>(xT.kp s4).trans k49;refine k7 _ H9 ((z7.trans s8).same s9) ⟨x,_,_,_,_,_,Y,at9,q3.kp (A:= λ_=>True) it k39,?_,?_,q7.kp (A:= λ_=>True) it k89,?_⟩
   .exact(q4.kp k49 λ_ _ h=>h.kp (A:= λ_=>True) it k49).mono (λz n=>kE.free z3 xT n) λ_ _ h=>h
   .exact(q5.kp k59 λ_ _ h=>h.kp (A:= λ_=>True) it k59).mono (λz n=>kE.free z4 Q3 n) λ_ _ h=>h
   .exact(q8.kp (a:=a) (Kp.same s9) λ_ _ h=>aaj T _ _ _ _ _ (Kp.same s9) h).mono (λz n=>kE.free z7 hR7 n) λ_ _ h=>h.mono λz n=>kE.free z7 hR7 n
abbrev nk(b:bL):Key:=B5 (sw<|nb b)
def Xw{b c:bL}(h:nk b=nk c):b=c:=Jt (Ow<|ZD h)
def UQ(names:List bL)(kvs:List<|Key×V):Prop:=∀b,mS kvs (nk b)=(place names b).map λ(i:Nat)=>V.int (i:Int)
noncomputable def qU(k:Nat)(names:List bL):List<|Key×V:=(names.zipIdx k).map λx=>(nk x.1,V.int ((x.2:Nat):Int))
noncomputable abbrev mz(names:List bL):List<|Key×V:=qU 0 names
def Ia(k:Nat)(names:List bL):(qU k names).length=names.length:=by unfold qU;rw[ai,sJ]
def rT{n b:bL}{r:List bL}:place (n::r) b=if n=b then some 0 else(place r b).map (·+1):=by
 unfold place;rw[UD];by_cases h:n=b
 .rw[aG h,aG<|~~~h]
 .rw[az h,az<|~~~h]
theorem Pd:∀(names:List bL) (k:Nat) (b:bL),mS (qU k names) (nk b)=(place names b).map λ(i:Nat)=>V.int ((k+i:Nat):Int)
 |[],k,b=>rfl
 |n::r,k,b=>by
  have e:qU k (n::r)=(nk n,V.int (k:Int))::qU (k+1) r:=rfl;rw[e,rT];by_cases h:n=b
  .rw[aG h,jI<|by rw[h]];rfl
  .rw[az h,jq λz=>h<|Xw z,Pd r (k+1) b,nV];congr 1;funext i;show V.int ((k+1+i:Nat):Int)=V.int ((k+(i+1):Nat):Int);congr 1
   lia
def ZV(names:List bL):UQ names<|mz names:= λb=>by
 rw[Pd];congr 1;funext i;rw[sy]
def Xy{n:bL}(h:n∉names):putK (mz names) (nk n) (.int (names.length:Nat))=mz (names++[n]):=by
 unfold putK;rw[qf,ZV names n,GM.rV.mpr h];unfold mz qU;rw[az 'd',UJ,bP,sy];rfl
def JW{n b:bL}:place (names++[n]) b=match place names b with
  |some i=>some i
  |none=>if n=b then some names.length else none:=by
 induction names with
 |nil=>
  show place (n::[]) b=_;rw[rT];by_cases h:n=b
  .rw[aG h];show _=if n=b then some 0 else none;rw[aG h]
  .rw[az h];show _=if n=b then some 0 else none;rw[az h];rfl
 |cons m r ih=>
  rw[Wj,rT,ih,rT];by_cases h:m=b
  .rw[aG h,aG h]
  .rw[az h,az h];cases place r b with
   |some i=>rfl
   |none=>
    show Im _ (if n=b then some r.length else none)=if n=b then some (m::r).length else none
    by_cases h2:n=b
    .rw[aG h2,aG h2];rfl
    .rw[az h2,az h2];rfl
inductive aaV (a:g9) (S:List V) (H:Hp) (Q:VK) (E:XK):Prop
 |mk (d names v p:_) (k0:S=[.ref d,v]) (k1:H d=some (.dK (mz names))) (k2:names.length<=1000) (k3:e9 a H v p) (k4:(if names.contains p.name=true then t7 (a.c "Fault") E H 5 p.place else Q .gQ (upd H d (.dK (mz (names++[p.name]))))))
def acT(a:g9)(H:Hp)(res:Except Fault Nat)(Q:VK)(E:XK):Prop:=match res with
 | .ok i=>Q (.int ((i:Nat):Int)) H
 | .error f=>t7 (a.c "Fault") E H f.code f.place
inductive Uo (a:g9) (S:List V) (H:Hp) (Q:VK) (E:XK):Prop
 |mk (d names kvs v p:_) (k0:S=[.ref d,v]) (k1:H d=some (.dK kvs)) (k2:UQ names kvs) (k3:e9 a H v p) (k4:acT a H (known names p) Q E)
def mK{α:Type}(a:g9)(H:Hp)(res:Except Fault α)(R:Hp->V->α->Prop)(Q:VK)(E:XK):Prop:=match res with
 | .ok x=>∀v U,aN H U->R U v x->Q v U
 | .error f=>t7 (a.c "Fault") E H f.code f.place
section
variable{R:Hp->V->α->Prop} {atE:Hp->V->β->Prop}
def mK.step{res:Except Fault β}{g:β->Except Fault α}(k:mK a H0 (res>>=g) R Q E)(s:aN H0 H)(ho:∀x v L,res= .ok x->aN H L->atE L v x->mK a H0 (g x) R Q E->Q1 v L):mK a H res atE Q1 E:=by
 cases res with
 |error f=>exact t7.same k s
 |ok x=>exactλv L s1 q=>ho x v L Y s1 q k
def pG{p:dJ}{g:Nat->Except Fault α}(k:mK a H0 (known names p>>=g) R Q E)(s:aN H0 H)(ho:∀i,known names p= .ok i->mK a H0 (g i) R Q E->Q1 (.int ((i:Nat):Int)) H):acT a H (known names p) Q1 E:=by
 cases e:known names p with
 |error f=>rw[e]at k;exact t7.same k s
 |ok i=>rw[e]at k;exact ho i e k
end
inductive kI (A:O->Prop) (H:Hp) (v:V) (xs:List Nat):Prop
 |mk (l:_) (k0:v= .ref l) (k1:A l) (k2:H l=some (.lst (xs.map λ(i:Nat)=>V.int (i:Int))))
inductive RNm (a:g9) (H:Hp) (v:V) (seats:List bL) (n:Nat) (names:List bL):Prop
 |mk (x ds dst We Wf:_) (k0:v= .ref x) (k1:At (a.c "Names") H x [("seats",.ref ds),("party_count",.int (n:Int)),("states",.ref dst)]) (k2:H ds=some (.dK We)) (k3:UQ seats We) (k4:H dst=some (.dK Wf)) (k5:UQ names Wf)
def RNm.same(h:RNm a H v seats n names)(s:aN H U):RNm a U v seats n names:=let⟨x,ds,dst,We,Wf,e,h,G,h2,h3,h4⟩:=h;⟨x,ds,dst,We,Wf,e,h.same s,s _ _ G,h2,s _ _ h3,h4⟩
def e9.same{p:dJ}(h:e9 a H v p)(s:aN H U):e9 a U v p:=let⟨x,q,e,h⟩:=h;⟨x,q,e,At.same h s⟩
theorem JG(T:Txt K mg a):yb P w K mg base 3 a "claim" ["numbers","name"]<|aaV a:=by
 refine Ak T.claim.fn Yo ?_ ?_
 .right
 .ext⟨d,names,v,p,rfl,hd,hn,qn,k⟩;have hu:=Ja hr;refine⟨_,aj (dZ (yW<|aek hu (bE T.Token<|J 1)<|J 0) (aF<|kr T hr.mn<|aD (jh (5) T)<|bM<|bE T.Token<|J 1) b9)<|aF<|Oc hu (J 0) (bE T.Token<|J 1) (cy Ad 'r' T.gB bC<|bM<|J 0) Y,?_⟩
  left
  let⟨x,fs,rfl,hx,hp,hv⟩:=qn.tok;calc⟨_,Y,x,_,_,Y,hx,hv,_,Y,d,_,Y,sO.k (k:=nk p.name) hd,_,Y,?_⟩;rw[ZV names p.name];by_cases z:names.contains p.name=true
  .rw[aG z]at k;have e:(place names p.name).isSome=true:=by
    cases e:place names p.name with
    |none=>exact absurd (~~~z) (GM.rV.mp e)
    |some i=>rfl
   rw[sQ,e];exact oh ⟨_,Y,x,_,_,Y,hx,hp,_,_,Y,k.at⟩
  .rw[az z]at k;have nm:p.name∉names:= λm=>z (~~~m);rw[GM.rV.mpr nm];calc m7 ⟨_,Y,d,_,Y,hd,_,Y,_,Y,x,_,_,Y,hx,hv,d,_,Y,Rn.k (k:=nk p.name) hd<|by rw[Ia,aW];lia,?_⟩;rw[Ia,Xy nm];exact k
def rR(T:Txt K mg a):yb P w K mg base 3 a "meant" ["numbers","name"]<|Uo a:=by
 refine Ak T.meant.fn Yp ?_ ?_
 .right
 .ext⟨d,names,kvs,v,p,rfl,hd,hn,qn,k⟩;have hu:=Ja hr;refine⟨_,aj (dZ (yW<|Fg hu (bE T.Token<|J 1)<|J 0) (aF<|kr T hr.mn<|aD (jh (6) T)<|bM<|bE T.Token<|J 1) b9)<|aF<|bq<|Am hu (J 0) (bE T.Token<|J 1) λ_ _=>rfl,?_⟩
  left
  let⟨x,fs,rfl,hx,hp,hv⟩:=qn.tok;calc⟨_,Y,x,_,_,Y,hx,hv,_,Y,d,_,Y,sO.k (k:=nk p.name) hd,_,Y,?_⟩;have hn:=hn p.name;unfold known acT at k;cases e:place names p.name with
  |none=>
   rw[e]at k hn;rw[hn];exact oh ⟨_,Y,x,_,_,Y,hx,hp,_,_,Y,t7.at k⟩
  |some i=>
   rw[e]at k hn;rw[hn];calc m7 ⟨_,Y,_,Y,x,_,_,Y,hx,hv,d,_,Y,?_,k⟩;have:=sO.k (k:=nk p.name) hd;rw[hn]at this;exact this
inductive aeL (a:g9) (S:List V) (H:Hp) (Q:VK) (E:XK):Prop
 |mk (l us ps:_) (k0:S=[.ref l]) (k1:H l=some (.lst us)) (k2:fE (e9 a H) us ps) (k3:ps.length<=8) (k4:(match onceEach [] ps with
 | .ok _=>∀d U,aN H U->H d=none->U d=some (.dK<|mz<|ps.map λp=>p.name)->Q (.ref d) U
 | .error f=>t7 (a.c "Fault") E H f.code f.place))
theorem Dz(T:Txt K mg a):yb P w K mg base 4 a "number_parties" ["parties"]<|aeL a:=by
 refine Ak T.yL.fn tQ ?_ ?_
 .right
 .ext⟨l,us,ps,rfl,hl,al,h8,k⟩;have nd:=tQ.nd;refine⟨_,aj (iy 1 nd DG)<|aj (lS dG Y (gc<|J 0) (xX 2 nd)<|aF<|bV<|eB T.claim (JG T) hr.mn<|aD (J 1)<|bM<|J 2)<|aF<|bq<|J 1,?_⟩
  left
  intro d nD;have s0:aN H<|upd H d<|.dK []:=aN.new nD;have ln:=al.len;refine⟨_,Y,l,Y,⟨_,cP.of<|s0 _ _ hl⟩,mL (K:=K) (a:=l) (xs:=us) (λi Z U=>∃v:Option V,A4 (Z=[some<|.ref l,some<|.ref d,v]) (aN H U) (U d=some (.dK<|mz<|(ps.take i).map λp=>p.name))<|onceEach [] ps=onceEach ((ps.take i).map λp=>p.name) (ps.drop i)) ⟨none,Y,s0,aq,Y⟩ (λi Z U _ h=>by let⟨_,_,sm,_⟩:=h;exact cP.of<|sm _ _ hl) ?_ ?_⟩
  .rintro i u Z U hu ⟨v,rfl,sm,hd,e⟩;let⟨p,hp,q⟩:=al.get' hu;have hi:=(au.mp hp).1;have dr:ps.drop i=p::ps.drop (i+1):=by
    let⟨G,h2⟩:=au.mp hp;rw[bx G,h2]
   rw[dr,onceEach]at e;calc⟨_,Y,_,Y,d,_,u,p,Y,hd,by rw[ai,dW];lia,q.same sm,?_⟩;by_cases z:((ps.take i).map λp=>p.name).contains p.name=true
   .rw[aG z]at e⊢;rw[e]at k;exact t7.same k sm
   .rw[az z]at e⊢;have tk:(ps.take<|i+1).map (λp=>p.name)=(ps.take i).map (λp=>p.name)++[p.name]:=by rw[take_snoc hp,bP];rfl
    refine⟨some u,Y,λb o q=>?_,?_,?_⟩
    .rw[aY<|bg q nD];exact sm b o q
    .rw[tk];exact aq
    .rw[tk];exact e
  .rintro Z U ⟨v,rfl,sm,hd,e⟩;rw[ln,iA,iC]at e;rw[e]at k;rw[ln,iC]at hd;exact⟨_,Y,k d U sm nD hd⟩
inductive aeM (a:g9) (S:List V) (H:Hp) (Q:VK) (rq:XK):Prop
 |mk (l:O) (us:List V) (ss:List (dJ×RawNode:_)) (A:O->Prop) (k0:S=[.ref l]) (k1:H l=some (.lst us)) (k2:fE (Ew a A H) us ss) (k3:ss.length<=64) (k4:∀d kvs U,aN H U->H d=none->U d=some (.dK kvs)->UQ (ss.map λs=>s.1.name) kvs->Q (.ref d) U)
def Ew.same{b:dJ×eW}(h:Ew a A H v b)(s:aN H U):Ew a A U v b:=by
 let⟨x,u1,u3,u4,e,h,G,⟨l3,w3,e3,a3,h3,V7⟩,⟨l4,w4,e4,a4,h4,al4⟩⟩:=h;calc⟨x,u1,u3,u4,e,h.same s,G.same s,⟨l3,w3,e3,a3,s _ _ h3,V7.mono λ_ _ q=>q.same s⟩,⟨l4,w4,e4,a4,s _ _ h4,al4.mono λ_ _ q=>?_⟩⟩;let⟨x,u1,u2,u3,u4,e,h,G,⟨la,va,ea,na,ha,aa⟩,⟨lb,vb,eb,nb',hb,ab⟩,h4⟩:=q;exact⟨x,u1,u2,u3,u4,e,h.same s,G.same s,⟨la,va,ea,na,s _ _ ha,aa.mono<|by rintro _ _ ⟨y,e,q⟩;exact⟨y,e,s _ _ q⟩⟩,⟨lb,vb,eb,nb',s _ _ hb,ab.mono λ_ _ q=>q.same s⟩,h4.same s⟩
theorem E8(T:Txt K mg a):jM P w K mg base 1 a "number_states" ["states"]<|aeM a:=by
 refine T.Bb.fn.ok vg ?_ ?_
 .right
 .ext⟨l,us,ss,A',rfl,hl,al,NF,k⟩;have nd:=vg.nd;refine⟨_,aj (iy 1 nd DG)<|aj (lS dN Y (DI 'r' T.gB<|bM<|J 0) (JV Y<|mP (xX 2 nd)<|mP (xX 3 nd) DH)<|aF<|bV<|gR Rj FH PySem.F.type_dict_setdefault Lz (J 1)<|aD (bE T.Token<|bE T.gC<|J 3)<|bM<|J 2)<|aF<|bq<|J 1,?_⟩
  left
  intro d nD;have s0:aN H<|upd H d<|.dK []:=aN.new nD;have ln:=al.len;refine⟨_,Y,l,us,Y,cP.of<|s0 _ _ hl,Dc (K:=K) (a:=l) (xs:=us) (λi Z U=>X3 λ(v v':Option V) (kvs:List (Key×V))=>A5 (Z=[some<|.ref l,some<|.ref d,v,v']) (aN H U) (U d=some (.dK kvs)) (kvs.length<=i)<|UQ ((ss.take i).map λs=>s.1.name) kvs) ⟨none,none,[],Y,s0,aq,aT _,λb=>rfl⟩ (λi Z U _ h=>by let⟨_,_,_,_,sm,_⟩:=h;exact cP.of<|sm _ _ hl) ?_ ?_⟩
  .rintro i u Z U T' hu ⟨v,v',kvs,rfl,sm,hd,hk,dn⟩ nT;let⟨p,hp,q⟩:=al.get' hu;have hi:=(au.mp hp).1;have sT:aN U<|upd U T'<|.tup [.int (i:Nat),u]:=aN.new nT;have pA:=sm.trans sT;have C2:=sT _ _ hd;let⟨x,u1,u3,u4,rfl,h,G,_⟩:=q.same pA;let⟨y,fs,rfl,hy,_,hv⟩:=G.tok;calc⟨T',_,Y,oS.of aq,Y,_,_,Y,_,_,Y,Y,?_⟩;calc⟨_,Y,.inr<|.inr<|.inl ⟨Y,.inl ⟨_,C2⟩⟩,_,Y,x,_,_,Y,h,Y,y,_,_,Y,hy,hv,_,Y,d,kvs,nk p.1.name,_,Y,Y,C2,by rw[aW];lia,?_⟩;have tk:(ss.take<|i+1).map (λs=>s.1.name)=(ss.take i).map (λs=>s.1.name)++[p.1.name]:=by rw[take_snoc hp,bP];rfl
   have il:((ss.take i).map λs=>s.1.name).length=i:=by rw[ai,dW];lia
   have dp:=dn p.1.name;cases e:place ((ss.take i).map λs=>s.1.name) p.1.name with
   |some j=>
    rw[e]at dp;rw[dp];calc⟨_,_,kvs,Y,pA,C2,'l',λb=>?_⟩;rw[tk,JW,dn b];cases e2:place ((ss.take i).map λs=>s.1.name) b with
    |some j2=>rfl
    |none=>
     by_cases h:p.1.name=b
     .rw[h,e2]at e;cases e
     .show none=Im _ (if p.1.name=b then _ else _);rw[az h];rfl
   |none=>
    rw[e]at dp;rw[dp];refine⟨_,_,_,Y,λb o q=>?_,aq,?_,λb=>?_⟩
    .rw[aY<|bg q nD];exact pA b o q
    .have:=pZ kvs (nk p.1.name)<|V.int (i:Nat);lia
    .rw[YV,tk,JW,dn b,il];by_cases h:p.1.name=b
     .rw[aG<|by rw[h],←h,e];show _=Im _ (if p.1.name=p.1.name then some i else none);rw[aG Y];rfl
     .rw[az λz=>h (Xw z).symm];cases e2:place ((ss.take i).map λs=>s.1.name) b with
      |some j2=>rfl
      |none=>
       show none=Im _ (if p.1.name=b then _ else _);rw[az h];rfl
  .rintro Z U ⟨v,v',kvs,rfl,sm,hd,hk,dn⟩;rw[ln,iC]at dn;exact⟨_,Y,k d kvs U sm nD hd dn⟩
inductive oR (a:g9) (A:O->Prop) (H:Hp) (v:V) (b:jg):Prop
 |mk (x u2 u3:_) (k0:v= .ref x) (k1:At (a.c "Branch") H x [("label",.str (sw (nb b.label))),("ranges",u2),("handed",u3),("behind",.int (b.to:Int))]) (k2:RL A mw H u2 b.ranges) (k3:kI A H u3 b.hands)
def i8:kP->Int
 | .fin=>0
 | .both _ _=>2
 | .talk _ _ _=>1
def lT:kP->List Nat
 | .talk x y _=>[x,y]
 |_=>[]
def eE:kP->List Nat
 | .both s t=>[s,t]
 |_=>[]
def Ex:kP->List jg
 | .talk _ _ bs=>bs
 |_=>[]
inductive nY (a:g9) (A:O->Prop) (H:Hp) (v:V) (s:bL×kP):Prop
 |mk (x u3 u4 u5:_) (k0:v= .ref x) (k1:At (a.c "State") H x [("name",.str (sw (nb s.1))),("kind",.int (i8 s.2)),("seats",u3),("sides",u4),("branches",u5)]) (k2:kI A H u3 (lT s.2)) (k3:kI A H u4 (eE s.2)) (k4:RL A (oR a A) H u5 (Ex s.2))
noncomputable def holdersOf(g:bF):List Nat:=fh g.parties.length++g.extras.map (·.2)
inductive uL (A:O->Prop) (H:Hp) (v:V) (xs:List bL):Prop
 |mk (l:_) (k0:v= .ref l) (k1:A l) (k2:H l=some (.lst (xs.map λb=>V.str<|sw<|nb b)))
inductive jX (a:g9) (A:O->Prop) (H:Hp) (v:V) (g:bF):Prop
 |mk (x u3 u4 u6:_) (k0:v= .ref x) (k1:At (a.c "Script") H x [("title",.str (sw (nb g.title))),("party_count",.int (g.parties.length:Int)),("seats",u3),("holders",u4),("start_state",.int (g.start:Int)),("states",u6)]) (k2:uL A H u3 g.seats) (k3:kI A H u4 (holdersOf g)) (k4:RL A (nY a A) H u6 g.states)
def kI.kp(h:kI A H v xs)(k:Kp a A H U):kI A U v xs:=let⟨l,e,q,h⟩:=h;⟨l,e,q,k.lst _ _ q h⟩
def kI.mono(h:kI A H v xs)(k:∀z,A z->B z):kI B H v xs:=let⟨l,e,q,h⟩:=h;⟨l,e,k _ q,h⟩
def kI.ne(h:kI A H v xs)(n:H D=none):kI (λz=>A z/\z≠D) H v xs:=let⟨l,e,q,h⟩:=h;⟨l,e,⟨q,λz=>by rw[z,n]at h;cases h⟩,h⟩
def uL.kp{xs:List bL}(h:uL A H v xs)(k:Kp a A H U):uL A U v xs:=let⟨l,e,q,h⟩:=h;⟨l,e,q,k.lst _ _ q h⟩
def uL.mono{xs:List bL}(h:uL A H v xs)(k:∀z,A z->B z):uL B H v xs:=let⟨l,e,q,h⟩:=h;⟨l,e,k _ q,h⟩
def uL.ne{xs:List bL}(h:uL A H v xs)(n:H D=none):uL (λz=>A z/\z≠D) H v xs:=let⟨l,e,q,h⟩:=h;⟨l,e,⟨q,λz=>by rw[z,n]at h;cases h⟩,h⟩
def oR.kp{b:jg}(h:oR a A H v b)(i:Ln a<|a.c "Branch")(k:Kp a A H U):oR a A U v b:=let⟨x,u2,u3,e,h,G,h2⟩:=h;⟨x,u2,u3,e,h.kp i k,G.kp k λ_ _ h=>h.kp k,h2.kp k⟩
def oR.mono{b:jg}(h:oR a A H v b)(k:∀z,A z->B z):oR a B H v b:=let⟨x,u2,u3,e,h,G,h2⟩:=h;⟨x,u2,u3,e,h,G.mono k λ_ _ h=>h,h2.mono k⟩
def oR.ne{b:jg}(h:oR a A H v b)(n:H D=none):oR a (λz=>A z/\z≠D) H v b:=let⟨x,u2,u3,e,h,G,h2⟩:=h;⟨x,u2,u3,e,h,G.ne n λ_ _ h=>h,h2.ne n⟩
def nY.kp(h:nY a A H v s)(i:Ln a<|a.c "Branch")(j:Ln a<|a.c "State")(k:Kp a A H U):nY a A U v s:=let⟨x,u3,u4,u5,e,h,G,h2,h3⟩:=h;⟨x,u3,u4,u5,e,h.kp j k,G.kp k,h2.kp k,h3.kp k λ_ _ h=>h.kp i k⟩
def nY.mono(h:nY a A H v s)(k:∀z,A z->B z):nY a B H v s:=let⟨x,u3,u4,u5,e,h,G,h2,h3⟩:=h;⟨x,u3,u4,u5,e,h,G.mono k,h2.mono k,h3.mono k λ_ _ h=>h.mono k⟩
def nY.ne(h:nY a A H v s)(n:H D=none):nY a (λz=>A z/\z≠D) H v s:=let⟨x,u3,u4,u5,e,h,G,h2,h3⟩:=h;⟨x,u3,u4,u5,e,h,G.ne n,h2.ne n,h3.ne n λ_ _ h=>h.ne n⟩
def jX.kp(h:jX a A H v g)(i:Ln a<|a.c "Branch")(j:Ln a<|a.c "State")(j2:Ln a<|a.c "Script")(k:Kp a A H U):jX a A U v g:=let⟨x,u3,u4,u6,e,h,G,h2,h3⟩:=h;⟨x,u3,u4,u6,e,h.kp j2 k,G.kp k,h2.kp k,h3.kp k λ_ _ h=>h.kp i j k⟩
def jX.mono(h:jX a A H v g)(k:∀z,A z->B z):jX a B H v g:=let⟨x,u3,u4,u6,e,h,G,h2,h3⟩:=h;⟨x,u3,u4,u6,e,h,G.mono k,h2.mono k,h3.mono k λ_ _ h=>h.mono k⟩
def jX.ne(h:jX a A H v g)(n:H D=none):jX a (λz=>A z/\z≠D) H v g:=let⟨x,u3,u4,u6,e,h,G,h2,h3⟩:=h;⟨x,u3,u4,u6,e,h,G.ne n,h2.ne n,h3.ne n λ_ _ h=>h.ne n⟩
theorem NK(n:Nat):∀t:List Nat,Jb (.int (n:Int)) (t.map λ(j:Nat)=>V.int (j:Int))=t.contains n
 |[]=>rfl
 |z::t=>by
  show(QZ (.int (z:Int)) (.int (n:Int))||Jb (.int (n:Int)) (t.map λ(j:Nat)=>V.int (j:Int)))=_;rw[NK n t,nN];congr 1;show((z:Int)==(n:Int))=_;rw[cK,iM,iM]
  lia
def Mv(t:List Nat):(t.map λ(j:Nat)=>V.int (j:Int)).all sY=true:=by
 rw[acB,dO];exactλ_ _=>rfl
def XH(T:Txt K mg a):jM P w K mg base 1 a "Names.__init__" ["self","seats","party_count","states"]<|wo (a.c "Names") ["seats","party_count","states"]:=by
 refine T.yg.fn.ok LI ?_ ?_
 .rintro _ _ _ _ ⟨p,dx,us,rfl,l,_⟩;simp[l]
 .ext⟨p,dx,us,rfl,l,hp,k⟩;revert hp k;calc tV l ?_;intro v1 v2 v3 hp k;have C:=T.yg;refine⟨_,aj (dP (J 0) (J 1) Y)<|aj (dP (J 0) (J 2) Y)<|aF<|dP (J 0) (J 3) Y,?_⟩
  left
  calc⟨_,Y,_,Y,p,_,dx,_,Y,hp,C.cl,C.nO,'d',_,Y,_,Y,p,_,dx,_,Y,aq,C.cl,C.nO,vv 1,_,Y,_,Y,p,_,dx,_,Y,aq,C.cl,C.nO,vv 2,?_⟩;rw[dS,dS];exact k
def MA(T:Txt K mg a):jM P w K mg base 1 a "Script.__init__" ["self","title","party_count","seats","holders","start_state","states"]<|wo (a.c "Script") ["title","party_count","seats","holders","start_state","states"]:=by
 refine T.Script.fn.ok Ko ?_ ?_
 .rintro _ _ _ _ ⟨p,dx,us,rfl,l,_⟩;simp[l]
 .ext⟨p,dx,us,rfl,l,hp,k⟩;revert hp k;calc tV l ?_;intro v1 v2 v3 v4 v5 v6 hp k;have C:=T.Script;refine⟨_,aj (dP (J 0) (J 1) Y)<|aj (dP (J 0) (J 2) Y)<|aj (dP (J 0) (J 3) Y)<|aj (dP (J 0) (J 4) Y)<|aj (dP (J 0) (J 5) Y)<|aF<|dP (J 0) (J 6) Y,?_⟩
  left
  calc⟨_,Y,_,Y,p,_,dx,_,Y,hp,C.cl,C.nO,'d',_,Y,_,Y,p,_,dx,_,Y,aq,C.cl,C.nO,vv 1,_,Y,_,Y,p,_,dx,_,Y,aq,C.cl,C.nO,vv 2,_,Y,_,Y,p,_,dx,_,Y,aq,C.cl,C.nO,vv 3,_,Y,_,Y,p,_,dx,_,Y,aq,C.cl,C.nO,vv 4,_,Y,_,Y,p,_,dx,_,Y,aq,C.cl,C.nO,vv 5,?_⟩;rw[dS,dS,dS,dS,dS];exact k
def Dt(T:Txt K mg a):jM P w K mg base 1 a "State.__init__" ["self","name","kind","seats","sides","branches"]<|wo (a.c "State") ["name","kind","seats","sides","branches"]:=by
 refine T.State.fn.ok LJ ?_ ?_
 .rintro _ _ _ _ ⟨p,dx,us,rfl,l,_⟩;simp[l]
 .ext⟨p,dx,us,rfl,l,hp,k⟩;revert hp k;calc tV l ?_;intro v1 v2 v3 v4 v5 hp k;have C:=T.State;refine⟨_,aj (dP (J 0) (J 1) Y)<|aj (dP (J 0) (J 2) Y)<|aj (dP (J 0) (J 3) Y)<|aj (dP (J 0) (J 4) Y)<|aF<|dP (J 0) (J 5) Y,?_⟩
  left
  calc⟨_,Y,_,Y,p,_,dx,_,Y,hp,C.cl,C.nO,'d',_,Y,_,Y,p,_,dx,_,Y,aq,C.cl,C.nO,vv 1,_,Y,_,Y,p,_,dx,_,Y,aq,C.cl,C.nO,vv 2,_,Y,_,Y,p,_,dx,_,Y,aq,C.cl,C.nO,vv 3,_,Y,_,Y,p,_,dx,_,Y,aq,C.cl,C.nO,vv 4,?_⟩;rw[dS,dS,dS,dS];exact k
def Mz(T:Txt K mg a):jM P w K mg base 1 a "Branch.__init__" ["self","label","ranges","handed","behind"]<|wo (a.c "Branch") ["label","ranges","handed","behind"]:=by
 refine T.Branch.fn.ok Kl ?_ ?_
 .rintro _ _ _ _ ⟨p,dx,us,rfl,l,_⟩;simp[l]
 .ext⟨p,dx,us,rfl,l,hp,k⟩;revert hp k;calc tV l ?_;intro v1 v2 v3 v4 hp k;have C:=T.Branch;refine⟨_,aj (dP (J 0) (J 1) Y)<|aj (dP (J 0) (J 2) Y)<|aj (dP (J 0) (J 3) Y)<|aF<|dP (J 0) (J 4) Y,?_⟩
  left
  calc⟨_,Y,_,Y,p,_,dx,_,Y,hp,C.cl,C.nO,'d',_,Y,_,Y,p,_,dx,_,Y,aq,C.cl,C.nO,vv 1,_,Y,_,Y,p,_,dx,_,Y,aq,C.cl,C.nO,vv 2,_,Y,_,Y,p,_,dx,_,Y,aq,C.cl,C.nO,vv 3,?_⟩;rw[dS,dS,dS];exact k
inductive aa5 (a:g9) (S:List V) (H:Hp) (Q:VK) (E:XK):Prop
 |mk (nv l u1 u2 x y seats n names:_) (k0:S=[nv,.ref l]) (k1:RNm a H nv seats n names) (k2:H l=some (.lst [u1,u2])) (k3:e9 a H u1 x) (k4:e9 a H u2 y) (k5:mK a H (known seats x>>= λi=>known seats y>>= λj=>if i=j then .error ⟨8,y.place⟩else .ok [i,j]) (kI λz=>H z=none) Q E)
def Ht(T:Txt K mg a):yb P w K mg base 4 a "settle_seats" ["names","pair"]<|aa5 a:=by
 refine Ak T.Ed.fn xA ?_ ?_
 .right
 .ext⟨nv,l,u1,u2,x,y,seats,n,names,rfl,hN,hl,q1,q2,k⟩;have nd:=xA.nd;refine⟨_,aj (iy 2 nd<|eB T.meant (rR T) hr.mn<|aD (bE T.yg<|J 0)<|bM<|dj ck (J 1) bR λ_ _=>rfl)<|aj (iy 3 nd<|eB T.meant (rR T) hr.mn<|aD (bE T.yg<|J 0)<|bM<|dj ck (J 1) bR λ_ _=>rfl)<|aj (dZ (cu iU (J 3) (J 2)<|dh _) (aF<|kr T hr.mn<|aD (jh (8) T)<|bM<|bE T.Token<|dj ck (J 1) bR λ_ _=>rfl) b9)<|aF<|bq<|cg<|aD (J 2)<|bM<|J 3,?_⟩
  left
  let⟨z,ds,dst,We,Wf,rfl,hz,G,h2,h3,h4⟩:=hN;calc⟨_,Y,z,_,_,Y,hz,Y,_,Y,l,_,_,_,Y,Y,cP.of hl,cJ (j:=0) Y,ds,seats,We,_,x,Y,G,h2,q1,pG k (aN.refl H) λi e1 k1=>?_⟩;calc⟨_,Y,z,_,_,Y,hz,Y,_,Y,l,_,_,_,Y,Y,cP.of hl,cJ (j:=1) Y,ds,seats,We,_,y,Y,G,h2,q2,pG k1 (aN.refl H) λj e2 k2=>?_⟩;calc⟨_,Y,_,Y,Y,_,Y,?_⟩;let⟨x2,fs2,rfl,OS,hp2,_⟩:=q2.tok;by_cases c:i=j
  .rw[aG c]at k2;exact qS (aR<|by rw[c]) ⟨_,Y,l,_,_,_,Y,Y,cP.of hl,cJ (j:=1) Y,x2,_,_,Y,OS,hp2,_,_,Y,t7.at k2⟩
  .rw[az c]at k2;calc o7 (dF<|by intro e;cases e;exact c Y) ⟨_,Y,_,Y,jH 2,λD nD=>?_⟩;exact k2 _ _ (aN.new nD) ⟨D,Y,nD,aq⟩
inductive Yv (a:g9) (S:List V) (H:Hp) (Q:VK) (E:XK):Prop
 |mk (nv l us hs seats n names:_) (k0:S=[nv,.ref l]) (k1:RNm a H nv seats n names) (k2:H l=some (.lst us)) (k3:fE (e9 a H) us hs) (k4:hs.length<=2) (k5:mK a H (namedHands seats n [] hs) (kI λz=>H z=none) Q E)
theorem Fc(T:Txt K mg a):yb P w K mg base 4 a "settle_handed" ["names","handed"]<|Yv a:=by
 refine Ak T.BR.fn vn ?_ ?_
 .right
 .ext⟨nv,l,us,hs,seats,n,names,rfl,hN,hl,al,h2,k⟩;have nd:=vn.nd;refine⟨_,aj (iy 2 nd<|cg iI)<|aj (lS dG Y (gc<|J 1) (xX 3 nd)<|aj (iy 4 nd<|eB T.meant (rR T) hr.mn<|aD (bE T.yg<|J 0)<|bM<|J 3)<|aj (dZ (cu yR (J 4) (bE T.yg<|J 0)<|dh _) (aF<|kr T hr.mn<|aD (jh (9) T)<|bM<|bE T.Token<|J 3) b9)<|aj (dZ (cu pI (J 4) (J 2)<|by with_unfolding_all rfl) (aF<|kr T hr.mn<|aD (jh (5) T)<|bM<|bE T.Token<|J 3) b9)<|aF<|bV<|gR aM bh bw d9 (J 2)<|bM<|J 4)<|aF<|bq<|J 2,?_⟩
  left
  calc⟨jH 0,λD nD=>?_⟩;have s0:aN H<|upd H D<|.lst []:=aN.new nD;have ln:=al.len;refine⟨_,Y,l,Y,⟨_,cP.of<|s0 _ _ hl⟩,mL (K:=K) (a:=l) (xs:=us) (λi Z U=>X3 λ(v v':Option V) (done:List Nat)=>A5 (Z=[some nv,some<|.ref l,some<|.ref D,v,v']) (aN H U) (U D=some (.lst<|done.map λ(j:Nat)=>V.int (j:Int))) (done.length=i)<|mK a H (namedHands seats n done (hs.drop i)>>= λys=> .ok<|done++ys) (kI λz=>H z=none) Q E) ⟨none,none,[],Y,s0,aq,Y,by
    have e:(namedHands seats n [] (hs.drop 0)>>= λys=>(.ok ([]++ys):Except Fault<|List Nat))=namedHands seats n [] hs:=by rw[jW];cases namedHands seats n [] hs<;>rfl
    rw[e];exact k⟩ (λi Z U _ h=>by let⟨_,_,_,_,sm,_⟩:=h;exact cP.of<|sm _ _ hl) ?_ ?_⟩
  .rintro i u Z U hu ⟨v,v',done,rfl,sm,hD,hi,k⟩;let⟨p,hp,q⟩:=al.get' hu;have xU:=(au.mp hp).1;have dr:hs.drop i=p::hs.drop (i+1):=by
    let⟨G,h2⟩:=au.mp hp;rw[bx G,h2]
   rw[dr,GM.IY,bind_assoc]at k;let⟨z,ds,dst,We,Wf,rfl,hz,G,Z4,h3,h4⟩:=hN.same sm;let⟨x,fs,rfl,hx,yc,_⟩:=(q.same sm).tok;calc⟨_,Y,z,_,_,Y,hz,Y,_,Y,ds,seats,We,_,p,Y,G,Z4,q.same sm,pG k sm λj e1 k1=>?_⟩;calc⟨_,Y,_,Y,z,_,_,Y,hz,Y,_,_,Y,Y,_,Y,?_⟩;by_cases c:j<n
   .rw[aG c]at k1;exact qS (aR 'l') ⟨_,Y,x,_,_,Y,hx,yc,_,_,Y,(t7.same k1 sm).at⟩
   .rw[az c]at k1;calc o7 (dF 'l') ⟨_,Y,_,Y,D,_,Y,.inl<|cP.of hD,Y,Mv done,_,Y,?_⟩;rw[NK];by_cases c2:done.contains j=true
    .rw[aG c2]at k1;rw[c2];exact oh ⟨_,Y,x,_,_,Y,hx,yc,_,_,Y,(t7.same k1 sm).at⟩
    .rw[az c2,bind_assoc]at k1;have c2:done.contains j=false:=by simpa using c2
     rw[c2];calc m7 ⟨_,Y,.inl ⟨Y,_,cP.of hD⟩,_,Y,D,_,_,Y,Y,hD,by rw[ai,hi,aW];lia,?_⟩;refine⟨_,_,done++[j],Y,λb o q=>?_,?_,by rw[ak,hi];rfl,?_⟩
     .rw[aY<|bg q nD];exact sm b o q
     .rw[bP];exact aq
     .have e:(λys:List Nat=>(fS (done++[j]++ys):Except Fault<|List Nat))= λys=>fS<|done++j::ys:=by
       funext ys;rw[cC];rfl
      rw[e];exact k1
  .rintro Z U ⟨v,v',done,rfl,sm,hD,hi,k⟩;rw[ln,iA]at k;have k:∀v U,aN H U->kI (λz=>H z=none) U v (done++[])->Q v U:=k;rw[cV]at k;exact⟨_,Y,k _ U sm ⟨D,Y,nD,hD⟩⟩
def La.same{b:iK}(h:La a A H v b)(s:aN H U):La a A U v b:=by
 let⟨x,u1,u2,u3,u4,e,h,G,⟨la,va,ea,na,ha,aa⟩,⟨lb,vb,eb,nb',hb,ab⟩,h4⟩:=h;exact⟨x,u1,u2,u3,u4,e,h.same s,G.same s,⟨la,va,ea,na,s _ _ ha,aa.mono<|by rintro _ _ ⟨y,e,q⟩;exact⟨y,e,s _ _ q⟩⟩,⟨lb,vb,eb,nb',s _ _ hb,ab.mono λ_ _ q=>q.same s⟩,h4.same s⟩
inductive aiC (a:g9) (S:List V) (H:Hp) (Q:VK) (E:XK):Prop
 |mk (nv l us bs seats n names:_) (A:O->Prop) (k0:S=[nv,.ref l]) (k1:RNm a H nv seats n names) (k2:H l=some (.lst us)) (k3:fE (La a A H) us bs) (k4:(∀b∈bs,b.hands.length<=2)) (k5:bs.length<=8) (k6:(∀z,H z=none->A z)) (k7:mK a H (namedBranches seats n names [] bs) (RL A (oR a A)) Q E)
theorem Cu(T:Txt K mg a):yb P w K mg base 5 a "settle_branches" ["names","branches"]<|aiC a:=by
 refine Ak T.xC.fn r9 ?_ ?_
 .right
 .ext⟨nv,l,us,bs,seats,n,names,A',rfl,hN,hl,al,h2,h8,fr,k⟩;have nd:=r9.nd;refine⟨_,aj (iy 2 nd DG)<|aj (iy 3 nd<|cg iI)<|aj (lS dG Y (gc<|J 1) (xX 4 nd)<|aj (bV<|eB T.claim (JG T) hr.mn<|aD (J 2)<|bM<|bE T.j7<|J 4)<|aj (iy 5 nd<|eB T.BR (Fc T) hr.mn<|aD (J 0)<|bM<|bE T.j7<|J 4)<|aj (iy 6 nd<|eB T.meant (rR T) hr.mn<|aD (bE T.yg<|J 0)<|bM<|bE T.j7<|J 4)<|aF<|bV<|gR aM bh bw d9 (J 3)<|bM<|oq T.Branch (Mz T) hr.mn<|aD (bE T.Token<|bE T.j7<|J 4)<|aD (bE T.j7<|J 4)<|aD (J 5)<|bM<|J 6)<|aF<|bq<|J 3,?_⟩
  left
  have ib:=T.ok "Branch";intro d Zl;have s0:aN H<|upd H d<|.dK []:=aN.new Zl;calc⟨jH 0,λD nD=>?_⟩;have s1:aN (upd H d<|.dK [])<|upd (upd H d<|.dK []) D<|.lst []:=aN.new nD;have nD0:H D=none:=s0.free nD;have s01:=s0.trans s1;have dD:d≠D:= λe=>by rw[←e,aq]at nD;cases nD
  have ln:=al.len;have own:fE (La a (λz=>(A' z/\z≠d)/\z≠D) H) us bs:=al.mono λ_ _ q=>(q.ne Zl).ne nD0;refine⟨_,Y,l,Y,⟨_,cP.of<|s01 _ _ hl⟩,mL (K:=K) (a:=l) (xs:=us) (λi Z U=>X5 λ(v1 v2 v3:Option V) (S:List V) (cs:List jg)=>A7 (Z=[some nv,some<|.ref l,some<|.ref d,some<|.ref D,v1,v2,v3]) (aN H U) (U d=some (.dK<|mz<|(bs.take i).map λb=>b.label.name)) (U D=some (.lst S)) (fE (oR a (λz=>(A' z/\z≠d)/\z≠D) U) S cs) (cs.length=i)<|mK a H (namedBranches seats n names ((bs.take i).map λb=>b.label.name) (bs.drop i)>>= λys=> .ok<|cs++ys) (RL A'<|oR a A') Q E) ⟨none,none,none,[],[],Y,s01,s1 _ _ aq,aq,.nil,Y,by
    have e:(namedBranches seats n names [] (bs.drop 0)>>= λys=>(.ok ([]++ys):Except Fault<|List jg))=namedBranches seats n names [] bs:=by rw[jW];cases namedBranches seats n names [] bs<;>rfl
    show mK a H (namedBranches seats n names [] (bs.drop 0)>>= λys=>(.ok ([]++ys):Except Fault<|List jg)) _ Q E;rw[e];exact k⟩ (λi Z U _ h=>by let⟨_,_,_,_,_,_,sm,_⟩:=h;exact cP.of<|sm _ _ hl) ?_ ?_⟩
  .rintro i u Z U hu ⟨v1,v2,v3,S,cs,rfl,sm,hd,hD,ac,hi,k⟩;let⟨b,hp,q⟩:=own.get' hu;have xU:=(au.mp hp).1;have dr:bs.drop i=b::bs.drop (i+1):=by
    let⟨G,h2⟩:=au.mp hp;rw[bx G,h2]
   have tk:(bs.take<|i+1).map (λb=>b.label.name)=(bs.take i).map (λb=>b.label.name)++[b.label.name]:=by rw[take_snoc hp,bP];rfl
   rw[dr,GM.AX]at k;let⟨x,u1,u2,u3,u4,rfl,h,G,Z4,h3,h4⟩:=q;have hx:=h.same sm;calc⟨_,Y,_,Y,x,_,_,Y,hx,Y,d,_,u1,b.label,Y,hd,by rw[ai,dW];lia,G.same sm,?_⟩;by_cases c:((bs.take i).map λb=>b.label.name).contains b.label.name=true
   .rw[aG c]at k⊢;exact t7.same k sm
   .rw[az c]at k⊢;rw[bind_assoc]at k;have sd:Sm d U<|upd U d<|.dK<|mz<|(bs.take i).map (λb=>b.label.name)++[b.label.name]:=Sm.upd;have GV:aN H<|upd U d<|.dK<|mz<|(bs.take i).map (λb=>b.label.name)++[b.label.name]:= λz o q=>by rw[aY<|bg q Zl];exact sm z o q
    have IW:=sd _ _ (f6 dD) hD;have ac1:=ac.mono λ_ _ q=>q.kp ib<|(Kp.agR (a:=a) sd hd).mono λz h=>h.1.2;generalize eH1:upd U d (.dK<|mz<|(bs.take i).map (λb=>b.label.name)++[b.label.name])=L at GV IW ac1;have U8:L d=some (.dK<|mz<|(bs.take i).map (λb=>b.label.name)++[b.label.name]):=by rw[←eH1];exact aq
    let⟨lh,vh,rfl,ah,hlh,alh⟩:=h3;calc⟨_,Y,_,Y,x,_,_,Y,h.same GV,Y,nv,lh,vh,b.hands,seats,n,names,Y,hN.same GV,GV _ _ hlh,alh.mono λ_ _ q=>q.same GV,h2 b<|bf hp,mK.step k GV λhs v5 H2 e2 s2 q2 k2=>?_⟩;have pA:=GV.trans s2;rw[bind_assoc]at k2;let⟨z,ds,dst,We,Wf,rfl,hz,g1,g2,g3,g4⟩:=hN.same pA;calc⟨_,Y,z,_,_,Y,hz,Y,_,Y,x,_,_,Y,h.same pA,Y,dst,names,Wf,_,b.to,Y,g3,g4,h4.same pA,pG k2 pA λto e3 k3=>?_⟩;rw[bind_assoc]at k3;have pP:=s2 _ _ IW;let⟨y,fs,rfl,hy,_,hyv⟩:=(G.same pA).tok;calc⟨_,Y,.inl ⟨Y,_,cP.of pP⟩,_,Y,x,_,_,Y,h.same pA,Y,y,_,_,Y,hy,hyv,_,Y,x,_,_,Y,h.same pA,Y,_,Y,_,Y,Y,λw' H3 s3 nw L8=>?_⟩;have Kz:=pA.trans s3;have Df:=s3 _ _ pP;have s23:=s2.trans s3;have lq:S.length=i:=by rw[ac.len,hi]
    calc⟨D,S,_,Y,Y,Df,by rw[lq,aW];lia,?_⟩;have sD:Sm D H3<|upd H3 D<|.lst<|S++[.ref w']:=Sm.upd;have kD:Kp a (λz=>(A' z/\z≠d)/\z≠D) H3<|upd H3 D<|.lst<|S++[.ref w']:=(Kp.Ly (a:=a) sD Df).mono λz h=>h.2;have item:oR a (λz=>(A' z/\z≠d)/\z≠D) H3 (.ref w') ⟨b.label.name,b.ranges,hs,to⟩:=by
     let⟨lr,vr,rfl,ar,hlr,alr⟩:=Z4;let⟨lz,rfl,nz,hlz⟩:=q2;refine⟨w',_,_,Y,L8,⟨lr,vr,Y,ar,Kz _ _ hlr,alr.mono<|by rintro _ _ ⟨y,e,q⟩;exact⟨y,e,Kz _ _ q⟩⟩,⟨lz,Y,⟨⟨fr lz<|GV.free nz,λe=>?_⟩,λe=>?_⟩,s3 _ _ hlz⟩⟩
     .rw[e,U8]at nz;cases nz
     .rw[e,IW]at nz;cases nz
    refine⟨_,_,_,S++[.ref w'],cs++[⟨b.label.name,b.ranges,hs,to⟩],Y,λz o q=>?_,?_,aq,fE.snoc (item.kp ib kD)<|(ac1.mono λ_ _ q=>q.kp (a:=a) ib<|Kp.same s23).mono λ_ _ q=>q.kp ib kD,by rw[ak,hi];rfl,?_⟩
    .rw[aY<|bg q nD0];exact Kz z o q
    .rw[tk,aY dD];exact s23 _ _ U8
    .rw[tk];have e:(λys:List jg=>(fS (cs++[⟨b.label.name,b.ranges,hs,to⟩]++ys):Except Fault<|List jg))= λys=>fS<|cs++⟨b.label.name,b.ranges,hs,to⟩::ys:=by
      funext ys;rw[cC];rfl
     rw[e];exact k3
  .rintro Z U ⟨v1,v2,v3,S,cs,rfl,sm,hd,hD,ac,hi,k⟩;rw[ln,iA]at k;have k:∀v U,aN H U->RL A' (oR a A') U v (cs++[])->Q v U:=k;rw[cV]at k;exact⟨_,Y,k _ U sm ⟨D,S,Y,fr D nD0,hD,ac.mono λ_ _ q=>q.mono λz h=>h.1.1⟩⟩
inductive YB (a:g9) (S:List V) (H:Hp) (Q:VK) (E:XK):Prop
 |mk (nv i sv s seats n names:_) (A:O->Prop) (k0:S=[nv,.int ((i:Nat):Int),sv]) (k1:RNm a H nv seats n names) (k2:Ew a A H sv s) (k3:GM.okD s.2) (k4:place names s.1.name≠none) (k5:(∀z,H z=none->A z)) (k6:mK a H (if place names s.1.name≠some i then .error ⟨5,s.1.place⟩else uJ seats n names s.2>>= λm=> .ok (s.1.name,m)) (nY a A) Q E)
theorem Hu(T:Txt K mg a):yb P w K mg base 6 a "settle_state" ["names","number","state"]<|YB a:=by
 refine Ak T.Ef.fn xB ?_ ?_
 .right
 .ext⟨nv,i,sv,st,seats,n,names,A',rfl,hN,hS,okd,pl,fr,k⟩;have nd:=xB.nd;have hu:=Ja hr;refine⟨_,aj (dZ (cu T4 (Am hu (bE T.yg<|J 0) (bE T.Token<|bE T.gC<|J 2) λ_ _=>rfl) (J 1)<|dh _) (aF<|kr T hr.mn<|aD (jh (5) T)<|bM<|bE T.Token<|bE T.gC<|J 2) b9)<|aj (iy 3 nd<|bE T.Token<|bE T.gC<|J 2)<|aj (dZ (cu iU (bE T.gC<|J 2) (jh (0) T)<|dh _) (aF<|bq<|oq T.State (Dt T) hr.mn<|aD (J 3)<|aD (jh (0) T)<|aD (cg iI)<|aD (cg iI)<|bM<|cg iI) b9)<|aj (dZ (cu iU (bE T.gC<|J 2) (jh (2) T)<|dh _) (aF<|bq<|oq T.State (Dt T) hr.mn<|aD (J 3)<|aD (jh (2) T)<|aD (cg iI)<|aD (ael (own:=[("side",4)]) Y nd (gc<|bE T.gC<|J 2) (gq 'r') (a.c "Fault") E ab7 ⟨Y,Y⟩ (λ_ _ _ _ _ _=>(xX 4 nd)) (λ_ _ _ _ _ _=>iF) λ_ _ _ _ _ _ hp=>N6 hp T.meant (rR T) hr.mn<|aD (bE T.yg<|J 0)<|bM<|J 4)<|bM<|cg iI) b9)<|aj (iy 5 nd<|eB T.Ed (Ht T) hr.mn<|aD (J 0)<|bM<|bE T.gC<|J 2)<|aF<|bq<|oq T.State (Dt T) hr.mn<|aD (J 3)<|aD (jh (1) T)<|aD (J 5)<|aD (cg iI)<|bM<|eB T.xC (Cu T) hr.mn<|aD (J 0)<|bM<|bE T.gC<|J 2,?_⟩
  left
  let⟨z,ds,dst,We,Wf,rfl,hz,g1,g2,g3,g4⟩:=id hN;let⟨x,u1,u3,u4,rfl,hx,G,h3,h4⟩:=hS;let⟨y,fs,rfl,hy,hyp,hyv⟩:=G.tok;obtain⟨j,hj⟩:∃j,place names st.1.name=some j:=by
   cases e:place names st.1.name with
   |none=>exact absurd e pl
   |some j=>exact⟨j,Y⟩
  have gv:=g4 st.1.name;rw[hj]at gv;have dg:sO H dst (V.str<|sw<|nb st.1.name)<|some<|V.int (j:Int):=by
   have:=sO.k (k:=nk st.1.name) g3;rw[gv]at this;exact this
  calc⟨_,Y,z,_,_,Y,hz,Y,_,Y,x,_,_,Y,hx,Y,y,_,_,Y,hy,hyv,dst,_,Y,dg,_,Y,Y,_,Y,?_⟩;by_cases c:j=i
  .rw[az<|by rw[hj,c];exactλh=>h Y]at k;calc o7 (by rw[c,aR Y];decide) ⟨_,Y,x,_,_,Y,hx,Y,y,_,_,Y,hy,hyv,?_⟩;calc⟨_,Y,x,_,_,Y,hx,Y,Y,_,Y,?_⟩;cases e:st.2 with
   |fin=>
    rw[e]at k;calc qS (aR Y) ⟨_,Y,jH 0,λD1 n1=>⟨jH 0,λD2 n2=>⟨jH 0,λD3 n3=>⟨Y,λx' U s' nx at'=>?_⟩⟩⟩⟩;have a1:aN H<|upd H D1<|.lst []:=aN.new n1;have a2:aN (upd H D1<|.lst [])<|upd (upd H D1<|.lst []) D2<|.lst []:=aN.new n2;have a3:aN (upd (upd H D1<|.lst []) D2<|.lst [])<|upd (upd (upd H D1<|.lst []) D2<|.lst []) D3<|.lst []:=aN.new n3;exact k _ U (((a1.trans a2).trans a3).trans s') ⟨x',_,_,_,Y,at',⟨D1,Y,fr _ n1,s' _ _<|a3 _ _<|a2 _ _ aq⟩,⟨D2,Y,fr _<|a1.free n2,s' _ _<|a3 _ _ aq⟩,⟨D3,[],Y,fr _<|a1.free<|a2.free n3,s' _ _ aq,.nil⟩⟩
   |both p q=>
    rw[e]at k h3;calc o7 (dF<|by show¬V.int 2=V.int 0;decide) ⟨_,Y,x,_,_,Y,by rw[e]at hx;exact hx,Y,Y,_,Y,?_⟩;rw[e]at hx;calc qS (aR Y) ⟨_,Y,jH 0,λD1 n1=>?_⟩;have a1:aN H<|upd H D1<|.lst []:=aN.new n1;let⟨l3,w3,rfl,b3,CW,V7⟩:=h3;have k:mK a H (known names p>>= λi=>known names q>>= λj=> .ok (st.1.name,kP.both i j)) (nY a A') Q E:=by
     have e:(known names p>>= λi=>known names q>>= λj=>(.ok (st.1.name,kP.both i j):Except Fault<|bL×kP))=(uJ seats n names (.both p q)>>= λm=> .ok (st.1.name,m)):=by
      show _=((known names p>>= λi=>known names q>>= λj=>(.ok (kP.both i j):Except Fault kP))>>= λm=> .ok (st.1.name,m));simp only[bind_assoc];rfl
     rw[e];exact k
    cases V7 with
    |cons r1 t1=>
    cases t1 with
    |cons r2 t2=>
    cases t2;rename_i w1 w2;have kn1:∀f,known names p= .error f->t7 (a.c "Fault") E H f.code f.place:= λf e=>by rw[e]at k;exact k
    have kn2:∀i f,known names p= .ok i->known names q= .error f->t7 (a.c "Fault") E H f.code f.place:= λi f e1 e2=>by rw[e1]at k;have k:mK a H (known names q>>= λj=> .ok (st.1.name,kP.both i j)) (nY a A') Q E:=k;rw[e2]at k;exact k
    refine Cp (atG:= λ_ j y _=>(j=0->∃i,known names p= .ok i/\y= .int ((i:Nat):Int))/\(j=1->∃i,known names q= .ok i/\y= .int ((i:Nat):Int))) (xs:=[w1,w2]) (a:=l3) (L:=upd H D1<|.lst []) (λR r=>⟨_,Y,x,_,_,Y,hx.same a1,Y,r⟩) (cP.of<|a1 _ _ CW) (jH 2) (λ_ _ _ _ _ h _=>h) (λD2 j y' H2 n2 Z7 lp R r=>?_) λD2 H2 n2 lp=>?_
    .have a2:=a1.trans lp.same;have look:∀(wv:V) (pn:dJ),e9 a H wv pn->y'=wv->(∀f,known names pn= .error f->t7 (a.c "Fault") E H f.code f.place)->(∀i,known names pn= .ok i->R (.int ((i:Nat):Int)) H2)->vz (Uo a) [] E (gf (tF (a.c "Names") (gF 0) "states")<|gf (gF 4) m9) ((wipe [some<|.ref z,some<|.int i,some<|.ref x,some<|.str<|sw<|nb st.1.name,none,none] [4]).set 4 (some y')) H2 R:= λwv pn qn ew hb hg=>by
      subst ew;calc⟨_,Y,z,_,_,Y,hz.same a2,Y,_,Y,dst,names,Wf,_,pn,Y,a2 _ _ g3,g4,qn.same a2,?_⟩;cases e:known names pn with
      |error f=>exact(hb f e).same a2
      |ok i=>exact hg i e
     let⟨pA,ys,pP,ly,Nk⟩:=lp;cases j with
     |zero=>
      exact look w1 p r1 (aL Z7).symm kn1 λi e=>r _ _ (aN.refl _) ⟨λ_=>⟨i,e,Y⟩,λh=>by cases h⟩
     |succ j=>
      cases j with
      |zero=>
       let⟨i0,e0,_⟩:=(Nk 0 ys[0]<|aK 'l').1 Y;exact look w2 q r2 (aL Z7).symm (kn2 i0 · e0) λi e=>r _ _ (aN.refl _) ⟨λh=>(by cases h),λ_=>⟨i,e,Y⟩⟩
      |succ j=>simp at Z7
    .let⟨pA,ys,pP,ly,Nk⟩:=lp;have l0:0<ys.length:=by rw[ly];show 0<2;decide
     have l1:1<ys.length:=by rw[ly];show 1<2;decide
     let⟨i0,e0,f0⟩:=(Nk 0 ys[0]<|aK l0).1 Y;let⟨i1,e1,f1⟩:=(Nk 1 ys[1]<|aK l1).2 Y;have ey:ys=[i0,i1].map λ(i:Nat)=>V.int (i:Int):=by
      clear Nk pP;revert l0 l1 f0 f1;calc tV ly ?_;intro c0 c1 l0 l1 f0 f1;have f0:c0=_:=f0;have f1:c1=_:=f1;rw[f0,f1];rfl
     rw[ey]at pP;rw[e0]at k;have k:mK a H (known names q>>= λj=> .ok (st.1.name,kP.both i0 j)) (nY a A') Q E:=k;rw[e1]at k;calc⟨jH 0,λD3 n3=>⟨Y,λx' U s' nx at'=>?_⟩⟩;have a3:aN H2<|upd H2 D3<|.lst []:=aN.new n3;exact k _ U (((a1.trans pA).trans a3).trans s') ⟨x',_,_,_,Y,at',⟨D1,Y,fr _ n1,s' _ _<|a3 _ _<|pA _ _ aq⟩,⟨D2,Y,fr _<|a1.free n2,s' _ _<|a3 _ _ pP⟩,⟨D3,[],Y,fr _<|a1.free<|pA.free n3,s' _ _ aq,.nil⟩⟩
   |talk p q bs=>
    rw[e]at k h3 h4 okd;calc o7 (dF<|by show¬V.int 1=V.int 0;decide) ⟨_,Y,x,_,_,Y,by rw[e]at hx;exact hx,Y,Y,_,Y,o7 (dF<|by show¬V.int 1=V.int 2;decide) ?_⟩;rw[e]at hx;let⟨_,_,k8,kb⟩:=okd;let⟨l3,w3,rfl,b3,CW,V7⟩:=h3;let⟨l4,w4,rfl,b4,V9,al4⟩:=h4;cases V7 with
    |cons r1 t1=>
    cases t1 with
    |cons r2 t2=>
    cases t2;have k:mK a H ((known seats p>>= λi=>known seats q>>= λj=>if i=j then .error ⟨8,q.place⟩else .ok [i,j])>>= λij=>namedBranches seats n names [] bs>>= λrest=> .ok (st.1.name,kP.talk (ij.getD 0 0) (ij.getD 1 0) rest)) (nY a A') Q E:=by
     have e:((known seats p>>= λi=>known seats q>>= λj=>if i=j then .error ⟨8,q.place⟩else .ok [i,j])>>= λij=>namedBranches seats n names [] bs>>= λrest=>(.ok (st.1.name,kP.talk (ij.getD 0 0) (ij.getD 1 0) rest):Except Fault<|bL×kP))=(uJ seats n names (.talk p q bs)>>= λm=> .ok (st.1.name,m)):=by
      rw[GM.Uu];simp only[bind_assoc];congr 1;funext i;congr 1;funext j;by_cases c:i=j
      .rw[aG c,aG c];rfl
      .rw[az c,az c,bind_assoc];rfl
     rw[e];exact k
    calc⟨_,Y,_,Y,x,_,_,Y,hx,Y,.ref z,l3,_,_,p,q,seats,n,names,Y,hN,CW,r1,r2,mK.step k (aN.refl H) λij v5 L e1 s1 q1 k1=>?_⟩;calc⟨_,Y,_,Y,jH 0,λD2 n2=>?_⟩;have a2:aN L<|upd L D2<|.lst []:=aN.new n2;have a12:=s1.trans a2;calc⟨_,Y,_,Y,x,_,_,Y,hx.same a12,Y,.ref z,l4,w4,bs,seats,n,names,A',Y,hN.same a12,a12 _ _ V9,al4.mono λ_ _ q=>q.same a12,λb hb=>(kb b hb).hl,k8,λz nz=>fr z<|a12.free nz,mK.step k1 a12 λrest v6 H3 e3 s3 q3 k3=>?_⟩;calc⟨Y,λx' U s' nx at'=>?_⟩;obtain⟨i0,j0,rfl⟩:∃i0 j0,ij=[i0,j0]:=by
     let⟨i0,_,e1⟩:=GM.bu e1;let⟨j0,_,e1⟩:=GM.bu e1;split at e1
     .cases e1
     .cases e1;exact⟨i0,j0,Y⟩
    let⟨lz,rfl,nz,hlz⟩:=q1;let⟨l6,w6,rfl,c6,qD,qQ⟩:=q3;refine k3 _ U ((a12.trans s3).trans s') ⟨x',_,_,_,Y,at',⟨lz,Y,fr _ nz,s' _ _<|s3 _ _<|a2 _ _ hlz⟩,⟨D2,Y,fr _<|s1.free n2,s' _ _<|s3 _ _ aq⟩,⟨l6,w6,Y,c6,s' _ _ qD,qQ.mono λ_ _ q=>q.kp (a:=a) (T.ok "Branch")<|Kp.same s'⟩⟩
  .rw[aG<|by rw[hj];exactλh=>c<|aL h]at k;calc qS (by rw[bB λe=>c<|by cases e;rfl];rfl) ⟨_,Y,x,_,_,Y,hx,Y,y,_,_,Y,hy,hyp,_,_,Y,t7.at k⟩
def gather{α β:Type}:∀(ys:List α) (R:Nat->α->β->Prop),(∀(k:Nat) (y:α),ys[k]? =some y->∃x,R k y x)->∃xs:List β,xs.length=ys.length/\∀(k:Nat) (y:α) (x:β),ys[k]? =some y->xs[k]? =some x->R k y x
 |[],R,_=>⟨[],Y,λk y x e=>by simp at e⟩
 |y::ys,R,h=>by
  let⟨x,hx⟩:=h 0 y Y;let⟨xs,hl,hr⟩:=gather ys (λk=>R<|k+1) λk y' e=>h (k+1) y' (~~~e);calc⟨x::xs,by simp[hl],λk y' x' e1 e2=>?_⟩;cases k with
  |zero=>
   obtain rfl:=aL e1;obtain rfl:=aL e2;exact hx
  |succ k=>exact hr k y' x' (~~~e1) (~~~e2)
def fE.of_get{α β:Type}{R:α->β->Prop}:∀{xs:List α} {ys:List β},xs.length=ys.length->(∀(k:Nat) (x:α) (y:β),xs[k]? =some x->ys[k]? =some y->R x y)->fE R xs ys
 |[],[],_,_=> .nil
 |x::xs,y::ys,hl,h=> .cons (h 0 x y Y Y) (fE.of_get (~~~hl) λk x y e1 e2=>h (k+1) x y (~~~e1)<|~~~e2)
 |[],_::_,hl,_=>by simp at hl
 |_::_,[],hl,_=>by simp at hl
noncomputable def sres(seats:List bL)(n:Nat)(names:List bL)(i:Nat)(s:dJ×eW):Except Fault<|bL×kP:=if place names s.1.name≠some i then .error ⟨5,s.1.place⟩else uJ seats n names s.2>>= λm=> .ok (s.1.name,m)
theorem Gp{b:bL}(h:names[i]? =some b):(place names b≠some i)↔(names.take i).contains b=true:=by
 rw[gr];let⟨hi,e⟩:=au.mp h;constructor
 .intro z;cases q:place names b with
  |none=>exact absurd (bf h) (GM.rV.mp q)
  |some j=>
   let⟨G,h2⟩:=GM.JX q;have:j≠i:= λe=>z (by rw[q,e]);unfold place at q;rw[jA]at q;let⟨q1,q2,q3⟩:=q;have lt:j<i:=by
    apply Nat.lt_of_le_of_ne _ this;apply Nat.le_of_not_lt;intro lt;exact q3 i lt (by rw[e];exact fY b)
   rw[LW];exact⟨j,'l',~~~q2⟩
 .intro m z;rw[LW]at m;let⟨j,hj,e2⟩:=m;unfold place at z;rw[jA]at z;let⟨_,_,q3⟩:=z;exact q3 j 'l' (by rw[e2];exact fY b)
def GX{s:dJ×eW}(h:ss[i]? =some s):namedStates seats n (ss.map λs=>s.1.name) ((ss.map λs=>s.1.name).take i) (ss.drop i)=sres seats n (ss.map λs=>s.1.name) i s>>= λx=>namedStates seats n (ss.map λs=>s.1.name) ((ss.map λs=>s.1.name).take (i+1)) (ss.drop<|i+1)>>= λrest=> .ok<|x::rest:=by
 let⟨hi,e⟩:=au.mp h;have hn:(ss.map λs=>s.1.name)[i]? =some s.1.name:=by rw[aH,h];rfl
 rw[bx hi,e,take_snoc hn];let⟨p,b⟩:=s;rw[GM.GW];unfold sres;by_cases c:((ss.map λs=>s.1.name).take i).contains p.name=true
 .rw[aG c,aG<|(Gp hn).mpr c];rfl
 .rw[az c,az λz=>c<|(Gp hn).mp z,bind_assoc];rfl
theorem CJ{seats:List bL}{n:Nat}{ss:List (dJ×eW)}:∀(j:Nat) (done:List<|bL×kP),done.length=j->(∀k s x,ss[k]? =some s->done[k]? =some x->sres seats n (ss.map λs=>s.1.name) k s= .ok x)->j<=ss.length->namedStates seats n (ss.map λs=>s.1.name) [] ss=namedStates seats n (ss.map λs=>s.1.name) ((ss.map λs=>s.1.name).take j) (ss.drop j)>>= λrest=> .ok (done++rest)
 |0,done,hl,_,_=>by
  have:done=[]:=vI.mp hl;subst this;show _=(namedStates seats n _ [] ss>>= λrest=> .ok<|[]++rest);cases namedStates seats n (ss.map λs=>s.1.name) [] ss<;>rfl
 |j+1,done,hl,h,hj=>by
  obtain⟨init,x,rfl⟩:∃init x,done=init++[x]:=by
   have ne:done≠[]:= λe=>by rw[e]at hl;cases hl
   exact⟨done.dropLast,done.getLast ne,(List.dropLast_concat_getLast ne).symm⟩
  have li:init.length=j:= ~~~hl
  have hs:ss[j]? =some ss[j]:=aK 'l';rw[CJ j init li (λk s y e1 e2=>h k s y e1<|by rw[bX (au.mp e2).1];exact e2) 'l',GX hs,h j ss[j] x hs<|by rw[dM 'l',li];simp];show((namedStates seats n _ _ _>>= λrest=> .ok<|x::rest)>>= λrest=> .ok<|init++rest)=_;rw[bind_assoc];congr 1;funext rest;show fS (init++x::rest)=_;rw[cC];rfl
def XC(names:List bL):(mz names).map (·.2)=(fh names.length).map λ(i:Nat)=>V.int (i:Int):=by
 unfold mz qU;rw[dB];apply lK;intro i;rw[aH,aH,AA];by_cases h:i<names.length
 .simp[h]
 .simp[h]
def Xz(names:List bL):(mz names).map (λkv=>kV kv.1)=names.map λb=>V.str<|sw<|nb b:=by
 unfold mz qU;rw[dB];apply lK;intro i;rw[aH,aH,AA];cases names[i]? <;>rfl
def aaC{x:Str}{pos p1 p2:Pos}(hK:X.K=K)(hc:X.calm=true)(hN:X.N.Nodup)(hi:X.N[i]? =some x)(hj:X.N[j]? =some y)(hx:Loc X.env.scope x)(hy:Loc X.env.scope y)(fx:X.fn x=true∨X.env.scope.names.lookup x=some .local)(fy:X.fn y=true∨X.env.scope.names.lookup y=some .local):PG X (.Tuple [.Name x p1,.Name y p2] k pos)<|Z3 K 2<|IT (ic i)<|IT (ic j) Z2:=by
 subst hK;exact JV hc (mP (wk hN hi hx fx)<|mP (wk hN hj hy fy) DH)
def Ca{g:TG}{D:Ends}(h:te Z H λx L=>g x Z L D.nx):CL te g D Z H:=h
def named_eq(w:Raw):named w=onceEach [] w.parties>>= λ_=>namedExtras (w.parties.map λp=>p.name) (w.parties.map λp=>p.name) w.extras>>= λes=>known (w.states.map λs=>s.1.name) w.start>>= λst=>
  namedStates ((w.parties.map λp=>p.name)++es.map λe=>e.1) (w.parties.map λp=>p.name).length (w.states.map λs=>s.1.name) [] w.states>>= λss=> .ok ⟨w.title.name,w.parties.map λp=>p.name,es,st,ss⟩:=rfl
inductive VE (a:g9) (S:List V) (H:Hp) (Q:VK) (E:XK):Prop
 |mk (dv w:_) (A:O->Prop) (k0:S=[dv]) (k1:ZJ a A H dv w) (k2:GM.okW w) (k3:(∀z,H z=none->A z)) (k4:mK a H (named w) (jX a A) Q E)
def o5.same{p:dJ×dJ}(h:o5 a H v p)(s:aN H U):o5 a U v p:=let⟨x,u,w,e,h,G,h2⟩:=h;⟨x,u,w,e,s _ _ h,G.same s,h2.same s⟩
theorem DB(T:Txt K mg a):yb P w K mg base 7 a "settled_script" ["draft"]<|VE a:=by
 refine Ak T.zQ.fn tR ?_ ?_
 .right
 .ext⟨dv,m8,A',rfl,hD,ok,fr,k⟩;have nd:=tR.nd;refine⟨_,aj (iy 1 nd<|eB T.yL (Dz T) hr.mn<|bM<|bE T.AV<|J 0)<|aj (iy 2 nd<|rB Rw 'r' T.gB 'd'<|bM<|J 1)<|aj (iy 3 nd<|Qj Y 'r' T.gB<|J 1)<|aj (lS dG Y (gc<|bE T.AV<|J 0) (xX 4 nd)<|aj (bV<|eB T.claim (JG T) hr.mn<|aD (J 2)<|bM<|dj pC (J 4) bR λ_ _=>rfl)<|aF<|bV<|gR aM bh bw d9 (J 3)<|bM<|eB T.meant (rR T) hr.mn<|aD (J 1)<|bM<|dj pC (J 4) bR λ_ _=>rfl)<|aj (pK (i:=5) nd Y (M7 Y)<|oq T.yg (XH T) hr.mn<|aD (J 2)<|aD (cy Ad 'r' T.gB bC<|bM<|J 1)<|bM<|c8 T.Bb (E8 T) hr.mn<|bM<|bE T.AV<|J 0)<|aj (iy 6 nd<|eB T.meant (rR T) hr.mn<|aD (bE T.yg<|J 5)<|bM<|bE T.AV<|J 0)<|aj (Vx (i:=7) (own:=[("number",8),("state",9)]) Y nd Y Y (Av Y Y Y Y) (DI 'r' T.gB<|bM<|bE T.AV<|J 0) (gq 'r') (a.c "Fault") E ab7 ⟨Y,Y⟩ (λ_ _ _ _ _ _=>aaC (i:=8) (j:=9) (K:=K) Y Y nd Y Y (ji Y) (ji Y) (.inr Y)<|.inr Y) (λ_ _ _ _ _ _=>iF) λ_ _ _ _ _ _ hp=>N6 hp T.Ef (Hu T) hr.mn<|aD (J 5)<|aD (J 8)<|bM<|J 9)<|aF<|bq<|oq T.Script (MA T) hr.mn<|aD (bE T.Token<|bE T.AV<|J 0)<|aD (cy Ad 'r' T.gB bC<|bM<|J 1)<|aD (rB (IF Y) 'r' T.gB 'd'<|bM<|J 2)<|aD (J 3)<|aD (J 6)<|bM<|J 7,?_⟩
  left
  let⟨x,u1,u2,u3,u4,u5,rfl,hx,G,⟨l2,w2,rfl,c2,Tn,al2⟩,⟨l3,w3,rfl,c3,CW,V7⟩,h4,⟨l5,w5,rfl,c5,ET,t9⟩⟩:=hD;rw[named_eq]at k;generalize eps:(m8.parties.map λp=>p.name)=ps at k;generalize enm:(m8.states.map λs=>s.1.name)=Ld at k;have lps:ps.length<=8:=by rw[←eps,ai];exact ok.pl
  calc⟨_,Y,x,_,_,Y,hx,Y,l2,w2,m8.parties,Y,Tn,al2,ok.pl,?_⟩;cases e1:onceEach [] m8.parties with
  |error f=>rw[e1]at k;exact k
  |ok _=>
  rw[e1]at k;show∀d U,aN H U->H d=none->U d=some (.dK<|mz<|m8.parties.map λp=>p.name)->_;rw[eps];intro d1 L s1 n1 U8;have k:mK a H (namedExtras ps ps m8.extras>>= λes=>known Ld m8.start>>= λst=>namedStates (ps++es.map λe=>e.1) ps.length Ld [] m8.states>>= λss=> .ok ⟨m8.title.name,ps,es,st,ss⟩) (jX a A') Q E:=k;calc⟨_,Y,d1,_,Y,U8,λd2 n2=>?_⟩;have s2:aN L<|upd L d2<|.dK<|mz ps:=aN.new n2;calc⟨_,Y,d1,_,Y,s2 _ _ U8,λD3 n3=>?_⟩;rw[XC];have s3:aN (upd L d2<|.dK<|mz ps)<|upd (upd L d2<|.dK<|mz ps) D3<|.lst<|(fh ps.length).map λ(i:Nat)=>V.int (i:Int):=aN.new n3;have C2:(upd (upd L d2<|.dK<|mz ps) D3<|.lst<|(fh ps.length).map λ(i:Nat)=>V.int (i:Int)) d2=some (.dK<|mz ps):=s3 _ _ aq;have Df:(upd (upd L d2<|.dK<|mz ps) D3<|.lst<|(fh ps.length).map λ(i:Nat)=>V.int (i:Int)) D3=some (.lst<|(fh ps.length).map λ(i:Nat)=>V.int (i:Int)):=aq;have aaO:=(s1.trans s2).trans s3;have ahg:=s3 _ _<|s2 _ _ U8;have nn2:H d2=none:=s1.free n2;have nn3:H D3=none:=s1.free<|s2.free n3;have d12:d1≠d2:= λe=>by rw[←e,U8]at n2;cases n2
  have d23:d2≠D3:= λe=>by rw[←e,aq]at n3;cases n3
  have d13:d1≠D3:= λe=>by rw[←e,s2 _ _ U8]at n3;cases n3
  generalize (upd (upd L d2<|.dK<|mz ps) D3<|.lst<|(fh ps.length).map λ(i:Nat)=>V.int (i:Int))=H3 at C2 Df aaO ahg;have ln3:=V7.len;refine⟨_,Y,x,_,_,Y,hx.same aaO,Y,l3,Y,⟨_,cP.of<|aaO _ _ CW⟩,mL (K:=K) (a:=l3) (xs:=w3) (λi Z U=>X2 λ(v:Option V) (es:List (bL×Nat))=>A7 (Z=[some<|.ref x,some<|.ref d1,some<|.ref d2,some<|.ref D3,v,none,none,none,none,none]) (aN H U) (U d1=some (.dK<|mz ps)) (U d2=some (.dK<|mz<|ps++es.map λe=>e.1)) (U D3=some (.lst<|(fh ps.length++es.map λe=>e.2).map λ(i:Nat)=>V.int (i:Int))) (es.length=i)<|mK a H ((namedExtras ps (ps++es.map λe=>e.1) (m8.extras.drop i)>>= λr=> .ok<|es++r)>>= λes=>known Ld m8.start>>= λst=>namedStates (ps++es.map λe=>e.1) ps.length Ld [] m8.states>>= λss=> .ok ⟨m8.title.name,ps,es,st,ss⟩) (jX a A') Q E) ⟨none,[],Y,aaO,ahg,~~~C2,~~~Df,Y,by
    have e:(namedExtras ps (ps++([]:List<|bL×Nat).map λe=>e.1) (m8.extras.drop 0)>>= λr=>(.ok ([]++r):Except Fault<|List<|bL×Nat))=namedExtras ps ps m8.extras:=by
     rw[mh,cV,jW];cases namedExtras ps ps m8.extras<;>rfl
    rw[e];exact k⟩ (λi Z U _ h=>by let⟨_,_,_,sm,_⟩:=h;exact cP.of<|sm _ _ CW) ?_ ?_⟩
  .rintro i u Z U hu ⟨v,es,rfl,sm,g1,g2,g3,hi,k⟩;let⟨pq,hp,q⟩:=V7.get' hu;have xU:=(au.mp hp).1;have dr:m8.extras.drop i=pq::m8.extras.drop (i+1):=by
    let⟨G,h2⟩:=au.mp hp;rw[bx G,h2]
   have el:=ok.el;let⟨y,v1,v2,rfl,hy,q1,q2⟩:=q.same sm;let⟨pa,pb⟩:=pq;rw[dr,GM.FY]at k;calc⟨_,Y,_,Y,y,_,_,_,Y,Y,oS.of hy,cJ (j:=0) Y,d2,_,v1,pa,Y,g2,by rw[ak,ai];lia,q1,?_⟩;by_cases c:(ps++es.map λe=>e.1).contains pa.name=true
   .rw[aG c]at k⊢;exact t7.same k sm
   .rw[az c]at k⊢;simp only[bind_assoc]at k;have GV:aN H<|upd U d2<|.dK<|mz<|ps++(es.map λe=>e.1)++[pa.name]:= λb o q=>by rw[aY<|bg q nn2];exact sm b o q
    have t1:(upd U d2<|.dK<|mz<|ps++(es.map λe=>e.1)++[pa.name]) d1=some (.dK<|mz ps):=by rw[aY d12];exact g1
    have t3:(upd U d2<|.dK<|mz<|ps++(es.map λe=>e.1)++[pa.name]) D3=some (.lst<|(fh ps.length++es.map λe=>e.2).map λ(i:Nat)=>V.int (i:Int)):=by rw[aY<|f6 d23];exact g3
    have ty:(upd U d2<|.dK<|mz<|ps++(es.map λe=>e.1)++[pa.name]) y=some (.tup [v1,v2]):=by rw[aY<|gz hy g2<|by intro z;cases z];exact hy
    have tq:e9 a (upd U d2<|.dK<|mz<|ps++(es.map λe=>e.1)++[pa.name]) v2 pb:=q2.kp (A:= λz=>z≠d2) (T.ok "Token")<|Kp.agR Sm.upd g2;calc⟨_,Y,.inl ⟨Y,_,cP.of t3⟩,_,Y,_,Y,y,_,_,_,Y,Y,oS.of ty,cJ (j:=1) Y,d1,ps,_,v2,pb,Y,t1,ZV ps,tq,pG k GV λh e2 k2=>?_⟩;calc⟨D3,_,_,Y,Y,t3,by rw[ai,ak,eG,ai,aW];lia,?_⟩;refine⟨_,es++[(pa.name,h)],Y,λb o q=>?_,?_,?_,?_,by rw[ak,hi];rfl,?_⟩
    .rw[aY<|bg q nn3];exact GV b o q
    .rw[aY d13];exact t1
    .rw[aY d23,aq,bP,cC];rfl
    .rw[aq];simp[bP]
    .have e:∀{β:Type} (atG:List (bL×Nat)->Except Fault β),(λr:List (bL×Nat)=>((fS (es++[(pa.name,h)]++r):Except Fault<|List<|bL×Nat)>>=atG))= λr=>atG<|es++(pa.name,h)::r:=by
      intro β atG;funext r;rw[cC];rfl
     rw[bind_assoc,e,bP,←cC];exact k2
  .rintro Z U ⟨v,es,rfl,sm,g1,g2,g3,hi,k⟩;rw[ln3,iA]at k;have k:mK a H ((.ok (es++[]):Except Fault<|List<|bL×Nat)>>= λes=>known Ld m8.start>>= λst=>namedStates (ps++es.map λe=>e.1) ps.length Ld [] m8.states>>= λss=> .ok ⟨m8.title.name,ps,es,st,ss⟩) (jX a A') Q E:=k;rw[cV]at k;have k:mK a H (known Ld m8.start>>= λst=>namedStates (ps++es.map λe=>e.1) ps.length Ld [] m8.states>>= λss=> .ok ⟨m8.title.name,ps,es,st,ss⟩) (jX a A') Q E:=k;calc⟨_,Y,_,Y,d1,_,Y,g1,_,Y,x,_,_,Y,hx.same sm,Y,l5,w5,m8.states,A',Y,sm _ _ ET,t9.mono λ_ _ q=>q.same sm,ok.sl,λd5 kvs H4 s4 n5 hd5 dn=>?_⟩;rw[enm]at dn;have sm4:=sm.trans s4;calc⟨Y,λnx H5 s5 nn5 Zc=>?_⟩;have VA:=sm4.trans s5;have hN:RNm a H5 (.ref nx) (ps++es.map λe=>e.1) ps.length Ld:=⟨nx,d2,d5,_,kvs,Y,by rw[Ia]at Zc;exact Zc,s5 _ _<|s4 _ _ g2,ZV _,s5 _ _ hd5,dn⟩;let⟨z,ds,dst,We,Wf,ez,hz,_,_,e3,e4⟩:=id hN;cases ez;calc⟨_,Y,nx,_,_,Y,hz,Y,_,Y,x,_,_,Y,hx.same VA,Y,dst,Ld,Wf,_,m8.start,Y,e3,e4,h4.same VA,pG k VA λst es1 k1=>?_⟩;have ln5:=t9.len;have sl:=ok.sl;have ak0:∀(j:Nat) (done:List<|bL×kP) (f:Fault) (sj:dJ×eW),done.length=j->m8.states[j]? =some sj->(∀k s x,m8.states[k]? =some s->done[k]? =some x->sres (ps++es.map λe=>e.1) ps.length Ld k s= .ok x)->sres (ps++es.map λe=>e.1) ps.length Ld j sj= .error f->t7 (a.c "Fault") E H f.code f.place:= λj done f sj hl hj hd hf=>by
    rw[←enm]at hd hf k1;have hjl:=(au.mp hj).1;rw[CJ j done hl hd 'l',GX hj,hf]at k1;exact k1
   show CL (KL (W0 K<|gf (tF (a.c "Draft") (gF 0) "states") m9) (Z3 K 2<|IT (ic 8)<|IT (ic 9) Z2) AM (vz (YB a) [] E<|gf (gF 5)<|gf (gF 8)<|gf (gF 9) m9) [8,9]) (ic 7) _ [some<|.ref x,some<|.ref d1,some<|.ref d2,some<|.ref D3,v,some<|.ref nx,some<|.int ((st:Nat):Int),none,none,none] H5;refine Ca (Xc (K:=K) (ta:=gf (tF (a.c "Draft") (gF 0) "states") m9) (te:=vz (YB a) [] E<|gf (gF 5)<|gf (gF 8)<|gf (gF 9) m9) (Z:=[some<|.ref x,some<|.ref d1,some<|.ref d2,some<|.ref D3,v,some<|.ref nx,some<|.int ((st:Nat):Int),none,none,none]) (H:=H5) (i:=8) (i2:=9) (atG:= λD j y H2=>∀sj,m8.states[j]? =some sj->∃xj,sres (ps++es.map λe=>e.1) ps.length Ld j sj= .ok xj/\nY a (λz=>A' z/\z≠D) H2 y xj) (a:=l5) (xs:=w5) (L:=H5) 'd' (λR r=>⟨_,Y,x,_,_,Y,hx.same VA,Y,r⟩) (cP.of<|VA _ _ ET) (by rw[ln5,aW];lia) (λD j y H2 H2' ys hD g sD sj hj=>?_) (λD j y H2 nD hy lp R r T' nT=>?_) λD H2 nD lp=>?_)
   .let⟨xj,e,q⟩:=g sj hj;exact⟨xj,e,q.kp (T.ok "Branch") (T.ok "State")<|(Kp.Ly (a:=a) sD hD).mono λz h=>h.2⟩
   .let⟨sj,hj,q⟩:=t9.get' hy;have hjl:=(au.mp hj).1;have sT:aN H2<|upd H2 T'<|.tup [.int (j:Nat),y]:=aN.new nT;have Zo:=(VA.trans lp.same).trans sT;have nDH:H D=none:=VA.free nD;have pP:∃ys,H2 D=some (.lst ys):=let⟨_,ys,hD,_⟩:=lp;⟨ys,hD⟩;have plc:place Ld sj.1.name≠none:= λe=>GM.rV.mp e (by rw[←enm];exact b6.mpr ⟨sj,bf hj,Y⟩);refine⟨_,Y,_,Y,_,Y,.ref nx,j,y,sj,_,_,Ld,λz=>A' z/\z≠D,Y,hN.same<|lp.same.trans sT,(q.ne nDH).same Zo,(ok.ss sj<|bf hj).2,plc,λz nz=>⟨fr z<|Zo.free nz,λe=>?_⟩,?_⟩
    .let⟨ys,hD⟩:=pP;rw[e,sT _ _ hD]at nz;cases nz
    .show mK a _ (sres (ps++es.map λe=>e.1) ps.length Ld j sj) _ _ _;cases ej:sres (ps++es.map λe=>e.1) ps.length Ld j sj with
     |ok xj=>exactλv' H3 s3 q3=>r v' H3 (sT.trans s3) λsj' hj'=>by rw[hj]at hj';cases hj';exact⟨xj,ej,q3⟩
     |error f=>
      let⟨_,ys,hD,ly,Nk⟩:=lp;have ya:∀(k:Nat) (y:V),ys[k]? =some y->∃x,(∀s,m8.states[k]? =some s->sres (ps++es.map λe=>e.1) ps.length Ld k s= .ok x):= λk y hk=>by
       have hkl:=(au.mp hk).1;have hks:m8.states[k]? =some m8.states[k]:=aK 'l';let⟨xk,e,_⟩:=Nk k y hk _ hks;exact⟨xk,λs hs=>by rw[hks]at hs;cases hs;exact e⟩
      let⟨done,dl,dg⟩:=gather ys (λk _ x=>∀s,m8.states[k]? =some s->sres (ps++es.map λe=>e.1) ps.length Ld k s= .ok x) ya;refine(ak0 j done f sj 'l' hj (λk s x hs hk=>?_) ej).same Zo;have hkl:=(au.mp hk).1;exact dg k ys[k] x (aK 'l') hk s hs
   .let⟨Zo,ys,hD,ly,Nk⟩:=lp;have nDH:H D=none:=VA.free nD;have ya:∀(k:Nat) (y:V),ys[k]? =some y->∃x,((∀s,m8.states[k]? =some s->sres (ps++es.map λe=>e.1) ps.length Ld k s= .ok x)/\nY a (λz=>A' z/\z≠D) H2 y x):= λk y hk=>by
     have hkl:=(au.mp hk).1;have hks:m8.states[k]? =some m8.states[k]:=aK 'l';let⟨xk,e,q⟩:=Nk k y hk _ hks;exact⟨xk,λs hs=>by rw[hks]at hs;cases hs;exact e,q⟩
    let⟨done,dl,dg⟩:=gather ys (λk y x=>((∀s,m8.states[k]? =some s->sres (ps++es.map λe=>e.1) ps.length Ld k s= .ok x)/\nY a (λz=>A' z/\z≠D) H2 y x)) ya;have es2:namedStates (ps++es.map λe=>e.1) ps.length Ld [] m8.states= .ok done:=by
     rw[←enm];rw[CJ m8.states.length done 'l' (λk s x hs hk=>?_)<|aT _,iA]
     .show fS (done++[])=_;rw[cV]
     .have hkl:=(au.mp hk).1;rw[enm];exact(dg k ys[k] x (aK 'l') hk).1 s hs
    rw[es2]at k1;have k1:∀v U,aN H U->jX a A' U v ⟨m8.title.name,ps,es,st,done⟩->Q v U:=k1;have sm7:=VA.trans Zo;have f1:=Zo _ _<|s5 _ _<|s4 _ _ g1;have f2:=Zo _ _<|s5 _ _<|s4 _ _ g2;have f3:=Zo _ _<|s5 _ _<|s4 _ _ g3;let⟨t,tf,rfl,ht,_,htv⟩:=(G.same sm7).tok;calc⟨_,Y,x,_,_,Y,hx.same sm7,Y,t,_,_,Y,ht,htv,_,Y,d1,_,Y,f1,_,Y,d2,_,Y,f2,λD6 n6=>?_⟩;rw[Xz];have s6:aN H2<|upd H2 D6<|.lst<|(ps++es.map λe=>e.1).map λb=>V.str<|sw<|nb b:=aN.new n6;calc⟨_,Y,_,Y,_,Y,Y,λsx H7 s7 nsx at7=>?_⟩;rw[Ia]at at7;have s67:=s6.trans s7;calc k1 _ H7 (sm7.trans s67) ⟨sx,_,_,_,Y,at7,⟨D6,Y,fr _<|sm7.free n6,s7 _ _ aq⟩,⟨D3,Y,fr _ nn3,s67 _ _ f3⟩,⟨D,ys,Y,fr _ nDH,s67 _ _ hD,fE.of_get (by show ys.length=done.length;lia) λk y x hy Zk=>?_⟩⟩;exact((dg k y x hy Zk).2.mono λz h=>h.1).kp (a:=a) (T.ok "Branch") (T.ok "State") (Kp.same s67)
def sq:kP->List Nat
 | .fin=>[]
 | .both s t=>[s,t]
 | .talk _ _ bs=>bs.map λb=>b.to
def CM(g:bF)(s:Nat):g.targets s=sq (g.node s):=by
 unfold bF.targets sq;cases g.node s<;>rfl
abbrev iN(xs:List Nat):List V:=xs.map λ(i:Nat)=>V.int (i:Int)
def Tu{x:Nat}(h:xs[i]? =some x):UX (iN xs) (i:Int)=some (.int (x:Int)):=cJ (by rw[aH,h];rfl)
inductive lJ (a:g9) (A:O->Prop) (H:Hp) (l:O) (ss:List<|bL×kP):Prop
 |mk (us:_) (k0:H l=some (.lst us)) (k1:fE (nY a A H) us ss)
def oR.same{b:jg}(h:oR a A H v b)(s:aN H U):oR a A U v b:=by
 let⟨x,u2,u3,e,h,⟨l1,w1,e1,a1,G,al1⟩,⟨l2,e2,a2,h2⟩⟩:=h;exact⟨x,u2,u3,e,h.same s,⟨l1,w1,e1,a1,s _ _ G,al1.mono<|by rintro _ _ ⟨y,e,q⟩;exact⟨y,e,s _ _ q⟩⟩,⟨l2,e2,a2,s _ _ h2⟩⟩
def nY.same{b:bL×kP}(h:nY a A H v b)(s:aN H U):nY a A U v b:=by
 let⟨x,u3,u4,u5,e,h,⟨l1,e1,a1,G⟩,⟨l2,e2,a2,h2⟩,⟨l3,w3,e3,a3,h3,V7⟩⟩:=h;exact⟨x,u3,u4,u5,e,h.same s,⟨l1,e1,a1,s _ _ G⟩,⟨l2,e2,a2,s _ _ h2⟩,⟨l3,w3,e3,a3,s _ _ h3,V7.mono λ_ _ q=>q.same s⟩⟩
def lJ.same{l:O}{ss:List (bL×kP)}(h:lJ a A H l ss)(s:aN H U):lJ a A U l ss:=let⟨us,G,h2⟩:=h;⟨us,s _ _ G,h2.mono λ_ _ q=>q.same s⟩
def jX.same(h:jX a A H v g)(s:aN H U):jX a A U v g:=by
 let⟨x,u3,u4,u6,e,h,⟨l1,e1,a1,G⟩,⟨l2,e2,a2,h2⟩,⟨l3,w3,e3,a3,h3,V7⟩⟩:=h;exact⟨x,u3,u4,u6,e,h.same s,⟨l1,e1,a1,s _ _ G⟩,⟨l2,e2,a2,s _ _ h2⟩,⟨l3,w3,e3,a3,s _ _ h3,V7.mono λ_ _ q=>q.same s⟩⟩
def lJ.at{a:g9}{A:O->Prop}{H:Hp}{l:O}{g:bF}(h:lJ a A H l g.states){i:Nat}(hi:i<g.states.length):∃us v,H l=some (.lst us)/\UX us (i:Int)=some v/\nY a A H v (g.stateName i,g.node i):=by
 let⟨us,hl,al⟩:=h;let⟨v,hv,q⟩:=al.get<|aK hi;rw[GM.oE hi]at q;exact⟨us,v,hl,cJ hv,q⟩
inductive Yu (a:g9) (S:List V) (H:Hp) (Q:VK) (rq:XK):Prop
 |mk (v s:_) (A:O->Prop) (k0:S=[v]) (k1:nY a A H v s) (k2:(Ex s.2).length<=8) (k3:∀l U,aN H U->H l=none->U l=some (.lst (iN (sq s.2)))->Q (.ref l) U)
theorem Fe(T:Txt K mg a):jM P w K mg base 1 a "states_behind" ["state"]<|Yu a:=by
 refine T.BV.fn.ok vq ?_ ?_
 .right
 .ext⟨v,st,A',rfl,⟨x,u3,u4,u5,rfl,hx,h3,⟨l4,rfl,c4,V9⟩,⟨l5,w5,rfl,c5,ET,t9⟩⟩,h8,k⟩;have nd:=vq.nd;refine⟨_,aj (dZ (cu iU (bE T.State<|J 0) (jh (2) T)<|dh _) (aF<|bq<|rB C7 'r' T.gB 'd'<|bM<|bE T.State<|J 0) b9)<|aF<|bq<|tD (own:=[("branch",1)]) Y nd (gc<|bE T.State<|J 0) (gq 'r') (λ_ _ _ _ _=>(xX 1 nd)) (λ_ _ _ _ _=>iF) λ_ _ _ _ _=>bE T.Branch<|J 1,?_⟩
  left
  calc⟨_,Y,x,_,_,Y,hx,Y,Y,_,Y,?_⟩;have lc:(∀l U,aN H U->H l=none->U l=some (.lst<|iN<|(Ex st.2).map λb=>b.to)->Q (.ref l) U)->KL (F4 K<|tF (a.c "State") (gF 0) "branches") (ic 1) AM (tF (a.c "Branch") (gF 1) "behind") [1] (L2.start ["state","branch"] [.ref x]) H Q:= λk=>by
   have ln:=t9.len;refine Cp (atG:= λ_ j y _=>(iN<|(Ex st.2).map λb=>b.to)[j]? =some y) (xs:=w5) (a:=l5) (L:=H) (λR r=>⟨_,Y,x,_,_,Y,hx,Y,r⟩) (cP.of ET) (by rw[ln,aW];lia) (λ_ _ _ _ _ h _=>h) (λD j y H2 n hy p R r=>?_) λD H2 n p=>?_
   .let⟨b,hb,q⟩:=t9.get' hy;let⟨z,_,_,rfl,hz,_⟩:=q.same p.same;calc⟨_,Y,z,_,_,Y,hz,Y,r _ _ (aN.refl _) ?_⟩;rw[aH,aH,hb];rfl
   .calc k D H2 p.same n ?_;have p':Ab (λ_ j y _=>(iN<|(Ex st.2).map λb=>b.to)[j]? =some y) H D (iN<|(Ex st.2).map λb=>b.to).length H2:=by rw[ai,ai,←ln];exact p
    exact p'.vals
  cases e:st.2 with
  |fin=>
   rw[e]at k lc;exact o7 (dF<|by show¬V.int 0=V.int 2;decide) (lc k)
  |both p q=>
   rw[e]at k V9;calc qS (aR Y) ⟨_,Y,x,_,_,Y,hx,Y,l4,_,Y,.inl<|cP.of V9,λl nl=>?_⟩;exact k l _ (aN.new nl) nl aq
  |talk p q bs=>
   rw[e]at k lc;exact o7 (dF<|by show¬V.int 1=V.int 2;decide) (lc k)
def RA(H:Hp)(v:V):Option (Nat×Nat)->Prop
 |none=>v= .gQ
 |some (p,k)=>∃t,v= .ref t/\H t=some (.tup [.int (p:Int),.int (k:Int)])
def yf(H:Hp)(kvs:List<|Key×V)(es:Ent):Prop:=fE (λkv e=>kv.1=b8 (e.1:Int)/\RA H kv.2 e.2) kvs es
def RA.kp{A:O->Prop}{e:Option (Nat×Nat)}(h:RA H v e)(k:∀x ts,H x=some (.tup ts)->U x=some (.tup ts)):RA U v e:=by
 cases e with
 |none=>exact h
 |some p=>let⟨t,e,q⟩:=h;exact⟨t,e,k _ _ q⟩
def yf.kp{H U:Hp}{kvs:List (Key×V)}{es:Ent}(h:yf H kvs es)(k:∀x ts,H x=some (.tup ts)->U x=some (.tup ts)):yf U kvs es:=h.mono λ_ _ q=>⟨q.1,q.2.kp (A:= λ_=>True) k⟩
def yf.none{H:Hp}{t:Nat}:∀{kvs:List (Key×V)} {es:Ent},yf H kvs es->t∉es.map (·.1)->mS kvs (b8 (t:Int))=none
 |_,_,.nil,_=>rfl
 |_,_,.cons (x:=kv) (y:=e) r h,n=>by
  rw[bK,aX,not_or]at n;rw[jq λz=>n.1 (by rw[r.1]at z;have:=EF z;omega)];exact yf.none h n.2
def yf.some{H:Hp}{t m:Nat}{en:Option (Nat×Nat)}:∀{m:Nat} {kvs:List (Key×V)} {es:Ent},yf H kvs es->(es.map (·.1)).Nodup->es[m]? =some (t,en)->∃v,mS kvs (b8 (t:Int))=some v/\RA H v en
 |m,_,_,.nil,_,e=>by simp at e
 |0,_,_,.cons (x:=kv) (y:=e') r h,nd,e=>by
  obtain rfl:=aL e;exact⟨kv.2,jI r.1,r.2⟩
 |m+1,_,_,.cons (x:=kv) (y:=e') r h,nd,e=>by
  rw[bK,iS]at nd;let⟨v,hv,q⟩:=yf.some h nd.2 (m:=m) (~~~e);calc⟨v,?_,q⟩;rw[jq λz=>?_]
  .exact hv
  .rw[r.1]at z;have:e'.1=t:=by have:=EF z;omega
   exact nd.1 (by rw[this];exact b6.mpr ⟨(t,en),bf<|~~~e,Y⟩)
def yf.put{es:Ent}{t:Nat}(h:yf H kvs es)(n:t∉es.map (·.1))(q:RA H v en):yf H (putK kvs (b8 (t:Int)) v)<|es++[(t,en)]:=by
 unfold putK;rw[qf,h.none n];exact fE.snoc ⟨Y,q⟩ h
inductive aeI (a:g9) (S:List V) (H:Hp) (Q:VK) (rq:XK):Prop
 |mk (l:O) (first:Nat) (g:bF) (A:O->Prop) (k0:S=[.ref l,.int (first:Int)]) (k1:lJ a A H l g.states) (k2:first<g.states.length) (k3:g.states.length<=64) (k4:Valid g) (k5:(∀s,(g.branches s).length<=8)) (k6:∀d kvs U,aN H U->H d=none->U d=some (.dK kvs)->yf U kvs (ents g first)->Q (.ref d) U)
theorem wM(T:Txt K mg a):jM P w K mg base 2 a "entries_from" ["states","first"]<|aeI a:=by
 refine T.vX.fn.ok xw ?_ ?_
 .right
 .ext⟨l,first,g,A',rfl,hS,hf,NF,va,Ti,k⟩;have nd:=xw.nd;have hu:=Ja hr;refine⟨_,aj (iy 2 nd<|aaB (XZ (J 1) JT<|aaE) Y Y 's' 'd')<|aj (iy 3 nd<|cg<|bM<|J 1)<|aj (iy 4 nd bR)<|aj (iV dN (cu yR (J 4) (cy bQ 'r' T.gB bC<|bM<|J 3)<|dh _)<|aj (lS dN Y (DI 'r' T.gB<|bM<|c8 T.BV (Fe T) hr.mn<|bM<|dj ck (J 0) (dj ck (J 3) (J 4) λ_ _=>rfl) λ_ _=>rfl) (JV Y<|mP (xX 5 nd)<|mP (xX 6 nd) DH)<|aF<|dZ (yW<|Fg hu (J 6)<|J 2) (aj (Oc hu (J 2) (J 6) (mC<|aD (dj ck (J 3) (J 4) λ_ _=>rfl)<|bM<|J 5) Y)<|aF<|bV<|gR aM bh bw d9 (J 3)<|bM<|J 6) b9)<|aF<|yU (i:=4) nd Y (ji Y) bR yx)<|aF<|bq<|J 2,?_⟩
  left
  intro d Zl;calc⟨_,Y,?_⟩;calc⟨aq,[(b8 (first:Int),.gQ)],Y,by show 1<=15;decide,?_⟩;rw[dS];have s0:aN H<|upd H d<|.dK<|rP [] [(b8 (first:Int),V.gQ)]:=aN.new Zl;calc⟨_,Y,jH 1,λm nm=>?_⟩;have s1:aN (upd H d<|.dK<|rP [] [(b8 (first:Int),V.gQ)])<|upd (upd H d<|.dK<|rP [] [(b8 (first:Int),V.gQ)]) m<|.lst [.int (first:Int)]:=aN.new nm;have U8:(upd (upd H d<|.dK<|rP [] [(b8 (first:Int),V.gQ)]) m<|.lst [.int (first:Int)]) d=some (.dK [(b8 (first:Int),V.gQ)]):=s1 _ _ aq;have hm1:(upd (upd H d<|.dK<|rP [] [(b8 (first:Int),V.gQ)]) m<|.lst [.int (first:Int)]) m=some (.lst<|iN [first]):=aq;have nm0:H m=none:=s0.free nm;have dm:d≠m:= λe=>by rw[←e,aq]at nm;cases nm
  have s01:=s0.trans s1;generalize (upd (upd H d<|.dK<|rP [] [(b8 (first:Int),V.gQ)]) m<|.lst [.int (first:Int)])=L at U8 hm1 s01;calc oH g.states.length (λi Z U=>X5 λ(v v':Option V) (kvs:List (Key×V)) (es:Ent) (n:Nat)=>A8 (Z=[some<|.ref l,some<|.int (first:Int),some<|.ref d,some<|.ref m,some<|.int (i:Int),v,v']) (aN H U) (U d=some (.dK kvs)) (yf U kvs es) (U m=some (.lst (iN (es.map (·.1))))) (wI g first i (es.map (·.1))) (g.states.length+1<=n+i)<|wK g n i es=ents g first) 0 (b7 _) ⟨none,none,_,[(first,none)],g.states.length+1,Y,s01,U8,.cons ⟨Y,Y⟩ .nil,hm1,.start hf,aT _,Y⟩ ?_;rintro i Z U hi ⟨v,v',kvs,es,n,rfl,sm,hd,ed,hm,gg,hn,ge⟩;have fu:=gg.fuel;rw[ai]at fu;calc⟨_,Y,_,Y,m,_,Y,.inl<|cP.of hm,_,_,Y,Y,_,Y,?_⟩;rw[ai,ai];by_cases z:i<es.length
  .calc oG (aR 'l') hi ?_;obtain⟨x,hx⟩:∃x,es[i]? =some x:=⟨es[i],aK z⟩;have hxm:(es.map (·.1))[i]? =some x.1:=by rw[aH,hx];rfl
   have hxl:=gg.lt x.1<|bf hxm;let⟨us,w,hl,hw,q⟩:=(hS.same sm).at hxl;obtain⟨n,rfl⟩:∃m,n=m+1:=⟨n-1,'l'⟩;rw[wK,hx]at ge;have ge:wK g n (i+1) (pL x.1 es 0<|g.targets x.1)=ents g first:=ge
   refine⟨_,Y,_,Y,_,Y,m,_,_,_,Y,Y,cP.of hm,Tu hxm,l,_,_,_,Y,Y,cP.of hl,hw,w,(g.stateName x.1,g.node x.1),A',Y,q,?_,λtl H2 s2 ntl A1=>?_⟩
   .have:=Ti x.1;unfold bF.branches at this;unfold Ex;dsimp only;cases e:g.node x.1 with
    |fin=>simp
    |both p q=>simp
    |talk p q bs=>rw[e]at this;exact this
   .rw[←CM]at A1;have pA:=sm.trans s2;refine⟨tl,_,Y,cP.of A1,Dc (K:=K) (a:=tl) (xs:=iN<|g.targets x.1) (λj Z H3=>X4 λ(v v':Option V) (kvs:List (Key×V)) (HW:Ent)=>A9 (Z=[some<|.ref l,some<|.int (first:Int),some<|.ref d,some<|.ref m,some<|.int (i:Int),v,v']) (aN H H3) (H3 tl=some (.lst<|iN<|g.targets x.1)) (H3 d=some (.dK kvs)) (yf H3 kvs HW) (H3 m=some (.lst (iN (HW.map (·.1))))) (HW.length<=64+j) (HW[i]? =some x)<|pL x.1 HW j ((g.targets x.1).drop j)=pL x.1 es 0 (g.targets x.1)) ⟨v,v',kvs,es,Y,pA,A1,s2 _ _ hd,ed.kp λy ts q=>s2 _ _ q,s2 _ _ hm,'l',hx,Y⟩ (λj Z H3 _ h=>by let⟨_,_,_,_,_,_,ht,_⟩:=h;exact cP.of ht) ?_ ?_⟩
    .rintro j u Z H3 T' hu ⟨v,v',kvs,HW,rfl,Kz,Wb,Z5,ed3,I0,le3,F3,pe⟩ nT;rw[aH]at hu;cases eb:(g.targets x.1)[j]?with
     |none=>rw[eb]at hu;cases hu
     |some b=>
     rw[eb]at hu;obtain rfl:=aL hu;have hjl:=(au.mp eb).1;have arx:(g.targets x.1).length<=8:=by
      rw[CM];have:=Ti x.1;unfold bF.branches at this;unfold sq;cases e:g.node x.1 with
      |fin=>simp
      |both p q=>simp
      |talk p q bs=>rw[e]at this;simpa using this
     have dr:(g.targets x.1).drop j=b::(g.targets x.1).drop (j+1):=by
      let⟨G,h2⟩:=au.mp eb;rw[bx G,h2]
     rw[dr,pL]at pe;have sT:aN H3<|upd H3 T'<|.tup [.int (j:Nat),.int (b:Int)]:=aN.new nT;have hd4:=sT _ _ Z5;have Va:=sT _ _ I0;have sm4:=Kz.trans sT;have ed4:=ed3.kp λy ts q=>sT _ _ q;calc⟨T',_,Y,oS.of aq,Y,_,_,Y,_,_,Y,Y,?_⟩;calc⟨_,Y,_,Y,d,_,Y,sO.k (k:=b8 (b:Int)) hd4,_,Y,?_⟩;by_cases c:(HW.map (·.1)).contains b=true
     .rw[aG c]at pe;have cm:b∈HW.map (·.1):=by simpa using c
      have sv:(mS kvs<|b8 (b:Int)).isSome=true:=by
       let⟨e0,he0,eb0⟩:=b6.mp cm;let⟨i0,hi0,ei0⟩:=rj he0;rw[←qf,G1];let⟨kv,hkv,qk⟩:=ed3.get<|aK hi0;exact⟨kv,bf hkv,by rw[qk.1,ei0,eb0];exact aR Y⟩
      rw[sv];exact m7 ⟨_,_,kvs,HW,Y,sm4,sT _ _ Wb,hd4,ed4,Va,'l',F3,pe⟩
     .rw[az c]at pe;have cm:b∉HW.map (·.1):= λm=>c (~~~m);rw[ed3.none cm];have alL:(HW.map (·.1))[i]? =some x.1:=by rw[aH,F3];rfl
      calc oh ⟨_,Y,_,Y,m,_,_,_,Y,Y,cP.of Va,Tu alL,_,Y,jH 2,λt nt=>?_⟩;have s5:aN (upd H3 T'<|.tup [.int (j:Nat),.int (b:Int)])<|upd (upd H3 T'<|.tup [.int (j:Nat),.int (b:Int)]) t<|.tup [.int (x.1:Int),.int (j:Nat)]:=aN.new nt;have hd5:=s5 _ _ hd4;have hm5:=s5 _ _ Va;have kl:kvs.length<=64+j:=by rw[ed3.len];exact le3
      calc⟨_,Y,_,Y,d,_,Y,Rn.k (k:=b8 (b:Int)) hd5<|by rw[aW];lia,?_⟩;have ed5:=(ed4.kp λy ts q=>s5 _ _ q).put cm (en:=some (x.1,j)) ⟨t,Y,aq⟩;generalize (upd (upd H3 T'<|.tup [.int (j:Nat),.int (b:Int)]) t<|.tup [.int (x.1:Int),.int (j:Nat)])=H5 at s5 hd5 hm5 ed5;have hm6:(upd H5 d<|.dK<|putK kvs (b8 (b:Int))<|.ref t) m=some (.lst (iN (HW.map (·.1)))):=by rw[aY<|f6 dm];exact hm5
      calc⟨_,Y,.inl ⟨Y,_,cP.of hm6⟩,_,Y,m,_,_,Y,Y,hm6,by rw[ai,ai,aW];lia,?_⟩;have tk:∀y ts,H5 y=some (.tup ts)->(upd (upd H5 d<|.dK<|putK kvs (b8 (b:Int))<|.ref t) m (.lst (iN (HW.map (·.1))++[.int (b:Int)]))) y=some (.tup ts):= λy ts q=>by
       rw[aY (gz q hm5<|by intro z;cases z),aY<|gz q hd5<|by intro z;cases z];exact q
      have Zo:aN H (upd (upd H5 d<|.dK<|putK kvs (b8 (b:Int))<|.ref t) m (.lst (iN (HW.map (·.1))++[.int (b:Int)]))):= λy o q=>by
       rw[aY<|bg q nm0,aY<|bg q Zl];exact s5 _ _ (sm4 _ _ q)
      refine⟨_,_,_,HW++[(b,some (x.1,j))],Y,Zo,?_,?_,ed5.kp tk,?_,by rw[ak,aI];lia,?_,pe⟩
      .have:tl≠m:= λe=>by rw[e,hm]at ntl;cases ntl
       have t2:tl≠d:= λe=>by rw[e,hd]at ntl;cases ntl
       rw[aY this,aY t2];exact s5 _ _ (sT _ _ Wb)
      .rw[aY dm,aq]
      .rw[aq];simp[iN,bP]
      .rw[bX (au.mp F3).1];exact F3
    .rintro Z H3 ⟨v,v',kvs,HW,rfl,Kz,Wb,Z5,ed3,I0,le3,F3,pe⟩;rw[ai,iA]at pe;have pe:HW=pL x.1 es 0 (g.targets x.1):=pe;refine⟨_,Y,_,_,Y,Y,i+1,'l','l',v,v',kvs,HW,n,Y,Kz,Z5,ed3,I0,?_,'l',?_⟩
     .rw[pe,GM.Cw];exact gg.next va hxm
     .rw[pe];exact ge
  .calc kK (bB 'l') ?_;have e0:es[i]? =none:=gu 'l';have ge:es=ents g first:=by
    cases n with
    |zero=>exact ge
    |succ n=>rw[wK,e0]at ge;exact ge
   rw[←ge]at k;exact⟨_,Y,k d kvs U sm Zl hd ed⟩
def Po{H:Hp}:∀{kvs:List (Key×V)} {es:Ent},yf H kvs es->kvs.map (λkv=>kV kv.1)=iN (es.map (·.1))
 |_,_,.nil=>rfl
 |_,_,.cons r h=>by
  rw[bK,bK,Po h,r.1];rfl
inductive aiE (a:g9) (S:List V) (H:Hp) (Q:VK) (rq:XK):Prop
 |mk (l:O) (first:Nat) (g:bF) (A:O->Prop) (k0:S=[.ref l,.int (first:Int)]) (k1:lJ a A H l g.states) (k2:first<g.states.length) (k3:g.states.length<=64) (k4:Valid g) (k5:(∀s,(g.branches s).length<=8)) (k6:∀d U,aN H U->H d=none->U d=some (.lst (iN (g.reach first)))->Q (.ref d) U)
def Sk(h:i∉g.reach g.start):g.route i=none:=by
 have t:=GM.Af g;unfold bF.route;rw[Option.map_eq_none_iff,List.find?_eq_none];intro x hx e;apply h;rw[←GM.yw,t.fst];have e:x.1=i:= ~~~e
 rw[←e];exact iX hx
theorem Sl(nd:(g.reach g.start).Nodup){w:List (Nat×Nat)}(h:(ye g (g.states.length+1) 0 [(g.start,[])])[m]? =some (i,w)):g.route i=some w:=by
 have t:=GM.Af g;have f:=GM.yw g g.start;rw[t.fst]at f;unfold bF.route;rw[cH];let⟨hm,em⟩:=au.mp h;calc⟨(i,w),?_,Y⟩;rw[List.find?_eq_some_iff_getElem];calc⟨'s',m,hm,em,λj hj=>?_⟩;rw[Ey,bW];intro e;rw[←f]at nd;have:=(G2 (h₀:= ~~~x6 hj hm) (h₁:= ~~~hm) nd).mp (by simp[e,em]:((ye g (g.states.length+1) 0 [(g.start,[])]).map (·.1))[j]'(~~~x6 hj hm)=((ye g (g.states.length+1) 0 [(g.start,[])]).map (·.1))[m]'(~~~hm))
 lia
def abg{es:Ent}(f:es.map (·.1)=atF.map (·.1)){x:Nat}{e:Option (Nat×Nat)}(h:es[m]? =some (x,e)):∃w,atF[m]? =some (x,w):=by
 have:=congrArg (λl=>l[m]?) f;simp only[aH,h,gY]at this;cases q:atF[m]?with
 |none=>rw[q]at this;cases this
 |some y=>
  rw[q]at this;let⟨y1,y2⟩:=y;have:x=y1:=aL this;exact⟨y2,by rw[this]⟩
def YK{es:Ent}(f:es.map (·.1)=atF.map (·.1)){x:Nat}{w:List (Nat×Nat)}(h:atF[m]? =some (x,w)):∃e,es[m]? =some (x,e):=by
 have:=congrArg (λl=>l[m]?) f;simp only[aH,h,gY]at this;cases q:es[m]?with
 |none=>rw[q]at this;cases this
 |some y=>
  rw[q]at this;let⟨y1,y2⟩:=y;have:y1=x:=aL this;exact⟨y2,by rw[this]⟩
def aeh(e:X.K=K):G9 X (compareOp .In)<|rIn K false:=e▸pI
def t8(H:Hp)(S:List V)(ps:List<|Nat×Nat):Prop:=fE (λv p=>∃t,v= .ref t/\H t=some (.tup [.int (p.1:Int),.int (p.2:Int)])) S ps
def fE.append{α β:Type}{R:α->β->Prop}{xs':List α}{ys':List β}(h':fE R xs' ys'):∀{xs:List α} {ys:List β},fE R xs ys->fE R (xs++xs') (ys++ys')
 |_,_,.nil=>h'
 |_,_,.cons r t=> .cons r (fE.append h' t)
def fE.rev{R:α->β->Prop}:∀{xs:List α} {ys:List β},fE R xs ys->fE R xs.reverse ys.reverse
 |_,_,.nil=> .nil
 |_,_,.cons r t=>by rw[uv,uv];exact fE.snoc r t.rev
def akv(H:Hp)(res:Option<|List<|Nat×Nat)(Q:VK):Prop:=match res with
 |none=>∀U,aN H U->Q .gQ U
 |some w=>∀d S U,aN H U->H d=none->U d=some (.lst S)->t8 U S w->Q (.ref d) U
inductive aa3 (a:g9) (S:List V) (H:Hp) (Q:VK) (rq:XK):Prop
 |mk (v:V) (i:Nat) (g:bF) (A:O->Prop) (k0:S=[v,.int (i:Int)]) (k1:jX a A H v g) (k2:g.start<g.states.length) (k3:g.states.length<=64) (k4:Valid g) (k5:(∀s,(g.branches s).length<=8)) (k6:akv H (g.route i) Q)
def tu(T:Txt K mg a):jM P w K mg base 3 a "met_from" ["states","first"]<|aiE a:=by
 refine T.yG.fn.ok Qt ?_ ?_
 .right
 .ext⟨l,first,g,A',rfl,hS,hf,NF,va,Ti,k⟩;refine⟨_,aF<|bq<|rB (IF Y) 'r' T.gB 'd'<|bM<|c8 T.vX (wM T) hr.mn<|aD (J 0)<|bM<|J 1,?_⟩
  left
  calc⟨_,Y,_,Y,l,first,g,A',Y,hS,hf,NF,va,Ti,λd kvs L s1 nd hd ed=>?_⟩;calc⟨d,kvs,Y,hd,λm nm=>?_⟩;rw[Po ed,GM.yw];exact k m _ (s1.trans<|aN.new nm) (s1.free nm) aq
theorem Qc(T:Txt K mg a):jM P w K mg base 3 a "route_to" ["script","number"]<|aa3 a:=by
 refine T.Qn.fn.ok GR ?_ ?_
 .right
 .ext⟨v,i,g,A',rfl,hS,hf,NF,va,Ti,k⟩;have nd:=GR.nd;have hu:=Ja hr;refine⟨_,aj (iy 2 nd<|c8 T.vX (wM T) hr.mn<|aD (bE T.Script<|J 0)<|bM<|bE T.Script<|J 0)<|aj (dZ (yW<|Fg hu (J 1)<|J 2) (aF<|bq JT) b9)<|aj (iy 3 nd<|cg iI)<|aj (iy 4 nd<|Am hu (J 2) (J 1) λ_ _=>rfl)<|aj (iV dN (yW<|aaA<|J 4)<|aj (bV<|gR aM bh bw d9 (J 3)<|bM<|J 4)<|aF<|iy 4 nd<|Am hu (J 2) (dj pC (J 4) bR λ_ _=>rfl) λ_ _=>rfl)<|aj (bV<|N7 aM O0 PySem.F.type_list_reverse RY<|J 3)<|aF<|bq<|J 3,?_⟩
  left
  let⟨x,u3,u4,u6,rfl,hx,h3,h4,⟨l6,w6,rfl,c6,qD,qQ⟩⟩:=hS;calc⟨_,Y,x,_,_,Y,hx,Y,_,Y,x,_,_,Y,hx,Y,l6,g.start,g,A',Y,⟨w6,qD,qQ⟩,hf,NF,va,Ti,λd kvs L s1 Zl hd ed=>?_⟩;have en:=GM.p6 va hf;have ef:=GM.yw g g.start;have tell:=GM.Af g;have end_:((ents g g.start).map (·.1)).Nodup:=by rw[ef];exact en
  calc⟨_,Y,_,Y,d,_,Y,sO.k (k:=b8 (i:Int)) hd,_,Y,?_⟩;by_cases c:i∈(ents g g.start).map (·.1)
  .let⟨e0,he0,ee⟩:=b6.mp c;let⟨m0,hm0,em0⟩:=rj he0;have g0:(ents g g.start)[m0]? =some (i,e0.2):=by rw[aK hm0,em0,←ee]
   let⟨v0,Zj,q0⟩:=ed.some (m:=m0) end_ g0;rw[Zj];calc m7 ⟨jH 0,λD nD=>?_⟩;have s2:aN L<|upd L D<|.lst []:=aN.new nD;have dg:sO (upd L D<|.lst []) d (.int (i:Int))<|some v0:=by
    have:=sO.k (k:=b8 (i:Int))<|s2 _ _ hd;rw[Zj]at this;exact this
   calc⟨_,Y,_,Y,d,_,Y,dg,?_⟩;have tl:=tell.len;obtain⟨w0,hw0⟩:∃w0,(ye g (g.states.length+1) 0 [(g.start,[])])[m0]? =some (i,w0):=abg tell.fst g0;rw[Sl en hw0]at k;have anW:(ents g g.start).length<=64:=by
    have:=congrArg jc ef;rw[ai]at this;have:=GM.pS va hf;unfold GM.rank at this
    lia
   calc⟨λμ Z U=>X7 λ(ev:V) (m:Nat) (t:Nat) (e:Option (Nat×Nat)) (wy:List (Nat×Nat)) (S:List V) (ps:List (Nat×Nat))=>A12 (μ=m) (Z=[some<|.ref x,some<|.int (i:Int),some<|.ref d,some<|.ref D,some ev]) (aN H U) (U d=some (.dK kvs)) (yf U kvs<|ents g g.start) (U D=some (.lst S)) (t8 U S ps) (ps.length+m<=64) ((ents g g.start)[m]? =some (t,e)) (RA U ev e) ((ye g (g.states.length+1) 0 [(g.start,[])])[m]? =some (t,wy))<|w0=wy++ps.reverse,⟨_,v0,m0,i,e0.2,w0,[],[],Y,Y,s1.trans s2,s2 _ _ hd,ed.kp λy ts q=>s2 _ _ q,aq,.nil,by simp;lia,g0,q0.kp (A:= λ_=>True) λy ts q=>s2 _ _ q,hw0,'s'⟩,?_⟩;rintro μ Z U ⟨ev,m,t,e,wy,S,ps,rfl,rfl,sm,WW,ed',Q2,rp,pl,gm,er,hw,ew⟩;have way:=tell.way μ t e wy gm hw;calc⟨_,Y,?_⟩;cases e with
   |none=>
    obtain rfl:ev= .gQ:=er;have way:wy=[]:=way;calc⟨_,Y,o7 'd' ?_⟩;calc⟨_,Y,.inl ⟨Y,_,cP.of Q2⟩,D,S,Y,Y,Q2,_,Y,?_⟩;have hDn:H D=none:=s1.free nD;calc k D S.reverse _ (λb o q=>by rw[aY<|bg q hDn];exact sm b o q) hDn aq ?_;rw[ew,way,List.nil_append];calc fE.rev<|rp.mono ?_;rintro v p ⟨y,e,q⟩;calc⟨y,e,?_⟩;rw[aY<|gz q Q2<|by intro z;cases z];exact q
   |some pk=>
    let⟨p,kk⟩:=pk;let⟨te,rfl,hte⟩:=er;let⟨m',w',lt,hw',e2⟩:=way;calc⟨_,Y,qS 's' ⟨_,λ_ _ h=>h,?_⟩⟩;have hvl:S.length=ps.length:=rp.len;calc⟨_,Y,.inl ⟨Y,_,cP.of Q2⟩,_,Y,D,S,_,Y,Y,Q2,by rw[hvl,aW];lia,?_⟩;have hDn:H D=none:=s1.free nD;have sD:∀y ts,U y=some (.tup ts)->(upd U D<|.lst<|S++[.ref te]) y=some (.tup ts):= λy ts q=>by rw[aY<|gz q Q2<|by intro z;cases z];exact q
    have C2:(upd U D<|.lst<|S++[.ref te]) d=some (.dK kvs):=by rw[aY<|gz WW Q2<|by intro z;cases z];exact WW
    have gp:∃e',(ents g g.start)[m']? =some (p,e'):=YK tell.fst hw';let⟨e',ge'⟩:=gp;let⟨v',hv',q'⟩:=(ed'.kp sD).some (m:=m') end_ ge';have dg':sO (upd U D<|.lst<|S++[.ref te]) d (.int (p:Int))<|some v':=by
     have:=sO.k (k:=b8 (p:Int)) C2;rw[hv']at this;exact this
    calc⟨_,Y,_,Y,te,_,_,_,Y,Y,oS.of<|sD _ _ hte,cJ (j:=0) Y,d,_,Y,dg',?_⟩;calc⟨m',lt,v',m',p,e',w',S++[.ref te],ps++[(p,kk)],Y,Y,λb o q=>by rw[aY<|bg q hDn];exact sm b o q,C2,ed'.kp sD,aq,fE.snoc ⟨te,Y,sD _ _ hte⟩<|rp.mono<|by rintro v p ⟨y,e,q⟩;exact⟨y,e,sD _ _ q⟩,by rw[ak,aI];lia,ge',q',hw',?_⟩;rw[ew,e2,mH];simp
  .rw[ed.none c];rw[ef]at c;rw[Sk c]at k;exact oh (k L s1)
inductive aa7 (a:g9) (S:List V) (H:Hp) (Q:VK) (rq:XK):Prop
 |mk (l m:O) (x y:Nat) (g:bF) (A:O->Prop) (k0:S=[.ref l,.ref m]) (k1:lJ a A H l g.states) (k2:H m=some (.lst (iN [x,y]))) (k3:x<g.states.length) (k4:y<g.states.length) (k5:g.states.length<=64) (k6:Valid g) (k7:(∀s,(g.branches s).length<=8)) (k8:∀U,aN H U->Q (.bl (!vL g x y)) U)
theorem Fd(T:Txt K mg a):jM P w K mg base 4 a "share_a_state" ["states","sides"]<|aa7 a:=by
 refine T.BS.fn.ok vp ?_ ?_
 .right
 .ext⟨l,m,x,y,g,A',rfl,hS,hm,hx,hy,NF,va,Ti,k⟩;have nd:=vp.nd;refine⟨_,aj (pK (i:=2) nd Y (M7 Y)<|c8 T.yG (tu T) hr.mn<|aD (J 0)<|bM<|dj ck (J 1) bR λ_ _=>rfl)<|aF<|bq<|cy (ac6 Y) 'r' T.gB 'd'<|bM<|tD (own:=[("number",3)]) Y nd (gc<|c8 T.yG (tu T) hr.mn<|aD (J 0)<|bM<|dj ck (J 1) bR λ_ _=>rfl) (gq 'r') (λ_ _ _ _ _=>(xX 3 nd)) (λ_ _ _ _ _=>iF) λ_ _ _ _ _=>pR (aeh (K:=K) Y) (J 3) (J 2)<|by with_unfolding_all rfl,?_⟩
  left
  calc⟨_,Y,_,Y,m,_,_,_,Y,Y,cP.of hm,cJ (j:=1) Y,l,y,g,A',Y,hS,hy,NF,va,Ti,λd2 H2 s2 n2 C2=>?_⟩;have rl:(g.reach x).length<=64:=bH (GM.pS va hx) NF;have fin:∀D H4,aN H H4->H4 D=some (.lst<|((g.reach x).map λz=>(g.reach y).contains z).map V.bl)->aik K [.ref D] H4 Q:= λD H4 s4 hD=>by
   calc⟨D,_,Y,cP.of hD,?_⟩;have e:((g.reach x).map λz=>(g.reach y).contains z).any id= !vL g x y:=by
    unfold vL;rw[Ez,List.not_all_eq_any_not];congr 1;funext z;simp
   rw[e];exact k H4 s4
  calc⟨_,Y,_,Y,m,_,_,_,Y,Y,cP.of<|s2 _ _ hm,cJ (j:=0) Y,l,x,g,A',Y,hS.same s2,hx,NF,va,Ti,λd3 H3 s3 n3 Z5=>?_⟩;refine⟨d3,Y,⟨_,cP.of Z5⟩,λD nD=>HY (K:=K) (Pv:=Ab (λ_ j z _=>(((g.reach x).map λz=>(g.reach y).contains z).map V.bl)[j]? =some z) H3 D) (xs:=iN<|g.reach x) (lY nD) (λj H4 _ p=>cP.of<|p.same _ _ Z5) (λj z H4 hz p=>?_) λH4 p=>?_⟩
  .calc⟨qg,?_⟩;rw[aH]at hz;cases ez:(g.reach x)[j]?with
   |none=>rw[ez]at hz;cases hz
   |some c=>
   rw[ez]at hz;obtain rfl:=aL hz;have hjl:=(au.mp ez).1;calc⟨_,Y,_,Y,d2,_,Y,.inl<|cP.of<|p.same _ _<|s3 _ _ C2,Y,Mv _,?_⟩;show∃acc,_;rw[show(if false=true then !Jb (V.int (c:Int)) (iN<|g.reach y)else Jb (V.int (c:Int)) (iN<|g.reach y))=Jb (V.int (c:Int)) (iN<|g.reach y)from Y,NK];calc uR nD (λ_ _ _ _ _ h _=>h) p (aN.refl _) ?_ (by rw[aW];lia);rw[aH,aH,ez];rfl
  .have p':Ab (λ_ j z _=>(((g.reach x).map λz=>(g.reach y).contains z).map V.bl)[j]? =some z) H3 D (((g.reach x).map λz=>(g.reach y).contains z).map V.bl).length H4:=by
    rw[ai,ai];rw[ai]at p;exact p
   exact fin D H4 ((s2.trans s3).trans p.same) p'.vals
abbrev tx(b:bL):Str:=sw (nb b)
def zV(b:bL):(tx b).length=b.length:=by rw[ad0];exact gP b
def ae7(b c:bL):tx b++tx c=tx (b++c):=NB (by rw[FE];exact(bP ..).symm)
def Mw(sep:bL):∀xs:List bL,nb (joined sep xs)=Jf (nb sep) (xs.map nb)
 |[]=>rfl
 |[x]=>rfl
 |x::y::r=>by
  show nb (x++sep++joined sep (y::r))=nb x++(nb sep++Jf (nb sep) ((y::r).map nb));rw[←Mw sep (y::r),cC];unfold nb;rw[bP,bP]
def aab(sep:bL)(xs:List bL):wD (tx sep) (xs.map tx)=tx (joined sep xs):=by
 rw[join_eq];apply NB;rw[OG,dB];exact(Mw sep xs).symm
theorem NT(n:Nat):NR n=nb (K8 n):=by
 have h:=P7 n;unfold NR at h⊢;unfold nb K8;rw[dB];apply jQ;intro c hc;have:=h c.toNat<|iX hc;show c.toNat=(QV c.toNat).toNat;rw[UInt8.toNat_ofNat']
 lia
def str_int(i:Int):sA (toString i)=tx (mj i):=by
 apply NB;unfold mj;cases i with
 |ofNat n=>
  rw[az 's'];show tl (sA<|toString ((n:Nat):Int))=nb (K8 n);rw[YN,NT]
 |negSucc n=>
  rw[aG<|Int.negSucc_lt_zero n];show _=45::nb (K8<|n+1);rw[←NT,←YN,GZ,GZ];show(String.append "-"<|abu<|n+1).toList.map sG=45::(toString ((n+1:Nat):Int)).toList.map sG;rw[show(toString ((n+1:Nat):Int))=abu (n+1)from Y];show(("-"++abu (n+1):String)).toList.map sG=_;rw[String.toList_append,bP];rfl
def P8:∀(k n:Nat),n<10^(k+1)->(NR n).length<=k+1
 |0,n,h=>by rw[NS 'o'];simp
 |k+1,n,h=>by
  by_cases c:n<10
  .rw[NS c];simp
  .rw[Mx 'o',ak];have:=P8 k (n/10) (by rw[Nat.pow_succ]at h;omega);simp;omega
def GS(h:n<=1000000000):(K8 n).length<=10:=by
 rw[←gP,←NT];exact P8 9 n 'o'
theorem zR{i:Int}(h: -1000000000<=i)(h':i<=1000000000):(mj i).length<=11:=by
 unfold mj;have:=GS (n:=i.natAbs) 'l';split
 .rw[ay];lia
 .lia
theorem lQ{sep:bL}{m:Nat}:∀{xs:List bL},(∀x∈xs,x.length<=m)->(joined sep xs).length<=xs.length*(m+sep.length)
 |[],_=>by simp[joined]
 |[x],h=>by
  have:=h x 's';show x.length<=1*(m+sep.length)
  lia
 |x::y::r,h=>by
  have G:=h x 's';have h2:=lQ (sep:=sep) (xs:=y::r) λz hz=>h z<|aV _ hz;show(x++sep++joined sep (y::r)).length<=(r.length+1+1)*(m+sep.length);rw[ak,ak,QK];rw[ay]at h2
  lia
def Ur{m:Nat}:∀{xs:List bL},(∀x∈xs,x.length<=m)->((xs.map tx).map (·.length)).sum<=xs.length*m
 |[],_=>'s'
 |x::r,h=>by
  have G:=h x 's';have h2:=Ur (xs:=r) λz hz=>h z<|aV _ hz;rw[bK,bK,gS,ay,QK,zV];omega
theorem BU{r:qN}(h:GM.okR r):(uG r).length<=40:=by
 cases r with
 |flag=>decide
 |num lo hi=>
  let⟨⟨G,h2⟩,h3,h4⟩:=h;have a:=zR G h2;have b:=zR h3 h4;show(word "num "++mj lo++[32]++mj hi).length<=40;rw[ak,ak,ak,show(word "num ").length=4 from Y,aI]
  lia
 |text k=>
  have h:k<=255:=h;have a:=GS (n:=k) 'l';show(word "text "++K8 k).length<=40;rw[ak,show(word "text ").length=5 from Y]
  lia
inductive Yx (S:List V) (H:Hp) (Q:VK) (rq:XK):Prop
 |mk (v r:_) (k0:S=[v]) (k1:mw H v r) (k2:GM.okR r) (k3:∀U,aN H U->Q (.str (tx (uG r))) U)
inductive VC (a:g9) (S:List V) (H:Hp) (Q:VK) (rq:XK):Prop
 |mk (v u:V) (g:bF) (hs:List Nat) (A:O->Prop) (k0:S=[v,u]) (k1:jX a A H v g) (k2:kI A H u hs) (k3:(∀h∈hs,h<g.seats.length)) (k4:hs.length<=2) (k5:(∀s∈g.seats,s.length<=16)) (k6:∀U,aN H U->Q (.str (tx (if hs=[]then []else [91]++joined (word ", ") (hs.map g.seatName)++[93]))) U)
def rJoin(K:aJ):V->List V->Hp->VK->Prop:= λx xs H Q=>∃a p,∃ys:List Str,x= .str a/\xs=[.ref p]/\(cP K H p (ys.map V.str)∨oS K H p (ys.map V.str))/\(ys.map (·.length)).sum+ys.length*a.length<=16777216/\Q (.str<|wD a ys) H
def mO{X:Cx}{K:aJ}{o e:Expr}{to te:TE}(eK:X.K=K){kh pos:Pos}(ho:PE X o to)(he:PE X e te)(hs:starEach [e] X.env=[(false,eval e X.env)]:=by rfl)(rK:attributeBase o "join" X.env (eval o X.env)=eval o X.env:=by rfl)(rL:(kh.endLine==pos.line)=true:=by rfl):PE X (.Call (.Attribute o "join" kh) [e] [] pos)<|tM1 (rJoin K) to te:=by
 subst eK;exact T6 ho he hs rK rL
def yz(e:X.K=K):IxR X<|aaK K:=e▸ck
abbrev aiq:List V->Hp->VK->Prop:= λxs H Q=>∃i,xs=[.int i]/\i.natAbs.log2<1920/\Q (.str<|toString i) H
theorem jC{p:O}(sep:bL)(xs:List bL)(m:Nat)(hp:H p=some (.lst<|xs.map λb=>V.str<|tx b))(hm:∀x∈xs,x.length<=m)(hz:xs.length*(m+sep.length)<=16777216)(k:Q (.str<|tx<|joined sep xs) H):rJoin K (.str<|tx sep) [.ref p] H Q:=by
 refine⟨_,p,xs.map tx,Y,Y,.inl<|cP.of<|by rw[dB];exact hp,?_,?_⟩
 .have:=Ur hm;rw[ai,zV];rw[Nat.mul_add]at hz
  lia
 .rw[aab];exact k
theorem WL(v:V)(xs:List V):uO (v::xs) (some 1) none=xs:=by
 unfold uO;have e1:HT.pM (v::xs).length 0 (some 1)=1:=by
  refine(HT.oz _ 0 1).trans ?_;rw[ay]
  lia
 have e2:HT.pM (v::xs).length (v::xs).length none=(v::xs).length:=rfl;rw[e1,e2,List.drop_succ_cons,jW,ay,Nat.add_sub_cancel,iC]
def aan(h:n<=1000000000):n.log2<1920:=by
 by_cases z:n=0
 .subst z;decide
 .exact(Nat.log2_lt z).mpr (V2 h<|bD (by decide:1000000000<2^30)<|SR 'd' 'd')
def VL:sA " "=tx [32]:='d'
theorem LC(T:Txt K mg a):jM P w K mg base 1 a "range_form" ["bounds"] Yx:=by
 refine T.J0.fn.ok BK ?_ ?_
 .right
 .ext⟨v,r,rfl,⟨x,rfl,hx⟩,ok,k⟩;have nd:=BK.nd;refine⟨_,aj (dZ (cu iU (dj pC (J 0) bR λ_ _=>rfl) (jh (0) T)<|dh _) (aF<|bq cQ) b9)<|aj (iy 1 nd<|rS (cu iU (dj pC (J 0) bR λ_ _=>rfl) (jh (1) T)<|dh _) cQ cQ)<|aF<|bq<|mO (K:=K) Y cQ<|fZ qx (cg<|bM<|J 1)<|tD (own:=[("number",2)]) Y nd (XU<|p5 aeE (J 0) (mU bR) Ib) (gq 'r') (λ_ _ _ _ _=>(xX 2 nd)) (λ_ _ _ _ _=>iF) λ_ _ _ _ _=>rB Nr 'r' T.gB 'd'<|bM<|J 2,?_⟩
  left
  have hk:r= .flag∨∃(c:Int) (is:List Int),rangeRow r=c::is/\(c=1∨c=2)/\is≠[]/\is.length<=2/\(∀i∈is,-1000000000<=i/\i<=1000000000)/\uG r=joined [32] ((if c=1 then word "num"else word "text")::is.map mj):=by
   cases r with
   |flag=>exact .inl Y
   |num lo hi=>
    let⟨⟨G,h2⟩,h3,h4⟩:=ok;refine .inr ⟨1,[lo,hi],Y,.inl Y,'s','s',λi hi=>?_,?_⟩
    .rcases aX.mp hi with rfl|hi
     .exact⟨G,h2⟩
     .rcases aX.mp hi with rfl|hi
      .exact⟨h3,h4⟩
      .cases hi
    .show word "num "++mj lo++[32]++mj hi=word "num"++[32]++(mj lo++[32]++mj hi);rw[show word "num "=word "num"++[32]by decide];simp
   |text n=>
    have ok:n<=255:=ok;refine .inr ⟨2,[(n:Int)],Y,.inr Y,'s','s',λi hi=>?_,?_⟩
    .rw[cA.mp hi];lia
    .show word "text "++K8 n=word "text"++[32]++mj (n:Int);rw[show word "text "=word "text"++[32]by decide];unfold mj;rw[az 'l'];rfl
  rcases hk with rfl|⟨c,is,er,hc,Lw,Tn,hb,es⟩
  .calc⟨_,Y,x,_,_,_,Y,Y,oS.of hx,cJ (j:=0) Y,Y,_,Y,oh ?_⟩;exact k H (aN.refl _)
  .rw[er,bK]at hx;have fin:∀wd:bL,wd.length<=4->uG r=joined [32] (wd::is.map mj)->tM1 (rJoin K) (tC<|.str " ") (Ox aeu (ae3<|gf (gF 1) m9)<|KL (adK K<|tSl (aip K) (gF 0) (Qx<|tC<|.int 1) Ut) (ic 2) AM (tCB aiq<|gf (gF 2) m9) [2]) [some<|.ref x,some<|.str<|tx wd,none] H Q:=by
    intro wd h4 es;calc⟨⟨_,Y⟩,⟨_,Y,jH 1,λD0 n0=>?_⟩⟩;have s0:aN H<|upd H D0<|.lst [.str<|tx wd]:=aN.new n0;refine aak (xs:=is.map V.int) (ys:=is.map λi=>V.str<|tx<|mj i) (λR r=>?_) (by rw[ai,ai]) (by rw[ai,aW];lia) (λj y H2 hy s2 R r=>?_) λD H2 nD s2 hD=>?_
    .refine⟨_,Y,⟨1,Y,x,_,Y,oS.of<|s0 _ _ hx,?_,λp np=>?_⟩⟩
     .rintro ⟨z,_⟩;have z:=(HT.oz _ 0 1).symm.trans z;rw[ay]at z
      lia
     .calc r p _ (aN.new np) ?_;rw[aq,WL]
    .rw[aH]at hy;cases ez:is[j]?with
     |none=>rw[ez]at hy;cases hy
     |some i=>
     rw[ez]at hy;obtain rfl:=aL hy;have:=hb i<|bf ez;refine⟨_,Y,i,Y,?_,r _ _ (aN.refl _) ?_⟩
     .exact aan 'l'
     .rw[aH,ez,gY,←str_int]
    .calc⟨D0,D,[.str<|tx wd],_,Y,Y,s2 _ _ aq,hD,by rw[ai,aW];simp;lia,λp np=>?_⟩;rw[show V.str " "=V.str (tx [32])from congrArg V.str VL];refine jC [32] (wd::is.map mj) 11 (by rw[bK,dB];exact aq) (λz hz=>?_) (by simp;lia) ?_
     .rcases aX.mp hz with rfl|hz
      .lia
      .let⟨i,hi,rfl⟩:=b6.mp hz;exact zR (hb i hi).1 (hb i hi).2
     .rw[←es];exact k _ ((s0.trans s2).trans (aN.new np))
   calc⟨_,Y,x,_,_,_,Y,Y,oS.of hx,cJ (j:=0) Y,Y,_,Y,o7 (by rcases hc with rfl|rfl<;>decide) ?_⟩;calc⟨_,Y,x,_,_,_,Y,Y,oS.of hx,cJ (j:=0) Y,Y,_,Y,?_⟩;rcases hc with rfl|rfl
   .calc oh ?_;exact fin (word "num") 'd' es
   .calc m7 ?_;exact fin (word "text") 'd' es
@[irreducible]def Bf:R2:= λx y H Q=>∃i j,x= .str i/\y= .str j/\i.length+j.length<=sizeLine/\Q (.str<|i++j) H
def qW:G9 X (binaryOp .Add) Bf:=by
 unfold Bf;exact Sd
def vN{x y:V}{b c:bL}(hx:x= .str (tx b))(hy:y= .str (tx c))(h:b.length+c.length<=16777216)(k:Q (.str<|tx<|b++c) H):Bf x y H Q:=by
 unfold Bf;exact⟨_,_,hx,hy,by rw[zV,zV,aW];exact h,by rw[ae7];exact k⟩
def ad1:V.str "["= .str (tx [91]):='d'
def ad7:V.str "]"= .str (tx [93]):='d'
def ad3:V.str "("= .str (tx [40]):='d'
def ad9:V.str ")"= .str (tx [41]):='d'
def E3:V.str " "= .str (tx [32]):='d'
def Xl:V.str ", "= .str (tx<|word ", "):='d'
def ad5:V.str ""= .str (tx []):='d'
def qe(h:GM.pV g):∀s∈g.seats,s.length<=16:=by
 intro s hs;rcases cN.mp hs with hs|hs
 .exact h.ps s hs
 .let⟨e,he,rfl⟩:=b6.mp hs;exact(h.es e he).1
def g7(h:∀s∈g.seats,s.length<=16)(x:Nat):(g.seatName x).length<=16:=by
 unfold bF.seatName;cases e:g.seats[x]?with
 |none=>simp
 |some s=>exact h s (bf e)
def Ar{x:Nat}(h:x<g.seats.length):UX (g.seats.map λb=>V.str<|sw<|nb b) (x:Int)=some (.str<|tx<|g.seatName x):=by
 calc cJ ?_;unfold bF.seatName;rw[aH,aK h];rfl
theorem Mq{hs:List Nat}(h:∀s∈g.seats,s.length<=16)(h2:hs.length<=2):(if hs=[]then []else [91]++joined (word ", ") (hs.map g.seatName)++[93]).length<=40:=by
 split
 .simp
 .have:=lQ (sep:=word ", ") (xs:=hs.map g.seatName) (m:=16) λx hx=>by
   let⟨i,_,rfl⟩:=b6.mp hx;exact g7 h i
  rw[ai,show(word ", ").length=2 from Y]at this;rw[ak,ak,aI,aI]
  lia
theorem J3{rs:List qN}(h:∀r∈rs,GM.okR r)(h4:rs.length<=4):(joined (word ", ")<|rs.map uG).length<=168:=by
 have:=lQ (sep:=word ", ") (xs:=rs.map uG) (m:=40) λx hx=>by
   let⟨i,hi,rfl⟩:=b6.mp hx;exact BU (h i hi)
 rw[ai,show(word ", ").length=2 from Y]at this
 lia
inductive VB (a:g9) (S:List V) (H:Hp) (Q:VK) (rq:XK):Prop
 |mk (v u:V) (g:bF) (b:jg) (A:O->Prop) (k0:S=[v,u]) (k1:jX a A H v g) (k2:oR a A H u b) (k3:GM.XD g b) (k4:b.to<g.states.length) (k5:GM.pV g) (k6:∀U,aN H U->Q (.str (tx (showBranch g b))) U)
theorem JH(T:Txt K mg a):jM P w K mg base 1 a "handed_form" ["script","handed"]<|VC a:=by
 refine T.F1.fn.ok zG ?_ ?_
 .right
 .ext⟨v,u,g,hs,A',rfl,hS,⟨l,rfl,cl,hl⟩,hin,h2,RG,k⟩;let⟨x,u3,u4,u6,rfl,hx,⟨l3,rfl,c3,CW⟩,_,_⟩:=hS;have nd:=zG.nd;refine⟨_,aj (dZ (cu iU (cy bQ 'r' T.gB bC<|bM<|J 1) bR<|dh _) (aF<|bq cQ) b9)<|aF<|bq<|fZ qW (fZ qW cQ<|mO (K:=K) Y cQ<|tD (own:=[("seat",2)]) Y nd (gc<|J 1) (gq 'r') (λ_ _ _ _ _=>(xX 2 nd)) (λ_ _ _ _ _=>iF) λ_ _ _ _ _=>dj (yz (K:=K) Y) (bE T.Script<|J 0) (J 2) λ_ _=>rfl) cQ,?_⟩
  left
  calc⟨_,Y,l,_,Y,.inl<|cP.of hl,Y,_,Y,?_⟩;cases hs with
  |nil=>exact oh (by rw[aG Y]at k;exact k H<|aN.refl _)
  |cons h0 hr0=>
   calc o7 (by rw[ai,ay];simp;lia) ?_;rw[az 's']at k;calc⟨⟨_,Y⟩,?_⟩;refine pY (xs:=iN<|h0::hr0) (ys:=(h0::hr0).map λi=>V.str<|tx<|g.seatName i) (λR r=>⟨_,Y,r _ _ (aN.refl _) hl⟩) (by rw[ai,ai]) (by rw[ai,aW];lia) (λj y H2 hy s2 R r=>?_) λD H2 nD s2 hD=>?_
   .rw[aH]at hy;cases ez:(h0::hr0)[j]?with
    |none=>rw[ez]at hy;cases hy
    |some i=>
    rw[ez]at hy;obtain rfl:=aL hy;calc⟨_,Y,x,_,_,Y,hx.same s2,Y,_,Y,l3,_,_,_,Y,Y,cP.of<|s2 _ _ CW,Ar<|hin i<|bf ez,r _ _ (aN.refl _) ?_⟩;rw[aH,ez,gY]
   .rw[show V.str ", "=V.str (tx<|word ", ")from Xl];have jl:(joined (word ", ")<|(h0::hr0).map g.seatName).length<=36:=by
     have:=lQ (sep:=word ", ") (xs:=(h0::hr0).map g.seatName) (m:=16) λx hx=>by
      let⟨i,_,rfl⟩:=b6.mp hx;exact g7 RG i
     rw[ai,show(word ", ").length=2 from Y]at this
     lia
    refine jC (word ", ") ((h0::hr0).map g.seatName) 16 (by rw[dB];exact hD) (λz hz=>?_) (by rw[ai,show(word ", ").length=2 from Y];lia) ?_
    .let⟨i,_,rfl⟩:=b6.mp hz;exact g7 RG i
    .calc vN ad1 Y (by rw[aI];lia) ?_;calc vN Y ad7 (by rw[ak,aI,aI];lia) ?_;exact k H2 s2
theorem JE(T:Txt K mg a):jM P w K mg base 2 a "branch_form" ["script","branch"]<|VB a:=by
 refine T.FT.fn.ok zE ?_ ?_
 .right
 .ext⟨v,u,g,b,A',rfl,hS,hB,Zn,hto,gd,k⟩;let⟨y,w2,w3,rfl,hy,⟨l2,u2,rfl,c2,Tn,al2⟩,hI⟩:=id hB;let⟨x,u3,u4,u6,rfl,hx,⟨l3,rfl,c3,CW⟩,_,A0⟩:=id hS;have nd:=zE.nd;refine⟨_,aj (iy 2 nd<|mO (K:=K) Y cQ<|tD (own:=[("bounds",3)]) Y nd (gc<|bE T.Branch<|J 1) (gq 'r') (λ_ _ _ _ _=>(xX 3 nd)) (λ_ _ _ _ _=>iF) λ_ _ _ _ _=>c8 T.J0 (LC T) hr.mn<|bM<|J 3)<|aj (iy 4 nd<|c8 T.F1 (JH T) hr.mn<|aD (J 0)<|bM<|bE T.Branch<|J 1)<|aj (iy 5 nd<|bE T.State<|dj ck (bE T.Script<|J 0) (bE T.Branch<|J 1) λ_ _=>rfl)<|aF<|bq<|fZ qW (fZ qW (fZ qW (fZ qW (fZ qW (fZ qW (bE T.Branch<|J 1) cQ)<|J 2) cQ)<|J 4) cQ)<|J 5,?_⟩
  left
  calc⟨⟨_,Y⟩,?_⟩;refine pY (xs:=u2) (ys:=b.ranges.map λr=>V.str<|tx<|uG r) (λR r=>⟨_,Y,y,_,_,Y,hy,Y,r _ _ (aN.refl _) Tn⟩) (by rw[ai,al2.len]) (by rw[al2.len,aW];have:=Zn.rl;lia) (λj z H2 hz s2 R r=>?_) λD H2 nD s2 hD=>?_
  .let⟨rg,hrg,q⟩:=al2.get' hz;let⟨t,rfl,ht⟩:=q;calc⟨_,Y,_,rg,Y,⟨t,Y,s2 _ _ ht⟩,Zn.rs rg<|bf hrg,λH3 s3=>r _ _ s3 ?_⟩;rw[aH,hrg,gY]
  .rw[show V.str ", "=V.str (tx<|word ", ")from Xl];have rl:=J3 Zn.rs Zn.rl;have RG:=qe gd;have hl:=Mq (g:=g) (hs:=b.hands) RG Zn.hl;refine jC (word ", ") (b.ranges.map uG) 40 (by rw[dB];exact hD) (λz hz=>?_) (by rw[ai,show(word ", ").length=2 from Y];have:=Zn.rl;lia) ?_
   .let⟨i,hi,rfl⟩:=b6.mp hz;exact BU (Zn.rs i hi)
   .refine⟨_,Y,_,Y,y,_,_,Y,hy.same s2,Y,_,_,g,b.hands,A',Y,hS.same s2,?_,Zn.hs,Zn.hl,RG,λH3 s3=>?_⟩
    .let⟨l4,rfl,c4,V9⟩:=hI;exact⟨l4,Y,c4,s2 _ _ V9⟩
    .have s23:=s2.trans s3;let⟨l6,w6,rfl,c6,qD,qQ⟩:=A0;have Vd:lJ a A' H3 l6 g.states:=lJ.same ⟨w6,qD,qQ⟩ s23;let⟨us,sv,PK,Mr,⟨z,_,_,_,rfl,hz,_⟩⟩:=Vd.at hto;calc⟨_,Y,x,_,_,Y,hx.same s23,Y,_,Y,y,_,_,Y,hy.same s23,Y,l6,_,_,_,Y,Y,cP.of PK,Mr,z,_,_,Y,hz,Y,?_⟩;calc⟨_,Y,y,_,_,Y,hy.same s23,Y,?_⟩;have lb:=Zn.lb;have sn:=gd.sn b.to;show Bf (.str<|tx b.label) (.str "(") H3 _;calc vN Y ad3 (by rw[aI];lia) ?_;calc⟨_,Y,?_⟩;show Bf _ _ H3 _;calc vN Y Y (by rw[ak,aI];lia) ?_;show Bf _ (.str ")") H3 _;calc vN Y ad9 (by simp only[ak,aI];lia) ?_;calc⟨_,Y,?_⟩;show Bf _ _ H3 _;calc vN Y Y (by simp only[ak,aI];lia) ?_;show Bf _ (.str " ") H3 _;calc vN Y E3 (by simp only[ak,aI];lia) ?_;calc⟨_,Y,?_⟩;show Bf _ _ H3 _;calc vN Y Y (by simp only[ak,aI];lia) ?_;exact k H3 s23
def Xm:V.str "seat"= .str (tx<|word "seat"):='d'
def ad6:V.str "of"= .str (tx<|word "of"):='d'
def RP:V.str "="= .str (tx<|word "="):='d'
def aam:V.str "end"= .str (tx<|word "end"):='d'
def Xk:V.str "both"= .str (tx<|word "both"):='d'
def aea:V.str "->"= .str (tx<|word "->"):='d'
def ad2:V.str "{"= .str (tx<|word "{"):='d'
def ad8:V.str "}"= .str (tx<|word "}"):='d'
def Xn:V.str " ; "= .str (tx<|word " ; "):='d'
noncomputable def qd(g:bF)(e:bL×Nat):bL:=word "seat "++e.1++word " of "++g.parties[e.2]?.getD []
def kU(g:bF)(s:bL×kP):bL:=s.1++word " = "++QW g s.2
inductive aa4 (a:g9) (S:List V) (H:Hp) (Q:VK) (rq:XK):Prop
 |mk (v:V) (g:bF) (j:Nat) (e:bL×Nat) (A:O->Prop) (k0:S=[v,.int ((g.parties.length+j:Nat):Int)]) (k1:jX a A H v g) (k2:GM.pV g) (k3:g.extras[j]? =some e) (k4:∀U,aN H U->Q (.str (tx (qd g e))) U)
inductive YA (a:g9) (S:List V) (H:Hp) (Q:VK) (rq:XK):Prop
 |mk (v u:V) (g:bF) (i:Nat) (A:O->Prop) (k0:S=[v,u]) (k1:jX a A H v g) (k2:nY a A H u (g.stateName i,g.node i)) (k3:i<g.states.length) (k4:GM.pV g) (k5:∀U,aN H U->Q (.str (tx (kU g (g.stateName i,g.node i)))) U)
theorem Su{e:bL×Nat}(h:g.extras[j]? =some e):g.parties.length+j<g.seats.length/\g.seatName (g.parties.length+j)=e.1:=by
 have hj:=(au.mp h).1;unfold bF.seatName bF.seats;constructor
 .rw[ak,ai];lia
 .rw[dM 'l',nU,aH,h];rfl
def Kv{x:Nat}(h:x<g.parties.length):x<g.seats.length/\g.seatName x=g.parties[x]?.getD []:=by
 unfold bF.seatName bF.seats;constructor
 .rw[ak];omega
 .rw[bX h]
def NH{e:bL×Nat}(h:g.extras[j]? =some e):(holdersOf g)[g.parties.length+j]? =some e.2:=by
 unfold holdersOf;rw[dM<|by rw[eG];omega,eG,nU,aH,h];rfl
def N2(T:Txt K mg a):jM P w K mg base 1 a "seat_form" ["script","seat"]<|aa4 a:=by
 refine T.MQ.fn.ok Eb ?_ ?_
 .right
 .ext⟨v,g,j,e,A',rfl,hS,gd,he,k⟩;let⟨x,u3,u4,u6,rfl,hx,⟨l3,rfl,c3,CW⟩,⟨l4,rfl,c4,V9⟩,_⟩:=hS;have nd:=Eb.nd;refine⟨_,aF<|bq<|mO (K:=K) Y cQ<|cg<|aD cQ<|aD (dj ck (bE T.Script<|J 0) (J 1) λ_ _=>rfl)<|aD cQ<|bM<|dj ck (bE T.Script<|J 0) (dj ck (bE T.Script<|J 0) (J 1) λ_ _=>rfl) λ_ _=>rfl,?_⟩
  left
  let⟨e1,e2⟩:=Su he;have ee:=gd.es e<|bf he;let⟨p1,p2⟩:=Kv (g:=g) ee.2;calc⟨⟨_,Y⟩,_,Y,x,_,_,Y,hx,Y,_,Y,l3,_,_,_,Y,Y,cP.of CW,Ar e1,_,Y,x,_,_,Y,hx,Y,_,Y,x,_,_,Y,hx,Y,_,Y,l4,_,_,_,Y,Y,cP.of V9,Tu<|NH he,l3,_,_,_,Y,Y,cP.of CW,Ar p1,jH 4,λD nD=>?_⟩;rw[show V.str " "=V.str (tx [32])from E3];have RG:=qe gd;refine jC [32] [word "seat",g.seatName<|g.parties.length+j,word "of",g.seatName e.2] 16 (by rw[aq,Xm,ad6];rfl) (λz hz=>?_) 's' ?_
  .simp only[aX,iB,B7]at hz;rcases hz with rfl|rfl|rfl|rfl
   .decide
   .exact g7 RG _
   .decide
   .exact g7 RG _
  .have:joined [32] [word "seat",g.seatName<|g.parties.length+j,word "of",g.seatName e.2]=qd g e:=by
    rw[e2,p2];show word "seat"++[32]++(e.1++[32]++(word "of"++[32]++(g.parties[e.2]?.getD [])))=word "seat "++e.1++word " of "++(g.parties[e.2]?.getD []);rw[show word "seat "=word "seat"++[32]by decide,show word " of "=[32]++word "of"++[32]by decide];simp
   rw[this];exact k _ (aN.new nD)
def aN.put{o:HO}(s:aN H L)(n:H D=none):aN H<|upd L D o:= λb q e=>by rw[aY<|bg e n];exact s b q e
theorem Cd{b:jg}(gd:GM.pV g)(ok:GM.XD g b):(showBranch g b).length<=260:=by
 have r:=J3 ok.rs ok.rl;have h:=Mq (g:=g) (hs:=b.hands) (qe gd) ok.hl;have l:=ok.lb;have s:=gd.sn b.to;unfold showBranch;simp only[ak,aI]at*
 lia
theorem LF(T:Txt K mg a):jM P w K mg base 3 a "state_form" ["script","state"]<|YA a:=by
 refine T.KG.fn.ok BP ?_ ?_
 .right
 .ext⟨v,u,g,i,A',rfl,hS,hU,hi,gd,k⟩;let⟨y,w3,w4,w5,rfl,hy,⟨m3,rfl,d3,I0⟩,⟨m4,rfl,d4,Va⟩,⟨m5,MZ,rfl,d5,hm5,t9⟩⟩:=id hU;let⟨x,u3,u4,u6,rfl,hx,⟨l3,rfl,c3,CW⟩,_,⟨l6,xE,rfl,c6,qD,qQ⟩⟩:=id hS;have nd:=BP.nd;refine⟨_,aj (iy 2 nd<|cg<|aD (bE T.State<|J 1)<|bM cQ)<|aj (dZ (cu iU (bE T.State<|J 1) (jh (0) T)<|dh _) (aF<|bV<|gR aM bh bw d9 (J 2)<|bM cQ)<|aF<|dZ (cu iU (bE T.State<|J 1) (jh (2) T)<|dh _) (aj (bV<|gR aM bh bw d9 (J 2)<|bM cQ)<|aF<|bV<|gR aM cz cW kR (J 2)<|bM<|tD (own:=[("side",3)]) Y nd (gc<|bE T.State<|J 1) (gq 'r') (λ_ _ _ _ _=>(xX 3 nd)) (λ_ _ _ _ _=>iF) λ_ _ _ _ _=>bE T.State<|dj (yz (K:=K) Y) (bE T.Script<|J 0) (J 3) λ_ _=>rfl)<|aj (iy 4 nd<|mO (K:=K) Y cQ<|tD (own:=[("branch",5)]) Y nd (gc<|bE T.State<|J 1) (gq 'r') (λ_ _ _ _ _=>(xX 5 nd)) (λ_ _ _ _ _=>iF) λ_ _ _ _ _=>c8 T.FT (JE T) hr.mn<|aD (J 0)<|bM<|J 5)<|aF<|bV<|gR aM cz cW kR (J 2)<|bM<|cg<|aD (dj ck (bE T.Script<|J 0) (dj ck (bE T.State<|J 1) bR λ_ _=>rfl) λ_ _=>rfl)<|aD cQ<|aD (dj ck (bE T.Script<|J 0) (dj ck (bE T.State<|J 1) bR λ_ _=>rfl) λ_ _=>rfl)<|aD cQ<|aD (J 4)<|bM cQ)<|aF<|bq<|mO (K:=K) Y cQ<|J 2,?_⟩
  left
  calc⟨_,Y,y,_,_,Y,hy,Y,jH 2,λD nD=>?_⟩;have sD:aN H<|upd H D<|.lst [.str<|sw<|nb<|g.stateName i,.str "="]:=aN.new nD;have hD:(upd H D<|.lst [.str<|sw<|nb<|g.stateName i,.str "="]) D=some (.lst [.str<|sw<|nb<|g.stateName i,.str "="]):=aq;generalize upd H D (.lst [.str<|sw<|nb<|g.stateName i,.str "="])=L at sD hD⊢;have sn:=gd.sn i;calc⟨_,Y,y,_,_,Y,hy.same sD,Y,Y,_,Y,?_⟩;cases en:g.node i with
  |fin=>
   rw[en]at k;calc oh ⟨_,Y,.inl ⟨Y,_,cP.of hD⟩,D,_,_,Y,Y,hD,by show 2<sizeLine;decide,?_⟩;calc⟨⟨_,Y⟩,_,Y,?_⟩;rw[show V.str " "=V.str (tx [32])from E3];refine jC [32] [g.stateName i,word "=",word "end"] 16 (by rw[aq,RP,aam];rfl) (λz hz=>?_) 's' ?_
   .simp only[aX,iB,B7]at hz;rcases hz with rfl|rfl|rfl
    .exact sn
    .decide
    .decide
   .have:joined [32] [g.stateName i,word "=",word "end"]=kU g (g.stateName i,.fin):=by
     show g.stateName i++[32]++(word "="++[32]++word "end")=g.stateName i++word " = "++word "end";rw[show word " = "=[32]++word "="++[32]by decide];simp
    rw[this];exact k _ (aN.put sD nD)
  |both s t=>
   rw[en]at k Va;have hs:s<g.states.length:=gd.val i s (by unfold bF.targets;rw[en];simp);have ht:t<g.states.length:=gd.val i t (by unfold bF.targets;rw[en];simp);calc m7 ⟨_,Y,y,_,_,Y,hy.same sD,Y,Y,_,Y,?_⟩;rw[en];calc oh ⟨_,Y,.inl ⟨Y,_,cP.of hD⟩,D,_,_,Y,Y,hD,by show 2<sizeLine;decide,?_⟩;calc⟨_,Y,.inl ⟨Y,_,cP.of aq⟩,?_⟩;have s2:aN H<|upd L D<|.lst<|[.str<|sw<|nb<|g.stateName i,.str "="]++[.str "both"]:=aN.put sD nD;have pP:(upd L D<|.lst<|[.str<|sw<|nb<|g.stateName i,.str "="]++[.str "both"]) D=some (.lst<|[.str<|sw<|nb<|g.stateName i,.str "="]++[.str "both"]):=aq;generalize upd L D (.lst<|[.str<|sw<|nb<|g.stateName i,.str "="]++[.str "both"])=H2 at s2 pP⊢;refine pY (xs:=iN [s,t]) (ys:=[V.str<|tx<|g.stateName s,V.str<|tx<|g.stateName t]) (λR r=>⟨_,Y,y,_,_,Y,hy.same s2,Y,r _ _ (aN.refl _)<|s2 _ _ Va⟩) Y (jH 2) (λj z H3 hz s3 R r=>?_) λD2 H3 Vo s3 Df=>?_
   .have:∃n,n<g.states.length/\z= .int (n:Int)/\[V.str<|tx<|g.stateName s,V.str<|tx<|g.stateName t][j]? =some (V.str<|tx<|g.stateName n):=by
     match j,hz with
     |0,hz=>exact⟨s,hs,(aL hz).symm,Y⟩
     |1,hz=>exact⟨t,ht,(aL hz).symm,Y⟩
     |j+2,hz=>simp at hz
    let⟨n,hn,rfl,en'⟩:=this;have A0:lJ a A' H3 l6 g.states:=lJ.same ⟨xE,qD,qQ⟩<|s2.trans s3;let⟨us,sv,PK,Mr,⟨z,_,_,_,rfl,hz,_⟩⟩:=A0.at hn;exact⟨_,Y,x,_,_,Y,hx.same<|s2.trans s3,Y,_,Y,l6,_,_,_,Y,Y,cP.of PK,Mr,z,_,_,Y,hz,Y,r _ _ (aN.refl _) en'⟩
   .have hD4:=s3 _ _ pP;calc⟨D,D2,_,_,Y,Y,hD4,Df,jH 5,?_⟩;calc⟨⟨_,Y⟩,_,Y,?_⟩;rw[show V.str " "=V.str (tx [32])from E3];refine jC [32] [g.stateName i,word "=",word "both",g.stateName s,g.stateName t] 16 (by rw[aq,RP,Xk];rfl) (λz hz=>?_) 's' ?_
    .simp only[aX,iB,B7]at hz;rcases hz with rfl|rfl|rfl|rfl|rfl
     .exact sn
     .decide
     .decide
     .exact gd.sn s
     .exact gd.sn t
    .have:joined [32] [g.stateName i,word "=",word "both",g.stateName s,g.stateName t]=kU g (g.stateName i,.both s t):=by
      show g.stateName i++[32]++(word "="++[32]++(word "both"++[32]++(g.stateName s++[32]++g.stateName t)))=g.stateName i++word " = "++(word "both "++g.stateName s++[32]++g.stateName t);rw[show word " = "=[32]++word "="++[32]by decide,show word "both "=word "both"++[32]by decide];simp
     rw[this];exact k _ (aN.put (s2.trans s3) nD)
  |talk p q bs=>
   rw[en]at k I0 t9;let⟨hp,hq,hb8,hbs⟩:=gd.nd i p q bs en;have t9:fE (oR a A' H) MZ bs:=t9;calc m7 ⟨_,Y,y,_,_,Y,hy.same sD,Y,Y,_,Y,?_⟩;rw[en];calc m7 ⟨⟨_,Y⟩,?_⟩;refine pY (xs:=MZ) (ys:=bs.map λb=>V.str<|tx<|showBranch g b) (λR r=>⟨_,Y,y,_,_,Y,hy.same sD,Y,r _ _ (aN.refl _)<|sD _ _ hm5⟩) (by rw[ai,t9.len]) (by rw[t9.len,aW];lia) (λj z H3 hz s3 R r=>?_) λD2 H3 Vo s3 Df=>?_
   .let⟨b,hb,qb⟩:=t9.get' hz;have mb:=bf hb;refine⟨_,Y,_,Y,_,_,g,b,A',Y,hS.same<|sD.trans s3,qb.same<|sD.trans s3,hbs b mb,gd.val i b.to ?_,gd,λH4 s4=>r _ _ s4 ?_⟩
    .unfold bF.targets;rw[en];exact iX mb
    .rw[aH,hb,gY]
   .rw[show V.str " ; "=V.str (tx<|word " ; ")from Xn];have bl:=lQ (sep:=word " ; ") (xs:=bs.map<|showBranch g) (m:=260) λz hz=>by
     let⟨b,mb,rfl⟩:=b6.mp hz;exact Cd gd (hbs b mb)
    rw[ai,show(word " ; ").length=3 from Y]at bl;refine jC (word " ; ") (bs.map<|showBranch g) 260 (by rw[dB];exact Df) (λz hz=>?_) (by rw[ai,show(word " ; ").length=3 from Y];lia) ?_
    .let⟨b,mb,rfl⟩:=b6.mp hz;exact Cd gd (hbs b mb)
    have Aq:=sD.trans s3;have hD4:=s3 _ _ hD;calc⟨_,Y,.inl ⟨Y,_,cP.of hD4⟩,_,Y,x,_,_,Y,hx.same Aq,Y,_,Y,y,_,_,Y,hy.same Aq,Y,m3,_,_,_,Y,Y,cP.of<|Aq _ _ I0,cJ (j:=0) Y,l3,_,_,_,Y,Y,cP.of<|Aq _ _ CW,Ar hp,_,Y,x,_,_,Y,hx.same Aq,Y,_,Y,y,_,_,Y,hy.same Aq,Y,m3,_,_,_,Y,Y,cP.of<|Aq _ _ I0,cJ (j:=1) Y,l3,_,_,_,Y,Y,cP.of<|Aq _ _ CW,Ar hq,_,Y,jH 6,λD5 n5=>?_⟩;have ne5:D≠D5:=bg hD4 n5;calc⟨D,D5,_,_,Y,Y,by rw[aY ne5];exact hD4,aq,by show 8<=sizeLine;decide,?_⟩;calc⟨⟨_,Y⟩,_,Y,?_⟩;rw[show V.str " "=V.str (tx [32])from E3];have RG:=qe gd;refine jC [32] [g.stateName i,word "=",g.seatName p,word "->",g.seatName q,word "{",joined (word " ; ")<|bs.map<|showBranch g,word "}"] 3000 (by rw[aq,RP,aea,ad2,ad8];rfl) (λz hz=>?_) 's' ?_
    .simp only[aX,iB,B7]at hz;have a1:=g7 RG p;have a2:=g7 RG q;rcases hz with rfl|rfl|rfl|rfl|rfl|rfl|rfl|rfl
     .lia
     .decide
     .lia
     .decide
     .lia
     .decide
     .lia
     .decide
    .have:joined [32] [g.stateName i,word "=",g.seatName p,word "->",g.seatName q,word "{",joined (word " ; ")<|bs.map<|showBranch g,word "}"]=kU g (g.stateName i,.talk p q bs):=by
      show g.stateName i++[32]++(word "="++[32]++(g.seatName p++[32]++(word "->"++[32]++(g.seatName q++[32]++(word "{"++[32]++(joined (word " ; ") (bs.map<|showBranch g)++[32]++word "}"))))))=g.stateName i++word " = "++(g.seatName p++word " -> "++g.seatName q++word " { "++joined (word " ; ") (bs.map<|showBranch g)++word " }");rw[show word " = "=[32]++word "="++[32]by decide,show word " -> "=[32]++word "->"++[32]by decide,show word " { "=[32]++word "{"++[32]by decide,show word " }"=[32]++word "}"by decide];simp
     rw[this];exact k _ (aN.put (Aq.trans<|aN.new n5) nD)
def RQ:V.str "script"= .str (tx<|word "script"):='d'
def PZ:V.str "parties"= .str (tx<|word "parties"):='d'
def Vm:V.str "start"= .str (tx<|word "start"):='d'
def ad4:V.str "\n"= .str (tx [10]):='d'
noncomputable def rN(g:bF):List bL:=[joined [32] [word "script",g.title],joined [32]<|word "parties"::g.parties]
noncomputable def qw(g:bF):List bL:=rN g++g.extras.map (qd g)
noncomputable def rO(g:bF):List bL:=qw g++[joined [32] [word "start",g.stateName g.start]]
noncomputable def linesOf(g:bF):List bL:=rO g++g.states.map (kU g)
def Jg:∀xs:List bL,joined [] xs=xs.flatten
 |[]=>rfl
 |[x]=>by simp[joined]
 |x::y::r=>by
  show x++[]++joined [] (y::r)=(x::y::r).flatten;rw[Jg<|y::r];simp
def PR(sep x:bL):∀{xs:List bL},xs≠[]->joined sep (x::xs)=x++sep++joined sep xs
 |[],h=>absurd Y h
 |_::_,_=>rfl
def F8(h:g.parties≠[]):joined [] ((linesOf g).map (·++[10]))=g.shown:=by
 rw[Jg];unfold linesOf rO qw rN bF.shown;rw[PR _ _ h,show word "script "=word "script"++[32]by decide,show word "parties "=word "parties"++[32]by decide,show word "start "=word "start"++[32]by decide];simp only[bP,bK,mh,List.flatten_append,List.flatten_cons,List.flatten_nil,dB,List.flatMap_def,joined,cC,cV,aoG,qd,kU]
theorem Om(gd:GM.pV g){e:bL×Nat}(he:e∈g.extras):(qd g e).length<=3000:=by
 have ee:=gd.es e he;have:=g7 (qe gd) e.2;rw[(Kv ee.2).2]at this;unfold qd;simp only[ak,show(word "seat ").length=5 from Y,show(word " of ").length=4 from Y]
 lia
theorem LO(gd:GM.pV g)(i:Nat):(kU g (g.stateName i,g.node i)).length<=3000:=by
 have sn:=gd.sn i;have RG:=qe gd;unfold kU;cases en:g.node i with
 |fin=>
  show(g.stateName i++word " = "++word "end").length<=3000;simp only[ak,show(word " = ").length=3 from Y,show(word "end").length=3 from Y]
  lia
 |both s t=>
  have a1:=gd.sn s;have a2:=gd.sn t;show(g.stateName i++word " = "++(word "both "++g.stateName s++[32]++g.stateName t)).length<=3000;simp only[ak,show(word " = ").length=3 from Y,show(word "both ").length=5 from Y,aI]
  lia
 |talk p q bs=>
  let⟨hp,hq,hb8,hbs⟩:=gd.nd i p q bs en;have a1:=g7 RG p;have a2:=g7 RG q;have bl:=lQ (sep:=word " ; ") (xs:=bs.map<|showBranch g) (m:=260) λz hz=>by
   let⟨b,mb,rfl⟩:=b6.mp hz;exact Cd gd (hbs b mb)
  rw[ai,show(word " ; ").length=3 from Y]at bl;show(g.stateName i++word " = "++(g.seatName p++word " -> "++g.seatName q++word " { "++joined (word " ; ") (bs.map<|showBranch g)++word " }")).length<=3000;simp only[ak,show(word " = ").length=3 from Y,show(word " -> ").length=4 from Y,show(word " { ").length=3 from Y,show(word " }").length=2 from Y]
  lia
theorem Qh(gd:GM.pV g):(joined [32]<|word "parties"::g.parties).length<=3000:=by
 have:=lQ (sep:=[32]) (xs:=word "parties"::g.parties) (m:=16) λz hz=>by
  rcases aX.mp hz with rfl|hz
  .decide
  .exact gd.ps z hz
 have pl:=gd.pl;rw[ay,aI]at this
 lia
theorem E2(gd:GM.pV g):∀z∈linesOf g,z.length<=3000:=by
 intro z hz;unfold linesOf rO qw rN at hz;have ti:=gd.ti;have sn:=gd.sn g.start;simp only[cN,aX,iB,B7,b6]at hz;rcases hz with(((rfl|rfl)|⟨e,he,rfl⟩)|rfl)|⟨s,hs,rfl⟩
 .show(word "script"++[32]++g.title).length<=3000;simp only[ak,show(word "script").length=6 from Y,aI]
  lia
 .exact Qh gd
 .exact Om gd he
 .show(word "start"++[32]++g.stateName g.start).length<=3000;simp only[ak,show(word "start").length=5 from Y,aI]
  lia
 .let⟨i,hi,rfl⟩:=rj hs;rw[GM.oE hi];exact LO gd i
theorem yD(gd:GM.pV g):(linesOf g).length<=100:=by
 have a1:=gd.el;have a2:=gd.sl;unfold linesOf rO qw rN;simp only[ak,ai,ay,kW]
 lia
inductive aeN (a:g9) (S:List V) (H:Hp) (Q:VK) (rq:XK):Prop
 |mk (v:V) (g:bF) (A:O->Prop) (k0:S=[v]) (k1:jX a A H v g) (k2:GM.pV g) (k3:g.parties≠[]) (k4:∀U,aN H U->Q (.str (tx g.shown)) U)
abbrev vT(xs:List bL):List V:=xs.map λb=>V.str (tx b)
theorem Pb:uO (g.seats.map λb=>V.str<|sw<|nb b) none (some (g.parties.length:Int))=vT g.parties:=by
 unfold uO;rw[HT.J7,HT.oz,jW,afb,ai,←qh];unfold bF.seats;rw[ak,iW 'l',AD]
theorem Gi(T:Txt K mg a):jM P w K mg base 4 a "one_form" ["script"]<|aeN a:=by
 refine T.JQ.fn.ok GQ ?_ ?_
 .right
 .ext⟨v,g,A',rfl,hS,gd,hp,k⟩;let⟨x,u3,u4,u6,rfl,hx,⟨l3,rfl,c3,CW⟩,_,⟨l6,xE,rfl,c6,qD,qQ⟩⟩:=id hS;have nd:=GQ.nd;calc⟨_,@aj _ _ _ _ _ (@pK _ _ 1 _ _ _ _ nd Y (ji Y) (@cg _ _ _ _<|@aD _ _ _ _ _ (@mO _ K _ _ _ _ Y _ _ cQ (cg<|aD cQ<|bM<|bE T.Script<|J 0) Y Y Y) iI Y) Y (by first|exact .inl rfl|exact .inr rfl)) (@aj _ _ _ _ _ (@bV _ _ _ _ (@gR _ _ _ _ _ _ _ _ _ _ _ _ aM bh bw d9 (J 1) (@aD _ _ _ _ _ (@mO _ K _ _ _ _ Y _ _ cQ (fZ qx (cg (bM cQ)) (p5 wm (bE T.Script (J 0)) Ib (mU (bE T.Script (J 0))))) Y Y Y) iI Y) Y Y Y Y Y) Y) (@aj _ _ _ _ _ (bV (gR aM cz cW kR (J 1) (bM (tD (own:=[("seat",2)]) Y nd (Vv 'r' T.gB (aD (bE T.Script (J 0)) (bM (cy bQ 'r' T.gB bC (bM (bE T.Script (J 0))))))) (gq 'r') (λ_ _ _ _ _=>(xX 2 nd)) (λ_ _ _ _ _=>iF) λ_ _ _ _ _=>c8 T.MQ (N2 T) hr.mn<|aD (J 0)<|bM<|J 2))))<|@aj _ _ _ _ _ (@bV _ _ _ _ (@gR _ _ _ _ _ _ _ _ _ _ _ _ aM bh bw d9 (J 1) (@aD _ _ _ _ _ (@mO _ K _ _ _ _ Y _ _ cQ (cg<|aD cQ<|bM<|bE T.State<|dj ck (bE T.Script<|J 0) (bE T.Script<|J 0) λ_ _=>rfl) Y Y Y) iI Y) Y Y Y Y Y) Y)<|@aj _ _ _ _ _ (bV<|gR aM cz cW kR (J 1)<|bM<|tD (own:=[("state",3)]) Y nd (gc<|bE T.Script<|J 0) (gq 'r') (λ_ _ _ _ _=>(xX 3 nd)) (λ_ _ _ _ _=>iF) λ_ _ _ _ _=>c8 T.KG (LF T) hr.mn<|aD (J 0)<|bM<|J 3)<|@aF _ _ _<|@bq _ _ _ _<|@mO _ K _ _ _ _ Y _ _ cQ (tD (own:=[("line",4)]) Y nd (gc<|J 1) (gq 'r') (λ_ _ _ _ _=>(xX 4 nd)) (λ_ _ _ _ _=>iF) λ_ _ _ _ _=>fZ qW (J 4) cQ) Y Y Y)),?_⟩;have ti:=gd.ti;have ex:=gd.el;have sl:=gd.sl;have pl:=gd.pl;calc⟨⟨_,Y⟩,_,Y,x,_,_,Y,hx,Y,jH 2,λD0 n0=>?_⟩;rw[show V.str " "=V.str (tx [32])from E3];refine jC [32] [word "script",g.title] 16 (by rw[aq,RQ];rfl) (λz hz=>?_) 's' ?_
  .simp only[aX,iB,B7]at hz;rcases hz with rfl|rfl
   .decide
   .exact ti
  have s0:aN H<|upd H D0<|.lst [V.str "script",.str<|sw<|nb g.title]:=aN.new n0;generalize upd H D0 (.lst [V.str "script",.str<|sw<|nb g.title])=H0 at s0⊢;calc⟨jH 1,λD nD=>?_⟩;have fD:H D=none:=s0.free nD;have s1:aN H<|upd H0 D<|.lst [V.str<|tx<|joined [32] [word "script",g.title]]:=aN.put s0 fD;have hD:(upd H0 D<|.lst [V.str<|tx<|joined [32] [word "script",g.title]]) D=some (.lst [V.str<|tx<|joined [32] [word "script",g.title]]):=aq;calc⟨_,Y,.inl ⟨Y,_,cP.of hD⟩,?_⟩;generalize upd H0 D (.lst [V.str<|tx<|joined [32] [word "script",g.title]])=L at s1 hD⊢;calc⟨⟨_,Y⟩,jH 1,λD1 n1=>?_⟩;have s2:aN L<|upd L D1<|.lst [V.str "parties"]:=aN.new n1;have IW:(upd L D1<|.lst [V.str "parties"]) D1=some (.lst [V.str "parties"]):=aq;generalize upd L D1 (.lst [V.str "parties"])=H2 at s2 IW⊢;have AI:=s1.trans s2;calc⟨_,Y,x,_,_,Y,hx.same AI,Y,_,Y,x,_,_,Y,hx.same AI,Y,_,Y,l3,_,Y,cP.of<|AI _ _ CW,λD2 n2=>?_⟩;rw[Pb];have s3:aN H2<|upd H2 D2<|.lst<|vT g.parties:=aN.new n2;calc⟨D1,D2,_,_,Y,Y,s3 _ _ IW,aq,by rw[ai,aI,aW];lia,λD3 n3=>?_⟩;generalize upd H2 D2 (.lst<|vT g.parties)=H3 at s3 n3⊢;have s4:aN H3<|upd H3 D3<|.lst<|[V.str "parties"]++vT g.parties:=aN.new n3;refine jC [32] (word "parties"::g.parties) 16 (by rw[aq,PZ];rfl) (λz hz=>?_) (by rw[ay,aI];lia) ?_
  .rcases aX.mp hz with rfl|hz
   .decide
   .exact gd.ps z hz
  have Q7:=(s2.trans s3).trans s4;generalize upd H3 D3 (.lst<|[V.str "parties"]++vT g.parties)=H4 at s4 Q7⊢;calc⟨D,_,_,Y,Y,Q7 _ _ hD,by show 1<sizeLine;decide,?_⟩;have s5:aN H<|upd H4 D<|.lst<|vT<|rN g:=aN.put (s1.trans Q7) fD;have hD5:(upd H4 D<|.lst<|vT<|rN g) D=some (.lst<|vT<|rN g):=aq;rw[show [V.str<|tx<|joined [32] [word "script",g.title]]++[V.str<|tx<|joined [32]<|word "parties"::g.parties]=vT (rN g)from Y];generalize upd H4 D (.lst<|vT<|rN g)=H5 at s5 hD5⊢;calc⟨_,Y,.inl ⟨Y,_,cP.of hD5⟩,?_⟩;have aiA:g.seats.length=g.parties.length+g.extras.length:=by unfold bF.seats;rw[ak,ai]
  refine Vk (L:=H5) (lo:=(g.parties.length:Int)) (n0:=g.extras.length) (ys:=vT<|g.extras.map<|qd g) (λR r=>?_) (by rw[ai,ai]) (by rw[aW];lia) (λj H6 hj s6 R r=>?_) λD6 H6 n6 s6 hD6=>?_
  .refine⟨_,Y,x,_,_,Y,hx.same s5,Y,_,Y,x,_,_,Y,hx.same s5,Y,l3,_,Y,.inl<|cP.of<|s5 _ _ CW,_,_,Y,?_,?_⟩
   .rw[ai,aiA];lia
   .rw[ai,aiA,show((g.parties.length+g.extras.length:Nat):Int)-(g.parties.length:Int)=((g.extras.length:Nat):Int)by lia,iR];exact r
  .have he:g.extras[j]? =some g.extras[j]:=aK hj;refine⟨_,Y,_,Y,_,g,j,g.extras[j],A',?_,hS.same<|s5.trans s6,gd,he,λH7 s7=>r _ _ s7 ?_⟩
   .rw[Int.natCast_add];rfl
   .rw[aH,aH,he];rfl
  have hD7:=s6 _ _ hD5;refine⟨D,D6,_,_,Y,Y,hD7,hD6,?_,?_⟩
  .rw[ai,ai,ai,show(rN g).length=2 from Y,aW];lia
  have s8:aN H<|upd H6 D<|.lst<|vT<|qw g:=aN.put (s5.trans s6) fD;have hD8:(upd H6 D<|.lst<|vT<|qw g) D=some (.lst<|vT<|qw g):=aq;rw[show vT (rN g)++vT (g.extras.map<|qd g)=vT (qw g)from bP.symm];generalize upd H6 D (.lst<|vT<|qw g)=H8 at s8 hD8⊢;have A0:lJ a A' H8 l6 g.states:=lJ.same ⟨xE,qD,qQ⟩ s8;let⟨us,sv,PK,Mr,⟨z,_,_,_,rfl,hz,_⟩⟩:=A0.at gd.st;calc⟨_,Y,.inl ⟨Y,_,cP.of hD8⟩,⟨_,Y⟩,_,Y,x,_,_,Y,hx.same s8,Y,_,Y,x,_,_,Y,hx.same s8,Y,l6,_,_,_,Y,Y,cP.of PK,Mr,z,_,_,Y,hz,Y,jH 2,λD9 n9=>?_⟩;refine jC [32] [word "start",g.stateName g.start] 16 (by rw[aq,Vm];rfl) (λz hz=>?_) 's' ?_
  .simp only[aX,iB,B7]at hz;rcases hz with rfl|rfl
   .decide
   .exact gd.sn g.start
  have s9:aN H8<|upd H8 D9<|.lst [V.str "start",.str<|sw<|nb<|g.stateName g.start]:=aN.new n9;generalize upd H8 D9 (.lst [V.str "start",.str<|sw<|nb<|g.stateName g.start])=H9 at s9⊢;have lB:(qw g).length<=100:=by
   have:=yD gd;unfold linesOf rO at this;rw[ak,ak]at this
   lia
  calc⟨D,_,_,Y,Y,s9 _ _ hD8,by rw[ai,aW];lia,?_⟩;have Wg:aN H<|upd H9 D<|.lst<|vT<|rO g:=aN.put (s8.trans s9) fD;have RH:(upd H9 D<|.lst<|vT<|rO g) D=some (.lst<|vT<|rO g):=aq;rw[show vT (qw g)++[V.str<|tx<|joined [32] [word "start",g.stateName g.start]]=vT (rO g)from(bP (f:= λb=>V.str<|tx b) (l₁:=qw g) (l₂:=[joined [32] [word "start",g.stateName g.start]])).symm];generalize upd H9 D (.lst<|vT<|rO g)=H10 at Wg RH⊢;calc⟨_,Y,.inl ⟨Y,_,cP.of RH⟩,?_⟩;refine pY (xs:=xE) (ys:=vT<|g.states.map<|kU g) (λR r=>⟨_,Y,x,_,_,Y,hx.same Wg,Y,r _ _ (aN.refl _)<|Wg _ _ qD⟩) (by rw[ai,ai,qQ.len]) (by rw[qQ.len,aW];lia) (λj z H11 hz Q6 R r=>?_) λD11 H11 RZ Q6 akN=>?_
  .let⟨b,hb,qb⟩:=qQ.get' hz;have hj:=(au.mp hb).1;have eb:b=(g.stateName j,g.node j):=by
    rw[←GM.oE hj];exact(aL<|(aK hj).symm.trans hb).symm
   subst eb;calc⟨_,Y,_,Y,_,_,g,j,A',Y,hS.same<|Wg.trans Q6,qb.same<|Wg.trans Q6,hj,gd,λH12 AI=>r _ _ AI ?_⟩;rw[aH,aH,hb];rfl
  have akO:=Q6 _ _ RH;have lC:=yD gd;refine⟨D,D11,_,_,Y,Y,akO,akN,?_,?_⟩
  .unfold linesOf at lC;rw[ak,ai]at lC;rw[ai,ai,ai,aW];lia
  have Aq:aN H<|upd H11 D<|.lst<|vT<|linesOf g:=aN.put (Wg.trans Q6) fD;have ag8:(upd H11 D<|.lst<|vT<|linesOf g) D=some (.lst<|vT<|linesOf g):=aq;rw[show vT (rO g)++vT (g.states.map<|kU g)=vT (linesOf g)from bP.symm];generalize upd H11 D (.lst<|vT<|linesOf g)=H13 at Aq ag8⊢;calc⟨⟨_,Y⟩,?_⟩;refine pY (xs:=vT<|linesOf g) (ys:=vT ((linesOf g).map (·++[10]))) (λR r=>⟨_,Y,r _ _ (aN.refl _) ag8⟩) (by rw[ai,ai,ai]) (by rw[ai,aW];lia) (λj z H14 hz Q7 R r=>?_) λD14 H14 R1 Q7 akP=>?_
  .rw[aH]at hz;let⟨b,hb,rfl⟩:=cH.mp hz;have lb:=E2 gd b<|bf hb;calc⟨_,Y,?_⟩;calc vN Y ad4 (by rw[aI];lia)<|r _ _ (aN.refl _) ?_;rw[aH,aH,hb];rfl
  rw[show V.str ""=V.str (tx [])from ad5];refine jC [] ((linesOf g).map (·++[10])) 3001 akP (λz hz=>?_) (by rw[ai,kW];lia) ?_
  .let⟨b,mb,rfl⟩:=b6.mp hz;have:=E2 gd b mb;rw[ak,aI];lia
  rw[F8 hp];exact k _ (Aq.trans Q7)
theorem _root_.GM.aal:∀{n p:Nat} {b:bL} {l:cU},lex n p b= .ok l->l.length<=b.length+1:=by
 intro n;induction n with
 |zero=>intro p b l h;unfold lex at h;cases h;simp
 |succ n ih=>
  intro p b l h;cases b with
  |nil=>unfold lex at h;cases h;simp
  |cons c r=>
   unfold lex at h;split at h
   .have:=ih h;rw[ay];lia
   split at h
   .have:=ih h;have q:(r.dropWhile (· !=10)).length<=r.length:=(QI _).length_le;rw[ay];lia
   split at h
   .cases h
   .rename_i t k e;cases q:lex n (p+k) ((c::r).drop k)with
    |error f=>rw[q]at h;cases h
    |ok l'=>
     rw[q]at h;cases h;have:=ih q;have hk:=Scr.Ii e;rw[bN]at this;rw[ay]
     lia
def UT(a:g9)(H:Hp)(res:Except Fault Unit)(Q:VK)(E:XK):Prop:=match res with
 | .ok _=>∀U,aN H U->Q .gQ U
 | .error f=>t7 (a.c "Fault") E H f.code f.place
inductive aa8 (a:g9) (S:List V) (H:Hp) (Q:VK) (E:XK):Prop
 |mk (dv v:V) (w:Raw) (g:bF) (A:O->Prop) (k0:S=[dv,v]) (k1:ZJ a A H dv w) (k2:jX a A H v g) (k3:GM.pV g) (k4:g.states.length=w.states.length) (k5:UT a H (oY g 0 w.states) Q E)
inductive Sy (K:aJ) (a:g9) (S:List V) (H:Hp) (Q:VK) (E:XK):Prop
 |mk (l:O) (b:bL) (k0:S=[.ref l]) (k1:cP K H l (iv (nb b))) (k2:b.length<=100000) (k3:mK a H (gD b) (jX a λz=>H z=none) Q E)
theorem JF(T:Txt K mg a):yb P w K mg base 5 a "check_sides" ["draft","script"]<|aa8 a:=by
 refine Ak T.FU.fn zF ?_ ?_
 .right
 .ext⟨dv,v,w',g,A',rfl,hD,hS,gd,ln,k⟩;have nd:=zF.nd;refine⟨_,aF<|lS dG Y (DI 'r' T.gB<|bM<|bE T.Script<|J 1) (JV Y<|mP (xX 2 nd)<|mP (xX 3 nd) DH)<|aF<|dZ (Cy (cu iU (bE T.State<|J 3) (jh (2) T)<|dh _)<|An<|fX<|c8 T.BS (Fd T) hr.mn<|aD (bE T.Script<|J 1)<|bM<|bE T.State<|J 3).pt (aF<|kr T hr.mn<|aD (jh (11) T)<|bM<|bE T.Token<|bE T.gC<|dj ck (bE T.AV<|J 0) (J 2) λ_ _=>rfl) b9,?_⟩
  left
  let⟨x,u3,u4,u6,rfl,hx,h3,h4,⟨l6,xE,rfl,c6,qD,qQ⟩⟩:=id hS;let⟨y,w1,w2,w3,w4,w5,rfl,hy,q1,q2,q3,q4,⟨l5,MZ,rfl,c5,ET,t9⟩⟩:=id hD;have l56:xE.length=g.states.length:=qQ.len;refine⟨_,Y,x,_,_,Y,hx,Y,l6,_,Y,cP.of qD,Dc (K:=K) (a:=l6) (xs:=xE) (λi Z U=>∃(v v':Option V),Z=[some<|.ref y,some<|.ref x,v,v']/\aN H U/\UT a H (oY g i<|w'.states.drop i) Q E) ⟨none,none,Y,aN.refl _,k⟩ (λj Z H3 _ h=>let⟨_,_,_,sm,_⟩:=h;cP.of (sm _ _ qD)) ?_ ?_⟩
  .rintro i u Z U T' hu ⟨v,v',rfl,sm,k⟩ nT;have hi:i<g.states.length:=by rw[←l56];exact(au.mp hu).1
   let⟨b,hb,qb⟩:=qQ.get' hu;have eb:b=(g.stateName i,g.node i):=by
    rw[←GM.oE hi];exact(aL<|(aK hi).symm.trans hb).symm
   subst eb;obtain⟨p,ep⟩:∃p,w'.states[i]? =some p:=⟨_,aK 'l'⟩;have dr:w'.states.drop i=p::w'.states.drop (i+1):=by
    let⟨G,h2⟩:=au.mp ep;rw[bx G,h2]
   let⟨p1,p2⟩:=p;rw[dr,oY]at k;have sT:aN U<|upd U T'<|.tup [.int (i:Nat),u]:=aN.new nT;have pA:=sm.trans sT;generalize eH:upd U T' (.tup [.int (i:Nat),u])=H2 at sT pA;have hT:H2 T'=some (.tup [.int (i:Nat),u]):=by rw[←eH];exact aq
   let⟨z,v3,v4,v5,rfl,hz,g3,g4,g5⟩:=qb.same pA;let⟨m4,rfl,d4,Va⟩:=g4;calc⟨T',_,Y,oS.of hT,Y,_,_,Y,_,_,Y,Y,?_⟩;calc⟨_,Y,z,_,_,Y,hz,Y,Y,_,Y,?_⟩;have nx:sidesApart g i=true->∃(w w0:Option V),[some<|V.ref y,some<|V.ref x,some<|V.int (i:Nat),some<|V.ref z]=[some<|V.ref y,some<|V.ref x,w,w0]/\∀H3,aN H2 H3->(∃(v v':Option V),[some<|V.ref y,some<|V.ref x,some<|V.int (i:Nat),some<|V.ref z]=[some<|V.ref y,some<|V.ref x,v,v']/\aN H H3/\UT a H (oY g (i+1)<|w'.states.drop<|i+1) Q E):= λe=>by
    rw[aG e]at k;exact⟨_,_,Y,λH3 s3=>⟨_,_,Y,pA.trans s3,k⟩⟩
   cases en:g.node i with
   |fin=>
    have ap:sidesApart g i=true:=by unfold sidesApart;rw[en]
    let⟨_,_,_,f⟩:=nx ap;exact o7 (by show¬decide (V.int 0=V.int 2)=true;decide) (m7<|f H2<|aN.refl _)
   |talk p q bs=>
    have ap:sidesApart g i=true:=by unfold sidesApart;rw[en]
    let⟨_,_,_,f⟩:=nx ap;exact o7 (by show¬decide (V.int 1=V.int 2)=true;decide) (m7<|f H2<|aN.refl _)
   |both s t=>
    rw[en]at Va;have hs:s<g.states.length:=gd.val i s (by unfold bF.targets;rw[en];simp);have ht:t<g.states.length:=gd.val i t (by unfold bF.targets;rw[en];simp);have A0:lJ a A' H2 l6 g.states:=lJ.same ⟨xE,qD,qQ⟩ pA;calc qS (by show decide (V.int 2=V.int 2)=true;decide) ?_;calc⟨_,Y,x,_,_,Y,hx.same pA,Y,_,Y,z,_,_,Y,hz,Y,l6,m4,s,t,g,A',Y,A0,Va,hs,ht,gd.sl,gd.val,λs=>gd.br s,λH3 s3=>⟨_,Y,?_⟩⟩;have ea:sidesApart g i=vL g s t:=by unfold sidesApart;rw[en]
    cases ap:vL g s t with
    |true=>
     let⟨_,_,_,f⟩:=nx<|ea.trans ap;exact o7 'd' (f H3 s3)
    |false=>
     rw[ea,ap,az 'd']at k;let⟨v0,Zj,qv⟩:=t9.get ep;let⟨z',r1,r3,r4,rfl,hz',n1,_⟩:=qv;let⟨x',fs,rfl,Zk,hp',hv'⟩:=n1.tok;have s4:=pA.trans s3;calc qS 'd' ?_;refine⟨_,Y,y,_,_,Y,hy.same s4,Y,_,Y,l5,_,_,_,Y,Y,cP.of<|s4 _ _ ET,cJ Zj,z',_,_,Y,hz'.same s4,Y,x',_,_,Y,Zk.same s4,hp',_,_,Y,t7.at<|t7.same k s4⟩
  .rintro Z U ⟨v,v',rfl,sm,k⟩;rw[l56,ln,iA]at k;exact k _ sm
def RL.Uk{R:Hp->V->α->Prop}{xs:List α}(h:RL A R H v xs)(s:aN H U)(m:∀v x,R H v x->R U v x):RL A R U v xs:=let⟨l,S,e,al,hl,h⟩:=h;⟨l,S,e,al,s _ _ hl,h.mono m⟩
def ZJ.same{r:Raw}(h:ZJ a A H v r)(s:aN H U):ZJ a A U v r:=by
 let⟨x,u1,u2,u3,u4,u5,e,h,G,h2,h3,h4,h5⟩:=h;exact⟨x,u1,u2,u3,u4,u5,e,h.same s,G.same s,h2.Uk s λ_ _ h=>h.same s,h3.Uk s λ_ _ h=>h.same s,h4.same s,h5.Uk s λ_ _ h=>h.same s⟩
def UT.step{R:Hp->V->α->Prop}{res:Except Fault Unit}{g:Unit->Except Fault α}(k:mK a H0 (res>>=g) R Q E)(s:aN H0 H)(ho:∀L,res= .ok ()->aN H L->mK a H0 (g ()) R Q E->Q1 .gQ L):UT a H res Q1 E:=by
 cases res with
 |error f=>exact t7.same k s
 |ok x=>exactλL s1=>ho L Y s1 k
theorem DA(T:Txt K mg a):yb P w K mg base 13 a "script_of" ["text"]<|Sy K a:=by
 refine Ak T.Ft.fn Ea ?_ ?_
 .right
 .ext⟨l,b,rfl,hS,hb,k⟩;have nd:=Ea.nd;refine⟨_,aj (dZ (cu Gj (cy bQ 'r' T.gB bC<|bM<|J 0) (jh (4096) T)<|dh _) (aF<|kr T hr.mn<|aD (jh (1) T)<|bM<|jh (4096) T) b9)<|aj (iy 1 nd<|eB T.Pj (P9 T) hr.mn<|bM<|eB T.MY (N3 T) hr.mn<|bM<|J 0)<|aj (iy 2 nd<|eB T.zQ (DB T) hr.mn<|bM<|J 1)<|aj (bV<|eB T.FU (JF T) hr.mn<|aD (J 1)<|bM<|J 2)<|aj (dZ (cu Gj (cy vW 'r' T.gB bC<|bM<|c8 T.JQ (Gi T) hr.mn<|bM<|J 2) (jh (4096) T)<|dh _) (aF<|kr T hr.mn<|aD (jh (10) T)<|bM bR) b9)<|aF<|bq<|J 2,?_⟩
  left
  have lb:((iv<|nb b).length:Int)=(b.length:Int):=by rw[show(iv<|nb b).length=b.length by unfold iv nb;rw[ai,ai]]
  calc⟨_,Y,l,_,Y,.inl hS,_,_,Y,Y,_,Y,?_⟩;rw[lb];rw[GM.Uh]at k;unfold am4 at k;by_cases z:iP<b.length
  .rw[aG z]at k;calc qS (aR<|by unfold iP at z;lia) ?_;exact⟨_,_,Y,t7.at k⟩
  rw[az z]at k;calc o7 (dF<|by unfold iP at z;lia) ?_;have z:b.length<=4096:=by unfold iP at z;lia
  calc⟨_,Y,l,b,Y,hS,z,?_⟩;cases e1:HM (b.length+1) 0 b with
  |error f=>rw[e1]at k;exact k
  |ok ts=>
  rw[e1]at k;let⟨ot,oc,en⟩:=GM.Xh e1;have tl:=GM.aal e1;intro D rs L s1 nD hD al;calc⟨D,rs,ts,Y,hD,al,'l',en,oc,?_⟩;have k:mK a H (takeScript ts>>= λr=>named r>>= λg=>oY g 0 r.states>>= λ_=>if iP<g.shown.length then .error ⟨10,0⟩else .ok g) (jX a λz=>H z=none) Q E:=k;cases e2:takeScript ts with
  |error f=>rw[e2]at k;exact t7.same k s1
  |ok w'=>
  rw[e2]at k;intro dv H2 s2 hDr;have ow:=GM.BX ot e2;have AI:=s1.trans s2;have hDr:ZJ a (λz=>H z=none) H2 dv w':=by
   have fr:∀z,L z=none->H z=none:= λz n=>s1.free n;let⟨x,u1,u2,u3,u4,u5,e,h,G,h2,h3,h4,h5⟩:=hDr;exact⟨x,u1,u2,u3,u4,u5,e,h,G,h2.mono fr λ_ _ h=>h,h3.mono fr λ_ _ h=>h,h4,h5.mono fr λ_ _ h=>h.mono fr⟩
  have k:mK a H (named w'>>= λg=>oY g 0 w'.states>>= λ_=>if iP<g.shown.length then .error ⟨10,0⟩else .ok g) (jX a λz=>H z=none) Q E:=k;calc⟨_,Y,dv,w',_,Y,hDr,ow,λz n=>AI.free n,mK.step k AI λg v H3 e3 s3 hS3 k3=>?_⟩;let⟨g0,sn⟩:=GM.Jr ow e3;have ln:g.states.length=w'.states.length:= ~~~congrArg jc sn
  have pn:g.parties≠[]:=by
   rw[GM.Gd e3];intro h;exact GM.Qi e2 (SO.mp h)
  have Aq:=AI.trans s3;calc⟨_,Y,_,Y,dv,v,w',g,_,Y,ZJ.same hDr s3,hS3,g0,ln,UT.step k3 Aq λH4 e4 s4 k4=>?_⟩;have Q7:=Aq.trans s4;have s4':=Q7;calc⟨_,Y,v,g,_,Y,hS3.same s4,g0,pn,λH5 s5=>⟨_,Y,?_⟩⟩;have s15:=Q7.trans s5;have sl:g.shown.length<=16777216:=by
   rw[←F8 pn];have j:=lQ (sep:=[]) (xs:=(linesOf g).map (·++[10])) (m:=3001) λz hz=>by
    let⟨b,mb,rfl⟩:=b6.mp hz;have:=E2 g0 b mb;rw[ak,aI];lia
   have lc:=yD g0;rw[ai,kW]at j;have:(linesOf g).length*(3001+0)<=100*3001:=Nat.mul_le_mul_right _ lc
   lia
  calc⟨by rw[zV,aW];exact sl,_,_,Y,Y,_,Y,?_⟩;rw[zV];by_cases zs:iP<g.shown.length
  .rw[aG zs]at k4;calc qS (aR<|by unfold iP at zs;lia) ?_;exact⟨_,_,Y,t7.at<|t7.same k4 s15⟩
  .rw[az zs]at k4;calc o7 (dF<|by unfold iP at zs;lia) ?_;exact⟨_,Y,k4 _ _ s15<|hS3.same<|s4.trans s5⟩
inductive aba (a:g9) (S:List V) (H:Hp) (Q:VK) (rq:XK):Prop
 |mk (l:O) (first:Nat) (g:bF) (A:O->Prop) (k0:S=[.ref l,.int (first:Int)]) (k1:lJ a A H l g.states) (k2:first<g.states.length) (k3:g.states.length<=64) (k4:Valid g) (k5:Apart g) (k6:∀D U,aN H U->H D=none->U D=some (.lst (iN (g.opened first)))->Q (.ref D) U)
theorem Qv{g:bF}(v:Valid g):∀{l:List Nat},(∀x∈l,x<g.states.length)->l.length<=(l.map<|rank g).sum
 |[],_=>b7 _
 |x::r,h=>by
  have:=Qv v (l:=r) λy hy=>h y<|aV _ hy;have p:=GM.yY v<|h x<|bz ..;rw[bK,gS,ay]
  lia
theorem Vt(va:Valid g)(ap:Apart g){x:Nat}(hx:x<g.states.length):g.opened x=(if i8 (g.node x)=1 then [x]else [])++(eE<|g.node x).flatMap g.opened/\((eE<|g.node x).map (rank g)).sum+1<=rank g x/\(∀y∈eE (g.node x),y<g.states.length)/\(eE<|g.node x).length<=2:=by
 have rp:=GM.yY va hx;cases e:g.node x with
 |fin=>exact⟨by rw[GM.JR e];rfl,by show 0+1<=_;lia,by simp[eE],by simp[eE]⟩
 |talk p q bs=>exact⟨by rw[GM.Gm e];rfl,by show 0+1<=_;lia,by simp[eE],by simp[eE]⟩
 |both p q=>
  have r:=GM.Ao va ap hx e;let⟨G,h2⟩:=GM.Ac va e;refine⟨by rw[GM.Gk va ap hx e];show _=[]++([p,q].flatMap g.opened);simp,?_,?_,by simp[eE]⟩
  .show([p,q].map (rank g)).sum+1<=_;simp only[bK,mh,gS,acD]
   lia
  .intro y hy;have hy:y∈[p,q]:=hy;simp only[aX,iB,B7]at hy;rcases hy with rfl|rfl
   .exact G
   .exact h2
def vZ(xs ys:List Nat):iN (xs++ys)=iN xs++iN ys:=bP
theorem uV(T:Txt K mg a):jM P w K mg base 1 a "talks_come_to" ["states","first"]<|aba a:=by
 refine T.ur.fn.ok vt ?_ ?_
 .right
 .ext⟨l,first,g,A',rfl,hS,hf,NF,va,ap,k⟩;have nd:=vt.nd;refine⟨_,aj (iy 2 nd<|cg iI)<|aj (iy 3 nd<|cg<|bM<|J 1)<|aj (iV dN (cu Gj (cy bQ 'r' T.gB bC<|bM<|J 3) bR<|dh _)<|aj (iy 4 nd<|N7 aM qp wC RX<|J 3)<|aj (dZ (cu iU (bE T.State<|dj ck (J 0) (J 4) λ_ _=>rfl) (jh (1) T)<|dh _) (aF<|bV<|gR aM bh bw d9 (J 2)<|bM<|J 4) b9)<|aF<|bV<|gR aM cz cW kR (J 3)<|bM<|Sg Y 'r' T.gB 'r' T.gB<|bE T.State<|dj ck (J 0) (J 4) λ_ _=>rfl)<|aF<|bq<|J 2,?_⟩
  left
  have ol:(g.opened first).length<=64:=bH (GM.rA va ap (rank g first) first hf<|aT _).1.len NF;have rl:rank g first<=64:=bH (GM.pS va hf) NF
  calc⟨b7 _,λt nt=>?_⟩;have s0:aN H<|upd H t<|.lst []:=aN.new nt;calc⟨_,Y,jH 1,λm nm=>?_⟩;have s1:aN (upd H t<|.lst [])<|upd (upd H t<|.lst []) m<|.lst [.int (first:Int)]:=aN.new nm;have ht1:(upd (upd H t<|.lst []) m<|.lst [.int (first:Int)]) t=some (.lst<|iN []):=s1 _ _ aq;have hm1:(upd (upd H t<|.lst []) m<|.lst [.int (first:Int)]) m=some (.lst<|iN [first]):=aq;have nm0:H m=none:=s0.free nm;have tm:t≠m:= λe=>by rw[←e,aq]at nm;cases nm
  have s01:=s0.trans s1;generalize (upd (upd H t<|.lst []) m<|.lst [.int (first:Int)])=L at ht1 hm1 s01;calc oH (rank g first) (λi Z U=>X3 λ(v:Option V) (ts ws:List Nat)=>A7 (Z=[some<|.ref l,some<|.int (first:Int),some<|.ref t,some<|.ref m,v]) (aN H U) (U t=some (.lst<|iN ts)) (U m=some (.lst<|iN ws)) ((∀x∈ws,x<g.states.length)) (i+(ws.map<|rank g).sum<=rank g first)<|ts++ws.reverse.flatMap g.opened=g.opened first) 0 (b7 _) ⟨none,[],[first],Y,s01,ht1,hm1,~~~hf,'s','s'⟩ ?_;rintro i Z U hi ⟨v,ts,ws,rfl,sm,ht,hm,lt,me,eq⟩;calc⟨_,Y,m,_,Y,.inl<|cP.of hm,_,_,Y,Y,_,Y,?_⟩;rcases QJ ws with rfl|⟨W,x,rfl⟩
  .calc kK 'd' ?_;have e:ts=g.opened first:=by simpa using eq
   subst e;exact⟨_,Y,k t U sm nt ht⟩
  .rw[QH]at*;have hx:x<g.states.length:=lt x 's';let⟨o1,o2,o3,o4⟩:=Vt va ap hx;have wl:=Qv va (l:=W++[x]) lt;rw[ak,aI]at wl;have ml:(W.map<|rank g).sum+rank g x+i<=rank g first:=by
    rw[bP,Il,bK,mh,gS,acD]at me;lia
   have tl:ts.length<=64:=by
    have:=congrArg jc eq;rw[ak]at this
    lia
   calc oG (aR<|by rw[ai,ak,aI];lia) hi ?_;calc⟨_,Y,.inl ⟨Y,_,cP.of hm⟩,m,_,.int (x:Int),Y,Y,hm,by rw[vZ,ak];simp[iN],?_⟩;have edl:(iN<|W++[x]).dropLast=iN W:=by rw[vZ];exact qm
   rw[edl];have pA:aN H<|upd U m<|.lst<|iN W:=aN.put sm nm0;have ht2:(upd U m<|.lst<|iN W) t=some (.lst<|iN ts):=by rw[aY tm];exact ht
   have hm2:(upd U m<|.lst<|iN W) m=some (.lst<|iN W):=aq;generalize upd U m (.lst<|iN W)=H2 at pA ht2 hm2;let⟨us,u,hl,hu,⟨z,v3,v4,v5,rfl,hz,g3,⟨m4,rfl,d4,Va⟩,g5⟩⟩:=(hS.same pA).at hx;calc⟨_,Y,_,Y,l,_,_,_,Y,Y,cP.of hl,hu,z,_,_,Y,hz,Y,Y,_,Y,?_⟩;by_cases kd:i8 (g.node x)=1
   .calc qS (aR<|congrArg V.int kd) ?_;calc⟨_,Y,.inl ⟨Y,_,cP.of ht2⟩,_,Y,t,_,_,Y,Y,ht2,by rw[ai,aW];lia,?_⟩;have Kz:aN H<|upd H2 t<|.lst<|iN ts++[.int (x:Int)]:=aN.put pA nt;have Wb:(upd H2 t<|.lst<|iN ts++[.int (x:Int)]) t=some (.lst<|iN<|ts++[x]):=by rw[aq,vZ];rfl
    have I0:(upd H2 t<|.lst<|iN ts++[.int (x:Int)]) m=some (.lst<|iN W):=by rw[aY<|f6 tm];exact hm2
    generalize upd H2 t (.lst<|iN ts++[.int (x:Int)])=H3 at Kz Wb I0;let⟨us',u',hl',hu',⟨z',w3,w4,w5,rfl,hz',f3,⟨n4,rfl,e4,hn4⟩,f5⟩⟩:=(hS.same Kz).at hx;calc⟨_,Y,.inl ⟨Y,_,cP.of I0⟩,_,Y,_,Y,l,_,_,_,Y,Y,cP.of hl',hu',z',_,_,Y,hz',Y,n4,_,Y,hn4,λD2 n2=>?_⟩;have s4:aN H3<|upd H3 D2<|.lst (iN<|eE<|g.node x).reverse:=aN.new n2;calc⟨m,D2,_,_,Y,Y,s4 _ _ I0,aq,by rw[jP,ai,ai,aW];show W.length+(eE<|g.node x).length<=16777216;lia,?_⟩;have ht5:=s4 _ _ Wb;have VA:aN H<|upd (upd H3 D2<|.lst (iN<|eE<|g.node x).reverse) m<|.lst<|iN W++(iN<|eE<|g.node x).reverse:=aN.put (Kz.trans s4) nm0;refine⟨i+1,'l','l',_,ts++[x],W++(eE<|g.node x).reverse,Y,VA,by rw[aY tm];exact ht5,by rw[aq,vZ,iN,iN,vJ],?_,?_,?_⟩
    .intro y hy;rcases cN.mp hy with hy|hy
     .exact lt y (by simp[hy])
     .exact o3 y (Wk.mp hy)
    .rw[bP,Il,vJ,Wl];lia
    .rw[←eq,mH,mH,Rg,gX,OW,gX,kG,o1,aG kd];simp
   .calc o7 (dF λ(e:V.int (i8 (g.node x))=V.int 1)=>kd<|V.int.inj e) ?_;have Kz:=pA;have Wb:=ht2;have I0:=hm2;generalize H2=H3 at Kz Wb I0;let⟨us',u',hl',hu',⟨z',w3,w4,w5,rfl,hz',f3,⟨n4,rfl,e4,hn4⟩,f5⟩⟩:=(hS.same Kz).at hx;calc⟨_,Y,.inl ⟨Y,_,cP.of I0⟩,_,Y,_,Y,l,_,_,_,Y,Y,cP.of hl',hu',z',_,_,Y,hz',Y,n4,_,Y,hn4,λD2 n2=>?_⟩;have s4:aN H3<|upd H3 D2<|.lst (iN<|eE<|g.node x).reverse:=aN.new n2;calc⟨m,D2,_,_,Y,Y,s4 _ _ I0,aq,by rw[jP,ai,ai,aW];show W.length+(eE<|g.node x).length<=16777216;lia,?_⟩;have ht5:=s4 _ _ Wb;have VA:aN H<|upd (upd H3 D2<|.lst (iN<|eE<|g.node x).reverse) m<|.lst<|iN W++(iN<|eE<|g.node x).reverse:=aN.put (Kz.trans s4) nm0;refine⟨i+1,'l','l',_,ts,W++(eE<|g.node x).reverse,Y,VA,by rw[aY tm];exact ht5,by rw[aq,vZ,iN,iN,vJ],?_,?_,?_⟩
    .intro y hy;rcases cN.mp hy with hy|hy
     .exact lt y (by simp[hy])
     .exact o3 y (Wk.mp hy)
    .rw[bP,Il,vJ,Wl];lia
    .rw[←eq,mH,mH,Rg,gX,OW,gX,kG,o1,az kd];simp
def aiR(C:O)(sp:Sp)(t:TA):TE:= λZ H Q=>t Z H λS L=>∀x dx,L x=none->L dx=none->dx≠x->sp (.ref x::S) (upd (upd L dx<|.own x) x<|.ins C dx []) (λv H2=>v= .gQ/\Q (.ref x) H2) E0
def aeo{C:Str}{st:b5}{fs:List Str}{p pos:Pos}{t:TA}(T:Iw X.K X.mg a C q st ps fs)(atG:nQ X.prog X.w X.K X.mg X.base QX k (a.f q) (a.d q) ps sp)(hr:ia (k+1) X.A)(ha:PA X (e::es) t) (hg:Gl X C:=by rfl)(ER:(C==("__debug__":Str))=false:=by decide)(he:starEach (e::es) X.env=(false,eval e X.env)::starEach es X.env:=by rfl)(yc:(backTo pos<|starEach es X.env).any (·.1)=false:=by rfl):PE X (.Call (.Name C p) (e::es) [] pos)<|aiR (a.c C) sp t:=by
 intro aB s Z H Q I h;calc eV<|pQ I hg T.m ?_ ER;calc je (h₀:=X.base) I.ok.mod.kin T.mkr.kp (iz (ha pos aB s Z H _ I h) ?_) he yc;rintro us s1 ⟨S,L,I1,r,q⟩;calc⟨I1.Ag,?_⟩;calc DL (E:=E0) T.mkr atG hr T.b .nil Gn I1 r λx dx n1 n2 ne=>?_;rw[cV];exact q x dx n1 n2 ne
def agA(B:O->Prop)(ll le:O)(H:Hp)(ws:List V)(past:List<|List Nat):Prop:=fE (λv xs=>∃p,v= .ref p/\(p≠ll/\¬B p)/\p≠le/\H p=some (.lst<|iN xs)) ws past
inductive uM (a:g9) (B:O->Prop) (H:Hp) (x l ls ll le:O) (t:cZ) (past:List<|List Nat):Prop
 |mk (k0:At (a.c "Telling") H x [("states",.ref l),("standing",.ref ls),("log",.ref ll),("earlier",.ref le)]) (k1:H ls=some (.lst (iN t.at_))) (k2:ls≠ll/\¬B ls) (k3:ls≠le) (k4:ll≠le) (k5:∃us,H ll=some (.lst us)/\t8 H us t.log) (k6:∃ws,H le=some (.lst ws)/\agA B ll le H ws past)
def t8.kp{ps:List (Nat×Nat)}(h:t8 H S ps)(k:∀t ts,H t=some (.tup ts)->U t=some (.tup ts)):t8 U S ps:=fE.mono (by rintro _ _ ⟨t,e,q⟩;exact⟨t,e,k _ _ q⟩) h
def MB(g:bF)(atF:List Nat):List<|Nat×Nat:=atF.flatMap λs=>(g.branches s).zipIdx.map λb=>(s,b.2)
theorem aaz(g:bF)(s:Nat):(g.branches s).zipIdx.map (λb=>(s,b.2))=(fh (g.branches s).length).map λj=>(s,j):=by
 apply lK;intro j;rw[aH,aH,AA];by_cases h:j<(g.branches s).length
 .rw[aK h,B0 h];simp
 .rw[gu 'l',gu<|by rw[eG];lia];rfl
theorem Qg{g:bF}(hb:∀s,(g.branches s).length<=8):∀atF:List Nat,(MB g atF).length<=atF.length*8
 |[]=>b7 _
 |s::r=>by
  have:=Qg hb r;have h8:=hb s;unfold MB at this⊢;rw[gV,ak,ai,sJ,ay]
  lia
inductive VG (a:g9) (S:List V) (H:Hp) (Q:VK) (rq:XK):Prop
 |mk (x dx y l:O) (u1 u2 u3 u4:V) (g:bF) (A B:O->Prop) (k0:S=[.ref x,.ref y]) (k1:H x=some (.ins (a.c "Telling") dx [])) (k2:At (a.c "Script") H y [("title",u1),("party_count",u2),("seats",u3),("holders",u4),("start_state",.int (g.start:Int)),("states",.ref l)]) (k3:lJ a A H l g.states) (k4:A l) (k5:g.start<g.states.length) (k6:g.states.length<=64) (k7:Valid g) (k8:Apart g) (k9:(∀z,H z=none->¬B z)) (k10:∀ls ll le U,Sm x H U->H ls=none->H ll=none->H le=none->uM a B U x l ls ll le g.begun []->Q .gQ U)
def R7(T:Txt K mg a):jM P w K mg base 2 a "Telling.__init__" ["self","script"]<|VG a:=by
 refine T.Telling.fn.ok Hz ?_ ?_
 .right
 .ext⟨x,dx,y,l,u1,u2,u3,u4,g,A',B,rfl,hx,hy,⟨us,hl,al⟩,cl,hs,NF,va,ap,hB,k⟩;have C:=T.Telling;refine⟨_,aj (dP (J 0) (bE T.Script<|J 1) Y)<|aj (dP (J 0) (c8 T.ur (uV T) hr.mn<|aD (bE T.Script<|J 1)<|bM<|bE T.Script<|J 1) Y)<|aj (dP (J 0) (cg iI) Y)<|aF<|dP (J 0) (cg iI) Y,?_⟩
  left
  let⟨dy,hy⟩:=id hy;have stl:∀{U:Hp},Sm x H U->lJ a A' U l g.states/\At (a.c "Script") U y _:= λ{U} s=>by
   have kp:Kp a A' H U:=Kp.mut s hx<|R4 "Telling";refine⟨⟨us,kp.lst _ _ cl hl,al.mono λ_ _ q=>q.kp (T.ok "Branch") (T.ok "State") kp⟩,At.kp ⟨dy,hy⟩ (T.ok "Script") kp⟩
  calc⟨_,Y,y,_,_,Y,⟨dy,hy⟩,Y,_,Y,x,_,dx,_,Y,hx,C.cl,C.nO,'d',?_⟩;have s1:Sm x H<|upd H x<|.ins (a.c "Telling") dx<|jy "states" (.ref l) []:= λb o n q=>by rw[aY n];exact q
  have Wc:(upd H x<|.ins (a.c "Telling") dx<|jy "states" (.ref l) []) x=some (.ins (a.c "Telling") dx<|jy "states" (.ref l) []):=aq;generalize upd H x (.ins (a.c "Telling") dx<|jy "states" (.ref l) [])=L at s1 Wc⊢;let⟨st1,hy1⟩:=stl s1;calc⟨_,Y,y,_,_,Y,hy1,Y,_,Y,y,_,_,Y,hy1,Y,l,g.start,g,A',Y,st1,hs,NF,va,ap,λls H2 s2 n2 h2=>?_⟩;have OS:=s2 _ _ Wc;calc⟨_,Y,x,_,dx,_,Y,OS,C.cl,C.nO,vv 1,?_⟩;have xls:ls≠x:= λe=>by rw[e,Wc]at n2;cases n2
  have s3:Sm x H<|upd H2 x<|.ins (a.c "Telling") dx<|jy "standing" (.ref ls)<|jy "states" (.ref l) []:= λb o n q=>by rw[aY n];exact s2 _ _ (s1 b o n q)
  have F3:(upd H2 x<|.ins (a.c "Telling") dx<|jy "standing" (.ref ls)<|jy "states" (.ref l) []) x=some (.ins (a.c "Telling") dx [("states",.ref l),("standing",.ref ls)]):=by rw[aq];rfl
  have CW:(upd H2 x<|.ins (a.c "Telling") dx<|jy "standing" (.ref ls)<|jy "states" (.ref l) []) ls=some (.lst<|iN<|g.opened g.start):=by rw[aY xls];exact h2
  generalize upd H2 x (.ins (a.c "Telling") dx<|jy "standing" (.ref ls)<|jy "states" (.ref l) [])=H3 at s3 F3 CW⊢;calc⟨b7 _,λll n4=>?_⟩;have s4:aN H3<|upd H3 ll<|.lst []:=aN.new n4;calc⟨_,Y,x,_,dx,_,Y,s4 _ _ F3,C.cl,C.nO,vv 2,?_⟩;have xll:ll≠x:= λe=>by rw[e,F3]at n4;cases n4
  have al9:ls≠ll:= λe=>by rw[←e,CW]at n4;cases n4
  have s5:Sm x H<|upd (upd H3 ll<|.lst []) x<|.ins (a.c "Telling") dx<|jy "log" (.ref ll) [("states",.ref l),("standing",.ref ls)]:= λb o n q=>by rw[aY n];exact s4 _ _ (s3 b o n q)
  have hx5:(upd (upd H3 ll<|.lst []) x<|.ins (a.c "Telling") dx<|jy "log" (.ref ll) [("states",.ref l),("standing",.ref ls)]) x=some (.ins (a.c "Telling") dx [("states",.ref l),("standing",.ref ls),("log",.ref ll)]):=by rw[aq];rfl
  have ET:(upd (upd H3 ll<|.lst []) x<|.ins (a.c "Telling") dx<|jy "log" (.ref ll) [("states",.ref l),("standing",.ref ls)]) ls=some (.lst<|iN<|g.opened g.start):=by rw[aY xls];exact s4 _ _ CW
  have hk5:(upd (upd H3 ll<|.lst []) x<|.ins (a.c "Telling") dx<|jy "log" (.ref ll) [("states",.ref l),("standing",.ref ls)]) ll=some (.lst []):=by rw[aY xll];exact aq
  generalize upd (upd H3 ll<|.lst []) x (.ins (a.c "Telling") dx<|jy "log" (.ref ll) [("states",.ref l),("standing",.ref ls)])=H5 at s5 hx5 ET hk5⊢;calc⟨b7 _,λle n6=>?_⟩;have s6:aN H5<|upd H5 le<|.lst []:=aN.new n6;calc⟨_,Y,x,_,dx,_,Y,s6 _ _ hx5,C.cl,C.nO,vv 3,?_⟩;have xle:le≠x:= λe=>by rw[e,hx5]at n6;cases n6
  have al8:ls≠le:= λe=>by rw[←e,ET]at n6;cases n6
  have al0:ll≠le:= λe=>by rw[←e,hk5]at n6;cases n6
  have s7:Sm x H<|upd (upd H5 le<|.lst []) x<|.ins (a.c "Telling") dx<|jy "earlier" (.ref le) [("states",.ref l),("standing",.ref ls),("log",.ref ll)]:= λb o n q=>by rw[aY n];exact s6 _ _ (s5 b o n q)
  have fz:∀{U:Hp} {z:O},Sm x H U->z≠x->U z=none->H z=none:= λ{U z} s n q=>by
   cases e:H z with
   |none=>rfl
   |some o=>rw[s z o n e]at q;cases q
  refine k ls ll le _ s7 (fz s1 xls n2) (fz s3 xll n4) (fz s5 xle n6) ⟨⟨dx,by rw[aq];rfl⟩,?_,⟨al9,hB _<|fz s1 xls n2⟩,al8,al0,⟨[],?_,.nil⟩,⟨[],?_,.nil⟩⟩
  .rw[aY xls];exact s6 _ _ ET
  .rw[aY xll];exact s6 _ _ hk5
  .rw[aY xle];exact aq
inductive aeO (a:g9) (S:List V) (H:Hp) (Q:VK) (rq:XK):Prop
 |mk (x l ls ll le:O) (t:cZ) (past:List (List Nat:_)) (g:bF) (A B:O->Prop) (k0:S=[.ref x]) (k1:uM a B H x l ls ll le t past) (k2:lJ a A H l g.states) (k3:(∀s∈t.at_,s<g.states.length)) (k4:t.at_.length<=64) (k5:(∀s,(g.branches s).length<=8)) (k6:∀D us U,aN H U->H D=none->U D=some (.lst us)->t8 U us (bY g t)->Q (.ref D) U)
def yr(g:bF)(i:Nat):Ex (g.node i)=g.branches i:=by unfold Ex bF.branches;cases g.node i<;>rfl
theorem jm(T:Txt K mg a):jM P w K mg base 1 a "Telling.options" ["self"]<|aeO a:=by
 refine T.jB.fn.ok r6 ?_ ?_
 .right
 .ext⟨x,l,ls,ll,le,t,past,g,A',B,rfl,hT,hS,xU,NF,Ti,k⟩;have nd:=r6.nd;refine⟨_,aj (iy 1 nd<|cg iI)<|aj (lS dN Y (gc<|bE T.Telling<|J 0) (wk (i:=2) nd Y<|M7 Y)<|aF<|bV<|gR aM cz cW kR (J 1)<|bM<|tD (own:=[("branch",3)]) Y nd (Fi 'r' T.gB<|bM<|cy bQ 'r' T.gB bC<|bM<|bE T.State<|dj ck (bE T.Telling<|J 0) (J 2) λ_ _=>rfl) (gq 'r') (λ_ _ _ _ _=>(xX 3 nd)) (λ_ _ _ _ _=>iF) λ_ _ _ _ _=>mC<|aD (J 2)<|bM<|J 3)<|aF<|bq<|J 1,?_⟩
  left
  obtain⟨hx,Lc,n1,n2,n3,-,-⟩:=id hT;calc⟨b7 _,λD nD=>?_⟩;have s1:aN H<|upd H D<|.lst []:=aN.new nD;have IW:(upd H D<|.lst []) D=some (.lst []):=aq;generalize upd H D (.lst [])=L at s1 IW⊢;have ol:=Qg Ti;refine⟨_,Y,x,_,_,Y,hx.same s1,Y,ls,Y,⟨_,cP.of<|s1 _ _ Lc⟩,mL (K:=K) (a:=ls) (xs:=iN t.at_) (λi Z U=>X3 λ(v v':Option V) (us:List V)=>A4 (Z=[some<|.ref x,some<|.ref D,v,v']) (aN H U) (U D=some (.lst us))<|t8 U us<|MB g<|t.at_.take i) ⟨none,none,[],Y,s1,IW,.nil⟩ (by rintro i Z U _ ⟨_,_,_,_,sm,_⟩;exact cP.of<|sm _ _ Lc) ?_ ?_⟩
  .rintro i y Z U hi ⟨v,v',us,rfl,sm,hD,rp⟩;rw[aH]at hi;let⟨b,hb,rfl⟩:=cH.mp hi;have hbl:=xU b<|bf hb;have Lm:=(au.mp hb).1;let⟨xE,u,qD,hu,⟨z,v3,v4,v5,rfl,hz,g3,g4,⟨l5,MZ,rfl,c5,ET,t9⟩⟩⟩:=(hS.same sm).at hbl;have l5':MZ.length=(g.branches b).length:=by rw[t9.len,←yr]
   have rl:us.length<=512:=by
    rw[rp.len];have:=ol<|t.at_.take i;have h2:(t.at_.take i).length<=64:=by rw[dW];lia
    lia
   have h8:=Ti b;calc⟨_,Y,.inl ⟨Y,_,cP.of hD⟩,?_⟩;refine Vi (L:=U) (lo:=0) (n0:=(g.branches b).length) (atG:= λD j y H=>∃p,y= .ref p/\H p=some (.tup [.int (b:Int),.int (j:Int)])) (λR r=>?_) (by rw[aW];lia) (by rintro D j y H U ys hD ⟨p,e,q⟩ s;exact⟨p,e,s p _ (gz q hD<|by intro z;cases z) q⟩) (λD2 j H2 Vo hj p R r=>?_) λD2 H2 Vo p=>?_
   .refine⟨_,Y,x,_,_,Y,hx.same sm,Y,_,Y,l,_,_,_,Y,Y,cP.of qD,hu,z,_,_,Y,hz,Y,l5,_,Y,.inl<|cP.of ET,_,Y,?_,?_,?_⟩
    .rw[l5'];lia
    .rw[l5'];lia
    .rw[l5',iR];exact r
   .calc⟨_,Y,_,Y,jH 2,λq nq=>r _ _ (aN.new nq) ⟨q,Y,?_⟩⟩;rw[aq,Int.zero_add]
   .let⟨ys,pP,ly,gy⟩:=p.lst;have Df:=p.same _ _ hD;calc⟨D,D2,_,_,Y,Y,Df,pP,by rw[ly,aW];lia,?_⟩;have tk:∀q ts,H2 q=some (.tup ts)->(upd H2 D<|.lst<|us++ys) q=some (.tup ts):= λq ts e=>by rw[aY<|gz e Df<|by intro z;cases z];exact e
    calc⟨_,_,us++ys,Y,aN.put (sm.trans p.same) nD,aq,?_⟩;have e:MB g (t.at_.take<|i+1)=MB g (t.at_.take i)++(fh (g.branches b).length).map λj=>(b,j):=by
     rw[take_snoc hb];unfold MB;rw[gX,kG,aaz]
    rw[e];calc fE.append ?_<|rp.kp λq ts e=>tk q ts<|p.same _ _ e;calc fE.of_get (by rw[ly,ai,eG]) λj y m e1 e2=>?_;rw[aH]at e2;let⟨j',e3,rfl⟩:=cH.mp e2;let⟨hj1,hj2⟩:=au.mp e3;rw[List.getElem_range]at hj2;subst hj2;let⟨q,rfl,hq⟩:=gy j y e1;exact⟨q,Y,tk q _ hq⟩
  .rintro Z U ⟨v,v',us,rfl,sm,hD,rp⟩;rw[ai,iC]at rp;exact⟨_,Y,k D us U sm nD hD rp⟩
inductive aeJ (a:g9) (S:List V) (H:Hp) (Q:VK) (rq:XK):Prop
 |mk (x l ls ll le:O) (t:cZ) (past:List (List Nat:_)) (B:O->Prop) (k0:S=[.ref x]) (k1:uM a B H x l ls ll le t past) (k2:Q (.bl (decide (t.log.length=1000))) H)
theorem rQ(T:Txt K mg a):jM P w K mg base 1 a "Telling.is_full" ["self"]<|aeJ a:=by
 refine T.qt.fn.ok CF ?_ ?_
 .right
 .ext⟨x,l,ls,ll,le,t,past,B,rfl,hT,k⟩;refine⟨_,aF<|bq<|pR iU (cy bQ 'r' T.gB bC<|bM<|bE T.Telling<|J 0) (jh (1000) T)<|dh _,?_⟩
  left
  obtain⟨hx,Lc,n1,n2,n3,⟨us,Cm,rp⟩,-⟩:=id hT;calc⟨_,Y,x,_,_,Y,hx,Y,ll,_,Y,.inl<|cP.of Cm,?_⟩;rw[rp.len];show rEq (V.int (t.log.length:Int)) (V.int 1000) H Q;have e:decide (V.int (t.log.length:Int)=V.int 1000)=decide (t.log.length=1000):=by
   by_cases c:t.log.length=1000
   .rw[aR c,aR<|by rw[c];rfl]
   .rw[bB c,bB λh=>c (by have:=V.int.inj h;lia)]
  calc⟨Y,?_⟩;rw[e];exact k
def L5(x ll le:O)(H U:Hp):Prop:=∀b o,b≠x->b≠ll->b≠le->H b=some o->U b=some o
def L5.trans{H2:Hp}(p:L5 x ll le H L)(q:L5 x ll le L H2):L5 x ll le H H2:= λb o n1 n2 n3 h=>q b o n1 n2 n3 (p b o n1 n2 n3 h)
def L5.of(s:aN H U):L5 x ll le H U:= λb o _ _ _ h=>s b o h
def L5.kp{us ws:List V}(f:L5 x ll le H U)(hx:H x=some (.ins (a.c "Telling") dx fs))(hl:H ll=some (.lst us))(he:H le=some (.lst ws))(nl:¬A ll)(ne:¬A le):Kp a A H U where
 ins:= λy C d f' i q=>f y _ (λz=>by rw[z,hx]at q;cases q;exact R4 (a:=a) "Telling" 'd' i) (λz=>by rw[z,hl]at q;cases q) (λz=>by rw[z,he]at q;cases q) q
 tup:= λy ts q=>f y _ (λz=>by rw[z,hx]at q;cases q) (λz=>by rw[z,hl]at q;cases q) (λz=>by rw[z,he]at q;cases q) q
 lst:= λy ts i q=>f y _ (λz=>by rw[z,hx]at q;cases q) (λz=>nl<|z▸i) (λz=>ne<|z▸i) q
 dic:= λy ts i q=>f y _ (λz=>by rw[z,hx]at q;cases q) (λz=>by rw[z,hl]at q;cases q) (λz=>by rw[z,he]at q;cases q) q
def WM(xs:List Nat)(h:k<=xs.length):uO (iN xs) none (some (k:Int))=iN (xs.take k):=by
 unfold uO;rw[HT.J7,HT.oz,jW,afb,ai,iW h,iN,iN,qh]
theorem WJ(xs:List Nat)(h:k<=xs.length):uO (iN xs) (some (k:Int)) none=iN (xs.drop k):=by
 unfold uO;rw[HT.J7,HT.oz,ai,iW h,iN,iN,uA,oN<|by rw[bN,ai];lia]
inductive aeT (a:g9) (S:List V) (H:Hp) (Q:VK) (rq:XK):Prop
 |mk (x o l ls ll le:O) (t:cZ) (past:List (List Nat:_)) (g:bF) (A B:O->Prop) (m:Nat×Nat) (k0:S=[.ref x,.ref o]) (k1:uM a B H x l ls ll le t past) (k2:lJ a A H l g.states) (k3:A l) (k4:¬A ll) (k5:¬A le) (k6:H o=some (.tup [.int (m.1:Int),.int (m.2:Int)])) (k7:m∈bY g t) (k8:GM.AW g t.at_) (k9:g.states.length<=64) (k10:Valid g) (k11:Apart g) (k12:t.log.length<1000) (k13:past.length=t.log.length) (k14:(∀z,H z=none->¬B z)) (k15:∀Jp U,L5 x ll le H U->H Jp=none->uM a B U x l Jp ll le (i9 g t m) (past++[t.at_])->Q .gQ U)
theorem wL(T:Txt K mg a):jM P w K mg base 2 a "Telling.tell" ["self","option"]<|aeT a:=by
 refine T.vM.fn.ok xh ?_ ?_
 .right
 .ext⟨x,o,l,ls,ll,le,t,past,g,A',B,m,rfl,hT,hS,Al,nl,ne,ho,hm,st,NF,va,ap,lg,pl,hB,k⟩;have nd:=xh.nd;have C:=T.Telling;refine⟨_,aj (iy 2 nd<|gR aM Lj PySem.F.type_list_index Xs (bE T.Telling<|J 0)<|bM<|dj pC (J 1) bR λ_ _=>rfl)<|aj (iy 3 nd<|bE T.Branch<|dj ck (bE T.State<|dj ck (bE T.Telling<|J 0) (dj pC (J 1) bR λ_ _=>rfl) λ_ _=>rfl) (dj pC (J 1) bR λ_ _=>rfl) λ_ _=>rfl)<|aj (bV<|gR aM bh bw d9 (bE T.Telling<|J 0)<|bM<|bE T.Telling<|J 0)<|aj (dP (J 0) (fZ qx (fZ qx (p5 wm (bE T.Telling<|J 0) Ib<|mU<|J 2)<|c8 T.ur (uV T) hr.mn<|aD (bE T.Telling<|J 0)<|bM<|J 3)<|p5 wm (bE T.Telling<|J 0) (mU<|fZ om (J 2) bR) Ib) Y)<|aF<|bV<|gR aM bh bw d9 (bE T.Telling<|J 0)<|bM<|J 1,?_⟩
  left
  let⟨⟨dx,hx⟩,Lc,n1,n2,n3,⟨us,Cm,rp⟩,⟨ws,hle,m8⟩⟩:=id hT;have hX:At (a.c "Telling") H x [("states",.ref l),("standing",.ref ls),("log",.ref ll),("earlier",.ref le)]:=⟨dx,hx⟩;let⟨m1,m2⟩:=GM.yF.mp hm;let⟨pre,t6,e⟩:=UA m1;have ndp:=st.nodup;have tm:=GM.KS m2;have tl:=va _ _ tm;obtain⟨mlt,-⟩:=st.tk _ m1;have nin:∀y∈pre,y≠m.1:=by
   rw[e,uu]at ndp;exactλy hy h=>ndp.2.2 y hy m.1 (bz ..) h
  have sl:=st.len;refine⟨_,Y,x,_,_,Y,hX,Y,.inl ⟨Y,_,cP.of Lc⟩,_,Y,o,_,_,_,Y,Y,oS.of ho,cJ (j:=0) Y,ls,_,_,pre.length,.int (m.1:Int),Y,Y,cP.of Lc,Y,?_,by rw[e,vZ,dM<|by simp[iN]];simp[iN],?_,?_,?_⟩
  .exact dO.mpr λv hv=>by let⟨y,_,rfl⟩:=b6.mp hv;rfl
  .exact fY (m.1:Int)
  .intro i z' hi hz;rw[e,vZ,bX<|by simpa [iN]using hi,aH]at hz;let⟨y,hy,rfl⟩:=cH.mp hz;have:=nin y<|bf hy;show((y:Int)==(m.1:Int))=false;rw[bW]
   lia
  let⟨xE,u,qD,hu,⟨z,v3,v4,v5,rfl,hz,g3,g4,⟨l5,MZ,rfl,c5,ET,t9⟩⟩⟩:=hS.at mlt;obtain⟨b,hb⟩:∃b,(g.branches m.1)[m.2]? =some b:=⟨_,aK m2⟩;have t9:fE (oR a A' H) MZ<|g.branches m.1:=by rw[←yr];exact t9
  obtain⟨v0,Zj,⟨y0,w2,w3,rfl,Q4,-⟩⟩:=t9.get hb;have tb:g.target m.1 m.2=b.to:=by unfold bF.target;rw[hb]
  calc⟨_,Y,x,_,_,Y,hX,Y,_,Y,o,_,_,_,Y,Y,oS.of ho,cJ (j:=0) Y,l,_,_,_,Y,Y,cP.of qD,hu,z,_,_,Y,hz,Y,_,Y,o,_,_,_,Y,Y,oS.of ho,cJ (j:=1) Y,l5,_,_,_,Y,Y,cP.of ET,cJ Zj,y0,_,_,Y,Q4,Y,?_⟩;have wl:ws.length<=1000:=by rw[m8.len];lia
  calc⟨_,Y,x,_,_,Y,hX,Y,.inl ⟨Y,_,cP.of hle⟩,_,Y,x,_,_,Y,hX,Y,le,_,_,Y,Y,hle,by rw[aW];lia,?_⟩;have xle:x≠le:=gz hx hle (by intro z;cases z);have xll:x≠ll:=gz hx Cm (by intro z;cases z);have f1:L5 x ll le H<|upd H le<|.lst<|ws++[.ref ls]:= λb o _ _ n q=>by rw[aY n];exact q
  have Wc:(upd H le<|.lst<|ws++[.ref ls]) x=some (.ins (a.c "Telling") dx [("states",.ref l),("standing",.ref ls),("log",.ref ll),("earlier",.ref le)]):=by rw[aY xle];exact hx
  have adB:(upd H le<|.lst<|ws++[.ref ls]) ls=some (.lst<|iN t.at_):=by rw[aY n2];exact Lc
  have adA:(upd H le<|.lst<|ws++[.ref ls]) ll=some (.lst us):=by rw[aY n3];exact Cm
  have ady:(upd H le<|.lst<|ws++[.ref ls]) le=some (.lst<|ws++[.ref ls]):=aq;have ho1:(upd H le<|.lst<|ws++[.ref ls]) o=some (.tup [.int (m.1:Int),.int (m.2:Int)]):=by rw[aY<|gz ho hle<|by intro z;cases z];exact ho
  generalize upd H le (.lst<|ws++[.ref ls])=L at f1 Wc adB adA ady ho1⊢;have hS1:lJ a A' L l g.states:=by
   let⟨us,G,h2⟩:=hS;have kp:Kp a A' H L:=f1.kp hx Cm hle nl ne;exact⟨us,kp.lst _ _ Al G,h2.mono λ_ _ q=>q.kp (T.ok "Branch") (T.ok "State") kp⟩
  have hX1:At (a.c "Telling") L x [("states",.ref l),("standing",.ref ls),("log",.ref ll),("earlier",.ref le)]:=⟨dx,Wc⟩;have pln:pre.length+1<=t.at_.length:=by rw[e,ak,ay];lia
  calc⟨_,Y,x,_,_,Y,hX1,Y,_,Y,_,Y,ls,_,Y,cP.of adB,λD1 nD1=>?_⟩;rw[WM _ 'l'];have s2:aN L<|upd L D1<|.lst<|iN<|t.at_.take pre.length:=aN.new nD1;have IW:(upd L D1<|.lst<|iN<|t.at_.take pre.length) D1=some (.lst<|iN pre):=by rw[aq,e,AD]
  generalize upd L D1 (.lst<|iN<|t.at_.take pre.length)=H2 at s2 IW⊢;calc⟨_,Y,x,_,_,Y,hX1.same s2,Y,_,Y,l,b.to,g,A',Y,hS1.same s2,by rw[←tb];exact tl,NF,va,ap,λD2 H3 s3 Vo pP=>?_⟩;have ol:(g.opened b.to).length<=64:=bH (GM.rA va ap (rank g b.to) b.to (by rw[←tb];exact tl)<|aT _).1.len NF;calc⟨D1,D2,_,_,Y,Y,s3 _ _ IW,pP,by rw[ai,ai,aW];lia,λD3 n3'=>?_⟩;have s4:aN H3<|upd H3 D3<|.lst<|iN pre++iN (g.opened b.to):=aN.new n3';have Df:(upd H3 D3<|.lst<|iN pre++iN (g.opened b.to)) D3=some (.lst<|iN<|pre++g.opened b.to):=by rw[aq,vZ]
  generalize upd H3 D3 (.lst<|iN pre++iN (g.opened b.to))=H4 at s4 Df⊢;have Q7:=(s2.trans s3).trans s4;have e1:((pre.length:Int)+1)=((pre.length+1:Nat):Int):='l'
  calc⟨_,Y,x,_,_,Y,hX1.same Q7,Y,_,Y,_,_,Y,Y,_,Y,ls,_,Y,cP.of<|Q7 _ _ adB,λD4 n4=>?_⟩;rw[e1,WJ _ pln];have dr:t.at_.drop (pre.length+1)=t6:=by rw[e,←iJ,Zt];rfl
  rw[dr];have s5:aN H4<|upd H4 D4<|.lst<|iN t6:=aN.new n4;have hD4:(upd H4 D4<|.lst<|iN t6) D4=some (.lst<|iN t6):=aq;generalize upd H4 D4 (.lst<|iN t6)=H5 at s5 hD4⊢;have pl2:t6.length<=64:=by have:=congrArg jc e;rw[ak,ay]at this;lia
  calc⟨D3,D4,_,_,Y,Y,s5 _ _ Df,hD4,by rw[ai,ai,ak,aW];lia,λD5 n5=>?_⟩;have s6:aN H5<|upd H5 D5<|.lst<|iN (pre++g.opened b.to)++iN t6:=aN.new n5;have hD5:(upd H5 D5<|.lst<|iN (pre++g.opened b.to)++iN t6) D5=some (.lst<|iN<|pre++g.opened b.to++t6):=by rw[aq,vZ<|pre++g.opened b.to]
  generalize upd H5 D5 (.lst<|iN (pre++g.opened b.to)++iN t6)=H6 at s6 hD5⊢;have s16:=(Q7.trans s5).trans s6;calc⟨_,Y,x,_,dx,_,Y,s16 _ _ Wc,C.cl,C.nO,vv 4,?_⟩;have fD:L D5=none:=(Q7.trans s5).free n5;have xD:x≠D5:=bg Wc fD;have llD:ll≠D5:=bg adA fD;have leD:le≠D5:=bg ady fD;have f7:L5 x ll le H<|upd H6 x<|.ins (a.c "Telling") dx<|jy "standing" (.ref D5) [("states",.ref l),("standing",.ref ls),("log",.ref ll),("earlier",.ref le)]:= λb o q1 q2 q3 q=>by rw[aY q1];exact s16 _ _ (f1 b o q1 q2 q3 q)
  have hx7:(upd H6 x<|.ins (a.c "Telling") dx<|jy "standing" (.ref D5) [("states",.ref l),("standing",.ref ls),("log",.ref ll),("earlier",.ref le)]) x=some (.ins (a.c "Telling") dx [("states",.ref l),("standing",.ref D5),("log",.ref ll),("earlier",.ref le)]):=by rw[aq];rfl
  have Wh:∀b o,b≠x->L b=some o->(upd H6 x<|.ins (a.c "Telling") dx<|jy "standing" (.ref D5) [("states",.ref l),("standing",.ref ls),("log",.ref ll),("earlier",.ref le)]) b=some o:= λb o n q=>by rw[aY n];exact s16 _ _ q
  have hD7:(upd H6 x<|.ins (a.c "Telling") dx<|jy "standing" (.ref D5) [("states",.ref l),("standing",.ref ls),("log",.ref ll),("earlier",.ref le)]) D5=some (.lst<|iN<|pre++g.opened b.to++t6):=by rw[aY xD.symm];exact hD5
  generalize upd H6 x (.ins (a.c "Telling") dx<|jy "standing" (.ref D5) [("states",.ref l),("standing",.ref ls),("log",.ref ll),("earlier",.ref le)])=H7 at f7 hx7 Wh hD7⊢;have aht:=Wh ll _ xll.symm adA;have alj:=Wh le _ xle.symm ady;have ul:us.length<=1000:=by rw[rp.len];lia
  calc⟨_,Y,x,_,_,Y,⟨dx,hx7⟩,Y,.inl ⟨Y,_,cP.of aht⟩,_,Y,ll,_,_,Y,Y,aht,by rw[aW];lia,?_⟩;have f8:L5 x ll le H<|upd H7 ll<|.lst<|us++[.ref o]:= λb o q1 q2 q3 q=>by rw[aY q2];exact f7 b o q1 q2 q3 q
  have fH:H D5=none:=by
   cases q:H D5 with
   |none=>rfl
   |some o'=>rw[f1 D5 o' xD.symm llD.symm leD.symm q]at fD;cases fD
  have JS:∀b o',b≠x->b≠ll->L b=some o'->(upd H7 ll<|.lst<|us++[.ref o]) b=some o':= λb o' q1 q2 q=>by rw[aY q2];exact Wh b o' q1 q
  have tup:∀b ts,H b=some (.tup ts)->(upd H7 ll<|.lst<|us++[.ref o]) b=some (.tup ts):= λb ts q=>f8 b _ (gz q hx<|by intro z;cases z) (gz q Cm<|by intro z;cases z) (gz q hle<|by intro z;cases z) q;have ta:(i9 g t m).at_=pre++g.opened b.to++t6:=by rw[GM.Uv e st.nodup,tb]
  refine k D5 _ f8 fH ⟨⟨dx,by rw[aY xll];exact hx7⟩,?_,⟨llD.symm,hB _ fH⟩,leD.symm,n3,⟨us++[.ref o],aq,?_⟩,⟨ws++[.ref ls],?_,?_⟩⟩
  .rw[aY llD.symm,hD7,ta]
  .exact fE.snoc ⟨o,Y,tup _ _ ho⟩ (rp.kp tup)
  .rw[aY n3.symm];exact alj
  .refine fE.snoc ⟨ls,Y,n1,n2,?_⟩ (fE.mono (λv xs ⟨p,e,q1,q2,q⟩=>⟨p,e,q1,q2,?_⟩) m8)
   .exact f8 _ _ (gz Lc hx<|by intro z;cases z) n1.1 n2 Lc
   .exact f8 _ _ (gz q hx<|by intro z;cases z) q1.1 q2 q
def fE.YU{R:α->β->Prop}:∀{ys:List β} {y:β} {xs:List α},fE R xs (ys++[y])->∃xs0 x,xs=xs0++[x]/\fE R xs0 ys/\R x y:=by
 intro ys;induction ys with
 |nil=>
  intro y xs h;cases h with
  |cons r t=>cases t;exact⟨[],_,Y,.nil,r⟩
 |cons z ys ih=>
  intro y xs h;cases h with
  |cons r t=>
   let⟨xs0,x,rfl,h,q⟩:=ih t;exact⟨_::xs0,x,Y,.cons r h,q⟩
inductive aeF (a:g9) (S:List V) (H:Hp) (Q:VK) (rq:XK):Prop
 |mk (x l ls ll le:O) (t:cZ) (past p0:List (List Nat:_)) (lg:List (Nat×Nat:_)) (m:Nat×Nat) (st:List Nat) (B:O->Prop) (k0:S=[.ref x]) (k1:uM a B H x l ls ll le t past) (k2:t.log=lg++[m]) (k3:past=p0++[st]) (k4:∀Jp U,L5 x ll le H U->uM a B U x l Jp ll le ⟨st,lg⟩ p0->Q .gQ U)
def yM(T:Txt K mg a):jM P w K mg base 1 a "Telling.take_back" ["self"]<|aeF a:=by
 refine T.sU.fn.ok zx ?_ ?_
 .right
 .ext⟨x,l,ls,ll,le,t,past,p0,lg,m,st,B,rfl,hT,el,ep,k⟩;have C:=T.Telling;refine⟨_,aj (bV<|N7 aM qp wC RX<|bE T.Telling<|J 0)<|aF<|dP (J 0) (N7 aM qp wC RX<|bE T.Telling<|J 0) Y,?_⟩
  left
  let⟨⟨dx,hx⟩,Lc,n1,n2,n3,⟨us,Cm,rp⟩,⟨ws,hle,m8⟩⟩:=id hT;rw[el]at rp;rw[ep]at m8;obtain⟨us0,u,rfl,rp0,-⟩:=fE.YU rp;let⟨ws0,wv,rfl,rw0,⟨p,rfl,q1,q2,hp⟩⟩:=fE.YU m8;have xle:x≠le:=gz hx hle (by intro z;cases z);have xll:x≠ll:=gz hx Cm (by intro z;cases z);have hX:At (a.c "Telling") H x [("states",.ref l),("standing",.ref ls),("log",.ref ll),("earlier",.ref le)]:=⟨dx,hx⟩;calc⟨_,Y,x,_,_,Y,hX,Y,.inl ⟨Y,_,cP.of Cm⟩,ll,_,u,Y,Y,Cm,'s',?_⟩;rw[qm];have f1:L5 x ll le H<|upd H ll<|.lst us0:= λb o _ n _ q=>by rw[aY n];exact q
  have Wc:(upd H ll<|.lst us0) x=some (.ins (a.c "Telling") dx [("states",.ref l),("standing",.ref ls),("log",.ref ll),("earlier",.ref le)]):=by rw[aY xll];exact hx
  have hl1:(upd H ll<|.lst us0) ll=some (.lst us0):=aq;have he1:(upd H ll<|.lst us0) le=some (.lst<|ws0++[.ref p]):=by rw[aY n3.symm];exact hle
  generalize upd H ll (.lst us0)=L at f1 Wc hl1 he1⊢;calc⟨_,Y,x,_,_,Y,⟨dx,Wc⟩,Y,.inl ⟨Y,_,cP.of he1⟩,le,_,.ref p,Y,Y,he1,'s',?_⟩;rw[qm];have f2:L5 x ll le H<|upd L le<|.lst ws0:= λb o m1 m2 m3 q=>by rw[aY m3];exact f1 b o m1 m2 m3 q
  have OS:(upd L le<|.lst ws0) x=some (.ins (a.c "Telling") dx [("states",.ref l),("standing",.ref ls),("log",.ref ll),("earlier",.ref le)]):=by rw[aY xle];exact Wc
  have Tn:(upd L le<|.lst ws0) ll=some (.lst us0):=by rw[aY n3];exact hl1
  have he2:(upd L le<|.lst ws0) le=some (.lst ws0):=aq;generalize upd L le (.lst ws0)=H2 at f2 OS Tn he2⊢;calc⟨_,Y,x,_,dx,_,Y,OS,C.cl,C.nO,vv 4,?_⟩;have f3:L5 x ll le H<|upd H2 x<|.ins (a.c "Telling") dx<|jy "standing" (.ref p) [("states",.ref l),("standing",.ref ls),("log",.ref ll),("earlier",.ref le)]:= λb o m1 m2 m3 q=>by rw[aY m1];exact f2 b o m1 m2 m3 q
  refine k p _ f3 ⟨⟨dx,by rw[aq];rfl⟩,?_,q1,q2,n3,⟨us0,?_,t8.kp rp0 λb ts q=>?_⟩,⟨ws0,?_,fE.mono (λv xs ⟨p,e,q1,q2,q⟩=>⟨p,e,q1,q2,?_⟩) rw0⟩⟩
  .exact f3 _ _ (gz hp hx<|by intro z;cases z) q1.1 q2 hp
  .rw[aY xll.symm];exact Tn
  .exact f3 _ _ (gz q hx<|by intro z;cases z) (gz q Cm<|by intro z;cases z) (gz q hle<|by intro z;cases z) q
  .rw[aY xle.symm];exact he2
  .exact f3 _ _ (gz q hx<|by intro z;cases z) q1.1 q2 q
def uM.same{l:O}{t:cZ}(h:uM a B H x l ls ll le t past)(s:aN H U):uM a B U x l ls ll le t past:=by
 let⟨hx,Lc,n1,n2,n3,⟨us,Cm,rp⟩,⟨ws,hle,m8⟩⟩:=h;exact⟨hx.same s,s _ _ Lc,n1,n2,n3,⟨us,s _ _ Cm,rp.kp λ_ _ q=>s _ _ q⟩,⟨ws,s _ _ hle,fE.mono (by rintro v xs ⟨p,e,q1,q2,q⟩;exact⟨p,e,q1,q2,s _ _ q⟩) m8⟩⟩
inductive aaU (a:g9) (S:List V) (H:Hp) (Q:VK) (rq:XK):Prop
 |mk (x nl l ls ll le:O) (ks:List Int) (t:cZ) (past:List (List Nat:_)) (g:bF) (A B:O->Prop) (k0:S=[.ref x,.ref nl]) (k1:H nl=some (.lst (ks.map V.int))) (k2:nl≠ll) (k3:nl≠le) (k4:uM a B H x l ls ll le t past) (k5:lJ a A H l g.states) (k6:A l) (k7:¬A ll) (k8:¬A le) (k9:xR g t past) (k10:GM.Good g) (k11:(∀z,H z=none->¬B z)) (k12:∀Jp nI U,L5 x ll le H U->uM a B U x l Jp ll le (kY g t ks) nI->xR g (kY g t ks) nI->Q (.int (((kY g t ks).log.length-t.log.length:Nat):Int)) U)
theorem xW(T:Txt K mg a):jM P w K mg base 3 a "Telling.tell_along" ["self","numbers"]<|aaU a:=by
 refine T.rH.fn.ok o9 ?_ ?_
 .right
 .ext⟨x,nl,l,ls,ll,le,ks,t,past,g,A',B,rfl,hnl,d1,d2,hT,hS,Al,nA1,nA2,te,gd,hB,k⟩;have nd:=o9.nd;refine⟨_,aj (iy 2 nd bR)<|aj (lS dN Y (gc<|J 1) (xX 3 nd)<|aj (iy 4 nd<|iw T.Telling T.jB (jm T) hr.mn<|J 0)<|aj (dZ (Gq (cu iU (cy bQ 'r' T.gB bC<|bM<|J 4) bR<|dh _)<|yX<|fX<|iw T.Telling T.qt (rQ T) hr.mn<|J 0).pt (aF X6) b9)<|aj (bV<|qG T.Telling T.vM (wL T) hr.mn (J 0)<|bM<|dj ck (J 4) (fZ aei (J 3)<|cy bQ 'r' T.gB bC<|bM<|J 4) λ_ _=>rfl)<|aF<|yU (i:=2) nd Y (ji Y) bR yx)<|aF<|bq<|J 2,?_⟩
  left
  obtain⟨⟨dx0,hx0⟩,-,-,-,-,⟨us0,alm,-⟩,⟨ws0,alg,-⟩⟩:=id hT;have nx:nl≠x:=gz hnl hx0 (by intro z;cases z);refine⟨_,Y,nl,Y,⟨_,cP.of hnl⟩,mL (K:=K) (a:=nl) (xs:=ks.map V.int) (λi Z U=>X5 λ(v v':Option V) (Jp:O) (t':cZ) (nI:List (List Nat))=>A6 (Z=[some<|.ref x,some<|.ref nl,some<|.int ((t'.log.length-t.log.length:Nat):Int),v,v']) (L5 x ll le H U) (uM a B U x l Jp ll le t' nI) (xR g t' nI) (t.log.length<=t'.log.length)<|kY g t' (ks.drop i)=kY g t ks) ⟨none,none,ls,t,past,by rw[Nat.sub_self];rfl,λ_ _ _ _ _ q=>q,hT,te,aT _,Y⟩ (by rintro i Z U _ ⟨_,_,_,_,_,_,f,_⟩;exact cP.of<|f _ _ nx d1 d2 hnl) ?_ ?_⟩
  .rintro i y Z U hi ⟨v,v',Jp,t',nI,rfl,f,hT',Zq,le',eq⟩;rw[aH]at hi;let⟨c,hc,rfl⟩:=cH.mp hi;have dr:ks.drop i=c::ks.drop (i+1):=by
    let⟨G,h2⟩:=au.mp hc;rw[bx G,h2]
   rw[dr,GM.Sn]at eq;have st:=Zq.Ls.KC gd.val gd.ap gd.st;have kp:Kp a A' H U:=f.kp hx0 alm alg nA1 nA2;have WU:lJ a A' U l g.states:=by
    let⟨us,G,h2⟩:=hS;exact⟨us,kp.lst _ _ Al G,h2.mono λ_ _ q=>q.kp (T.ok "Branch") (T.ok "State") kp⟩
   let⟨⟨dx,hx⟩,Lc,n1,n2,n3,⟨us,Cm,rp⟩,⟨ws,hle,m8⟩⟩:=id hT';have h8:∀s,(g.branches s).length<=8:= λs=>gd.br s;have Rq:=bH st.len gd.sl;calc⟨_,Y,x,_,_,Y,hx,Y,x,l,Jp,ll,le,t',nI,g,A',B,Y,hT',WU,λs hs=>(st.tk s hs).1,Rq,h8,λD os H2 s2 nD hD ro=>?_⟩;have lo:os.length=(bY g t').length:=ro.len;have f2:L5 x ll le H H2:=f.trans<|.of s2;have Lu:=hT'.same s2;calc⟨_,Y,D,_,Y,.inl<|cP.of hD,Y,_,Y,?_⟩;rw[lo];by_cases c0:bY g t'=[]
   .rw[aG<|.inl c0]at eq;calc qS (aR<|by rw[c0];rfl) ?_;subst eq;exact⟨_,Y,k Jp nI H2 f2 Lu Zq⟩
   have ol:0<(bY g t').length:=List.length_pos_iff.mpr c0;calc o7 (dF λe=>by have:=V.int.inj e;lia) ?_;calc⟨_,Y,x,_,_,Y,s2 _ _ hx,Y,x,l,Jp,ll,le,t',nI,B,Y,Lu,_,Y,?_⟩;by_cases c1:t'.log.length=1000
   .rw[aG<|.inr<|by unfold lP;lia]at eq;calc qS (aR c1) ?_;subst eq;exact⟨_,Y,k Jp nI H2 f2 Lu Zq⟩
   have lg:t'.log.length<1000:=by have:=Zq.len;lia
   rw[az<|by unfold lP;rintro (h|h);exact c0 h;lia]at eq;calc o7 (dF c1) ?_;have z1:=Int.emod_nonneg c (b:=((bY g t').length:Int)) 'l';have z2:=Int.emod_lt_of_pos c (b:=((bY g t').length:Int)) 'l';obtain⟨j,ej⟩:∃j:Nat,c %((bY g t').length:Int)=(j:Int):=⟨(c %((bY g t').length:Int)).toNat,'l'⟩;have hj:j<(bY g t').length:='l'
   obtain⟨m,hm⟩:∃m,(bY g t')[j]? =some m:=⟨_,aK hj⟩;let⟨vo,hvo,⟨o,rfl,ho⟩⟩:=ro.get hm;have hmm:=bf hm;rw[ej,iR,hm]at eq;have eq:kY g (i9 g t' m) (ks.drop<|i+1)=kY g t ks:=eq;have hB2:∀z,H2 z=none->¬B z:= λz hz=>hB z (by
    cases q:H z with
    |none=>rfl
    |some o'=>
     have z1:z≠x:= λe=>by rw[e,s2 _ _ hx]at hz;cases hz
     have z2:z≠ll:= λe=>by rw[e,s2 _ _ Cm]at hz;cases hz
     have z3:z≠le:= λe=>by rw[e,s2 _ _ hle]at hz;cases hz
     rw[f2 z o' z1 z2 z3 q]at hz;cases hz)
   have pl:nI.length=t'.log.length:=by rw[Zq.past,ai,eG]
   calc⟨_,Y,x,_,_,Y,s2 _ _ hx,Y,_,Y,_,Y,_,Y,D,_,Y,.inl<|cP.of hD,_,_,Y,Y,by rw[lo];lia,D,_,_,_,Y,Y,cP.of hD,by rw[lo,ej];exact cJ hvo,x,o,l,Jp,ll,le,t',nI,g,A',B,m,Y,Lu,WU.same s2,Al,nA1,nA2,ho,hmm,st,gd.sl,gd.val,gd.ap,lg,pl,hB2,λls3 H3 f3 n3' hT3=>?_⟩;calc⟨_,Y,_,_,Y,Y,?_⟩;have tl:(i9 g t' m).log.length=t'.log.length+1:=by show(t'.log++[m]).length=_;rw[ak,aI]
   calc⟨some<|.int c,some<|.ref D,ls3,i9 g t' m,nI++[t'.at_],?_,f2.trans f3,hT3,Zq.told hmm lg,'l',eq⟩;rw[tl,show(t'.log.length+1-t.log.length:Nat)=(t'.log.length-t.log.length)+1 by lia];rfl
  .rintro Z U ⟨v,v',Jp,t',nI,rfl,f,hT',Zq,le',eq⟩;rw[ai,iA]at eq;have eq:t'=kY g t ks:=eq;subst eq;exact⟨_,Y,k Jp nI U f hT' Zq⟩
def ZF(o:List Nat)(kvs:List<|Key×V):Prop:=∀t∈o,mS kvs (b8 (t:Int))=some (.int ((pos o t:Nat):Int))
inductive aa2 (a:g9) (S:List V) (H:Hp) (Q:VK) (rq:XK):Prop
 |mk (v:V) (d:O) (kvs:List (Key×V:_)) (o:List Nat) (s:bL×kP) (A:O->Prop) (k0:S=[v,.ref d]) (k1:nY a A H v s) (k2:H d=some (.dK kvs)) (k3:ZF o kvs) (k4:(∀t∈sq s.2,t∈o)) (k5:(Ex s.2).length<=8) (k6:(∀z,H z=none->A z)) (k7:∀v' U,aN H U->nY a A U v' (s.1,renumbered (pos o) s.2)->Q v' U)
def ZF.get{o:List Nat}(h:ZF o kvs){t:Nat}(ht:t∈o)(hd:H d=some (.dK kvs)):sO H d (.int (t:Int))<|some<|.int ((pos o t:Nat):Int):=by
 have:=sO.k (k:=b8 (t:Int)) hd;rwa[h t ht]at this
def ZQ(f:Nat->Nat)(n:kP):Ex (renumbered f n)=(Ex n).map λb=>{b with to:=f b.to}:=by cases n<;>rfl
def Sw(f:Nat->Nat)(n:kP):eE (renumbered f n)=(eE n).map f:=by cases n<;>rfl
def Sv(f:Nat->Nat)(n:kP):lT (renumbered f n)=lT n:=by cases n<;>rfl
def SE(f:Nat->Nat)(n:kP):i8 (renumbered f n)=i8 n:=by cases n<;>rfl
theorem AH(T:Txt K mg a):jM P w K mg base 3 a "renumbered_state" ["state","numbers"]<|aa2 a:=by
 refine T.uY.fn.ok qK ?_ ?_
 .right
 .ext⟨v,d,kvs,o,s',A',rfl,hS,hd,dp,ht,h8,fr,k⟩;have nd:=qK.nd;have hu:=Ja hr;refine⟨_,aj (yV (i:=2) (own:=[("side",3)]) Y nd Y Y (Av Y Y Y Y) (gc<|bE T.State<|J 0) (gq 'r') (λ_ _ _ _ _=>(xX 3 nd)) (λ_ _ _ _ _=>iF) λ_ _ _ _ _=>Am hu (J 1) (J 3) λ_ _=>rfl)<|aj (yV (i:=4) (own:=[("branch",5)]) Y nd Y Y (Av Y Y Y Y) (gc<|bE T.State<|J 0) (gq 'r') (λ_ _ _ _ _=>(xX 5 nd)) (λ_ _ _ _ _=>iF) λ_ _ _ _ _=>oq T.Branch (Mz T) hr.mn<|aD (bE T.Branch<|J 5)<|aD (bE T.Branch<|J 5)<|aD (bE T.Branch<|J 5)<|bM<|Am hu (J 1) (bE T.Branch<|J 5) λ_ _=>rfl)<|aF<|bq<|oq T.State (Dt T) hr.mn<|aD (bE T.State<|J 0)<|aD (bE T.State<|J 0)<|aD (bE T.State<|J 0)<|aD (J 2)<|bM<|J 4,?_⟩
  left
  let⟨x,u3,u4,u5,rfl,hx,h3,⟨l4,rfl,c4,V9⟩,⟨l5,MZ,rfl,c5,ET,t9⟩⟩:=hS;have tgt:∀t,t∈eE s'.2∨t∈(Ex s'.2).map (·.to)->t∈o:= λt h=>ht t (by
   cases e:s'.2 with
   |fin=>rw[e]at h;simp[eE,Ex]at h
   |both p q=>rw[e]at h;simpa [eE,Ex,sq]using h
   |talk p q bs=>rw[e]at h;simpa [eE,Ex,sq]using h)
  have s2l:(eE s'.2).length<=2:=by cases s'.2<;>simp[eE]
  refine Ca (pY (xs:=iN<|eE s'.2) (ys:=iN<|(eE s'.2).map (pos o)) (λR r=>⟨_,Y,x,_,_,Y,hx,Y,r _ _ (aN.refl _) V9⟩) (by simp[iN]) (by rw[ai,aW];lia) (λj z H2 hz s2 R r=>?_) λD2 H2 Vo s2 pP=>?_)
  .rw[aH]at hz;let⟨t,et,rfl⟩:=cH.mp hz;calc⟨_,Y,_,Y,d,_,Y,dp.get (tgt t<|.inl<|bf et)<|s2 _ _ hd,r _ _ (aN.refl _) ?_⟩;rw[aH,aH,et];rfl
  .show CL (KL (F4 K<|tF (a.c "State") (gF 0) "branches") (ic 5) AM _ [5]) (ic 4) _ [some<|.ref x,some<|.ref d,some<|.ref D2,none,none,none] H2;refine Ca (Dk (L:=H2) (a:=l5) (xs:=MZ) (atG:= λD j y H=>∃b,(Ex s'.2)[j]? =some b/\oR a (λz=>A' z/\z≠D) H y {b with to:=pos o b.to}) (λR r=>⟨_,Y,x,_,_,Y,hx.same s2,Y,r⟩) (cP.of<|s2 _ _ ET) (by rw[t9.len,aW];lia) (by rintro D j y H U ys hD ⟨b,e,q⟩ s;exact⟨b,e,q.kp (T.ok "Branch")<|(Kp.Ly s hD).mono λz h=>h.2⟩) (λD j y H3 nD hy p R r=>?_) λD H3 nD p=>?_)
   .let⟨b,hb,qb⟩:=t9.get' hy;have s3:=s2.trans p.same;have qb3:=qb.same s3;have mb:=tgt b.to<|.inr<|iX<|bf hb;let⟨y0,w2,w3,rfl,Q4,r2,r3⟩:=id qb3;calc⟨_,Y,y0,_,_,Y,Q4,Y,_,Y,y0,_,_,Y,Q4,Y,_,Y,y0,_,_,Y,Q4,Y,_,Y,_,Y,y0,_,_,Y,Q4,Y,d,_,Y,dp.get mb<|s3 _ _ hd,Y,λx' H4 s4 n4 at4=>r _ _ s4 ⟨b,hb,?_⟩⟩;let⟨y1,w2',w3',e1,hy1,r2',r3'⟩:=(oR.ne qb<|s2.free nD).same (s3.trans s4);obtain rfl:y0=y1:=by cases e1;rfl
    have:w2=w2'/\w3=w3':=by
     let⟨d1,e1⟩:=Q4.same s4;let⟨d2,e2⟩:=hy1;rw[e1]at e2;cases e2;exact⟨Y,Y⟩
    let⟨rfl,rfl⟩:=this;exact⟨x',w2,w3,Y,at4,r2',r3'⟩
   .let⟨ys,hD,ly,gy⟩:=p.lst;have s3:=s2.trans p.same;have F3:=hx.same s3;calc⟨_,Y,x,_,_,Y,F3,Y,_,Y,x,_,_,Y,F3,Y,_,Y,x,_,_,Y,F3,Y,_,Y,_,Y,Y,λx' H4 s4 n4 at4=>?_⟩;have s5:=s3.trans s4;refine k _ _ s5 ⟨x',u3,.ref D2,.ref D,Y,?_,?_,⟨D2,Y,fr _ Vo,?_⟩,⟨D,ys,Y,fr _<|s2.free nD,s4 _ _ hD,?_⟩⟩
    .show At _ H4 x' [("name",.str<|sw<|nb s'.1),("kind",.int<|i8<|renumbered (pos o) s'.2),("seats",u3),("sides",.ref D2),("branches",.ref D)];rw[SE];exact at4
    .show kI A' H4 u3 (lT<|renumbered (pos o) s'.2);rw[Sv];let⟨l3,e3,q3,h3⟩:=h3;exact⟨l3,e3,q3,s5 _ _ h3⟩
    .show H4 D2=some (.lst<|iN<|eE<|renumbered (pos o) s'.2);rw[Sw];exact s4 _ _ (p.same _ _ pP)
    .show fE (oR a A' H4) ys (Ex<|renumbered (pos o) s'.2);rw[ZQ];calc fE.of_get (by rw[ly,ai,t9.len]) λj y b e1 e2=>?_;let⟨b',eb,q⟩:=gy j y e1;rw[aH,eb]at e2;obtain rfl:=aL e2;exact(q.mono λz h=>h.1).same s4
noncomputable def W6(k:Nat)(o:List Nat):List<|Key×V:=(o.zipIdx k).map λp=>(b8 ((p.1:Nat):Int),V.int ((p.2:Nat):Int))
theorem NO:∀(o:List Nat) (k t:Nat),mS (W6 k o) (b8 (t:Int))=(o.findIdx? λx=>x==t).map λ(i:Nat)=>V.int ((k+i:Nat):Int)
 |[],_,_=>rfl
 |x::r,k,t=>by
  have ih:=NO r (k+1) t;show mS ((b8 ((x:Nat):Int),V.int ((k:Nat):Int))::W6 (k+1) r) _=_;rw[UD];by_cases h:x=t
  .subst h;rw[jI Y,aG 's'];rfl
  .rw[jq<|by intro e;exact h (by have:=EF e;lia),ih,az<|~~~h];cases r.findIdx? λx=>x==t with
   |none=>rfl
   |some i=>
    show some (V.int _)=some (V.int _);rw[show k+1+i=k+(i+1)by lia]
def aad(o:List Nat):ZF o<|W6 0 o:= λt ht=>by
 rw[NO];unfold pos;cases e:o.findIdx? λx=>x==t with
 |none=>
  rw[mD]at e;exact absurd (e t ht) 's'
 |some i=>
  show some (V.int _)=some (V.int _);rw[sy];rfl
def aae{o:List Nat}{t:Nat}(h:t∉o):putK (W6 0 o) (b8 (t:Int)) (.int (o.length:Nat))=W6 0 (o++[t]):=by
 unfold putK;rw[qf,NO,mD.mpr λx hx=>by simpa usingλ(e:x=t)=>h<|e▸hx];unfold W6;rw[az 'd',UJ,bP,sy];rfl
def Tz(o:List Nat):(W6 0 o).length=o.length:=by unfold W6;rw[ai,sJ]
inductive YD (a:g9) (S:List V) (H:Hp) (Q:VK) (rq:XK):Prop
 |mk (v:V) (g:bF) (A:O->Prop) (k0:S=[v]) (k1:jX a A H v g) (k2:GM.pV g) (k3:(∀z,H z=none->A z)) (k4:∀v' U,aN H U->jX a A U v' g.tidied->Q v' U)
theorem Ff(T:Txt K mg a):jM P w K mg base 4 a "tidied" ["script"]<|YD a:=by
 refine T.tidied.fn.ok MP ?_ ?_
 .right
 .ext⟨v,g,A',rfl,hS,gd,fr,k⟩;have nd:=MP.nd;have hu:=Ja hr;refine⟨_,aj (iy 1 nd<|c8 T.yG (tu T) hr.mn<|aD (bE T.Script<|J 0)<|bM<|bE T.Script<|J 0)<|aj (pK (i:=2) nd Y (M7 Y) DG)<|aj (lS dN Y (gc<|J 1) (xX 3 nd)<|aF<|Oc hu (J 2) (J 3) (cy Ad 'r' T.gB bC<|bM<|J 2) Y)<|aj (yV (i:=4) (own:=[("number",3)]) Y nd Y Y (Av Y Y Y Y) (gc<|J 1) (gq 'r') (λ_ _ _ _ _=>(xX 3 nd)) (λ_ _ _ _ _=>iF) λ_ _ _ _ _=>c8 T.uY (AH T) hr.mn<|aD (dj (yz (K:=K) Y) (bE T.Script<|J 0) (J 3) λ_ _=>rfl)<|bM<|J 2)<|aF<|bq<|oq T.Script (MA T) hr.mn<|aD (bE T.Script<|J 0)<|aD (bE T.Script<|J 0)<|aD (bE T.Script<|J 0)<|aD (bE T.Script<|J 0)<|aD bR<|bM<|J 4,?_⟩
  left
  let⟨x,u3,u4,u6,rfl,hx,h3,h4,⟨l6,xE,rfl,c6,qD,qQ⟩⟩:=id hS;have A0:lJ a A' H l6 g.states:=⟨xE,qD,qQ⟩;calc⟨_,Y,x,_,_,Y,hx,Y,_,Y,x,_,_,Y,hx,Y,l6,g.start,g,A',Y,A0,gd.st,gd.sl,gd.val,λs=>gd.br s,λm L s1 nm hm=>?_⟩;have rl:(ord g).length<=64:=bH (GM.pS gd.val gd.st) gd.sl;have rn:(ord g).Nodup:=GM.p6 gd.val gd.st;have olt:∀t∈ord g,t<g.states.length:= λt ht=>((GM.iu gd.val gd.st).mp ht).lt gd.val gd.st;intro d nd1;have s2:aN L<|upd L d<|.dK []:=aN.new nd1;have C2:(upd L d<|.dK []) d=some (.dK<|W6 0 []):=aq;generalize upd L d (.dK [])=H2 at s2 C2;have Zl:H d=none:=s1.free nd1;have AI:=s1.trans s2;have dm:m≠d:=bg hm nd1;refine⟨_,Y,m,Y,⟨_,cP.of<|s2 _ _ hm⟩,mL (K:=K) (a:=m) (xs:=iN<|ord g) (λi Z U=>∃v:Option V,A4 (Z=[some<|.ref x,some<|.ref m,some<|.ref d,v,none]) (aN H U) (U m=some (.lst<|iN<|ord g))<|U d=some (.dK<|W6 0<|(ord g).take i)) ⟨none,Y,AI,s2 _ _ hm,C2⟩ (by rintro i Z U _ ⟨_,_,_,q,_⟩;exact cP.of q) ?_ ?_⟩
  .rintro i u Z U hu ⟨v,rfl,sm,hm',hd⟩;rw[aH]at hu;let⟨t,et,rfl⟩:=cH.mp hu;have il:=(au.mp et).1;have tl:((ord g).take i).length=i:=by rw[dW];lia
   have nt:t∉(ord g).take i:= λh=>by
    let⟨j,hj⟩:=Rb h;have jl:=(au.mp hj).1;rw[List.getElem?_take]at hj;split at hj
    .have:=ah5 rn hj et;rw[tl]at jl
     lia
    .cases hj
   calc⟨_,Y,d,_,Y,hd,_,Y,_,Y,d,_,Y,Rn.k (k:=b8 (t:Int)) hd<|by rw[Tz,tl,aW];lia,?_⟩;calc⟨some<|.int (t:Int),Y,aN.put sm Zl,by rw[aY dm];exact hm',?_⟩;rw[aq,Tz,aae nt,take_snoc et]
  .rintro Z U ⟨v,rfl,sm,hm',hd⟩;rw[ai,iC]at hd;show CL (KL (F4 K<|gF 1) (ic 3) AM _ [3]) (ic 4) _ [some<|.ref x,some<|.ref m,some<|.ref d,v,none] U;refine Ca (Dk (L:=U) (a:=m) (xs:=iN<|ord g) (atG:= λD j y H=>∃t,(ord g)[j]? =some t/\nY a (λz=>A' z/\z≠D) H y (g.stateName t,renumbered (pos<|ord g)<|g.node t)) (λR r=>⟨_,Y,r⟩) (cP.of hm') (by rw[ai,aW];lia) (by rintro D j y H U ys hD ⟨b,e,q⟩ s;exact⟨b,e,q.kp (T.ok "Branch") (T.ok "State")<|(Kp.Ly s hD).mono λz h=>h.2⟩) (λD j y H3 nD hy p R r=>?_) λD H3 nD p=>?_)
   .rw[aH]at hy;let⟨t,et,rfl⟩:=cH.mp hy;have mt:=bf et;have tl:=olt t mt;have s3:=sm.trans p.same;have nD0:H D=none:=sm.free nD;have Vd:lJ a (λz=>A' z/\z≠D) H3 l6 g.states:=⟨xE,s3 _ _ qD,qQ.mono λ_ _ q=>(q.ne nD0).same s3⟩;let⟨us,u,PK,Mr,qs⟩:=Vd.at tl;let⟨ys,hD,_,_⟩:=p.lst;refine⟨_,Y,x,_,_,Y,hx.same s3,Y,_,Y,l6,_,_,_,Y,Y,cP.of PK,Mr,_,Y,u,d,W6 0<|ord g,ord g,(g.stateName t,g.node t),_,Y,qs,p.same _ _ hd,aad _,λt' ht'=>GM.pJ gd.val gd.st mt<|by rw[CM];exact ht',by rw[yr];exact gd.br t,λz hz=>⟨fr z<|s3.free hz,λe=>by rw[e,hD]at hz;cases hz⟩,λv' H4 s4 q4=>r _ _ s4 ⟨t,et,q4⟩⟩
   .let⟨ys,hD,ly,gy⟩:=p.lst;have s3:=sm.trans p.same;have F3:=hx.same s3;calc⟨_,Y,x,_,_,Y,F3,Y,_,Y,x,_,_,Y,F3,Y,_,Y,x,_,_,Y,F3,Y,_,Y,x,_,_,Y,F3,Y,_,Y,Y,λx' H4 s4 n4 at4=>?_⟩;have s5:=s3.trans s4;obtain⟨y0,w3,w4,w6,e0,Q4,h3',h4',-⟩:=hS.same s5;obtain rfl:x=y0:=by cases e0;rfl
    have:u3=w3/\u4=w4:=by
     let⟨d1,e1⟩:=hx.same s5;let⟨d2,e2⟩:=Q4;rw[e1]at e2;cases e2;exact⟨Y,Y⟩
    let⟨rfl,rfl⟩:=this;calc k _ _ s5 ⟨x',u3,u4,.ref D,Y,at4,h3',h4',⟨D,ys,Y,fr _<|sm.free nD,s4 _ _ hD,?_⟩⟩;rw[GM.ni];calc fE.of_get (by rw[ly,ai,ai]) λj y b e1 e2=>?_;let⟨t,et,q⟩:=gy j y e1;rw[aH,et]at e2;obtain rfl:=aL e2;exact(q.mono λz h=>h.1).same s4
def rD(r:qN):jY:= .tuple ((rangeRow r).map .int)
def nD(n:Nat):jY:= .int (n:Int)
def sD(b:bL):jY:= .str (sw<|nb b)
noncomputable def Zd(b:jg):jY:= .tuple [sD b.label,.list<|b.ranges.map rD,.list<|b.hands.map nD,nD b.to]
noncomputable def Zp(n:kP):jY:= .tuple [.int<|i8 n,.list<|(lT n).map nD,.list<|(eE n).map nD,.list<|(Ex n).map Zd]
noncomputable def scD(g:bF):jY:= .tuple [nD g.parties.length,.list<|g.seats.map sD,.list<|(holdersOf g).map nD,.list ((g.states.map (·.2)).map Zp)]
def IM{α:Type}[DecidableEq α]{f:α->jY}(h:∀x y,gO (f x) (f y)=decide (x=y)):∀xs ys:List α,gk (xs.map f) (ys.map f)=decide (xs=ys)
 |[],[]=>rfl
 |[],_::_=>rfl
 |_::_,[]=>rfl
 |x::xs,y::ys=>by
  show(gO (f x) (f y)&&gk (xs.map f) (ys.map f))=_;rw[h,IM h xs ys,←fR];exact jj.mpr (by rw[amS])
def Nz(x y:Int):gO (.int x) (.int y)=decide (x=y):=by
 show(x==y)=_;rfl
def IP(x y:Nat):gO (nD x) (nD y)=decide (x=y):=by
 unfold nD;rw[Nz];exact jj.mpr 'o'
def abQ(x y:bL):gO (sD x) (sD y)=decide (x=y):=by
 show(sw (nb x)==sw (nb y))=_;by_cases h:x=y
 .subst h;simp
 .rw[bB h];exact bW.mpr λe=>h (Jt<|Ow e)
theorem aaN:∀{r s:qN},rangeRow r=rangeRow s->r=s
 | .flag,.flag,_=>rfl
 | .num a b,.num c d,h=>by simp[rangeRow]at h;rw[h.1,h.2]
 | .text a,.text b,h=>by simp[rangeRow]at h;rw[show a=b by lia]
 | .flag,.num _ _,h=>by simp[rangeRow]at h
 | .flag,.text _,h=>by simp[rangeRow]at h
 | .num _ _,.flag,h=>by simp[rangeRow]at h
 | .num _ _,.text _,h=>by simp[rangeRow]at h
 | .text _,.flag,h=>by simp[rangeRow]at h
 | .text _,.num _ _,h=>by simp[rangeRow]at h
def agZ(r s:qN):gO (rD r) (rD s)=decide (r=s):=by
 show gk ((rangeRow r).map .int) ((rangeRow s).map .int)=_;rw[IM Nz];exact jj.mpr ⟨aaN,λh=>by rw[h]⟩
def agY(b c:jg):gO (Zd b) (Zd c)=decide (b=c):=by
 show(gO (sD b.label) (sD c.label)&&(gk (b.ranges.map rD) (c.ranges.map rD)&&(gk (b.hands.map nD) (c.hands.map nD)&&(gO (nD b.to) (nD c.to)&&true))))=_;rw[abQ,IM agZ,IM IP,IP,M5,←fR,←fR,←fR];calc jj.mpr ⟨λh=>?_,λh=>by subst h;exact⟨Y,Y,Y,Y⟩⟩;cases b;cases c;let⟨G,h2,h3,h4⟩:=h;dsimp only at G h2 h3 h4;subst G;subst h2;subst h3;subst h4;rfl
def adi(n m:kP):gO (Zp n) (Zp m)=decide (n=m):=by
 show(gO (.int<|i8 n) (.int<|i8 m)&&(gk ((lT n).map nD) ((lT m).map nD)&&(gk ((eE n).map nD) ((eE m).map nD)&&(gk ((Ex n).map Zd) ((Ex m).map Zd)&&true))))=_;rw[Nz,IM IP,IM IP,IM agY,M5,←fR,←fR,←fR];calc jj.mpr ⟨λh=>?_,λh=>by subst h;exact⟨Y,Y,Y,Y⟩⟩;let⟨G,h2,h3,h4⟩:=h;cases n<;>cases m<;>simp[i8,lT,eE,Ex]at G h2 h3 h4⊢<;>simp_all
def Nm[BEq α][LawfulBEq α][DecidableEq α](x y:α):(x==y)=decide (x=y):=by
 by_cases h:x=y
 .rw[aR h,h];exact fY y
 .rw[bB h];exact bW.mpr h
def adh(g h:bF):gO (scD g.tidied) (scD h.tidied)=qO g h:=by
 show(gO (nD g.parties.length) (nD h.parties.length)&&(gk (g.seats.map sD) (h.seats.map sD)&&(gk ((holdersOf g).map nD) ((holdersOf h).map nD)&&(gk ((g.tidied.states.map (·.2)).map Zp) ((h.tidied.states.map (·.2)).map Zp)&&true))))=_;rw[IP,IM abQ,IM IP,IM adi,M5];unfold qO;have b1:(g.parties==h.parties)=decide (g.parties=h.parties):=Nm ..;have b2:(g.extras==h.extras)=decide (g.extras=h.extras):=Nm ..;have b3:((g.tidied.states.map λs=>s.2)==(h.tidied.states.map λs=>s.2))=decide ((g.tidied.states.map (·.2))=(h.tidied.states.map (·.2))):=Nm ..;rw[b1,b2,b3,←fR,←fR,←fR,←fR,←fR];calc jj.mpr ⟨?_,λ⟨G,h2,h3⟩=>⟨by rw[G],by unfold bF.seats;rw[G,h2],by unfold holdersOf;rw[G,h2],h3⟩⟩;rintro ⟨G,h2,h3,h4⟩;unfold bF.seats at h2;let⟨p1,p2⟩:=YY h2 G;unfold holdersOf at h3;let⟨_,p3⟩:=YY h3 (by rw[G]);calc⟨p1,?_,h4⟩;apply lK;intro i;have e1:=congrArg (λl=>l[i]?) p2;have e2:=congrArg (λl=>l[i]?) p3;simp only[aH]at e1 e2;cases q1:g.extras[i]?with
 |none=>rw[q1]at e1;cases q2:h.extras[i]?with
  |none=>rfl
  |some y=>rw[q2]at e1;cases e1
 |some x=>rw[q1]at e1 e2;cases q2:h.extras[i]?with
  |none=>rw[q2]at e1;cases e1
  |some y=>
   rw[q2]at e1 e2;have e1:=aL e1;have e2:=aL e2;rw[aj3 e1 e2]
def Hh{α:Type}{f:α->jY}(h:∀x,(f x).canLay0=true):∀xs:List α,fK (xs.map f)=true
 |[]=>rfl
 |x::xs=>by
  show((f x).canLay0&&fK (xs.map f))=true;rw[h x,Hh h xs];rfl
theorem Hf{α:Type}{f:α->jY}{n:Nat}(h:∀x,(f x).depth<=n):∀xs:List α,fO (xs.map f)<=n
 |[]=>b7 _
 |x::xs=>by
  show max (f x).depth (fO<|xs.map f)<=n;have:=h x;have:=Hf h xs
  lia
def ab6(b:bL):(sD b).canLay0=true:=by
 show Zy (sw<|nb b)=true;unfold Zy sw;rw[Array.all_eq_true_iff_forall_mem];intro c hc;simp only[List.mem_toArray]at hc;unfold nb at hc;let⟨u,_,rfl⟩:=b6.mp hc;have:=u.toNat_lt;exact aR 'o'
def ahW(r:qN):(rD r).canLay0=true:=Hh (λ_=>rfl) _
def ahV(b:jg):(Zd b).canLay0=true:=by
 show((sD b.label).canLay0&&(fK (b.ranges.map rD)&&(fK (b.hands.map nD)&&(true&&true))))=true;rw[ab6,Hh ahW,Hh λ_=>rfl];rfl
def adY(n:kP):(Zp n).canLay0=true:=by
 show(true&&(fK ((lT n).map nD)&&(fK ((eE n).map nD)&&(fK ((Ex n).map Zd)&&true))))=true;rw[Hh λ_=>rfl,Hh λ_=>rfl,Hh ahV];rfl
theorem agP(r:qN):(rD r).depth<=1:=by
 show fO ((rangeRow r).map .int)+1<=1;have:=Hf (f:=acI) (n:=0) (λ_=>aT _) (rangeRow r)
 lia
theorem agO(b:jg):(Zd b).depth<=3:=by
 show max 0 (max (fO (b.ranges.map rD)+1)<|max (fO (b.hands.map nD)+1)<|max 0 0)+1<=3;have:=Hf agP b.ranges;have:=Hf (f:=nD) (n:=0) (λ_=>aT _) b.hands
 lia
theorem ada(n:kP):(Zp n).depth<=5:=by
 show max 0 (max (fO ((lT n).map nD)+1)<|max (fO ((eE n).map nD)+1)<|max (fO ((Ex n).map Zd)+1) 0)+1<=5;have:=Hf (f:=nD) (n:=0) (λ_=>aT _)<|lT n;have:=Hf (f:=nD) (n:=0) (λ_=>aT _)<|eE n;have:=Hf agO (Ex n)
 lia
theorem MR(g:bF):l8 (scD g)=true:=by
 unfold l8;rw[bI];constructor
 .show(true&&(fK (g.seats.map sD)&&(fK ((holdersOf g).map nD)&&(fK ((g.states.map (·.2)).map Zp)&&true))))=true;rw[Hh ab6,Hh λ_=>rfl,Hh adY];rfl
 .calc aR ?_;show max 0 (max (fO (g.seats.map sD)+1) (max (fO ((holdersOf g).map nD)+1) (max (fO ((g.states.map (·.2)).map Zp)+1) 0)))+1<=64;have:=Hf (f:=sD) (n:=0) (λ_=>aT _) g.seats;have:=Hf (f:=nD) (n:=0) (λ_=>aT _)<|holdersOf g;have:=Hf ada (g.states.map (·.2))
  lia
inductive Zb (A:O->Prop) (H:Hp) (v:V) (b:jg):Prop
 |mk (p u2 u3:_) (k0:v= .ref p) (k1:H p=some (.tup [.str (sw (nb b.label)),u2,u3,.int (b.to:Int)])) (k2:RL A mw H u2 b.ranges) (k3:kI A H u3 b.hands)
inductive Wz (A:O->Prop) (H:Hp) (v:V) (n:kP):Prop
 |mk (p u3 u4 u5:_) (k0:v= .ref p) (k1:H p=some (.tup [.int (i8 n),u3,u4,u5])) (k2:kI A H u3 (lT n)) (k3:kI A H u4 (eE n)) (k4:RL A (Zb A) H u5 (Ex n))
inductive RTn (A:O->Prop) (H:Hp) (v:V) (g:bF):Prop
 |mk (p u2 u3 u4:_) (k0:v= .ref p) (k1:H p=some (.tup [.int (g.parties.length:Int),u2,u3,u4])) (k2:uL A H u2 g.seats) (k3:kI A H u3 (holdersOf g)) (k4:RL A (Wz A) H u4 (g.states.map (·.2)))
def Zb.kp{b:jg}(h:Zb A H v b)(k:Kp a A H U):Zb A U v b:=let⟨p,u2,u3,e,h,G,h2⟩:=h;⟨p,u2,u3,e,k.tup _ _ h,G.kp k λ_ _ h=>h.kp k,h2.kp k⟩
def Zb.mono{b:jg}(h:Zb A H v b)(k:∀z,A z->B z):Zb B H v b:=let⟨p,u2,u3,e,h,G,h2⟩:=h;⟨p,u2,u3,e,h,G.mono k λ_ _ h=>h,h2.mono k⟩
def Wz.kp{n:kP}(h:Wz A H v n)(k:Kp a A H U):Wz A U v n:=let⟨p,u3,u4,u5,e,h,G,h2,h3⟩:=h;⟨p,u3,u4,u5,e,k.tup _ _ h,G.kp k,h2.kp k,h3.kp k λ_ _ h=>h.kp k⟩
def Wz.mono{n:kP}(h:Wz A H v n)(k:∀z,A z->B z):Wz B H v n:=let⟨p,u3,u4,u5,e,h,G,h2,h3⟩:=h;⟨p,u3,u4,u5,e,h,G.mono k,h2.mono k,h3.mono k λ_ _ h=>h.mono k⟩
def RTn.kp(h:RTn A H v g)(k:Kp a A H U):RTn A U v g:=let⟨p,u3,u4,u5,e,h,G,h2,h3⟩:=h;⟨p,u3,u4,u5,e,k.tup _ _ h,G.kp k,h2.kp k,h3.kp k λ_ _ h=>h.kp k⟩
def abP{α:Type}{R:V->α->Prop}{f:α->jY}(h:∀v x,R v x->Dp K H v (f x)):∀{S:List V} {xs:List α},fE R S xs->C3 K H S (xs.map f)
 |_,_,.nil=> .nil
 |_,_,.cons r t=> .cons (h _ _ r) (abP h t)
def Ph{α:Type}{w:α->V}{f:α->jY}(h:∀x,Dp K H (w x)<|f x):∀xs:List α,C3 K H (xs.map w) (xs.map f)
 |[]=> .nil
 |x::r=> .cons (h x) (Ph h r)
def mw.dp{r:qN}(h:mw H v r):Dp K H v<|rD r:=let⟨x,e,q⟩:=h;e▸ .tup (oS.of q) (Ph (λi=> .int i) _)
def kI.dp(h:kI A H v xs):Dp K H v<|.list<|xs.map nD:=let⟨l,e,_,q⟩:=h;e▸ .lst (cP.of q) (Ph (λi=> .int _) _)
def uL.dp{xs:List bL}(h:uL A H v xs):Dp K H v<|.list<|xs.map sD:=let⟨l,e,_,q⟩:=h;e▸ .lst (cP.of q) (Ph (λi=> .str _) _)
def RL.dp{R:Hp->V->α->Prop}{f:α->jY}{xs:List α}(h:RL A R H v xs)(m:∀v x,R H v x->Dp K H v (f x)):Dp K H v<|.list<|xs.map f:=let⟨l,S,e,_,q,al⟩:=h;e▸ .lst (cP.of q) (abP m al)
def Zb.dp{b:jg}(h:Zb A H v b):Dp K H v<|Zd b:=let⟨p,u2,u3,e,h,G,h2⟩:=h;e▸ .tup (oS.of h) (.cons (.str _)<|.cons (G.dp λ_ _ q=>q.dp)<|.cons h2.dp<|.cons (.int _) .nil)
def Wz.dp{n:kP}(h:Wz A H v n):Dp K H v<|Zp n:=let⟨p,u3,u4,u5,e,h,G,h2,h3⟩:=h;e▸ .tup (oS.of h) (.cons (.int _)<|.cons G.dp<|.cons h2.dp<|.cons (h3.dp λ_ _ q=>q.dp) .nil)
def RTn.dp(h:RTn A H v g):Dp K H v<|scD g:=let⟨p,u3,u4,u5,e,h,G,h2,h3⟩:=h;e▸ .tup (oS.of h) (.cons (.int _)<|.cons G.dp<|.cons h2.dp<|.cons (h3.dp λ_ _ q=>q.dp) .nil)
inductive VD (a:g9) (S:List V) (H:Hp) (Q:VK) (rq:XK):Prop
 |mk (v:V) (s:bL×kP) (A:O->Prop) (k0:S=[v]) (k1:nY a A H v s) (k2:(Ex s.2).length<=8) (k3:(∀z,H z=none->A z)) (k4:∀v' U,aN H U->Wz A U v' s.2->Q v' U)
inductive amJ (a:g9) (S:List V) (H:Hp) (Q:VK) (rq:XK):Prop
 |mk (v:V) (g:bF) (A:O->Prop) (k0:S=[v]) (k1:jX a A H v g) (k2:(∀s,(g.branches s).length<=8)) (k3:g.states.length<=64) (k4:(∀z,H z=none->A z)) (k5:∀v' U,aN H U->RTn A U v' g->Q v' U)
inductive aaT (a:g9) (S:List V) (H:Hp) (Q:VK) (rq:XK):Prop
 |mk (v u:V) (g h:bF) (A B:O->Prop) (k0:S=[v,u]) (k1:jX a A H v g) (k2:jX a B H u h) (k3:GM.Good g) (k4:GM.Good h) (k5:(∀z,H z=none->A z)) (k6:(∀z,H z=none->B z)) (k7:∀U,aN H U->Q (.bl (qO g h)) U)
theorem Dy(T:Txt K mg a):jM P w K mg base 1 a "nameless_state" ["state"]<|VD a:=by
 refine T.yJ.fn.ok tP ?_ ?_
 .right
 .ext⟨v,s',A',rfl,hS,h8,fr,k⟩;have nd:=tP.nd;refine⟨_,aj (yV (i:=1) (own:=[("branch",2)]) Y nd Y Y (Av Y Y Y Y) (gc<|bE T.State<|J 0) (gq 'r') (λ_ _ _ _ _=>(xX 2 nd)) (λ_ _ _ _ _=>iF) λ_ _ _ _ _=>mC<|aD (bE T.Branch<|J 2)<|aD (bE T.Branch<|J 2)<|aD (bE T.Branch<|J 2)<|bM<|bE T.Branch<|J 2)<|aF<|bq<|mC<|aD (bE T.State<|J 0)<|aD (bE T.State<|J 0)<|aD (bE T.State<|J 0)<|bM<|J 1,?_⟩
  left
  let⟨x,u3,u4,u5,rfl,hx,h3,h4,⟨l5,MZ,rfl,c5,ET,t9⟩⟩:=hS;refine Ca (Dk (L:=H) (a:=l5) (xs:=MZ) (atG:= λD j y H=>∃b,(Ex s'.2)[j]? =some b/\Zb (λz=>A' z/\z≠D) H y b) (λR r=>⟨_,Y,x,_,_,Y,hx,Y,r⟩) (cP.of ET) (by rw[t9.len,aW];lia) (by rintro D j y H U ys hD ⟨b,e,q⟩ s;exact⟨b,e,q.kp (a:=a)<|(Kp.Ly s hD).mono λz h=>h.2⟩) (λD j y H3 nD hy p R r=>?_) λD H3 nD p=>?_)
  .let⟨b,hb,qb⟩:=t9.get' hy;let⟨y0,w2,w3,rfl,Q4,r2,r3⟩:=(oR.ne qb nD).same p.same;refine⟨_,Y,y0,_,_,Y,Q4,Y,_,Y,y0,_,_,Y,Q4,Y,_,Y,y0,_,_,Y,Q4,Y,_,Y,y0,_,_,Y,Q4,Y,jH 4,λt nt=>r _ _ (aN.new nt) ⟨b,hb,t,w2,w3,Y,aq,?_,?_⟩⟩
   .exact r2.Uk (aN.new nt) (by rintro _ _ ⟨y,e,q⟩;exact⟨y,e,(aN.new nt) _ _ q⟩)
   .let⟨l,e,q,h⟩:=r3;exact⟨l,e,q,(aN.new nt) _ _ h⟩
  .let⟨ys,hD,ly,gy⟩:=p.lst;have F3:=hx.same p.same;calc⟨_,Y,x,_,_,Y,F3,Y,_,Y,x,_,_,Y,F3,Y,_,Y,x,_,_,Y,F3,Y,_,Y,jH 4,λt nt=>?_⟩;have s4:aN H3<|upd H3 t<|.tup [.int<|i8 s'.2,u3,u4,.ref D]:=aN.new nt;have s5:=p.same.trans s4;have kp:Kp a A' H _:=Kp.same s5;calc k _ _ s5 ⟨t,u3,u4,.ref D,Y,aq,h3.kp kp,h4.kp kp,⟨D,ys,Y,fr _ nD,s4 _ _ hD,?_⟩⟩;calc fE.of_get (by rw[ly,t9.len]) λj y b e1 e2=>?_;let⟨b',eb,q⟩:=gy j y e1;rw[eb]at e2;obtain rfl:=aL e2;exact(q.mono λz h=>h.1).kp (a:=a) (Kp.same s4)
theorem Gh(T:Txt K mg a):jM P w K mg base 2 a "nameless" ["script"]<|amJ a:=by
 refine T.Js.fn.ok GP ?_ ?_
 .right
 .ext⟨v,g,A',rfl,hS,Ti,NF,fr,k⟩;have nd:=GP.nd;refine⟨_,aj (yV (i:=1) (own:=[("state",2)]) Y nd Y Y (Av Y Y Y Y) (gc<|bE T.Script<|J 0) (gq 'r') (λ_ _ _ _ _=>(xX 2 nd)) (λ_ _ _ _ _=>iF) λ_ _ _ _ _=>c8 T.yJ (Dy T) hr.mn<|bM<|J 2)<|aF<|bq<|mC<|aD (bE T.Script<|J 0)<|aD (bE T.Script<|J 0)<|aD (bE T.Script<|J 0)<|bM<|J 1,?_⟩
  left
  let⟨x,u3,u4,u6,rfl,hx,h3,h4,⟨l6,xE,rfl,c6,qD,qQ⟩⟩:=hS;refine Ca (Dk (L:=H) (a:=l6) (xs:=xE) (atG:= λD j y H=>∃b,g.states[j]? =some b/\Wz (λz=>A' z/\z≠D) H y b.2) (λR r=>⟨_,Y,x,_,_,Y,hx,Y,r⟩) (cP.of qD) (by rw[qQ.len,aW];lia) (by rintro D j y H U ys hD ⟨b,e,q⟩ s;exact⟨b,e,q.kp (a:=a)<|(Kp.Ly s hD).mono λz h=>h.2⟩) (λD j y H3 nD hy p R r=>?_) λD H3 nD p=>?_)
  .let⟨b,hb,qb⟩:=qQ.get' hy;have hj:=(au.mp hb).1;have eb:b=(g.stateName j,g.node j):=by
    rw[←GM.oE hj];exact(aL<|(aK hj).symm.trans hb).symm
   let⟨ys,hD,_,_⟩:=p.lst;refine⟨_,Y,y,b,_,Y,(qb.ne nD).same p.same,by rw[eb,yr];exact Ti j,λz hz=>⟨fr z<|p.same.free hz,λe=>by rw[e,hD]at hz;cases hz⟩,λv' H4 s4 q4=>r _ _ s4 ⟨b,hb,q4⟩⟩
  .let⟨ys,hD,ly,gy⟩:=p.lst;have F3:=hx.same p.same;calc⟨_,Y,x,_,_,Y,F3,Y,_,Y,x,_,_,Y,F3,Y,_,Y,x,_,_,Y,F3,Y,_,Y,jH 4,λt nt=>?_⟩;have s4:aN H3<|upd H3 t<|.tup [.int (g.parties.length:Int),u3,u4,.ref D]:=aN.new nt;have s5:=p.same.trans s4;have kp:Kp a A' H _:=Kp.same s5;calc k _ _ s5 ⟨t,u3,u4,.ref D,Y,aq,h3.kp kp,h4.kp kp,⟨D,ys,Y,fr _ nD,s4 _ _ hD,?_⟩⟩;calc fE.of_get (by rw[ly,ai,qQ.len]) λj y b e1 e2=>?_;let⟨b',eb,q⟩:=gy j y e1;rw[aH,eb]at e2;obtain rfl:=aL e2;exact(q.mono λz h=>h.1).kp (a:=a) (Kp.same s4)
def NV(T:Txt K mg a):jM P w K mg base 5 a "are_alike" ["one","other"]<|aaT a:=by
 refine T.L7.fn.ok Oi ?_ ?_
 .right
 .ext⟨v,u,g,h,A',B',rfl,hG,hH,gg,gh,fA,fB,k⟩;refine⟨_,aF<|bq<|pR (Se hr.units) (c8 T.Js (Gh T) hr.mn<|bM<|c8 T.tidied (Ff T) hr.mn<|bM<|J 0) (c8 T.Js (Gh T) hr.mn<|bM<|c8 T.tidied (Ff T) hr.mn<|bM<|J 1)<|dh _,?_⟩
  left
  have tg:=GM.KU gg;have th:=GM.KU gh;calc⟨_,Y,v,g,A',Y,hG,gg.topV,fA,λv1 L s1 q1=>⟨v1,g.tidied,A',Y,q1,λs=>tg.br s,tg.sl,λz hz=>fA z<|s1.free hz,λv2 H2 s2 q2=>?_⟩⟩;have AI:=s1.trans s2;calc⟨_,Y,u,h,B',Y,hH.same AI,gh.topV,λz hz=>fB z<|AI.free hz,λv3 H3 s3 q3=>⟨v3,h.tidied,B',Y,q3,λs=>th.br s,th.sl,λz hz=>fB z<|(AI.trans s3).free hz,λv4 H4 s4 q4=>?_⟩⟩;calc⟨scD g.tidied,scD h.tidied,(q2.kp (a:=a)<|Kp.same<|s3.trans s4).dp,q4.dp,MR _,MR _,?_⟩;rw[adh];exact k _ ((AI.trans s3).trans s4)
abbrev iZ(l:List Int):List V:=l.map V.int
def NI(l:List Nat):iZ (l.map λ(n:Nat)=>(n:Int))=iN l:=by unfold iZ iN;rw[dB];rfl
def Z8(b:bL):iZ (mq b)= .int (b.length:Int)::iv (nb b):=by
 unfold iZ mq iv nb;rw[bK,dB,dB];rfl
noncomputable def DE(ps:List<|Nat×Nat):List Int:=(ps.length:Int)::ps.flatMap λx=>[(x.1:Int),(x.2:Int)]
def EJ(H:Hp)(l:List Int)(Q:VK):Prop:=∀D U,aN H U->H D=none->U D=some (.lst<|iZ l)->Q (.ref D) U
inductive aaZ (K:aJ) (S:List V) (H:Hp) (Q:VK) (rq:XK):Prop
 |mk (i:Int) (t:O) (xs:List V) (k0:S=[.int i,.ref t]) (k1:cP K H t xs) (k2:Q (.bl (decide (0<=i/\i<(xs.length:Int)))) H)
inductive YC (S:List V) (H:Hp) (Q:VK) (rq:XK):Prop
 |mk (b:bL) (k0:S=[.str (sw (nb b))]) (k1:b.length<=100000) (k2:EJ H (mq b) Q)
inductive aa0 (S:List V) (H:Hp) (Q:VK) (rq:XK):Prop
 |mk (p:O) (us:List V) (ps:List (Nat×Nat:_)) (k0:S=[.ref p]) (k1:H p=some (.lst us)) (k2:t8 H us ps) (k3:ps.length<=10000) (k4:EJ H (DE ps) Q)
inductive aiB (a:g9) (S:List V) (H:Hp) (Q:VK) (rq:XK):Prop
 |mk (v:V) (b:jg) (A:O->Prop) (k0:S=[v]) (k1:oR a A H v b) (k2:b.ranges.length<=4) (k3:b.hands.length<=2) (k4:b.label.length<=16) (k5:EJ H (HP (jJ b)) Q)
def iO(T:Txt K mg a):jM P w K mg base 1 a "is_number_in" ["number","things"]<|aaZ K:=by
 refine T.jG.fn.ok HD ?_ ?_
 .right
 .ext⟨i,t,xs,rfl,hS,k⟩;refine⟨_,aF<|bq<|DF T3 yR bR (J 0)<|cy bQ 'r' T.gB bC<|bM<|J 1,?_⟩
  left
  calc⟨_,Y,_,_,Y,Y,_,Y,?_⟩;by_cases c:(0:Int)<=i
  .calc qS (aR c) ⟨_,Y,t,_,Y,.inl hS,_,_,Y,Y,?_⟩;show Q (.bl<|decide<|i<(xs.length:Int)) H;rw[show decide (i<(xs.length:Int))=decide (0<=i/\i<(xs.length:Int))from jj.mpr ⟨λh=>⟨c,h⟩,λh=>h.2⟩];exact k
  .calc o7 (dF c) ?_;rw[bB λh=>c h.1]at k;exact k
theorem qV(T:Txt K mg a):jM P w K mg base 2 a "told_text" ["word"] YC:=by
 refine T.vA.fn.ok Ol ?_ ?_
 .right
 .ext⟨b,rfl,hb,k⟩;refine⟨_,aF<|bq<|fZ qx (cg<|bM<|cy vW 'r' T.gB bC<|bM<|J 0)<|c8 T.spelled (wj T) hr.mn<|bM<|J 0,?_⟩
  left
  have ln:(sw<|nb b).length=b.length:=zV b;calc⟨_,Y,_,Y,by rw[ln,aW];lia,jH 1,λD1 n1=>?_⟩;rw[ln];have s1:aN H<|upd H D1<|.lst [.int (b.length:Int)]:=aN.new n1;have G:(upd H D1<|.lst [.int (b.length:Int)]) D1=some (.lst [.int (b.length:Int)]):=aq;generalize upd H D1 (.lst [.int (b.length:Int)])=L at s1 G⊢;calc⟨_,Y,_,Y,by rw[ln];exact hb,λD2 H2 s2 n2 h2=>?_⟩;refine⟨D1,D2,_,_,Y,Y,s2 _ _ G,h2,?_,λD3 n3=>?_⟩
  .show 1+(iv<|nb b).length<=sizeLine;rw[show(iv<|nb b).length=b.length by unfold iv nb;rw[ai,ai],aW];lia
  .calc k D3 _ ((s1.trans s2).trans (aN.new n3)) ((s1.trans s2).free n3) ?_;rw[aq,Z8];rfl
theorem um(T:Txt K mg a):jM P w K mg base 1 a "told_pairs" ["pairs"] aa0:=by
 refine T.wB.fn.ok BQ ?_ ?_
 .right
 .ext⟨p,us,ps,rfl,hp,rp,hl,k⟩;have nd:=BQ.nd;refine⟨_,aj (iy 1 nd<|cg<|bM<|cy bQ 'r' T.gB bC<|bM<|J 0)<|aj (lS dN Y (gc<|J 0) (xX 2 nd)<|aF<|bV<|gR aM cz cW Jq (J 1)<|bM<|J 2)<|aF<|bq<|J 1,?_⟩
  left
  have ul:=rp.len;calc⟨_,Y,p,_,Y,.inl<|cP.of hp,jH 1,λD n=>?_⟩;rw[ul];have s1:aN H<|upd H D<|.lst [.int (ps.length:Int)]:=aN.new n;have G:(upd H D<|.lst [.int (ps.length:Int)]) D=some (.lst<|iZ<|(ps.length:Int)::(ps.take 0).flatMap λx=>[(x.1:Int),(x.2:Int)]):=aq;generalize upd H D (.lst [.int (ps.length:Int)])=L at s1 G⊢;refine⟨_,Y,p,Y,⟨_,cP.of<|s1 _ _ hp⟩,mL (K:=K) (a:=p) (xs:=us) (λi Z U=>∃v:Option V,A3 (Z=[some<|.ref p,some<|.ref D,v]) (aN H U)<|U D=some (.lst<|iZ<|(ps.length:Int)::(ps.take i).flatMap λx=>[(x.1:Int),(x.2:Int)])) ⟨none,Y,s1,G⟩ (by rintro i Z U _ ⟨_,_,sm,_⟩;exact cP.of<|sm _ _ hp) ?_ ?_⟩
  .rintro i u Z U hu ⟨v,rfl,sm,hD⟩;let⟨m,hm,⟨t,rfl,ht⟩⟩:=rp.get' hu;have il:=(au.mp hm).1;have fl:((ps.take i).flatMap λx=>[(x.1:Int),(x.2:Int)]).length=2*(ps.take i).length:=by
    induction ps.take i with
    |nil=>rfl
    |cons y r ih=>rw[gV,ak,ih,ay];show 2+2*r.length=2*(r.length+1);lia
   refine⟨_,Y,.inl ⟨Y,_,cP.of hD⟩,_,Y,D,t,_,_,Y,Y,hD,sm _ _ ht,?_,?_⟩
   .rw[ai,ay,fl,dW,aW];show _+2<=_
    lia
   .calc⟨_,Y,aN.put sm n,?_⟩;rw[aq,take_snoc hm,gX,kG];unfold iZ;simp
  .rintro Z U ⟨v,rfl,sm,hD⟩;rw[ul,iC]at hD;exact⟨_,Y,k D U sm n hD⟩
theorem DK:∀rs:List qN,(rs.flatMap rangeRow).length<=rs.length*3
 |[]=>b7 _
 |r::rs=>by
  have:=DK rs;have h:(rangeRow r).length<=3:=by cases r<;>simp[rangeRow]
  rw[gV,ak,ay]
  lia
theorem JP(T:Txt K mg a):jM P w K mg base 3 a "told_branch" ["branch"]<|aiB a:=by
 refine T.G0.fn.ok zP ?_ ?_
 .right
 .ext⟨v,b,A',rfl,hB,r4,h2,l16,k⟩;have nd:=zP.nd;refine⟨_,aj (iy 1 nd<|cg<|aD (bE T.Branch<|J 0)<|bM<|cy bQ 'r' T.gB bC<|bM<|bE T.Branch<|J 0)<|aj (lS dN Y (gc<|bE T.Branch<|J 0) (xX 2 nd)<|aF<|bV<|gR aM cz cW Jq (J 1)<|bM<|J 2)<|aj (bV<|gR aM bh bw d9 (J 1)<|bM<|cy bQ 'r' T.gB bC<|bM<|bE T.Branch<|J 0)<|aj (bV<|gR aM cz cW kR (J 1)<|bM<|bE T.Branch<|J 0)<|aF<|bq<|fZ qx (J 1)<|c8 T.vA (qV T) hr.mn<|bM<|bE T.Branch<|J 0,?_⟩
  left
  let⟨x,u2,u3,rfl,hx,⟨l2,us2,rfl,c2,Tn,al2⟩,⟨l3,rfl,c3,CW⟩⟩:=hB;have ul:=al2.len;calc⟨_,Y,x,_,_,Y,hx,Y,_,Y,x,_,_,Y,hx,Y,l2,_,Y,.inl<|cP.of Tn,jH 2,λD n=>?_⟩;rw[ul];have s1:aN H<|upd H D<|.lst [.int (b.to:Int),.int (b.ranges.length:Int)]:=aN.new n;have G:(upd H D<|.lst [.int (b.to:Int),.int (b.ranges.length:Int)]) D=some (.lst<|iZ<|(b.to:Int)::(b.ranges.length:Int)::(b.ranges.take 0).flatMap rangeRow):=aq;generalize upd H D (.lst [.int (b.to:Int),.int (b.ranges.length:Int)])=L at s1 G⊢;refine⟨_,Y,x,_,_,Y,hx.same s1,Y,l2,Y,⟨_,cP.of<|s1 _ _ Tn⟩,mL (K:=K) (a:=l2) (xs:=us2) (λi Z U=>∃v:Option V,A3 (Z=[some<|.ref x,some<|.ref D,v]) (aN H U)<|U D=some (.lst<|iZ<|(b.to:Int)::(b.ranges.length:Int)::(b.ranges.take i).flatMap rangeRow)) ⟨none,Y,s1,G⟩ (by rintro i Z U _ ⟨_,_,sm,_⟩;exact cP.of<|sm _ _ Tn) ?_ ?_⟩
  .rintro i u Z U hu ⟨v,rfl,sm,hD⟩;let⟨m,hm,⟨t,rfl,ht⟩⟩:=al2.get' hu;have il:=(au.mp hm).1;have fl:=DK<|b.ranges.take i;have h3:(rangeRow m).length<=3:=by cases m<;>simp[rangeRow]
   rw[dW]at fl;refine⟨_,Y,.inl ⟨Y,_,cP.of hD⟩,_,Y,D,t,_,_,Y,Y,hD,sm _ _ ht,?_,?_⟩
   .rw[ai,ai,ay,ay,aW]
    lia
   .calc⟨_,Y,aN.put sm n,?_⟩;rw[aq,take_snoc hm,gX,kG];unfold iZ;simp
  .rintro Z U ⟨v,rfl,sm,hD⟩;rw[ul,iC]at hD;have fl:=DK b.ranges;have Zk:=hx.same sm;calc⟨_,Y,.inl ⟨Y,_,cP.of hD⟩,_,Y,x,_,_,Y,Zk,Y,l3,_,Y,.inl<|cP.of<|sm _ _ CW,D,_,_,Y,Y,hD,by rw[ai,ay,ay,aW];lia,?_⟩;have s2:aN H<|upd U D<|.lst<|iZ ((b.to:Int)::(b.ranges.length:Int)::b.ranges.flatMap rangeRow)++[.int (((b.hands.map λi:Nat=>V.int (i:Int)).length:Nat):Int)]:=aN.put sm n;have Z4:(upd U D<|.lst<|iZ ((b.to:Int)::(b.ranges.length:Int)::b.ranges.flatMap rangeRow)++[.int (((b.hands.map λi:Nat=>V.int (i:Int)).length:Nat):Int)]) D=some (.lst<|iZ ((b.to:Int)::(b.ranges.length:Int)::b.ranges.flatMap rangeRow)++[.int (b.hands.length:Int)]):=by rw[aq,ai]
   generalize upd U D (.lst<|iZ ((b.to:Int)::(b.ranges.length:Int)::b.ranges.flatMap rangeRow)++[.int (((b.hands.map λi:Nat=>V.int (i:Int)).length:Nat):Int)])=H2 at s2 Z4⊢;refine⟨_,Y,.inl ⟨Y,_,cP.of Z4⟩,_,Y,x,_,_,Y,hx.same s2,Y,D,l3,_,_,Y,Y,Z4,s2 _ _ CW,?_,?_⟩
   .rw[ak,ai,ai,ay,ay,aI,aW];lia
   have s3:aN H<|upd H2 D<|.lst<|iZ ((b.to:Int)::(b.ranges.length:Int)::b.ranges.flatMap rangeRow)++[.int (b.hands.length:Int)]++iN b.hands:=aN.put s2 n;have h3':(upd H2 D<|.lst<|iZ ((b.to:Int)::(b.ranges.length:Int)::b.ranges.flatMap rangeRow)++[.int (b.hands.length:Int)]++iN b.hands) D=some (.lst<|iZ ((b.to:Int)::(b.ranges.length:Int)::b.ranges.flatMap rangeRow)++[.int (b.hands.length:Int)]++iN b.hands):=aq;generalize upd H2 D (.lst<|iZ ((b.to:Int)::(b.ranges.length:Int)::b.ranges.flatMap rangeRow)++[.int (b.hands.length:Int)]++iN b.hands)=H3 at s3 h3'⊢;calc⟨_,Y,_,Y,x,_,_,Y,hx.same s3,Y,b.label,Y,'l',λD4 H4 s4 n4 h4=>?_⟩;refine⟨D,D4,_,_,Y,Y,s4 _ _ h3',h4,?_,λD5 n5=>?_⟩
   .rw[ak,ak,ai,ai,ai,ay,ay,aI,aW];show _+(mq b.label).length<=_;unfold mq;rw[ay,ai]
    lia
   .calc k D5 _ ((s3.trans s4).trans (aN.new n5)) ((s3.trans s4).free n5) ?_;rw[aq];unfold HP jJ;rw[←NI];unfold iZ;simp
inductive Dsk (a:g9) (H:Hp) (d:O) (g:bF):Prop
 |mk (A:O->Prop) (sv tv:V) (k0:At (a.c "Desk") H d [("script",sv),("telling",tv)]) (k1:jX a A H sv g) (k2:GM.Good g) (k3:g.parties≠[]) (k4:∀z,H z=none->A z)
inductive Fx (a:g9) (xs:List V) (c:g6) (S:List V) (H:Hp) (Q:VK) (rq:XK):Prop
 |mk (d gv:O) (g:bF) (k0:S=[.ref d,.ref gv]) (k1:Dsk a H d g) (k2:H gv=some (.lst xs)) (k3:EJ H (encode (looked g c)) Q)
inductive Yt {ι:Type} (sp:ι->Sp) (S:List V) (H:Hp) (Q:VK) (E:XK):Prop
 |mk (i:_) (k0:sp i S H Q E)
def UY(e:X.K=K):uK X (.builtin "len")<|Yd K:=e▸bQ
section
variable(g:bF)
def E4(i:Int):looked g (.seat i)=match eT i g.seats.length with
 |some i=>C1 g i
 |none=>bT<|-2:=rfl
def Cq(i:Int):looked g (.state i)=match eT i g.states.length with
 |some i=>kg g i
 |none=>bT<|-2:=rfl
def F9(i j:Int):looked g (.branch i j)=match(eT i g.states.length).bind λs=>(eT j (g.branches s).length).bind λk=>(g.branches s)[k]?with
 |some b=>jJ b
 |none=>bT<|-2:=rfl
def Mt(b:bL):looked g (.find b)=match Vasesa.place (g.states.map λs=>s.1) b with
 |some i=>iD i
 |none=>bT<|-9:=rfl
def Jm(i:Int):looked g (.reach i)=match eT i g.states.length with
 |some i=>tZ (g.reach i)
 |none=>bT<|-2:=rfl
def Jo(i:Int):looked g (.route i)=match eT i g.states.length with
 |some i=>(match g.route i with
  |some w=>Nd w
  |none=>bT<|-4)
 |none=>bT<|-2:=rfl
def Jl(b:bL):looked g (.alike b)=match gD b with
 | .ok h=>iD (qO g h).toNat
 | .error _=>bT<|-3:=rfl
def cb1{r:List V->Hp->VK->Prop}(h:te Z H λx L=>r [x] L Q):tCB r (gf te m9) Z H Q:=h
theorem mZ{i:Int}(e:i=(k:Int))(h:k<n):eT i n=some k:=by
 unfold eT;rw[aG 'l',e,iR]
def mY{i:Int}(h:¬(0<=i/\i<(n:Int))):eT i n=none:=az h
def ie{l:List Int}(k:EJ H l Q){xs:List V}(s:aN H U)(n:U D=none)(e:xs=iZ l):Q (.ref D)<|upd U D<|.lst xs:=k D _ (s.trans<|aN.new n) (s.free n) (by rw[aq,e])
end
def JB(T:Txt K mg a):jM P w K mg base 5 a "answer_show" ["desk","given"]<|Fx a [] .show:=by
 refine T.yo.fn.ok Kr ?_ ?_
 .right
 .ext⟨d,gv,g,rfl,⟨A',sv,tv,hd,hS,gd,pn,fr⟩,hg,k⟩;refine⟨_,aF<|bq<|c8 T.vA (qV T) hr.mn<|bM<|c8 T.JQ (Gi T) hr.mn<|bM<|bE T.lH<|J 0,?_⟩
  left
  calc⟨_,Y,d,_,_,Y,hd,Y,sv,g,A',Y,hS,gd.topV,pn,λL s1=>⟨g.shown,Y,bH gd.sh 'd',λD U s n h=>k D U (s1.trans s) (s1.free n) ?_⟩⟩;rw[h];rfl
theorem Hq(T:Txt K mg a):jM P w K mg base 1 a "answer_sizes" ["desk","given"]<|Fx a [] .sizes:=by
 refine T.vS.fn.ok xr ?_ ?_
 .right
 .ext⟨d,gv,g,rfl,⟨A',sv,tv,hd,hS,gd,pn,fr⟩,hg,k⟩;have nd:=xr.nd;refine⟨_,aj (iy 2 nd<|bE T.lH<|J 0)<|aj (iy 3 nd<|fZ yS (cy bQ 'r' T.gB bC<|bM<|bE T.Script<|J 2)<|bE T.Script<|J 2)<|aj (iy 4 nd<|cy (ac7 Y) 'r' T.gB 'd'<|bM<|tD (own:=[("state",5)]) Y nd (gc<|bE T.Script<|J 2) (gq 'r') (λ_ _ _ _ _=>(xX 5 nd)) (λ_ _ _ _ _=>iF) λ_ _ _ _ _=>cy (UY (K:=K) Y) 'r' T.gB bC<|bM<|bE T.State<|J 5)<|aF<|bq<|cg<|aD (bE T.Script<|J 2)<|aD (J 3)<|aD (cy bQ 'r' T.gB bC<|bM<|bE T.Script<|J 2)<|aD (bE T.Script<|J 2)<|bM<|J 4,?_⟩
  left
  let⟨x,u3,u4,u6,rfl,hx,⟨l3,rfl,c3,CW⟩,h4,⟨l6,xE,rfl,c6,qD,qQ⟩⟩:=id hS;calc⟨_,Y,d,_,_,Y,hd,Y,?_⟩;calc⟨_,Y,x,_,_,Y,hx,Y,l3,_,Y,.inl<|cP.of CW,_,Y,x,_,_,Y,hx,Y,_,_,Y,Y,?_⟩;show CL (tCB (air K)<|gf (KL (F4 K<|tF (a.c "Script") (gF 2) "states") (ic 5) AM (tCB (Yd K)<|gf (tF (a.c "State") (gF 5) "branches") m9) [5]) m9) (ic 4) _ [some<|.ref d,some<|.ref gv,some<|.ref x,some<|.int<|((g.seats.map λb=>V.str<|sw<|nb b).length:Int)-(g.parties.length:Int),none,none] H;calc Ca<|cb1 ?_;refine pY (xs:=xE) (ys:=iN<|(fh g.states.length).map λs=>(g.branches s).length) (λR r=>⟨_,Y,x,_,_,Y,hx,Y,r _ _ (aN.refl _) qD⟩) (by rw[ai,ai,eG,qQ.len]) (by rw[qQ.len,aW];have:=gd.sl;lia) (λj z H2 hz s2 R r=>?_) λD2 H2 Vo s2 pP=>?_
  .let⟨b,hb,qb⟩:=qQ.get' hz;have hj:=(au.mp hb).1;have eb:b=(g.stateName j,g.node j):=by
    rw[←GM.oE hj];exact(aL<|(aK hj).symm.trans hb).symm
   subst eb;let⟨z0,v3,v4,v5,rfl,hz0,g3,g4,⟨l5,MZ,rfl,c5,ET,t9⟩⟩:=qb.same s2;calc⟨_,Y,z0,_,_,Y,hz0,Y,l5,_,Y,.inl<|cP.of ET,r _ _ (aN.refl _) ?_⟩;rw[aH,aH,B0 hj,t9.len,yr];rfl
  .calc⟨D2,_,Y,cP.of<|by rw[pP,←NI],?_⟩;have OS:=hx.same s2;calc⟨_,Y,x,_,_,Y,OS,Y,_,Y,_,Y,x,_,_,Y,OS,Y,l6,_,Y,.inl<|cP.of<|s2 _ _ qD,_,Y,x,_,_,Y,OS,Y,_,Y,jH 5,λD n=>ie k s2 n ?_⟩;have sl:g.seats.length=g.parties.length+g.extras.length:=by unfold bF.seats;rw[ak,ai]
   have su:∀l:List Nat,(l.map λ(n:Nat)=>(n:Int)).sum=((l.sum:Nat):Int):= λl=>by
    induction l with
    |nil=>rfl
    |cons y r ih=>rw[bK,gS,ih,gS];lia
   show [V.int _,V.int<|((g.seats.map λb=>V.str<|sw<|nb b).length:Int)-(g.parties.length:Int),V.int (xE.length:Int),V.int _,V.int _]=iZ [(g.parties.length:Int),(g.extras.length:Int),(g.states.length:Int),(g.start:Int),_];rw[qQ.len,ai,sl,su,show((g.parties.length+g.extras.length:Nat):Int)-(g.parties.length:Int)=(g.extras.length:Int)by lia];rfl
def tS(a:g9)(f:Int->g6):Sp:=Yt λi:Int=>Fx a [.int i] (f i)
theorem JA(T:Txt K mg a):jM P w K mg base 3 a "answer_seat" ["desk","given"]<|tS a .seat:=by
 refine T.ym.fn.ok zC ?_ ?_
 .right
 .ext⟨i,d,gv,g,rfl,⟨A',sv,tv,hd,hS,gd,pn,fr⟩,hg,k⟩;have nd:=zC.nd;refine⟨_,aj (iy 2 nd<|bE T.lH<|J 0)<|aj (iy 3 nd<|dj ck (J 1) bR λ_ _=>rfl)<|aj (dZ (qz<|fX<|c8 T.jG (iO T) hr.mn<|aD (J 3)<|bM<|bE T.Script<|J 2) (aF<|bq<|cg<|bM<|jh (-2) T) b9)<|aF<|bq<|fZ qx (cg<|bM<|dj ck (bE T.Script<|J 2) (J 3) λ_ _=>rfl)<|c8 T.vA (qV T) hr.mn<|bM<|dj ck (bE T.Script<|J 2) (J 3) λ_ _=>rfl,?_⟩
  left
  obtain⟨x,u3,u4,u6,rfl,hx,⟨l3,rfl,c3,CW⟩,⟨l4,rfl,c4,V9⟩,-⟩:=id hS;calc⟨_,Y,d,_,_,Y,hd,Y,_,Y,gv,_,_,_,Y,Y,cP.of hg,cJ (j:=0) Y,_,Y,_,Y,x,_,_,Y,hx,Y,i,l3,_,Y,cP.of CW,_,Y,?_⟩;rw[ai];by_cases c:0<=i/\i<(g.seats.length:Int)
  .obtain⟨j,rfl⟩:∃j:Nat,i=(j:Int):=⟨i.toNat,'l'⟩;have hj:j<g.seats.length:=by lia
   rw[aR c];have RG:=g7 (qe gd.topV) j;obtain⟨hh,eh⟩:∃hh,(holdersOf g)[j]? =some hh:=⟨_,aK<|by unfold holdersOf;unfold bF.seats at hj;rw[ak,eG,ai];rw[ak,ai]at hj;exact hj⟩;calc m7 ⟨_,Y,x,_,_,Y,hx,Y,_,Y,l4,_,_,_,Y,Y,cP.of V9,Tu eh,jH 1,λD1 n1=>?_⟩;have s1:aN H<|upd H D1<|.lst [.int (hh:Int)]:=aN.new n1;calc⟨_,Y,x,_,_,Y,hx.same s1,Y,_,Y,l3,_,_,_,Y,Y,cP.of<|s1 _ _ CW,Ar hj,g.seatName j,Y,'l',λD2 H2 s2 n2 h2=>?_⟩;refine⟨D1,D2,_,_,Y,Y,s2 _ _ aq,h2,?_,λD3 n3=>ie k (s1.trans s2) n3 ?_⟩
   .show 1+(iZ<|mq<|g.seatName j).length<=sizeLine;unfold mq;rw[ai,ay,ai,aW];lia
   .rw[E4,mZ Y hj];show [V.int (hh:Int)]++iZ (mq<|g.seatName j)=iZ (encode<|C1 g j);unfold encode C1;have:hh=(if j<g.parties.length then j else((g.extras[j-g.parties.length]?).map λe=>e.2).getD 0):=by
     unfold holdersOf at eh;by_cases c2:j<g.parties.length
     .rw[bX<|by rw[eG];exact c2,B0 c2]at eh;rw[aG c2];exact(aL eh).symm
     .rw[dM<|by rw[eG];lia,eG,aH]at eh;rw[az c2,eh];rfl
    rw[←this];rfl
  .rw[bB c];calc oh ⟨jH 1,λD n=>ie k (aN.refl _) n ?_⟩;rw[E4,mY c];rfl
def VI(g:bF)(i:Nat):encode (kg g i)=i8 (g.node i)::((if i8 (g.node i)=1 then(lT<|g.node i).map (λ(n:Nat)=>(n:Int))++[((g.branches i).length:Int)]else [])++((if i8 (g.node i)=2 then(eE<|g.node i).map (λ(n:Nat)=>(n:Int))else [])++mq (g.stateName i))):=by
 unfold encode kg bF.branches;cases g.node i<;>simp[i8,lT,eE]
theorem Hr(T:Txt K mg a):jM P w K mg base 3 a "answer_state" ["desk","given"]<|tS a .state:=by
 refine T.vU.fn.ok xu ?_ ?_
 .right
 .ext⟨i,d,gv,g,rfl,⟨A',sv,tv,hd,hS,gd,pn,fr⟩,hg,k⟩;have nd:=xu.nd;refine⟨_,aj (iy 2 nd<|bE T.Script<|bE T.lH<|J 0)<|aj (dZ (qz<|fX<|c8 T.jG (iO T) hr.mn<|aD (dj ck (J 1) bR λ_ _=>rfl)<|bM<|J 2) (aF<|bq<|cg<|bM<|jh (-2) T) b9)<|aj (iy 3 nd<|dj ck (J 2) (dj ck (J 1) bR λ_ _=>rfl) λ_ _=>rfl)<|aj (iy 4 nd<|cg<|bM<|bE T.State<|J 3)<|aj (dZ (cu iU (bE T.State<|J 3) (jh (1) T)<|dh _) (aj (bV<|gR aM cz cW kR (J 4)<|bM<|bE T.State<|J 3)<|aF<|bV<|gR aM bh bw d9 (J 4)<|bM<|cy bQ 'r' T.gB bC<|bM<|bE T.State<|J 3) b9)<|aj (dZ (cu iU (bE T.State<|J 3) (jh (2) T)<|dh _) (aF<|bV<|gR aM cz cW kR (J 4)<|bM<|bE T.State<|J 3) b9)<|aF<|bq<|fZ qx (J 4)<|c8 T.vA (qV T) hr.mn<|bM<|bE T.State<|J 3,?_⟩
  left
  let⟨x,u3,u4,u6,rfl,hx,h3,h4,⟨l6,xE,rfl,c6,qD,qQ⟩⟩:=id hS;calc⟨_,Y,d,_,_,Y,hd,Y,x,_,_,Y,hx,Y,_,Y,gv,_,_,_,Y,Y,cP.of hg,cJ (j:=0) Y,_,Y,i,l6,xE,Y,cP.of qD,_,Y,?_⟩;rw[qQ.len];by_cases c:0<=i/\i<(g.states.length:Int)
  .obtain⟨j,rfl⟩:∃j:Nat,i=(j:Int):=⟨i.toNat,'l'⟩;have hj:j<g.states.length:=by lia
   rw[aR c];rw[Cq,mZ Y hj]at k;have k:EJ H (encode<|kg g j) Q:=k;rw[VI]at k;have OT:=gd.sn j;let⟨us,u,PK,Mr,⟨z,v3,v4,v5,rfl,hz,⟨m3,rfl,e3,I0⟩,⟨m4,rfl,e4,Va⟩,⟨l5,MZ,rfl,c5,ET,t9⟩⟩⟩:=lJ.at (g:=g) ⟨xE,qD,qQ⟩ hj;have l5':MZ.length=(g.branches j).length:=by rw[t9.len,←yr]
   have h8:=gd.br j;have s3:(lT<|g.node j).length<=2:=by cases g.node j<;>simp[lT]
   have s4:(eE<|g.node j).length<=2:=by cases g.node j<;>simp[eE]
   calc m7 ⟨_,Y,_,Y,gv,_,_,_,Y,Y,cP.of hg,cJ (j:=0) Y,l6,_,_,_,Y,Y,cP.of PK,Mr,?_⟩;calc⟨_,Y,z,_,_,Y,hz,Y,jH 1,λD n=>?_⟩;have s1:aN H<|upd H D<|.lst [.int<|i8<|g.node j]:=aN.new n;have G:(upd H D<|.lst [.int<|i8<|g.node j]) D=some (.lst<|iZ [i8<|g.node j]):=aq;generalize upd H D (.lst [.int<|i8<|g.node j])=L at s1 G⊢;have last:∀(l:List Int) (H2:Hp),aN H H2->H2 D=some (.lst<|iZ l)->l.length<=10->i8 (g.node j)::((if i8 (g.node j)=1 then(lT<|g.node j).map (λ(n:Nat)=>(n:Int))++[((g.branches j).length:Int)]else [])++((if i8 (g.node j)=2 then(eE<|g.node j).map (λ(n:Nat)=>(n:Int))else [])++mq (g.stateName j)))=l++mq (g.stateName j)->Ox aeu (gF 4) (vz YC [] E0<|gf (tF (a.c "State") (gF 3) "name") m9) [some<|.ref d,some<|.ref gv,some<|.ref l6,some<|.ref z,some<|.ref D] H2 Q:= λl H2 s2 h2 ll e=>by
    calc⟨_,Y,_,Y,z,_,_,Y,hz.same s2,Y,g.stateName j,Y,'l',λD4 H4 s4 n4 h4=>?_⟩;refine⟨D,D4,_,_,Y,Y,s4 _ _ h2,h4,?_,λD5 n5=>ie k (s2.trans s4) n5 ?_⟩
    .show(iZ l).length+(iZ<|mq<|g.stateName j).length<=sizeLine;unfold mq;rw[ai,ai,ay,ai,aW];lia
    .rw[e];unfold iZ;rw[bP]
   calc⟨_,Y,z,_,_,Y,hz.same s1,Y,Y,_,Y,?_⟩;cases en:g.node j with
   |fin=>
    rw[en]at last G;calc o7 (by show¬decide (V.int 0=V.int 1)=true;decide) ?_;calc⟨_,Y,z,_,_,Y,hz.same s1,Y,Y,_,Y,o7 (by rw[en];show¬decide (V.int 0=V.int 2)=true;decide) ?_⟩;exact last _ L s1 G 's' Y
   |both p q=>
    rw[en]at last G Va;calc o7 (by show¬decide (V.int 2=V.int 1)=true;decide) ?_;calc⟨_,Y,z,_,_,Y,hz.same s1,Y,Y,_,Y,qS (by rw[en];show decide (V.int 2=V.int 2)=true;decide) ?_⟩;calc⟨_,Y,.inl ⟨Y,_,cP.of G⟩,_,Y,z,_,_,Y,hz.same s1,Y,D,m4,_,_,Y,Y,G,s1 _ _ Va,jH 3,?_⟩;exact last [2,(p:Int),(q:Int)] _ (aN.put s1 n) (by rw[aq];rfl) 's' Y
   |talk p q bs=>
    rw[en]at last G I0;calc qS (by show decide (V.int 1=V.int 1)=true;decide) ?_;calc⟨_,Y,.inl ⟨Y,_,cP.of G⟩,_,Y,z,_,_,Y,hz.same s1,Y,D,m3,_,_,Y,Y,G,s1 _ _ I0,jH 3,?_⟩;have s2:aN H<|upd L D<|.lst<|iZ [1]++iN [p,q]:=aN.put s1 n;have h2:(upd L D<|.lst<|iZ [1]++iN [p,q]) D=some (.lst<|iZ [1]++iN [p,q]):=aq;calc⟨_,Y,.inl ⟨Y,_,cP.of h2⟩,_,Y,z,_,_,Y,hz.same s2,Y,l5,_,Y,.inl<|cP.of<|s2 _ _ ET,D,_,_,Y,Y,h2,by show 3<sizeLine;decide,?_⟩;rw[l5'];have s3:aN H<|upd (upd L D<|.lst<|iZ [1]++iN [p,q]) D<|.lst<|iZ [1]++iN [p,q]++[.int ((g.branches j).length:Int)]:=aN.put s2 n;calc⟨_,Y,z,_,_,Y,hz.same s3,Y,Y,_,Y,o7 (by rw[en];show¬decide (V.int 1=V.int 2)=true;decide) ?_⟩;exact last [1,(p:Int),(q:Int),((g.branches j).length:Int)] _ s3 (by rw[aq];rfl) 's' Y
  .rw[bB c];calc oh ⟨jH 1,λD n=>ie k (aN.refl _) n ?_⟩;rw[Cq,mY c];rfl
def Um(a:g9):Sp:=Yt λij:Int×Int=>Fx a [.int ij.1,.int ij.2] (.branch ij.1 ij.2)
inductive Ie (a:g9) (f:bL->g6) (S:List V) (H:Hp) (Q:VK) (rq:XK):Prop
 |mk (d gv rl:O) (g:bF) (b:bL) (k0:S=[.ref d,.ref gv]) (k1:Dsk a H d g) (k2:H gv=some (.lst [.ref rl])) (k3:H rl=some (.lst (iv (nb b)))) (k4:b.length<=8192) (k5:EJ H (encode (looked g (f b))) Q)
theorem E5(T:Txt K mg a):jM P w K mg base 4 a "answer_branch" ["desk","given"]<|Um a:=by
 refine T.uc.fn.ok vc ?_ ?_
 .right
 .ext⟨⟨i,i'⟩,d,gv,g,rfl,⟨A',sv,tv,hd,hS,gd,pn,fr⟩,hg,k⟩;have nd:=vc.nd;refine⟨_,aj (iy 2 nd<|bE T.Script<|bE T.lH<|J 0)<|aj (dZ (qz<|fX<|c8 T.jG (iO T) hr.mn<|aD (dj ck (J 1) bR λ_ _=>rfl)<|bM<|J 2) (aF<|bq<|cg<|bM<|jh (-2) T) b9)<|aj (iy 3 nd<|bE T.State<|dj ck (J 2) (dj ck (J 1) bR λ_ _=>rfl) λ_ _=>rfl)<|aj (dZ (qz<|fX<|c8 T.jG (iO T) hr.mn<|aD (dj ck (J 1) bR λ_ _=>rfl)<|bM<|J 3) (aF<|bq<|cg<|bM<|jh (-2) T) b9)<|aF<|bq<|c8 T.G0 (JP T) hr.mn<|bM<|dj ck (J 3) (dj ck (J 1) bR λ_ _=>rfl) λ_ _=>rfl,?_⟩
  left
  let⟨x,u3,u4,u6,rfl,hx,h3,h4,⟨l6,xE,rfl,c6,qD,qQ⟩⟩:=id hS;rw[F9]at k;calc⟨_,Y,d,_,_,Y,hd,Y,x,_,_,Y,hx,Y,_,Y,gv,_,_,_,Y,Y,cP.of hg,cJ (j:=0) Y,_,Y,i,l6,xE,Y,cP.of qD,_,Y,?_⟩;rw[qQ.len];by_cases c:0<=i/\i<(g.states.length:Int)
  .obtain⟨j,rfl⟩:∃j:Nat,i=(j:Int):=⟨i.toNat,'l'⟩;have hj:j<g.states.length:=by lia
   rw[aR c];rw[mZ Y hj]at k;obtain⟨us,u,PK,Mr,⟨z,v3,v4,v5,rfl,hz,-,-,⟨l5,MZ,rfl,c5,ET,t9⟩⟩⟩:=lJ.at (g:=g) ⟨xE,qD,qQ⟩ hj;have t9:fE (oR a A' H) MZ<|g.branches j:=by rw[←yr];exact t9
   calc m7 ⟨_,Y,_,Y,gv,_,_,_,Y,Y,cP.of hg,cJ (j:=0) Y,l6,_,_,_,Y,Y,cP.of PK,Mr,z,_,_,Y,hz,Y,?_⟩;calc⟨_,Y,gv,_,_,_,Y,Y,cP.of hg,cJ (j:=1) Y,_,Y,i',l5,MZ,Y,cP.of ET,_,Y,?_⟩;rw[t9.len];by_cases c2:0<=i'/\i'<((g.branches j).length:Int)
   .obtain⟨j',rfl⟩:∃j':Nat,i'=(j':Int):=⟨i'.toNat,'l'⟩;have hj':j'<(g.branches j).length:=by lia
    rw[aR c2];obtain⟨b,hb⟩:∃b,(g.branches j)[j']? =some b:=⟨_,aK hj'⟩;rw[uD,mZ Y hj',uD,hb]at k;have k:EJ H (encode<|jJ b) Q:=k;let⟨v0,Zj,qb⟩:=t9.get hb;have ob:GM.XD g b:=by
     unfold bF.branches at hb;cases en:g.node j with
     |fin=>rw[en]at hb;cases hb
     |both p q=>rw[en]at hb;cases hb
     |talk p q bs=>rw[en]at hb;exact(gd.nd j p q bs en).2.2.2 b (bf hb)
    exact m7 ⟨_,Y,_,Y,gv,_,_,_,Y,Y,cP.of hg,cJ (j:=1) Y,l5,_,_,_,Y,Y,cP.of ET,cJ Zj,v0,b,A',Y,qb,ob.rl,ob.hl,ob.lb,k⟩
   .rw[bB c2];rw[uD,mY c2]at k;exact oh ⟨jH 1,λD n=>ie k (aN.refl _) n Y⟩
  .rw[bB c];rw[mY c]at k;exact oh ⟨jH 1,λD n=>ie k (aN.refl _) n Y⟩
theorem Hl(T:Txt K mg a):jM P w K mg base 4 a "answer_reach" ["desk","given"]<|tS a .reach:=by
 refine T.vQ.fn.ok xo ?_ ?_
 .right
 .ext⟨i,d,gv,g,rfl,⟨A',sv,tv,hd,hS,gd,pn,fr⟩,hg,k⟩;have nd:=xo.nd;refine⟨_,aj (iy 2 nd<|bE T.Script<|bE T.lH<|J 0)<|aj (dZ (qz<|fX<|c8 T.jG (iO T) hr.mn<|aD (dj ck (J 1) bR λ_ _=>rfl)<|bM<|J 2) (aF<|bq<|cg<|bM<|jh (-2) T) b9)<|aj (iy 3 nd<|c8 T.yG (tu T) hr.mn<|aD (J 2)<|bM<|dj ck (J 1) bR λ_ _=>rfl)<|aF<|bq<|fZ qx (cg<|bM<|cy bQ 'r' T.gB bC<|bM<|J 3)<|J 3,?_⟩
  left
  let⟨x,u3,u4,u6,rfl,hx,h3,h4,⟨l6,xE,rfl,c6,qD,qQ⟩⟩:=id hS;rw[Jm]at k;calc⟨_,Y,d,_,_,Y,hd,Y,x,_,_,Y,hx,Y,_,Y,gv,_,_,_,Y,Y,cP.of hg,cJ (j:=0) Y,_,Y,i,l6,xE,Y,cP.of qD,_,Y,?_⟩;rw[qQ.len];by_cases c:0<=i/\i<(g.states.length:Int)
  .obtain⟨j,rfl⟩:∃j:Nat,i=(j:Int):=⟨i.toNat,'l'⟩;have hj:j<g.states.length:=by lia
   rw[aR c];rw[mZ Y hj]at k;have k:EJ H (encode<|tZ<|g.reach j) Q:=k;have rl:(g.reach j).length<=64:=bH (GM.pS gd.val hj) gd.sl;calc m7 ⟨_,Y,_,Y,gv,_,_,_,Y,Y,cP.of hg,cJ (j:=0) Y,l6,j,g,A',Y,⟨xE,qD,qQ⟩,hj,gd.sl,gd.val,λs=>gd.br s,λm L s1 nm hm=>?_⟩;calc⟨_,Y,m,_,Y,.inl<|cP.of hm,jH 1,λD1 n1=>?_⟩;have s2:aN L<|upd L D1<|.lst [.int (((iN<|g.reach j).length:Nat):Int)]:=aN.new n1;calc⟨_,Y,D1,m,_,_,Y,Y,aq,s2 _ _ hm,by rw[ai,aW];show 1+_<=_;lia,λD2 n2=>ie k (s1.trans s2) n2 ?_⟩;unfold encode tZ;rw[show iZ (((g.reach j).length:Int)::(g.reach j).map λ(n:Nat)=>(n:Int))= .int ((g.reach j).length:Int)::iN (g.reach j)by rw[←NI];rfl,ai];rfl
  .rw[bB c];rw[mY c]at k;exact oh ⟨jH 1,λD n=>ie k (aN.refl _) n Y⟩
theorem Ho(T:Txt K mg a):jM P w K mg base 4 a "answer_route" ["desk","given"]<|tS a .route:=by
 refine T.vR.fn.ok xq ?_ ?_
 .right
 .ext⟨i,d,gv,g,rfl,⟨A',sv,tv,hd,hS,gd,pn,fr⟩,hg,k⟩;have nd:=xq.nd;refine⟨_,aj (dZ (qz<|fX<|c8 T.jG (iO T) hr.mn<|aD (dj ck (J 1) bR λ_ _=>rfl)<|bM<|bE T.Script<|bE T.lH<|J 0) (aF<|bq<|cg<|bM<|jh (-2) T) b9)<|aj (iy 2 nd<|c8 T.Qn (Qc T) hr.mn<|aD (bE T.lH<|J 0)<|bM<|dj ck (J 1) bR λ_ _=>rfl)<|aj (dZ (yW<|Sf<|J 2) (aF<|bq<|cg<|bM<|jh (-4) T) b9)<|aF<|bq<|c8 T.wB (um T) hr.mn<|bM<|J 2,?_⟩
  left
  let⟨x,u3,u4,u6,rfl,hx,h3,h4,⟨l6,xE,rfl,c6,qD,qQ⟩⟩:=id hS;rw[Jo]at k;calc⟨_,Y,gv,_,_,_,Y,Y,cP.of hg,cJ (j:=0) Y,_,Y,d,_,_,Y,hd,Y,x,_,_,Y,hx,Y,i,l6,xE,Y,cP.of qD,_,Y,?_⟩;rw[qQ.len];by_cases c:0<=i/\i<(g.states.length:Int)
  .obtain⟨j,rfl⟩:∃j:Nat,i=(j:Int):=⟨i.toNat,'l'⟩;have hj:j<g.states.length:=by lia
   rw[aR c];rw[mZ Y hj]at k;have k:EJ H (encode (match g.route j with
    |some w=>Nd w
    |none=>bT<|-4)) Q:=k
   calc m7 ⟨_,Y,d,_,_,Y,hd,Y,_,Y,gv,_,_,_,Y,Y,cP.of hg,cJ (j:=0) Y,.ref x,j,g,A',Y,hS,gd.st,gd.sl,gd.val,λs=>gd.br s,?_⟩;cases er:g.route j with
   |none=>
    rw[er]at k;intro L s1;calc⟨_,Y,_,Y,?_⟩;exact qS 'd' ⟨jH 1,λD n=>ie k s1 n Y⟩
   |some wy=>
    rw[er]at k;have k:EJ H (DE wy) Q:=k;have wl:=GM.MJ gd.val gd.st er;intro m S L s1 nm hm rp;calc⟨_,Y,_,Y,?_⟩;refine o7 (by show¬decide (V.ref m=V.gQ)=true;simp) ⟨_,Y,m,S,wy,Y,hm,rp,by have:=gd.sl;lia,λD U s' n h=>k D U (s1.trans s') (s1.free n) h⟩
  .rw[bB c];rw[mY c]at k;exact oh ⟨jH 1,λD n=>ie k (aN.refl _) n Y⟩
def ab3{b:List Nat}(h:H D=some (.lst<|iv b)):Dp K H (.ref D)<|.list<|b.map nD:= .lst (cP.of h) (Ph (λi=> .int _) _)
theorem Jy(T:Txt K mg a):jM P w K mg base 2 a "answer_find" ["desk","given"]<|Ie a .find:=by
 refine T.yk.fn.ok zA ?_ ?_
 .right
 .ext⟨d,gv,rl,g,b,rfl,⟨A',sv,tv,hd,hS,gd,pn,fr⟩,hg,Vc,hb,k⟩;have nd:=zA.nd;refine⟨_,aj (lS dN Y (DI 'r' T.gB<|bM<|bE T.Script<|bE T.lH<|J 0) (JV Y<|mP (xX 2 nd)<|mP (xX 3 nd) DH)<|aF<|dZ (cu (Se hr.units) (c8 T.spelled (wj T) hr.mn<|bM<|bE T.State<|J 3) (dj ck (J 1) bR λ_ _=>rfl)<|dh _) (aF<|bq<|cg<|bM<|J 2) b9)<|aF<|bq<|cg<|bM<|jh (-9) T,?_⟩
  left
  let⟨x,u3,u4,u6,rfl,hx,h3,h4,⟨l6,xE,rfl,c6,qD,qQ⟩⟩:=id hS;have l56:xE.length=g.states.length:=qQ.len;rw[Mt]at k;refine⟨_,Y,d,_,_,Y,hd,Y,x,_,_,Y,hx,Y,l6,_,Y,cP.of qD,Dc (K:=K) (a:=l6) (xs:=xE) (λi Z U=>X2 λ(v v':Option V)=>A3 (Z=[some<|.ref d,some<|.ref gv,v,v']) (aN H U) (place (g.states.map λs=>s.1) b=(place ((g.states.map λs=>s.1).drop i) b).map (·+i))) ⟨none,none,Y,aN.refl _,by rw[jW];cases place (g.states.map λs=>s.1) b<;>rfl⟩ (λj Z H3 _ h=>by let⟨_,_,_,sm,_⟩:=h;exact cP.of<|sm _ _ qD) ?_ ?_⟩
  .rintro i u Z U T' hu ⟨v,v',rfl,sm,pe⟩ nT;have hi:i<g.states.length:=by rw[←l56];exact(au.mp hu).1
   let⟨y,hy,qy⟩:=qQ.get' hu;have ey:y=(g.stateName i,g.node i):=by
    rw[←GM.oE hi];exact(aL<|(aK hi).symm.trans hy).symm
   subst ey;have dr:(g.states.map λs=>s.1).drop i=g.stateName i::(g.states.map λs=>s.1).drop (i+1):=by
    rw[bx<|by rw[ai];exact hi,vG,GM.oE hi]
   rw[dr,rT]at pe;have sT:aN U<|upd U T'<|.tup [.int (i:Nat),u]:=aN.new nT;have pA:=sm.trans sT;generalize eH:upd U T' (.tup [.int (i:Nat),u])=H2 at sT pA;have hT:H2 T'=some (.tup [.int (i:Nat),u]):=by rw[←eH];exact aq
   obtain⟨z,v3,v4,v5,rfl,hz,-⟩:=qy.same pA;have OT:=gd.sn i;calc⟨T',_,Y,oS.of hT,Y,_,_,Y,_,_,Y,Y,?_⟩;have ln:(sw<|nb<|g.stateName i).length=(g.stateName i).length:=zV _;calc⟨_,Y,z,_,_,Y,hz,Y,_,Y,by rw[ln];lia,λD H3 s3 nD0 hD=>?_⟩;have hD:H3 D=some (.lst<|iv<|nb<|g.stateName i):=hD;have Kz:=pA.trans s3;refine⟨_,Y,gv,_,_,_,Y,Y,cP.of<|Kz _ _ hg,cJ (j:=0) Y,.list<|(nb<|g.stateName i).map nD,.list<|(nb b).map nD,ab3 hD,ab3<|Kz _ _ Vc,?_,?_,_,Y,?_⟩
   .unfold l8;rw[bI];exact⟨Hh (λ_=>rfl) _,aR<|bH (Y4<|Hf (f:=nD) (n:=0) (λ_=>aT _) _) 'd'⟩
   .unfold l8;rw[bI];exact⟨Hh (λ_=>rfl) _,aR<|bH (Y4<|Hf (f:=nD) (n:=0) (λ_=>aT _) _) 'd'⟩
   have ev:gO (.list<|(nb<|g.stateName i).map nD) (.list<|(nb b).map nD)=decide (g.stateName i=b):=by
    show gk ((nb<|g.stateName i).map nD) ((nb b).map nD)=_;rw[IM IP];exact jj.mpr ⟨Jt,λh=>by rw[h]⟩
   rw[ev];by_cases c:g.stateName i=b
   .rw[aG c]at pe;rw[pe]at k;calc qS (aR c) ⟨_,Y,jH 1,λD' n'=>ie k Kz n' ?_⟩;show [V.int (i:Int)]=[V.int ((0+i:Nat):Int)];rw[sy]
   .rw[az c]at pe;calc o7 (dF c) ⟨_,_,Y,Kz,?_⟩;rw[pe,nV];congr 1;funext n;show n+1+i=n+(i+1)
    lia
  .rintro Z U ⟨v,v',rfl,sm,pe⟩;rw[l56,←ai (f:= λs:bL×kP=>s.1),iA]at pe;have pe:place (g.states.map λs=>s.1) b=none:=pe;rw[pe]at k;exact⟨jH 1,λD n=>ie k sm n Y⟩
def NA(B atH:O->Prop):O->Prop:= λz=>¬atH z/\¬B z
def RSc(a:g9)(B atH:O->Prop)(H:Hp)(sv:V):Option bF->Prop
 |none=>sv= .gQ
 |some g=>jX a (NA B atH) H sv g/\GM.Good g/\g.parties≠[]
inductive RTS (a:g9) (B atH:O->Prop) (H:Hp) (tv:V) (og:Option bF) (t:cZ):Prop
 |mk (g x l ls ll le past:_) (k0:og=some g) (k1:tv= .ref x) (k2:atH x) (k3:atH ll) (k4:atH le) (k5:NA B atH l) (k6:lJ a (NA B atH) H l g.states) (k7:uM a B H x l ls ll le t past) (k8:xR g t past)
def RTl(a:g9)(B atH:O->Prop)(H:Hp)(tv:V)(og:Option bF):Option cZ->Prop
 |none=>tv= .gQ
 |some t=>RTS a B atH H tv og t
inductive yi (a:g9) (B atH:O->Prop) (H:Hp) (d:O) (st:dQ):Prop
 |mk (k0:atH d) (k1:∀z,H z=none->NA B atH z) (sv tv:_) (k2:At (a.c "Desk") H d [("script",sv),("telling",tv)]) (k3:RSc a B atH H sv st.script) (k4:RTl a B atH H tv st.script st.telling)
def yi.fr(h:yi a B atH H d st):∀z,H z=none->NA B atH z:=by cases h;assumption
def qP(a:g9)(B atH:O->Prop)(H:Hp)(d:O)(st:dQ)(l:List Int)(Q:VK):Prop:=∀(D:O) (U:Hp) (O':O->Prop),(∀b o,¬atH b->H b=some o->U b=some o)->(∀b,O' b->atH b∨H b=none)->H D=none->¬O' D->U D=some (.lst<|iZ l)->yi a B O' U d st->Q (.ref D) U
def RSc.same{sv:V}:∀{o:Option bF},RSc a B atH H sv o->aN H U->RSc a B atH U sv o
 |none,h,_=>h
 |some _,h,s=>⟨h.1.same s,h.2⟩
def RTl.same{tv:V}{og:Option bF}:∀{o:Option cZ},RTl a B atH H tv og o->aN H U->RTl a B atH U tv og o:=by
 intro o h s;cases o
 .exact h
 .let⟨g,x,l,ls,ll,le,past,e,e2,G,h2,h3,h4,h5,h6,h7⟩:=h;exact⟨g,x,l,ls,ll,le,past,e,e2,G,h2,h3,h4,h5.same s,h6.same s,h7⟩
def yi.same(h:yi a B atH H d st)(s:aN H U):yi a B atH U d st:=by
 let⟨o,f,sv,tv,G,h2,h3⟩:=h;exact⟨o,λz hz=>f z<|s.free hz,sv,tv,G.same s,h2.same s,h3.same s⟩
def qP.look{l:List Int}(k:qP a B atH H d st l Q)(h:yi a B atH H d st):EJ H l Q:= λD U s n hD=>k D U atH (λb o _ q=>s b o q) (λb q=> .inl q) n (h.fr D n).1 hD (h.same s)
def yi.ZW(h:yi a B atH H d st)(e:st.script=some g):Dsk a H d g:=by
 let⟨o,f,sv,tv,G,h2,h3⟩:=h;rw[e]at h2;exact⟨_,sv,tv,G,h2.1,h2.2.1,h2.2.2,f⟩
def yi.VN{t:cZ}(h:yi a B atH H d st)(e:st.script=some g)(et:st.telling=some t):X7 λsv x l ls ll le past=>A11 (At (a.c "Desk") H d [("script",sv),("telling",.ref x)]) (jX a (NA B atH) H sv g) (GM.Good g) (g.parties≠[]) (atH x) (atH ll) (atH le) (NA B atH l) (lJ a (NA B atH) H l g.states) (uM a B H x l ls ll le t past)<|xR g t past:=by
 let⟨o,f,sv,tv,G,h2,h3⟩:=h;rw[e]at h2 h3;rw[et]at h3;let⟨g',x,l,ls,ll,le,past,e1,rfl,q1,q2,q3,q4,q5,q6,q⟩:=h3;obtain rfl:=aL e1;exact⟨sv,x,l,ls,ll,le,past,G,h2.1,h2.2.1,h2.2.2,q1,q2,q3,q4,q5,q6,q⟩
def yi.told(T:Txt K mg a){t t':cZ}{l Jp:O}{nI:List (List Nat)}(h:yi a B atH H d st)(e:st.script=some g)(hd:At (a.c "Desk") H d [("script",sv),("telling",.ref x)])(hS:jX a (NA B atH) H sv g)(gd:GM.Good g)(pn:g.parties≠[])(ox:atH x)(Lf:atH ll)(Le:atH le)(nl:NA B atH l) (A0:lJ a (NA B atH) H l g.states)(hT:uM a B H x l ls ll le t past)(f:L5 x ll le H U)(hT':uM a B U x l Jp ll le t' nI)(Zq:xR g t' nI):yi a B atH U d {st with telling:=some t'}/\jX a (NA B atH) U sv g/\At (a.c "Desk") U d [("script",sv),("telling",.ref x)]/\lJ a (NA B atH) U l g.states:=by
 obtain⟨⟨dx,hx⟩,Lc,n1,n2,n3,⟨us,Cm,-⟩,⟨ws,hle,-⟩⟩:=id hT;obtain⟨⟨Te,Zk⟩,-,-,-,-,⟨us',adz,-⟩,⟨ws',adx,-⟩⟩:=id hT';have kp:Kp a (NA B atH) H U:=f.kp hx Cm hle (λq=>q.1 Lf) λq=>q.1 Le;let⟨dd,ES⟩:=id hd;have Nv:d≠x:= λq=>by
  rw[q,hx]at ES;exact absurd (congrArg jc (HO.ins.inj<|aL ES).2.2) (by show¬(4=2);decide)
 have dl:d≠ll:= λq=>by rw[q,Cm]at ES;cases ES
 have de:d≠le:= λq=>by rw[q,hle]at ES;cases ES
 have WW:At (a.c "Desk") U d [("script",sv),("telling",.ref x)]:=⟨dd,f _ _ Nv dl de ES⟩;have WU:=hS.kp (T.ok "Branch") (T.ok "State") (T.ok "Script") kp;have Vd:lJ a (NA B atH) U l g.states:=by
  let⟨us,G,h2⟩:=A0;exact⟨us,kp.lst _ _ nl G,h2.mono λ_ _ q=>q.kp (T.ok "Branch") (T.ok "State") kp⟩
 refine⟨⟨h.1,λz hz=>h.2 z ?_,sv,.ref x,WW,?_,?_⟩,WU,WW,Vd⟩
 .cases q:H z with
  |none=>rfl
  |some o=>
   have z1:z≠x:= λe=>by rw[e,Zk]at hz;cases hz
   have z2:z≠ll:= λe=>by rw[e,adz]at hz;cases hz
   have z3:z≠le:= λe=>by rw[e,adx]at hz;cases hz
   rw[f z o z1 z2 z3 q]at hz;cases hz
 .show RSc a B atH U sv st.script;rw[e];exact⟨WU,gd,pn⟩
 .show RTl a B atH U (.ref x) st.script (some t');exact⟨g,x,l,Jp,ll,le,nI,e,Y,ox,Lf,Le,nl,Vd,hT',Zq⟩
inductive Eh (a:g9) (xs:List V) (c:g6) (S:List V) (H:Hp) (Q:VK) (rq:XK):Prop
 |mk (d gv:O) (B atH:O->Prop) (st:dQ) (g:bF) (t:cZ) (k0:S=[.ref d,.ref gv]) (k1:yi a B atH H d st) (k2:st.script=some g) (k3:st.telling=some t) (k4:¬atH gv) (k5:H gv=some (.lst xs)) (k6:qP a B atH H d {st with telling:=some (kQ g t c).1} (encode (kQ g t c).2) Q)
def Fy{t:cZ}(e:st.telling=some t):{st with telling:=some t}=st:=by cases st;cases e;rfl
theorem N5{t:cZ}(h8:∀s,(g.branches s).length<=8)(Rq:t.at_.length<=64):(bY g t).length<=512:=by
 have:=GM.Qe (t:=t) h8
 lia
theorem Du(T:Txt K mg a):jM P w K mg base 2 a "answer_options" ["desk","given"]<|Eh a [] .options:=by
 refine T.rJ.fn.ok DY ?_ ?_
 .right
 .ext⟨d,gv,B,atH,st,g,t,rfl,hD,es,et,og,hg,k⟩;refine⟨_,aF<|bq<|c8 T.wB (um T) hr.mn<|bM<|iw T.Telling T.jB (jm T) hr.mn<|bE T.lH<|J 0,?_⟩
  left
  let⟨sv,x,l,ls,ll,le,past,hd,hS,gd,pn,ox,Lf,Le,nl,A0,hT,te⟩:=hD.VN es et;obtain⟨⟨dx,hx⟩,-⟩:=id hT;have k:qP a B atH H d {st with telling:=some t} (DE<|bY g t) Q:=k;rw[Fy et]at k;have k:=k.look hD;have sd:=te.Ls.KC gd.val gd.ap gd.st;have Rq:=bH sd.len gd.sl;have ol:=N5 (t:=t) (λs=>gd.br s) Rq;exact⟨_,Y,d,_,_,Y,hd,Y,x,_,_,Y,hx,Y,x,l,ls,ll,le,t,past,g,_,_,Y,hT,A0,λs hs=>(sd.tk s hs).1,Rq,λs=>gd.br s,λD us L s1 n1 G rp=>⟨D,us,_,Y,G,rp,'l',λD' U s' n' h'=>k D' U (s1.trans s') (s1.free n') h'⟩⟩
def JD(T:Txt K mg a):jM P w K mg base 2 a "answer_told" ["desk","given"]<|Eh a [] .told:=by
 refine T.yq.fn.ok Ks ?_ ?_
 .right
 .ext⟨d,gv,B,atH,st,g,t,rfl,hD,es,et,og,hg,k⟩;refine⟨_,aF<|bq<|c8 T.wB (um T) hr.mn<|bM<|bE T.Telling<|bE T.lH<|J 0,?_⟩
  left
  let⟨sv,x,l,ls,ll,le,past,hd,hS,gd,pn,ox,Lf,Le,nl,A0,hT,te⟩:=hD.VN es et;obtain⟨hx,-,-,-,-,⟨us,Cm,rp⟩,-⟩:=id hT;have k:qP a B atH H d {st with telling:=some t} (DE t.log) Q:=k;rw[Fy et]at k;have k:=k.look hD;exact⟨_,Y,d,_,_,Y,hd,Y,x,_,_,Y,hx,Y,ll,us,t.log,Y,Cm,rp,bH te.len 'd',k⟩
theorem Cs(T:Txt K mg a):jM P w K mg base 1 a "answer_standing" ["desk","given"]<|Eh a [] .standing:=by
 refine T.qu.fn.ok CG ?_ ?_
 .right
 .ext⟨d,gv,B,atH,st,g,t,rfl,hD,es,et,og,hg,k⟩;refine⟨_,aF<|bq<|fZ qx (cg<|bM<|cy bQ 'r' T.gB bC<|bM<|bE T.Telling<|bE T.lH<|J 0)<|bE T.Telling<|bE T.lH<|J 0,?_⟩
  left
  let⟨sv,x,l,ls,ll,le,past,hd,hS,gd,pn,ox,Lf,Le,nl,A0,hT,te⟩:=hD.VN es et;obtain⟨hx,Lc,-⟩:=id hT;have k:qP a B atH H d {st with telling:=some t} (encode<|tZ t.at_) Q:=k;rw[Fy et]at k;have k:=k.look hD;have Rq:=bH (te.Ls.KC gd.val gd.ap gd.st).len gd.sl;calc⟨_,Y,d,_,_,Y,hd,Y,x,_,_,Y,hx,Y,ls,_,Y,.inl<|cP.of Lc,jH 1,λD1 n1=>?_⟩;have s2:aN H<|upd H D1<|.lst [.int (((iN t.at_).length:Nat):Int)]:=aN.new n1;calc⟨_,Y,d,_,_,Y,hd.same s2,Y,x,_,_,Y,hx.same s2,Y,D1,ls,_,_,Y,Y,aq,s2 _ _ Lc,by rw[ai,aW];show 1+_<=_;lia,λD2 n2=>ie k s2 n2 ?_⟩;unfold encode tZ;rw[show iZ ((t.at_.length:Int)::t.at_.map λ(n:Nat)=>(n:Int))= .int (t.at_.length:Int)::iN t.at_ by rw[←NI];rfl,ai];rfl
def qP.fin{H5:Hp}{l:List Int}{xs:List V}(k:qP a B atH H d st l Q)(hD:yi a B atH H5 d st)(fr:∀b o,¬atH b->H b=some o->H5 b=some o)(n:H5 D=none)(e:xs=iZ l):Q (.ref D)<|upd H5 D<|.lst xs:=by
 have nO:=(hD.fr D n).1;calc k D _ atH (λb o q h=>(aN.new n) b o (fr b o q h)) (λb q=> .inl q) ?_ nO (by rw[aq,e])<|hD.same<|aN.new n;cases q:H D with
 |none=>rfl
 |some o=>rw[fr D o nO q]at n;cases n
def Yz(a:g9):Sp:=Yt λi:Int=>Eh a [.int i] (.choose i)
def KA(g:bF)(t:cZ)(i:Int):kQ g t (.choose i)=match(eT i (bY g t).length).bind λk=>(bY g t)[k]?with
 |none=>(t,bT<|-6)
 |some m=>if lP<=t.log.length then(t,bT<|-7)else match g.node m.1 with
  | .talk x y _=>(i9 g t m,{value:=(x:Int),rest:=[(y:Int),(m.1:Int),(m.2:Int),(g.target m.1 m.2:Int)]})
  |_=>(t,bT<|-6):=rfl
theorem E6(T:Txt K mg a):jM P w K mg base 3 a "answer_choose" ["desk","given"]<|Yz a:=by
 refine T.ud.fn.ok vd ?_ ?_
 .right
 .ext⟨i,d,gv,B,atH,st,g,t,rfl,hD,es,et,og,hg,k⟩;have nd:=vd.nd;refine⟨_,aj (iy 2 nd<|iw T.Telling T.jB (jm T) hr.mn<|bE T.lH<|J 0)<|aj (dZ (qz<|fX<|c8 T.jG (iO T) hr.mn<|aD (dj ck (J 1) bR λ_ _=>rfl)<|bM<|J 2) (aF<|bq<|cg<|bM<|jh (-6) T) b9)<|aj (dZ (fX<|iw T.Telling T.qt (rQ T) hr.mn<|bE T.lH<|J 0) (aF<|bq<|cg<|bM<|jh (-7) T) b9)<|aj (iy 3 nd<|dj ck (J 2) (dj ck (J 1) bR λ_ _=>rfl) λ_ _=>rfl)<|aj (bV<|qG T.Telling T.vM (wL T) hr.mn (bE T.lH<|J 0)<|bM<|J 3)<|aj (iy 4 nd<|dj ck (bE T.Script<|bE T.lH<|J 0) (dj pC (J 3) bR λ_ _=>rfl) λ_ _=>rfl)<|aF<|bq<|fZ qx (fZ qx (bE T.State<|J 4)<|rB C7 'r' T.gB 'd'<|bM<|J 3)<|cg<|bM<|bE T.Branch<|dj ck (bE T.State<|J 4) (dj pC (J 3) bR λ_ _=>rfl) λ_ _=>rfl,?_⟩
  left
  let⟨sv,x,l,ls,ll,le,past,hd,hS,gd,pn,ox,Lf,Le,nl,A0,hT,te⟩:=hD.VN es et;obtain⟨⟨dx,hx⟩,-⟩:=id hT;have sd:=te.Ls.KC gd.val gd.ap gd.st;have Rq:=bH sd.len gd.sl;have ol:=N5 (t:=t) (λs=>gd.br s) Rq;rw[KA]at k;calc⟨_,Y,d,_,_,Y,hd,Y,x,_,_,Y,hx,Y,x,l,ls,ll,le,t,past,g,_,_,Y,hT,A0,λs hs=>(sd.tk s hs).1,Rq,λs=>gd.br s,λD us L s1 n1 G rp=>?_⟩;have ul:=rp.len;have IW:=hD.same s1;have hT1:=hT.same s1;calc⟨_,Y,gv,_,_,_,Y,Y,cP.of<|s1 _ _ hg,cJ (j:=0) Y,_,Y,i,D,us,Y,cP.of G,_,Y,?_⟩;rw[ul];by_cases c:0<=i/\i<((bY g t).length:Int)
  .obtain⟨j,rfl⟩:∃j:Nat,i=(j:Int):=⟨i.toNat,'l'⟩;have hj:j<(bY g t).length:=by lia
   obtain⟨m,hm⟩:∃m,(bY g t)[j]? =some m:=⟨_,aK hj⟩;rw[mZ Y hj,uD,hm]at k;rw[aR c];calc m7 ⟨_,Y,d,_,_,Y,hd.same s1,Y,x,_,_,Y,s1 _ _ hx,Y,x,l,ls,ll,le,t,past,_,Y,hT1,_,Y,?_⟩;by_cases c1:t.log.length=1000
   .have k:qP a B atH H d {st with telling:=some (if lP<=t.log.length then(t,bT<|-7)else _).1} (encode (if lP<=t.log.length then(t,bT<|-7)else _).2) Q:=k;rw[aG<|by unfold lP;lia]at k;have k:qP a B atH H d {st with telling:=some t} [-7] Q:=k;rw[Fy et]at k;exact qS (aR c1) ⟨jH 1,λD n=>k.fin IW (λb o _ q=>s1 b o q) n Y⟩
   have lg:t.log.length<1000:=by have:=te.len;lia
   have hmm:=bf hm;let⟨m1,m2⟩:=GM.yF.mp hmm;let⟨mlt,p,q,bs,en⟩:=sd.tk m.1 m1;have k:qP a B atH H d {st with telling:=some (if lP<=t.log.length then(t,bT<|-7)else match g.node m.1 with
    | .talk x y _=>(i9 g t m,{value:=(x:Int),rest:=[(y:Int),(m.1:Int),(m.2:Int),(g.target m.1 m.2:Int)]})
    |_=>(t,bT<|-6)).1} (encode (if lP<=t.log.length then(t,bT<|-7)else match g.node m.1 with
    | .talk x y _=>(i9 g t m,{value:=(x:Int),rest:=[(y:Int),(m.1:Int),(m.2:Int),(g.target m.1 m.2:Int)]})
    |_=>(t,bT<|-6)).2) Q:=k
   rw[az<|by unfold lP;lia,en]at k;have k:qP a B atH H d {st with telling:=some (i9 g t m)} [(p:Int),(q:Int),(m.1:Int),(m.2:Int),(g.target m.1 m.2:Int)] Q:=k;calc o7 (dF c1) ?_;let⟨vo,hvo,⟨o,rfl,ho⟩⟩:=rp.get hm;have pl:past.length=t.log.length:=by rw[te.past,ai,eG]
   calc⟨_,Y,_,Y,gv,_,_,_,Y,Y,cP.of<|s1 _ _ hg,cJ (j:=0) Y,D,_,_,_,Y,Y,cP.of G,cJ hvo,?_⟩;calc⟨_,Y,d,_,_,Y,hd.same s1,Y,x,_,_,Y,s1 _ _ hx,Y,_,Y,x,o,l,ls,ll,le,t,past,g,_,_,m,Y,hT1,A0.same s1,nl,λq=>q.1 Lf,λq=>q.1 Le,ho,hmm,sd,gd.sl,gd.val,gd.ap,lg,pl,λz hz=>(IW.fr z hz).2,λJp H2 f2 n2 Lu=>?_⟩;let⟨pP,hS2,C2,ahB⟩:=IW.told T es (hd.same s1) (hS.same s1) gd pn ox Lf Le nl (A0.same s1) hT1 f2 Lu<|te.told hmm lg;have ho2:H2 o=some (.tup [.int (m.1:Int),.int (m.2:Int)]):=by
    obtain⟨-,-,-,-,-,⟨us',adz,-⟩,⟨ws',adx,-⟩⟩:=id hT1;exact f2 _ _ (gz ho (s1 _ _ hx)<|by intro z;cases z) (gz ho adz<|by intro z;cases z) (gz ho adx<|by intro z;cases z) ho
   have fr2:∀b o,¬atH b->H b=some o->H2 b=some o:= λb o' q h=>f2 b o' (λe=>q<|e▸ox) (λe=>q<|e▸Lf) (λe=>q<|e▸Le)<|s1 _ _ h;let⟨xs,u3,u4,u6,rfl,hxs,h3,h4,⟨l6,xE,rfl,c6,qD,qQ⟩⟩:=id hS2;obtain⟨us,u,PK,Mr,⟨z,v3,v4,v5,rfl,hz,⟨m3,rfl,e3,I0⟩,-,⟨l5,MZ,rfl,c5,ET,t9⟩⟩⟩:=lJ.at (g:=g) ⟨xE,qD,qQ⟩ mlt;obtain⟨b,hb⟩:∃b,(g.branches m.1)[m.2]? =some b:=⟨_,aK m2⟩;have t9:fE (oR a (NA B atH) H2) MZ<|g.branches m.1:=by rw[←yr];exact t9
   obtain⟨v0,Zj,⟨y0,w2,w3,rfl,Q4,-⟩⟩:=t9.get hb;have tb:g.target m.1 m.2=b.to:=by unfold bF.target;rw[hb]
   have I0:H2 m3=some (.lst<|iN [p,q]):=by rw[en]at I0;exact I0
   calc⟨_,Y,d,_,_,Y,C2,Y,xs,_,_,Y,hxs,Y,_,Y,o,_,_,_,Y,Y,oS.of ho2,cJ (j:=0) Y,l6,_,_,_,Y,Y,cP.of PK,Mr,?_⟩;calc⟨_,Y,z,_,_,Y,hz,Y,_,Y,o,_,Y,.inr<|oS.of ho2,λD3 n3=>?_⟩;have s3:aN H2<|upd H2 D3<|.lst [.int (m.1:Int),.int (m.2:Int)]:=aN.new n3;calc⟨m3,D3,_,_,Y,Y,s3 _ _ I0,aq,jH 4,λD4 n4=>?_⟩;have s4:aN (upd H2 D3<|.lst [.int (m.1:Int),.int (m.2:Int)])<|upd (upd H2 D3<|.lst [.int (m.1:Int),.int (m.2:Int)]) D4<|.lst<|iN [p,q]++[.int (m.1:Int),.int (m.2:Int)]:=aN.new n4;have h4':(upd (upd H2 D3<|.lst [.int (m.1:Int),.int (m.2:Int)]) D4<|.lst<|iN [p,q]++[.int (m.1:Int),.int (m.2:Int)]) D4=some (.lst<|iN [p,q]++[.int (m.1:Int),.int (m.2:Int)]):=aq;have s24:=s3.trans s4;generalize upd (upd H2 D3<|.lst [.int (m.1:Int),.int (m.2:Int)]) D4 (.lst<|iN [p,q]++[.int (m.1:Int),.int (m.2:Int)])=H4 at s24 h4'⊢;calc⟨_,Y,z,_,_,Y,hz.same s24,Y,_,Y,o,_,_,_,Y,Y,oS.of<|s24 _ _ ho2,cJ (j:=1) Y,l5,_,_,_,Y,Y,cP.of<|s24 _ _ ET,cJ Zj,y0,_,_,Y,Q4.same s24,Y,jH 1,λD5 n5=>?_⟩;have s5:aN H4<|upd H4 D5<|.lst [.int (b.to:Int)]:=aN.new n5;calc⟨D4,D5,_,_,Y,Y,s5 _ _ h4',aq,jH 5,λD6 n6=>k.fin (pP.same<|s24.trans s5) (λb o' q h=>s5 _ _<|s24 _ _<|fr2 b o' q h) n6 ?_⟩;rw[tb];rfl
  .rw[bB c];rw[mY c]at k;have k:qP a B atH H d {st with telling:=some t} [-6] Q:=k;rw[Fy et]at k;exact oh ⟨jH 1,λD n=>k.fin IW (λb o _ q=>s1 b o q) n Y⟩
inductive aeK (a:g9) (S:List V) (H:Hp) (Q:VK) (rq:XK):Prop
 |mk (d dd:O) (s0 t0 v:V) (k0:S=[.ref d,v]) (k1:H d=some (.ins (a.c "Desk") dd [("script",s0),("telling",t0)])) (k2:Q .gQ (upd H d (.ins (a.c "Desk") dd [("script",v),("telling",.gQ)])))
inductive Ul (a:g9) (res:bF->dQ->dQ×List Int) (S:List V) (H:Hp) (Q:VK) (rq:XK):Prop
 |mk (d gv:O) (B atH:O->Prop) (st:dQ) (g:bF) (k0:S=[.ref d,.ref gv]) (k1:yi a B atH H d st) (k2:st.script=some g) (k3:H gv=some (.lst [])) (k4:qP a B atH H d (res g st).1 (res g st).2 Q)
inductive acr (a:g9) (S:List V) (H:Hp) (Q:VK) (rq:XK):Prop
 |mk (d gv rl:O) (ks:List Int) (B atH:O->Prop) (st:dQ) (g:bF) (t:cZ) (k0:S=[.ref d,.ref gv]) (k1:yi a B atH H d st) (k2:st.script=some g) (k3:st.telling=some t) (k4:¬atH gv) (k5:H gv=some (.lst [.ref rl])) (k6:¬atH rl) (k7:H rl=some (.lst (iZ ks))) (k8:qP a B atH H d {st with telling:=some (kQ g t (.run ks)).1} (encode (kQ g t (.run ks)).2) Q)
def uM.sm{l dd:O}{t:cZ}(h:uM a B H x l ls ll le t past)(s:Sm d H U)(e:H d=some (.ins C dd fs))(n:x≠d):uM a B U x l ls ll le t past:=by
 let⟨⟨dx,hx⟩,Lc,n1,n2,n3,⟨us,Cm,rp⟩,⟨ws,hle,m8⟩⟩:=h;have nl:∀{b:O} {xs:List V},H b=some (.lst xs)->b≠d:= λq z=>by rw[z,e]at q;cases q
 have nt:∀{b:O} {xs:List V},H b=some (.tup xs)->b≠d:= λq z=>by rw[z,e]at q;cases q
 exact⟨⟨dx,s _ _ n hx⟩,s _ _ (nl Lc) Lc,n1,n2,n3,⟨us,s _ _ (nl Cm) Cm,rp.kp λb ts q=>s _ _ (nt q) q⟩,⟨ws,s _ _ (nl hle) hle,fE.mono (by rintro v xs ⟨p,e,q1,q2,q⟩;exact⟨p,e,q1,q2,s _ _ (nl q) q⟩) m8⟩⟩
def Ds(T:Txt K mg a):jM P w K mg base 1 a "Desk.hold" ["self","script"]<|aeK a:=by
 refine T.EI.fn.ok Og ?_ ?_
 .right
 .ext⟨d,dd,s0,t0,v,rfl,hd,k⟩;have C:=T.lH;refine⟨_,aj (dP (J 0) (J 1) Y)<|aF<|dP (J 0) JT Y,?_⟩
  left
  calc⟨_,Y,_,Y,d,_,dd,_,Y,hd,C.cl,C.nO,vv 2,_,Y,d,_,dd,_,Y,aq,C.cl,C.nO,vv 2,?_⟩;rw[dS];exact k
def aax(T:Txt K mg a):jM P w K mg base 1 a "Desk.__init__" ["self"]<|Eg (a.c "Desk") 0 λ_=>[("script",.gQ),("telling",.gQ)]:=by
 refine T.lH.fn.ok Oh ?_ ?_
 .rintro _ _ _ _ ⟨p,dx,us,rfl,l,_⟩;simp[l]
 .ext⟨p,dx,us,rfl,l,hp,k⟩;revert hp k;calc tV l ?_;intro hp k;have C:=T.lH;refine⟨_,aj (dP (J 0) JT Y)<|aF<|dP (J 0) JT Y,?_⟩
  left
  calc⟨_,Y,p,_,dx,_,Y,hp,C.cl,C.nO,'d',_,Y,p,_,dx,_,Y,aq,C.cl,C.nO,vv 1,?_⟩;rw[dS];exact k
def Jw(T:Txt K mg a):jM P w K mg base 2 a "answer_back" ["desk","given"]<|Eh a [] .back:=by
 refine T.yj.fn.ok Kq ?_ ?_
 .right
 .ext⟨d,gv,B,atH,st,g,t,rfl,hD,es,et,og,hg,k⟩;refine⟨_,aj (dZ (cu iU (cy bQ 'r' T.gB bC<|bM<|bE T.Telling<|bE T.lH<|J 0) bR<|dh _) (aF<|bq<|cg<|bM<|jh (-8) T) b9)<|aj (bV<|iw T.Telling T.sU (yM T) hr.mn<|bE T.lH<|J 0)<|aF<|bq<|cg<|bM<|cy bQ 'r' T.gB bC<|bM<|iw T.Telling T.jB (jm T) hr.mn<|bE T.lH<|J 0,?_⟩
  left
  let⟨sv,x,l,ls,ll,le,past,hd,hS,gd,pn,ox,Lf,Le,nl,A0,hT,te⟩:=hD.VN es et;obtain⟨⟨dx,hx⟩,-,-,-,-,⟨us,Cm,rp⟩,-⟩:=id hT;have k:qP a B atH H d {st with telling:=some (if t.log=[]then(t,bT<|-8)else(gM g t.log.dropLast,iD (bY g<|gM g t.log.dropLast).length)).1} (encode (if t.log=[]then(t,bT<|-8)else(gM g t.log.dropLast,iD (bY g<|gM g t.log.dropLast).length)).2) Q:=k;calc⟨_,Y,d,_,_,Y,hd,Y,x,_,_,Y,⟨dx,hx⟩,Y,ll,_,Y,.inl<|cP.of Cm,Y,_,Y,?_⟩;rw[rp.len];rcases QJ t.log with e0|⟨lg,m,e0⟩
  .rw[aG e0]at k;have k:qP a B atH H d {st with telling:=some t} [-8] Q:=k;rw[Fy et]at k;exact qS (aR<|by rw[e0];rfl) ⟨jH 1,λD n=>k.fin hD (λb o _ q=>q) n Y⟩
  .rw[QH]at e0;rw[az<|by rw[e0];simp,show t.log.dropLast=lg by rw[e0,qm]]at k;calc o7 (dF λe=>by have:=V.int.inj e;rw[e0,ak,aI]at this;omega) ?_;let⟨p0,ep,te0,el⟩:=te.back e0;calc⟨_,Y,d,_,_,Y,hd,Y,x,_,_,Y,hx,Y,x,l,ls,ll,le,t,past,p0,lg,m,_,_,Y,hT,e0,ep,λJp H2 f2 Lu=>?_⟩;have e1:(⟨(gM g lg).at_,lg⟩:cZ)=gM g lg:=by
    cases er:gM g lg with
    |mk p q=>rw[er]at el;have el:q=lg:=el;rw[el]
   rw[e1]at Lu;let⟨pP,hS2,C2,ahB⟩:=hD.told T es hd hS gd pn ox Lf Le nl A0 hT f2 Lu te0;obtain⟨⟨Ze,OS⟩,-⟩:=id Lu;have sd:=te0.Ls.KC gd.val gd.ap gd.st;have Rq:=bH sd.len gd.sl;calc⟨_,Y,d,_,_,Y,C2,Y,x,_,_,Y,OS,Y,x,l,Jp,ll,le,_,p0,g,_,_,Y,Lu,ahB,λs hs=>(sd.tk s hs).1,Rq,λs=>gd.br s,λD us H3 s3 n3 h3 rp3=>?_⟩;calc⟨D,_,Y,.inl<|cP.of h3,jH 1,λD' n'=>k.fin (pP.same s3) (λb o q h=>s3 _ _<|f2 b o (λe=>q<|e▸ox) (λe=>q<|e▸Lf) (λe=>q<|e▸Le) h) n' ?_⟩;rw[rp3.len];rfl
def LB(T:Txt K mg a):jM P w K mg base 4 a "answer_run" ["desk","given"]<|acr a:=by
 refine T.B9.fn.ok LL ?_ ?_
 .right
 .ext⟨d,gv,rl,ks,B,atH,st,g,t,rfl,hD,es,et,og,hg,orl,Vc,k⟩;refine⟨_,aF<|bq<|cg<|bM<|qG T.Telling T.rH (xW T) hr.mn (bE T.lH<|J 0)<|bM<|dj ck (J 1) bR λ_ _=>rfl,?_⟩
  left
  let⟨sv,x,l,ls,ll,le,past,hd,hS,gd,pn,ox,Lf,Le,nl,A0,hT,te⟩:=hD.VN es et;obtain⟨⟨dx,hx⟩,-⟩:=id hT;calc⟨_,Y,d,_,_,Y,hd,Y,x,_,_,Y,hx,Y,_,Y,gv,_,_,_,Y,Y,cP.of hg,cJ (j:=0) Y,x,rl,l,ls,ll,le,ks,t,past,g,_,_,Y,Vc,λe=>orl<|e▸Lf,λe=>orl<|e▸Le,hT,A0,nl,λq=>q.1 Lf,λq=>q.1 Le,te,gd,λz hz=>(hD.fr z hz).2,λJp nI H2 f2 Lu te2=>?_⟩;obtain⟨pP,-⟩:=hD.told T es hd hS gd pn ox Lf Le nl A0 hT f2 Lu te2;exact⟨jH 1,λD n=>k.fin pP (λb o q h=>f2 b o (λe=>q<|e▸ox) (λe=>q<|e▸Lf) (λe=>q<|e▸Le) h) n Y⟩
def JC(T:Txt K mg a):jM P w K mg base 5 a "answer_tidy" ["desk","given"]<|Ul a λg _=>({script:=some g.tidied},encode<|iD<|g.states.length-g.tidied.states.length):=by
 refine T.yp.fn.ok zD ?_ ?_
 .right
 .ext⟨d,gv,B,atH,st,g,rfl,hD,es,hg,k⟩;have nd:=zD.nd;refine⟨_,aj (iy 2 nd<|cy bQ 'r' T.gB bC<|bM<|bE T.Script<|bE T.lH<|J 0)<|aj (bV<|qG T.lH T.EI (Ds T) hr.mn (J 0)<|bM<|c8 T.tidied (Ff T) hr.mn<|bM<|bE T.lH<|J 0)<|aF<|bq<|cg<|bM<|fZ yS (J 2)<|cy bQ 'r' T.gB bC<|bM<|bE T.Script<|bE T.lH<|J 0,?_⟩
  left
  obtain⟨od,fz,sv,tv,hd,Di,-⟩:=id hD;rw[es]at Di;let⟨hS,gd,pn⟩:=Di;have k:qP a B atH H d {script:=some g.tidied} [((g.states.length-g.tidied.states.length:Nat):Int)] Q:=k;let⟨x,u3,u4,u6,rfl,hx,h3,h4,⟨l6,xE,rfl,c6,qD,qQ⟩⟩:=id hS;let⟨dd,ES⟩:=id hd;calc⟨_,Y,d,_,_,Y,hd,Y,x,_,_,Y,hx,Y,l6,_,Y,.inl<|cP.of qD,?_⟩;rw[qQ.len];calc⟨_,Y,d,_,_,Y,ES,Y,_,Y,d,_,_,Y,hd,Y,.ref x,g,_,Y,hS,gd.topV,fz,λv1 L s1 q1=>⟨d,dd,_,_,v1,Y,s1 _ _ ES,?_⟩⟩;have sm:Sm d L<|upd L d<|.ins (a.c "Desk") dd [("script",v1),("telling",.gQ)]:= λb o n q=>by rw[aY n];exact q
  have C2:At (a.c "Desk") (upd L d<|.ins (a.c "Desk") dd [("script",v1),("telling",.gQ)]) d [("script",v1),("telling",.gQ)]:=⟨dd,aq⟩;have kp:Kp a (NA B atH) L<|upd L d<|.ins (a.c "Desk") dd [("script",v1),("telling",.gQ)]:=Kp.mut sm (s1 _ _ ES)<|R4 "Desk";have Zg:∀z,(upd L d<|.ins (a.c "Desk") dd [("script",v1),("telling",.gQ)]) z=none->L z=none:= λz hz=>by
   by_cases e:z=d
   .rw[e,aq]at hz;cases hz
   .rwa[aY e]at hz
  generalize upd L d (.ins (a.c "Desk") dd [("script",v1),("telling",.gQ)])=H2 at sm C2 kp Zg⊢;have q2:=q1.kp (T.ok "Branch") (T.ok "State") (T.ok "Script") kp;have tl:g.tidied.states.length<=g.states.length:=by rw[GM.wA];exact GM.pS gd.val gd.st
  have pP:yi a B atH H2 d {script:=some g.tidied}:=⟨od,λz hz=>fz z<|s1.free<|Zg z hz,v1,.gQ,C2,⟨q2,GM.KU gd,pn⟩,Y⟩;obtain⟨y,w3,w4,w6,rfl,hy,-,-,⟨m6,vs6,rfl,e6,hm6,bl6⟩⟩:=id q2;calc⟨_,Y,_,Y,d,_,_,Y,C2,Y,y,_,_,Y,hy,Y,m6,_,Y,.inl<|cP.of hm6,_,_,Y,Y,jH 1,λD n=>k.fin pP (λb o q h=>sm b o (λe=>q<|e▸od)<|s1 _ _ h) n ?_⟩;show [V.int<|(g.states.length:Int)-(vs6.length:Int)]=[V.int _];rw[bl6.len,show(g.states.length:Int)-(g.tidied.states.length:Int)=((g.states.length-g.tidied.states.length:Nat):Int)by omega]
def Hj(T:Txt K mg a):jM P w K mg base 4 a "answer_begin" ["desk","given"]<|Ul a λg st=>({st with telling:=some g.begun},encode<|iD (bY g g.begun).length):=by
 refine T.vP.fn.ok HA ?_ ?_
 .right
 .ext⟨d,gv,B,atH,st,g,rfl,hD,es,hg,k⟩;refine⟨_,aj (dP (J 0) (aeo T.Telling (R7 T) hr.mn<|bM<|bE T.lH<|J 0) Y)<|aF<|bq<|cg<|bM<|cy bQ 'r' T.gB bC<|bM<|iw T.Telling T.jB (jm T) hr.mn<|bE T.lH<|J 0,?_⟩
  left
  obtain⟨od,fz,sv,tv,hd,Di,-⟩:=id hD;rw[es]at Di;let⟨hS,gd,pn⟩:=Di;obtain⟨y,u3,u4,u6,rfl,hy,-,-,⟨l,xE,rfl,c6,qD,qQ⟩⟩:=id hS;have C:=T.lH;have k:qP a B atH H d {st with telling:=some g.begun} [((bY g g.begun).length:Int)] Q:=k;let⟨dd,ES⟩:=id hd;calc⟨_,Y,d,_,_,Y,hd,Y,λx dx nx ndx ne=>?_⟩;have s0:aN H<|upd (upd H dx<|.own x) x<|.ins (a.c "Telling") dx []:= λb o q=>by rw[aY<|bg q nx,aY<|bg q ndx];exact q
  have hx0:(upd (upd H dx<|.own x) x<|.ins (a.c "Telling") dx []) x=some (.ins (a.c "Telling") dx []):=aq;generalize upd (upd H dx<|.own x) x (.ins (a.c "Telling") dx [])=H0 at s0 hx0;calc⟨x,dx,y,l,_,_,u3,u4,g,_,B,Y,hx0,hy.same s0,lJ.same ⟨xE,qD,qQ⟩ s0,c6,gd.st,gd.sl,gd.val,gd.ap,λz hz=>(fz z<|s0.free hz).2,λls ll le L GV nls nll nle hT1=>⟨Y,?_⟩⟩;have s1:aN H L:= λb o q=>GV b o (bg q nx)<|s0 b o q;have Nv:x≠d:=(bg ES nx).symm;calc⟨_,Y,d,_,dd,_,Y,s1 _ _ ES,C.cl,C.nO,vv 2,?_⟩;have ahj:=s1 _ _ ES;have sm:Sm d L<|upd L d<|.ins (a.c "Desk") dd<|jy "telling" (.ref x) [("script",.ref y),("telling",tv)]:= λb o n q=>by rw[aY n];exact q
  have C2:At (a.c "Desk") (upd L d<|.ins (a.c "Desk") dd<|jy "telling" (.ref x) [("script",.ref y),("telling",tv)]) d [("script",.ref y),("telling",.ref x)]:=⟨dd,by rw[aq];rfl⟩;have Zg:∀z,(upd L d<|.ins (a.c "Desk") dd<|jy "telling" (.ref x) [("script",.ref y),("telling",tv)]) z=none->L z=none:= λz hz=>by
   by_cases e:z=d
   .rw[e,aq]at hz;cases hz
   .rwa[aY e]at hz
  generalize upd L d (.ins (a.c "Desk") dd<|jy "telling" (.ref x) [("script",.ref y),("telling",tv)])=H2 at sm C2 Zg⊢;have Lu:=hT1.sm sm ahj Nv;obtain⟨⟨Ze,OS⟩,ap3,-,-,-,⟨us2,aln,-⟩,⟨ws2,ali,-⟩⟩:=id Lu;have aat:H ll=none:=s0.free nll;have aas:H le=none:=s0.free nle;obtain⟨O',eO⟩:∃O':O->Prop,O'= λz=>atH z∨z=x∨z=ll∨z=le:=⟨_,Y⟩;have mono:∀z,(((NA B atH z/\z≠x)/\z≠ll)/\z≠le)->NA B O' z:= λz q=>⟨λh=>by
   rw[eO]at h;rcases h with h|h|h|h
   .exact q.1.1.1.1 h
   .exact q.1.1.2 h
   .exact q.1.2 h
   .exact q.2 h,q.1.1.1.2⟩
  have hSO:jX a (NA B O') H (.ref y) g:=(((hS.ne nx).ne aat).ne aas).mono mono;have kp:Kp a (NA B O') L H2:=Kp.mut sm ahj<|R4 "Desk";have hS2:jX a (NA B O') H2 (.ref y) g:=(hSO.same s1).kp (T.ok "Branch") (T.ok "State") (T.ok "Script") kp;obtain⟨⟨dxT,hxT⟩,-⟩:=id hT1;have adG:lJ a (NA B O') H2 l g.states/\NA B O' l:=by
   have nl:NA B O' l:=mono l ⟨⟨⟨c6,bg qD nx⟩,bg qD aat⟩,bg qD aas⟩;calc⟨⟨xE,kp.lst _ _ nl<|s1 _ _ qD,qQ.mono λ_ _ q=>?_⟩,nl⟩;exact(((((q.ne nx).ne aat).ne aas).mono mono).same s1).kp (T.ok "Branch") (T.ok "State") kp
  have te:xR g g.begun []:=xR.begun g;have pP:yi a B O' H2 d {st with telling:=some g.begun}:=by
   refine⟨by rw[eO];exact .inl od,λz hz=>⟨λh=>?_,(fz z<|s1.free<|Zg z hz).2⟩,.ref y,.ref x,C2,?_,?_⟩
   .rw[eO]at h;rcases h with h|rfl|rfl|rfl
    .exact(fz z<|s1.free<|Zg z hz).1 h
    .rw[OS]at hz;cases hz
    .rw[aln]at hz;cases hz
    .rw[ali]at hz;cases hz
   .show RSc a B O' H2 (.ref y) st.script;rw[es];exact⟨hS2,gd,pn⟩
   .exact⟨g,x,l,ls,ll,le,[],es,Y,by rw[eO];exact .inr<|.inl Y,by rw[eO];exact .inr<|.inr<|.inl Y,by rw[eO];exact .inr<|.inr<|.inr Y,adG.2,adG.1,Lu,te⟩
  have sd:=te.Ls.KC gd.val gd.ap gd.st;have Rq:=bH sd.len gd.sl;calc⟨_,Y,d,_,_,Y,C2,Y,x,_,_,Y,OS,Y,x,l,ls,ll,le,g.begun,[],g,_,_,Y,Lu,adG.1,λs hs=>(sd.tk s hs).1,Rq,λs=>gd.br s,λD us H3 s3 n3 h3 rp3=>?_⟩;calc⟨D,_,Y,.inl<|cP.of h3,jH 1,λD' n'=>?_⟩;rw[rp3.len];have Df:=pP.same s3;have nO:=(Df.fr D' n').1;have nH:H D'=none:=s1.free<|Zg _<|s3.free n';exact k D' _ O' (λb o q h=>(aN.new n') _ _ (s3 _ _<|sm b o (λe=>q<|e▸od)<|s1 _ _ h)) (λb h=>by
   rw[eO]at h;rcases h with h|rfl|rfl|rfl
   .exact .inl h
   .exact .inr nx
   .exact .inr aat
   .exact .inr aas) nH nO (by rw[aq];rfl) (Df.same<|aN.new n')
noncomputable def Dm(st:dQ)(b:bL):dQ×List Int:=match gD b with
 | .ok g=>({script:=some g},[1])
 | .error f=>(st,[0,(f.code:Int),(f.place:Int)])
inductive Yw (a:g9) (S:List V) (H:Hp) (Q:VK) (rq:XK):Prop
 |mk (d gv rl:O) (b:bL) (B atH:O->Prop) (st:dQ) (k0:S=[.ref d,.ref gv]) (k1:yi a B atH H d st) (k2:H gv=some (.lst [.ref rl])) (k3:H rl=some (.lst (iv (nb b)))) (k4:b.length<=8192) (k5:qP a B atH H d (Dm st b).1 (Dm st b).2 Q)
def aaL{b:bL}(h:gD b= .ok g):g.parties≠[]:=by
 rw[GM.Uh]at h;let⟨l,G,h⟩:=GM.bu h;let⟨r,h2,h⟩:=GM.bu h;let⟨g',h3,h⟩:=GM.bu h;let⟨_,h4,h⟩:=GM.bu h;split at h
 .cases h
 .cases h;rw[GM.Gd h3];intro e;exact GM.Qi h2 (SO.mp e)
theorem Jz(T:Txt K mg a):jM P w K mg base 14 a "answer_load" ["desk","given"]<|Yw a:=by
 refine T.yl.fn.ok zB ?_ ?_
 .right
 .ext⟨d,gv,rl,b,B,atH,st,rfl,hD,hg,Vc,hb,k⟩;have nd:=zB.nd;refine⟨_,aj (aeq (C:=a.c "Fault") (fI:=a.f "Fault.__init__") (i:=2) T.U5 hr.hd ⟨Y,Y⟩ 'r' T.adk nd Y Y (λpn W EX hp=>aF<|bV<|qG T.lH T.EI (Ds T) hr.mn (J 0)<|bM<|N6 hp T.Ft (DA T) hr.mn<|bM<|dj (yz (K:=K) Y) (J 1) bR λ_ _=>rfl) λe=>aF<|bq<|cg<|aD bR<|aD (T8 T.U5 (.inl Y)<|J 2)<|bM<|T8 T.U5 (.inr Y)<|J 2)<|aF<|bq<|cg<|bM bR,?_⟩
  left
  obtain⟨od,fz,sv,tv,hd,Di,-⟩:=id hD;let⟨dd,ES⟩:=id hd;calc⟨_,Y,d,_,_,Y,ES,Y,_,Y,gv,_,_,_,Y,Y,cP.of hg,cJ (j:=0) Y,rl,b,Y,cP.of Vc,'l',?_⟩;unfold Dm at k;cases er:gD b with
  |error f=>
   rw[er]at k;have k:qP a B atH H d st [0,(f.code:Int),(f.place:Int)] Q:=k;have k:=k.look hD;intro dx L s1 hx;calc⟨Y,dx,_,_,Y,hx,λe ne nde=>?_⟩;have s2:aN L<|upd L e<|.ext<|ZG e (a.c "Fault") dx:=aN.new ne;have OS:=s2 _ _ hx;calc⟨_,Y,e,dx,_,_,Y,aq,OS,Y,_,Y,e,dx,_,_,Y,aq,OS,Y,jH 3,λD n=>ie k (s1.trans s2) n Y⟩
  |ok g=>
   rw[er]at k;have k:qP a B atH H d {script:=some g} [1] Q:=k;intro v L s1 q1;calc⟨d,dd,_,_,v,Y,s1 _ _ ES,?_⟩;have sm:Sm d L<|upd L d<|.ins (a.c "Desk") dd [("script",v),("telling",.gQ)]:= λb o n q=>by rw[aY n];exact q
   have C2:At (a.c "Desk") (upd L d<|.ins (a.c "Desk") dd [("script",v),("telling",.gQ)]) d [("script",v),("telling",.gQ)]:=⟨dd,aq⟩;have kp:Kp a (NA B atH) L<|upd L d<|.ins (a.c "Desk") dd [("script",v),("telling",.gQ)]:=Kp.mut sm (s1 _ _ ES)<|R4 "Desk";have Zg:∀z,(upd L d<|.ins (a.c "Desk") dd [("script",v),("telling",.gQ)]) z=none->L z=none:= λz hz=>by
    by_cases e:z=d
    .rw[e,aq]at hz;cases hz
    .rwa[aY e]at hz
   generalize upd L d (.ins (a.c "Desk") dd [("script",v),("telling",.gQ)])=H2 at sm C2 kp Zg⊢;have q2:=(q1.mono fz).kp (T.ok "Branch") (T.ok "State") (T.ok "Script") kp;have pP:yi a B atH H2 d {script:=some g}:=⟨od,λz hz=>fz z<|s1.free<|Zg z hz,v,.gQ,C2,⟨q2,GM.MF er,aaL er⟩,Y⟩;exact⟨jH 1,λD n=>k.fin pP (λb o q h=>sm b o (λe=>q<|e▸od)<|s1 _ _ h) n Y⟩
def Hi(T:Txt K mg a):jM P w K mg base 14 a "answer_alike" ["desk","given"]<|Ie a .alike:=by
 refine T.vO.fn.ok xm ?_ ?_
 .right
 .ext⟨d,gv,rl,g,b,rfl,⟨A',sv,tv,hd,hS,gd,pn,fr⟩,hg,Vc,hb,k⟩;have nd:=xm.nd;refine⟨_,aj (aaG (C:=a.c "Fault") (fI:=a.f "Fault.__init__") T.U5 ⟨Y,Y⟩ 'r' T.adk (λpn W EX hp=>aF<|iy 2 nd<|N6 hp T.Ft (DA T) hr.mn<|bM<|dj (yz (K:=K) Y) (J 1) bR λ_ _=>rfl) λe=>aF<|bq<|cg<|bM<|jh (-3) T)<|aF<|bq<|cg<|bM<|rS (fX<|c8 T.L7 (NV T) hr.mn<|aD (bE T.lH<|J 0)<|bM<|J 2) bR bR,?_⟩
  left
  rw[Jl]at k;calc⟨_,Y,gv,_,_,_,Y,Y,cP.of hg,cJ (j:=0) Y,rl,b,Y,cP.of Vc,'o',?_⟩;cases er:gD b with
  |error f=>
   rw[er]at k;intro dx L s1 hx;exact⟨Y,dx,_,_,Y,hx,jH 1,λD n=>ie k s1 n Y⟩
  |ok h=>
   rw[er]at k;have k:EJ H [(((qO g h).toNat:Nat):Int)] Q:=k;intro v L s1 q1;calc⟨_,Y,d,_,_,Y,hd.same s1,Y,_,Y,sv,v,g,h,A',_,Y,hS.same s1,q1,gd,GM.MF er,λz hz=>fr z<|s1.free hz,λz hz=>s1.free hz,λH2 s2=>⟨_,Y,?_⟩⟩;cases ea:qO g h with
   |true=>
    rw[ea]at k;exact oh ⟨jH 1,λD n=>ie k (s1.trans s2) n Y⟩
   |false=>
    rw[ea]at k;exact m7 ⟨jH 1,λD n=>ie k (s1.trans s2) n Y⟩
def Lb(a:g9)(K:aJ)(H:Hp)(r cl:O)(l:List Int)(p:Nat):Prop:=At (a.c "CallReader") H r [("calls",.ref cl),("at",.int (p:Int))]/\cP K H cl (iZ l)
def Lb.same{a:g9}{K:aJ}{H U:Hp}{r cl:O}{l:List Int}{p:Nat}(h:Lb a K H r cl l p)(s:aN H U):Lb a K U r cl l p:=⟨h.1.same s,s.seq h.2⟩
def Lb.lst{l:List Int}{gs:List (Str×V)}(hr:H r=some (.ins (a.c "CallReader") dx fs))(h:cP K H cl<|iZ l):cP K (upd H r<|.ins (a.c "CallReader") dx gs) cl<|iZ l:=by
 by_cases e:cl=r
 .subst e;rcases h with(h|⟨o,h⟩)|h
  .rw[hr]at h;cases h
  .rw[hr]at h;cases h
  .exact .inr h
 .exact h.CK λo q=>by rw[aY e];exact q
inductive aeH (a:g9) (K:aJ) (S:List V) (H:Hp) (Q:VK) (rq:XK):Prop
 |mk (r cl l p:_) (k0:S=[.ref r]) (k1:Lb a K H r cl l p) (k2:Q (.bl (decide (l.length<=p))) H)
inductive aiG (a:g9) (K:aJ) (S:List V) (H:Hp) (Q:VK) (rq:XK):Prop
 |mk (r cl:O) (l:List Int) (p:Nat) (z:Int) (k0:S=[.ref r]) (k1:Lb a K H r cl l p) (k2:l[p]? =some z) (k3:∀U,Sm r H U->(∀b,H b=none->b≠r->U b=none)->Lb a K U r cl l (p+1)->Q (.int z) U)
inductive aiJ (a:g9) (K:aJ) (S:List V) (H:Hp) (Q:VK) (rq:XK):Prop
 |mk (r cl:O) (l:List Int) (p n:Nat) (k0:S=[.ref r]) (k1:Lb a K H r cl l p) (k2:l[p]? =some (n:Int)) (k3:p+1+n<=l.length) (k4:l.length<=100000) (k5:∀D U,Sm r H U->H D=none->U D=some (.lst (iZ ((l.drop (p+1)).take n)))->Lb a K U r cl l (p+1+n)->Q (.ref D) U)
def LA(T:Txt K mg a):jM P w K mg base 1 a "CallReader.__init__" ["self","calls"]<|Eg (a.c "CallReader") 1 λus=>[("calls",us.headD .gQ),("at",.int 0)]:=by
 refine T.eX.fn.ok CC ?_ ?_
 .rintro _ _ _ _ ⟨p,dx,us,rfl,l,_⟩;simp[l]
 .ext⟨p,dx,us,rfl,l,hp,k⟩;revert hp k;calc tV l ?_;intro v1 hp k;have C:=T.eX;refine⟨_,aj (dP (J 0) (J 1) Y)<|aF<|dP (J 0) bR Y,?_⟩
  left
  calc⟨_,Y,_,Y,p,_,dx,_,Y,hp,C.cl,C.nO,'d',_,Y,p,_,dx,_,Y,aq,C.cl,C.nO,vv 1,?_⟩;rw[dS];exact k
def xV(T:Txt K mg a):jM P w K mg base 1 a "CallReader.is_done" ["self"]<|aeH a K:=by
 refine T.rG.fn.ok xY ?_ ?_
 .right
 .ext⟨r,cl,l,p,rfl,⟨G,h2⟩,k⟩;refine⟨_,aF<|bq<|pR XI (bE T.eX<|J 0) (cy bQ 'r' T.gB bC<|bM<|bE T.eX<|J 0)<|dh _,?_⟩
  left
  calc⟨_,Y,r,_,_,Y,G,Y,_,Y,r,_,_,Y,G,Y,cl,_,Y,.inl h2,_,_,Y,Y,?_⟩;show Q (.bl<|decide<|((iZ l).length:Int)<=(p:Int)) H;rw[ai,show decide ((l.length:Int)<=(p:Int))=decide (l.length<=p)from jj.mpr 'o'];exact k
def jx(T:Txt K mg a):jM P w K mg base 1 a "CallReader.take_number" ["self"]<|aiG a K:=by
 refine T.i7.fn.ok l9 ?_ ?_
 .right
 .ext⟨r,cl,l,p,z,rfl,⟨⟨dx,G⟩,h2⟩,hz,k⟩;have nd:=l9.nd;refine⟨_,aj (iy 1 nd<|dj ck (bE T.eX<|J 0) (bE T.eX<|J 0) λ_ _=>rfl)<|aj (Fl (J 0) bR RK)<|aF<|bq<|J 1,?_⟩
  left
  calc⟨_,Y,r,_,_,Y,⟨dx,G⟩,Y,_,Y,r,_,_,Y,⟨dx,G⟩,Y,cl,_,_,_,Y,Y,h2,cJ (v:= .int z)<|by rw[aH,hz];rfl,?_⟩;calc⟨_,Y,r,_,dx,_,_,Y,G,T.eX.cl,T.eX.nO,Y,_,_,Y,Y,dx,_,G,vv 2,_,Y,?_⟩;calc k _ Sm.upd (λb q n=>by rw[aY n];exact q) ⟨⟨dx,?_⟩,Lb.lst G h2⟩;rw[aq];rfl
theorem wg(T:Txt K mg a):jM P w K mg base 2 a "CallReader.take_row" ["self"]<|aiJ a K:=by
 refine T.qB.fn.ok oA ?_ ?_
 .right
 .ext⟨r,cl,l,p,n,rfl,hR,hz,hl,Cm,k⟩;have nd:=oA.nd;refine⟨_,aj (iy 1 nd<|iw T.eX T.i7 (jx T) hr.mn<|J 0)<|aj (iy 2 nd<|p5 wm (bE T.eX<|J 0) (mU<|bE T.eX<|J 0)<|mU<|fZ om (bE T.eX<|J 0)<|J 1)<|aj (Fl (J 0) (J 1) RK)<|aF<|bq<|J 2,?_⟩
  left
  let⟨⟨dx,G⟩,h2⟩:=id hR;calc⟨_,Y,r,_,_,Y,G,Y,r,cl,l,p,_,Y,hR,hz,λL GV fz1 mG=>?_⟩;let⟨⟨Nv,g1⟩,g2⟩:=id mG;have hX:At (a.c "CallReader") L r [("calls",.ref cl),("at",.int ((p+1:Nat):Int))]:=⟨Nv,g1⟩;calc⟨_,Y,r,_,_,Y,hX,Y,_,Y,r,_,_,Y,hX,Y,_,Y,_,Y,r,_,_,Y,hX,Y,_,Y,_,_,Y,Y,_,Y,cl,_,Y,g2,λD nD=>?_⟩;have ec:uO (iZ l) (some ((p+1:Nat):Int)) (some<|((p+1:Nat):Int)+(n:Int))=iZ ((l.drop<|p+1).take n):=by
   rw[show(((p+1:Nat):Int)+(n:Int))=((p+1+n:Nat):Int)by lia];unfold uO;rw[HT.oz,HT.oz,ai,iW hl,iW 'l',show p+1+n-(p+1)=n by lia];unfold iZ;rw[qh,uA]
  rw[ec];have s2:aN L<|upd L D<|.lst<|iZ<|(l.drop<|p+1).take n:=aN.new nD;have pP:(upd L D<|.lst<|iZ<|(l.drop<|p+1).take n) D=some (.lst<|iZ<|(l.drop<|p+1).take n):=aq;generalize upd L D (.lst<|iZ<|(l.drop<|p+1).take n)=H2 at s2 pP⊢;have g1':=s2 _ _ g1;have rD:D≠r:=(bg g1 nD).symm;calc⟨_,Y,r,_,Nv,_,_,Y,g1',T.eX.cl,T.eX.nO,Y,_,Y,_,_,Y,Y,Nv,_,g1',vv 2,_,Y,?_⟩;have nDH:H D=none:=by
   cases q:H D with
   |none=>rfl
   |some o=>rw[GV D o rD q]at nD;cases nD
  calc k D _ (λb o nb q=>by rw[aY nb];exact s2 _ _<|GV b o nb q) nDH (by rw[aY rD];exact pP) ⟨⟨Nv,?_⟩,Lb.lst g1'<|s2.seq g2⟩;rw[aq];show some (HO.ins _ Nv [("calls",V.ref cl),("at",V.int<|((p+1:Nat):Int)+(n:Int))])=_;rw[show(((p+1:Nat):Int)+(n:Int))=((p+1+n:Nat):Int)by lia]
inductive Cn where
 |n0|n1|n2|n3|n4|n5|n6|n7|n8|n9|Q5|RZ|TX|R0|R1|TY|OT|TZ
def Cn.val:Cn->Nat
 |n0=>0|n1=>1|n2=>2|n3=>3|n4=>4|n5=>5|n6=>6|n7=>7|n8=>8|n9=>9|Q5=>10|RZ=>11|TX=>12|R0=>13|R1=>14|TY=>15|OT=>16|TZ=>17
def cP.move{xs:List V}(h:cP K H cl xs)(hr:H r=some (.ins C dx fs))(s:Sm r H U):cP K U cl xs:=by
 rcases h with(h|⟨o,h⟩)|h
 .exact .inl (.inl<|s _ _ (gz h hr<|by intro z;cases z) h)
 .exact .inl (.inr ⟨o,s _ _ (gz h hr<|by intro z;cases z) h⟩)
 .exact .inr h
def Lb.move{l:List Int}{p':Nat}(h:Lb a K H r cl l p)(s:Sm r H U)(q:At (a.c "CallReader") U r [("calls",.ref cl),("at",.int (p':Int))]):Lb a K U r cl l p':=let⟨⟨_,G⟩,h2⟩:=h;⟨q,cP.move h2 G s⟩
noncomputable def fNm:Cn->Str
 | .n0=>"answer_load"| .n1=>"answer_show"| .n2=>"answer_sizes"| .n3=>"answer_seat"| .n4=>"answer_state"| .n5=>"answer_branch"| .n6=>"answer_find"| .n7=>"answer_reach"| .n8=>"answer_route"
 | .n9=>"answer_tidy"| .Q5=>"answer_alike"| .RZ=>"answer_begin"| .TX=>"answer_options"| .R0=>"answer_choose"| .R1=>"answer_back"| .TY=>"answer_told"| .OT=>"answer_run"| .TZ=>"answer_standing"
noncomputable def KN:Cn->Str
 | .n0=>"CALLS.0"| .n1=>"CALLS.1"| .n2=>"CALLS.2"| .n3=>"CALLS.3"| .n4=>"CALLS.4"| .n5=>"CALLS.5"| .n6=>"CALLS.6"| .n7=>"CALLS.7"| .n8=>"CALLS.8"
 | .n9=>"CALLS.9"| .Q5=>"CALLS.10"| .RZ=>"CALLS.11"| .TX=>"CALLS.12"| .R0=>"CALLS.13"| .R1=>"CALLS.14"| .TY=>"CALLS.15"| .OT=>"CALLS.16"| .TZ=>"CALLS.17"
def cX:Cn->Nat
 | .n3=>1| .n4=>1| .n5=>2| .n7=>1| .n8=>1| .R0=>1|_=>0
def cY:Cn->Nat
 | .n0=>1| .n6=>1| .Q5=>1| .OT=>1|_=>0
noncomputable def IE(a:g9):List<|Key×aC:=[(b8 0,.ref<|a.c<|KN .n0),(b8 1,.ref<|a.c<|KN .n1),(b8 2,.ref<|a.c<|KN .n2),(b8 3,.ref<|a.c<|KN .n3),(b8 4,.ref<|a.c<|KN .n4),(b8 5,.ref<|a.c<|KN .n5),(b8 6,.ref<|a.c<|KN .n6),(b8 7,.ref<|a.c<|KN .n7),(b8 8,.ref<|a.c<|KN .n8),(b8 9,.ref<|a.c<|KN .n9),(b8 10,.ref<|a.c<|KN .Q5),(b8 11,.ref<|a.c<|KN .RZ),(b8 12,.ref<|a.c<|KN .TX),(b8 13,.ref<|a.c<|KN .R0),(b8 14,.ref<|a.c<|KN .R1),(b8 15,.ref<|a.c<|KN .TY),(b8 16,.ref<|a.c<|KN .OT),(b8 17,.ref<|a.c<|KN .TZ)]
def EL(a:g9):∀i:Cn,valueAt (IE a) (b8 ((i.val:Nat):Int))=some (.ref<|a.c<|KN i)
 | .n0=>rfl| .n1=>rfl| .n2=>rfl| .n3=>rfl| .n4=>rfl| .n5=>rfl| .n6=>rfl| .n7=>rfl| .n8=>rfl| .n9=>rfl| .Q5=>rfl| .RZ=>rfl| .TX=>rfl| .R0=>rfl| .R1=>rfl| .TY=>rfl| .OT=>rfl| .TZ=>rfl
structure Iv (P:eL) (w:gH) (K:aJ) (mg:Str->Option aC) (a:g9):Prop where
 m:mg "CALLS"=some (.ref<|a.c "CALLS")
 d:Wy P w K (a.c "CALLS") (IE a)
 t:∀(i:Cn) (H:Hp),oS K H (a.c<|KN i) [.ref<|a.f<|fNm i,.int ((cX i:Nat):Int),.int ((cY i:Nat):Int)]
inductive aaY (a:g9) (K:aJ) (S:List V) (H:Hp) (Q:VK) (rq:XK):Prop
 |mk (r cl:O) (l:List Int) (p:Nat) (i:Cn) (k0:S=[.ref r,.int ((i.val:Nat):Int)]) (k1:Lb a K H r cl l p) (k2:l.length<=100000) (k3:p+cX i<=l.length) (k4:(cY i=1->∃n:Nat,l[p+cX i]? =some (n:Int)/\p+cX i+1+n<=l.length)) (k5:(cY i=0->∀gv U,Sm r H U->H gv=none->U gv=some (.lst (iZ ((l.drop p).take (cX i))))->Lb a K U r cl l (p+cX i)->Q (.ref gv) U)) (k6:(cY i=1->∀(n:Nat) gv rl U,l[p+cX i]? =some (n:Int)->Sm r H U->H gv=none->H rl=none->U rl=some (.lst (iZ ((l.drop (p+cX i+1)).take n)))->U gv=some (.lst (iZ ((l.drop p).take (cX i))++[.ref rl]))->Lb a K U r cl l (p+cX i+1+n)->Q (.ref gv) U))
def acA(i:Cn):cX i<=2/\(cY i=0∨cY i=1):=by
 match i with
 | .n0=>exact⟨'d',.inr Y⟩| .n1=>exact⟨'d',.inl Y⟩| .n2=>exact⟨'d',.inl Y⟩| .n3=>exact⟨'d',.inl Y⟩| .n4=>exact⟨'d',.inl Y⟩| .n5=>exact⟨'d',.inl Y⟩| .n6=>exact⟨'d',.inr Y⟩| .n7=>exact⟨'d',.inl Y⟩| .n8=>exact⟨'d',.inl Y⟩| .n9=>exact⟨'d',.inl Y⟩| .Q5=>exact⟨'d',.inr Y⟩| .RZ=>exact⟨'d',.inl Y⟩| .TX=>exact⟨'d',.inl Y⟩| .R0=>exact⟨'d',.inl Y⟩| .R1=>exact⟨'d',.inl Y⟩| .TY=>exact⟨'d',.inl Y⟩| .OT=>exact⟨'d',.inr Y⟩| .TZ=>exact⟨'d',.inl Y⟩
def ug(T:Txt K mg a)(C:Iv P w K mg a):jM P w K mg base 3 a "CallReader.take_given" ["self","number"]<|aaY a K:=by
 refine T.oZ.fn.ok mR ?_ ?_
 .right
 .ext⟨r,cl,l,p,i,rfl,hR,Cm,hx,hy,k0,k1⟩;have nd:=mR.nd;refine⟨_,aj (iy 2 nd<|cg iI)<|aj (lS dN Y (Fi 'r' T.gB<|bM<|dj pC (Oa C.d C.m (J 1) λ_ _=>rfl) bR λ_ _=>rfl) (xX 3 nd)<|aF<|bV<|gR aM bh bw d9 (J 2)<|bM<|iw T.eX T.i7 (jx T) hr.mn<|J 0)<|aj (lS dN Y (Fi 'r' T.gB<|bM<|dj pC (Oa C.d C.m (J 1) λ_ _=>rfl) bR λ_ _=>rfl) (xX 3 nd)<|aF<|bV<|gR aM bh bw d9 (J 2)<|bM<|iw T.eX T.qB (wg T) hr.mn<|J 0)<|aF<|bq<|J 2,?_⟩
  left
  let⟨x2,y01⟩:=acA i;calc⟨b7 _,λgv ng=>?_⟩;have s1:aN H<|upd H gv<|.lst []:=aN.new ng;have G:(upd H gv<|.lst []) gv=some (.lst<|iZ<|(l.drop p).take 0):=aq;generalize upd H gv (.lst [])=L at s1 G⊢;have sI:∀(j:Nat) {b:Int},[V.ref<|a.f<|fNm i,.int ((cX i:Nat):Int),.int ((cY i:Nat):Int)][j]? =some (.int b)->True:= λ_ _ _=>trivial;calc⟨_,Y,_,_,Y,EL a i,a.c<|KN i,_,_,_,Y,Y,C.t i L,cJ (j:=1) Y,_,Y,'o','o',?_⟩;rw[iR];refine Mm (lo:=0) (n:=cX i) (λj Z U=>∃v:Option V,A4 (Z=[some<|.ref r,some<|.int ((i.val:Nat):Int),some<|.ref gv,v]) (Sm r H U) (U gv=some (.lst<|iZ<|(l.drop p).take j))<|Lb a K U r cl l<|p+j) ⟨none,Y,s1.sm r,G,hR.same s1⟩ ?_ ?_
  .rintro j Z U hj ⟨v,rfl,sm,hg,hR'⟩;let⟨⟨dx,q1⟩,q2⟩:=id hR';obtain⟨z,hz⟩:∃z,l[p+j]? =some z:=⟨_,aK 'o'⟩;have rg:gv≠r:=gz hg q1 (by intro z;cases z);calc⟨_,Y,.inl ⟨Y,_,cP.of hg⟩,_,Y,r,_,_,Y,q1,Y,r,cl,l,p+j,z,Y,hR',hz,λH2 pA _ kF=>?_⟩;have hg2:=pA _ _ rg hg;calc⟨gv,_,_,Y,Y,hg2,by rw[ai,dW,aW];omega,?_⟩;have et:(l.drop p).take (j+1)=(l.drop p).take j++[z]:=take_snoc (by rw[sH];exact hz);refine⟨_,Y,λb o nb q=>?_,?_,?_⟩
   .rw[aY<|bg q ng];exact pA b o nb (sm b o nb q)
   .rw[aq,et];unfold iZ;rw[bP];rfl
   .let⟨⟨Ze,q3⟩,q4⟩:=kF;calc hR.move (λb o nb q=>?_) ⟨Ze,by rw[aY rg.symm];exact q3⟩;rw[aY<|bg q ng];exact pA b o nb (sm b o nb q)
  .rintro Z U ⟨v,rfl,sm,hg,hR'⟩;let⟨⟨dx,q1⟩,q2⟩:=id hR';have rg:gv≠r:=gz hg q1 (by intro z;cases z);calc⟨_,Y,_,_,Y,EL a i,a.c<|KN i,_,_,_,Y,Y,C.t i U,cJ (j:=2) Y,_,Y,'o','o',?_⟩;rw[iR];refine Mm (lo:=0) (n:=cY i) (λj Z U=>∃v:Option V,A3 (Z=[some<|.ref r,some<|.int ((i.val:Nat):Int),some<|.ref gv,v]) (Sm r H U)<|(j=0/\U gv=some (.lst<|iZ<|(l.drop p).take (cX i))/\Lb a K U r cl l (p+cX i))∨(j=1/\∃(n:Nat) (rl:O),l[p+cX i]? =some (n:Int)/\H rl=none/\U rl=some (.lst<|iZ<|(l.drop<|p+cX i+1).take n)/\U gv=some (.lst<|iZ ((l.drop p).take (cX i))++[.ref rl])/\Lb a K U r cl l (p+cX i+1+n))) ⟨v,Y,sm,.inl ⟨Y,hg,hR'⟩⟩ ?_ ?_
   .rintro j Z L hj ⟨v,rfl,GV,h⟩;rcases h with⟨rfl,hg1,mG⟩|⟨rfl,-⟩
    .have y1:cY i=1:=by omega
     let⟨n,hn,hl⟩:=hy y1;let⟨⟨Nv,q3⟩,q4⟩:=id mG;calc⟨_,Y,.inl ⟨Y,_,cP.of hg1⟩,_,Y,r,_,_,Y,q3,Y,r,cl,l,p+cX i,n,Y,mG,hn,hl,Cm,λrl H2 pA Zm Vc kF=>?_⟩;have hg2:=pA _ _ rg hg1;have rlg:rl≠gv:= λe=>by rw[e,hg1]at Zm;cases Zm
     calc⟨gv,_,_,Y,Y,hg2,by rw[ai,dW,aW];omega,?_⟩;obtain⟨⟨Ze,q5⟩,-⟩:=kF;have smN:Sm r H<|upd H2 gv<|.lst<|iZ ((l.drop p).take (cX i))++[.ref rl]:= λb o nb q=>by rw[aY<|bg q ng];exact pA b o nb (GV b o nb q)
     have rlr:rl≠r:= λe=>by rw[e,q3]at Zm;cases Zm
     have ame:H rl=none:=by
      cases q:H rl with
      |none=>rfl
      |some o=>rw[GV rl o rlr q]at Zm;cases Zm
     exact⟨_,Y,smN,.inr ⟨Y,n,rl,hn,ame,by rw[aY rlg];exact Vc,aq,hR.move smN ⟨Ze,by rw[aY rg.symm];exact q5⟩⟩⟩
    .omega
   .rintro Z L ⟨v,rfl,GV,h⟩;rcases h with⟨h0,hg1,mG⟩|⟨h0,n,rl,hn,Zm,Vc,hg1,mG⟩
    .exact⟨_,Y,k0 h0 gv L GV ng hg1 mG⟩
    .exact⟨_,Y,k1 h0 n gv rl L hn GV ng Zm Vc hg1 mG⟩
def abh(g:bF)(_:dQ):dQ×List Int:=({script:=some g.tidied},encode<|iD<|g.states.length-g.tidied.states.length)
def WE(g:bF)(st:dQ):dQ×List Int:=({st with telling:=some g.begun},encode<|iD (bY g g.begun).length)
def spN(a:g9):Cn->Sp
 | .n0=>Yw a| .n1=>Fx a [] .show| .n2=>Fx a [] .sizes| .n3=>tS a .seat| .n4=>tS a .state| .n5=>Um a| .n6=>Ie a .find| .n7=>tS a .reach| .n8=>tS a .route
 | .n9=>Ul a abh| .Q5=>Ie a .alike| .RZ=>Ul a WE| .TX=>Eh a [] .options| .R0=>Yz a| .R1=>Eh a [] .back| .TY=>Eh a [] .told| .OT=>acr a| .TZ=>Eh a [] .standing
def kN:Cn->Nat
 | .n0=>14| .n1=>5| .n2=>1| .n3=>3| .n4=>3| .n5=>4| .n6=>2| .n7=>4| .n8=>4| .n9=>5| .Q5=>14| .RZ=>4| .TX=>2| .R0=>3| .R1=>2| .TY=>2| .OT=>4| .TZ=>1
inductive i6 (H:Hp) (atH:O->Prop) (gv:O):Cn->g6->Prop
 |load {rl:O} {b:bL}:H gv=some (.lst [.ref rl])->¬atH rl->H rl=some (.lst (iv (nb b)))->b.length<=8192->i6 H atH gv .n0 (.load b)
 |acm:H gv=some (.lst [])->i6 H atH gv .n1 .show
 |sizes:H gv=some (.lst [])->i6 H atH gv .n2 .sizes
 |seat {i:Int}:H gv=some (.lst [.int i])->i6 H atH gv .n3 (.seat i)
 |state {i:Int}:H gv=some (.lst [.int i])->i6 H atH gv .n4 (.state i)
 |branch {i j:Int}:H gv=some (.lst [.int i,.int j])->i6 H atH gv .n5 (.branch i j)
 |find {rl:O} {b:bL}:H gv=some (.lst [.ref rl])->¬atH rl->H rl=some (.lst (iv (nb b)))->b.length<=8192->i6 H atH gv .n6 (.find b)
 |reach {i:Int}:H gv=some (.lst [.int i])->i6 H atH gv .n7 (.reach i)
 |route {i:Int}:H gv=some (.lst [.int i])->i6 H atH gv .n8 (.route i)
 |tidy:H gv=some (.lst [])->i6 H atH gv .n9 .tidy
 |alike {rl:O} {b:bL}:H gv=some (.lst [.ref rl])->¬atH rl->H rl=some (.lst (iv (nb b)))->b.length<=8192->i6 H atH gv .Q5 (.alike b)
 |begin:H gv=some (.lst [])->i6 H atH gv .RZ .begin
 |options:H gv=some (.lst [])->i6 H atH gv .TX .options
 |choose {i:Int}:H gv=some (.lst [.int i])->i6 H atH gv .R0 (.choose i)
 |back:H gv=some (.lst [])->i6 H atH gv .R1 .back
 |told:H gv=some (.lst [])->i6 H atH gv .TY .told
 |run {rl:O} {ks:List Int}:H gv=some (.lst [.ref rl])->¬atH rl->H rl=some (.lst (iZ ks))->i6 H atH gv .OT (.run ks)
 |standing:H gv=some (.lst [])->i6 H atH gv .TZ .standing
def ZR{i:Cn}{c:g6}(hD:yi a B atH H d st)(og:¬atH gv)(hc:i6 H atH gv i c)(k:qP a B atH H d (dI st c).1 (encode (dI st c).2) Q) (hs:i.val≠0->∃g,st.script=some g)(ht:12<=i.val->∃t,st.telling=some t):spN a i [.ref d,.ref gv] H Q E0:=by
 let⟨sc,tl⟩:=st;cases hc with
 |load G h2 h3 h4=>
  rename_i rl b;calc⟨d,gv,rl,b,B,atH,_,Y,hD,G,h3,h4,?_⟩;have e:Dm ⟨sc,tl⟩ b=((dI ⟨sc,tl⟩<|.load b).1,encode (dI ⟨sc,tl⟩<|.load b).2):=by
   have e:dI ⟨sc,tl⟩ (.load b)=(match gD b with
    | .ok g=>(({script:=some g}:dQ),({value:=1}:Lk))
    | .error f=>(⟨sc,tl⟩,{value:=0,rest:=[(f.code:Int),(f.place:Int)]})):=by cases sc<;>rfl
   rw[e];unfold Dm;cases gD b<;>rfl
  rw[e];exact k
 |acm h=>let⟨g,e⟩:=hs 'd';have e:sc=some g:=e;subst e;exact⟨d,gv,g,Y,hD.ZW Y,h,k.look hD⟩
 |sizes h=>let⟨g,e⟩:=hs 'd';have e:sc=some g:=e;subst e;exact⟨d,gv,g,Y,hD.ZW Y,h,k.look hD⟩
 |seat h=>let⟨g,e⟩:=hs 'd';have e:sc=some g:=e;subst e;exact⟨_,d,gv,g,Y,hD.ZW Y,h,k.look hD⟩
 |state h=>let⟨g,e⟩:=hs 'd';have e:sc=some g:=e;subst e;exact⟨_,d,gv,g,Y,hD.ZW Y,h,k.look hD⟩
 |branch h=>rename_i i j;let⟨g,e⟩:=hs 'd';have e:sc=some g:=e;subst e;exact⟨(i,j),d,gv,g,Y,hD.ZW Y,h,k.look hD⟩
 |find G h2 h3 h4=>rename_i rl b;let⟨g,e⟩:=hs 'd';have e:sc=some g:=e;subst e;exact⟨d,gv,rl,g,b,Y,hD.ZW Y,G,h3,h4,k.look hD⟩
 |reach h=>let⟨g,e⟩:=hs 'd';have e:sc=some g:=e;subst e;exact⟨_,d,gv,g,Y,hD.ZW Y,h,k.look hD⟩
 |route h=>let⟨g,e⟩:=hs 'd';have e:sc=some g:=e;subst e;exact⟨_,d,gv,g,Y,hD.ZW Y,h,k.look hD⟩
 |tidy h=>let⟨g,e⟩:=hs 'd';have e:sc=some g:=e;subst e;exact⟨d,gv,B,atH,_,g,Y,hD,Y,h,k⟩
 |alike G h2 h3 h4=>rename_i rl b;let⟨g,e⟩:=hs 'd';have e:sc=some g:=e;subst e;exact⟨d,gv,rl,g,b,Y,hD.ZW Y,G,h3,h4,k.look hD⟩
 |begin h=>let⟨g,e⟩:=hs 'd';have e:sc=some g:=e;subst e;exact⟨d,gv,B,atH,_,g,Y,hD,Y,h,k⟩
 |options h=>let⟨g,e⟩:=hs 'd';have e:sc=some g:=e;subst e;let⟨t,e⟩:=ht 'd';have e:tl=some t:=e;subst e;exact⟨d,gv,B,atH,_,g,t,Y,hD,Y,Y,og,h,k⟩
 |choose h=>let⟨g,e⟩:=hs 'd';have e:sc=some g:=e;subst e;let⟨t,e⟩:=ht 'd';have e:tl=some t:=e;subst e;exact⟨_,d,gv,B,atH,_,g,t,Y,hD,Y,Y,og,h,k⟩
 |back h=>let⟨g,e⟩:=hs 'd';have e:sc=some g:=e;subst e;let⟨t,e⟩:=ht 'd';have e:tl=some t:=e;subst e;exact⟨d,gv,B,atH,_,g,t,Y,hD,Y,Y,og,h,k⟩
 |told h=>let⟨g,e⟩:=hs 'd';have e:sc=some g:=e;subst e;let⟨t,e⟩:=ht 'd';have e:tl=some t:=e;subst e;exact⟨d,gv,B,atH,_,g,t,Y,hD,Y,Y,og,h,k⟩
 |run G h2 h3=>rename_i rl ks;let⟨g,e⟩:=hs 'd';have e:sc=some g:=e;subst e;let⟨t,e⟩:=ht 'd';have e:tl=some t:=e;subst e;exact⟨d,gv,rl,ks,B,atH,_,g,t,Y,hD,Y,Y,og,G,h2,h3,k⟩
 |standing h=>let⟨g,e⟩:=hs 'd';have e:sc=some g:=e;subst e;let⟨t,e⟩:=ht 'd';have e:tl=some t:=e;subst e;exact⟨d,gv,B,atH,_,g,t,Y,hD,Y,Y,og,h,k⟩
def VJ{i:Cn}{c:g6}(hc:i6 H atH gv i c)(h:i.val≠0)(e:st.script=none):dI st c=(st,bT<|-1):=by
 let⟨sc,tl⟩:=st;have e:sc=none:=e;subst e;cases hc<;>first|rfl|exact absurd rfl h
def Ov{i:Cn}{c:g6}(hc:i6 H atH gv i c)(h:12<=i.val)(e:st.script=some g)(et:st.telling=none):dI st c=(st,bT<|-5):=by
 let⟨sc,tl⟩:=st;have e:sc=some g:=e;have et:tl=none:=et;subst e;subst et;cases hc<;>first|rfl|exact absurd h 'd'
inductive aeG (a:g9) (S:List V) (H:Hp) (Q:VK) (rq:XK):Prop
 |mk (d gv:O) (i:Cn) (B atH:O->Prop) (st:dQ) (c:g6) (k0:S=[.ref d,.int ((i.val:Nat):Int),.ref gv]) (k1:yi a B atH H d st) (k2:¬atH gv) (k3:i6 H atH gv i c) (k4:qP a B atH H d (dI st c).1 (encode (dI st c).2) Q)
def amj(T:Txt K mg a):∀i:Cn,nQ P w K mg base QX (kN i) (a.f<|fNm i) (a.d<|fNm i) ["desk","given"] (spN a i)
 | .n0=>Jz T| .n1=>JB T| .n2=>Hq T| .n3=>JA T| .n4=>Hr T| .n5=>E5 T| .n6=>Jy T| .n7=>Hl T| .n8=>Ho T
 | .n9=>JC T| .Q5=>Hi T| .RZ=>Hj T| .TX=>Du T| .R0=>E6 T| .R1=>Jw T| .TY=>JD T| .OT=>LB T| .TZ=>Cs T
def alY(T:Txt K mg a):∀i:Cn,jf K (.ref<|a.f<|fNm i)=true
 | .n0=>T.yl.fn.kp| .n1=>T.yo.fn.kp| .n2=>T.vS.fn.kp| .n3=>T.ym.fn.kp| .n4=>T.vU.fn.kp| .n5=>T.uc.fn.kp| .n6=>T.yk.fn.kp| .n7=>T.vQ.fn.kp| .n8=>T.vR.fn.kp
 | .n9=>T.yp.fn.kp| .Q5=>T.vO.fn.kp| .RZ=>T.vP.fn.kp| .TX=>T.rJ.fn.kp| .R0=>T.ud.fn.kp| .R1=>T.yj.fn.kp| .TY=>T.yq.fn.kp| .OT=>T.B9.fn.kp| .TZ=>T.qu.fn.kp
def b_N(T:Txt K mg a):∀i:Cn,Binds K (a.d<|fNm i) ["desk","given"] []
 | .n0=>T.yl.b| .n1=>T.yo.b| .n2=>T.vS.b| .n3=>T.ym.b| .n4=>T.vU.b| .n5=>T.uc.b| .n6=>T.yk.b| .n7=>T.vQ.b| .n8=>T.vR.b
 | .n9=>T.yp.b| .Q5=>T.vO.b| .RZ=>T.vP.b| .TX=>T.rJ.b| .R0=>T.ud.b| .R1=>T.yj.b| .TY=>T.yq.b| .OT=>T.B9.b| .TZ=>T.qu.b
def ahQ(i:Cn):kN i<=14:=by cases i<;>decide
theorem Jx(T:Txt K mg a)(C:Iv P w K mg a):jM P w K mg base 15 a "answer_call" ["desk","number","given"]<|aeG a:=by
 refine T.FP.fn.ok zy ?_ ?_
 .right
 .ext⟨d,gv,i,B,atH,st,c,rfl,hD,og,hc,k⟩;have nd:=zy.nd;refine⟨_,aj (dZ (Cy (cu T4 (J 1) (jh (0) T)<|dh _)<|An<|yW<|Sf<|bE T.lH<|J 0).pt (aF<|bq<|cg<|bM<|jh (-1) T) b9)<|aj (dZ (Cy (cu XI (J 1) (jh (12) T)<|dh _)<|An<|yW<|Sf<|bE T.lH<|J 0).pt (aF<|bq<|cg<|bM<|jh (-5) T) b9)<|aj (iy 3 nd<|dj pC (Oa C.d C.m (J 1) λ_ _=>rfl) bR λ_ _=>rfl)<|aF<|bq<|XO (amj T) (λi=>hr.mono<|ahQ i) (alY T) (b_N T) (J 3)<|aD (J 0)<|bM<|J 2,?_⟩
  left
  let⟨od,fz,sv,tv,hd,Di,A1⟩:=id hD;have go:(i.val≠0->∃g,st.script=some g)->(12<=i.val->∃t,st.telling=some t)->spN a i [.ref d,.ref gv] H Q E0:= λhs ht=>ZR hD og hc k hs ht;have snd:(i.val≠0->∃g,st.script=some g)->Qz (YI (aeZ (KO<|Ox (Uc λi j=> .bl<|decide<|j<=i) (gF 1)<|tC<|.int 12)<|tB<|aiP<|tF (a.c "Desk") (gF 0) "telling") (Qy<|ae3<|gf (tC<|.int<|-5) m9) Qw) (Qz (CL (Ox (aew K) (YJ (IE a)<|gF 1)<|tC<|.int 0)<|ic 3)<|Qy<|SG (λi=>a.f<|fNm i) (spN a) (gF 3)<|gf (gF 0)<|gf (gF 2) m9) {nx:= λ_ U=>Q .gQ U,rt:=Q} [some<|.ref d,some<|.int ((i.val:Nat):Int),some<|.ref gv,none] H:= λhs=>by
   have rest:(12<=i.val->∃t,st.telling=some t)->Qz (CL (Ox (aew K) (YJ (IE a)<|gF 1)<|tC<|.int 0)<|ic 3) (Qy<|SG (λi=>a.f<|fNm i) (spN a) (gF 3)<|gf (gF 0)<|gf (gF 2) m9) {nx:= λ_ U=>Q .gQ U,rt:=Q} [some<|.ref d,some<|.int ((i.val:Nat):Int),some<|.ref gv,none] H:= λht=>
    ⟨_,Y,_,_,Y,EL a i,a.c<|KN i,_,_,_,Y,Y,C.t i H,cJ (j:=0) Y,_,Y,i,Y,_,Y,_,Y,go hs ht⟩
   calc⟨_,Y,_,_,Y,Y,_,Y,?_⟩;by_cases c12:12<=i.val
   .calc qS (aR 'l') ⟨_,Y,d,_,_,Y,hd,Y,_,Y,?_⟩;cases et:st.telling with
    |none=>
     rw[et]at A1;have A1:tv= .gQ:=A1;subst A1;let⟨g,eg⟩:=hs 'l';rw[Ov hc c12 eg et]at k;exact qS 'd' ⟨jH 1,λD n=>k.fin hD (λb o _ q=>q) n Y⟩
    |some t=>
     rw[et]at A1;let⟨_,x,_,_,_,_,_,_,rfl,_⟩:=A1;exact o7 (by show¬decide (V.ref x=V.gQ)=true;simp) (rest λ_=>⟨t,et⟩)
   .exact o7 (dF 'l') (m7<|rest λh=>absurd h c12)
  calc⟨_,Y,Y,_,Y,?_⟩;by_cases c0:i.val=0
  .rw[c0];calc o7 'd'<|m7 ?_;have:=snd λh=>absurd c0 h;rw[c0]at this;exact this
  .calc qS (by show(!decide (V.int ((i.val:Nat):Int)=V.int 0))=true;rw[bB λe=>c0 (by have:=V.int.inj e;lia)];rfl) ⟨_,Y,d,_,_,Y,hd,Y,_,Y,?_⟩;cases es:st.script with
   |none=>
    rw[es]at Di;have Di:sv= .gQ:=Di;subst Di;rw[VJ hc c0 es]at k;exact qS 'd' ⟨jH 1,λD n=>k.fin hD (λb o _ q=>q) n Y⟩
   |some g=>
    rw[es]at Di;let⟨⟨x,_,_,_,rfl,_⟩,_⟩:=Di;exact o7 (by show¬decide (V.ref x=V.gQ)=true;simp) (snd λ_=>⟨g,es⟩)
def text_len(b:bL):(mq b).length=b.length+1:=by unfold mq;rw[ay,ai]
theorem pairs_len:∀ps:List<|Nat×Nat,(ps.flatMap λx=>[(x.1:Int),(x.2:Int)]).length=2*ps.length
 |[]=>rfl
 |_::r=>by rw[gV,ak,pairs_len r,ay];show 2+2*r.length=2*(r.length+1);lia
theorem oj(gd:GM.Good g)(c:g6):(encode<|looked g c).length<=5000:=by
 have one:∀n:Int,(encode<|bT n).length<=5000:= λn=>by show 1<=5000;decide
 have cnt:∀n:Nat,(encode<|iD n).length<=5000:= λn=>by show 1<=5000;decide
 cases c with
 |«show»=>
  show(g.shown.map _).length+1<=5000;rw[ai];have:=gd.sh;lia
 |sizes=>show 5<=5000;decide
 |seat i=>
  rw[E4];cases eT i g.seats.length with
  |none=>exact one _
  |some j=>
   show(mq<|g.seatName j).length+1<=5000;have:=g7 (qe gd.topV) j;rw[text_len];lia
 |state i=>
  rw[Cq];cases eT i g.states.length with
  |none=>exact one _
  |some j=>
   show(encode<|kg g j).length<=5000;have:=gd.sn j;unfold encode kg;cases g.node j<;>simp[text_len]<;>lia
 |branch i j=>
  rw[F9];cases e:(eT i g.states.length).bind λs=>(eT j (g.branches s).length).bind λk=>(g.branches s)[k]?with
  |none=>exact one _
  |some b=>
   show(encode<|jJ b).length<=5000;let⟨s,e1,e2⟩:=LX.mp e;let⟨k,e3,e4⟩:=LX.mp e2;have ob:GM.XD g b:=by
    unfold bF.branches at e4;cases en:g.node s with
    |fin=>rw[en]at e4;cases e4
    |both p q=>rw[en]at e4;cases e4
    |talk p q bs=>rw[en]at e4;exact(gd.nd s p q bs en).2.2.2 b (bf e4)
   have G:=DK b.ranges;have h2:=ob.rl;have h3:=ob.hl;have h4:=ob.lb;unfold encode jJ;simp only[ay,ak,ai,text_len]
   lia
 |find b=>
  rw[Mt];cases place (g.states.map λs=>s.1) b with
  |none=>exact one _
  |some j=>exact cnt _
 |reach i=>
  rw[Jm];cases e:eT i g.states.length with
  |none=>exact one _
  |some j=>
   show((g.reach j).map _).length+1<=5000;have hj:j<g.states.length:=by
    unfold eT at e;split at e
    .rename_i h;obtain rfl:=aL e;lia
    .cases e
   have:=GM.pS gd.val hj;unfold GM.rank at this;have:=gd.sl;rw[ai];lia
 |route i=>
  rw[Jo];cases e:eT i g.states.length with
  |none=>exact one _
  |some j=>
   show(encode (match g.route j with
    |some w=>Nd w
    |none=>bT<|-4)).length<=5000
   cases er:g.route j with
   |none=>exact one _
   |some w=>
    show(w.flatMap _).length+1<=5000;have:=GM.MJ gd.val gd.st er;have:=gd.sl;rw[pairs_len];lia
 |alike b=>
  rw[Jl];cases gD b with
  |error f=>exact one _
  |ok h=>exact cnt _
 |_=>exact one _
theorem abb{t:cZ}(gd:GM.Good g)(te:xR g t past)(c:g6):(encode (kQ g t c).2).length<=5000:=by
 have one:∀n:Int,(encode<|bT n).length<=5000:= λn=>by show 1<=5000;decide
 have cnt:∀n:Nat,(encode<|iD n).length<=5000:= λn=>by show 1<=5000;decide
 have Rq:=bH (te.Ls.KC gd.val gd.ap gd.st).len gd.sl;cases c with
 |options=>
  show((bY g t).flatMap _).length+1<=5000;have:=N5 (t:=t) (λs=>gd.br s) Rq;rw[pairs_len];lia
 |choose i=>
  rw[KA];cases(eT i (bY g t).length).bind λk=>(bY g t)[k]?with
  |none=>exact one _
  |some m=>
   show(encode (if lP<=t.log.length then(t,bT<|-7)else match g.node m.1 with
    | .talk x y _=>(i9 g t m,({value:=(x:Int),rest:=[(y:Int),(m.1:Int),(m.2:Int),(g.target m.1 m.2:Int)]}:Lk))
    |_=>(t,bT<|-6)).2).length<=5000
   split
   .exact one _
   .cases g.node m.1 with
    |talk x y bs=>show 5<=5000;decide
    |fin=>exact one _
    |both p q=>exact one _
 |back=>
  show(encode (if t.log=[]then(t,bT<|-8)else(gM g t.log.dropLast,iD (bY g<|gM g t.log.dropLast).length)).2).length<=5000;split
  .exact one _
  .exact cnt _
 |told=>
  show(t.log.flatMap _).length+1<=5000;have:=te.len;rw[pairs_len];lia
 |run l=>exact cnt _
 |standing=>
  show(t.at_.map _).length+1<=5000;rw[ai];lia
 |_=>exact one _
def ZL(hD:yi a B atH H d st)(c:g6):(encode (dI st c).2).length<=5000:=by
 have one:∀n:Int,(encode<|bT n).length<=5000:= λn=>by show 1<=5000;decide
 have cnt:∀n:Nat,(encode<|iD n).length<=5000:= λn=>by show 1<=5000;decide
 let⟨sc,tl⟩:=st;have ld:∀b,(encode (dI ⟨sc,tl⟩<|.load b).2).length<=5000:= λb=>by
  have e:dI ⟨sc,tl⟩ (.load b)=(match gD b with
    | .ok g=>(({script:=some g}:dQ),({value:=1}:Lk))
    | .error f=>(⟨sc,tl⟩,{value:=0,rest:=[(f.code:Int),(f.place:Int)]})):=by cases sc<;>rfl
  rw[e];cases gD b with
  |ok g=>show 1<=5000;decide
  |error f=>show 3<=5000;decide
 cases sc with
 |none=>cases c<;>first|exact ld _|exact one _
 |some g=>
  have gd:GM.Good g:=let⟨_,_,_,_,_,h,_⟩:=hD;h.2.1;have VN:∀c,Vasesa.ofTelling c=true->dI ⟨some g,tl⟩ c=(match tl with
    |none=>((⟨some g,tl⟩:dQ),bT<|-5)
    |some t=>({script:=some g,telling:=some (kQ g t c).1},(kQ g t c).2))->(encode (dI ⟨some g,tl⟩ c).2).length<=5000:= λc _ e=>by
   rw[e];cases tl with
   |none=>exact one _
   |some t=>
    let⟨_,_,_,_,_,_,⟨g',_,_,_,_,_,past,eg,_,_,_,_,_,_,_,te⟩⟩:=hD;obtain rfl:=aL eg;exact abb gd te c
  cases c with
  |load b=>exact ld b
  |tidy=>exact cnt _
  |begin=>exact cnt _
  |options=>exact VN _ Y (by cases tl<;>rfl)
  |choose i=>exact VN _ Y (by cases tl<;>rfl)
  |back=>exact VN _ Y (by cases tl<;>rfl)
  |told=>exact VN _ Y (by cases tl<;>rfl)
  |run l=>exact VN _ Y (by cases tl<;>rfl)
  |standing=>exact VN _ Y (by cases tl<;>rfl)
  |«show»=>exact oj gd .show
  |sizes=>exact oj gd .sizes
  |seat i=>exact oj gd (.seat i)
  |state i=>exact oj gd (.state i)
  |branch i j=>exact oj gd (.branch i j)
  |find b=>exact oj gd (.find b)
  |reach i=>exact oj gd (.reach i)
  |route i=>exact oj gd (.route i)
  |alike b=>exact oj gd (.alike b)
def YX(c:List<|List Int):G5 c=c:=by
 rcases c with _|⟨_|⟨n|n,u⟩,t⟩
 .rfl
 .rfl
 .rcases n with _|_|_|_|_|_|_|_|_|_|_|_|_|_|_|_|_|_|n<;>rcases u with _|⟨_,_|⟨_,_|⟨_,_⟩⟩⟩<;>rcases t with _|⟨_,_|⟨_,_⟩⟩<;>rfl
 .rfl
def Yq{x y:Nat}(h:dX z=some (x,y)):∃i:Cn,z=((i.val:Nat):Int)/\cX i=x/\cY i=y:=by
 unfold dX at h;by_cases e:z=0
 .subst e;rw[aG Y]at h;cases h;exact⟨.n0,Y,Y,Y⟩
 rw[az e]at h;clear e;by_cases e:z=1
 .subst e;rw[aG Y]at h;cases h;exact⟨.n1,Y,Y,Y⟩
 rw[az e]at h;clear e;by_cases e:z=2
 .subst e;rw[aG Y]at h;cases h;exact⟨.n2,Y,Y,Y⟩
 rw[az e]at h;clear e;by_cases e:z=3
 .subst e;rw[aG Y]at h;cases h;exact⟨.n3,Y,Y,Y⟩
 rw[az e]at h;clear e;by_cases e:z=4
 .subst e;rw[aG Y]at h;cases h;exact⟨.n4,Y,Y,Y⟩
 rw[az e]at h;clear e;by_cases e:z=5
 .subst e;rw[aG Y]at h;cases h;exact⟨.n5,Y,Y,Y⟩
 rw[az e]at h;clear e;by_cases e:z=6
 .subst e;rw[aG Y]at h;cases h;exact⟨.n6,Y,Y,Y⟩
 rw[az e]at h;clear e;by_cases e:z=7
 .subst e;rw[aG Y]at h;cases h;exact⟨.n7,Y,Y,Y⟩
 rw[az e]at h;clear e;by_cases e:z=8
 .subst e;rw[aG Y]at h;cases h;exact⟨.n8,Y,Y,Y⟩
 rw[az e]at h;clear e;by_cases e:z=9
 .subst e;rw[aG Y]at h;cases h;exact⟨.n9,Y,Y,Y⟩
 rw[az e]at h;clear e;by_cases e:z=10
 .subst e;rw[aG Y]at h;cases h;exact⟨.Q5,Y,Y,Y⟩
 rw[az e]at h;clear e;by_cases e:z=11
 .subst e;rw[aG Y]at h;cases h;exact⟨.RZ,Y,Y,Y⟩
 rw[az e]at h;clear e;by_cases e:z=12
 .subst e;rw[aG Y]at h;cases h;exact⟨.TX,Y,Y,Y⟩
 rw[az e]at h;clear e;by_cases e:z=13
 .subst e;rw[aG Y]at h;cases h;exact⟨.R0,Y,Y,Y⟩
 rw[az e]at h;clear e;by_cases e:z=14
 .subst e;rw[aG Y]at h;cases h;exact⟨.R1,Y,Y,Y⟩
 rw[az e]at h;clear e;by_cases e:z=15
 .subst e;rw[aG Y]at h;cases h;exact⟨.TY,Y,Y,Y⟩
 rw[az e]at h;clear e;by_cases e:z=16
 .subst e;rw[aG Y]at h;cases h;exact⟨.OT,Y,Y,Y⟩
 rw[az e]at h;clear e;by_cases e:z=17
 .subst e;rw[aG Y]at h;cases h;exact⟨.TZ,Y,Y,Y⟩
 rw[az e]at h;cases h
theorem Yn{l x t:List Int}(h:Io l=some (x,t)):∃(n:Nat) (r:List Int),l=(n:Int)::r/\n<=r.length/\x=r.take n/\t=r.drop n:=by
 cases l with
 |nil=>cases h
 |cons z r=>
  have h:(if 0<=z/\z.toNat<=r.length then some (r.take z.toNat,r.drop z.toNat)else none)=some (x,t):=h;by_cases c:0<=z/\z.toNat<=r.length
  .rw[aG c]at h;have e:=aL h;obtain⟨k,rfl⟩:∃k:Nat,z=(k:Int):=⟨z.toNat,'l'⟩;rw[iR]at e c;exact⟨k,r,Y,c.2,(congrArg Zw e).symm,(congrArg Zx e).symm⟩
  .rw[az c]at h;cases h
def UZ{r:List Int}{c:List (List Int)}{t:List Int}(h:FF dX (z::r)=some (c,t)):∃i:Cn,z=((i.val:Nat):Int)/\cX i<=r.length/\((cY i=0/\c=[z::r.take (cX i)]/\t=r.drop (cX i))∨(cY i=1/\∃(n:Nat) (r':List Int),r.drop (cX i)=(n:Int)::r'/\n<=r'.length/\c=[z::r.take (cX i),r'.take n]/\t=r'.drop n)):=by
 have h:(match dX z with
  |none=>none
  |some (n,k)=>if r.length<n then none else match FG k (r.drop n)with
   |none=>none
   |some (xs,t)=>some ((z::r.take n)::xs,t))=some (c,t):=h
 cases e:dX z with
 |none=>rw[e]at h;cases h
 |some xy=>
  let⟨x,y⟩:=xy;rw[e]at h;let⟨i,ez,ex,ey⟩:=Yq e;subst ex;subst ey;have h:(if r.length<cX i then none else match FG (cY i) (r.drop<|cX i)with
   |none=>none
   |some (xs,t)=>some ((z::r.take (cX i))::xs,t))=some (c,t):=h
  split at h
  .cases h
  .rename_i nl;calc⟨i,ez,'o',?_⟩;rcases(acA i).2 with y0|y1
   .rw[y0]at h;have h:some ([z::r.take (cX i)],r.drop<|cX i)=some (c,t):=h;have e:=aL h;exact .inl ⟨y0,(congrArg Zw e).symm,(congrArg Zx e).symm⟩
   .rw[y1]at h;cases er:Io (r.drop<|cX i)with
    |none=>
     have:FG 1 (r.drop<|cX i)=none:=by show(match Io (r.drop<|cX i)with|none=>none|some (x,s)=>_)=none;rw[er]
     rw[this]at h;cases h
    |some xt=>
     let⟨x,s⟩:=xt;have:FG 1 (r.drop<|cX i)=some ([x],s):=by show(match Io (r.drop<|cX i)with|none=>none|some (x,s)=>_)=_;rw[er];rfl
     rw[this]at h;have e:=aL h;let⟨n,r',e1,e2,rfl,rfl⟩:=Yn er;exact .inr ⟨y1,n,r',e1,e2,(congrArg Zw e).symm,(congrArg Zx e).symm⟩
theorem ID{l:List Int}(h:jr l=true):iv (nb<|xP l)=iZ l:=by
 unfold jr at h;rw[dO]at h;unfold iv nb xP iZ;rw[dB,dB];apply jQ;intro z hz;have:=h z hz;rw[bI,aU,aU]at this;show V.int (((QV z.toNat).toNat:Nat):Int)=V.int z;rw[UInt8.toNat_ofNat_of_lt'<|by show z.toNat<256;lia];congr 1
 lia
theorem R3{l:List Int}(h:(l.all λz=>sS z 8)=true):jr l=true:=by
 unfold jr;rw[dO]at h⊢;intro z hz;have:=h z hz;unfold sS at this;rw[bI,aU,aU]at this;rw[bI,aU,aU]
 lia
def Fp{b:List Int}{n:Int}(h:((b.all λz=>sS z 8)&&decide (b.length<=8192))=true):jr b=true/\(xP b).length<=8192:=by
 rw[bI,aU]at h;exact⟨R3 h.1,by unfold xP;rw[ai];exact h.2⟩
def agG{i:Cn}(y0:cY i=0)(hl:args.length=cX i):∃cc,ajl [((i.val:Nat):Int)::args]=some cc/\∀(H:Hp) (atH:O->Prop) (gv:O),H gv=some (.lst<|iZ args)->i6 H atH gv i cc:=by
 have z0:∀{l:List Int},l.length=0->l=[]:= λh=>vI.mp h;have z1:∀{l:List Int},l.length=1->∃x,l=[x]:= λh=>List.length_eq_one_iff.mp h;cases i with
 |n0=>cases y0
 |n1=>obtain rfl:=z0 hl;exact⟨_,Y,λH atH gv h=> .acm h⟩
 |n2=>obtain rfl:=z0 hl;exact⟨_,Y,λH atH gv h=> .sizes h⟩
 |n3=>let⟨x,rfl⟩:=z1 hl;exact⟨_,Y,λH atH gv h=> .seat h⟩
 |n4=>let⟨x,rfl⟩:=z1 hl;exact⟨_,Y,λH atH gv h=> .state h⟩
 |n5=>
  match args,hl with
  |[x,y],_=>exact⟨_,Y,λH atH gv h=> .branch h⟩
 |n6=>cases y0
 |n7=>let⟨x,rfl⟩:=z1 hl;exact⟨_,Y,λH atH gv h=> .reach h⟩
 |n8=>let⟨x,rfl⟩:=z1 hl;exact⟨_,Y,λH atH gv h=> .route h⟩
 |n9=>obtain rfl:=z0 hl;exact⟨_,Y,λH atH gv h=> .tidy h⟩
 |Q5=>cases y0
 |RZ=>obtain rfl:=z0 hl;exact⟨_,Y,λH atH gv h=> .begin h⟩
 |TX=>obtain rfl:=z0 hl;exact⟨_,Y,λH atH gv h=> .options h⟩
 |R0=>let⟨x,rfl⟩:=z1 hl;exact⟨_,Y,λH atH gv h=> .choose h⟩
 |R1=>obtain rfl:=z0 hl;exact⟨_,Y,λH atH gv h=> .back h⟩
 |TY=>obtain rfl:=z0 hl;exact⟨_,Y,λH atH gv h=> .told h⟩
 |OT=>cases y0
 |TZ=>obtain rfl:=z0 hl;exact⟨_,Y,λH atH gv h=> .standing h⟩
def agH{i:Cn}(y1:cY i=1){row:List Int}(hl:args.length=cX i)(ha:asked1 [((i.val:Nat):Int)::args,row]=true):∃cc,ajl [((i.val:Nat):Int)::args,row]=some cc/\∀(H:Hp) (atH:O->Prop) (gv rl:O),H gv=some (.lst<|iZ args++[.ref rl])->¬atH rl->H rl=some (.lst<|iZ row)->i6 H atH gv i cc:=by
 have z0:∀{l:List Int},l.length=0->l=[]:= λh=>vI.mp h;cases i with
 |n0=>
  obtain rfl:=z0 hl;let⟨hb,h8⟩:=Fp (n:=0) ha;exact⟨.load<|xP row,by show(if jr row=true then some (ajk<|xP row)else none)=_;rw[aG hb],λH atH gv rl h o q=> .load h o (by rw[ID hb];exact q) h8⟩
 |n6=>
  obtain rfl:=z0 hl;let⟨hb,h8⟩:=Fp (n:=0) ha;exact⟨.find<|xP row,by show(if jr row=true then some (ajj<|xP row)else none)=_;rw[aG hb],λH atH gv rl h o q=> .find h o (by rw[ID hb];exact q) h8⟩
 |Q5=>
  obtain rfl:=z0 hl;let⟨hb,h8⟩:=Fp (n:=0) ha;exact⟨.alike<|xP row,by show(if jr row=true then some (aji<|xP row)else none)=_;rw[aG hb],λH atH gv rl h o q=> .alike h o (by rw[ID hb];exact q) h8⟩
 |OT=>
  obtain rfl:=z0 hl;exact⟨.run row,Y,λH atH gv rl h o q=> .run h o q⟩
 |_=>cases y1
def yi.rd(T:Txt K mg a)(h:yi a B atH H d st)(s:Sm r H U)(hr:H r=some (.ins (a.c "CallReader") dx fs))(nO:¬atH r)(hr':∃o,U r=some o):yi a B atH U d st:=by
 let⟨od,fz,sv,tv,hd,Di,A1⟩:=h;have kp:∀{A:O->Prop},Kp a A H U:=Kp.mut s hr<|R4 "CallReader";have nd:d≠r:= λe=>nO<|e▸od;let⟨dd,ES⟩:=hd;refine⟨od,λz hz=>?_,sv,tv,⟨dd,s _ _ nd ES⟩,?_,?_⟩
 .by_cases e:z=r
  .let⟨o,q⟩:=hr';rw[e,q]at hz;cases hz
  .calc fz z ?_;cases q:H z with
   |none=>rfl
   |some o=>rw[s z o e q]at hz;cases hz
 .cases es:st.script with
  |none=>rw[es]at Di;exact Di
  |some g=>rw[es]at Di;exact⟨Di.1.kp (T.ok "Branch") (T.ok "State") (T.ok "Script") kp,Di.2⟩
 .cases et:st.telling with
  |none=>rw[et]at A1;exact A1
  |some t=>
   rw[et]at A1;let⟨g,x,l,ls,ll,le,past,e1,e2,ox,Lf,Le,nl,⟨us,G,h2⟩,hT,te⟩:=A1;exact⟨g,x,l,ls,ll,le,past,e1,e2,ox,Lf,Le,nl,⟨us,kp.lst _ _ nl G,h2.mono λ_ _ q=>q.kp (T.ok "Branch") (T.ok "State") kp⟩,hT.sm s hr λe=>nO<|e▸ox,te⟩
def yi.lst{K:aJ}{mg:Str->Option aC}{a:g9}(T:Txt K mg a){B atH:O->Prop}{H:Hp}{d tl:O}{xs ys:List V}{st:dQ}(h:yi a B atH H d st)(ht:H tl=some (.lst xs))(nO:¬atH tl)(hB:B tl):yi a B atH (upd H tl<|.lst ys) d st:=by
 let⟨od,fz,sv,tv,hd,Di,A1⟩:=h;have s:Sm tl H<|upd H tl<|.lst ys:=Sm.upd;have kp:Kp a (NA B atH) H<|upd H tl<|.lst ys:=(Kp.Ly s ht).mono λz q e=>q.2<|e▸hB;have nd:d≠tl:= λe=>nO<|e▸od;let⟨dd,ES⟩:=hd;refine⟨od,λz hz=>?_,sv,tv,⟨dd,s _ _ nd ES⟩,?_,?_⟩
 .calc fz z ?_;by_cases e:z=tl
  .rw[e,aq]at hz;cases hz
  .rwa[aY e]at hz
 .cases es:st.script with
  |none=>rw[es]at Di;exact Di
  |some g=>rw[es]at Di;exact⟨Di.1.kp (T.ok "Branch") (T.ok "State") (T.ok "Script") kp,Di.2⟩
 .cases et:st.telling with
  |none=>rw[et]at A1;exact A1
  |some t=>
   rw[et]at A1;let⟨g,x,l,ls,ll,le,past,e1,e2,ox,Lf,Le,nl,⟨us,G,h2⟩,hT,te⟩:=A1;calc⟨g,x,l,ls,ll,le,past,e1,e2,ox,Lf,Le,nl,⟨us,kp.lst _ _ nl G,h2.mono λ_ _ q=>q.kp (T.ok "Branch") (T.ok "State") kp⟩,?_,te⟩;let⟨⟨dx,hx⟩,Lc,n1,n2,n3,⟨us',Cm,rp⟩,⟨ws,hle,m8⟩⟩:=hT;have nb:∀{b:O},¬B b->b≠tl:= λq e=>q<|e▸hB;have nt:∀{b:O} {ts:List V},H b=some (.tup ts)->b≠tl:= λq=>gz q ht (by intro z;cases z);exact⟨⟨dx,s _ _ (λe=>nO<|e▸ox) hx⟩,s _ _ (nb n1.2) Lc,n1,n2,n3,⟨us',s _ _ (λe=>nO<|e▸Lf) Cm,rp.kp λb ts q=>s _ _ (nt q) q⟩,⟨ws,s _ _ (λe=>nO<|e▸Le) hle,fE.mono (by rintro v xs ⟨p,e,q1,q2,q⟩;exact⟨p,e,q1,q2,s _ _ (nb q1.2) q⟩) m8⟩⟩
inductive Fw (K:aJ) (S:List V) (H:Hp) (Q:VK) (rq:XK):Prop
 |mk (cl:O) (l:List Int) (k0:S=[.ref cl]) (k1:cP K H cl (iZ l)) (k2:l.length<=17000) (k3:uE l=true) (k4:∀D U,U D=some (.lst (iZ (oQ l)))->Q (.ref D) U)
def U0{f:Nat}(h:j8 dX f []=some cs):cs=[]:=by
 cases f<;>exact(aL h).symm
def Rx{f:Nat}{r:List Int}(h:j8 dX f (z::r)=some cs):∃f' c t cs',FF dX (z::r)=some (c,t)/\j8 dX f' t=some cs'/\cs=c::cs':=by
 cases f with
 |zero=>cases h
 |succ f=>
  have h:(match FF dX (z::r)with
   |none=>none
   |some (c,t)=>match j8 dX f t with
    |none=>none
    |some cs=>some<|c::cs)=some cs:=h
  cases e:FF dX (z::r)with
  |none=>rw[e]at h;cases h
  |some ct=>
   let⟨c,t⟩:=ct;rw[e]at h;have h:(match j8 dX f t with
    |none=>none
    |some cs=>some<|c::cs)=some cs:=h
   cases e2:j8 dX f t with
   |none=>rw[e2]at h;cases h
   |some cs'=>
    rw[e2]at h;exact⟨f,c,t,cs',Y,e2,(aL h).symm⟩
def Rt{l:List Int}(h:uE l=true):∃cs,j8 dX l.length l=some cs/\(∀c∈cs,asked1 c=true)/\cs.length<=400/\oQ l=abw (Lh iQ afC cs):=by
 unfold uE at h;cases e:j8 dX l.length l with
 |none=>
  have:xM l=none:=by unfold xM;rw[e]
  rw[this]at h;cases h
 |some cs=>
  have e1:xM l=some cs:=by
   unfold xM;rw[e];show some (cs.map G5)=some cs;rw[show G5=id from funext YX,List.map_id]
  rw[e1]at h;have h:(PyFlat.atMost 400 cs&&Ir cs)=true:=h;rw[bI]at h;have h2:=h.2;unfold Ir at h2;rw[bI,bI,aU,aU,dO]at h2;calc⟨cs,Y,h2.1,h2.2.2,?_⟩;unfold oQ;rw[e1]
inductive agt (a:g9) (H:Hp) (l:List Int) (cl d r tl:O) (p:Nat) (Z:L2.St) (U:Hp):Prop
 |mk (v v':Option V) (atH:O->Prop) (st:dQ) (acc:List Int) (f:Nat) (cs:List (List (List Int:_))) (k0:Z=[some (.ref cl),some (.ref d),some (.ref r),some (.ref tl),v,v']) (k1:yi a (λz=>z=tl) atH U d st) (k2:At (a.c "CallReader") U r [("calls",.ref cl),("at",.int (p:Int))]) (k3:¬atH r) (k4:U tl=some (.lst<|iZ acc)) (k5:¬atH tl) (k6:(∀o,H cl=some o->U cl=some o/\¬atH cl/\cl≠tl/\cl≠r)) (k7:j8 dX f (l.drop p)=some cs) (k8:(∀c∈cs,asked1 c=true)) (k9:acc++abw (Lh iQ st cs)=oQ l) (k10:acc.length+5001*cs.length<=2000400)
def step_call{c:List (List Int)}{cc:g6}(h:ajl c=some cc):iQ st c=((dI st cc).1,encode (dI st cc).2):=by
 unfold iQ;rw[h]
theorem R8(T:Txt K mg a)(C:Iv P w K mg a):jM P w K mg base 17 a "answers" ["calls"]<|Fw K:=by
 refine T.answers.fn.ok Ku ?_ ?_
 .right
 .ext⟨cl,l,rfl,hS,Cm,ask,k⟩;have nd:=Ku.nd;refine⟨_,aj (iy 1 nd<|aaD T.lH (aax T) hr.mn)<|aj (iy 2 nd<|XY T.eX (LA T) hr.mn<|bM<|J 0)<|aj (iy 3 nd<|cg iI)<|aj (iV dN (qz<|fX<|iw T.eX T.rG (xV T) hr.mn<|J 2)<|aj (iy 4 nd<|iw T.eX T.i7 (jx T) hr.mn<|J 2)<|aj (iy 5 nd<|c8 T.FP (Jx T C) hr.mn<|aD (J 1)<|aD (J 4)<|bM<|qG T.eX T.oZ (ug T C) hr.mn (J 2)<|bM<|J 4)<|aj (bV<|gR aM bh bw d9 (J 3)<|bM<|cy bQ 'r' T.gB bC<|bM<|J 5)<|aF<|bV<|gR aM cz cW kR (J 3)<|bM<|J 5)<|aF<|bq<|J 3,?_⟩
  left
  let⟨cs0,e0,as0,aqH,ea⟩:=Rt ask;calc⟨Y,λd L s1 nd1 U8=>?_⟩;calc⟨_,Y,Y,λr H2 s2 nr kZ=>?_⟩;calc⟨b7 _,λtl nt=>?_⟩;have s3:aN H2<|upd H2 tl<|.lst []:=aN.new nt;have Wb:(upd H2 tl<|.lst []) tl=some (.lst<|iZ []):=aq;have fz3:∀z,(upd H2 tl<|.lst []) z=none->H2 z=none/\z≠tl:= λz hz=>by
   by_cases e:z=tl
   .rw[e,aq]at hz;cases hz
   .rw[aY e]at hz;exact⟨hz,e⟩
  generalize upd H2 tl (.lst [])=H3 at s3 Wb fz3;have Aq:=(s1.trans s2).trans s3;let⟨dd,ES⟩:=id U8;let⟨dr,hrr⟩:=id kZ;have Z5:=(s2.trans s3) _ _ ES;have rd:r≠d:=(bg ES nr).symm;have td:tl≠d:= λe=>by rw[e,s2 _ _ ES]at nt;cases nt
  have Df:yi a (λz=>z=tl) (λz=>z=d) H3 d {}:=⟨Y,λz hz=>⟨λe=>(by rw[e,Z5]at hz;cases hz),(fz3 z hz).2⟩,.gQ,.gQ,⟨dd,Z5⟩,Y,Y⟩;have kc3:∀o,H cl=some o->H3 cl=some o/\¬cl=d/\cl≠tl/\cl≠r:= λo q=>⟨Aq _ _ q,bg q nd1,bg ((s1.trans s2) _ _ q) nt,bg (s1 _ _ q) nr⟩;calc oH l.length (agt a H l cl d r tl) 0 (b7 _) ⟨none,none,λz=>z=d,{},[],l.length,cs0,Y,Df,⟨dr,s3 _ _ hrr⟩,rd,Wb,td,kc3,by rw[jW];exact e0,as0,by rw[ea];rfl,by rw[kW];lia⟩ ?_;rintro p Z U hp ⟨v,v',atH,st,acc,f,cs,rfl,hD,Mr,nOr,A1,nOt,kc,ec,asd,eq,bd⟩;let⟨dx,hrx⟩:=id Mr;have hR:Lb a K U r cl l p:=⟨Mr,hS.CK λo q=>(kc o q).1⟩;calc⟨_,Y,r,_,_,Y,hrx,Y,r,cl,l,p,Y,hR,_,Y,?_⟩;by_cases c:p<l.length
  .calc oG (by rw[bB 'l'];rfl) hp ?_;obtain⟨z,hz⟩:∃z,l[p]? =some z:=⟨_,aK c⟩;have dr':l.drop p=z::l.drop (p+1):=by
    let⟨G,h2⟩:=au.mp hz;rw[bx G,h2]
   rw[dr']at ec;let⟨f',c1,t,cs',e1,e2,rfl⟩:=Rx ec;have a1:=asd c1<|bz ..;have as':∀c∈cs',asked1 c=true:= λc hc=>asd c<|aV _ hc;let⟨i,rfl,hx,WV⟩:=UZ e1;have rl0:(l.drop<|p+1).length=l.length-(p+1):=bN;rw[ay]at bd;calc⟨_,Y,r,_,_,Y,hrx,Y,r,cl,l,p,_,Y,hR,hz,λL GV fz1 mG=>?_⟩;have IW:=hD.rd T GV hrx nOr (let⟨⟨_,q⟩,_⟩:=mG;⟨_,q⟩);obtain⟨⟨Nv,adF⟩,-⟩:=id mG;have ntr:tl≠r:=gz A1 hrx (by intro z;cases z);have fin:∀(gv:O) (H2:Hp) (p2:Nat) (cc:g6),Sm r L H2->Lb a K H2 r cl l p2->ajl c1=some cc->t=l.drop p2->∀(D:O) (H3:Hp) (O3:O->Prop),yi a (λz=>z=tl) atH H2 d st->(∀b o,¬atH b->H2 b=some o->H3 b=some o)->(∀b,O3 b->atH b∨H2 b=none)->H2 D=none->H3 D=some (.lst<|iZ<|encode (dI st cc).2)->yi a (λz=>z=tl) O3 H3 d (dI st cc).1->H3 tl=some (.lst<|iZ acc)/\D≠tl/\(encode (dI st cc).2).length<=5000/\agt a H l cl d r tl p2 [some<|.ref cl,some<|.ref d,some<|.ref r,some<|.ref tl,some<|.int ((i.val:Nat):Int),some<|.ref D] (upd (upd H3 tl<|.lst<|iZ acc++[.int ((encode (dI st cc).2).length:Int)]) tl<|.lst<|iZ acc++[.int ((encode (dI st cc).2).length:Int)]++iZ (encode (dI st cc).2)):= λgv H2 p2 cc pA kF hco et D H3 O3 pP fr sub nD Q2 Df=>by
    obtain⟨⟨Ze,ahz⟩,-⟩:=id kF;have adH:=pA _ _ ntr<|GV _ _ ntr A1;have al:=ZL pP cc;have PJ:=fr tl _ nOt adH;have alB:=fr r _ nOr ahz;have nO3:∀b o,¬atH b->H2 b=some o->¬O3 b:= λb o q h e=>by
     rcases sub b e with G|G
     .exact q G
     .rw[G]at h;cases h
    have ah3:=nO3 tl _ nOt adH;refine⟨PJ,(bg adH nD).symm,al,some<|.int ((i.val:Nat):Int),some<|.ref D,O3,(dI st cc).1,acc++(((encode (dI st cc).2).length:Int)::encode (dI st cc).2),f',cs',Y,?_,⟨Ze,?_⟩,nO3 r _ nOr ahz,?_,ah3,λo q=>?_,by rw[←et];exact e2,as',?_,?_⟩
    .rw[dS];exact Df.lst T PJ ah3 Y
    .rw[dS,aY ntr.symm];exact alB
    .rw[aq];unfold iZ;simp
    .let⟨q1,q2,q3,q4⟩:=kc o q;have h2:=pA _ _ q4<|GV _ _ q4 q1;exact⟨by rw[dS,aY q3];exact fr cl _ q2 h2,nO3 cl _ q2 h2,q3,q4⟩
    .rw[←eq];show _=acc++((iQ st c1).2::Lh iQ (iQ st c1).1 cs').flatMap λa=>(a.length:Int)::a;rw[step_call hco,gV,cC];rfl
    .rw[ak,ay];lia
   have ahY:∀n:Nat,n<=5000->acc.length+1+n<=16777216:= λn h=>'l'
   refine⟨_,Y,_,Y,_,Y,r,_,_,Y,adF,Y,_,Y,r,cl,l,p+1,i,Y,mG,'l','l',?_,?_,?_⟩
   .intro y1;rcases WV with⟨y0,-⟩|⟨-,n,r',G,h2,-⟩
    .lia
    .have hd:=congrArg (λm=>m[0]?) G;simp only[iJ,sH,OI]at hd;calc⟨n,by rw[←hd];congr 1,?_⟩;have:=congrArg jc G;rw[bN,ay]at this
     lia
   .intro y0 gv H2 pA ng hg kF;rcases WV with⟨-,rfl,et⟩|⟨y1,-⟩
    .let⟨cc,hco,hca⟩:=agG y0 (args:=(l.drop<|p+1).take (cX i)) (by rw[dW];lia);have pP:=IW.rd T pA adF nOr (let⟨⟨_,q⟩,_⟩:=kF;⟨_,q⟩);calc⟨d,gv,i,λz=>z=tl,atH,st,cc,Y,pP,(IW.fr gv ng).1,hca H2 atH gv hg,λD H3 O3 fr sub nD nOD Q2 Df=>?_⟩;let⟨PJ,Dtl,al,g⟩:=fin gv H2 (p+1+cX i) cc pA kF hco (by rw[et,iJ]) D H3 O3 pP fr sub nD Q2 Df;calc⟨_,Y,.inl ⟨Y,_,cP.of PJ⟩,_,Y,D,_,Y,.inl<|cP.of Q2,tl,_,_,Y,Y,PJ,by rw[ai,aW];lia,?_⟩;rw[ai];refine⟨_,Y,.inl ⟨Y,_,cP.of aq⟩,_,Y,tl,D,_,_,Y,Y,aq,by rw[aY Dtl];exact Q2,?_,?_⟩
     .rw[ak,ai,ai,aI,aW];exact ahY _ al
     .exact⟨p+1+cX i,'l','l',g⟩
    .lia
   .intro y1 n gv rl H2 hn pA ng Zm Vc hg kF;rcases WV with⟨y0,-⟩|⟨-,n',r',G,h2,rfl,et⟩
    .lia
    .have hd:=congrArg (λm=>m[0]?) G;simp only[iJ,sH,OI]at hd;have en:n'=n:=by
      have:some ((n':Nat):Int)=some ((n:Nat):Int):=by rw[←hd,←hn];congr 1
      have:=aL this
      lia
     subst en;have er:l.drop (p+1+cX i+1)=r':=by
      have:=congrArg List.tail G;rw[iJ,List.tail_drop]at this;exact this
     have amA:=congrArg jc G;rw[bN,ay]at amA;let⟨cc,hco,hca⟩:=agH y1 (args:=(l.drop<|p+1).take (cX i)) (row:=r'.take n') (by rw[dW];lia) a1;have pP:=IW.rd T pA adF nOr (let⟨⟨_,q⟩,_⟩:=kF;⟨_,q⟩);calc⟨d,gv,i,λz=>z=tl,atH,st,cc,Y,pP,(IW.fr gv ng).1,hca H2 atH gv rl hg (IW.fr rl Zm).1<|by rw[Vc,er],λD H3 O3 fr sub nD nOD Q2 Df=>?_⟩;let⟨PJ,Dtl,al,g⟩:=fin gv H2 (p+1+cX i+1+n') cc pA kF hco (by rw[et,←er,iJ]) D H3 O3 pP fr sub nD Q2 Df;calc⟨_,Y,.inl ⟨Y,_,cP.of PJ⟩,_,Y,D,_,Y,.inl<|cP.of Q2,tl,_,_,Y,Y,PJ,by rw[ai,aW];lia,?_⟩;rw[ai];refine⟨_,Y,.inl ⟨Y,_,cP.of aq⟩,_,Y,tl,D,_,_,Y,Y,aq,by rw[aY Dtl];exact Q2,?_,?_⟩
     .rw[ak,ai,ai,aI,aW];exact ahY _ al
     .exact⟨p+1+cX i+1+n','l','l',g⟩
  .calc kK (by rw[aR 'l'];rfl) ?_;have e:l.drop p=[]:=List.drop_of_length_le 'l';rw[e]at ec;obtain rfl:=U0 ec;have eq:acc=oQ l:=by rw[←eq];show acc=acc++[];rw[cV]
   subst eq;exact⟨_,Y,k tl U A1⟩
end Scr
namespace Scr
open PySem PySem.W PyProof.Rows L2
def kc(x:Str):List Nat:=x.cps.toList
variable{N c f:O} {a:g9} {K:aJ} {h:eZ} {ps:List Str} {S:List V} {n:Nat} {v:Option aC} {P:kO} {st:b5} {x q:Str} {mg:Str->Option aC} {pm fG:aC} {w:gH}
def adS{y:Str}(h:kc x=kc y):x=y:=by
 let⟨⟨x⟩⟩:=x;let⟨⟨y⟩⟩:=y;simpa [kc]using h
def RO:aC->Option (List Nat)
 | .str s _=>some (kc s)
 |_=>none
def aag(v:aC)(x:Str):v.isStr x=(some (kc x)==RO v):=by
 cases v with
 |str s t=>
  show(s==x)=(some (kc x)==some (kc s));by_cases e:s=x
  .subst e;simp
  .have e':¬kc x=kc s:= λq=>e (adS q).symm;rw[bW.mpr e,bW.mpr λq=>e'<|aL q]
 |_=>rfl
def dOf(K:aJ)(f:O):kM:=match K.lookup f with
 |some ⟨_,_,.func fd,_⟩=>fd
 |_=>default
def RC(K:aJ)(ns:O):List zZ:=match K.lookup ns with
 |some ⟨_,_,.dict es _,_⟩=>es.toList
 |_=>[]
noncomputable def nsC(K:aJ)(ns:O):List<|Option (List Nat)×aC:=(RC K ns).map λe=>(RO e.key,e.val)
def Pq(l:List zZ)(x:Str):(l.find? λe=>e.key.isStr x).map (·.val)=(l.map λe=>(RO e.key,e.val)).lookup (some<|kc x):=by
 induction l with
 |nil=>rfl
 |cons e l ih=>
  rw[gA,bK,eu,aag];cases(some (kc x)==RO e.key)
  .exact ih
  .rfl
def aic{m:Str->Option aC}{T:List (Option (List Nat)×aC)}(X:K.In h)(atG:h.Ns N m)(hl:(K.lookup N).isSome=true)(e:nsC K N=T)(x:Str):m x=T.lookup (some<|kc x):=by
 let⟨o,es,ep,ho,hd,_,hf⟩:=atG;cases q:K.lookup N with
 |none=>rw[q]at hl;cases hl
 |some o'=>
  have:=X _ _ q;rw[ho]at this;cases this;have e':RC K N=es.toList:=by
   unfold RC;rw[q];let⟨c,d,dt,sl⟩:=o;cases hd;rfl
  rw[←hf,←e];unfold nsC;rw[e',←Pq];let⟨l⟩:=es;simp only[nsFind,findBy,UC]
def aid{c:aC}{d:Option O}{es:Array zZ}{sl:Array (Option aC)}(q:K.lookup N=some ⟨c,d,.dict es n,sl⟩)(hs:(es.toList.all λe=>(RO e.key).isSome)=true)(h:eZ)(X:K.In h):h.Ns N<|nsFind es:=by
 calc⟨_,es,n,X _ _ q,Y,λe he=>?_,λ_=>rfl⟩;have:=dO.mp hs e<|zY.mpr he;cases hk:e.key with
 |str s t=>exact⟨s,t,Y⟩
 |_=>rw[hk]at this;cases this
def pH(es:Array zZ)(x:Str):nsFind es x=(es.toList.map λe=>(RO e.key,e.val)).lookup (some<|kc x):=by
 rw[←Pq];let⟨l⟩:=es;simp only[nsFind,findBy,UC]
def ac2{fd:kM}(h:un ps.length λus=>Y6 fd ⟨us,[]⟩=pure (ps.zip us)):Binds K fd ps []:= .all λus hl=>tV hl h
abbrev Ml(x q:Str)(st:b5)(pm fG:aC):Obj:=⟨.type "function",none,.func<|jZ x q (sX st) (qR st) (aO st) .none .none .none pm none fG .none,#[]⟩
def aaf(l:K.lookup f=some (Ml x q st pm fG)):jf K (.ref f)=true:=by
 unfold keepIn;show(match K.lookup f with|some ⟨_,_,.func _,_⟩=>true|some ⟨_,_,.cls _,_⟩=>specialIn K (.ref f) "__call__"==some (some<|.builtin "type.__call__")|_=>false)=true;rw[l]
def WN(l:K.lookup f=some (Ml x q st pm fG)):dOf K f=jZ x q (sX st) (qR st) (aO st) .none .none .none pm none fG .none:=by
 unfold dOf;rw[l]
def adl(ef:a.f q=f)(ed:a.d q=dOf K (a.f q))(l:K.lookup f=some (Ml x q st pm fG))(c:vD K fG q=true):S4 K x q st (a.f q)<|a.d q:=by
 rw[ed,ef,WN l];exact adm l c (aaf l)
def WG(ef:a.f q=f)(ed:a.d q=dOf K (a.f q))(l:K.lookup f=some (Ml x q st pm fG))(b:Binds K (jZ x q (sX st) (qR st) (aO st) .none .none .none pm none fG .none) ps []):Binds K (a.d q) ps []:=by
 rw[ed,ef,WN l];exact b
def QG:∀{us:List aC} {S:List V},us.mapM UU=some S->Vals S us
 |[],S,h=>by cases h;exact .nil
 |u::us,S,h=>by
  rw[List.mapM_cons]at h;cases e:UU u with
  |none=>rw[e]at h;cases h
  |some v=>
   rw[e]at h;cases e2:us.mapM UU with
   |none=>rw[e2]at h;cases h
   |some ws=>
    rw[e2]at h;cases h;calc .cons ?_<|QG e2;cases u<;>cases e<;>first|rfl|exact⟨_,rfl⟩
def aeX{d7:List aC}(l:K.lookup c=some ⟨.type "tuple",none,.seq d7.toArray,#[]⟩)(hs:d7.length<=1000)(v:d7.mapM UU=some S)(H:Hp):oS K H c S:= .inr ⟨_,d7.toArray,_,l,Y,Y,by rw[bG];exact bH hs 'd',by rw[mJ];exact QG v⟩
def ac3(p:Nat×Tok×O):zZ:=⟨(p.1:Int),.int (p.1:Int) p.2.1,.ref p.2.2⟩
def MC(P:eL)(w:gH):∀l:List<|Nat×Tok×O,Pairs (iE P w) (l.map ac3) (l.map λp=>((b8 (p.1:Int):Key),bU p.2.2))
 |[]=> .nil
 |p::l=> .cons (EW (p.1:Int) p.2.1) Y (MC P w l)
def W7{P:eL}{l:List (Nat×Tok×O)}{kv:List (Key×aC)}(lk:K.lookup c=some ⟨.type "dict",none,.dict (l.map ac3).toArray n,#[]⟩)(hh:(l.all λp=>hashInt (p.1:Int)==(p.1:Int))=true)(e:(l.map λp=>((b8 (p.1:Int):Key),bU p.2.2))=kv)(nd:(l.map (·.1)).Nodup):Wy P w K c kv:=by
 subst e;intro h X;refine⟨_,_,_,X _ _ lk,⟨Y,Y,Y⟩,Y,λe he=>?_,by rw[mJ];exact MC P w l,?_⟩
 .rw[←zY,mJ]at he;let⟨p,hp,rfl⟩:=b6.mp he;calc⟨b8 (p.1:Int),EW (p.1:Int) p.2.1,?_⟩;exact(iM.mp<|dO.mp hh p hp).symm
 .rw[dB];have:((λx:Key×aC=>x.1)∘λp:Nat×Tok×O=>((b8 (p.1:Int):Key),bU p.2.2))=(λn:Nat=>(b8 (n:Int):Key))∘(·.1):=rfl;rw[this,←dB];exact afa _ (λx y hxy q=>hxy<|by injection q with q;exact amR q) nd
def dc:Nat->Nat->List Nat
 |0,_=>[]
 |f+1,n=>bif n==0 then []else(n %77+46)::dc f (n/77)
def aE(n:Nat)(v:Nat):List Nat×Nat:=(dc 40 n,v)
def gE(n:Nat)(v:aC):Option (List Nat)×aC:=(some<|dc 40 n,v)
def rE(n a:Nat):Option (List Nat)×aC:=gE n (.ref a)
noncomputable def adM:List<|List Nat×Nat:=[aE 166067183176253417684118594 28,aE 166067183176253417681262123 48,aE 449508020419099688186769341577790178 69,aE 34612117572270676010759467889709483789 90,aE 166067183176253417469946419 159,aE 12787173104571513161812368569 271,aE 166067183176253417160358139 292,aE 12787173104571513128876152162 313,aE 12787173104571513156009733499 334,aE 30843303943675639035040 341,aE 1087597653576424565447829262650 348,aE 510843368833312508491 355,aE 408835825487157804156 362,aE 1087597653474417022101674558315 369,aE 6684858523542129421186492678457535 376,aE 83570390571284863083935787671787 383,aE 166067183176253417645722398 509,aE 984612329052006510744645185929 673,aE 17988231001951354995254263975 678,aE 16178914359077611346610371081 685,aE 35437146622217391662726 692,aE 94214088879738524389404956346140 699,aE 6801232947989715587882193860393158 706,aE 2156716664626667758062855 754,aE 67738472662568422 761,aE 449508020419099689405249558118097051 961,aE 6566066077659638304586960667582834 968,aE 284059015974871946473503545169748907851250 975,aE 668678363091794639562372010920856035 982,aE 3474537727449280824749561913373195030692 989,aE 418159298039 922,aE 626581678128 923,aE 835004058217 924,aE 1043426438306 925,aE 1251848818395 926,aE 1460271198484 927,aE 1668693578573 928,aE 1877115958662 929,aE 2085538338751 930,aE 2293960718840 931,aE 32723628211834 932,aE 48772151478687 933,aE 64820674745540 934,aE 80869198012393 935,aE 96917721279246 936,aE 112966244546099 937,aE 129014767812952 938,aE 145063291079805 940]
noncomputable def TV:List<|Option (List Nat)×aC:=[gE 796741448136837<|.str "scripttold.desk" 1357,gE 10347222157860 .none,gE 363738667243136572898 .none,gE 4724087017097483315<|.builtin "__main__.__loader__#opaque",gE 796735760221835 .none,rE 12787132492807650751635767108 6,rE 28009218281886477484898 4,gE 796741416588628<|.str "/claim/cut.py" 172,gE 4723862348662745260 .none,gE 407972998870937<|.int (1) 189,gE 518426133713597<|.int (2) 191,gE 163426660493014051550<|.int (3) 193,gE 24494939803221501825475<|.int (4) 195,gE 170545867375707862994<|.int (5) 197,gE 13204526430515506575528<|.int (6) 199,gE 27707969680851788<|.int (7) 201,gE 81593360932464675058326522<|.int (8) 203,gE 12582043562744803331911<|.int (9) 205,gE 1104294849827632896212650<|.int (10) 207,gE 171963015966368913092<|.int (11) 209,rE 2489442826 31,rE 2486586355 51,rE 5320677902003582602 72,rE 430070427042495500437 93,gE 7809898388245<|.str "abcdefghijklmnopqrstuvwxyz" 351,gE 101499306084<|.str "0123456789" 353,gE 281014285145097858994<|.int (48) 355,gE 280250745178897934080<|.int (65) 357,gE 222678949350435250774<|.int (97) 359,rE 1135849934780004 104,rE 1134177459917946 111,rE 1008070922540664 118,rE 84927517608434637 125,rE 11849346314875 132,rE 11849341815230 137,rE 11405889778275 142,gE 10685553<|.str "name" 410,gE 98262067089<|.str "number" 412,gE 60375318346<|.str "quoted" 414,gE 784118282<|.str "fixed" 416,gE 68806960553<|.str "ending" 418,rE 357970774210008 143,rE 1315421914 144,gE 9608145832928960058367477883<|.int (16) 461,gE 274736713656404980396<|.int (10) 463,gE 121426002385164692726051802<|.int (1000000000) 465,gE 56966696643427739784978739472896<|.int (255) 467,gE 359801017260330<|.int (10) 469,rE 101185176035 145,gE 79771109762<|.int (35) 475,gE 1318659142<|.int (45) 477,gE 826066892<|.int (34) 479,gE 32726981483887634<|.int (92) 481,gE 523863711488609<|.int (110) 483,gE 684348944157139<|.int (120) 485,gE 4898093544530<|.int (-1) 488,rE 2275270651 162,rE 14729360627418 173,rE 453461869307181853110 180,rE 511425124631886289971 187,rE 68987357523963254 194,rE 70254785054498647 201,rE 503512899647662995158 208,rE 39928579327182226675592 215,rE 2559428121487378024610320 222,rE 2559428121487374939888153 229,rE 400961648389870930507 236,rE 80014373921252762 243,rE 6158666639378427704 250,rE 70254788079017458 257,gE 132925<|.int (0) 649,gE 13418828<|.int (1) 651,gE 12097721<|.int (2) 653,gE 170932299350753165109<|.int (0) 655,gE 13161787050034525555685<|.int (1) 657,gE 2219899991573723805<|.int (2) 659,rE 191822334433 274,rE 1965682371 295,rE 158886118026 316,gE 21044842952797408263550<|.int (8) 774,gE 743626143856803301266648133381<|.int (8) 776,gE 273322937380982775548<|.int (64) 778,gE 1620443958163515783171058<|.int (8) 780,gE 273307077477263118936<|.int (4) 782,gE 163403163152527624588<|.int (2) 784,gE 9608145832947673486426853779<|.int (255) 786,rE 186019699363 386,rE 6075937070783877350 397,rE 39335322330465153279663 404,rE 510478858063686223780 411,rE 85134496450197616129166653395962 418,rE 14358997545996640443117323026 425,rE 5304818084161891132 432,rE 510845770692609735913 439,rE 400941856367874241565 446,rE 430070427128373465579 453,rE 3028810870244018204920643 460,rE 72809791493385630 467,rE 76385742990687429 474,rE 5320677987881547744 481,rE 510861630596329392525 488,rE 912399876659633 495,rE 2451046630 512,rE 2241884236 523,rE 2490237659 530,rE 233219126097327931829318576 537,rE 3028898607805675002477374 544,rE 39444442803556347990348 551,rE 2377184266405129478570650 558,rE 17957819649676783940074824112 565,rE 31546299790152796905941 570,rE 237041820228595800810720089 575,rE 6079641778380920048 580,rE 468132416932549263953 585,rE 468132416943310584055 590,rE 6079641778386779364 595,rE 78956386739031486 602,rE 1025407619899497 607,rE 2382297723311519626980051 612,rE 36024501520598395642585 619,rE 1024790473199941 626,rE 1057878177175965 633,rE 2429065083840895955809885 638,gE 3549653491247176421<|.int (4096) 1214,rE 510841986941714105115 645,rE 70254790857974407 652,gE 27674636648464683<|.int (1000) 1237,rE 2863447881266945839071506 659,rE 12055412557457 709,rE 1108948369921428828819046403221 718,rE 148127021959 723,rE 187038011456042030254702488 728,rE 1121880327743008 733,rE 68956922510950063 740,gE 10158948<|.int (0) 1359,gE 504126960656150196522116927222<|.int (12) 1361,gE 47509354473775611<|.int (-1) 1364,gE 1104250495800191426862746<|.int (-2) 1367,gE 21689588125976201310060<|.int (-3) 1370,gE 163407929555365565718<|.int (-4) 1373,gE 2418775567388105419<|.int (-5) 1376,gE 108484915498632297101113823<|.int (-6) 1379,gE 222703554204809217801<|.int (-7) 1382,gE 24540326747557350209279<|.int (-8) 1385,gE 27707969821559906<|.int (-9) 1388,rE 28261871 764,rE 36542902873563013502634 775,rE 87700785583405141 782,rE 6650454657627479153 789,rE 400574810202680827765 796,rE 541105325089729074418 803,rE 39336926331808893944361 808,rE 517789452740807429310 815,rE 31546299790187740393040 822,rE 430070427128373531570 829,rE 2549887562444164321236755 836,rE 401804271521631169242 843,rE 33114190859228290849858 850,rE 31548196629346742816522 857,rE 554713269180775404443 864,rE 31481110704726306773893 871,rE 36543647973788955512564 878,rE 233613389635742125216556015 885,rE 2428603013683380251883370 892,rE 452034416106368239118 899,rE 401621607229807848396 906,rE 6178547419754108604 913,rE 14897306307907502339303766913 920,rE 1314537861 921,rE 460217477877520249553 947,rE 6539158118543889475 992,rE 14567172707061 1003]
noncomputable def ad(x:Str):O:=match TV.lookup (some<|kc x)with
 |some (.ref a)=>a
 |_=>(adM.lookup<|kc x).getD 0
noncomputable def adr(P:kO):g9:=⟨ad,λx=>dOf (KK P)<|ad x,ad⟩
def ana(P:kO)(q:Str):(adr P).d q=dOf (KK P) ((adr P).f q):=rfl
def aec(P:kO):nsC (KK P) mainGlobals=TV:=by kernel_rfl
def ahZ(X:(KK P).In h)(atG:h.Ns mainGlobals mg)(x:Str):mg x=TV.lookup (some<|kc x):=aic X atG (by kernel_rfl) (aec P) x
def isI(i:Int):Option aC->Bool
 |some (.int j _)=>j==i
 |_=>false
def RM(s:Str):Option aC->Bool
 |some (.str j _)=>decide (j=s)
 |_=>false
def adQ{i:Int}(h:isI i v=true):∃t,v=some (.int i t):=by
 unfold isI at h;split at h
 .exact⟨_,by rw[iM.mp h]⟩
 .cases h
def Vg{s:Str}(h:RM s v=true):∃t,v=some (.str s t):=by
 unfold RM at h;split at h
 .exact⟨_,by rw[of_decide_eq_true h]⟩
 .cases h
def mem_lookup{α β:Type}[BEq α][LawfulBEq α]{x:α}{y:β}:∀{l:List (α×β)},l.lookup x=some y->(x,y)∈l
 |[],h=>by cases h
 |(u,v)::l,h=>by
  rw[eu]at h;cases e:x==u with
  |true=>rw[e]at h;cases h;rw[iM.mp e];exact bz
  |false=>rw[e]at h;exact aV _ (mem_lookup h)
def ag4:(cI.all λp=>isI p.2<|TV.lookup<|some<|kc p.1)=true:='d'
def ag5:(cS.all λp=>RM p.2<|TV.lookup<|some<|kc p.1)=true:='d'
def ag3:(cB.all λx=>(TV.lookup<|some<|kc x).isNone)=true:='d'
def imF:List O:=[51,72,93,162,274,295,316,512]
def imM:List O:=[386,764,709,992]
def adL:cF.map ad=imF:='d'
def adN:cM.map ad=imM:='d'
noncomputable abbrev pmo(P:kO)(q:Str):aC:=(dOf (KK P)<|ad q).pyModule
noncomputable abbrev cdo(P:kO)(q:Str):aC:=(dOf (KK P)<|ad q).code
noncomputable def W5(P:kO)(c:O):List aC:=match(KK P).lookup c with
 |some ⟨_,_,.seq a,_⟩=>a.toList
 |_=>[]
def noB:Option (Option aC)->Bool
 |some none=>true
 |_=>false
def aee{x:Option (Option aC)}(h:noB x=true):x=some none:=by
 unfold noB at h;split at h
 .rfl
 .cases h
section
variable{cn:Str} {fs:List Str}
def nT(l:(KK P).lookup (ad q)=some (Ml x q st (pmo P q)<|cdo P q):=by kernel_rfl)(c:vD (KK P) (cdo P q) q=true:=by kernel_rfl)(b:Binds (KK P) (jZ x q (sX st) (qR st) (aO st) .none .none .none (pmo P q) none (cdo P q) .none) ps []:=by exact ac2<|by(repeat intro _);show _=_;kernel_rfl):S4 (KK P) x q st ((adr P).f q) ((adr P).d q)/\Binds (KK P) ((adr P).d q) ps []:=⟨adl Y Y l c,WG Y Y l b⟩
def fT(M:∀x,mg x=TV.lookup (some<|kc x))(n:S4 (KK P) x x st ((adr P).f x) ((adr P).d x)/\Binds (KK P) ((adr P).d x) ps []:=by exact nT)(m:TV.lookup (some<|kc x)=some (.ref<|ad x):=by kernel_rfl):jw (KK P) mg (adr P) x st ps:=⟨n.1,n.2,(M _).trans m⟩
def mT(n:S4 (KK P) x q st ((adr P).f q) ((adr P).d q)/\Binds (KK P) ((adr P).d q) ps []:=by exact nT)(fi:iG (KK P) (.ref<|ad cn) x=some (some<|.ref<|ad q):=by kernel_rfl)(isf:isFn (KK P) (.ref<|ad q)=true:=by kernel_rfl)(kp:keepIn (KK P) (.ref<|ad q)=true:=by kernel_rfl):Lo (KK P) (adr P) cn x q st ps:=⟨n.1,n.2,fi,isf,kp⟩
def cT(M:∀x,mg x=TV.lookup (some<|kc x))(n:S4 (KK P) "__init__" q st ((adr P).f q) ((adr P).d q)/\Binds (KK P) ((adr P).d q) ps []:=by exact nT)(isf:isFn (KK P) (.ref<|ad q)=true:=by kernel_rfl)(cl:Wx (KK P)<|ad cn:=by exact⟨by kernel_rfl,by kernel_rfl,by kernel_rfl,by kernel_rfl⟩)(mk:OM (KK P) (ad cn)=true:=by kernel_rfl)(fi:iG (KK P) (.ref<|ad cn) "__init__"=some (some<|.ref<|ad q):=by kernel_rfl)(kp:keepIn (KK P) (.ref<|ad cn)=true:=by kernel_rfl)(m:TV.lookup (some<|kc cn)=some (.ref<|ad cn):=by kernel_rfl)(no:(fs.all λf=>noB<|iG (KK P) (.ref<|ad cn) f)=true:=by kernel_rfl):Iw (KK P) mg (adr P) cn q st ps fs:=⟨n.1,n.2,cl,⟨mk,fi,isf,kp⟩,(M _).trans m,λ_ h=>aee<|dO.mp no _ h⟩
def qT(H:Hp)(l:(KK P).lookup c=some ⟨.type "tuple",none,.seq (W5 P c).toArray,#[]⟩:=by kernel_rfl)(hs:Nat.ble (W5 P c).length 1000=true:=by kernel_rfl)(v:(W5 P c).mapM UU=some S:=by kernel_rfl):oS (KK P) H c S:=aeX l (Nat.le_of_ble_eq_true hs) v H
def tT(M:∀x,mg x=TV.lookup (some<|kc x))(l:∀H:Hp,oS (KK P) H (ad x) S:=by intro H;exact qT H)(m:TV.lookup (some<|kc x)=some (.ref<|ad x):=by kernel_rfl):WA (KK P) mg (adr P) x S:=⟨(M _).trans m,l⟩
def NC(P:kO):Array zZ:= #[⟨nW P "__module__",.str "__module__" 218,.str "scripttold.faults" 187⟩,⟨nW P "__firstlineno__",.str "__firstlineno__" 222,.int (13) 221⟩,⟨nW P "__init__",.str "__init__" 231,.ref 28⟩,⟨nW P "__static_attributes__",.str "__static_attributes__" 234,.ref 29⟩,⟨nW P "__weakref__",.str "__weakref__" 236,.ref 32⟩,⟨nW P "__doc__",.str "__doc__" 237,.none⟩]
def ahM:Flt (KK P) ((adr P).c "Fault")<|(adr P).f "Fault.__init__":=by
 have ec:(adr P).c "Fault"=31:=by kernel_rfl
 have ef:(adr P).f "Fault.__init__"=28:=by kernel_rfl
 rw[ec,ef];have ln:(KK P).lookup 30=some ⟨.type "dict",none,.dict (NC P) 3,#[]⟩:=by kernel_rfl
 have al:((NC P).toList.all λe=>(RO e.key).isSome)=true:=by kernel_rfl
 have lc:(KK P).lookup 31=some (ju "Fault" "Fault" 31 30 [.type "ValueError"] XF.ZP true [] [] false none none (some<|.ref 15) (none) (some<|.str "Fault" 211) (some<|.str "Fault" 219) (some<|.bool true) "ValueError.__new__"):=by kernel_rfl
 have q1:nsFind (NC P) "__init__"=some (.ref 28):=by rw[pH];kernel_rfl
 have q2:nsFind (NC P) "__setattr__"=none:=by rw[pH];kernel_rfl
 have q3:nsFind (NC P) "__getattribute__"=none:=by rw[pH];kernel_rfl
 have q4:nsFind (NC P) "__getattr__"=none:=by rw[pH];kernel_rfl
 have q5:nsFind (NC P) "code"=none:=by rw[pH];kernel_rfl
 have q6:nsFind (NC P) "place"=none:=by rw[pH];kernel_rfl
 have lf:(KK P).lookup 28=some (Ml "__init__" "Fault.__init__" qX (.str "scripttold.faults" 187)<|.ref 27):=by kernel_rfl
 have kp:keepIn (KK P) (.ref 31)=true:=by kernel_rfl
 exact⟨⟨_,_,_,_,_,_,_,_,_,_,_,_,_,_,nsFind<|NC P,lc,aid ln al,q1,q2,q3,q4,q5,q6⟩,⟨_,lf,Y⟩,kp⟩
def txt(M:∀x,mg x=TV.lookup (some<|kc x)):Txt (KK P) mg<|adr P:=have fl:S4 (KK P) "__init__" "Fault.__init__" qX ((adr P).f "Fault.__init__") ((adr P).d "Fault.__init__")/\Binds (KK P) ((adr P).d "Fault.__init__") ["self","code","place"] []:=nT
 ⟨λx i e=>by rw[M x];exact adQ<|dO.mp ag4 _<|mem_lookup e,
 λx i e=>by rw[M x];exact Vg<|dO.mp ag5 _<|mem_lookup e,
 λx e=>by rw[M x];exact Option.isNone_iff_eq_none.mp<|dO.mp ag3 _ e,
 (λx hx y hy=>by
   have a1:ad x∈imF:=by rw[←adL];exact iX hx
   have a2:ad y∈imM:=by rw[←adN];exact iX hy
   exact(show∀u∈imF,∀v∈imM,u≠v by decide) _ a1 _ a2),
 (show∀x∈cM,∀y∈cM,x≠y->ad x≠ad y by decide),
 tT M,
 tT M,
 tT M,
 ahM,
 fl.1,
 fl.2,
 (M _).trans (by kernel_rfl),
 cT M,
 cT M,
 cT M,
 fT M,
 fT M,
 fT M,
 fT M,
 fT M,
 fT M,
 fT M,
 cT M,
 fT M,
 fT M,
 fT M,
 fT M,
 fT M,
 fT M,
 fT M,
 fT M,
 fT M,
 fT M,
 fT M,
 fT M,
 fT M,
 cT M,
 cT M,
 cT M,
 cT M,
 mT,
 mT,
 mT,
 mT,
 mT,
 mT,
 mT,
 fT M,
 fT M,
 fT M,
 fT M,
 fT M,
 fT M,
 fT M,
 fT M,
 fT M,
 fT M,
 fT M,
 fT M,
 fT M,
 fT M,
 fT M,
 cT M,
 fT M,
 fT M,
 fT M,
 fT M,
 fT M,
 fT M,
 fT M,
 fT M,
 fT M,
 fT M,
 fT M,
 fT M,
 fT M,
 fT M,
 fT M,
 fT M,
 fT M,
 fT M,
 fT M,
 fT M,
 fT M,
 fT M,
 fT M,
 cT M,
 mT,
 mT,
 mT,
 mT,
 mT,
 fT M,
 fT M,
 fT M,
 fT M,
 fT M,
 cT M,
 mT,
 fT M,
 fT M,
 fT M,
 fT M,
 fT M,
 fT M,
 fT M,
 fT M,
 fT M,
 fT M,
 fT M,
 fT M,
 fT M,
 fT M,
 fT M,
 fT M,
 fT M,
 fT M,
 fT M,
 fT M,
 fT M,
 fT M,
 fT M,
 cT M,
 mT,
 mT,
 mT,
 mT,
 fT M⟩
def cE:List<|Nat×Tok×O:=[(0,1620,922),(1,1624,923),(2,1628,924),(3,1632,925),(4,1636,926),(5,1640,927),(6,1644,928),(7,1648,929),(8,1652,930),(9,1656,931),(10,1660,932),(11,1664,933),(12,1668,934),(13,1672,935),(14,1676,936),(15,1680,937),(16,1684,938),(17,1688,940)]
def Z9{Pr:eL}(M:∀x,mg x=TV.lookup (some<|kc x)):Iv Pr w (KK P) mg (adr P)where
 m:=(M _).trans (by kernel_rfl)
 d:=by
  have ec:(adr P).c "CALLS"=921:=by kernel_rfl
  have lk:(KK P).lookup 921=some ⟨.type "dict",none,.dict (cE.map ac3).toArray 18,#[]⟩:=by kernel_rfl
  have hh:(cE.all λp=>hashInt (p.1:Int)==(p.1:Int))=true:='d'
  have ek:(cE.map λp=>((b8 (p.1:Int):Key),bU p.2.2))=IE (adr P):=by kernel_rfl
  have nd:(cE.map (·.1)).Nodup:='d'
  rw[ec];exact W7 lk hh ek nd
 t:= λi H=>by cases i<;>exact qT H
def d1:DefRec:=match st1 with
 | .FunctionDef n ps b _ _ _ sc _ _ p=>⟨n,ps,b,sc,p⟩
 |_=>⟨"",sX st1,[],aO st1,⟨0,0,0,0⟩⟩
def ac8:defOf q1 uo.name=some (d1,[]):=by kernel_rfl
def ac9:uo.prog.theDef uo.name=some (d1.params,d1.body,d1.scope):=by kernel_rfl
def agK:kwWritten? d1.params.kwonlyargs d1.params.kw_defaults=some []:=by kernel_rfl
def agL:d1.name="answers":=by kernel_rfl
def agJ:d1.params.defaults=[]:=by kernel_rfl
def agM(P:kO)(us:List aC)(hu:us.length=(["calls"]:List Str).length):Y6 ((adr P).d "answers") ⟨us,[]⟩=pure ((["calls"]:List Str).zip us):=by
 exact tV hu (by intro _;show _=_;kernel_rfl)
def got{P:eL}{fa:O}(T:Txt K mg a)(C:Iv P w K mg a)(hb:∀us:List aC,us.length=(["calls"]:List Str).length->Y6 (a.d "answers") ⟨us,[]⟩=pure ((["calls"]:List Str).zip us))(hmg:mg "answers"=some (.ref fa)):∃fd:kM,(∀(s:aP) (us:List aC),us.length=(["calls"]:List Str).length->OY s fd ⟨us,[]⟩ ((["calls"]:List Str).zip us))/\∀base:eZ,K.In base->base.Ns mainGlobals mg->nQ P w K mg base QX 17 fa fd ["calls"] (Fw K):=by
 obtain rfl:fa=a.f "answers":=amZ<|aL<|hmg.symm.trans T.answers.m;exact⟨a.d "answers",λs us hu=> .of_eq<|hb us hu,λbase _ _=>R8 T C⟩
def wit:∃args,uo.pre args=true/\vC args=true:=⟨[.list [.int 1]],'d','d'⟩
def walk1(PL:uo.wellSaid=true):Er q1 lo1 (λ_ _=>True) (InK KK) uo d1 [] λf S=>K5 f S:=by
 refine L2.SN (r:=uo) (k:=17) (K:=KK) (CX:=L2.QX) (ps:=["calls"]) (sp:=Fw) PL agJ Y ⟨Y,'d','d'⟩ (λw h af=>af) ?F ?atE (λ_ _ _ _ z=>z)
 case F=>
  intro w mg fa h af KX atG hmg;have M:=ahZ KX atG;rw[agL]at hmg;exact got (txt (P:=w.params) M) (Z9 M) (agM _) hmg
 case atE=>
  intro K H xs a hO hwi akZ hx;cases hx with
  |cons G h2=>
   cases h2;cases G with
   |lst hs ha=>
    have e:=L2.Tw a.1 _ ha;subst e;have q:((nP.inLen 0 17000 a.1&&a.1.all (nP.inInt (Int.negSucc 999999999999999999)<|Int.ofNat 1000000000000000000))&&true)=true:=hwi;rw[bI,bI]at q;exact⟨_,a.1,Y,hs,(nP.inNat_iff.mp q.1.1).2,akZ,λD U hp=> .lst (L2.cP.of hp)<|L2.Td _⟩
end
end Scr
section
open PySem PySem.W PyProof.Rows
def Scr.dqz:Nat->Nat->Nat->List O|0,_,_=>[]|k+1,n,s=>(s+n%13)::dqz k (n/13) (s+n%13)
def Scr.asL:List O:=Scr.dqz 640 7491221528598646204199865205811333667497221171214330029921908957302984386287268090714265774755884803657647993647284978062075345467260780642934106550381885141553690320699071215179913627683965453936584857079663202777362729413045215286250299718517597582120662942428863315472783457864964332372611153753901619557653644022565666562016116282119091364020192684881275725667319384235217567854670336287372139799007537501162185066693366101155100745269829269623296770737571103350589881154928192737621895459410619006923880962150800695671488145237583694283353284306562710039450743999476881260741023612124167943164099529086545581403082899413512017210500093089527767483011116938511993926929378213768843904729597335360488967994175 0
def Scr.WD(P:kO):(Scr.KK P).map (·.1)=Scr.asL:=by kernel_rfl
def Scr.acZ(P:kO):Scr.as0=(Scr.KK P).map (·.1):=by
 unfold Scr.as0;rw[Scr.WD,Scr.WD]
theorem PySem.Challenge.cw_scripttold_s01_answers_holds : PySem.Challenge.rw_scripttold_s01_answers.Holds :=
 Scr.lead (K:=Scr.KK) (as:=Scr.as0) (d:=Scr.d1) (kwd:=[]) Scr.acZ Scr.ahX Scr.ac8 Scr.ac9 Scr.agK Scr.ws Scr.ow Scr.br Scr.wit (Scr.walk1 Scr.ws) (λf=>f.elim)
end
