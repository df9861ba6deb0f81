import PyProof.Rows.All
import Wide.All
import OpenK.AllK
import Wide.FinOn
import PyProof.EqAt
import PyProof.EqKinds
import PyProof.TupleCall
import KE.BitLaws
import Open.SpecLaws
import KE.OsHead
import KE.OsGo
import KE.KLam
import KE.KSortedAny
import PyProof.DictUpdate
import PyVatrkc
import PyProof.Rows.SetFrom
import PyProof.ForAny
import KE.KDictSum
import PyProof.Rows.SortWalk
import KE.KDictLaws
import PyFlatLaws
import PySem.Challenge.RW_trackverdict_s01_answers
set_option Elab.async false
set_option linter.all false
set_option maxRecDepth 100000
set_option maxHeartbeats 4000000
local macro_rules|`(‹$t›)=>`(by simpa using $t)
local macro_rules|`(‹_›)=>`(by decide+kernel)
noncomputable section
open Array renaming length_toList->iN,getElem?_eq_getElem->lg,getElem?_toList->t5,getElem?_eq_none->wG,getD_eq_getD_getElem?->Jy,toList->Jz,forIn_toList->Rz,toList_append->RA,toList_push->RB
open Bool renaming true->ah,false->aB,false_ne_true->cg,false_and->dj,and_false->dy,and_eq_true->fk,false_or->gf,true_and->gg,true_or->gW,and_true->jn,false_eq_true->kj,noConfusion->kl,not_true->rx,or_eq_true->wI,not_false->zu,eq_iff_iff->Dk,or_false->Dl,and_eq_true_iff->JA
open Classical renaming byContradiction->JC
open False renaming elim->i4
open ForInStep renaming yield->rA,done->JE
open Function renaming comp->RC,comp_apply->RD
open Int renaming eq_ofNat_of_zero_le->i5,add_zero->jL,mul_zero->oC,toNat->oD,toNat_natCast->rD,mul_add->Dn,natCast_add->Dq,zero_mul->Dr,add_assoc->JG,add_comm->JH,add_mul->JI,le_of_lt->JJ,lt_of_le_of_lt->JK,one_mul->JL,zero_add->JM,toNat_of_nonneg->RJ
open Int.ofNat renaming inj->t8
open List renaming length_map->aP,length_append->bb,mem_singleton->bx,mem_map->bA,mem_cons->bJ,map_cons->bM,map_map->bR,length_cons->bY,getElem?_map->cf,mem_cons_of_mem->cj,mem_of_getElem?->ck,mem_cons_self->cy,map_append->cG,mem_append->cZ,getElem?_eq_getElem->dC,flatMap_cons->dW,mem_filter->d4,append_nil->ee,size_toArray->eh,take_length->eJ,append_assoc->fm,length->fo,length_eq_zero_iff->gh,filter_cons->gv,flatMap_append->gw,sum_cons->gJ,map_congr_left->gY,mem_append_right->gZ,length_take->iz,find?_cons->iO,nodup_cons->i6,mem_append_left->jq,any_eq_true->jM,length_drop->jN,Perm->kr,filter_append->ku,map_id->kx,lookup->lu,map_drop->lx,map_take->ly,any_cons->mj,flatMap_nil->mm,foldl_cons->mn,take_zero->mq,filter_map->nk,forIn_cons->nr,length_nil->nv,mem_flatMap->ny,mem_of_mem_take->nz,concat_eq_append->oE,cons_append->oF,eq_nil_or_concat->oG,forIn_nil->oH,getElem?_eq_some_iff->oI,length_filter_le->oJ,nodup_nil->oK,not_mem_nil->oM,drop_zero->p8,getElem?_append_right->p_,all_eq_true->rE,any_map->rF,ext_getElem?->rG,getLast?_append->rH,lookup_cons->rJ,mem_of_mem_drop->rK,take_append_drop->rL,zip->rM,filter_eq_self->t9,filter_nil->t_,getLast?_map->ua,length_take_le->ub,map_singleton->uc,mem_of_getLast?->ud,mem_range->ue,range->uf,all_map->wL,any_append->wM,exists_mem_of_ne_nil->wN,filter_sublist->wO,foldl_append->wQ,getD_eq_getElem?_getD->wR,getElem?_append_left->wU,map_nil->wV,nodup_append->wW,any_eq_false->zC,drop_length->zD,getElem?_eq_none->zE,length_set->zF,map_eq_nil_iff->zG,pairwise_cons->zH,pairwise_iff_getElem->zI,pairwise_map->zJ,take_of_length_le->zK,all_cons->Dz,filterMap_cons->DA,filter_eq_nil_iff->DB,foldr_cons->DC,getElem?_of_mem->DD,getElem_mem->DE,getLast?_eq_getElem?->DF,length_singleton->DG,nil_append->DH,of_mem_zip->DI,zip_cons_cons->DJ,contains_cons->JO,drop_eq_getElem_cons->JP,exists_cons_of_ne_nil->JQ,find?_map->JR,flatMap_map->JS,getElem?_set_ne->JT,getElem?_set_self->JU,getElem_of_mem->JV,getLast?_eq_some_getLast->JW,getLast?_singleton->JX,length_pos_of_mem->JY,pairwise_append->JZ,pairwise_lt_range->J0,perm_ext_iff_of_nodup->J1,zip_nil_left->J2,countP_le_length->RO,drop_of_length_le->RQ,filter_congr->RR,filter_filter->RS,find?_append->RT,find?_eq_none->RU,getElem?_mapIdx->RW,getElem?_modify->RX,getElem?_reverse->RY,getElem?_take_of_lt->RZ,getElem?_toArray->R0,getLast?_eq_none_iff->R1,length_eraseIdx->R3,length_modify->R4,length_pos_iff->R5,mem_filterMap->R6,pairwise_singleton->R7,range_succ_eq_map->R8,take_sublist->R9
open List.Sublist renaming refl->zB
open List.cons renaming inj->RM,injEq->RN
open Nat renaming le_refl->bp,zero_le->cN,le_succ->cS,le_trans->c7,ne_of_lt->c8,lt_of_lt_of_le->g8,le_of_lt->jO,lt_irrefl->jP,add_zero->mu,lt_of_le_of_lt->mv,ne_of_gt->mw,add_assoc->nA,lt_or_ge->qb,lt_succ_self->qc,zero_add->qd,le_add_right->rO,lt_succ_of_lt->wX,lt_trans->wY,le_of_eq->zM,min_eq_left->zN,mul_add->zO,mul_one->zP,sub_zero->zQ,add_sub_cancel->DL,le_of_succ_le->DM,sub_self->DP,add_comm->J3,mul_succ->J4,not_lt_zero->J5,sub_add_cancel->J6,succ_le_succ->J7,succ_pos->J8,add_sub_cancel_left->Sa
open Ne renaming symm->cU
open Option renaming some->aa,none->aj,isSome_iff_exists->rP,map_eq_some_iff->rQ,isSome_map->w6,map_some->w8
open Option.some renaming inj->dX,injEq->Sb
open Or renaming inr->w9
open Prod renaming ext->qe
open PyFlat renaming put->cH,putRows->qf,put1->rS,okCall->DT,played->J_,told->J'
open PyProof.Rows renaming IsTup->gi,envOfC->mx,IntsAre->oN,boot_tuple->rT,AllBare->uk,slot_tuple_getitem->um,callWith_type1->xb,firstMet->xc,ite_ff->xf,ite_tt->xg,seqObj->xh,step_dedup->xi,tupleItemsOf_->xj,boot_all->DU,boot_list->Kb,boot_sum->Kc,subscriptTail->Kd,boot_any->Se,subscriptTail_builtinR->Sf
open PyProof.Rows.F renaming plain_set_update_loop->Ka,entry_set_update_loop->Sd
open PySem renaming Addr->ae,Value->af,wpAny_bind->az,Shared->aD,Heap->aK,wpAny->aN,World->aQ,Program->aR,sizeLine->aS,wpAny_pure->aV,Around->b8,starEach->cu,eval->cC,Stmt->c5,cLine->du,Scope->dM,rawInt->eM,DictEntry->fg,CmpOp->fD,mainGlobals->fF,backTo->gj,compareOp->gy,cellsFrom->gK,wpAny_call_entry->iB,atKey->iP,intKind->i8,wpAny_truthy_bool->i_,NameKind->jr,pyNext->js,wpAny_field->jt,mem_of_lookup->jR,wpAny_holding->jS,wpAny_mono->jT,wpAny_newObj_type->jU,sysModules->kE,IsPair->lA,compEnvC->lC,bindArgs->mz,binaryOp->nE,codeAny->nF,getItem->nG,wpAny_seqItems->nH,wpAny_setField_rec->nI,Model->oO,PyData->oQ,swapsWith->oU,wpAny_callSpecial?_slot->oV,wpAny_rule->oW,IsZip->qh,Params->qi,field->qm,Fin->rX,FuncData->rY,Keyword->rZ,assignEach->r_,bindC->se,bindL->sf,codeAny_builtin->si,hashInt->sj,newExc->so,pushCells->sr,pyIter->su,setField->sv,wpAny_loadPart'->sD,wpAny_of_eq->sE,Arguments->uo,assign->uw,bootBuiltins->ux,builtinsNs->uy,holding->uz,plainId_quiet->uA,sliceBounds->uB,wpAny_isInstance->uC,wpAny_passesOwn->uD,wpAny_pyIter_tuple->uE,wpAny_typeOf->uF,attributeBase->xo,codeAny_mono->xp,firstArgMember->xq,notedBy->xr,relayAll->xt,scanBound->xu,tupleKind->xw,wpAny_Call_Name_kw->xx,wpAny_attempt->xy,wpAny_setState_of->xA,ElemsOf->zX,call_meetsIn->z6,callerA->z7,eqBool->z8,pyHash->z9,sizeLine_eq->z_,tupleKind_room_in1->Aa,wpAny_pyIter_list->Ab,wpAny_specialOf->Ac,call_meets->Ed,eqIsQuiet->Ee,isSubtype_stop->Ef,keywordEach->Eg,lastMarks->Eh,letOwnedTupleGo->Ei,pushCells_keeps->Ej,reduceHash->Ek,subscripted->El,typeLookup->Em,wpAny_execs_nil->En,wpAny_pyIter_enum->Eo,wpAny_pyIter_slot->Ep,wpAny_setField->Er,wpAny_typeNameOfWhole_keyiter->Es,Within->KN,concat_meets->KO,isSubtype_type->KP,noFill_tuple_add->KQ,seqIndex_neg->KR,seq_tuple_add->KS,setNextDrawn->KU,wpAny_askSetting->KW,wpAny_dictEntries->KY,wpAny_dictEpoch->KZ,wpAny_fieldsOf->K0,wpAny_handled->K1,wpAny_onRaise->K2,wpAny_standAt->K3,wpAny_updateSeq->K4,meetsH_dict_get_default->S6,wpAny_Assign_Subscript->S8,wpAny_Call_method_late->S9,wpAny_letOwnedTupleGo_enum->S_,wpAny_newFunctionEnv_cells->S',wpAny_pyNext_list_item->Ta
open PySem.Around renaming under_plainId->uq,under->Ke
open PySem.Builtin.Dict renaming showsAll->Sg,updateFrom->Si
open PySem.Builtin.Dict_items renaming ownsTuple->Sj
open PySem.Builtin.List renaming listTooLong->zU,listExtendWith->Sk,listLengthHint->Sl,listSameRef->Sm
open PySem.Builtin.Slice renaming slicePlaces->DV,sliceAdjust->Kf,sliceApplied->Sn
open PySem.Builtin.SmallTypes renaming nextOf->ur,ownedTupleHandOut->So,ownedTupleIsFree->Sq
open PySem.Builtin.Tuple renaming tupleHashOf->rV,tupleExact->DW,tupleItemsOf->Kg
open PySem.Calls renaming evalArgs_plain->zV,spliced_cons->zW,callWith_builtin->DX,spliced_nil->Kh,Name_function_global->Sr,call_function_entry->Ss
open PySem.F renaming plainAttrs_list->fQ,slot_list_append->jQ,type_list_append->kz,slot_list_extend->lz,type_list_extend->nB,called_set->rW,slot_dict_keyiterator_next->xk,slot_dict_get->zY,plainAttrs_dict->DY,slot_tuple_hash->DZ,slot_tuple_iterator_next->D0,slot_zip_next->D1,args_dict_get_3->Ki,args_tuple_add_2->Kj,entry_dict_get->Kk,entry_tuple_add->Kl,slot_list_getattribute->Km,slot_tuple_add->Kn,slot_tuple_eq->Ko,args_dict_keyiterator_next_1->Su,args_list_extend_2->Sv,args_tuple_iterator_next_1->Sw,args_zip_next_1->Sx,entry_dict_keyiterator_next->Sy,entry_tuple_iterator_next->SA,entry_zip_next->SD,plain_set_new->SE,slot_dict_getitem->SG,slot_dict_keyiterator_iter->SH,slot_dict_setdefault->SI,slot_dict_update->SJ,slot_enumerate_next->SK,slot_tuple_index->SM,type_dict_get->SN
open PySem.Heap renaming get?_push_of_some->cq,lt_size->cI,get?_push_size->dm,size_push->fU,SameBut->qg,get?_update_self->xm,get?_update_other->D4,IsTuple->Kp
open PySem.Heap.DictOf renaming new->SQ
open PySem.Heap.SameBut renaming update->xl
open PySem.Keeper renaming boundFrame->Kq,frame->Kr,machine->Ks
open PySem.NameKind renaming free->xn,cell->Kt
open PySem.Obj renaming mapSeq->oP,data_mapFields->D5,putSet->D6,isFreed_of_fields->SR
open PySem.Paired renaming length->kC,snoc->D7
open PySem.PassesOwn renaming never->eK
open PySem.PyData renaming eqv->zZ,int->D8
open PySem.SeqAt renaming EqAt->Ku,shaped->Kv
open PySem.SeqAt.EqAt renaming int_str->SU,str_int->SV
open PySem.SetTable renaming below->ib,grown->uu,orStandIn->SW
open PySem.SetTable.below renaming go->D9
open PySem.SetTable.probe renaming go->SX
open PySem.Shared renaming heap->Kw
open PySem.Str renaming ofString->oR
open PySem.Value renaming ref->cR,none->iA,type->kD,isInt->qj,bool->r4,int->z0,str->D_
open PySem.Value.type renaming inj->SY
open PySem.W renaming Frag->aw,WData->fE,fnOf->lB,nsIn->my,WellAll->nD,findIn->oS,keepIn->oT,emptyDict->qk,CodeHd->r6,Codec->r8,instObj->r9,codeIn->uv,mg_of->z5,hasDictIn->Ea,kla_obj->Eb,plainGet->Ec,Looks->Kz,cellsFrom_some->KA,lookIn->KC,makesIn->KG,methodObj->KH,plainOver->KI,takerIn->KJ,WRecords->S0,callWith_K->S1,handedIn->S2,kla_fn->S3,length_le_weightAllW->S4,tabObj->S5
open PySem.W.Codec renaming encAll->z3,app->Kx,denoteAll->Ky
open PySem.W.WData renaming weightAll->D'
open PySem.Walks renaming list->KL
open PySem.pickOrder renaming go->S7
open PyVatrkc renaming shape->uG,answers->Ad,calls->Ae,answers_asked->K5,whole->K6
open Std.Legacy renaming Range->K7
open Sum renaming inl->jV,inr->uI
open True renaming intro->o3
open Vatrka renaming Piece->aE,Pending->cW,count->dG,next->dH,within->dY,bears->eo,cutPiece->eO,stretch->e_,paintPiece->fG,State->fV,carried->gk,isStretch->gC,shown->gD,shownLook->gL,finish->ic,Change->iD,newPieces->iR,endLook->jW,signLook->jX,visible->jY,below->lF,shownValue->lG,step->lH,has->mC,isSign->mD,stepMove->mE,stepPaint->mF,stepPut->mG,outright->o4,props->o6,stepCut->o7,zeroLook->o8,landing->sF,Call->Ag,END->Ah,doCut->Ai,doMove->Aj,doPaint->Ak,doPut->Al,authorOf->Tf,commonTags->Tg
open Vatrka.Pending renaming change->Te
open Vatrkc renaming State->bf,entered->bj,verdictRow->bQ,Call->bV,marks->cz,occurs->cO,step->cP,isChange->dD,verdictIn->fq,without->fu,isVerdict->fH,isMove->fW,allMarks->gM,toldNats->gN,giveOne->g_,numbers->ie,Tally->iS,Parted->ja,changeAt->ju,settled->jv,stands->jZ,acceptIn->kH,rejectIn->kI,spotsFrom->kJ,start->kK,look->lJ,delMarks->mH,insMarks->mI,isPart->mJ,pendMarks->mK,stepJudge->nJ,stepJudgeby->nM,stepJudgelist->nN,stepJudgepart->nO,stepJudgetouching->nP,fallsOf->o9,command->qp,selectedIn->qr,standsIf->sG,authors->uJ,giveTo->uK,whatIf->uL,countedNats->xD,give->xE,names->Am,person->An,sum->Ao,valueIf->Ap,judged->Ew,selectedBy->Th,selectedList->Ti,settleIn->Tj,toldPend->Tn,toldPiece->To
open Vatrkc.Parted renaming row->lI
open VatrkcNeutral renaming encode->gO,step->Ex,callOf->K8
theorem U{A:Sort u}{a:A}:a=a:=rfl
abbrev ay:=@if_neg
abbrev aA:=@if_pos
abbrev bq:=@absurd
abbrev b_:=@congrArg
abbrev cE:=@decide_eq_false
abbrev cQ:=@of_decide_eq_true
abbrev dg:=@decide_eq_true
abbrev fh:=@of_decide_eq_false
abbrev fX:=@beq_eq_false_iff_ne
abbrev iE:=@beq_iff_eq
abbrev xF:=@decide_eq_true_iff
namespace PySem.W.Fast
def tw3113561172081606764:=0
def tw15372780610129996546:=0
def tw4923710832314486591:=0
def tw1893789542220230500:=0
def tw12895846086970909875:=0
def tw17221622965101581857:=0
def tw5707478836649326685:=0
def tw1307448438017152363:=0
def tw4580833020311502496:=0
def tw10640553349611833913:=0
def tw7519550834452437060:=0
def tw17583029339249254393:=0
def tw7511858300227533071:=0
def tw5432095078655110407:=0
def tw15488371321436770479:=0
def tw9529609943461966298:=0
def tw3193721311846525790:=0
def tw589973900393979599:=0
def tw12910125288232079130:=0
def tw5767500078701841811:=0
def tw14873650104713658875:=0
def tw1623433173337537246:=0
def tw3870973977350482144:=0
def tw6540171529496105117:=0
def tw13617044356516416121:=0
def tw840961191294482701:=0
def tw4252541236067731153:=0
def tw16525436421318428473:=0
def tw1199568989175762361:=0
def tw5038619981250616528:=0
def tw11548318194018725882:=0
def tw15048356340922200345:=0
def tw13240525243531269752:=0
def tw18052870489810413998:=0
def tw16694378275726783317:=0
def tw7784920565961271746:=0
def tw12677255590391430891:=0
def tw8422892464121590275:=0
def tw13212240255652885992:=0
def tw1188278968956783094:=0
def tw7852872585046556624:=0
def tw2362173840104167228:=0
def tw14187039320939197862:=0
def tw8669430606822864854:=0
def tw17851213703145204994:=0
def tw8250607291294784562:=0
def tw13178605535321240533:=0
def tw16595812912598026796:=0
def tw147823510831523926:=0
def tw4611716197115146906:=0
def tw9525534164732301232:=0
def tw2674797190846133141:=0
def tw17658006976212230474:=0
def tw9712038028696237436:=0
def tw9043714291969593704:=0
def tw2180854247418247535:=0
def tw15113654826476602095:=0
def tw3723573737467660413:=0
def tw14895800976426967370:=0
def tw9153885834972141899:=0
def tw16852817022763147066:=0
def tw18291454324936995175:=0
def tw8882720873938707939:=0
def tw12205676775939654429:=0
def tw12159549583024350371:=0
def tw3776659698701084618:=0
def tw6769715713608999896:=0
def tw11781805067197428245:=0
def tw1553684978436340886:=0
def tw9474800130251096351:=0
def tw1813676079315977683:=0
def tw7074636276028913426:=0
def tw202762107144773736:=0
def tw17290337381737336823:=0
def tw5228997593482575884:=0
def tw5975248754960881994:=0
def tw4945857009659088269:=0
def tw5798161806673096483:=0
def tw4997628176294521430:=0
def tw14374742350387815221:=0
def tw3918174309491019222:=0
def tw12266001061800022020:=0
def tw702701626548537222:=0
def tw5492782440114262814:=0
def tw12763723111473106797:=0
def tw7567719483117797221:=0
def tw6815384362782785927:=0
def tw13254361702172314687:=0
def tw3711490026797925862:=0
def tw229777443609920806:=0
def tw6591306320020814501:=0
def tw11471960296562750951:=0
def tw14001797979264876389:=0
def tw18165730232695468843:=0
def tw16393625902511890635:=0
def tw5800471200118495606:=0
def tw6300374755936585405:=0
def tw4957570958624422015:=0
def tw9177583783741142335:=0
def tw3618264908713316525:=0
def tw11409429137441471667:=0
def tw9980604971639835178:=0
def tw3451165330670568634:=0
def tw5516449419910721171:=0
def tw4745628190437892507:=0
def tw6633477726350612392:=0
def tw11202538144294767570:=0
def tw6697744066360871603:=0
def tw8396667283673396087:=0
def tw13504978397939878592:=0
def tw4308832039585218035:=0
def tw7860031339608983985:=0
def tw6746322252851867884:=0
def tw2065960447147223802:=0
def tw7324366848101481266:=0
def tw11149362854615293865:=0
def tw8192986684316413833:=0
def tw9033272487661680845:=0
def tw2378875823407572967:=0
def tw5426381074193651642:=0
def tw11591151042850086656:=0
def tw1749832155793245928:=0
def tw6733188677878301837:=0
def tw1184692415316475453:=0
def tw16465536224126364457:=0
def tw15273911513515524368:=0
def tw12179365837731261010:=0
def tw10204865828253839988:=0
def tw11000398346896676103:=0
def tw8708512338740780766:=0
def tw3452692252075066283:=0
def tw590940984774449627:=0
def tw7032616412087601030:=0
def tw14801280705039446248:=0
def tw1067977218940735917:=0
def tw10459223205549316650:=0
def tw16448416183309324481:=0
def tw921165080931620286:=0
def tw4519163309353705538:=0
def tw3827986033539860904:=0
def tw8249682094544113338:=0
def tw16308606466607912543:=0
def tw12819149656030625125:=0
def tw9881488303455299408:=0
def tw7232710538933311583:=0
def tw10084070856862769446:=0
def tw16274151610605076166:=0
def tw13083255658944820228:=0
def tw13016950030669355007:=0
def tw410665674824547137:=0
def tw11209661141796734071:=0
def tw12302000131812058780:=0
def tw5326475908811859219:=0
def tw12486014296472787211:=0
def tw9297771469255839342:=0
def tw4881611778910337438:=0
def tw2893270750519168867:=0
def tw3573767652351177110:=0
def tw92116133747480482:=0
def tw13708897121867140214:=0
def tw7864018032683613075:=0
def tw7890875356915647416:=0
def tw2678767008728424989:=0
def tw14575336998256339507:=0
def tw7123289444078191642:=0
def tw9915506252945965641:=0
def tw8685654318065286636:=0
def tw15839151261540387617:=0
def tw10452420891182456388:=0
def tw3452932890390455356:=0
def tw17548447307342704934:=0
def tw18255703739100367698:=0
def tw5359625202029271768:=0
def tw9514526432932634627:=0
def tw3578537334331717149:=0
def tw2417875257948193232:=0
def tw4361987923114662478:=0
def tw3716908314388479829:=0
def tw4321757174350360621:=0
def tw6392685934643416944:=0
def tw11064892939799252360:=0
def tw1528861894425676738:=0
def tw4559261428009023410:=0
def tw17456412047131280811:=0
def tw4781450061046698418:=0
def tw1726933505545262022:=0
def tw16295485604849205065:=0
def tw1452181318463689236:=0
def tw13231204827413214026:=0
def tw4049248184201458621:=0
def tw10750461109225347883:=0
def tw14500192271311804721:=0
def tw7448484011332373901:=0
def tw4958215482724581464:=0
def tw13319831807272938194:=0
def tw913761378723710326:=0
def tw17120741895617648310:=0
def tw15384312239388801562:=0
def tw4731880116988542894:=0
def tw16560294420920325257:=0
end PySem.W.Fast
local macro_rules|`(tactic|lia)=>`(tactic|as_aux_lemma=>lia (config:={}))
local macro_rules|`(tactic|walk_at"n")=>`(tactic|first|(rename_i h;cases h.1;rfl)|(rename_i h;rcases h with⟨_,h⟩;walk_at"n"))
local macro_rules|`(tactic|walk_at"l")=>`(tactic|first|(intro _ _ _ _ h;cases h;subst_vars;rfl)|(intro _ _ _ _ h;walk_at"n"))
local macro_rules|`(tactic|walk_at"s")=>`(tactic|exact⟨rfl,rfl,rfl,by decide+kernel,rfl,by decide+kernel,by decide+kernel⟩)
namespace L2
open PySem PySem.Spec PyProof.Rows
variable{us vs bw:List af}{u v:af}{h base:aK}{a b it C dx f:ae}{items:Array af}{P prog:aR}{w:aQ}{o:Obj}{t' j ep:Nat}{ch fp:List ae}{e c tg iter:Expr}{N ps:List Str}{A:b8}{E Q:af->aD->Prop}{s:aD}{ag:List (ae×Obj)}{pos p:Pos}{op:fD}{K:aw}{es:Array fg}{body:List c5}{kw:List (Str×af)}{mg:Str->Option af}{sc scope:dM}{qual:Str}{own:List (Str×Nat)}
abbrev bE:=Sum Int Str
def lS:bE->af->Bool
 |.inl k,v=>qj k v
 |.inr x,v=>Value.isStrOf x v
def ZJ(w:aQ):bE->Int
 |.inl k=>sj k
 |.inr x=>hashStr w x
def mX:∀{k:bE} {v:af},lS k v=ah->(∃i t,k=jV i/\v=z0 i t)\/(∃x t,k=uI x/\v=D_ x t)
 |.inl i,v,h=>by obtain⟨t,e⟩:=Value.isInt_shape (k:=i) (v:=v) h;exact .inl ⟨i,t,U,e⟩
 |.inr x,v,h=>by obtain⟨t,e⟩:=Value.isStrOf_shape (x:=x) (v:=v) h;exact .inr ⟨x,t,U,e⟩
def ZK(i:Int)(t:Tok):lS (.inl i) (.int i t)=ah:=by simp[lS,qj]
def ZL(x:Str)(t:Tok):lS (.inr x) (.str x t)=ah:=by simp[lS,Value.isStrOf]
def ZM(a b:Int):decide ((jV a:bE)=jV b)=(a==b):=by
 by_cases e:a=b
 .subst e;simp
 .have h:¬(jV a:bE)=jV b:=λq=>e (Sum.inl.inj q);rw[cE h];exact(fX.mpr e).symm
def ZP(a b:Str):decide ((uI a:bE)=uI b)=decide (a=b):=by
 by_cases e:a=b
 .subst e;simp
 .have h:¬(uI a:bE)=uI b:=λq=>e (Sum.inr.inj q);rw[cE h,cE e]
def ZN(a:Int)(b:Str):decide ((jV a:bE)=uI b)=aB:=cE (λq=>nomatch q)
def ZO(a:Str)(b:Int):decide ((uI a:bE)=jV b)=aB:=cE (λq=>nomatch q)
def fz(prog:aR)(w:aQ):PySem.KeyKind prog w bE where
 is:=lS
 hash:=ZJ w
 inj:=λv a b V X=>by
  rcases mX V with⟨i,t,rfl,rfl⟩|⟨x,t,rfl,rfl⟩
  .rcases mX X with⟨j,u,rfl,e⟩|⟨y,u,rfl,e⟩
   .injection e with Z _;rw[Z]
   .exact nomatch e
  .rcases mX X with⟨j,u,rfl,e⟩|⟨y,u,rfl,e⟩
   .exact nomatch e
   .injection e with Z _;rw[Z]
 byValue:=λk v h=>by rcases mX h with⟨i,t,rfl,rfl⟩|⟨x,t,rfl,rfl⟩<;>rfl
 pyHash:=λY h=>by
  rcases mX Y with⟨i,t,rfl,rfl⟩|⟨x,t,rfl,rfl⟩
  .exact wpAny_pyHash_int h
  .exact wpAny_pyHash_str h
 eqBool:=λW Y h=>by
  rcases mX W with⟨i,t,rfl,rfl⟩|⟨x,t,rfl,rfl⟩
  .rcases mX Y with⟨j,u,rfl,rfl⟩|⟨y,u,rfl,rfl⟩
   .rw [ZM]at h;exact wpAny_eqBool_int h
   .rw [ZN]at h;exact SU i t y u _ _ _ _ h
  .rcases mX Y with⟨j,u,rfl,rfl⟩|⟨y,u,rfl,rfl⟩
   .rw [ZO]at h;exact SV x t j u _ _ _ _ h
   .rw [ZP]at h;exact wpAny_eqBool_str h
 «strs»:=λk x t v h=>by
  rcases mX h with⟨i,u,rfl,e⟩|⟨y,u,rfl,e⟩
  .exact nomatch e
  .injection e with Z _;subst Z;cases v<;>rfl
def aax(prog:aR)(w:aQ)(i:Int)(t:Tok):(fz prog w).is (.inl i) (.int i t)=ah:=ZK i t
def aay(prog:aR)(w:aQ)(x:Str)(t:Tok):(fz prog w).is (.inr x) (.str x t)=ah:=ZL x t
inductive V where
 |bW|bl (b:Bool)|int (i:Int)|str (x:Str)|jb (b:Array UInt8)|A2 (b:UInt64)|ref (a:ae)|ty (n:String)
 deriving DecidableEq
def bL:V->af->Prop
 |.bW,u=>u=iA
 |.bl b,u=>u=r4 b
 |.int i,u=>∃t,u=z0 i t
 |.str x,u=>∃t,u=D_ x t
 |.jb b,u=>∃t,u=Value.bytes b t
 |.A2 b,u=>∃t,u=Value.float b t
 |.ref a,u=>u=cR a
 |.ty n,u=>u=kD n
abbrev bD:List V->List af->Prop:=Paired bL
theorem bD.length{xs:List V}{us:List af}(r:bD xs us):xs.length=us.length:=kC r
theorem bD.get:∀{xs:List V} {us:List af} {i:Nat} {x:V},bD xs us->xs[i]?=aa x->∃u,us[i]?=aa u/\bL x u
 |_,_,_,_,.nil,e=>by simp at e
 |_,_,0,_,.cons r _,e=>by simp at e;subst e;exact⟨_,U,r⟩
 |_,_,i+1,x,.cons _ t,e=>by obtain⟨u,Y,Z⟩:=bD.get (i:=i) (x:=x) t ‹e›;exact⟨u,‹Y›,Z⟩
theorem bD.set{x:V}{u:af}(r:bL x u):∀{xs:List V} {us:List af} (i:Nat),bD xs us->bD (xs.set i x) (us.set i u)
 |_,_,_,.nil=>.nil
 |_,_,0,.cons _ t=>.cons r t
 |_,_,i+1,.cons q t=>.cons q (bD.set r i t)
theorem bD.append:∀{xs ys:List V} {us Z:List af},bD xs us->bD ys Z->bD (xs++ys) (us++Z)
 |_,_,_,_,.nil,s=>s
 |_,_,_,_,.cons r t,s=>.cons r (bD.append t s)
theorem bD.take:∀{xs:List V} {us:List af} (n:Nat),bD xs us->bD (xs.take n) (us.take n)
 |_,_,0,_=>.nil
 |_,_,_+1,.nil=>.nil
 |_,_,n+1,.cons r t=>.cons r (bD.take n t)
theorem bD.drop:∀{xs:List V} {us:List af} (n:Nat),bD xs us->bD (xs.drop n) (us.drop n)
 |_,_,0,r=>r
 |_,_,_+1,.nil=>.nil
 |_,_,n+1,.cons _ t=>bD.drop n t
def iC:Option V->Option af->Prop
 |some v,aa u=>bL v u
 |none,aj=>True
 |_,_=>False
def KV{Z:Type}:List (Z×V)->List (Z×af)->Prop:=Paired λ(p:Z×V) (q:Z×af)=>p.1=q.1/\bL p.2 q.2
def kV:bE->V
 |.inl i=>.int i
 |.inr x=>.str x
def nj(h:aK)(a:ae)(items:Array af):Prop:=∃o,h.get? a=aa o/\o.cls=.type "tuple"/\∃n,o.data=.seq items n/\o.dict=aj
def nj.Gh(x:nj h a items):gi h a items:=let⟨o,e,c,n,d,_⟩:=x;⟨o,e,c,n,d⟩
theorem nj.lt{h:aK}{a:ae}{items:Array af}(x:nj h a items):a<h.objs.size:=x.Gh.lt
def nj.new(h:aK)(items:Array af):nj (h.push {cls:=.type "tuple",data:=.seq items}) h.objs.size items:=⟨_,dm _ U,U,_,U,U⟩
inductive HO where
 |aC (xs:List V)
 |bh (xs:List V)
 |dK (kvs:List (bE×V))|dT (kvs:List (List bE×V))
 |set (S:Int->Bool) (n:Nat)
 |ins (C dx:ae) (fs:List (Str×V))
 |own (x:ae)
 |xd (fs:List (Str×V))
 |GS (f x:ae)
 |HV (lo hi:Int)
 |cJ (o:Obj) (u:HO)
 |h9 (ps:Array af)
 |ext (φ:aK->Prop)
abbrev Hp:=ae->Option HO
def aM(H:Hp)(a:ae)(o:HO):Hp:=λb=>if b=a then aa o else H b
def aJ{H:Hp}{o:HO}:aM H a o a=aa o:=by unfold aM;rw[aA U]
def a_{H:Hp}{o:HO}(h:b≠a):aM H a o b=H b:=by unfold aM;rw[ay h]
def fO{H:Hp}{o u:HO}:aM (aM H a o) a u=aM H a u:=by funext b;unfold aM;split<;>rfl
def aaT{H:Hp}{o u:HO}(h:H a=aa o)(h':H b=aa u)(d:o≠u):a≠b:=by intro e;subst e;rw[h]at h';exact d (dX h')
def f7{H:Hp}{o:HO}(h:H a=aa o)(h':H b=aj):a≠b:=by intro e;subst e;rw[h]at h';cases h'
section
variable(P:aR)(w:aQ)
def eC(H:Hp)(h:aK)(a:ae):HO->Prop
 |.aC xs=>xs.length<=aS/\∃(bw:List af) (n:Nat),bD xs bw/\h.get? a=aa {cls:=.type "list",data:=.seq bw.toArray n}
 |.bh xs=>xs.length<=aS/\∃bw:List af,bD xs bw/\nj h a bw.toArray
 |.dK kvs=>kvs.length<=aS/\(a==kE)=aB/\∃vs,KV kvs vs/\h.DictOf (fz P w) a vs
 |.dT kvs=>kvs.length<=aS/\(a==kE)=aB/\∃xs:List (List bE×ae×af),
  Paired (λ(p:List bE×V) (q:List bE×ae×af)=>p.1=q.1/\H q.2.1=aa (.bh (p.1.map kV))/\bL p.2 q.2.2) kvs xs/\
  ∃o es ep,h.get? a=aa o/\o.ExactDict/\o.data=.dict es ep/\es.toList=xs.map (entryOfKey (xw (fz P w)))/\(xs.map (·.1)).Nodup
 |.set S n=>h.SetOf (i8 P w) a S n
 |.ins C dx fs=>H dx=aa (.own a)/\fs.length<=1000/\dx≠a/\h.get? a=aa (r9 C dx)/\
  ∃Z,h.Ns1 dx Z/\(∀f,iC (fs.lookup f) (Z f))/\KN Z (fs.map (·.1))
 |.own _=>∃o,h.get? a=aa o
 |.xd fs=>∃Z,h.Ns1 a Z/\∀f,iC (fs.lookup f) (Z f)
 |.HV R Q=>∃t u v,h.get? a=aa {cls:=.type "range",data:=.fields #[.int R t,.int Q u,.int 1 v]}
 |.cJ o u=>h.get? a=aa o/\eC H h a u
 |.h9 ps=>h.get? a=aa {cls:=.none,data:=.fields ps}
 |.GS f x=>h.get? a=aa (KH (.ref f) (.ref x))
 |.ext Y=>Y h/\(∃o,h.get? a=aa o)/\∀T X:aK,Y T->(∀o,T.get? a=aa o->X.get? a=aa o)->Y X
def dk(H:Hp)(h:aK):Prop:=∀a o,H a=aa o->eC P w H h a o
end
section
variable{P:aR}{w:aQ}{H H':Hp}{h h':aK}{a:ae}{o:HO}
theorem eC.lt(x:eC P w H h a o):a<h.objs.size:=by
 cases o with
 |aC xs=>obtain⟨_,_,_,_,e⟩:=x;exact cI e
 |bh xs=>obtain⟨_,_,_,p⟩:=x;exact p.lt
 |dK kvs=>obtain⟨_,_,_,_,o,_,_,e,_⟩:=x;exact cI e
 |dT kvs=>obtain⟨_,_,_,_,o,_,_,e,_⟩:=x;exact cI e
 |set S n=>obtain⟨o,_,_,_,e,_⟩:=x;exact cI e
 |ins C dx fs=>obtain⟨_,_,_,e,_⟩:=x;exact cI e
 |own y=>obtain⟨_,e⟩:=x;exact cI e
 |xd fs=>obtain⟨_,⟨_,_,_,e,_⟩,_⟩:=x;exact cI e
 |HV Y X=>obtain⟨_,_,_,e⟩:=x;exact cI e
 |cJ ob u=>obtain⟨e,_⟩:=x;exact cI e
 |h9 ps=>exact cI (show h.get? a=aa _ from x)
 |GS f y=>exact cI (show h.get? a=aa _ from x)
 |ext Z=>obtain⟨_,⟨_,e⟩,_⟩:=x;exact cI e
theorem Paired.BJ{W X:Type}{F G:W->X->Prop}:∀{Y:List W} {Z:List X},Paired F Y Z->(∀a b,F a b->G a b)->Paired G Y Z
 |_,_,.nil,_=>.nil
 |_,_,.cons r t,f=>.cons (f _ _ r) (Paired.BJ t f)
def Paired.By{W X:Type}{F G:W->X->Prop}(f:∀a b,F a b->G a b){Y:List W}{Z:List X}(r:Paired F Y Z):Paired G Y Z:=Paired.BJ r f
def eC.ow(x:eC P w H h a o)(k:∀b u,(b=a\/H b=aa (.own a))->h.get? b=aa u->h'.get? b=aa u)(R:∀b,H b=aa (.own a)->H' b=aa (.own a))(T:∀b xs,H b=aa (.bh xs)->H' b=aa (.bh xs)):eC P w H' h' a o:=by
 induction o with
 |aC xs=>obtain⟨z,Z,n,r,e⟩:=x;exact⟨z,Z,n,r,k _ _ (.inl U) e⟩
 |bh xs=>obtain⟨z,Z,r,ob,e,c⟩:=x;exact⟨z,Z,r,ob,k _ _ (.inl U) e,c⟩
 |dK kvs=>obtain⟨z,y,X,r,ob,es,ep,e,c⟩:=x;exact⟨z,y,X,r,ob,es,ep,k _ _ (.inl U) e,c⟩
 |dT kvs=>
  obtain⟨z,y,xs,r,ob,es,ep,e,c⟩:=x;exact⟨z,y,xs,Paired.BJ r λp q z=>⟨z.1,T _ _ z.2.1,z.2.2⟩,ob,es,ep,k _ _ (.inl U) e,c⟩
 |set S n=>obtain⟨ob,es,ep,t,e,c⟩:=x;exact⟨ob,es,ep,t,k _ _ (.inl U) e,c⟩
 |ins C dx fs=>
  obtain⟨d,z,ne,e,Y,⟨od,es,ep,Q,c⟩,r⟩:=x;exact⟨R _ d,z,ne,k _ _ (.inl U) e,Y,⟨od,es,ep,k _ _ (.inr d) Q,c⟩,r⟩
 |own y=>obtain⟨ob,e⟩:=x;exact⟨ob,k _ _ (.inl U) e⟩
 |xd fs=>obtain⟨Y,⟨od,es,ep,e,c⟩,r⟩:=x;exact⟨Y,⟨od,es,ep,k _ _ (.inl U) e,c⟩,r⟩
 |HV N M=>obtain⟨t,u,v,e⟩:=x;exact⟨t,u,v,k _ _ (.inl U) e⟩
 |cJ ob u V=>obtain⟨e,q⟩:=x;exact⟨k _ _ (.inl U) e,V q⟩
 |h9 ps=>
  have e:h.get? a=aa {cls:=.none,data:=.fields ps}:=x;show h'.get? a=aa {cls:=.none,data:=.fields ps};exact k a _ (.inl U) e
 |GS f y=>
  have e:h.get? a=aa (KH (.ref f) (.ref y)):=x;show h'.get? a=aa (KH (.ref f) (.ref y));exact k a _ (.inl U) e
 |ext O=>obtain⟨p,⟨o,e⟩,st⟩:=x;exact⟨st _ _ p λo q=>k _ _ (.inl U) q,⟨o,k _ _ (.inl U) e⟩,st⟩
theorem dk.lt(x:dk P w H h)(e:H a=aa o):a<h.objs.size:=(x a o e).lt
def dk.fresh(x:dk P w H h)(e:h.objs.size<=a):H a=aj:=by
 cases q:H a with
 |none=>rfl
 |some u=>exact bq (g8 (x.lt q) e) (jP _)
def dk.eE(x:dk P w H h)(k:∀b u,h.get? b=aa u->h'.get? b=aa u):dk P w H h':=λa o e=>
 (x a o e).ow (λb u _ q=>k b u q) (λ_ q=>q) λ_ _ q=>q
def dk.laid(x:dk P w H h)(k:∀b u,h.get? b=aa u->h'.get? b=aa u)(X:h.objs.size<=a)(new:eC P w (aM H a o) h' a o):dk P w (aM H a o) h':=λb u e=>by
 have Z:=x.fresh X;by_cases Y:b=a
 .subst Y;rw[aJ]at e;cases e;exact new
 .rw [a_ Y]at e;exact(x b u e).ow (λc v _ q=>k c v q) (λc q=>by rw[a_ (f7 q Z)];exact q) λc xs q=>by rw[a_ (f7 q Z)];exact q
end
def Rd(H:Hp)(a:ae)(u:HO):Prop:=H a=aa u\/∃o,H a=aa (.cJ o u)
def Rd.ok{H:Hp}{u:HO}(r:Rd H a u)(x:dk P w H h):eC P w H h a u:=by
 rcases r with r|⟨o,r⟩
 .exact x a u r
 .obtain ⟨_,q⟩:=x a _ r;exact q
def uh:Option HO->Prop
 |some (.aC _)=>True
 |some (.dK _)=>True
 |some (.dT _)=>True
 |some (.set _ _)=>True
 |some (.ins _ _ _)=>True
 |some (.ext _)=>True
 |_=>False
section
variable{P:aR}{w:aQ}{H:Hp}{h h':aK}{x e:ae}{o':HO}
def dk.oB(ok:dk P w H h)(W:uh (H x))(he:e=x\/H e=aa (.own x))(k:∀b u,b≠e->h.get? b=aa u->h'.get? b=aa u)(S:∃u,h'.get? e=aa u)(new:eC P w (aM H x o') h' x o'):dk P w (aM H x o') h':=λb u q=>by
 have Y:∀c y,H c=aa (.own y)->c≠x:=λc y r z=>by subst z;rw[r]at W;exact W
 have X:∀c xs,H c=aa (.bh xs)->c≠x:=λc xs r z=>by subst z;rw[r]at W;exact W
 by_cases T:b=x
 .subst T;rw[aJ]at q;cases q;exact new
 .rw [a_ T]at q;by_cases Z:b=e
  .have R:H b=aa (.own x):=by
    rcases he with z|z
    .exact bq (Z.trans z) T
    .rw [Z];exact z
   rw[q]at R;cases R;obtain⟨v,Q⟩:=S;exact⟨v,by rw[Z];exact Q⟩
  .refine (ok b u q).ow (λc v V r=>k c v ?_ r) (λc r=>by rw[a_ (Y c b r)];exact r) λc xs r=>by rw[a_ (X c xs r)];exact r
   rcases V with rfl|V
   .exact Z
   .rintro rfl
    rcases he with z|z
    .exact Y c b V z
    .rw [V]at z;cases z;exact T U
end
structure Un (fs ex:List ae) (H H':Hp) (h h':aK):Prop where
 keep:∀b o,h.get? b=aa o->H b=aj->b∉fs->b∉ex->h'.get? b=aa o
 slot:∀b o,h.get? b=aa o->H b=aj->b∈fs->b∉ex->∃sl,h'.get? b=aa {o with slots:=sl}
 free:∀b o,h.get? b=aa o->H b=aj->b∉ex->H' b=aj
 there:∀b o,h.get? b=aa o->b∉ex->∃o',h'.get? b=aa o'
 rn:∀b xs,H b=aa (.bh xs)->H' b=aa (.bh xs)
 pq:∀b o u,H b=aa (.cJ o u)->H' b=aa (.cJ o u)
 pY:∀b ps,H b=aa (.h9 ps)->∃more,H' b=aa (.h9 (ps++more))
section
variable{fs ex:List ae}{H H1:Hp}{h h1 h':aK}{a x e:ae}{o:HO}
def Un.any(u:Un fs ex H H1 h h1){ob:Obj}(q:h.get? b=aa ob)(n:H b=aj)(Z:b∉ex):∃X,h1.get? b=aa {ob with slots:=X}:=by
 by_cases Y:b∈fs
 .exact u.slot b ob q n Y Z
 .exact ⟨ob.slots,u.keep b ob q n Y Z⟩
def Un.eE(k:∀b u,h.get? b=aa u->h'.get? b=aa u):Un fs ex H H h h':=
 ⟨λb ob q _ _ _=>k b ob q,λb ob q _ _ _=>⟨ob.slots,k b ob q⟩,λ_ _ _ n _=>n,λb ob q _=>⟨ob,k b ob q⟩,λ_ _ q=>q,λ_ _ _ q=>q,λ_ ps q=>⟨#[],by rw[q];simp⟩⟩
def Un.refl:Un fs ex H H h h:=Un.eE λ_ _ q=>q
def Un.laid(k:∀b u,h.get? b=aa u->h'.get? b=aa u)(Y:h.objs.size<=a)(Z:H a=aj):Un fs ex H (aM H a o) h h' where
 keep:=λb u q _ _ _=>k b u q
 slot:=λb u q _ _ _=>⟨u.slots,k b u q⟩
 free:=λb u q n _=>by rw[a_ (c8 (g8 (cI q) Y))];exact n
 there:=λb u q _=>⟨u,k b u q⟩
 rn:=λb xs q=>by rw[a_ (f7 q Z)];exact q
 pq:=λb u xs q=>by rw[a_ (f7 q Z)];exact q
 pY:=λb ps q=>⟨#[],by rw[a_ (f7 q Z),q];simp⟩
def Un.oB(Y:uh (H x))(he:e=x\/H e=aa (.own x))(k:∀b u,b≠e->h.get? b=aa u->h'.get? b=aa u)(W:∃u,h'.get? e=aa u):Un fs ex H (aM H x o) h h':=by
 have V:∀b,H b=aj->b≠x:=λb n z=>by subst z;rw[n]at Y;exact Y
 have T:∀b,H b=aj->b≠e:=λb n z=>by
  subst z;rcases he with r|r
  .exact V b n r
  .rw [n]at r;cases r
 have X:∀b u,H b=aa u->¬uh (aa u)->b≠x:=λb u q S z=>by subst z;rw[q]at Y;exact S Y
 refine⟨λb u q n _ _=>k b u (T b n) q,λb u q n _ _=>⟨u.slots,k b u (T b n) q⟩,λb u q n _=>by rw[a_ (V b n)];exact n,λb u q _=>?_,
  λb xs q=>by rw[a_ (X b _ q λz=>z)];exact q,λb u xs q=>by rw[a_ (X b _ q λz=>z)];exact q,λb ps q=>⟨#[],by rw[a_ (X b _ q λz=>z),q];simp⟩⟩
 by_cases Z:b=e
 .subst Z;exact W
 .exact ⟨u,k b u Z q⟩
end
noncomputable def C8(h:aK)(H:Hp):List ae:=(uf h.objs.size).filter λa=>(H a).isSome
def nY(h:aK)(H:Hp):aK:=PySem.W.hideAll h (C8 h H)
def X4(h:aK)(H:Hp):(nY h H).objs.size=h.objs.size:=PySem.W.hideAll_size _ _
def X2{H:Hp}(e:h.get? b=aa o)(n:H b=aj):(nY h H).get? b=aa o:=
 PySem.W.hideAll_get _ e λZ=>by have q:(H b).isSome=ah:=(d4.mp Z).2;rw[n]at q;simp at q
def aba{H:Hp}(e:(nY h H).get? b=aa o):h.get? b=aa o/\H b=aj:=by
 have Z:h.get? b=aa o:=PySem.W.of_hideAll (C8 h H) e;refine⟨Z,?_⟩;cases q:H b with
 |none=>rfl
 |some x=>
  have Y:b∈C8 h H:=d4.mpr ⟨ue.mpr (cI Z),by simp[q]⟩;have z:(nY h H).get? b=aj:=PySem.W.hideAll_none (C8 h H) Y;rw[z]at e;cases e
structure zL (K:aw) (mg:Str->Option af) (base:aK):Prop where
 iI:K.In base
 mS:base.Ns fF mg
 uP:∃mb,base.Ns uy mb/\∀x:Str,x≠"__name__"->mb x=ux x
 nolimit:base.NoLimit
structure Cx where
 prog:aR
 w:aQ
 K:aw
 mg:Str->Option af
 base:aK
 A:b8
 N:List Str
 hX:aD
 wK:Hp
 env:Env
 outer:List Env
 stack:List Env
 ex:List ae
 fn:Str->Bool
 ij:Bool
 pn:List (ae×Obj)
 xe:af->aD->Prop
def mR(l:List Env):List ae:=l.filterMap (·.frame)
abbrev Cx.fs(X:Cx):List ae:=mR X.outer
def uM(sc:dM)(x:Str):Prop:=sc.names.lookup x=aa .local\/sc.names.lookup x=aa .cell\/sc.names.lookup x=aa .free
def ug(sc:dM)(x:Str):Prop:=sc.names.lookup x=aa .local\/sc.names.lookup x=aa .cell
def R_(env:Env)(h:aK)(m:Str->Option af)(x:Str)(u:af):Prop:=
 (env.kindOf x=aa .local/\m x=aa u)\/((env.kindOf x=aa .cell\/env.kindOf x=aa .free)/\∃c,env.cells.lookup x=aa c/\h.IsCell c (aa u))
structure Cx.Ok (X:Cx):Prop where
 mod:zL X.K X.mg X.base
 kind:X.env.scope.kind=.function
 mS:X.env.globals=fF
 uP:X.env.builtins=uy
 above:X.hX.heap.objs.size<=X.env.locals
 inj:∀x y c,X.env.cells.lookup x=aa c->X.env.cells.lookup y=aa c->x=y
 has:∀x,(X.env.kindOf x=aa .cell\/X.env.kindOf x=aa .free)->∃c,X.env.cells.lookup x=aa c
 xM:∀x c,X.fn x=ah->X.env.cells.lookup x=aa c->X.hX.heap.objs.size<=c
 hd:X.ij=ah->X.A.handled=aj
 frames:X.A.frames=aa X.stack
 CT:X.stack=X.outer\/(X.stack=X.env::X.outer/\X.env.frame=aa X.env.locals)
 AX:∀b∈X.ex,b≠X.env.locals/\∀x c,X.env.cells.lookup x=aa c->c≠b
 bs:∀b o,X.base.get? b=aa o->X.hX.heap.get? b=aa o/\X.wK b=aj
 nQ:X.base.objs.size<=X.hX.heap.objs.size
 yA:∀b o,X.base.get? b=aa o->b∉X.ex
 xV:∀b∈X.ex,b∉X.fs
 lM:X.hX.heap.FunFrames X.base X.outer
 sS:∀b∈X.fs,X.wK b=aj
structure aG (X:Cx) (ag:List (ae×Obj)) (σ:List (Option V)) (H:Hp) (s:aD):Prop where
 ok:X.Ok
 os:s.os=X.hX.os
 gm:uk s.gens
 base:Un X.fs X.ex X.wK H X.hX.heap s.heap
 iX:∃m,s.heap.Ns X.env.locals m/\∀(i:Nat) (x:Str) (v:V),X.N[i]?=aa x->σ[i]?=aa (aa v)->uM X.env.scope x->∃u,bL v u/\R_ X.env s.heap m x u
 cell:∀x c,X.env.cells.lookup x=aa c->∃v,s.heap.IsCell c v
 free:H X.env.locals=aj
 lL:∀x c,X.env.cells.lookup x=aa c->H c=aj
 j_:∀p∈X.pn++ag,s.heap.get? p.1=aa p.2/\H p.1=aj/\p.1≠X.env.locals/\p.1∉X.fs/\∀v,p.2.data≠.cell v
 aW:dk X.prog X.w H s.heap
 bG:σ.length=X.N.length
section
variable{X:Cx}{ag:List (ae×Obj)}{σ:List (Option V)}{H H':Hp}{s:aD}{h':aK}
def Cx.Ok.aaY(ok:X.Ok)(e:X.base.get? b=aa o):b∉X.fs:=λZ=>by have:=(ok.lM.mem Z).1;rw[e]at this;cases this
theorem aG.bs(I:aG X ag σ H s):∀b o,X.base.get? b=aa o->s.heap.get? b=aa o/\H b=aj:=λb o e=>
 ⟨I.base.keep b o (I.ok.bs b o e).1 (I.ok.bs b o e).2 (I.ok.aaY e) (I.ok.yA b o e),I.base.free b o (I.ok.bs b o e).1 (I.ok.bs b o e).2 (I.ok.yA b o e)⟩
def aG.bk(I:aG X ag σ H s):∀b o,X.base.get? b=aa o->s.heap.get? b=aa o:=λb o e=>(I.bs b o e).1
theorem aG.mod(I:aG X ag σ H s):zL X.K X.mg X.base:=I.ok.mod
def aG.ip(I:aG X ag σ H s):X.K.In s.heap:=I.ok.mod.iI.keeps I.bk
def aG.fr(I:aG X ag σ H s):∃m,Fr X.base X.env.locals s.heap m:=
 let⟨m,Z,_⟩:=I.iX
 ⟨m,Z,I.bk,c7 I.ok.nQ I.ok.above⟩
theorem aG.lt(I:aG X ag σ H s):X.env.locals<s.heap.objs.size:=let⟨_,Z,_⟩:=I.iX;Z.lt
def aG.sz(I:aG X ag σ H s):X.hX.heap.objs.size<=s.heap.objs.size:=c7 I.ok.above (jO I.lt)
def aG.aa0(I:aG X ag σ H s)(h:s.heap.objs.size<=a):a∉X.fs:=λY=>by obtain⟨_,o,Z,_⟩:=I.ok.lM.mem Y;exact bq (g8 (cI Z) (c7 I.sz h)) (jP _)
def aG.sN(I:aG X ag σ H s):∀x c,X.env.cells.lookup x=aa c->c≠X.env.locals:=λx c e z=>by obtain⟨v,o,W,hd⟩:=I.cell x c e;obtain⟨m,⟨V,es,ep,Z,Y,_⟩,_⟩:=I.iX;rw[z,Z]at W;cases W;rw[Y]at hd;cases hd
theorem aG.lM(I:aG X ag σ H s):s.heap.FunFrames X.base X.outer:=by
 have all:∀(l:List Env),(∀b∈mR l,b∈X.fs)->X.hX.heap.FunFrames X.base l->s.heap.FunFrames X.base l:=by
  intro l
  induction l with
  |nil=>intro _ _;trivial
  |cons env r V=>
   intro hs Q;obtain⟨hk,⟨L,o,Z,R,S,hd⟩,T⟩:=Q;have W:L∈X.fs:=hs L (by unfold mR;rw[DA,Z];exact cy);obtain⟨P,e⟩:=I.base.slot L o S (I.ok.sS L W) W λz=>I.ok.xV L z W;exact⟨hk,⟨L,_,Z,R,e,hd⟩,V (λb Y=>hs b (by unfold mR;rw[DA,Z];exact cj _ Y)) T⟩
 exact all X.outer (λ_ Y=>Y) I.ok.lM
theorem aG.stack(I:aG X ag σ H s):s.heap.FunFrames X.base X.stack:=by
 rcases I.ok.CT with e|⟨e,Y⟩
 .rw [e];exact I.lM
 .rw [e];obtain⟨m,Z,_⟩:=I.iX;refine .cons (by rw[I.ok.kind];decide) Y Z ?_ I.lM;exact Heap.get?_none_of_le (c7 I.ok.nQ I.ok.above)
def aG.IT(I:aG X ag σ H s):∀b∈mR X.stack,b∈X.env.locals::X.fs:=λb Z=>by
 rcases I.ok.CT with e|⟨e,Y⟩
 .rw [e]at Z;exact cj _ Z
 .rw [e]at Z;unfold mR at Z;rw[DA,Y]at Z;exact Z
def aG.QL(I:aG X ag σ H s):∀b∈mR X.stack,H b=aj:=λb Z=>by
 rcases bJ.mp (I.IT b Z)with e|Z
 .rw [e];exact I.free
 .obtain ⟨_,o,Y,_⟩:=I.ok.lM.mem Z;exact I.base.free b o Y (I.ok.sS b Z) λz=>I.ok.xV b z Z
def aG.step{g':Array GenState}{d':Drawn}(I:aG X ag σ H s)(W:∀b∈ch,(b∈X.ex\/X.hX.heap.objs.size<=b)/\b≠X.env.locals/\(∀x c,X.env.cells.lookup x=aa c->c≠b)/\∀p∈X.pn++ag,p.1≠b)(keep:∀b o,b≠X.env.locals->b∉X.fs->b∉ch->s.heap.get? b=aa o->H b=aj->h'.get? b=aa o)(slot:∀b o,b≠X.env.locals->b∈X.fs->b∉ch->s.heap.get? b=aa o->H b=aj->∃L,h'.get? b=aa {o with slots:=L})(free:∀b o,b∉ch->s.heap.get? b=aa o->H b=aj->H' b=aj)(there:∀b o,b∉ch->s.heap.get? b=aa o->∃P,h'.get? b=aa P)(rn:∀b xs,H b=aa (.bh xs)->H' b=aa (.bh xs))(pq:∀b o u,H b=aa (.cJ o u)->H' b=aa (.cJ o u))(pY:∀b ps,H b=aa (.h9 ps)->∃more,H' b=aa (.h9 (ps++more)))(ns:∀m,s.heap.Ns X.env.locals m->h'.Ns X.env.locals m)(aW:dk X.prog X.w H' h')(B:uk g'):aG X ag σ H' {s with heap:=h',gens:=g',drawn:=d',toks:=t'}:=by
 have O:∀b o,X.hX.heap.get? b=aa o->b≠X.env.locals:=λb o e=>c8 (g8 (cI e) I.ok.above);have T:∀b o,X.hX.heap.get? b=aa o->b∉X.ex->b∉ch:=λb o e Z R=>by
  rcases(W b R).1 with z|z
  .exact Z z
  .exact bq (g8 (cI e) z) (jP _)
 have V:∀x c,X.env.cells.lookup x=aa c->∀v,s.heap.IsCell c v->h'.IsCell c v:=λx c e v ⟨o,Q,hd⟩=>by
  have Y:c∉ch:=λz=>(W c z).2.2.1 x c e U;by_cases G:c∈X.fs
  .obtain ⟨L,q⟩:=slot c o (I.sN x c e) G Y Q (I.lL x c e);exact⟨_,q,hd⟩
  .exact ⟨o,keep c o (I.sN x c e) G Y Q (I.lL x c e),hd⟩
 refine⟨I.ok,I.os,B,⟨λb o e n R Z=>?_,λb o e n R Z=>?_,λb o e n Z=>?_,λb o e Z=>?_,λb xs e=>rn b xs (I.base.rn b xs e),λb o xs e=>pq b o xs (I.base.pq b o xs e),λb ps e=>?_⟩,?_,λx c e=>?_,?_,λx c e=>?_,λp J=>?_,aW,I.bG⟩
 .exact keep b o (O b o e) R (T b o e Z) (I.base.keep b o e n R Z) (I.base.free b o e n Z)
 .obtain ⟨L,S⟩:=I.base.slot b o e n R Z;obtain⟨M,N⟩:=slot b _ (O b o e) R (T b o e Z) S (I.base.free b o e n Z);exact⟨M,N⟩
 .obtain ⟨P,S⟩:=I.base.there b o e Z;exact free b P (T b o e Z) S (I.base.free b o e n Z)
 .obtain ⟨P,S⟩:=I.base.there b o e Z;exact there b P (T b o e Z) S
 .obtain ⟨E,S⟩:=I.base.pY b ps e;obtain⟨F,N⟩:=pY b _ S;exact⟨E++F,by rw[N,Array.append_assoc]⟩
 .obtain ⟨m,D,C⟩:=I.iX;refine⟨m,ns m D,λi x v S N A=>?_⟩;obtain⟨u,r,l⟩:=C i x v S N A;refine⟨u,r,?_⟩;rcases l with l|⟨k,c,e,z⟩
  .exact .inl l
  .exact .inr ⟨k,c,e,V x c e _ z⟩
 .obtain ⟨v,z⟩:=I.cell x c e;exact⟨v,V x c e v z⟩
 .obtain ⟨m,⟨o,_,_,Q,_⟩,_⟩:=I.iX;exact free _ o (λz=>(W _ z).2.1 U) Q I.free
 .obtain ⟨v,o,Q,hd⟩:=I.cell x c e;exact free c o (λz=>(W c z).2.2.1 x c e U) Q (I.lL x c e)
 .obtain ⟨e,n,ne,K,d⟩:=I.j_ p J;have Y:p.1∉ch:=λz=>(W p.1 z).2.2.2 p J U;exact⟨keep p.1 p.2 ne K Y e n,free p.1 p.2 Y e n,ne,K,d⟩
def aG.un(I:aG X ag σ H s)(u:Un X.fs [] H H' s.heap h')(aW:dk X.prog X.w H' h'):aG X ag σ H' {s with heap:=h',toks:=t'}:=by
 obtain⟨m,⟨o,es,ep,T,r⟩,_⟩:=id I.iX;obtain⟨P,Q⟩:=u.any T I.free (by simp);exact I.step (g':=s.gens) (d':=s.drawn) (ch:=[]) (λ_ z=>nomatch z) (λb o _ Y _ e n=>u.keep b o e n Y (by simp)) (λb o _ Y _ e n=>u.slot b o e n Y (by simp)) (λb o _ e n=>u.free b o e n (by simp)) (λb o _ e=>u.there b o e (by simp)) u.rn u.pq u.pY (λN R=>by obtain⟨O,W,V,Z,S⟩:=R;rw[T]at Z;cases Z;exact⟨_,W,V,Q,S⟩) aW I.gm
def aG.call{g':Array GenState}{d':Drawn}(I:aG X ag σ H s)(u:Un (mR X.stack) ch H H' s.heap h')(aW:dk X.prog X.w H' h')(O:uk g')(W:∀b∈ch,(b∈X.ex\/X.hX.heap.objs.size<=b)/\b≠X.env.locals/\(∀x c,X.env.cells.lookup x=aa c->c≠b)/\∀p∈X.pn++ag,p.1≠b):aG X ag σ H' {s with heap:=h',gens:=g',drawn:=d',toks:=t'}:=by
 obtain⟨m,⟨o,es,ep,R,r⟩,_⟩:=id I.iX;obtain⟨M,V⟩:=u.any R I.free λz=>(W _ z).2.1 U;exact I.step (ch:=ch) W (λb o V N Z e n=>u.keep b o e n (λz=>(bJ.mp (I.IT b z)).elim V N) Z) (λb o _ _ Z e n=>u.any e n Z) (λb o Z e n=>u.free b o e n Z) (λb o Z e=>u.there b o e Z) u.rn u.pq u.pY (λK P=>by obtain⟨L,T,S,Y,Q⟩:=P;rw[R]at Y;cases Y;exact⟨_,T,S,V,Q⟩) aW O
def aG.jl(I:aG X ag σ H s)(k:∀b o,b≠it->s.heap.get? b=aa o->h'.get? b=aa o)(T:H it=aj)(W:it≠X.env.locals)(O:it∈X.ex\/X.hX.heap.objs.size<=it)(P:∀x c,X.env.cells.lookup x=aa c->c≠it)(Q:∀p∈X.pn++ag,p.1≠it):aG X ag σ H {s with heap:=h',toks:=t'}:=by
 have Y:∀b u,H b=aa u->b≠it:=λb u e z=>by rw[z,T]at e;cases e
 refine I.step (g':=s.gens) (d':=s.drawn) (ch:=[it]) (λb R=>?_) (λb o _ _ Z e _=>k b o (λz=>Z (by simp[z])) e) (λb o _ _ Z e _=>⟨o.slots,k b o (λz=>Z (by simp[z])) e⟩) (λ_ _ _ _ n=>n)
  (λb o Z e=>⟨o,k b o (λz=>Z (by simp[z])) e⟩) (λ_ _ e=>e) (λ_ _ _ e=>e) (λb ps e=>⟨#[],by rw[e];simp⟩) (λm S=>?_) (λb u e=>?_) I.gm
 .have e:b=it:=‹R›
  subst e;exact⟨O,W,P,Q⟩
 .obtain ⟨o,es,ep,V,r⟩:=S;exact⟨o,es,ep,k _ o (cU W) V,r⟩
 .refine (I.aW b u e).ow (λc v Z q=>k c v ?_ q) (λ_ q=>q) λ_ _ q=>q;rcases Z with z|z
  .rw [z];exact Y b u e
  .exact Y c _ z
def aG.gH(I:aG X ag σ H s)(t:Nat):aG X ag σ H {s with toks:=t}:=I.un (h':=s.heap) (t':=t) Un.refl I.aW
theorem aG.eE{t':Nat}(I:aG X ag σ H s)(k:∀b u,s.heap.get? b=aa u->h'.get? b=aa u):aG X ag σ H {s with heap:=h',toks:=t'}:=I.un (Un.eE k) (I.aW.eE k)
theorem aG.laid{a:ae}{o:HO}{t':Nat}(I:aG X ag σ H s)(k:∀b u,s.heap.get? b=aa u->h'.get? b=aa u)(Z:s.heap.objs.size<=a)(new:eC X.prog X.w (aM H a o) h' a o):aG X ag σ (aM H a o) {s with heap:=h',toks:=t'}:=I.un (Un.laid k Z (I.aW.fresh Z)) (I.aW.laid k Z new)
theorem aG.oB{x e:ae}{o:HO}{t':Nat}(I:aG X ag σ H s)(Y:uh (H x))(he:e=x\/H e=aa (.own x))(k:∀b u,b≠e->s.heap.get? b=aa u->h'.get? b=aa u)(Z:∃u,h'.get? e=aa u)(new:eC X.prog X.w (aM H x o) h' x o):aG X ag σ (aM H x o) {s with heap:=h',toks:=t'}:=I.un (Un.oB Y he k Z) (I.aW.oB Y he k Z new)
def aG.ahg{Z:List (Option V)}(I:aG X ag σ H s)(T:Z.length=σ.length)(w:∀(i:Nat) v,Z[i]?=aa (aa v)->σ[i]?=aa (aa v)):aG X ag Z H s:=
 ⟨I.ok,I.os,I.gm,I.base,let⟨m,W,Y⟩:=I.iX;⟨m,W,λi x v Q R S=>Y i x v Q (w i v R) S⟩,I.cell,I.free,I.lL,I.j_,I.aW,T.trans I.bG⟩
def aG.Pj{Z:List (ae×Obj)}(I:aG X ag σ H s)(h:∀p∈Z,s.heap.get? p.1=aa p.2/\H p.1=aj/\p.1≠X.env.locals/\p.1∉X.fs/\∀v,p.2.data≠.cell v):aG X Z σ H s:=
 ⟨I.ok,I.os,I.gm,I.base,I.iX,I.cell,I.free,I.lL,λp Y=>(cZ.mp Y).elim (λz=>I.j_ p (jq _ z)) (h p),I.aW,I.bG⟩
def G_(Z:N.Nodup){i:Nat}{x:Str}(a:N[i]?=aa x)(b:N[j]?=aa x):i=j:=by obtain⟨V,X⟩:=oI.mp a;obtain⟨W,Y⟩:=oI.mp b;exact(List.getElem_inj Z).mp (X.trans Y.symm)
noncomputable def QN{M:oO}{i:Nat}{x:Str}{v:V}{Q:Unit->aD->Prop}(I:aG X ag σ H s)(hN:X.N.Nodup)(F:X.N[i]?=aa x)(T:ug X.env.scope x)(r:bL v u)(h:∀s',aG X ag (σ.set i (aa v)) H s'->(∃a,qg a s.heap s'.heap/\(a=X.env.locals\/X.env.cells.lookup x=aa a))->Q () s')(hf:X.fn x=ah\/X.env.scope.names.lookup x=aa .local:=by first|exact .inl U|exact .inr U|assumption):aN M A (storeName X.env x u) Q E s:=by
 obtain⟨m,hn,hl⟩:=id I.iX;have D:(X.env.scope.kind==.class||(X.env.scope.kind==.module&&X.env.locals !=X.env.globals))=aB:=by rw[I.ok.kind];rfl
 have P:i<σ.length:=by rw[I.bG];exact(oI.mp F).1
 have sN:=I.sN;have Z:∀{a:ae} {h':aK},(∃o,s.heap.get? a=aa o/\H a=aj)->qg a s.heap h'->dk X.prog X.w H h':=λ{a h'} ha hs b ob e=>by
  obtain⟨_,_,S⟩:=ha;refine(I.aW b ob e).ow (λc t W q=>(hs.2 c ?_).trans q) (λ_ q=>q) λ_ _ q=>q
  rintro rfl
  rcases W with rfl|W
  .rw [S]at e;cases e
  .rw [S]at W;cases W
 rcases T with hk|hk
 .refine wpAny_storeName_local hk hn (λh' Yq hs=>?_) D;obtain⟨oL,_,_,Yv,_⟩:=id hn;refine h _ ⟨I.ok,I.os,I.gm,⟨λb o e n K T=>?_,λb o e n K T=>?_,I.base.free,λb o e T=>?_,I.base.rn,I.base.pq,I.base.pY⟩,⟨_,Yq,λj y g Y R e3=>?_⟩,λy c e=>?_,I.free,I.lL,λp hp=>?_,Z ⟨oL,Yv,I.free⟩ hs,‹I.bG›⟩ ⟨_,hs,.inl U⟩
  .exact (hs.2 b (c8 (g8 (cI e) I.ok.above))).trans (I.base.keep b o e n K T)
  .obtain ⟨sl,Y⟩:=I.base.slot b o e n K T;exact⟨sl,(hs.2 b (c8 (g8 (cI e) I.ok.above))).trans Y⟩
  .obtain ⟨o',Y⟩:=I.base.there b o e T;exact⟨o',(hs.2 b (c8 (g8 (cI e) I.ok.above))).trans Y⟩
  .by_cases O:j=i
   .subst O;rw[F]at Y;cases Y;rw[JU P]at R;cases R;exact⟨u,r,.inl ⟨hk,by simp⟩⟩
   .rw [JT (cU O)]at R;obtain⟨f,r',q⟩:=hl j y g Y R e3;refine⟨f,r',?_⟩;rcases q with⟨k,e⟩|⟨k,c,e,z⟩
    .refine .inl ⟨k,?_⟩;have:y≠x:=λe=>O (G_ hN Y (e▸F));simp[this,e]
    .exact .inr ⟨k,c,e,z.sameBut hs (sN y c e)⟩
  .obtain ⟨t,z⟩:=I.cell y c e;exact⟨t,z.sameBut hs (sN y c e)⟩
  .obtain ⟨e,n,ne,nf,d⟩:=I.j_ p hp;exact⟨(hs.2 p.1 ne).trans e,n,ne,nf,d⟩
 .have L:X.fn x=ah:=by
   rcases hf with z|z
   .exact z
   .rw [z]at hk;cases hk
  obtain⟨c,W⟩:=I.ok.has x (.inl hk);obtain⟨t,z⟩:=I.cell x c W;refine wpAny_storeName_cell I.ok.kind hk W z (λh' B hs=>?_);obtain⟨oc,G,J⟩:=id z;refine h {s with heap:=h'} ⟨I.ok,I.os,I.gm,⟨λb o e n K T=>?_,λb o e n K T=>?_,I.base.free,λb o e T=>?_,I.base.rn,I.base.pq,I.base.pY⟩,⟨m,hn.sameBut hs (cU (sN x c W)),λj y g Y R e3=>?_⟩,λy l e=>?_,I.free,I.lL,λp hp=>?_,Z ⟨oc,G,I.lL x c W⟩ hs,‹I.bG›⟩ ⟨c,hs,.inr W⟩
  .exact (hs.2 b (c8 (g8 (cI e) (I.ok.xM x c L W)))).trans (I.base.keep b o e n K T)
  .obtain ⟨sl,Y⟩:=I.base.slot b o e n K T;exact⟨sl,(hs.2 b (c8 (g8 (cI e) (I.ok.xM x c L W)))).trans Y⟩
  .obtain ⟨o',Y⟩:=I.base.there b o e T;exact⟨o',(hs.2 b (c8 (g8 (cI e) (I.ok.xM x c L W)))).trans Y⟩
  .by_cases O:j=i
   .subst O;rw[F]at Y;cases Y;rw[JU P]at R;cases R;exact⟨u,r,.inr ⟨.inl hk,c,W,B⟩⟩
   .rw [JT (cU O)]at R;obtain⟨f,r',q⟩:=hl j y g Y R e3;refine⟨f,r',?_⟩;rcases q with q|⟨k,l,e,z'⟩
    .exact .inl q
    .refine .inr ⟨k,l,e,z'.sameBut hs ?_⟩
     rintro rfl
     exact O (G_ hN Y (I.ok.inj _ _ _ e W▸F))
  .by_cases C:l=c
   .subst C;exact⟨_,B⟩
   .obtain ⟨w2,z2⟩:=I.cell y l e;exact⟨w2,z2.sameBut hs C⟩
  .obtain ⟨e,n,ne,nf,d⟩:=I.j_ p hp;refine⟨(hs.2 p.1 ?_).trans e,n,ne,nf,d⟩;intro q;rw[q,G]at e;have q':oc=p.2:=dX e;exact d t (by rw[<-q'];exact J)
noncomputable def QM{M:oO}{i:Nat}{x:Str}{v:V}{Q:Unit->aD->Prop}(I:aG X ag σ H s)(T:X.N.Nodup)(Y:X.N[i]?=aa x)(Z:ug X.env.scope x)(r:bL v u)(h:∀s',aG X ag (σ.set i (aa v)) H s'->Q () s')(W:X.fn x=ah\/X.env.scope.names.lookup x=aa .local:=by first|exact .inl U|exact .inr U|assumption):aN M A (storeName X.env x u) Q E s:=
 QN I T Y Z r (λs' S _=>h s' S) W
def aG.T_{s':aD}(I:aG X ag σ H s)(W:s'.os=s.os)(u:Un (mR X.stack) ch H H' s.heap s'.heap)(aW:dk X.prog X.w H' s'.heap)(V:uk s'.gens)(Z:∀b∈ch,(b∈X.ex\/X.hX.heap.objs.size<=b)/\b≠X.env.locals/\(∀x c,X.env.cells.lookup x=aa c->c≠b)/\∀p∈X.pn++ag,p.1≠b):aG X ag σ H' s':=by obtain⟨h',g',d',t',Y⟩:=s';have e:Y=s.os:=W;subst e;exact I.call (g':=g') (t':=t') (d':=d') u aW V Z
end
abbrev XK:=af->Option ae->Hp->Prop
abbrev St:=List (Option V)
abbrev VK:=V->Hp->Prop
abbrev TE:=St->Hp->VK->Prop
abbrev TT:=St->Hp->(Bool->Hp->Prop)->Prop
abbrev TA:=St->Hp->(List V->Hp->Prop)->Prop
structure p5 where
 nx:St->Hp->Prop
 rt:VK
 bk:St->Hp->Prop:=λ_ _=>False
 ct:St->Hp->Prop:=λ_ _=>False
abbrev TS:=p5->St->Hp->Prop
inductive EP(X:Cx)(ag:List (ae×Obj))(σ:St)(Q:VK)(u:af)(s':aD):Prop|mk(v:_)(H':_)(_:aG X ag σ H' s')(_:bL v u)(_:Q v H')
inductive TP(X:Cx)(ag:List (ae×Obj))(σ:St)(Q:Bool->Hp->Prop)(b:Bool)(s':aD):Prop|mk(H':_)(_:aG X ag σ H' s')(_:Q b H')
inductive AP(X:Cx)(ag:List (ae×Obj))(σ:St)(Q:List V->Hp->Prop)(us:List af)(s':aD):Prop|mk(vs:_)(H':_)(_:aG X ag σ H' s')(_:bD vs us)(_:Q vs H')
inductive NP(X:Cx)(ag:List (ae×Obj))(Q:St->Hp->Prop)(s':aD):Prop|mk(Dj:_)(H':_)(_:aG X ag Dj H' s')(_:Q Dj H')
inductive RP(X:Cx)(ag:List (ae×Obj))(Q:VK)(u:af)(s':aD):Prop|mk(v:_)(Dj:_)(H':_)(_:aG X ag Dj H' s')(_:bL v u)(_:Q v H')
def SP(X:Cx)(ag:List (ae×Obj))(D:p5)(f:Flow)(s':aD):Prop:=
 match f with
 |.next=>NP X ag D.nx s'
 |.brk=>NP X ag D.bk s'
 |.cont=>NP X ag D.ct s'
 |.ret u=>RP X ag D.rt u s'
def PE(X:Cx)(e:Expr)(t:TE):Prop:=
 ∀(ag:List (ae×Obj)) (s:aD) (Z:St) (H:Hp) (Q:VK),aG X ag Z H s->t Z H Q->aN (model X.prog X.w) X.A (cC e X.env) (EP X ag Z Q) X.xe s
def PT(X:Cx)(e:Expr)(t:TT):Prop:=
 ∀(ag:List (ae×Obj)) (s:aD) (Z:St) (H:Hp) (Q:Bool->Hp->Prop),aG X ag Z H s->t Z H Q->aN (model X.prog X.w) X.A (isTrue e X.env (cC e X.env)) (TP X ag Z Q) X.xe s
def PW(X:Cx)(e:Expr)(t:TT):Prop:=
 ∀(whole:Sem af) (ag:List (ae×Obj)) (s:aD) (Z:St) (H:Hp) (Q:Bool->Hp->Prop),aG X ag Z H s->t Z H Q->aN (model X.prog X.w) X.A (isTrue e X.env whole) (TP X ag Z Q) X.xe s
def PW.pt{X:Cx}{t:TT}(h:PW X e t):PT X e t:=h _
def PA(X:Cx)(es:List Expr)(t:TA):Prop:=
 ∀(pos:Pos) (ag:List (ae×Obj)) (s:aD) (Z:St) (H:Hp) (Q:List V->Hp->Prop),aG X ag Z H s->t Z H Q->aN (model X.prog X.w) X.A (spliced (gj pos (cu es X.env))) (AP X ag Z Q) X.xe s
def PS(X:Cx)(st:c5)(t:TS):Prop:=
 ∀(ag:List (ae×Obj)) (s:aD) (Z:St) (H:Hp) (D:p5),aG X ag Z H s->t D Z H->aN (model X.prog X.w) X.A (exec st X.env) (SP X ag D) X.xe s
def i7(X:Cx)(st:List c5)(t:TS):Prop:=
 ∀(ag:List (ae×Obj)) (s:aD) (Z:St) (H:Hp) (D:p5),aG X ag Z H s->t D Z H->aN (model X.prog X.w) X.A (execs st X.env) (SP X ag D) X.xe s
def fe{Z:Type}{t:Sem Z}{Q Y:Z->aD->Prop}{M:oO}(h:aN M A t Q E s)(X:∀a s,Q a s->Y a s):aN M A t Y E s:=jT h X λ_ _ x=>x
def bT{X:Cx}{Z:St}{Q:VK}{t:Sem af}{Y:af->aD->Prop}{M:oO}(h:aN M A t (EP X ag Z Q) E s)(f:∀a s x H,aG X ag Z H s->bL x a->Q x H->Y a s):aN M A t Y E s:=fe h λa s ⟨x,H,I,r,q⟩=>f a s x H I r q
def k'{X:Cx}{Z:St}{Q:List V->Hp->Prop}{t:Sem (List af)}{Y:List af->aD->Prop}{M:oO}(h:aN M A t (AP X ag Z Q) E s)(f:∀a s x H,aG X ag Z H s->bD x a->Q x H->Y a s):aN M A t Y E s:=fe h λa s ⟨x,H,I,r,q⟩=>f a s x H I r q
def wg{X:Cx}{Z:St}{Q:Bool->Hp->Prop}{t:Sem Bool}{Y:Bool->aD->Prop}{M:oO}(h:aN M A t (TP X ag Z Q) E s)(f:∀a s H,aG X ag Z H s->Q a H->Y a s):aN M A t Y E s:=fe h λa s ⟨H,I,q⟩=>f a s H I q
section
variable{X:Cx}
def Cn(o:Option (Option V))(k:V->Prop):Prop:=match o with
 |some (aa v)=>k v
 |_=>False
def ng(i:Nat)(Z:St)(H:Hp)(Q:VK):Prop:=Cn (Z[i]?) λv=>Q v H
def PN{o:Option (Option V)}{k:V->Prop}(h:Cn o k):∃v,o=aa (aa v)/\k v:=
 match o,h with
 |some (aa v),h=>⟨v,U,h⟩
def adv{o:Option (Option V)}{k:V->Prop}{v:V}(e:o=aa (aa v))(h:k v):Cn o k:=by rw[e];exact h
def pQ(x:V)(k:Bool->Prop):Prop:=match x with
 |.bl c=>k c
 |_=>False
def ke{x:V}{k:Bool->Prop}(h:pQ x k):∃c,x=.bl c/\k c:=
 match x,h with
 |.bl c,h=>⟨c,U,h⟩
def Cm(x y:V)(k:Int->Int->Prop):Prop:=match x,y with
 |.int i,.int j=>k i j
 |_,_=>False
def HP{x y:V}{k:Int->Int->Prop}(h:Cm x y k):∃i j,x=.int i/\y=.int j/\k i j:=
 match x,y,h with
 |.int i,.int j,h=>⟨i,j,U,U,h⟩
def HN{x y:V}{k:Int->Int->Prop}{i j:Int}(e:x=.int i)(Z:y=.int j)(h:k i j):Cm x y k:=by rw[e,Z];exact h
def HQ(x:V)(k:Int->Prop):Prop:=match x with
 |.int i=>k i
 |_=>False
def PR{x:V}{k:Int->Prop}(h:HQ x k):∃i,x=.int i/\k i:=
 match x,h with
 |.int i,h=>⟨i,U,h⟩
def PQ(x:V)(k:ae->Prop):Prop:=match x with
 |.ref i=>k i
 |_=>False
def adw{x:V}{k:ae->Prop}(h:PQ x k):∃i,x=.ref i/\k i:=
 match x,h with
 |.ref i,h=>⟨i,U,h⟩
def tC(v:V):TE:=λ_ H Q=>Q v H
noncomputable def O'{i:Nat}{x:Str}(M:X.N[i]?=aa x)(S:uM X.env.scope x)(hd:(x==("__debug__":Str))=aB:=by decide)(W:(x==("__classdict__":Str))=aB:=by decide):PE X (.Name x pos) (ng i):=by
 intro ag s T H Q I h;obtain⟨v,e,h⟩:=PN h;obtain⟨m,R,O⟩:=I.iX;obtain⟨u,r,l⟩:=O i x v M e S;have Y:EP X ag T Q u s:=⟨v,H,I,r,h⟩;rcases l with⟨hk,P⟩|⟨hk,c,V,Z⟩
 .exact wpAny_Name (wpAny_loadName_local I.ok.kind hk R P Y) hd
 .rcases hk with hk|hk
  .exact wpAny_Name (wpAny_loadName_cell I.ok.kind hk V Z Y) hd
  .exact wpAny_Name (wpAny_loadName_free I.ok.kind hk V Z Y W) hd
def aU{i j pos}:PE X (.Constant (.int i) j pos) (tC (.int i)):=λ_ _ _ H _ I h=>wpAny_Constant_int ⟨.int i,H,I.gH _,⟨_,U⟩,h⟩
def oe{b j pos}:PE X (.Constant (.bool b) j pos) (tC (.bl b)):=λ_ _ _ H _ I h=>Constant_bool ⟨.bl b,H,I,U,h⟩
def Gl(X:Cx)(x:Str):Prop:=X.env.kindOf x=aa .globalImplicit
def BD{Z:St}{H:Hp}{x:Str}(I:aG X ag Z H s)(W:Gl X x)(Y:X.mg x=aa u)(h:Q u s)(hd:(x==("__debug__":Str))=aB:=by decide):aN (model X.prog X.w) X.A (cC (.Name x pos) X.env) Q E s:=
 Sr I.ok.kind W (Calls.loadGlobal_global (by rw[I.ok.mS];exact I.mod.mS.keeps I.bk) Y h) hd
def tE{Z:St}{H:Hp}{x:Str}(I:aG X ag Z H s)(T:Gl X x)(V:X.mg x=aj)(Y:ux x=aa u)(h:Q u s)(W:x≠"__name__":=by decide)(hd:(x==("__debug__":Str))=aB:=by decide):aN (model X.prog X.w) X.A (cC (.Name x pos) X.env) Q E s:=by obtain⟨P,R,S⟩:=I.mod.uP;exact Sr I.ok.kind T (Calls.loadGlobal_builtin (by rw[I.ok.mS];exact I.mod.mS.keeps I.bk) V (by rw[I.ok.uP];exact R.keeps I.bk) ((S x W).trans Y) h) hd
def O8{x:Str}{v:V}(Y:Gl X x)(Z:X.mg x=aa u)(r:bL v u)(hd:(x==("__debug__":Str))=aB:=by decide):PE X (.Name x pos) (tC v):=
 λ_ _ _ H _ I h=>BD I Y Z ⟨v,H,I,r,h⟩ hd
variable{a b:Expr}{ta tb:TE}{pos:Pos}
def PC(X:Cx)(op:fD)(a b:Expr)(t:TE):Prop:=
 ∀(ag:List (ae×Obj)) (s:aD) (W:St) (H:Hp) (Q:VK),aG X ag W H s->t W H Q->
  aN (model X.prog X.w) X.A (cC a X.env) (λv Y=>aN (model X.prog X.w) X.A (cC b X.env) (λu Z=>aN (model X.prog X.w) X.A (gy op v u) (EP X ag W Q) X.xe Z) X.xe Y) X.xe s
def Oj(b:Expr)(h:op≠.In)(Z:op≠.NotIn):behindInMarks op b=aB:=by
 have X:(op==CmpOp.In)=aB:=by cases op<;>first|rfl|exact bq U h
 have Y:(op==CmpOp.NotIn)=aB:=by cases op<;>first|rfl|exact bq U Z
 cases b<;>simp[behindInMarks,X,Y]
def tB(t:TE):TT:=λZ H Q=>t Z H λx Y=>pQ x λc=>Q c Y
noncomputable def O7{t:TE}(h:PC X op a b t)(Y:behindInMarks op b=aB:=by first|exact Oj _ (by decide) (by decide)|rfl):PE X (.Compare a [op] [b] pos) t:=λag s Z H Q I hw=>wpAny_Compare1 (h ag s Z H Q I hw) Y
noncomputable def yP{t:TE}(h:PC X op a b t)(Z:behindInMarks op b=aB:=by first|exact Oj _ (by decide) (by decide)|rfl):PT X (.Compare a [op] [b] pos) (tB t):=by
 intro ag s Y H Q I hw;refine wpAny_isTrue_Compare1 (fe (h ag s Y H _ I hw) λv N Z=>fe Z λu O T=>fe T ?_) Z
 rintro c P ⟨x,R,S,W,V⟩
 obtain⟨d,rfl,q⟩:=ke V;cases W;exact i_ ⟨R,S,q⟩
noncomputable def d_{t:TE}(h:PE X e t)(he:∀whole,isTrue e X.env whole=(do let v<-whole;standAt e.pos;uz [v] (truthy v)):=by intro _;rfl):PT X e (tB t):=by intro ag s Z H Q I hw;refine isTrue_plain (bT (h ag s Z H _ I hw) λv S x T V Y W=>?_) (he _);obtain⟨d,rfl,q⟩:=ke W;cases Y;exact i_ ⟨T,V,q⟩
variable{tA CW:TT}{rest:List Expr}
def agd(t u:TT):TT:=λZ H Q=>t Z H λc Y=>if c=ah then u Z Y Q else Q aB Y
def tOr(t u:TT):TT:=λZ H Q=>t Z H λc Y=>if c=ah then Q ah Y else u Z Y Q
def agu(t:TT):TT:=λZ H Q=>t Z H λc Y=>Q (!c) Y
def Cf(Y:PT X a tA):PW X (.BoolOp .And [a] pos) tA:=by
 intro W ag s Z H Q I h;refine isTrue_and (fe (Y ag s Z H Q I h) λc V e=>?_);cases c with
 |true=>exact isTrue_and_nil e
 |false=>exact e
def vR(Y:PT X a tA):PW X (.BoolOp .Or [a] pos) tA:=by
 intro W ag s Z H Q I h;refine isTrue_or (fe (Y ag s Z H Q I h) λc V e=>?_);cases c with
 |false=>exact isTrue_or_nil e
 |true=>exact e
def yU(P:PT X a tA)(R:PW X (.BoolOp .And (b::rest) pos) CW):PW X (.BoolOp .And (a::b::rest) pos) (agd tA CW):=by
 intro T ag s Z H Q I h;refine isTrue_and (wg (P ag s Z H _ I h) λc S V W Y=>?_);cases c with
 |true=>exact R T ag S Z V Q W Y
 |false=>exact⟨V,W,Y⟩
def vQ(P:PT X a tA)(R:PW X (.BoolOp .Or (b::rest) pos) CW):PW X (.BoolOp .Or (a::b::rest) pos) (tOr tA CW):=by
 intro T ag s Z H Q I h;refine isTrue_or (wg (P ag s Z H _ I h) λc S V W Y=>?_);cases c with
 |true=>exact⟨V,W,Y⟩
 |false=>exact R T ag S Z V Q W Y
def eH(Y:PT X a tA):PT X (.UnaryOp .Not a pos) (agu tA):=by intro ag s Z H Q I h;exact isTrue_not (wg (Y ag s Z H (λc W=>Q (!c) W) I h) λ_ _ H I q=>⟨H,I,q⟩)
def age(ta tb:TE):TE:=λZ H Q=>ta Z H λx Y=>pQ x λc=>if c=ah then tb Z Y Q else Q (.bl aB) Y
def agx(ta tb:TE):TE:=λZ H Q=>ta Z H λx Y=>pQ x λc=>if c=ah then Q (.bl ah) Y else tb Z Y Q
def agv(ta:TE):TE:=λZ H Q=>ta Z H λx Y=>pQ x λc=>Q (.bl (!c)) Y
def yM{op}{t:TE}(h:PE X a t):PE X (.BoolOp op [a] pos) t:=λag s Z H Q I hw=>BoolOp_one (h ag s Z H Q I hw)
def acn(P:PE X a ta)(R:PE X (.BoolOp .And (b::rest) pos) tb):PE X (.BoolOp .And (a::b::rest) pos) (age ta tb):=by
 intro ag s Y H Q I h;refine BoolOp_and (bT (P ag s Y H _ I h) λv T x V W S Z=>?_);obtain⟨c,rfl,Z⟩:=ke Z;cases S;refine i_ ?_;cases c with
 |true=>exact R ag T Y V Q W Z
 |false=>exact⟨.bl aB,V,W,U,Z⟩
def B9(P:PE X a ta)(R:PE X (.BoolOp .Or (b::rest) pos) tb):PE X (.BoolOp .Or (a::b::rest) pos) (agx ta tb):=by
 intro ag s Y H Q I h;refine BoolOp_or (bT (P ag s Y H _ I h) λv T x V W S Z=>?_);obtain⟨c,rfl,Z⟩:=ke Z;cases S;refine i_ ?_;cases c with
 |false=>exact R ag T Y V Q W Z
 |true=>exact⟨.bl ah,V,W,U,Z⟩
def acC(V:PE X a ta):PE X (.UnaryOp .Not a pos) (agv ta):=by intro ag s Y H Q I h;refine UnaryOp_ (bT (V ag s Y H _ I h) λv R x S T W Z=>?_);obtain⟨c,rfl,Z⟩:=ke Z;cases W;exact not_of (i_ ⟨.bl (!c),S,T,U,Z⟩)
def tIf(t:TT)(ta tb:TE):TE:=λZ H Q=>t Z H λc Y=>if c=ah then ta Z Y Q else tb Z Y Q
def HD(S:PT X c tA)(P:PE X a ta)(R:PE X b tb):PE X (.IfExp c a b pos) (tIf tA ta tb):=by
 intro ag s Z H Q I h;refine wpAny_IfExp (wg (S ag s Z H _ I h) λd Y T V W=>?_);cases d with
 |true=>exact P ag Y Z T Q V W
 |false=>exact R ag Y Z T Q V W
end
def aL(K:aw)(H:Hp)(a:ae)(xs:List V):Prop:=
 Rd H a (.aC xs)\/
  ∃(o:Obj) (bw:Array af) (n:Nat),K.lookup a=aa o/\o.cls=.type "list"/\o.dict=aj/\o.data=.seq bw n/\bw.size<=aS/\bD xs bw.toList
def aY(K:aw)(H:Hp)(a:ae)(xs:List V):Prop:=
 Rd H a (.bh xs)\/
  ∃(o:Obj) (bw:Array af) (n:Nat),K.lookup a=aa o/\o.cls=.type "tuple"/\o.data=.seq bw n/\bw.size<=aS/\bD xs bw.toList
noncomputable def Tp:af->Option V
 |.none=>aa .bW
 |.bool b=>aa (.bl b)
 |.int i _=>aa (.int i)
 |.str x _=>aa (.str x)
 |.bytes b _=>aa (.jb b)
 |.float b _=>aa (.A2 b)
 |.ref a=>aa (.ref a)
 |.type n=>aa (.ty n)
 |_=>aj
def bL.K9{x:V}(r:bL x u):Tp u=aa x:=by
 cases x with
 |bW=>cases r;rfl
 |bl _=>cases r;rfl
 |int _=>obtain⟨t,rfl⟩:=r;rfl
 |str _=>obtain⟨t,rfl⟩:=r;rfl
 |jb _=>obtain⟨t,rfl⟩:=r;rfl
 |A2 _=>obtain⟨t,rfl⟩:=r;rfl
 |ref _=>cases r;rfl
 |ty _=>cases r;rfl
theorem bL.inj{x y:V}{u:af}(r:bL x u)(q:bL y u):x=y:=dX (r.K9.symm.trans q.K9)
theorem bD.inj:∀{xs ys:List V} {us:List af},bD xs us->bD ys us->xs=ys
 |_,_,_,.nil,.nil=>rfl
 |_,_,_,.cons r t,.cons Z t'=>by rw[r.inj Z,bD.inj t t']
section
variable{X:Cx}{ag:List (ae×Obj)}{σ:St}{H:Hp}{s:aD}{a:ae}{xs ys:List V}
def aL.of(h:H a=aa (.aC xs)):aL K H a xs:=.inl (.inl h)
def aY.of(h:H a=aa (.bh xs)):aY K H a xs:=.inl (.inl h)
def aG.list(I:aG X ag σ H s)(h:aL X.K H a xs):∃bw:List af,bD xs bw/\PlainL s.heap a bw.toArray/\xs.length<=aS:=by
 rcases h with h|⟨o,bw,n,hk,Z,hd,hs,hz,r⟩
 .obtain ⟨z,bw,n,r,e⟩:=h.ok I.aW;exact⟨bw,r,⟨_,n,e,U,U,U⟩,z⟩
 .refine ⟨bw.toList,r,⟨o,n,I.ip a o hk,Z,hd,‹hs›⟩,?_⟩;have e:=r.length;simp only[iN]at e;lia
def aG.tuple(I:aG X ag σ H s)(h:aY X.K H a xs):∃bw:List af,bD xs bw/\gi s.heap a bw.toArray/\xs.length<=aS:=by
 rcases h with h|⟨o,bw,n,hk,Z,hs,hz,r⟩
 .obtain ⟨z,bw,r,p⟩:=h.ok I.aW;exact⟨bw,r,p.Gh,z⟩
 .refine ⟨bw.toList,r,⟨o,I.ip a o hk,Z,n,‹hs›⟩,?_⟩;have e:=r.length;simp only[iN]at e;lia
def aG.Gv(I:aG X ag σ H s)(h:aL X.K H a xs)(h':aL X.K H a ys):xs=ys:=by
 obtain⟨Z,r,⟨o,n,e,_,_,d⟩,_⟩:=I.list h;obtain⟨jy,W,⟨T,S,Y,_,_,d'⟩,_⟩:=I.list h';rw[e]at Y;cases Y;rw[d]at d';injection d' with V _;have:Z=jy:=‹b_ Jz V›
 subst this;exact r.inj W
def aG.C_(I:aG X ag σ H s)(h:aY X.K H a xs)(h':aY X.K H a ys):xs=ys:=by
 obtain⟨Z,r,⟨o,e,_,n,d⟩,_⟩:=I.tuple h;obtain⟨jy,W,⟨T,Y,_,S,d'⟩,_⟩:=I.tuple h';rw[e]at Y;cases Y;rw[d]at d';injection d' with V _;have:Z=jy:=‹b_ Jz V›
 subst this;exact r.inj W
end
abbrev Cx.oA(X:Cx)(E:af->aD->Prop):Cx:={X with xe:=E}
abbrev Cx.qU(X:Cx):Cx:=X.oA λ_ _=>False
theorem Cx.Ok.oA{X:Cx}(ok:X.Ok)(E:af->aD->Prop):(X.oA E).Ok:=
 ⟨ok.mod,ok.kind,ok.mS,ok.uP,ok.above,ok.inj,ok.has,ok.xM,ok.hd,ok.frames,ok.CT,ok.AX,ok.bs,ok.nQ,ok.yA,ok.xV,ok.lM,ok.sS⟩
def Cx.Ok.rp{X:Cx}(ok:(X.oA E).Ok):X.Ok:=
 ⟨ok.mod,ok.kind,ok.mS,ok.uP,ok.above,ok.inj,ok.has,ok.xM,ok.hd,ok.frames,ok.CT,ok.AX,ok.bs,ok.nQ,ok.yA,ok.xV,ok.lM,ok.sS⟩
section
variable{X:Cx}{ag:List (ae×Obj)}{σ:St}{H:Hp}{s:aD}{E:af->aD->Prop}
theorem aG.oA(I:aG X ag σ H s)(E:af->aD->Prop):aG (X.oA E) ag σ H s:=⟨I.ok.oA E,I.os,I.gm,I.base,I.iX,I.cell,I.free,I.lL,I.j_,I.aW,I.bG⟩
theorem aG.rp(I:aG (X.oA E) ag σ H s):aG X ag σ H s:=⟨I.ok.rp,I.os,I.gm,I.base,I.iX,I.cell,I.free,I.lL,I.j_,I.aW,I.bG⟩
theorem SP.rp{D:p5}{f:Flow}{s':aD}(h:SP (X.oA E) ag D f s'):SP X ag D f s':=by
 cases f with
 |next=>obtain⟨Z,Y,I,q⟩:=h;exact⟨Z,Y,I.rp,q⟩
 |brk=>obtain⟨Z,Y,I,q⟩:=h;exact⟨Z,Y,I.rp,q⟩
 |cont=>obtain⟨Z,Y,I,q⟩:=h;exact⟨Z,Y,I.rp,q⟩
 |ret u=>obtain⟨v,Z,Y,I,r,q⟩:=h;exact⟨v,Z,Y,I.rp,r,q⟩
theorem i7.qU{st:List c5}{t:TS}(h:i7 X.qU st t):i7 X st t:=λag s Z H D I hw=>
 jT (h ag s Z H D (I.oA _) hw) (λ_ _ q=>q.rp) λ_ _ z=>i4 z
end
section
variable{X:Cx}{st:c5}{rest:List c5}{t u:TS}{e:Expr}{te:TE}{pos:Pos}
def ags:TS:=λD Z H=>D.nx Z H
def C2(t u:TS):TS:=λD Z H=>p5.casesOn (motive:=λ_=>Prop) D λn r b c=>t ⟨u ⟨n,r,b,c⟩,r,b,c⟩ Z H
def bX:i7 X [] ags:=λ_ _ Z H _ I h=>En ⟨Z,H,I,h⟩
def aH(T:PS X st t)(V:i7 X rest u):i7 X (st::rest) (C2 t u):=by
 intro ag s Y H D I h;refine wpAny_execs_cons (fe (T ag s Y H {D with nx:=u D} I h) λf W q=>?_);cases f with
 |next=>
  obtain⟨Z,R,S,q⟩:=q;exact V ag W Z R D S q
 |ret v=>exact q
 |brk=>exact q
 |cont=>exact q
def aO(Y:PS X st t):i7 X [st] t:=by
 intro ag s Z H D I h;refine wpAny_execs_cons (fe (Y ag s Z H D I h) λf W q=>?_);cases f with
 |next=>exact En q
 |ret v=>exact q
 |brk=>exact q
 |cont=>exact q
def aG.quiet{Z:St}{H:Hp}(I:aG X ag Z H s):interactive X.env=aB:=by simp[interactive,I.ok.kind]
def IV(te:TE):TS:=λD Z H=>te Z H λ_ Y=>D.nx Z Y
def eT(he:PE X e te)(hs:oU e aj pos.line X.env=pure aB:=by rfl):PS X (.Expr e pos) (IV te):=by intro ag s Z H D I h;exact wpAny_Expr_any (bT (he ag s Z H _ I h) λv T x V W S Y=>⟨Z,V,W,Y⟩) I.quiet hs
def agz(te:TE):TS:=λD Z H=>te Z H D.rt
def bc(he:PE X e te):PS X (.Return (aa e) pos) (agz te):=by intro ag s Z H D I h;exact wpAny_Return_some (bT (he ag s Z H _ I h) λv S x T V Y W=>⟨x,Z,T,V,Y,W⟩)
def agA:TS:=λD _ H=>D.rt .bW H
def Pq:PS X (.Return aj pos) agA:=λ_ _ Z H _ I h=>wpAny_Return_none ⟨.bW,Z,H,I,U,h⟩
def agp(c:TT)(t u:TS):TS:=λD Z H=>c Z H λb Y=>if b=ah then t D Z Y else u D Z Y
def bO{a b:List c5}{Y:TT}(R:PT X c Y)(P:i7 X a t)(Q:i7 X b u):PS X (.If c a b pos) (agp Y t u):=by
 intro ag s Z H D I h;refine wpAny_If (wg (R ag s Z H _ I h) λd W S T V=>?_);cases d with
 |true=>exact P ag W Z S D T V
 |false=>exact Q ag W Z S D T V
end
abbrev TG:=V->St->Hp->(St->Hp->Prop)->Prop
abbrev qo:=List V->St->Hp->(St->Hp->Prop)->Prop
def PG(X:Cx)(Z:Expr)(t:TG):Prop:=
 ∀(ag:List (ae×Obj)) (s:aD) (Y:St) (H:Hp) (v:V) (u:af) (Q:St->Hp->Prop),aG X ag Y H s->bL v u->t v Y H Q->
  aN (model X.prog X.w) X.A (uw Z X.env u) (λ_ s'=>NP X ag Q s') X.xe s
def w_(X:Cx)(Y:List Expr)(t:qo):Prop:=
 ∀(ag:List (ae×Obj)) (s:aD) (Z:St) (H:Hp) (vs:List V) (us:List af) (Q:St->Hp->Prop),aG X ag Z H s->bD vs us->t vs Z H Q->
  aN (model X.prog X.w) X.A (assignInOrder ((r_ Y X.env).map (·.2)) us) (λ_ s'=>NP X ag Q s') X.xe s
abbrev Et:=V->V->V->Hp->(Hp->Prop)->Prop
def J9(X:Cx)(t:Et):Prop:=
 ∀(ag:List (ae×Obj)) (s:aD) (Z:St) (H:Hp) (o i v:V) (Y W u:af) (Q:Hp->Prop),aG X ag Z H s->bL o Y->bL i W->bL v u->t o i v H Q->
  aN (model X.prog X.w) X.A (setItem Y W u) (λ_ s'=>∃T,aG X ag Z T s'/\Q T) X.xe s
section
variable{X:Cx}{pos:Pos}
def qA(i:Nat):TG:=λv Z H Q=>Q (Z.set i (aa v)) H
def acJ{i:Nat}{x:Str}(V:X.N.Nodup)(Y:X.N[i]?=aa x)(Z:ug X.env.scope x)(W:X.fn x=ah\/X.env.scope.names.lookup x=aa .local:=by first|exact .inl U|exact .inr U|assumption):PG X (.Name x pos) (qA i):=by intro ag s S H v u Q I r h;exact wpAny_assign_Name (QM I V Y Z r (λs' T=>⟨_,H,T,h⟩) W)
def WG:qo:=λvs Z H Q=>vs=[]/\Q Z H
def WE(t:TG)(u:qo):qo:=λvs Y H Q=>∃v r,vs=v::r/\t v Y H λZ X=>u r Z X Q
def vO:w_ X [] WG:=by intro ag s Z H Y us Q I r h;obtain⟨e,h⟩:=h;subst e;cases r;exact assignInOrder_nil ⟨Z,H,I,h⟩
def lX{es:List Expr}{t:TG}{u:qo}(R:PG X e t)(S:w_ X es u)(hs:(r_ (e::es) X.env).map (·.2)=uw e X.env::(r_ es X.env).map (·.2):=by rfl):w_ X (e::es) (WE t u):=by
 intro ag s Y H M us Q I r h;obtain⟨v,L,P,h⟩:=h;subst P;cases r with
 |cons r V=>
  rw[hs];refine assignInOrder_cons (fe (R ag s Y H _ _ _ I r h) ?_)
  rintro _ W ⟨Z,N,O,T⟩
  exact S ag W Z N _ _ Q O V T
def Ma(K:aw)(n:Nat)(t:qo):TG:=λv Z H Q=>∃a xs,v=.ref a/\aY K H a xs/\xs.length=n/\t xs Z H Q
def vN{es:List Expr}{k:Nat}{t:qo}{n:Nat}(N:X.ij=ah)(h:w_ X es t)(P:(r_ es X.env).length=n:=by rfl)(Z:(r_ es X.env).findIdx? (·.1)=aj:=by rfl):PG X (.Tuple es k pos) (Ma X.K n t):=by intro ag s Y H v u Q I r hw;obtain⟨a,xs,M,R,O,hw⟩:=hw;subst M;cases r;obtain⟨V,W,S,hz⟩:=I.tuple R;refine assign_Tuple_tuple (I.ok.hd N) S (by simp[P,<-O,W.length]) Z λh' T=>?_;have L:aG X ag Y H {s with heap:=h'}:=I.eE (t':=s.toks) λb o e=>T b o (c8 (cI e)) e;exact h ag _ Y H xs _ Q L ‹W› hw
def WH(to Y:TE)(t:Et):TG:=λv Z H Q=>to Z H λo V=>Y Z V λi W=>t o i v W λX=>Q Z X
def Pb{o i:Expr}{to V:TE}{t:Et}(L:PE X o to)(K:PE X i V)(hs:J9 X t)(J:∀v,uw (.Subscript o i pos) X.env v=(do
  let Z<-uz [v] (cC o X.env)
  let Y<-uz [v,Z] (cC i X.env)
  standAt pos
  uz [v,Z,Y] (setItem Z Y v)
  release [v,Z,Y] []):=by intro _;rfl):PG X (.Subscript o i pos) (WH to V t):=by
 intro ag s W H v u Q I r h;rw[J];refine az (jS (bT (L ag s W H _ I h) λZ S x B E P M=>?_));refine az (jS (bT (K ag S W B _ E M) λY T y C F R N=>?_));refine az (K3 (az (jS (fe (hs ag T W C x y v Z Y u _ F P R r N) ?_))))
 rintro _ A ⟨D,G,O⟩
 exact wpAny_release ⟨W,D,G,O⟩
def wc(Y:TE)(g:TG):TS:=λD Z H=>Y Z H λx X=>g x Z X D.nx
def Pp{Y:TE}{g:TG}(he:PE X e Y)(S:PG X tg g)(hs:swapsWithSole [tg] e pos.line X.env=pure aB:=by rfl)(hw:swappedStores [tg] e X.env=pure aj:=by rfl)(R:(r_ [tg] X.env).map (·.2)=[uw tg X.env]:=by rfl):PS X (.Assign [tg] e pos) (wc Y g):=by intro ag s Z H D I h;refine wpAny_Assign_stores (bT (he ag s Z H _ I h) λv W x P Q V T=>?_) hs hw;rw[R];exact fe (S ag W Z P x v _ Q V T) λ_ O q=>q
def ac3{i:Nat}{x:Str}{Y:TE}{Z:Pos}(P:X.N.Nodup)(R:X.N[i]?=aa x)(S:ug X.env.scope x)(he:PE X e Y)(hs:oU e (aa (.Name x Z)) pos.line X.env=pure aB:=by rfl)(Q:X.fn x=ah\/X.env.scope.names.lookup x=aa .local:=by first|exact .inl U|exact .inr U|assumption):PS X (.Assign [.Name x Z] e pos) (wc Y (qA i)):=by intro ag s W H D I h;refine wpAny_Assign_Name (bT (he ag s W H _ I h) λv J y L M V T=>?_) hs;exact QM M P R S V (λK O=>⟨_,L,O,T⟩) Q
def agH(c:TT)(S:TS):TS:=λD Z H=>p5.casesOn (motive:=λ_=>Prop) D λdn R _ _=>∃W:Nat->St->Hp->Prop,(∃m,W m Z H)/\∀m Z H,W m Z H->
 c Z H λb V=>if b=ah then∃N:St->Hp->Prop,(∀Y T,N Y T->∃X,X<m/\W X Y T)/\S ⟨N,R,dn,N⟩ Z V else dn Z V
def ac4{K:TT}{J:TS}(G:PassesOwn (model X.prog X.w) X.A X.env X.xe)(q:PT X c K)(p:i7 X body J):PS X (.While c body [] pos) (agH K J):=by
 intro ag s z H D I h;obtain⟨W,⟨r,x⟩,V⟩:=h;refine wpAny_While (codeAny_whileLoop (λn s'=>NP X ag (W n) s') ?_ r ⟨z,H,I,x⟩)
 rintro n t ⟨Y,B,o,y⟩
 refine uD G (wg (q ag t Y B _ o (V n Y B y)) λb u C E R=>?_);cases b with
 |true=>
  obtain⟨N,F,R⟩:=R;rw[aA U];refine uD G (fe (p ag u Y C _ E R) λf m S=>?_);cases f with
  |next=>
   obtain⟨Z,T,L,P⟩:=S;obtain⟨O,M,Q⟩:=F Z T P;exact⟨O,M,Z,T,L,Q⟩
  |cont=>
   obtain⟨Z,T,L,P⟩:=S;obtain⟨O,M,Q⟩:=F Z T P;exact⟨O,M,Z,T,L,Q⟩
  |brk=>exact S
  |ret v=>exact S
 |false=>
  rw[ay cg];exact En ⟨Y,C,E,R⟩
end
structure It where
 go:Nat->Hp->Prop
 fj:Nat->Hp->V->Hp->Prop
 stop:Nat->Hp->Prop
def lr(X:Cx)(ag:List (ae×Obj))(H:Hp)(b:ae):Prop:=
 H b=aj/\b≠X.env.locals/\b∉X.fs/\(b∈X.ex\/X.hX.heap.objs.size<=b)/\(∀x c,X.env.cells.lookup x=aa c->c≠b)/\∀p∈X.pn++ag,p.1≠b
def aG.nU{X:Cx}{W:St}{H Y:Hp}(I:aG X ag W H s)(Z:s.heap.objs.size<=b)(T:Y b=aj):lr X ag Y b:=by
 refine⟨T,mw (g8 I.lt Z),I.aa0 Z,.inr (c7 I.sz Z),λx c e z=>?_,λp V z=>?_⟩
 .obtain ⟨v,q⟩:=I.cell x c e;exact bq (g8 q.lt (by rw[z];exact Z)) (jP _)
 .exact bq (g8 (cI (I.j_ p V).1) (by rw[z];exact Z)) (jP _)
structure mB (P:aR) (w:aQ) (K:aw) (tg:Expr) (J:It) (fp:List ae) (it:ae) (tn:Nat->aK->Prop):Prop where
 mem:it∈fp
 obj:∀i h,tn i h->∀b∈fp,∃o,h.get? b=aa o/\∀v,o.data≠.cell v
 keep:∀i h h',tn i h->(∀b∈fp,∀o,h.get? b=aa o->h'.get? b=aa o)->tn i h'
 item:∀(X:Cx),X.prog=P->X.w=w->X.K=K->X.ij=ah->∀(i:Nat) (ag:List (ae×Obj)) (s:aD) (σ:St) (H:Hp) (E:af->aD->Prop),aG X ag σ H s->(∀b∈fp,lr X ag H b)->tn i s.heap->J.go i H->
  aN (model P w) X.A (js (.ref it)) (λr s1=>∃u,r=aa u/\aN (model P w) X.A (Ei tg (.ref it) u) (λ_ s2=>∃x H',aG X ag σ H' s2/\bL x u/\J.fj i H x H'/\tn (i+1) s2.heap/\∀b∈fp,H' b=aj) E s1) E s
 done:∀(X:Cx),X.prog=P->X.w=w->X.K=K->X.ij=ah->∀(i:Nat) (ag:List (ae×Obj)) (s:aD) (σ:St) (H:Hp) (E:af->aD->Prop),aG X ag σ H s->(∀b∈fp,lr X ag H b)->tn i s.heap->J.stop i H->
  aN (model P w) X.A (js (.ref it)) (λr s1=>r=aj/\aG X ag σ H s1) E s
 self:∀(A:b8) (i:Nat) (s:aD) (Q:af->aD->Prop) (E:af->aD->Prop),tn i s.heap->Q (.ref it) s->aN (model P w) A (su (.ref it)) Q E s
abbrev TI:=St->Hp->(It->Hp->Prop)->Prop
def DQ(X:Cx)(ag:List (ae×Obj))(V:St)(tg:Expr)(R:It->Hp->Prop)(Z:af)(W:aD):Prop:=
 ∃(it:ae) (fp:List ae) (tn:Nat->aK->Prop) (J:It) (Y:Hp),Z=.ref it/\aG X ag V Y W/\mB X.prog X.w X.K tg J fp it tn/\tn 0 W.heap/\(∀b∈fp,lr X ag Y b)/\R J Y
def PI(X:Cx)(tg iter:Expr)(Y:TI):Prop:=
 ∀(ag:List (ae×Obj)) (s:aD) (Z:St) (H:Hp) (R:It->Hp->Prop),aG X ag Z H s->Y Z H R->
  aN (model X.prog X.w) X.A (cC iter X.env) (λv W=>aN (model X.prog X.w) X.A (su v) (DQ X ag Z tg R) X.xe W) X.xe s
def u4{M:oO}{n:String}{Y:Array af}{Q:Unit->aD->Prop}(X:s.heap.get? it=aa o)(V:o.cls=.type n)(hd:o.data=.fields Y)(W:["enumerate","zip","dict_itemiterator","dict_reverseitemiterator","odict_iterator","itertools.zip_longest","itertools.pairwise"].contains n=aB)(Z:Q () s):aN M A (Ei tg (.ref it) u) Q E s:=by
 unfold Ei;cases tg<;>first
  |exact aV Z
  |(cases u<;>first
   |exact aV Z
   |(refine az (wpAny_load X ?_);rw[V,hd];show aN M A (if(["enumerate","zip","dict_itemiterator","dict_reverseitemiterator","odict_iterator","itertools.zip_longest","itertools.pairwise"].contains n&&Y[0]?==aa (eM _))=ah then _ else _) Q E s;rw[ay (by intro h;rw[W,dj]at h;cases h)];exact aV Z))
def zy(K:aw)(a:ae):It:=
 ⟨λi H=>∃xs x,aL K H a xs/\xs[i]?=aa x,λi H x Z=>Z=H/\∀xs,aL K H a xs->xs[i]?=aa x,λi H=>∃xs,aL K H a xs/\xs.length<=i⟩
def zA(K:aw)(a:ae):It:=
 ⟨λi H=>∃xs x,aY K H a xs/\xs[i]?=aa x,λi H x Z=>Z=H/\∀xs,aY K H a xs->xs[i]?=aa x,λi H=>∃xs,aY K H a xs/\xs.length<=i⟩
def zz(Z:Int)(n:Nat):It:=⟨λi _=>i<n,λi H x Y=>Y=H/\x=.int (Z+i),λi _=>n<=i⟩
def Q_(a Z:ae):mB P w K tg (zy K a) [Z] Z (λi h=>h.IsListIter Z a i)where
 mem:=by simp
 obj:=λi h st b Y=>by
  have e:b=Z:=‹Y›
  subst e;obtain⟨o,e,c,d⟩:=st;exact⟨o,e,λv z=>by rw[d]at z;cases z⟩
 keep:=λi h h' st k=>st.at λo e=>k Z (by simp) o e
 item:=by intro X N hw M B i ag s C H E I T st O;subst N hw M;obtain⟨xs,x,V,Q⟩:=O;obtain⟨R,S,p,hz⟩:=I.list V;obtain⟨u,r,y⟩:=S.get Q;obtain⟨D,F,q,G,J,L⟩:=T Z (by simp);refine Ta st p.isList (x:=u) ‹r› λh' W A=>?_;have m:aG X ag C H {s with heap:=h'}:=I.jl (t':=s.toks) (λb o Y e=>(A.2 b Y).trans e) D F G J L;obtain⟨o,e,c,d⟩:=id W;exact⟨u,U,u4 (s:={s with heap:=h'}) e c d (by decide) ⟨x,H,m,y,⟨U,λys t=>by rw[I.Gv t V];exact Q⟩,W,λb Y=>(T b Y).1⟩⟩
 done:=by intro X N hw M B i ag s C H E I T st O;subst N hw M;obtain⟨xs,V,Q⟩:=O;obtain⟨R,S,p,hz⟩:=I.list V;obtain⟨D,F,q,G,J,L⟩:=T Z (by simp);have l:=S.length;exact wpAny_pyNext_list_end (I.ok.hd B) st p.isList (by simp;lia) λh' n=>⟨U,I.jl (t':=s.toks) (λb o Y e=>n b o Y e) D F G J L⟩
 self:=λ_ _ _ _ _ st h=>wpAny_pyIter_listiter st h
def Ra(a Y:ae):mB P w K tg (zA K a) [Y] Y (λi h=>h.IsTupleIter Y a i)where
 mem:=by simp
 obj:=λi h st b W=>by
  have e:b=Y:=‹W›
  subst e;obtain⟨o,e,c,d⟩:=st;exact⟨o,e,λv z=>by rw[d]at z;cases z⟩
 keep:=λi h h' st k=>st.at λo e=>k Y (by simp) o e
 item:=by intro X N hw M B i ag s C H E I S st O;subst N hw M;obtain⟨xs,x,T,Q⟩:=O;obtain⟨Z,R,p,hz⟩:=I.tuple T;obtain⟨u,r,y⟩:=R.get Q;obtain⟨D,F,q,G,J,L⟩:=S Y (by simp);refine wpAny_pyNext_tuple_item st (show s.heap.IsTuple a Z.toArray from p) (x:=u) ‹r› λh' V A=>?_;have m:aG X ag C H {s with heap:=h'}:=I.jl (t':=s.toks) (λb o W e=>(A.2 b W).trans e) D F G J L;obtain⟨o,e,c,d⟩:=id V;exact⟨u,U,u4 (s:={s with heap:=h'}) e c d (by decide) ⟨x,H,m,y,⟨U,λys t=>by rw[I.C_ t T];exact Q⟩,V,λb W=>(S b W).1⟩⟩
 done:=by intro X N hw M B i ag s C H E I S st O;subst N hw M;obtain⟨xs,T,Q⟩:=O;obtain⟨Z,R,p,hz⟩:=I.tuple T;obtain⟨D,F,q,G,J,L⟩:=S Y (by simp);have l:=R.length;exact wpAny_pyNext_tuple_end (I.ok.hd B) st (show s.heap.IsTuple a Z.toArray from p) (by simp;lia) λh' n=>⟨U,I.jl (t':=s.toks) (λb o W e=>n b o W e) D F G J L⟩
 self:=λ_ _ _ _ _ st h=>wpAny_pyIter_tupleiter st h
def ag0(Z:ae)(T:Int)(n:Nat):mB P w K tg (zz T n) [Z] Z (λi h=>IsRangeIter h Z (T+(i:Nat)*1) ((n:Int)-(i:Nat)) 1)where
 mem:=by simp
 obj:=λi h st b Y=>by
  have e:b=Z:=‹Y›
  subst e;exact⟨_,st,λv z=>by have C:Data.fields _=Data.cell v:=z;cases C⟩
 keep:=λi h h' st k=>k Z (by simp) _ st
 item:=by intro X O hw N Q i ag s D H E I S st R;subst O hw N;obtain⟨F,G,y,J,L,M⟩:=S Z (by simp);have W:=Walks.range (prog:=X.prog) (w:=X.w) (I.ok.hd Q) Z T 1 n;refine W.item i s _ _ R st λv h' tk A V B=>?_;obtain⟨t,rfl⟩:=A;have u:aG X ag D H {s with heap:=h',toks:=tk}:=I.jl (λb o Y e=>B b o ‹Y› e) F G J L M;refine⟨_,U,u4 (s:={s with heap:=h',toks:=tk}) (n:="range_iterator") V U rfl (by decide) ⟨.int (T+i),H,u,⟨t,?_⟩,⟨U,U⟩,V,λb Y=>(S b Y).1⟩⟩;rw[Int.mul_one]
 done:=by intro X O hw N Q i ag s D H E I S st R;subst O hw N;obtain⟨F,G,y,J,L,M⟩:=S Z (by simp);exact wpAny_pyNext_range_end (I.ok.hd Q) st (by have:n<=i:=R;lia) λh' x=>⟨U,I.jl (t':=s.toks) (λb o Y e=>x b o Y e) F G J L M⟩
 self:=λ_ _ _ _ _ st h=>wpAny_pyIter_rangeiter st h
section
variable{X:Cx}{tg:Expr}
def Nn(K:aw)(tl:TE):TI:=λY H R=>tl Y H λx Z=>∃a,x=.ref a/\(∃xs,aL K Z a xs)/\R (zy K a) Z
def Nq(K:aw)(tl:TE):TI:=λY H R=>tl Y H λx Z=>∃a,x=.ref a/\(∃xs,aY K Z a xs)/\R (zA K a) Z
def acL{l:Expr}{tl:TE}(P:PE X l tl):PI X tg l (Nn X.K tl):=by
 intro ag s W H R I h;refine bT (P ag s W H _ I h) λv Z x N Y V T=>?_;obtain⟨a,e,⟨xs,Q⟩,q⟩:=T;subst e;cases V;obtain⟨S,M,p,hz⟩:=Y.list Q;refine Ab p.isList ?_;refine⟨Z.heap.objs.size,[Z.heap.objs.size],_,_,N,U,Y.eE (t':=Z.toks) λb o e=>cq _ e,Q_ a _,⟨_,dm _ U,U,U⟩,λb O=>?_,q⟩;have e:b=Z.heap.objs.size:=‹O›
 subst e;exact Y.nU (bp _) (Y.aW.fresh (bp _))
def acQ{l:Expr}{tl:TE}(P:PE X l tl):PI X tg l (Nq X.K tl):=by
 intro ag s V H R I h;refine bT (P ag s V H _ I h) λv Z x N Y T S=>?_;obtain⟨a,e,⟨xs,Q⟩,q⟩:=S;subst e;cases T;obtain⟨W,M,p,hz⟩:=Y.tuple Q;refine uE (show Z.heap.IsTuple a W.toArray from p) ?_;refine⟨Z.heap.objs.size,[Z.heap.objs.size],_,_,N,U,Y.eE (t':=Z.toks) λb o e=>cq _ e,Ra a _,⟨_,dm _ U,U,U⟩,λb O=>?_,q⟩;have e:b=Z.heap.objs.size:=‹O›
 subst e;exact Y.nU (bp _) (Y.aW.fresh (bp _))
def adu{W:St}{H:Hp}{R:It->Hp->Prop}{Z Y:Int}{t u v:Tok}{tk:Nat}(I:aG X ag W H s)(O:-(2^62)<=Z)(P:Z<2^62)(Q:-(2^62)<=Y)(S:Y<2^62)(q:R (zz Z (Y-Z).toNat) H):aN (model X.prog X.w) X.A (su (.ref s.heap.objs.size)) (DQ X ag W tg R) E {s with heap:=s.heap.push {cls:=.type "range",data:=.fields #[.int Z t,.int Y u,.int 1 v]},toks:=tk}:=by
 refine wpAny_pyIter_range (IsRange.new ..) (small_one O P Q S) ?_;have V:aG X ag W H {s with heap:=s.heap.push {cls:=.type "range",data:=.fields #[.int Z t,.int Y u,.int 1 v]},toks:=tk}:=I.eE λb o e=>cq _ e;refine⟨(s.heap.push {cls:=.type "range",data:=.fields #[.int Z t,.int Y u,.int 1 v]}).objs.size,[(s.heap.push {cls:=.type "range",data:=.fields #[.int Z t,.int Y u,.int 1 v]}).objs.size],_,_,H,U,V.eE (t':=tk) λb o e=>cq _ e,ag0 _ Z (Y-Z).toNat,?_,λb T=>?_,q⟩
 .have M:Z+((0:Nat):Int)*1=Z:=by simp
  have N:(((Y-Z).toNat:Nat):Int)-((0:Nat):Int)=Builtin.Range.rangeSize Z Y 1:=by rw[rangeSize_one];split<;>lia
  show IsRangeIter _ _ (Z+((0:Nat):Int)*1) ((((Y-Z).toNat:Nat):Int)-((0:Nat):Int)) 1;rw[M,N];exact dm _ U
 .have e:b=(s.heap.push {cls:=.type "range",data:=.fields #[.int Z t,.int Y u,.int 1 v]}).objs.size:=‹T›
  subst e;exact V.nU (bp _) (V.aW.fresh (bp _))
def Zj(Y:TA):TI:=λZ H R=>Y Z H λvs X=>∃i j:Int,vs=[.int i,.int j]/\(-(2^62)<=i/\i<2^62/\-(2^62)<=j/\j<2^62)/\R (zz i (j-i).toNat) X
def acN{a b:Expr}{V:TA}(L:Gl X "range")(M:X.mg "range"=aj)(K:PA X [a,b] V)(hs:cu [a,b] X.env=[(aB,cC a X.env),(aB,cC b X.env)]:=by rfl)(Z:cu [b] X.env=[(aB,cC b X.env)]:=by rfl):PI X tg (.Call (.Name "range" p) [a,b] [] pos) (Zj V):=by
 intro ag s T H R I h;refine Call_ (tE I L M boot_range (xb (k' (K pos ag s T H _ I h) λus F G E J S W=>?_) (by rw[hs,Z]) (by rw[Z];rfl)));obtain⟨i,j,e,⟨W,N,O,P⟩,q⟩:=W;subst e;cases S with
 |cons r Y=>
  cases Y with
  |cons Q Y=>
   cases Y;obtain⟨t,rfl⟩:=r;obtain⟨t',rfl⟩:=Q;exact call_range_2 (adu J W N O P q)
def agn(S:TI)(g:TG)(R:TS):TS:=λD Z H=>p5.casesOn (motive:=λ_=>Prop) D λdn Q _ _=>S Z H λJ O=>∃W:Nat->Nat->St->Hp->Prop,(∃m,W 0 m Z O)/\∀i m Z H,W i m Z H->
 (J.stop i H/\dn Z H)\/(J.go i H/\∃N:St->Hp->Prop,(∀Y X,N Y X->∃T,T<m/\W (i+1) T Y X)/\∀x X,J.fj i H x X->g x Z X λV P=>R ⟨N,Q,dn,N⟩ V P)
def yN(fp:List ae)(h:aK):List (ae×Obj):=fp.filterMap λb=>(h.get? b).map λo=>(b,o)
def GQ(Z:b∈fp)(e:h.get? b=aa o):(b,o)∈yN fp h:=R6.mpr ⟨b,Z,by rw[e];rfl⟩
def abb{p:ae×Obj}(Z:p∈yN fp h):p.1∈fp/\h.get? p.1=aa p.2:=by
 obtain⟨b,Y,e⟩:=R6.mp Z;cases q:h.get? b with
 |none=>rw[q]at e;cases e
 |some o=>
  rw[q]at e;have X:(b,o)=p:=dX e;subst X;exact⟨Y,q⟩
def aG.Ph{Z:St}{H:Hp}(I:aG X ag Z H s)(S:∀b∈fp,lr X ag H b)(T:∀b∈fp,∃o,s.heap.get? b=aa o/\∀v,o.data≠.cell v):aG X (ag++yN fp s.heap) Z H s:=
 I.Pj λp V=>(cZ.mp V).elim (λz=>I.j_ p (gZ _ z)) λz=>by obtain⟨Y,e⟩:=abb z;obtain⟨P,Q,R,_⟩:=S p.1 Y;obtain⟨o,W,d⟩:=T p.1 Y;rw[e]at W;cases W;exact⟨e,P,Q,R,d⟩
def aG.C'{pl:List (ae×Obj)}{Z:St}{H:Hp}(I:aG X (ag++pl) Z H s):aG X ag Z H s:=I.Pj λp Y=>I.j_ p (gZ _ (jq _ Y))
def eU{c:TI}{g:TG}{a:TS}(E:PassesOwn (model X.prog X.w) X.A X.env X.xe)(hc:X.ij=ah)(hi:PI X tg iter c)(hg:PG X tg g)(R:i7 X body a)(hs:∀x,foldedSetIterable iter X.env x=pure x:=by intro _;rfl):PS X (.For tg iter body [] pos) (agn c g a):=by
 intro ag s j H D I h;refine wpAny_For (fe (hi ag s j H _ I h) λv s1 h1=>fe h1 λZz s2 h2=>?_) hs;obtain⟨it,B,tn,J,H2,e,I2,T,t,f2,W,⟨m0,w0⟩,K⟩:=h2;subst e;have S:∀{O:Hp},(∀b∈B,O b=aj)->∀b∈B,lr X ag O b:=λhn b R=>⟨hn b R,(f2 b R).2⟩;refine codeAny_forLoop_any (λn s'=>∃i V O,aG X ag V O s'/\tn i s'.heap/\(∀b∈B,O b=aj)/\W i n V O) ?_ m0 ⟨0,j,H2,I2,t,λb R=>(f2 b R).1,w0⟩
 rintro n s3 ⟨i,Y,z,I3,G,C,w3⟩
 rcases K i n Y z w3 with⟨stop,qn⟩|⟨go,N,hN,step⟩
 .refine uD E (fe (T.done X U rfl rfl hc i ag s3 Y z X.xe I3 (S C) G stop) ?_)
  rintro r s4 ⟨p,I4⟩
  subst p;exact En ⟨Y,z,I4,qn⟩
 .refine uD E (fe (T.item X U rfl rfl hc i ag s3 Y z X.xe I3 (S C) G go) ?_)
  rintro r s4 ⟨u,p,h4⟩
  subst p;refine uD E (fe h4 ?_)
  rintro _ s5 ⟨x,H5,I5,r5,y5,L,l⟩
  have k:=I5.Ph (S l) (T.obj _ _ L);refine uD E (fe (hg _ s5 Y H5 x u _ k r5 (step x H5 y5)) ?_)
  rintro _ s6 ⟨y,H6,I6,q6⟩
  refine uD E (fe (R _ s6 y H6 _ I6 q6) λf q M=>?_);have again:∀{Z:St} {P:Hp},aG X (ag++yN B s5.heap) Z P q->N Z P->∃m,m<n/\∃i V O,aG X ag V O q/\tn i q.heap/\(∀b∈B,O b=aj)/\W i m V O:=λ{Z P} Q F=>by obtain⟨m',hm,w7⟩:=hN Z P F;refine⟨m',hm,i+1,Z,P,Q.C',T.keep _ _ _ L λb R o e=>(Q.j_ (b,o) (gZ _ (gZ _ (GQ R e)))).1,λb R=>?_,w7⟩;obtain⟨o,e,d⟩:=T.obj _ _ L b R;exact(Q.j_ (b,o) (gZ _ (gZ _ (GQ R e)))).2.1
  cases f with
  |next=>obtain⟨Z,P,Q,F⟩:=M;exact again Q F
  |cont=>obtain⟨Z,P,Q,F⟩:=M;exact again Q F
  |brk=>obtain⟨Z,P,Q,M⟩:=M;exact⟨Z,P,Q.C',M⟩
  |ret v=>obtain⟨x7,Z,P,Q,r7,M⟩:=M;exact⟨x7,Z,P,Q.C',r7,M⟩
end
abbrev R2:=V->V->Hp->VK->Prop
def eW(X:Cx)(f:af->af->Sem af)(r:R2):Prop:=
 ∀(ag:List (ae×Obj)) (s:aD) (Z:St) (H:Hp) (x y:V) (v u:af) (Q:VK),aG X ag Z H s->bL x v->bL y u->r x y H Q->
  aN (model X.prog X.w) X.A (f v u) (EP X ag Z Q) X.xe s
def Eu(X:Cx)(f:af->Sem af)(r:V->Hp->VK->Prop):Prop:=
 ∀(ag:List (ae×Obj)) (s:aD) (Z:St) (H:Hp) (x:V) (v:af) (Q:VK),aG X ag Z H s->bL x v->r x H Q->
  aN (model X.prog X.w) X.A (f v) (EP X ag Z Q) X.xe s
def i3(X:Cx)(f:af)(r:List V->Hp->VK->Prop):Prop:=
 ∀(ag:List (ae×Obj)) (s:aD) (Z:St) (H:Hp) (xs:List V) (us:List af) (Q:VK),aG X ag Z H s->bD xs us->r xs H Q->
  aN (model X.prog X.w) X.A (call f us) (EP X ag Z Q) X.xe s
def we(r:R2)(X Y:TE):TE:=λZ H Q=>X Z H λx V=>Y Z V λy W=>r x y W Q
def tUn(r:V->Hp->VK->Prop)(Y:TE):TE:=λZ H Q=>Y Z H λx X=>r x X Q
def rI(C:Int->Int->Prop)(g:Int->Int->V)(x:V)(y:V)(H:Hp)(Q:VK):Prop:=Cm x y λi j=>C i j/\Q (g i j) H
def tP(g:Int->Int->V)(x:V)(y:V)(H:Hp)(Q:VK):Prop:=Cm x y λi j=>Q (g i j) H
def rU(g:Int->V)(x:V)(H:Hp)(Q:VK):Prop:=HQ x λi=>Q (g i) H
section
variable{X:Cx}{a b:Expr}{ta tb:TE}{pos:Pos}
def EG(F:PE X a ta)(G:PE X b tb){Z:St}{H:Hp}{R:V->V->Hp->Prop}(I:aG X ag Z H s)(h:ta Z H λx P=>tb Z P λy Y=>R x y Y){f:af->af->Sem af}(J:∀v u S x y Y,aG X ag Z Y S->bL x v->bL y u->R x y Y->aN (model X.prog X.w) X.A (f v u) Q X.xe S):aN (model X.prog X.w) X.A (cC a X.env) (λv T=>aN (model X.prog X.w) X.A (cC b X.env) (λu W=>aN (model X.prog X.w) X.A (f v u) Q X.xe W) X.xe T) X.xe s:=by refine bT (F ag s Z H _ I h) λv O x P D M K=>?_;refine bT (G ag O Z P _ D K) λu S y Y E N L=>?_;exact J v u S x y Y E M N L
def b6{op:Operator}{r:R2}(T:eW X (nE op) r)(R:PE X a ta)(S:PE X b tb):PE X (.BinOp a op b pos) (we r ta tb):=by intro ag s Z H Q I h;exact wpAny_BinOp (EG R S I h λv u Y x y O P V W q=>T ag Y Z O x y v u Q P V W q)
def q0{op:UnaryOp}{r:V->Hp->VK->Prop}(S:Eu X (unaryOp op) r)(R:PE X a ta):PE X (.UnaryOp op a pos) (tUn r ta):=by intro ag s Z H Q I h;exact UnaryOp_ (bT (R ag s Z H _ I h) λv Y x O P W T=>S ag Y Z O x v Q P W T)
def opI{f:af->af->Sem af}{C:Int->Int->Prop}{g:Int->Int->Int}(rule:∀(i j:Int) (t u:Tok) (s:aD) (Q:af->aD->Prop) (E:af->aD->Prop),C i j->Q (.int (g i j) s.toks) {s with toks:=s.toks+1}->aN (model X.prog X.w) X.A (f (.int i t) (.int j u)) Q E s):eW X f (rI C λi j=>.int (g i j)):=by intro ag s V H x y v u Q I Y Z h;obtain⟨i,j,rfl,rfl,W,q⟩:=HP h;obtain⟨t,rfl⟩:=Y;obtain⟨t',rfl⟩:=Z;exact rule i j t t' s _ _ W ⟨.int (g i j),H,I.gH _,⟨_,U⟩,q⟩
def OJ{f:af->af->Sem af}{g:Int->Int->Int}(rule:∀(i j:Int) (t u:Tok) (s:aD) (Q:af->aD->Prop) (E:af->aD->Prop),Q (.int (g i j) s.toks) {s with toks:=s.toks+1}->aN (model X.prog X.w) X.A (f (.int i t) (.int j u)) Q E s):eW X f (tP λi j=>.int (g i j)):=by intro ag s W H x y v u Q I Y Z h;obtain⟨i,j,rfl,rfl,q⟩:=HP h;obtain⟨t,rfl⟩:=Y;obtain⟨t',rfl⟩:=Z;exact rule i j t t' s _ _ ⟨.int (g i j),H,I.gH _,⟨_,U⟩,q⟩
def Hs{f:af->af->Sem af}{g:Int->Int->Bool}(rule:∀(i j:Int) (t u:Tok) (s:aD) (Q:af->aD->Prop) (E:af->aD->Prop),Q (.bool (g i j)) s->aN (model X.prog X.w) X.A (f (.int i t) (.int j u)) Q E s):eW X f (tP λi j=>.bl (g i j)):=by intro ag s W H x y v u Q I Y Z h;obtain⟨i,j,rfl,rfl,q⟩:=HP h;obtain⟨t,rfl⟩:=Y;obtain⟨t',rfl⟩:=Z;exact rule i j t t' s _ _ ⟨.bl (g i j),H,I,U,q⟩
def Dm(i j:Int):Prop:=(-(2^64)<i/\i<2^64)\/(-(2^64)<j/\j<2^64)
def Dm.ok{i j:Int}(h:Dm i j):IntMulOk i j:=by
 rcases h with⟨Y,Z⟩|⟨Y,Z⟩
 .exact .of_left (intBits_le_64 Y Z)
 .exact .of_right (intBits_le_64 Y Z)
def f9:eW X (nE .Add) (tP λi j=>.int (i+j)):=OJ λ_ _ _ _ _ _ _ q=>add_int q
def iK:eW X (nE .Sub) (tP λi j=>.int (i-j)):=OJ λ_ _ _ _ _ _ _ q=>sub_int q
def OO:eW X (nE .Mult) (rI Dm λi j=>.int (i*j)):=opI λ_ _ _ _ _ _ _ Z q=>mul_int q Z.ok
def unI{f:af->Sem af}{g:Int->Int}(rule:∀(i:Int) (t:Tok) (s:aD) (Q:af->aD->Prop) (E:af->aD->Prop),Q (.int (g i) s.toks) {s with toks:=s.toks+1}->aN (model X.prog X.w) X.A (f (.int i t)) Q E s):Eu X f (rU λi=>.int (g i)):=by intro ag s Y H x v Q I Z h;obtain⟨i,rfl,q⟩:=PR h;obtain⟨t,rfl⟩:=Z;exact rule i t s _ _ ⟨.int (g i),H,I.gH _,⟨_,U⟩,q⟩
def ro:Eu X (unaryOp .USub) (rU λi=>.int (-i)):=unI λ_ _ _ _ _ q=>neg_int q
end
def Qd:V->V->Bool
 |.bW,.bW=>ah|.bW,.int _=>ah|.int _,.bW=>ah|.bW,.bl _=>ah|.bl _,.bW=>ah|.bW,.str _=>ah|.str _,.bW=>ah
 |.int _,.int _=>ah|.bl _,.bl _=>ah|.str _,.str _=>ah|.jb _,.jb _=>ah
 |.int _,.str _=>ah|.str _,.int _=>ah|.bl _,.str _=>ah|.str _,.bl _=>ah
 |_,_=>aB
def rEq:R2:=λx y H Q=>Qd x y=ah/\Q (.bl (decide (x=y))) H
def rNe:R2:=λx y H Q=>Qd x y=ah/\Q (.bl (!decide (x=y))) H
def LQ{i j:Int}:decide (V.int i=V.int j)=(i==j):=by rw[Dk];simp
def LO{i j:Bool}:decide (V.bl i=V.bl j)=(i==j):=by rw[Dk];simp
def LR{i j:Str}:decide (V.str i=V.str j)=(i==j):=by rw[Dk];simp
def LP{i j:Array UInt8}:decide (V.jb i=V.jb j)=(i.toList==j.toList):=by rw[Dk];cases i;cases j;simp
section
variable{X:Cx}{a b c:Expr}{ta tb tc:TE}{pos:Pos}
def fc{Z:St}{H:Hp}{Q:VK}{k Y:Bool}(I:aG X ag Z H s)(q:Q (.bl k) H)(e:k=Y):EP X ag Z Q (.bool Y) s:=by subst e;exact⟨.bl k,H,I,U,q⟩
def dI:eW X (gy .Eq) rEq:=by
 intro ag s V H x y v u Q I Y Z h;obtain⟨hs,q⟩:=h;cases x with
 |bW=>
  cases Y;cases y with
  |bW=>cases Z;exact PySem.EqNone.eq_none_none (fc I q (by simp))
  |bl j=>cases Z;exact PySem.EqNone.eq_none_bool (fc I q (by simp))
  |int j=>obtain⟨t',rfl⟩:=Z;exact PySem.EqNone.eq_none_int (fc I q (by simp))
  |str j=>obtain⟨t',rfl⟩:=Z;exact PySem.EqNone.eq_none_str (fc I q (by simp))
  |_=>exact bq (show aB=ah from hs) cg
 |bl i=>
  cases Y;cases y with
  |bW=>cases Z;exact PySem.EqNone.eq_bool_none (fc I q (by simp))
  |bl j=>cases Z;exact eq_bool (fc I q LO)
  |str j=>obtain⟨t',rfl⟩:=Z;exact PySem.EqMixed.eq_bool_str (fc I q (by simp))
  |_=>exact bq (show aB=ah from hs) cg
 |int i=>
  obtain⟨t,rfl⟩:=Y;cases y with
  |bW=>cases Z;exact PySem.EqNone.eq_int_none (fc I q (by simp))
  |int j=>obtain⟨t',rfl⟩:=Z;exact eq_int (fc I q LQ)
  |str j=>obtain⟨t',rfl⟩:=Z;exact PySem.EqMixed.eq_int_str (fc I q (by simp))
  |_=>exact bq (show aB=ah from hs) cg
 |str i=>
  obtain⟨t,rfl⟩:=Y;cases y with
  |bW=>cases Z;exact PySem.EqNone.eq_str_none (fc I q (by simp))
  |bl j=>cases Z;exact PySem.EqMixed.eq_str_bool (fc I q (by simp))
  |int j=>obtain⟨t',rfl⟩:=Z;exact PySem.EqMixed.eq_str_int (fc I q (by simp))
  |str j=>obtain⟨t',rfl⟩:=Z;exact eq_str (fc I q LR)
  |_=>exact bq (show aB=ah from hs) cg
 |jb i=>
  obtain⟨t,rfl⟩:=Y;cases y with
  |jb j=>obtain⟨t',rfl⟩:=Z;exact PySem.W.eq_bytes (fc I q LP)
  |_=>exact bq (show aB=ah from hs) cg
 |_=>cases y<;>exact bq (show aB=ah from hs) cg
def qZ:eW X (gy .NotEq) rNe:=by
 intro ag s V H x y v u Q I Y Z h;obtain⟨hs,q⟩:=h;cases x with
 |bW=>
  cases Y;cases y with
  |bW=>cases Z;exact PySem.EqNone.ne_none_none (fc I q (by simp))
  |bl j=>cases Z;exact PySem.EqNone.ne_none_bool (fc I q (by simp))
  |int j=>obtain⟨t',rfl⟩:=Z;exact PySem.EqNone.ne_none_int (fc I q (by simp))
  |str j=>obtain⟨t',rfl⟩:=Z;exact PySem.EqNone.ne_none_str (fc I q (by simp))
  |_=>exact bq (show aB=ah from hs) cg
 |bl i=>
  cases Y;cases y with
  |bW=>cases Z;exact PySem.EqNone.ne_bool_none (fc I q (by simp))
  |bl j=>cases Z;exact ne_bool (fc I q (b_ not LO))
  |str j=>obtain⟨t',rfl⟩:=Z;exact PySem.EqMixed.ne_bool_str (fc I q (by simp))
  |_=>exact bq (show aB=ah from hs) cg
 |int i=>
  obtain⟨t,rfl⟩:=Y;cases y with
  |bW=>cases Z;exact PySem.EqNone.ne_int_none (fc I q (by simp))
  |int j=>obtain⟨t',rfl⟩:=Z;exact ne_int (fc I q (b_ not LQ))
  |str j=>obtain⟨t',rfl⟩:=Z;exact PySem.EqMixed.ne_int_str (fc I q (by simp))
  |_=>exact bq (show aB=ah from hs) cg
 |str i=>
  obtain⟨t,rfl⟩:=Y;cases y with
  |bW=>cases Z;exact PySem.EqNone.ne_str_none (fc I q (by simp))
  |bl j=>cases Z;exact PySem.EqMixed.ne_str_bool (fc I q (by simp))
  |int j=>obtain⟨t',rfl⟩:=Z;exact PySem.EqMixed.ne_str_int (fc I q (by simp))
  |str j=>obtain⟨t',rfl⟩:=Z;exact ne_str (fc I q (b_ not LR))
  |_=>exact bq (show aB=ah from hs) cg
 |jb i=>
  obtain⟨t,rfl⟩:=Y;cases y with
  |jb j=>obtain⟨t',rfl⟩:=Z;exact PySem.W.ne_bytes (fc I q (b_ not LP))
  |_=>exact bq (show aB=ah from hs) cg
 |_=>cases y<;>exact bq (show aB=ah from hs) cg
def pN:eW X (gy .Lt) (tP λi j=>.bl (decide (i<j))):=Hs λ_ _ _ _ _ _ _ q=>lt_int q
def d3:eW X (gy .LtE) (tP λi j=>.bl (decide (i<=j))):=Hs λ_ _ _ _ _ _ _ q=>le_int q
def ON:eW X (gy .Gt) (tP λi j=>.bl (decide (j<i))):=Hs λ_ _ _ _ _ _ _ q=>gt_int q
def cB(b:Expr)(h:op≠.In:=by decide)(Z:op≠.NotIn:=by decide):behindInMarks op b=aB:=by
 have X:(op==CmpOp.In)=aB:=by cases op<;>first|rfl|exact bq U h
 have Y:(op==CmpOp.NotIn)=aB:=by cases op<;>first|rfl|exact bq U Z
 cases b<;>simp[behindInMarks,X,Y]
def lW{r:R2}(T:eW X (gy op) r)(P:PE X a ta)(R:PE X b tb)(S:behindInMarks op b=aB):PE X (.Compare a [op] [b] pos) (we r ta tb):=by intro ag s Z H Q I h;exact wpAny_Compare1 (EG P R I h λv u Y x y N O V W q=>T ag Y Z N x y v u Q O V W q) S
def bB(Q:Bool->Hp->Prop)(x:V)(H:Hp):Prop:=pQ x λk=>Q k H
def IX(t:TE):TT:=λZ H Q=>t Z H (bB Q)
def cK{r:R2}(N:eW X (gy op) r)(K:PE X a ta)(L:PE X b tb)(M:behindInMarks op b=aB):PT X (.Compare a [op] [b] pos) (IX (we r ta tb)):=by
 intro ag s Z H Q I h;refine wpAny_isTrue_Compare1 (bT (K ag s Z H _ I h) λv V x C F R O=>bT (L ag V Z C _ F O) λu W y D G S P=>bT (N ag W Z D x y v u _ G R S P) ?_) M
 rintro c B z E J T Y
 obtain⟨k,e,Y⟩:=ke Y;subst e;cases T;exact i_ ⟨E,J,Y⟩
def QX(r W:R2)(ta tb tc:TE):TE:=λZ H Q=>ta Z H λx S=>tb Z S λy T=>r x y T λz Y=>pQ z λk=>
 (if k=ah then tc Z Y λX V=>W y X V Q else Q (.bl aB) Y)
noncomputable def Hx{Z:fD}{r S:R2}(A:eW X (gy op) r)(V:eW X (gy Z) S)(p:PE X a ta)(q:PE X b tb)(t:PE X c tc)(w:Eh [op,Z] [b,c]=aB:=by with_unfolding_all rfl):PE X (.Compare a [op,Z] [b,c] pos) (QX r S ta tb tc):=by
 intro ag s Y H Q I h;refine Compare_chain (bT (p ag s Y H _ I h) λv J x i m E B=>chain_link (bT (q ag J Y i _ m B) λu K y j n T C=>bT (A ag K Y j x y v u _ n E T C) ?_)) w
 rintro d L z P R F W
 obtain⟨k,e,W⟩:=ke W;subst e;cases F;refine i_ ?_;cases k with
 |false=>exact xf ⟨.bl aB,P,R,U,W⟩
 |true=>exact xg (chain_last (bT (t ag L Y P _ R W) λN M O l o G D=>V ag M Y l y O u N Q o T G D))
def oi{Z:fD}{r R:R2}(t:eW X (gy op) r)(T:eW X (gy Z) R)(n:PE X a ta)(o:PE X b tb)(p:PE X c tc)(q:Eh [op,Z] [b,c]=aB:=by with_unfolding_all rfl):PT X (.Compare a [op,Z] [b,c] pos) (IX (QX r R ta tb tc)):=by
 intro ag s Y H Q I h;refine isTrue_chain (bT (n ag s Y H _ I h) λv G x H1 g C w=>test_link (bT (o ag G Y H1 _ g w) λu J y H2 i S A=>bT (t ag J Y H2 x y v u _ i C S A) ?_)) q
 rintro d K z O P D W
 obtain⟨k,e,W⟩:=ke W;subst e;cases D;refine i_ ?_;cases k with
 |false=>
  exact xf ⟨O,P,W⟩
 |true=>
  refine xg (test_last (bT (p ag K Y O _ P W) λM L N H4 j E B=>bT (T ag L Y H4 y N u M _ j S E B) ?_))
  rintro d' s5 z2 f l F V
  obtain⟨k2,m,V⟩:=ke V;subst m;cases F;exact i_ ⟨f,l,V⟩
def BF:(aS:Nat)<2^63:=by rw[z_];decide
def wm{x:V}(r:bD [x] us):∃u,us=[u]/\bL x u:=by
 cases r with
 |cons Y Z=>cases Z;exact⟨_,U,Y⟩
def ag9{x y:V}(r:bD [x,y] us):∃u Z,us=[u,Z]/\bL x u/\bL y Z:=by
 cases r with
 |cons T W=>
  cases W with
  |cons X Y=>cases Y;exact⟨_,_,U,T,X⟩
end
structure ui (h:aK) (x dx C:ae) (mA:Str->Option af):Prop where
 obj:h.get? x=aa (r9 C dx)
 ns:h.Ns1 dx mA
 ne:dx≠x
def Z4{Y:Str->Option af}(n:h.Ns1 dx Y):∃od,h.get? dx=aa od/\∀name,KC name od=aa (Y name):=by
 obtain⟨o,es,ep,V,hd,hk,_,T⟩:=n;refine⟨o,V,λname=>?_⟩;have e:=T name;unfold nsFind findBy at e;rw[<-Array.find?_toList]at e;unfold KC;rw[hd];dsimp only;split
 .rename_i y q;rw[q]at e;exact b_ aa e
 .rename_i q;rw[q]at e;have a:es.toList.any (·.refKey)=aB:=by
   rw[zC];intro y X;obtain⟨z,t,Z⟩:=hk y (Array.mem_toList_iff.mp X);simp[DictEntry.refKey,Z]
  have S:¬es.toList.any (·.refKey)=ah:=by rw[a];exact cg
  rw[ay S];exact b_ aa e
def ui.look{x:ae}{Z:Str->Option af}(I:ui h x dx C Z):∃od,PySem.W.InstAt h x (r9 C dx) C (aa od)/\∀name,KC name od=aa (Z name):=
 let⟨od,Y,X⟩:=Z4 I.ns
 ⟨od,⟨I.obj,U,U,Y⟩,X⟩
section
variable{prog:aR}{w:aQ}{A:b8}{E:af->aD->Prop}{s:aD}{K:aw}{x dx C f:ae}{mA:Str->Option af}{name:Str}{v:af}
def W9{expr:Bool}(X:K.In s.heap)(I:ui s.heap x dx C mA)(S:Ec K C name=ah)(T:Ea K C=ah)(R:oS K (.ref C) name=aa aj)(Y:mA name=aa v)(Z:S2 v=ah)(h:Q v {s with toks:=s.toks+1}):aN (model prog w) A (getAttr (.ref x) name expr) Q E s:=by obtain⟨od,J,V⟩:=I.look;exact PySem.W.get_value X J (PySem.W.plainGet_of S).1 (PySem.W.findObj_own T R U (by rw[V,Y])) Z h
def aet{ns:List Str}{Q:Unit->aD->Prop}(X:K.In s.heap)(I:ui s.heap x dx C mA)(hs:oS K (.ref C) "__setattr__"=aa (aa (.builtin "object.__setattr__")))(N:KI K C=ah)(O:KJ K C name=aa aj)(M:Ea K C=ah)(hw:KN mA ns)(hsz:ns.length<=aS)(h:∀h',ui h' x dx C (λy=>if y=name then aa v else mA y)->qg dx s.heap h'->Q () {s with heap:=h',toks:=s.toks+2}):aN (model prog w) A (setAttr (.ref x) name v) Q E s:=by obtain⟨od,J,D⟩:=I.look;refine PySem.W.set_plain X J hs (PySem.W.osa_open (s:={s with toks:=s.toks+1}) (r:=aj) X J N O λb=>?_);obtain⟨B,L,S⟩:=PySem.W.any_some M;have P:s.heap.get? x=aa ⟨.ref C,aa dx,.plain,#[]⟩:=I.obj;refine az (aV (az (az (wpAny_loadPart P (az (PySem.W.Looks.here (s:={s with toks:=s.toks+1}) (PySem.W.looks_clsIn X L) ?_))))));rw[S];refine aV (a:=aa dx) (az (aV (az ?_)));refine wpAny_nsSet1 (s:={s with toks:=s.toks+1}) I.ns λh' Y Z=>?_;obtain⟨F,H,G,V,T,R⟩:=Y.count (PySem.Within.cons name v hw);refine az (wpAny_lookBehind V (by rw[T];exact pastItsLine_dict (c7 R (by rw[bY];lia))) ?_);exact aV (h _ ⟨(Z.2 _ (cU I.ne)).trans I.obj,Y,I.ne⟩ Z)
def aaj{R:Result->aD->Prop}(X:K.In s.heap)(Z:KG K C=ah)(Y:oS K (.ref C) "__init__"=aa (aa (.ref f)))(V:PySem.W.typeIn K (.ref f)=aa (.type "function"))(h:nF (model prog w) (A.under (.builtin "type.__call__" ⟨.ref C::vs,kw⟩)) (.call (.ref f) ⟨.ref (s.heap.objs.size+1)::vs,kw⟩) (PySem.W.InitBack (s.heap.objs.size+1) R) {s with heap:=(s.heap.push qk).push (r9 C s.heap.objs.size)}):nF (model prog w) A (.call (.ref C) ⟨vs,kw⟩) R s:=by obtain⟨T,g,d,t,os⟩:=s;exact PySem.W.make_core (PySem.W.makes_of X Z) (PySem.W.looks_findIn X Y) (λself=>PySem.W.bind_fn X self V) (.inl U) h
end
def dJ(f:Str)(v:V):List (Str×V)->List (Str×V)
 |[]=>[(f,v)]
 |(g,x)::r=>if g=f then(g,v)::r else(g,x)::dJ f v r
theorem NT(f g:Str)(v:V):∀fs:List (Str×V),(dJ f v fs).lookup g=if g=f then aa v else fs.lookup g
 |[]=>by
  show lu g [(f,v)]=_;by_cases h:g=f
  .have Z:(g==f)=ah:=iE.mpr h;simp only[lu,Z,aA h]
  .have Z:(g==f)=aB:=fX.mpr h;simp only[lu,Z,ay h]
 |(k,x)::r=>by
  have Y:=NT f g v r;rw[show dJ f v ((k,x)::r)=(if k=f then(k,v)::r else(k,x)::dJ f v r)from U];by_cases hk:k=f
  .rw [aA hk];by_cases h:g=k
   .have Z:(g==k)=ah:=iE.mpr h;simp only[lu,Z,aA (h.trans hk)]
   .have Z:(g==k)=aB:=fX.mpr h;simp only[lu,Z,ay (λe:g=f=>h (e.trans hk.symm))]
  .rw [ay hk];by_cases h:g=k
   .have Z:(g==k)=ah:=iE.mpr h;simp only[lu,Z,ay (λe:g=f=>hk (h.symm.trans e))]
   .have Z:(g==k)=aB:=fX.mpr h;simp only[lu,Z];exact Y
theorem Gn(f:Str)(v:V):∀fs:List (Str×V),f∈(dJ f v fs).map (·.1)/\∀g,g∈fs.map (·.1)->g∈(dJ f v fs).map (·.1)
 |[]=>⟨by simp[dJ],λg h=>by simp at h⟩
 |(k,x)::r=>by
  obtain⟨Y,Z⟩:=Gn f v r;rw[show dJ f v ((k,x)::r)=(if k=f then(k,v)::r else(k,x)::dJ f v r)from U];by_cases hk:k=f
  .rw [aA hk];subst hk;exact⟨by simp,λg h=>‹h›⟩
  .rw [ay hk];refine⟨?_,λg h=>?_⟩
   .rw [bM];exact cj _ Y
   .rw [bM]at h⊢;rcases bJ.mp h with e|e
    .exact bJ.mpr (.inl e)
    .exact cj _ (Z g e)
theorem NM(f:Str)(v:V):∀fs:List (Str×V),(dJ f v fs).length<=fs.length+1
 |[]=>by simp[dJ]
 |(k,x)::r=>by
  have Z:=NM f v r;rw[show dJ f v ((k,x)::r)=(if k=f then(k,v)::r else(k,x)::dJ f v r)from U];by_cases hk:k=f
  .rw [aA hk,bY,bY];lia
  .rw [ay hk,bY,bY];lia
def iC.CP{v:V}{o:Option af}(r:iC (aa v) o):∃u,o=aa u/\bL v u:=by
 cases o with
 |none=>exact(show False from r).elim
 |some u=>exact⟨u,U,r⟩
def Xt{v:V}(r:bL v u):S2 u=ah:=by
 cases v with
 |bW=>cases(show u=iA from r);rfl
 |bl b=>cases(show u=r4 b from r);rfl
 |int i=>obtain⟨t,e⟩:=(show∃t,u=z0 i t from r);cases e;rfl
 |str x=>obtain⟨t,e⟩:=(show∃t,u=D_ x t from r);cases e;rfl
 |jb b=>obtain⟨t,e⟩:=(show∃t,u=Value.bytes b t from r);cases e;rfl
 |A2 b=>obtain⟨t,e⟩:=(show∃t,u=Value.float b t from r);cases e;rfl
 |ref a=>cases(show u=cR a from r);rfl
 |ty n=>cases(show u=kD n from r);rfl
section
variable{P:aR}{w:aQ}{H:Hp}{h:aK}{a C dx:ae}{fs:List (Str×V)}
def Nt(aW:dk P w H h)(e:H a=aa (.ins C dx fs)):∃Z,ui h a dx C Z/\(∀f,iC (fs.lookup f) (Z f))/\KN Z (fs.map (·.1))/\fs.length<=1000/\H dx=aa (.own a):=by obtain⟨d,z,ne,ob,Z,n,r,q⟩:=(show eC P w H h a (.ins C dx fs)from aW a _ e);exact⟨Z,⟨ob,n,ne⟩,r,q,z,d⟩
end
structure lj (K:aw) (C:ae):Prop where
 pg:Ec K C Str.empty=ah
 hd:Ea K C=ah
 po:KI K C=ah
 sa:oS K (.ref C) "__setattr__"=aa (aa (.builtin "object.__setattr__"))
def lj.get(c:lj K C)(f:Str):Ec K C f=ah:=c.pg
def eV(K:aw)(C:ae)(f:Str):Prop:=oS K (.ref C) f=aa aj
def eV.agK{f:Str}(n:eV K C f):KJ K C f=aa aj:=by unfold KJ;rw[show oS K (.ref C) f=aa aj from n];rfl
section
variable{X:Cx}{ag:List (ae×Obj)}{σ:St}{H:Hp}{s:aD}{a C dx:ae}{fs:List (Str×V)}{f:Str}{v:V}{A:b8}{E:af->aD->Prop}
def W_{b:Bool}(I:aG X ag σ H s)(e:H a=aa (.ins C dx fs))(c:lj X.K C)(n:eV X.K C f)(l:fs.lookup f=aa v)(h:∀u s',aG X ag σ H s'->bL v u->Q u s'):aN (model X.prog X.w) A (getAttr (.ref a) f b) Q E s:=by obtain⟨Y,O,r,_,_,_⟩:=Nt I.aW e;obtain⟨u,W,Z⟩:=iC.CP (v:=v) (o:=Y f) (by rw[<-l];exact r f);exact W9 I.ip O (c.get f) c.hd n W (Xt Z) (h u _ (I.gH _) Z)
def aew{y:V}{Q:Unit->aD->Prop}(I:aG X ag σ H s)(e:H a=aa (.ins C dx fs))(c:lj X.K C)(n:eV X.K C f)(L:fs.length<1000)(R:bL y u)(h:∀s',aG X ag σ (aM H a (.ins C dx (dJ f y fs))) s'->Q () s'):aN (model X.prog X.w) A (setAttr (.ref a) f u) Q E s:=by
 obtain⟨W,O,r,Y,_,T⟩:=Nt I.aW e;have hz:(fs.map (·.1)).length<=aS:=by rw[aP,z_];lia
 refine aet I.ip O c.sa c.po n.agK c.hd Y hz λh' Z S=>h _ ?_;have hd:∃o,h'.get? dx=aa o:=let⟨o,_,_,M,_⟩:=Z.ns;⟨o,M⟩;refine I.oB (x:=a) (e:=dx) (by rw[e];exact o3) (.inr T) (λb q N z=>(S.2 b N).trans z) hd ?_;refine⟨by rw[a_ O.ne];exact T,?_,O.ne,Z.obj,_,Z.ns,λg=>?_,λg P=>?_⟩
 .have:=NM f y fs;lia
 .show iC ((dJ f y fs).lookup g) (if g=f then aa u else W g);rw[NT];by_cases q:g=f
  .rw [aA q,aA q];exact R
  .rw [ay q,ay q];exact r g
 .by_cases q:g=f
  .rw [q];exact(Gn f y fs).1
  .refine (Gn f y fs).2 g (Y g λz=>P ?_);show(if g=f then aa u else W g)=aj;rw[ay q];exact z
def aG.made(I:aG X ag σ H s):aG X ag σ (aM (aM H s.heap.objs.size (.own (s.heap.objs.size+1))) (s.heap.objs.size+1) (.ins C s.heap.objs.size [])) {s with heap:=(s.heap.push qk).push (r9 C s.heap.objs.size)}:=by
 have Z:(s.heap.push qk).get? s.heap.objs.size=aa qk:=dm s.heap U;have T:((s.heap.push qk).push (r9 C s.heap.objs.size)).get? (s.heap.objs.size+1)=aa (r9 C s.heap.objs.size):=by have:=dm (s.heap.push qk) (o:=r9 C s.heap.objs.size) U;rwa[fU]at this
 have V:(s.heap.push qk).Ns s.heap.objs.size (λ_=>aj):=⟨qk,#[],_,Z,U,(λe he=>bq he (by simp)),λ_=>rfl⟩;have S:=I.laid (a:=s.heap.objs.size) (o:=.own (s.heap.objs.size+1)) (h':=s.heap.push qk) (t':=s.toks) (λb u q=>cq _ q) (bp _) ⟨_,Z⟩;refine S.laid (a:=s.heap.objs.size+1) (o:=.ins C s.heap.objs.size []) (t':=s.toks) (λb u q=>cq _ q) (zM (fU _ _)) ?_;have ne:s.heap.objs.size≠s.heap.objs.size+1:=c8 (qc _);refine⟨by rw[a_ ne,aJ],cN _,ne,T,λ_=>aj,(Heap.Ns1.of_empty V).at λo q=>cq _ q,λ_=>o3,λy Y=>bq U Y⟩
def TU{env:Env}{f:Str}{s:aD}(Y:xo e f env (cC e env)=cC e env)(h:aN (model prog w) A (cC e env) (λo Z=>aN (model prog w) A (getAttr o f ah) Q E Z) E s):aN (model prog w) A (cC (.Attribute e f pos) env) Q E s:=
 Attribute_any_ h (by rw[arm_eval_Attribute,Y])
end
structure eN (k:Nat) (A:b8):Prop where
 hd:A.handled=aj
 dp:A.depth+3*k+5<recursionLimit
 un:A.units+16*k+200<du
def eN.mono{k:Nat}(r:eN k A)(h:j<=k):eN j A:=⟨r.hd,by have:=r.dp;lia,by have:=r.un;lia⟩
theorem eN.deeper{k:Nat}{A:b8}(r:eN (k+1) A)(env:Env):eN k (A.deeper env):=
 ⟨r.hd,by have:=r.dp;show A.depth+1+3*k+5<_;lia,by have:=r.un;show A.units+3+16*k+200<_;lia⟩
def aai:(A.under (.builtin "type.__call__" ⟨.ref C::us,kw⟩)).depth=A.depth+1:=by
 first|rfl|simp[Ke,Code.weight,Code.isCreation,Code.isGuard,Code.isCaller,Code.frames,Code.isFrame,guardIds]
def aak:(A.under (.builtin "type.__call__" ⟨.ref C::us,kw⟩)).units=A.units+1:=by
 first|rfl|simp[Ke,Code.cUnits,Code.frames,Code.isFrame]
def eN.GI{k:Nat}(r:eN (k+1) A)(C:ae)(us:List af)(kw:List (Str×af)):eN k (A.under (.builtin "type.__call__" ⟨.ref C::us,kw⟩)):=
 ⟨r.hd,by have:=r.dp;rw[aai];lia,by have:=r.un;rw[aak];lia⟩
theorem eN.depth{k:Nat}{A:b8}(r:eN k A):A.depth<recursionLimit:=by have:=r.dp;lia
theorem eN.units{k:Nat}{A:b8}(r:eN k A):A.units+64<du:=by have:=r.un;lia
def oy:TA:=λ_ H Q=>Q [] H
def m_(X:TE)(Y:TA):TA:=λZ H Q=>X Z H λx V=>Y Z V λxs W=>Q (x::xs) W
section
variable{X:Cx}{e:Expr}{es:List Expr}{te:TE}{t:TA}{pos:Pos}
def aq:PA X [] oy:=λ_ _ _ _ H Q I h=>Kh ⟨[],H,I,.nil,h⟩
def ai(P:PE X e te)(R:PA X es t)(hs:cu (e::es) X.env=(aB,cC e X.env)::cu es X.env:=by rfl):PA X (e::es) (m_ te t):=by intro pos ag s Z H Q I h;rw[hs];show aN _ _ (spliced ((aB,cC e X.env)::gj pos (cu es X.env))) _ _ s;refine zW (bT (P ag s Z H _ I h) λu Y x L N V S=>?_);exact k' (R pos ag Y Z L _ N S) λus K xs M O W T=>⟨x::xs,M,O,.cons V W,T⟩
def agF(t:TA):TE:=λY H Q=>t Y H λxs Z=>xs.length<=aS/\∀p,Z p=aj->Q (.ref p) (aM Z p (.bh xs))
def agr(t:TA):TE:=λY H Q=>t Y H λxs Z=>xs.length<=aS/\∀p,Z p=aj->Q (.ref p) (aM Z p (.aC xs))
def fB{T}(h:PA X es t):PE X (.Tuple es T pos) (agF t):=by intro ag s V H Q I S;refine wpAny_Tuple_spliced (k' (h pos ag s V H _ I S) λus Z xs W Y r ⟨z,q⟩=>⟨by rw[<-r.length];exact z,?_⟩);have R:W Z.heap.objs.size=aj:=Y.aW.fresh (bp _);refine⟨.ref Z.heap.objs.size,aM W Z.heap.objs.size (.bh xs),Y.laid (t':=Z.toks) (λb u e=>cq _ e) (bp _) ?_,U,q _ R⟩;exact⟨z,us,r,⟨_,dm _ U,U,_,U,U⟩⟩
def b9(h:PA X es t):PE X (.List es pos) (agr t):=by intro ag s V H Q I T;refine wpAny_List_spliced (k' (h pos ag s V H _ I T) λus Z xs W Y r ⟨z,q⟩=>⟨by rw[<-r.length];exact z,?_⟩);have S:W Z.heap.objs.size=aj:=Y.aW.fresh (bp _);refine⟨.ref Z.heap.objs.size,aM W Z.heap.objs.size (.aC xs),Y.laid (t':=Z.toks) (λb u e=>cq _ e) (bp _) ?_,U,q _ S⟩;exact⟨z,us,0,r,dm _ U⟩
end
abbrev Sp:=List V->Hp->VK->XK->Prop
abbrev nh:=List Env->Hp->aD->XK->af->aD->Prop
structure rz (P:aR) (w:aQ) (K:aw) (mg:Str->Option af) (base:aK) (A:b8) (outer:List Env) (s:aD) (H:Hp):Prop where
 frames:A.frames=aa outer
 mod:zL K mg base
 bs:∀b o,base.get? b=aa o->s.heap.get? b=aa o/\H b=aj
 nQ:base.objs.size<=s.heap.objs.size
 lM:s.heap.FunFrames base outer
 sS:∀b∈mR outer,H b=aj
 aW:dk P w H s.heap
 gm:uk s.gens
def CE(outer:List Env)(P:aR)(w:aQ)(H:Hp)(s:aD)(Q:VK)(u:af)(s':aD):Prop:=
 ∃v Z,s'.os=s.os/\uk s'.gens/\Un (mR outer) [] H Z s.heap s'.heap/\dk P w Z s'.heap/\bL v u/\Q v Z
def CR(CX:nh)(outer:List Env)(P:aR)(w:aQ)(H:Hp)(s:aD)(Q:VK)(E:XK)(r:Result)(s':aD):Prop:=
 match r with
 |.ok (.ret u)=>CE outer P w H s Q u s'
 |.ok _=>False
 |.error e=>CX outer H s E e s'
structure jK (P:aR) (w:aQ) (K:aw) (mg:Str->Option af) (base:aK) (CX:nh) (k:Nat) (f:ae) (fd:rY) (ps:List Str) (sp:Sp):Prop where
 bG:∀vs H Q E,sp vs H Q E->vs.length=ps.length
 HY:∀(A:b8) (outer:List Env) (s:aD) (H:Hp) (args:Args) (us:List af) (vs:List V) (Q:VK) (E:XK),eN k A->rz P w K mg base A outer s H->BindsTo s fd args (ps.zip us)->bD vs us->sp vs H Q E->
  nF (model P w) A (.call (.ref f) args) (CR CX outer P w H s Q E) s
def rz.GI{outer:List Env}{H:Hp}(e:rz P w K mg base A outer s H)(C:ae)(us:List af)(kw:List (Str×af)):rz P w K mg base (A.under (.builtin "type.__call__" ⟨.ref C::us,kw⟩)) outer s H:=⟨by first|exact e.frames|(simpa[Ke,Code.envs,Code.isFrame,pushEnvs]using e.frames),e.mod,e.bs,e.nQ,e.lM,e.sS,e.aW,e.gm⟩
section
variable{X:Cx}{ag:List (ae×Obj)}{σ:St}{H:Hp}{s s':aD}
def aG.L1(I:aG X ag σ H s):rz X.prog X.w X.K X.mg X.base X.A X.stack s H:=
 ⟨I.ok.frames,I.ok.mod,I.bs,c7 I.ok.nQ I.sz,I.stack,I.QL,I.aW,I.gm⟩
def aG.fM{Q:VK}(I:aG X ag σ H s)(h:CE X.stack X.prog X.w H s Q u s'):EP X ag σ Q u s':=by obtain⟨v,W,os,gm,un,aW,r,q⟩:=h;obtain⟨Y,g,d,t,Z⟩:=s';obtain rfl:Z=s.os:=os;exact⟨v,W,I.call (h':=Y) (g':=g) (d':=d) (t':=t) (ch:=[]) un aW gm (λb z=>bq z (by simp)),r,q⟩
end
def CZ(sp:Sp)(Z:List V)(E:XK)(t:TA):TE:=λY H Q=>t Y H λvs X=>sp (vs++Z) X Q E
def C1(C:ae)(sp:Sp)(Z:List V)(E:XK)(t:TA):TE:=λX H Q=>t X H λvs Y=>∀x dx,Y x=aj->Y dx=aj->dx≠x->
 sp (.ref x::(vs++Z)) (aM (aM Y dx (.own x)) x (.ins C dx [])) (λv W=>v=.bW/\Q (.ref x) W) E
def iv(K:aw)(Y:rY)(ps:List Str)(Z:List af):Prop:=
 ∀(s:aD) (us:List af),K.In s.heap->(us++Z).length=ps.length->BindsTo s Y ⟨us,[]⟩ (ps.zip (us++Z))
def iv.all{Y:rY}(h:∀us:List af,us.length=ps.length->mz Y ⟨us,[]⟩=pure (ps.zip us)):iv K Y ps []:=λs us _ Z=>by rw[ee]at Z⊢;exact .of_eq (h us Z)
def uj(CX:nh)(X:Cx)(E:XK):Prop:=∀(ag:List (ae×Obj)) (Z:St) (H:Hp) (s:aD) (e:af) (s':aD),aG X ag Z H s->CX X.stack H s E e s'->X.xe e s'
section
variable{X:Cx}{CX:nh}{k:Nat}{f C:ae}{fd:rY}{ps:List Str}{sp:Sp}{kN:List V}{ds:List af}{E:XK}{x:Str}{p pos:Pos}{e:Expr}{es:List Expr}{t:TA}
def P2{W:St}{H:Hp}{Q:VK}{Y:List V}(F:jK X.prog X.w X.K X.mg X.base CX k f fd ps sp)(R:eN k X.A)(O:iv X.K fd ps ds)(hd:bD kN ds)(S:uj CX X E)(I:aG X ag W H s)(r:bD Y us)(h:sp (Y++kN) H Q E):aN (model X.prog X.w) X.A (call (.ref f) us) (EP X ag W Q) X.xe s:=by
 have T:bD (Y++kN) (us++ds):=r.append hd;have P:(us++ds).length=ps.length:=by rw[<-T.length];exact F.bG _ _ _ _ h
 refine wpAny_call (xp (F.HY X.A X.stack s H ⟨us,[]⟩ (us++ds) (Y++kN) Q E R I.L1 (O s us I.ip P) T h) λr s' Z=>?_);cases r with
 |error e=>exact S ag W H s e s' I Z
 |ok N=>
  cases N with
  |ret u=>exact I.fM Z
  |next=>exact i4 Z
  |brk=>exact i4 Z
  |cont=>exact i4 Z
def acp(F:jK X.prog X.w X.K X.mg X.base CX k f fd ps sp)(R:eN k X.A)(O:Gl X x)(P:X.mg x=aa (.ref f))(hk:oT X.K (.ref f)=ah)(N:iv X.K fd ps ds)(hd:bD kN ds)(S:uj CX X E)(M:PA X (e::es) t)(Y:(x==("__debug__":Str))=aB:=by decide)(he:cu (e::es) X.env=(aB,cC e X.env)::cu es X.env:=by rfl)(Z:(gj pos (cu es X.env)).any (·.1)=aB:=by rfl):PE X (.Call (.Name x p) (e::es) [] pos) (CZ sp kN E t):=by intro ag s T H Q I h;refine xx (BD I O P ?_ Y);refine S1 (h₀:=X.base) I.ok.mod.iI hk (k' (M pos ag s T H _ I h) λus J L G V r q=>⟨V.ip,?_⟩) he Z;exact P2 F R N hd S V r q
structure Mk (K:aw) (C f:ae):Prop where
 aal:KG K C=ah
 init:oS K (.ref C) "__init__"=aa (aa (.ref f))
 fn:PySem.W.isFn K (.ref f)=ah
 kp:oT K (.ref C)=ah
def P5{W:St}{H:Hp}{Q:VK}{T:List V}(M:Mk X.K C f)(F:jK X.prog X.w X.K X.mg X.base CX k f fd ps sp)(L:eN (k+1) X.A)(G:iv X.K fd ps ds)(hd:bD kN ds)(N:uj CX X E)(I:aG X ag W H s)(r:bD T us)(h:∀x dx,H x=aj->H dx=aj->dx≠x->sp (.ref x::(T++kN)) (aM (aM H dx (.own x)) x (.ins C dx [])) (λv y=>v=.bW/\Q (.ref x) y) E):aN (model X.prog X.w) X.A (call (.ref C) us) (EP X ag W Q) X.xe s:=by
 have R:=h (s.heap.objs.size+1) s.heap.objs.size (I.aW.fresh (cS _)) (I.aW.fresh (bp _)) (c8 (qc _));have Y:=aG.made (C:=C) I;have S:bD (V.ref (s.heap.objs.size+1)::(T++kN)) (cR (s.heap.objs.size+1)::(us++ds)):=.cons U (r.append hd);have J:(cR (s.heap.objs.size+1)::us++ds).length=ps.length:=by have e:=S.length;rw[F.bG _ _ _ _ R]at e;exact e.symm
 refine wpAny_call (aaj (f:=f) I.ip M.aal M.init (iE.mp M.fn) (xp (F.HY _ X.stack _ _ ⟨cR (s.heap.objs.size+1)::us,[]⟩ (cR (s.heap.objs.size+1)::(us++ds)) _ _ E (L.GI C us []) (Y.L1.GI C us []) (G _ (cR (s.heap.objs.size+1)::us) Y.ip J) S R) λr s' Z=>?_));cases r with
 |error e=>exact N ag W _ _ e s' Y Z
 |ok D=>
  cases D with
  |ret u=>
   obtain⟨v,t,z,P,B,O⟩:=Y.fM Z;subst B;exact⟨P,⟨V.ref (s.heap.objs.size+1),t,z,U,O⟩⟩
  |next=>exact i4 Z
  |brk=>exact i4 Z
  |cont=>exact i4 Z
def acx(M:Mk X.K C f)(F:jK X.prog X.w X.K X.mg X.base CX k f fd ps sp)(R:eN (k+1) X.A)(O:Gl X x)(P:X.mg x=aa (.ref C))(N:iv X.K fd ps ds)(hd:bD kN ds)(S:uj CX X E)(L:PA X (e::es) t)(Y:(x==("__debug__":Str))=aB:=by decide)(he:cu (e::es) X.env=(aB,cC e X.env)::cu es X.env:=by rfl)(Z:(gj pos (cu es X.env)).any (·.1)=aB:=by rfl):PE X (.Call (.Name x p) (e::es) [] pos) (C1 C sp kN E t):=by intro ag s T H Q I h;refine xx (BD I O P ?_ Y);refine S1 (h₀:=X.base) I.ok.mod.iI M.kp (k' (L pos ag s T H _ I h) λus G J D V r q=>⟨V.ip,?_⟩) he Z;exact P5 M F R N hd S V r q
def acy(M:Mk X.K C f)(F:jK X.prog X.w X.K X.mg X.base CX k f fd ps sp)(V:eN (k+1) X.A)(S:Gl X x)(T:X.mg x=aa (.ref C))(R:iv X.K fd ps ds)(hd:bD kN ds)(Y:uj CX X E)(Z:(x==("__debug__":Str))=aB:=by decide):PE X (.Call (.Name x p) [] [] pos) (C1 C sp kN E oy):=by intro ag s P H Q I h;refine xx (BD I S T ?_ Z);exact PySem.W.callWith_K0 I.ip M.kp (P5 (us:=[]) M F V R hd Y I .nil h)
end
structure kq (N P:List Str) (sc:dM):Prop where
 kind:sc.kind=.function
 co:sc.isCoroutine=aB
 A5:sc.isGenerator=aB
 nd:N.Nodup
 pre:N.take P.length=P
 Hv:∀x∈P,sc.names.lookup x=aa .local\/sc.names.lookup x=aa .cell
 aaZ:∀y∈sc.names,y.2≠.free
theorem Lq{kindOf:Str->Option jr}{x:Str}:∀{pf:List (Str×af)} {m:Str->Option af},(∀v,(x,v)∉pf)->sf kindOf pf m x=m x
 |[],_,_=>rfl
 |(n,v)::r,m,h=>by
  unfold sf;rw[Lq λw hw=>h w (cj _ hw)];split
  .have:x≠n:=by rintro rfl;exact h v cy
   simp[this]
  .rfl
theorem Lo{kindOf:Str->Option jr}{x:Str}:∀{pf:List (Str×af)} {m:Str->Option af},(∀v,(x,v)∉pf)->se kindOf pf m x=m x
 |[],_,_=>rfl
 |(n,v)::r,m,h=>by
  unfold se;rw[Lo λw hw=>h w (cj _ hw)];split
  .rfl
  .have:x≠n:=by rintro rfl;exact h v cy
   simp[this]
theorem Lp{kindOf:Str->Option jr}{x:Str}{v:af}:∀{P:List Str} {vs:List af} {i:Nat} {m:Str->Option af},P.Nodup->P[i]?=aa x->vs[i]?=aa v->kindOf x=aa .local->sf kindOf (P.zip vs) m x=aa v
 |[],_,_,_,_,h,_,_=>by simp at h
 |_::_,[],_,_,_,_,h,_=>by simp at h
 |p::P,w::vs,0,m,nd,Y,Z,hk=>by simp at Y Z;subst Y;subst Z;show sf kindOf ((p,w)::P.zip vs) m p=_;unfold sf;rw[Lq λv X=>(i6.mp nd).1 (DI X).1,aA hk];simp
 |p::P,w::vs,i+1,m,nd,Y,Z,hk=>by show sf kindOf ((p,w)::P.zip vs) m x=_;unfold sf;exact Lp (i:=i) (i6.mp nd).2 ‹Y› ‹Z› hk
theorem Ln{kindOf:Str->Option jr}{x:Str}{v:af}:∀{P:List Str} {vs:List af} {i:Nat} {m:Str->Option af},P.Nodup->P[i]?=aa x->vs[i]?=aa v->kindOf x≠aa .local->se kindOf (P.zip vs) m x=aa v
 |[],_,_,_,_,h,_,_=>by simp at h
 |_::_,[],_,_,_,_,h,_=>by simp at h
 |p::P,w::vs,0,m,nd,Y,Z,hk=>by simp at Y Z;subst Y;subst Z;show se kindOf ((p,w)::P.zip vs) m p=_;unfold se;rw[Lo λv X=>(i6.mp nd).1 (DI X).1,ay hk];simp
 |p::P,w::vs,i+1,m,nd,Y,Z,hk=>by show se kindOf ((p,w)::P.zip vs) m x=_;unfold se;exact Ln (i:=i) (i6.mp nd).2 ‹Y› ‹Z› hk
def start(N:List Str)(vs:List V):St:=vs.map aa++List.replicate (N.length-vs.length) aj
noncomputable def ph(CX:nh)(P:aR)(w:aQ)(K:aw)(mg:Str->Option af)(base:aK)(N:List Str)(qual:Str)(scope:dM)(f:ae)(Y:af)(A:b8)(outer:List Env)(s:aD)(H:Hp)(E:XK):Cx where
 prog:=P
 w:=w
 K:=K
 mg:=mg
 base:=base
 A:=A.deeper (mx qual scope s.heap.objs.size f Y)
 N:=N
 hX:=s
 wK:=H
 env:=mx qual scope s.heap.objs.size f Y
 outer:=outer
 stack:=mx qual scope s.heap.objs.size f Y::outer
 ex:=[]
 ij:=ah
 fn:=λ_=>ah
 pn:=[]
 xe:=λe s'=>aN (model P w) (A.deeper (mx qual scope s.heap.objs.size f Y)) (leaving (mx qual scope s.heap.objs.size f Y) e) (λ_ Z=>CX outer H s E e Z) (λX Z=>CX outer H s E X Z) s'
def Lw{n:Nat}{x:Str}(h:sc.names.lookup x=aa .cell):∃c,(gK n sc.names []).lookup x=aa c:=by have q:=KA sc.names n [] (.inl h);exact rP.mp q
def Zv{CX:nh}{L:af}{outer:List Env}{J:aD}{H:Hp}{E:XK}{X:List V}(S:kq N ps scope)(hd:A.handled=aj)(Y:rz P w K mg base A outer s H)(C:X.length=ps.length)(r:bD X us)(x:InCallC s s.heap.objs.size (sf (mx qual scope s.heap.objs.size f L).kindOf (ps.zip us) λ_=>aj) (gK (s.heap.objs.size+1) scope.names []) (se (mx qual scope s.heap.objs.size f L).kindOf (ps.zip us) λ_=>aj) J):aG (ph CX P w K mg base N qual scope f L A outer s H E) [] (start N X) H J:=by
 have F:ps.length<=N.length:=by have:=b_ fo S.pre;rw[iz]at this;lia
 obtain⟨M,tk,rfl,hk⟩:=x.done;have W:∀b:ae,b∉(ph CX P w K mg base N qual scope f L A outer s H E).ex:=λb z=>bq (show b∈([]:List ae)from z) (by simp);refine⟨⟨Y.mod,S.kind,U,U,bp _,λy z c M Z=>?_,λy T=>?_,λy c _ h=>?_,λ_=>hd,Around.frames_deeper Y.frames,.inr ⟨U,U⟩,λb z=>bq z (W b),Y.bs,Y.nQ,λb _ _=>W b,λb z=>bq z (W b),Y.lM,Y.sS⟩,U,Y.gm,Un.eE hk,⟨_,x.toInCall.ns,λi y v M Z B=>?_⟩,λy c h=>⟨_,x.cell y c h⟩,Y.aW.fresh (bp _),λy c h=>?_,λp Q=>bq (show p∈([]:List (ae×Obj))from Q) (by simp),Y.aW.eE hk,?_⟩
 .exact name_of_addr x.apart (jR M) (jR Z)
 .have T:scope.names.lookup y=aa .cell\/scope.names.lookup y=aa .free:=T;rcases T with T|T
  .exact Lw T
  .exact bq U (S.aaZ _ (jR T))
 .exact jO (x.above y c (jR h))
 .have O:i<X.length:=by
   unfold start at Z;by_cases O:i<X.length
   .exact O
   .rw [p_ ‹O›]at Z;rw[List.getElem?_replicate]at Z;split at Z<;>cases Z
  have D:X[i]?=aa v:=by
   unfold start at Z;rw[wU ‹O›,cf]at Z;cases e:X[i]? with
   |none=>rw[e]at Z;cases Z
   |some a=>rw[e]at Z;cases Z;rfl
  obtain⟨u,I,G⟩:=r.get D;have Q:ps[i]?=aa y:=by rw[<-S.pre,RZ (by lia)];exact M
  have R:ps.Nodup:=by rw[<-S.pre];exact S.nd.sublist (R9 _ _)
  refine⟨u,G,?_⟩;rcases S.Hv y (ck Q)with k|k
  .exact .inl ⟨k,Lp R Q I k⟩
  .obtain ⟨c,e⟩:=Lw (n:=s.heap.objs.size+1) k;refine .inr ⟨.inl k,c,e,?_⟩;have q:=x.cell y c e;rw[Ln R Q I (by show scope.names.lookup y≠_;rw[k];decide)]at q;exact q
 .exact Y.aW.fresh (jO (x.above y c (jR h)))
 .unfold start;show _=N.length;rw[bb,aP,List.length_replicate];lia
def L_{CX:nh}{k:Nat}{name:Str}{params:uo}{p kV doc pm Z ct j:af}{m od:Option ae}{F:Array (Option af)}{sp:Sp}(i:K.lookup f=aa ⟨j,od,.func (lB name qual params body scope p kV doc pm m Z ct),F⟩)(B:uv K Z qual=ah)(S:kq N ps scope)(bG:∀vs H Q E,sp vs H Q E->vs.length=ps.length)(R:∀(A:b8) (outer:List Env) (s:aD) (H:Hp) (vs:List V) (Q:VK) (E:XK),eN k (A.deeper (mx qual scope s.heap.objs.size f Z))->sp vs H Q E->∃t,i7 (ph CX P w K mg base N qual scope f Z A outer s H E) body t/\t {nx:=λ_ X=>Q .bW X,rt:=Q} (start N vs) H):jK P w K mg base CX (k+1) f (lB name qual params body scope p kV doc pm m Z ct) ps sp:=by
 refine⟨bG,λA outer s H args us vs Q E C L a r O=>?_⟩;have c:=bG _ _ _ _ O;have l:K.In s.heap:=L.mod.iI.keeps λb o e=>(L.bs b o e).1;have D:s.heap.NoLimit:=L.mod.nolimit.keeps λb o e=>(L.bs b o e).1;have T:∀y∈ps.zip us,scope.names.lookup y.1=aa .local\/(scope.names.lookup y.1=aa .cell/\((gK (s.heap.objs.size+1) scope.names []).lookup y.1).isSome=ah):=λ⟨n,v⟩ h=>by
  rcases S.Hv n (DI h).1 with q|q
  .exact .inl q
  .exact .inr ⟨q,KA _ _ _ (.inl q)⟩
 refine codeAny_call_function C.depth (l _ _ i) U S.co S.A5 U (PySem.W.codeRec_of l B) (a _ _ _ _ ?_);refine S' S.kind T λenv he z x=>?_;subst he;refine⟨D.keeps x.toInCall.keep,codeAny_func ?_⟩;obtain⟨t,g,d⟩:=R A outer s H vs Q E (C.deeper _) O;have I:aG (ph CX P w K mg base N qual scope f Z A outer s H E) [] (start N vs) H z:=Zv S C.hd L c r x;refine jT (g [] z (start N vs) H _ I d) (λfl s' hs=>?_) λe s' hs=>hs;have M:∀{Y:St} {X:Hp} {v:V} {u:af},aG (ph CX P w K mg base N qual scope f Z A outer s H E) [] Y X s'->bL v u->Q v X->CE outer P w H s Q u s':=
  λ{Y X v u} J G q=>⟨v,X,J.os,J.gm,J.base,J.aW,G,q⟩
 cases fl with
 |ret u=>
  obtain⟨v,Y,X,J,G,q⟩:=hs;exact M J G q
 |next=>
  obtain⟨Y,X,J,q⟩:=hs;exact M (v:=V.bW) (u:=iA) J U q
 |brk=>
  obtain⟨_,_,_,q⟩:=hs;exact i4 q
 |cont=>
  obtain⟨_,_,_,q⟩:=hs;exact i4 q
section
variable{X:Cx}{x:Str}{p pos:Pos}{e:Expr}{es:List Expr}{t:TA}{id T:String}{r:List V->Hp->VK->Prop}
def tZ(r:List V->Hp->VK->Prop)(t:TA):TE:=λZ H Q=>t Z H λvs Y=>r vs Y Q
def lV(L:i3 X (.builtin id) r)(M:Gl X x)(N:X.mg x=aj)(P:ux x=aa (.builtin id))(K:PA X (e::es) t)(O:x≠"__name__":=by decide)(Y:(x==("__debug__":Str))=aB:=by decide)(he:cu (e::es) X.env=(aB,cC e X.env)::cu es X.env:=by rfl)(Z:(gj pos (cu es X.env)).any (·.1)=aB:=by rfl):PE X (.Call (.Name x p) (e::es) [] pos) (tZ r t):=by intro ag s W H Q I h;refine xx (tE I M N P ?_ O Y);exact PyProof.Rows.callWith_builtin1 (k' (K pos ag s W H _ I h) λus T V G J S R=>L ag T W G V us Q J S R) he Z
def kZ(K:i3 X (.type T) r)(L:Gl X x)(M:X.mg x=aj)(O:ux x=aa (.type T))(J:PA X (e::es) t)(N:x≠"__name__":=by decide)(Y:(x==("__debug__":Str))=aB:=by decide)(he:cu (e::es) X.env=(aB,cC e X.env)::cu es X.env:=by rfl)(Z:(gj pos (cu es X.env)).any (·.1)=aB:=by rfl):PE X (.Call (.Name x p) (e::es) [] pos) (tZ r t):=by intro ag s W H Q I h;refine xx (tE I L M O ?_ N Y);exact xb (k' (J pos ag s W H _ I h) λus S V F G R P=>K ag S W F V us Q G R P) he Z
end
end L2
namespace HT
open PySem PyProof.Rows
section
variable{prog:aR}{w:aQ}{A:b8}{E:af->aD->Prop}{s:aD}
def Ul{t b:ae}{X Z:List af}{Q:af->aD->Prop}(I:gi s.heap t X.toArray)(H:gi s.heap b Z.toArray)(M:X≠[])(D:Z=[]->Q (.ref t) s)(G:Z≠[]->Q (.ref s.heap.objs.size) {s with heap:=s.heap.push {cls:=.type "tuple",data:=.seq (X++Z).toArray}})(hsz:X.length+Z.length<=aS):aN (model prog w) A (nE .Add (.ref t) (.ref b)) Q E s:=by
 obtain⟨⟨cls,K,data,O⟩,R,L,n,hd⟩:=id I;obtain⟨⟨J,S,P,W⟩,Y,T,N,V⟩:=id H;simp only at L hd T V;subst L hd T V;have e:X.toArray++Z.toArray=(X++Z).toArray:=by simp
 by_cases hw:Z=[]
 .exact KO ⟨_,R,U⟩ ⟨_,Y,U⟩ KQ KS Kn Kl (Kj _ _)
   (tuple_addW1 t b X.toArray Z.toArray n N K S O W ‹M› (by simp[hw])) ⟨R,Y,D hw⟩
 .refine KO ⟨_,R,U⟩ ⟨_,Y,U⟩ KQ KS Kn Kl (Kj _ _)
   (tuple_addW2 t b X.toArray Z.toArray n N K S O W ‹M› ‹hw› (by rw[eh,eh];exact hsz)) ⟨R,Y,?_⟩
  rw[e];exact G hw
def cD(n d:Nat):Option Int->Nat
 |none=>d
 |some v=>if v<0 then(v+(n:Int)).toNat else min v.toNat n
def Ib(n d:Nat):cD n d aj=d:=rfl
def Ct(n d k:Nat):cD n d (aa (k:Int))=min k n:=by show(if(k:Int)<0 then((k:Int)+(n:Int)).toNat else min (k:Int).toNat n)=min k n;rw[ay (by lia),rD]
def adN(n d:Nat)(hd:d<=n)(o:Option Int):cD n d o<=n:=by
 cases o with
 |none=>exact hd
 |some v=>
  show(if v<0 then(v+(n:Int)).toNat else min v.toNat n)<=n;by_cases Z:v<0
  .rw [aA Z];lia
  .rw [ay Z];exact Nat.min_le_right _ _
def LA(v:Int)(n d:Nat):(if v<0 then max (v+(n:Int)) 0 else min v (n:Int))=((cD n d (aa v):Nat):Int):=by
 show(if v<0 then max (v+(n:Int)) 0 else min v (n:Int))=(((if v<0 then(v+(n:Int)).toNat else min v.toNat n):Nat):Int);by_cases Z:v<0
 .simp only[aA Z];lia
 .simp only[ay Z];lia
def Ts(Z Y:Option Int)(n:Nat):Kf Z Y 1 (n:Int)=(((cD n 0 Z:Nat):Int),((cD n n Y:Nat):Int)):=by
 have X:¬((1:Int)<0):=by lia
 unfold Kf;simp only[X,if_false];refine qe ?_ ?_
 .cases Z with
  |none=>rfl
  |some v=>exact LA v n 0
 .cases Y with
  |none=>rfl
  |some v=>exact LA v n n
def acU(i j:Nat):DV (i:Int) (j:Int) 1=j-i:=by
 unfold DV;have Z:(1:Int)>0:=by lia
 simp only[Z,if_true,Int.ediv_one];split<;>lia
def Qw{v:af}{o:Option Int}{Q:Option Int->aD->Prop}(p:IsPart v o)(h:Q o s):aN (model prog w) A (Builtin.Slice.slicePartIndex v) Q E s:=by
 cases p with
 |none=>exact slicePart_none h
 |int i t=>exact slicePart_int h
def Qv{S:ae}{T V:af}{Z X:Option Int}{n:Nat}{Q:Int×Int×Nat->aD->Prop}(hs:s.heap.IsSliceOf S T V .none)(pl:IsPart T Z)(R:IsPart V X)(h:Q (((cD n 0 Z:Nat):Int),1,cD n n X-cD n 0 Z) s):aN (model prog w) A (Sn (.ref S) (pure (n:Int))) Q E s:=by obtain⟨os,Y,P,W⟩:=id hs;unfold Sn Builtin.Slice.sliceFields;refine az (az (jt Y W (x:=T) U (az (jt Y W (x:=V) U (az (jt Y W (x:=.none) U (aV ?_)))))));refine az (slicePart_none ?_);show aN _ _ (if((1:Int)==0)=ah then _ else _) _ _ s;rw[ay (by decide)];refine az (Qw pl (az (Qw R (az (aV ?_)))));show aN _ _ (match Kf Z X 1 (n:Int)with|(Z,X)=>pure (Z,(1:Int),DV Z X 1)) _ _ s;rw[Ts Z X n];show aN _ _ (pure (((cD n 0 Z:Nat):Int),(1:Int),DV ((cD n 0 Z:Nat):Int) ((cD n n X:Nat):Int) 1)) _ _ s;rw[acU];exact aV h
def acR(xs:Array af)(i k:Nat):((uf k).filterMap λ(m:Nat)=>xs[((i:Int)+(m:Int)*1).toNat]?).toArray=((xs.toList.drop i).take k).toArray:=by
 have e:(λ(m:Nat)=>xs[((i:Int)+(m:Int)*1).toNat]?)=λm=>xs[i+m]?:=by
  funext m;have:((i:Int)+(m:Int)*1).toNat=i+m:=by lia
  rw[this]
 rw[e];have:=pick_run xs i k;rw[List.filterMap_map]at this;have Z:((λx=>xs[x]?)∘λx=>i+x)=λm=>xs[i+m]?:=rfl;rw[Z]at this;rw[this]
def W8{t V:ae}{items:Array af}{N O:af}{Y X:Option Int}{Q:af->aD->Prop}(W:gi s.heap t items)(hs:s.heap.IsSliceOf V N O .none)(pl:IsPart N Y)(M:IsPart O X)(hw:¬(cD items.size 0 Y=0/\cD items.size items.size X=items.size))(h:Q (.ref s.heap.objs.size) {s with heap:=s.heap.push {cls:=.type "tuple",data:=.seq ((items.toList.drop (cD items.size 0 Y)).take (cD items.size items.size X-cD items.size 0 Y)).toArray}})(hsz:items.size<=aS):aN (model prog w) A (nG (.ref t) (.ref V)) Q E s:=by
 have Z:sizeOk (.seq ((items.toList.drop (cD items.size 0 Y)).take (cD items.size items.size X-cD items.size 0 Y)).toArray):=by show((items.toList.drop (cD items.size 0 Y)).take (cD items.size items.size X-cD items.size 0 Y)).toArray.size<=aS;rw[eh,iz,jN,iN];lia
 have I:cD items.size items.size X<=items.size:=adN _ _ (bp _) X;obtain⟨os,T,R,L⟩:=id hs;have P:s.TypeIs (.ref V) "slice":=⟨os,T,R⟩;unfold nG
 try with_reducible refine jS ?_
 first|refine az (aV ?_)|skip
 refine az (wpAny_sequenceKey W.typeIs (by decide) ?_);refine az (oV (name:=oR "__getitem__") W.typeIs um (iB um W.typeIs entry_tuple_getitem ?_ (args_tuple_getitem _ _)));show aN _ _ (Kg (.ref t)>>=_) _ _ s;refine az (xj W ?_);refine az (uF P ?_);rw[aA (by decide)];refine az (Qv hs pl M ?_);have S:¬((((cD items.size 0 Y:Nat):Int)==0&&(1:Int)==1&&(cD items.size items.size X-cD items.size 0 Y)==items.size)=ah):=by intro q;rw[fk,fk]at q;have J:((cD items.size 0 Y:Nat):Int)=0:=eq_of_beq q.1.1;have K:cD items.size items.size X-cD items.size 0 Y=items.size:=eq_of_beq q.2;exact hw ⟨by lia,by lia⟩
 show aN _ _ (if(((cD items.size 0 Y:Nat):Int)==0&&(1:Int)==1&&(cD items.size items.size X-cD items.size 0 Y)==items.size)=ah then _ else _) _ _ s;rw[ay S,acR]
 first
  |exact az (m:=DW _) (jU (aV ⟨_,U,aV h⟩) Z)
  |exact az (m:=DW _) (jU (az (aV (aV ⟨_,U,aV h⟩))) Z)
  |exact az (az (m:=DW _) (jU (aV (aV ⟨_,U,aV h⟩)) Z))
  |exact az (az (m:=DW _) (jU (aV ⟨_,U,aV h⟩) Z))
end
end HT
namespace L2
open PySem PySem.Spec PyProof.Rows
variable{us vs bw:List af}{u v:af}{h base:aK}{a b it C dx f:ae}{items:Array af}{P prog:aR}{w:aQ}{o:Obj}{t' j ep kk:Nat}{ch fp:List ae}{e c tg iter elt:Expr}{N ps:List Str}{A:b8}{E Q:af->aD->Prop}{s:aD}{ag:List (ae×Obj)}{pos p fC:Pos}{K:aw}{es:Array fg}{body:List c5}{mg:Str->Option af}{sc scope:dM}{qual:Str}{own:List (Str×Nat)}{ifs elts:List Expr}
abbrev TO:=St->Hp->(Option Int->Hp->Prop)->Prop
def PO(X:Cx)(e:Option Expr)(t:TO):Prop:=
 ∀(ag:List (ae×Obj)) (s:aD) (Z:St) (H:Hp) (Q:Option Int->Hp->Prop),aG X ag Z H s->t Z H Q->
  aN (model X.prog X.w) X.A (evalPart e X.env) (λu s'=>∃o Y,aG X ag Z Y s'/\IsPart u o/\Q o Y) X.xe s
def agt:TO:=λ_ H Q=>Q aj H
def bI(Q:Option Int->Hp->Prop)(x:V)(H:Hp):Prop:=HQ x λi=>Q (aa i) H
def agy(t:TE):TO:=λZ H Q=>t Z H (bI Q)
section
variable{X:Cx}{e:Expr}{te:TE}{lo hi:Option Expr}{tl th:TO}{pos p2:Pos}
def vP:PO X aj agt:=by intro ag s Z H Q I h;rw[evalPart_none];exact aV ⟨aj,H,I,.none,h⟩
def kc(h:PE X e te):PO X (aa e) (agy te):=by intro ag s Z H Q I hw;rw[evalPart_some];refine bT (h ag s Z H _ I hw) λu S x T V Y W=>?_;obtain⟨i,rfl,q⟩:=PR W;obtain⟨t,rfl⟩:=Y;exact⟨aa i,T,V,.int i t,q⟩
def xC(X:Cx)(r:V->Option Int->Option Int->Hp->VK->Prop):Prop:=
 ∀(ag:List (ae×Obj)) (s:aD) (Z:St) (H:Hp) (x:V) (v W Y:af) (lo hi:Option Int) (S:ae) (Q:VK),aG X ag Z H s->bL x v->s.heap.IsSliceOf S W Y .none->IsPart W lo->IsPart Y hi->r x lo hi H Q->
  ∃T id,Em (.type T) "__getitem__"=pure (aa (.builtin id))/\s.TypeIs v T/\aN (model X.prog X.w) X.A (nG v (.ref S)) (EP X ag Z Q) X.xe s
def tSl(r:V->Option Int->Option Int->Hp->VK->Prop)(te:TE)(tl th:TO):TE:=λZ H Q=>te Z H λx W=>tl Z W λl X=>th Z X λu Y=>r x l u Y Q
def oh{r:V->Option Int->Option Int->Hp->VK->Prop}(E:xC X r)(he:PE X e te)(D:PO X lo tl)(G:PO X hi th):PE X (.Subscript e (.Slice lo hi aj p2) pos) (tSl r te tl th):=by intro ag s Y H Q I h;refine Subscript_ (bT (he ag s Y H _ I h) λv O x n p N K=>?_);refine wpAny_Slice (fe (D ag O Y n _ p K) λS P ⟨l,o,t,pl,L⟩=>fe (G ag P Y o _ t L) λW Z ⟨u,R,y,J,M⟩=>?_);rw[evalPart_none];refine aV ?_;have z:aG X ag Y R {Z with heap:=Z.heap.push {cls:=.type "slice",data:=.fields #[S,W,.none]}}:=y.eE (t':=Z.toks) λb ob q=>cq _ q;obtain⟨T,id,B,F,C⟩:=E ag {Z with heap:=Z.heap.push {cls:=.type "slice",data:=.fields #[S,W,.none]}} Y R x v S W l u Z.heap.objs.size Q z N (Heap.IsSliceOf.new ..) pl J M;show aN (model X.prog X.w) X.A (Kd e (.Slice lo hi aj p2) v (.ref Z.heap.objs.size)) (EP X ag Y Q) X.xe {Z with heap:=Z.heap.push {cls:=.type "slice",data:=.fields #[S,W,.none]}};exact tail_any (ops:=[.ref Z.heap.objs.size,v]) F B C (by with_unfolding_all rfl)
def fi(xs:List V)(lo hi:Option Int):List V:=(xs.drop (HT.cD xs.length 0 lo)).take (HT.cD xs.length xs.length hi-HT.cD xs.length 0 lo)
def LL(xs:List V)(Z Y:Option Int):(fi xs Z Y).length<=xs.length:=by unfold fi;rw[iz,jN];lia
inductive adq(K:aw)(x:V)(lo:Option Int)(hi:Option Int)(H:Hp)(Q:VK):Prop|mk(a xs:_)(_:x=.ref a)(_:aY K H a xs)(_:¬(HT.cD xs.length 0 lo=0/\HT.cD xs.length xs.length hi=xs.length))(_:∀p,H p=aj->Q (.ref p) (aM H p (.bh (fi xs lo hi))))
def aeG:xC X (adq X.K):=by
 intro ag s O H x v M N Y V L Q I S hs pl R h;obtain⟨a,xs,rfl,P,hw,q⟩:=h;cases S;obtain⟨W,r,T,hz⟩:=I.tuple P;have Z:W.toArray.size=xs.length:=by rw[eh];exact r.length.symm
 refine⟨"tuple",_,um.lookup,T.typeIs,?_⟩;refine HT.W8 T hs pl R (by rw[Z];exact hw) ?_ (by rw[Z];exact hz);rw[Z];refine⟨.ref s.heap.objs.size,_,I.laid (t':=s.toks) (o:=.bh (fi xs Y V)) (λb ob q=>cq _ q) (bp _) ?_,U,q _ (I.aW.fresh (bp _))⟩;exact⟨c7 (LL xs Y V) hz,_,(r.drop (HT.cD xs.length 0 Y)).take (HT.cD xs.length xs.length V-HT.cD xs.length 0 Y),nj.new _ _⟩
inductive adg(K:aw)(x:V)(y:V)(H:Hp)(Q:VK):Prop|mk(a b xs ys:_)(_:x=.ref a)(_:y=.ref b)(_:aY K H a xs)(_:aY K H b ys)(_:xs≠[])(_:xs.length+ys.length<=aS)(_:(ys=[]->Q (.ref a) H))(_:(ys≠[]->∀p,H p=aj->Q (.ref p) (aM H p (.bh (xs++ys)))))
def bD.G5{xs:List V}(r:bD xs us):us=[]↔xs=[]:=by
 cases r with
 |nil=>simp
 |cons _ _=>simp
def ab7:eW X (nE .Add) (adg X.K):=by intro ag s G H x y v u Q I T V h;obtain⟨a,b,xs,ys,rfl,rfl,J,L,M,hz,R,S⟩:=h;cases T;cases V;obtain⟨N,Y,O,_⟩:=I.tuple J;obtain⟨W,Z,P,_⟩:=I.tuple L;refine HT.Ul O P (λz=>M (Y.G5.mp z)) (λz=>⟨.ref a,H,I,U,R (Z.G5.mp z)⟩) (λz=>?_) (by rw[<-Y.length,<-Z.length];exact hz);refine⟨.ref s.heap.objs.size,_,I.laid (t':=s.toks) (o:=.bh (xs++ys)) (λb ob q=>cq _ q) (bp _) ?_,U,S (λw=>z (Z.G5.mpr w)) _ (I.aW.fresh (bp _))⟩;exact⟨by rw[bb];exact hz,_,Y.append Z,nj.new _ _⟩
end
def kR(n:Nat)(i:Int):Option Nat:=if 0<=i then(if i<n then aa i.toNat else aj)else if-(n:Int)<=i then aa (i+n).toNat else aj
def j1{Z:Type}(xs:List Z)(i:Int):Option Z:=(kR xs.length i).bind λj=>xs[j]?
def NA{n:Nat}{i:Int}(h:kR n i=aa j):seqIndex? i n=aa j/\j<n/\-(n:Int)<=i/\i<n:=by
 unfold kR at h;by_cases h0:0<=i
 .rw [aA h0]at h;by_cases Z:i<n
  .rw [aA Z]at h;have e:i.toNat=j:=dX h;exact⟨by rw[seqIndex_of h0 Z,e],by lia,by lia,Z⟩
  .rw [ay Z]at h;cases h
 .rw [ay h0]at h;by_cases Z:-(n:Int)<=i
  .rw [aA Z]at h;have e:(i+n).toNat=j:=dX h;exact⟨by rw[KR (by lia) Z,e],by lia,Z,by lia⟩
  .rw [ay Z]at h;cases h
def Lh{Z:Type}{xs:List Z}{i:Int}{v:Z}(h:j1 xs i=aa v):∃j,seqIndex? i xs.length=aa j/\xs[j]?=aa v/\j<xs.length/\-(xs.length:Int)<=i/\i<xs.length:=by
 unfold j1 at h;cases e:kR xs.length i with
 |none=>rw[e]at h;cases h
 |some j=>
  rw[e]at h;obtain⟨V,W,X,Y⟩:=NA e;exact⟨j,V,h,W,X,Y⟩
def bt{Z:Type}{xs:List Z}{v:Z}(h:xs[j]?=aa v):j1 xs (j:Int)=aa v:=by
 have Y:j<xs.length:=(oI.mp h).1;have e:kR xs.length (j:Int)=aa j:=by unfold kR;rw[aA (by lia),aA (by lia)];simp
 unfold j1;rw[e];exact h
def DR(b:Expr):Prop:=∀o i,El b aB o i=operate [o,i] (nG o i)
def Dy(X:Cx)(r:R2):Prop:=
 ∀(value Z:Expr) (ag:List (ae×Obj)) (s:aD) (Y:St) (H:Hp) (x y:V) (v u:af) (Q:VK),aG X ag Y H s->bL x v->bL y u->r x y H Q->
  El Z aB v u=operate [v,u] (nG v u)->aN (model X.prog X.w) X.A (Kd value Z v u) (EP X ag Y Q) X.xe s
def rN(X:Cx)(id:String)(r:V->List V->Hp->VK->Prop):Prop:=
 ∀(ag:List (ae×Obj)) (s:aD) (Z:St) (H:Hp) (x:V) (xs:List V) (v:af) (us:List af) (Q:VK),aG X ag Z H s->bL x v->bD xs us->r x xs H Q->
  aN (model X.prog X.w) X.A (call (.builtin id) (v::us)) (EP X ag Z Q) X.xe s
section
variable{X:Cx}{a b:Expr}{ta tb:TE}{pos:Pos}
def O9{r:R2}(T:Dy X r)(R:PE X a ta)(S:PE X b tb)(hs:DR b):PE X (.Subscript a b pos) (we r ta tb):=by intro ag s Z H Q I h;exact Subscript_ (EG R S I h λv u Y x y O P V W q=>T a b ag Y Z O x y v u Q P V W q (hs _ _))
inductive PH(K:aw)(x:V)(y:V)(H:Hp)(Q:VK):Prop|mk(p xs i v:_)(_:x=.ref p)(_:y=.int i)(_:aL K H p xs)(_:j1 xs i=aa v)(_:Q v H)
inductive PJ(K:aw)(x:V)(y:V)(H:Hp)(Q:VK):Prop|mk(p xs i v:_)(_:x=.ref p)(_:y=.int i)(_:aY K H p xs)(_:j1 xs i=aa v)(_:Q v H)
def ZA:Dy X (PH X.K):=by
 intro value W ag s R H x y v u Q I N O h hs;obtain⟨p,xs,i,z,rfl,rfl,M,he,q⟩:=h;cases N;obtain⟨t,rfl⟩:=O;obtain⟨T,r,pl,hz⟩:=I.list M;obtain⟨j,Y,F,D,G,J⟩:=Lh he;obtain⟨w,P,V⟩:=r.get F;have L:=r.length;have E:=BF;have Z:EP X ag R Q w s:=⟨z,H,I,V,q⟩;by_cases h0:0<=i
 .have S:i.toNat=j:=by
   rw[seqIndex_of h0 J]at Y;exact dX Y
  exact item_listR pl.isList h0 (by lia) (by rw[S];simpa using P) Z hs
 .have S:(i+(T.toArray.size:Int)).toNat=j:=by
   rw[KR (by lia) G]at Y;rw[eh,<-L];exact dX Y
  exact Sf (x:=w) pl.isList.typeIs slot_list_getitem.lookup
   (wpAny_getItem_list_neg (Q:=λr s'=>r=w/\EP X ag R Q r s') pl.isList (by lia) (by rw[eh]<;>lia) (by lia) (by rw[S];simpa using P) ⟨U,Z⟩) hs
def ZD:Dy X (PJ X.K):=by
 intro value Z ag s V H x y v u Q I S T h hs;obtain⟨p,xs,i,z,rfl,rfl,P,he,q⟩:=h;cases S;obtain⟨t,rfl⟩:=T;obtain⟨R,r,pl,hz⟩:=I.tuple P;obtain⟨j,M,N,E,F,G⟩:=Lh he;obtain⟨w,L,Y⟩:=r.get N;have O:=r.length;have J:=BF;have W:EP X ag V Q w s:=⟨z,H,I,Y,q⟩;exact Sf (x:=w) pl.typeIs um.lookup
  (getItem_tuple (j:=j) (Q:=λr s'=>r=w/\EP X ag V Q r s') pl (by lia) (by lia) (by rw[eh,<-O];exact M) ‹L› ⟨U,W⟩) hs
def aan(Z:List af)(n j:Nat)(u:af):oP (·.setIfInBounds j u) {cls:=.type "list",data:=.seq Z.toArray n}={cls:=.type "list",data:=.seq (Z.set j u).toArray n}:=by simp[oP]
theorem aG.aC{ag:List (ae×Obj)}{Z:St}{H:Hp}{s:aD}{p:ae}{xs:List V}(I:aG X ag Z H s)(h:H p=aa (.aC xs)):∃(bw:List af) (n:Nat),bD xs bw/\s.heap.get? p=aa {cls:=.type "list",data:=.seq bw.toArray n}/\xs.length<=aS:=by obtain⟨z,bw,n,r,e⟩:=I.aW p _ h;exact⟨bw,n,r,e,z⟩
def aG.Z'{Y:St}{H:Hp}{p:ae}{xs ys:List V}{jy:List af}{n Z:Nat}{f:Obj->Obj}(I:aG X ag Y H s)(h:H p=aa (.aC xs))(T:s.heap.get? p=aa {cls:=.type "list",data:=.seq bw.toArray n})(W:f {cls:=.type "list",data:=.seq bw.toArray n}={cls:=.type "list",data:=.seq jy.toArray Z})(r:bD ys jy)(hz:ys.length<=aS)(t:Nat):aG X ag Y (aM H p (.aC ys)) {s with heap:=s.heap.update p f,toks:=t}:=by
 have e:(s.heap.update p f).get? p=aa {cls:=.type "list",data:=.seq jy.toArray Z}:=by rw[xm f T (by rw[W]<;>rfl),W]
 refine I.oB (x:=p) (e:=p) (by rw[h];trivial) (.inl U) (λb u S q=>(D4 _ _ (cU S)).trans q) ⟨_,e⟩ ?_;exact⟨hz,jy,Z,r,e⟩
inductive adp(o:V)(i:V)(v:V)(H:Hp)(Q:(Hp->Prop)):Prop|mk(p xs k j:_)(_:o=.ref p)(_:i=.int k)(_:H p=aa (.aC xs))(_:kR xs.length k=aa j)(_:Q (aM H p (.aC (xs.set j v))))
def Qg:J9 X adp:=by
 intro ag s N H o i v G F u Q I L K M h;obtain⟨p,xs,k,j,rfl,rfl,S,J,q⟩:=h;cases L;obtain⟨t,rfl⟩:=K;obtain⟨Z,n,r,V,hz⟩:=I.aC S;obtain⟨Y,D,P,R⟩:=NA J;have T:=r.length;have E:=BF;have O:aG X ag N (aM H p (.aC (xs.set j v))) {s with heap:=s.heap.update p (oP (·.setIfInBounds j u))}:=
  I.Z' S V (aan Z n j u) (r.set M j) (by rw[zF];exact hz) s.toks
 by_cases h0:0<=k
 .have hk:k.toNat=j:=by
   rw[seqIndex_of h0 R]at Y;exact dX Y
  exact PySem.W.ki_setAt V h0 (by lia) (by rw[eh,<-T];exact R) (by rw[hk];exact⟨_,O,q⟩)
 .have hk:(k+(Z.toArray.size:Int)).toNat=j:=by
   rw[KR (by lia) P]at Y;rw[eh,<-T];exact dX Y
  exact PySem.W.ki_setBack V (by lia) (by rw[eh,<-T];exact P) (by lia) (by rw[hk];exact⟨_,O,q⟩)
def aeJ(Z Y:Option Int)(n:Nat):(uB Z Y aj n).1=((HT.cD n 0 Z:Nat):Int)/\(uB Z Y aj n).2.1=((HT.cD n n Y:Nat):Int)/\(uB Z Y aj n).2.2=1:=by
 refine⟨?_,?_,U⟩
 .cases Z with
  |none=>simp[uB,HT.cD]
  |some i=>
   simp only[uB,HT.cD,Option.getD_none,show(1:Int)>0 by decide,if_true];by_cases h:i<0
   .simp only[h,if_true]<;>lia
   .simp only[h,if_false]<;>lia
 .cases Y with
  |none=>simp[uB,HT.cD]
  |some i=>
   simp only[uB,HT.cD,Option.getD_none,show(1:Int)>0 by decide,if_true];by_cases h:i<0
   .simp only[h,if_true]<;>lia
   .simp only[h,if_false]<;>lia
def aeI(Z:List af)(Y X:Option Int):slicePick Z.toArray Y X aj=((Z.drop (HT.cD Z.length 0 Y)).take (HT.cD Z.length Z.length X-HT.cD Z.length 0 Y)).toArray:=by obtain⟨T,V,W⟩:=aeJ Y X Z.toArray.size;unfold slicePick;rw[T,V,W];simp only[sliceRange_one,pick_run,eh]<;>rfl
inductive tQ(K:aw)(x:V)(lo:Option Int)(hi:Option Int)(H:Hp)(Q:VK):Prop|mk(a xs:_)(_:x=.ref a)(_:aL K H a xs)(_:∀p,H p=aj->Q (.ref p) (aM H p (.aC (fi xs lo hi))))
def v_:xC X (tQ X.K):=by intro ag s O H x v M N Y W L Q I T hs pl S h;obtain⟨a,xs,rfl,P,q⟩:=h;cases T;obtain⟨R,r,V,hz⟩:=I.list P;have Z:=r.length;refine⟨"list",_,slot_list_getitem.lookup,V.isList.typeIs,?_⟩;refine wpAny_getItem_list_slice V.isList hs pl S .none (by simp) ?_ (by rw[eh]<;>lia);rw[aeI,<-Z];refine⟨.ref s.heap.objs.size,_,I.laid (t':=s.toks) (o:=.aC (fi xs Y W)) (λb ob q=>cq _ q) (bp _) ?_,U,q _ (I.aW.fresh (bp _))⟩;exact⟨c7 (LL xs Y W) hz,_,0,(r.drop (HT.cD xs.length 0 Y)).take (HT.cD xs.length xs.length W-HT.cD xs.length 0 Y),dm _ U⟩
def nT:V->Bool
 |.bW=>ah
 |.bl _=>ah
 |.int _=>ah
 |.str _=>ah
 |_=>aB
noncomputable def qy:V->V->Bool
 |.bW,.bW=>ah
 |.bl a,.bl b=>a==b
 |.bl a,.int b=>(if a then 1 else 0)==b
 |.int a,.bl b=>a==(if b then 1 else 0)
 |.int a,.int b=>a==b
 |.str a,.str b=>a==b
 |_,_=>aB
def Ws{y x:V}(Y:bL y u)(Z:bL x v)(W:nT y=ah)(X:nT x=ah):Ku A s u v (qy y x):=by
 cases y with
 |bW=>
  cases Y;cases x with
  |bW=>cases Z;exact SeqAt.EqAt.same _
  |bl b=>cases Z;exact SeqAt.EqAt.none_bool b
  |int b=>obtain⟨t,rfl⟩:=Z;exact SeqAt.EqAt.none_int b t
  |str b=>obtain⟨t,rfl⟩:=Z;exact SeqAt.EqAt.none_str b t
  |_=>exact bq (show aB=ah from X) cg
 |bl a=>
  cases Y;cases x with
  |bW=>cases Z;exact SeqAt.EqAt.bool_none a
  |bl b=>cases Z;exact SeqAt.EqAt.bool_bool a b
  |int b=>obtain⟨t,rfl⟩:=Z;exact SeqAt.EqAt.bool_int a b t
  |str b=>obtain⟨t,rfl⟩:=Z;exact SeqAt.EqAt.bool_str a b t
  |_=>exact bq (show aB=ah from X) cg
 |int a=>
  obtain⟨t',rfl⟩:=Y;cases x with
  |bW=>cases Z;exact SeqAt.EqAt.int_none a t'
  |bl b=>cases Z;exact SeqAt.EqAt.int_bool a t' b
  |int b=>obtain⟨t,rfl⟩:=Z;exact SeqAt.EqAt.int_int a t' b t
  |str b=>obtain⟨t,rfl⟩:=Z;exact SU a t' b t
  |_=>exact bq (show aB=ah from X) cg
 |str a=>
  obtain⟨t',rfl⟩:=Y;cases x with
  |bW=>cases Z;exact SeqAt.EqAt.str_none a t'
  |bl b=>cases Z;exact SeqAt.EqAt.str_bool a t' b
  |int b=>obtain⟨t,rfl⟩:=Z;exact SV a t' b t
  |str b=>obtain⟨t,rfl⟩:=Z;exact SeqAt.EqAt.str_str a t' b t
  |_=>exact bq (show aB=ah from X) cg
 |_=>exact bq (show aB=ah from W) cg
def mQ(x:V)(u:af):Bool:=match u with
 |.none=>qy .bW x
 |.bool b=>qy (.bl b) x
 |.int i _=>qy (.int i) x
 |.str z _=>qy (.str z) x
 |_=>aB
def E2{x y:V}(r:bL y u)(f:nT y=ah):mQ x u=qy y x:=by
 cases y with
 |bW=>cases r;rfl
 |bl b=>cases r;rfl
 |int i=>obtain⟨t,rfl⟩:=r;rfl
 |str z=>obtain⟨t,rfl⟩:=r;rfl
 |_=>exact bq (show aB=ah from f) cg
theorem EC{x:V}:∀{xs:List V} {us:List af},bD xs us->xs.all nT=ah->us.any (mQ x)=xs.any λy=>qy y x
 |_,_,.nil,_=>rfl
 |y::xs,u::us,.cons r t,f=>by rw[Dz,fk]at f;rw[mj,mj,E2 r f.1,EC t f.2]
theorem BM{A:b8}{s:aD}{x:V}{v:af}(Y:bL x v)(X:nT x=ah):∀{xs:List V} {us:List af},bD xs us->xs.all nT=ah->∀u∈us,Ku A s u v (mQ x u)
 |_,_,.nil,_=>λu Z=>by cases Z
 |y::xs,u::us,.cons r t,f=>λW Z=>by
  rw[Dz,fk]at f;rcases bJ.mp Z with rfl|Z
  .rw [E2 r f.1];exact Ws r Y f.1 X
  .exact BM Y X t f.2 W Z
def iW(x:V)(xs:List V):Bool:=xs.any λy=>qy y x
inductive rh(K:aw)(neg:Bool)(x:V)(y:V)(H:Hp)(Q:VK):Prop|mk(p xs:_)(_:y=.ref p)(_:(aL K H p xs\/aY K H p xs))(_:nT x=ah)(_:xs.all nT=ah)(_:Q (.bl (if neg then !iW x xs else iW x xs)) H)
def tK:eW X (gy .In) (rh X.K aB):=by
 intro ag s S H x y v u Q I W T h;obtain⟨p,xs,rfl,Y,V,fs,q⟩:=h;cases T;rcases Y with Y|Y
 .obtain ⟨Z,r,pl,hz⟩:=I.list Y;refine SeqAt.in_listAt (mQ x) pl.isList (λw hw=>BM W V r fs w ‹hw›) ⟨.bl _,H,I,U,?_⟩;rw[show Z.toArray.any (mQ x)=Z.any (mQ x) by simp,EC r fs];exact q
 .obtain ⟨Z,r,pl,hz⟩:=I.tuple Y;refine SeqAt.in_tupleAt (mQ x) pl (λw hw=>BM W V r fs w ‹hw›) ⟨.bl _,H,I,U,?_⟩;rw[show Z.toArray.any (mQ x)=Z.any (mQ x) by simp,EC r fs];exact q
def Ug:i3 X (.builtin "len") (λxs H Q=>∃p ys,xs=[.ref p]/\(aL X.K H p ys\/aY X.K H p ys)/\Q (.int ys.length) H):=by
 intro ag s S H xs us Q I r h;obtain⟨p,ys,rfl,Y,q⟩:=h;obtain⟨u,rfl,T⟩:=wm r;cases T;have R:=BF;rcases Y with Y|Y
 .obtain ⟨V,W,pl,hz⟩:=I.list Y;have Z:=W.length;exact Calls.call_len_list pl.isList (by simp only[eh]<;>lia) ⟨.int ys.length,H,I.gH _,⟨s.toks+1,by rw[eh,Z]⟩,q⟩
 .obtain ⟨V,W,pl,hz⟩:=I.tuple Y;have Z:=W.length;exact len_tuple pl (by simp only[eh]<;>lia) ⟨.int ys.length,H,I.gH _,⟨s.toks+1,by rw[eh,Z]⟩,q⟩
def Uh:i3 X (.type "list") (λxs H Q=>∃p ys,xs=[.ref p]/\(aL X.K H p ys\/aY X.K H p ys)/\∀l,H l=aj->Q (.ref l) (aM H l (.aC ys))):=by
 intro ag s N H xs us Q I r h;obtain⟨p,ys,rfl,V,q⟩:=h;obtain⟨u,rfl,M⟩:=wm r;cases M;have S:∀(Z:List af),bD ys Z->ys.length<=aS->∀(h':aK) (W:Nat),(∀b O,s.heap.get? b=aa O->h'.get? b=aa O)->
  h'.get? s.heap.objs.size=aa {cls:=.type "list",dict:=aj,data:=.seq Z.toArray W,slots:=#[]}->EP X ag N Q (.ref s.heap.objs.size) {s with heap:=h'}:=λZ Y hz h' W kp e=>
  ⟨.ref s.heap.objs.size,_,I.laid (t':=s.toks) kp (bp _) (show eC X.prog X.w _ h' _ (.aC ys)from⟨hz,Z,W,Y,e⟩),U,q _ (I.aW.fresh (bp _))⟩
 rcases V with V|V
 .obtain ⟨Z,Y,pl,hz⟩:=I.list V;have T:=Y.length;obtain⟨o,R,P,n,hd⟩:=pl.isList;exact call_list_seq p (.inl U) R P hd (λh' W kp e=>S Z Y hz h' W kp e) (by simp only[eh]<;>lia)
 .obtain ⟨Z,Y,pl,hz⟩:=I.tuple V;have T:=Y.length;obtain⟨o,R,P,n,hd⟩:=pl;exact call_list_seq p (.inr U) R P hd (λh' W kp e=>S Z Y hz h' W kp e) (by simp only[eh]<;>lia)
def Ui:i3 X (.type "tuple") (λxs H Q=>∃p ys,xs=[.ref p]/\((aL X.K H p ys/\∀l,H l=aj->Q (.ref l) (aM H l (.bh ys)))\/(aY X.K H p ys/\Q (.ref p) H))):=by
 intro ag s V H xs us Q I r h;obtain⟨p,ys,rfl,h⟩:=h;obtain⟨u,rfl,R⟩:=wm r;cases R;rcases h with⟨W,q⟩|⟨W,q⟩
 .obtain ⟨Z,Y,pl,hz⟩:=I.list W;have T:=Y.length;refine call_tuple_list pl.isList (λh' kp=>?_) (by simp only[eh]<;>lia);have S:aG X ag V H {s with heap:=h'}:=I.eE (t':=s.toks) kp;have P:aG X ag V (aM H h'.objs.size (.bh ys)) {s with heap:=h'.push {cls:=.type "tuple",data:=.seq Z.toArray}}:=
   S.laid (t':=s.toks) (λb o e=>cq _ e) (bp _) (show eC X.prog X.w _ _ _ (.bh ys)from⟨hz,Z,Y,nj.new _ _⟩)
  exact⟨.ref h'.objs.size,_,P,U,q _ (S.aW.fresh (bp _))⟩
 .obtain ⟨Z,Y,pl,hz⟩:=I.tuple W;exact call_tuple_same pl ⟨.ref p,H,I,U,q⟩
def Rb(K:aw)(T:String)(x:V)(H:Hp):Prop:=match x with
 |.str _=>T="str"
 |.int _=>T="int"
 |.ref p=>(T="list"/\∃xs,aL K H p xs)\/(T="tuple"/\∃o,K.lookup p=aa o/\o.cls=.type "tuple"/\o.dict=aj)\/
  (T="dict"/\((∃kvs,H p=aa (.dK kvs))\/∃kvs,H p=aa (.dT kvs)))\/(T="set"/\∃S n,H p=aa (.set S n))
 |_=>False
def ag6{Y:St}{H:Hp}{T:String}{x:V}(I:aG X ag Y H s)(r:bL x v)(ty:Rb X.K T x H):s.TypeIs v T/\∀a,v=.ref a->∃ob,s.heap.get? a=aa ob/\ob.dict=aj:=by
 cases x with
 |str z=>
  obtain⟨t,rfl⟩:=r;cases(show T="str"from ty);exact⟨typeIs_str s z t,λ_ e=>nomatch e⟩
 |int i=>
  obtain⟨t,rfl⟩:=r;cases(show T="int"from ty);exact⟨typeIs_int s i t,λ_ e=>nomatch e⟩
 |ref p=>
  cases r;rcases ty with⟨rfl,xs,R⟩|⟨rfl,o,hk,Q,hd⟩|⟨rfl,hk⟩|⟨rfl,S,n,hk⟩
  .obtain ⟨W,_,pl,_⟩:=I.list R;refine⟨pl.isList.typeIs,λa e=>?_⟩;cases e;obtain⟨o,n,e,c,hd,_⟩:=pl;exact⟨o,e,hd⟩
  .refine ⟨⟨o,I.ip p o hk,Q⟩,λa e=>?_⟩;cases e;exact⟨o,I.ip _ o hk,hd⟩
  .have z:∃o,s.heap.get? p=aa o/\o.ExactDict:=by
    rcases hk with⟨kvs,hk⟩|⟨kvs,hk⟩
    .obtain ⟨_,_,_,_,o,_,_,e,ex,_⟩:=I.aW p _ hk;exact⟨o,e,ex⟩
    .obtain ⟨_,_,_,_,o,_,_,e,ex,_⟩:=I.aW p _ hk;exact⟨o,e,ex⟩
   obtain⟨o,e,ex⟩:=z;refine⟨⟨o,e,ex.1⟩,λa Z=>?_⟩;cases Z;exact⟨o,e,ex.2.1⟩
  .obtain ⟨o,_,_,_,e,ex,_⟩:=I.aW p _ hk;refine⟨⟨o,e,ex.1⟩,λa Z=>?_⟩;cases Z;exact⟨o,e,ex.2.1⟩
 |_=>exact i4 ty
def CY(K:aw)(T:String)(r:V->List V->Hp->VK->Prop)(to:TE)(t:TA):TE:=λZ H Q=>to Z H λx Y=>Rb K T x Y/\t Z Y λxs X=>r x xs X Q
variable{o e:Expr}{es:List Expr}{to:TE}{t:TA}{name:Str}{apos et:Pos}{T id:String}{r:V->List V->Hp->VK->Prop}
def fA(D:PlainAttrs T)(slot:Slot T name id)(R:typeOf (.builtin id)=pure (.type "method_descriptor"))(B:rN X id r)(C:PE X o to)(A:PA X (e::es) t)(W:xo o name X.env (cC o X.env)=cC o X.env:=by rfl)(V:((gj et (cu (e::es) X.env)).all (λx=>!x.1)&&(backToKw et (Eg [] X.env)).all (λx=>x.1.isSome)&&decide ((e::es).length+([]:List rZ).length+(if([]:List rZ).isEmpty then 0 else 1)<30))=ah:=by rfl)(Y:(apos.endLine==et.line)=ah:=by rfl)(hs:cu (e::es) X.env=(aB,cC e X.env)::cu es X.env:=by rfl)(Z:(gj et (cu es X.env)).any (·.1)=aB:=by rfl):PE X (.Call (.Attribute o name apos) (e::es) [] et) (CY X.K T r to t):=by
 intro ag s S H Q I h;refine S9 W V Y U (bT (C ag s S H _ I h) ?_)
 rintro v J x q N P ⟨ty,E⟩
 obtain⟨y,z⟩:=ag6 N P ty;refine⟨T,id,D,slot,R,y,z,?_⟩;have O:=A et ag J S q _ N E;rw[hs]at O⊢;refine DX (by show(aB||(gj et (cu es X.env)).any (·.1))=aB;rw[Z]<;>rfl) (zV ?_);exact fe O λus L ⟨M,u,w,G,F⟩=>B ag L S u x M v us Q w P G F
end
def DK(X:Cx)(id:String)(r:V->List V->Hp->VK->Prop):Prop:=
 ∀(ag:List (ae×Obj)) (s:aD) (Z:St) (H:Hp) (x:V) (xs:List V) (v:af) (us:List af) (Q:VK),aG X ag Z H s->bL x v->bD xs us->r x xs H Q->
  aN (model X.prog X.w) X.A (call (.builtin id) (v::us)) (EP X ag Z Q) X.xe s
def bD.jj:∀{x:V} {us:List af},bD [x] us->∃u,us=[u]/\bL x u
 |_,_,.cons r .nil=>⟨_,U,r⟩
section
variable{X:Cx}{ag:List (ae×Obj)}{σ:St}{H:Hp}{s:aD}{l:ae}{xs ys:List V}
def aG.GA{jy:List af}{n:Nat}{f:Array af->Array af}(I:aG X ag σ H s)(T:H l=aa (.aC xs))(e:s.heap.get? l=aa {cls:=.type "list",data:=.seq bw.toArray n})(W:f bw.toArray=jy.toArray)(Z:bD ys jy)(hz:ys.length<=aS):aG X ag σ (aM H l (.aC ys)) {s with heap:=s.heap.update l (oP f),toks:=t'}:=by have q:=PySem.IsL.update e f;rw[W]at q;refine I.oB (x:=l) (e:=l) (by rw[T];exact trivial) (.inl U) (λS u V Y=>(D4 s.heap (oP f) (cU V)).trans Y) ⟨_,q⟩ ?_;exact⟨hz,jy,_,Z,q⟩
def aG.Z1(I:aG X ag σ H s)(Z:bD ys bw)(hz:ys.length<=aS):aG X ag σ (aM H s.heap.objs.size (.aC ys)) {s with heap:=s.heap.push {cls:=.type "list",data:=.seq bw.toArray},toks:=t'}:=
 I.laid (λ_ _ q=>cq _ q) (bp _) ⟨hz,bw,0,Z,dm _ U⟩
theorem aG.fresh(I:aG X ag σ H s):H s.heap.objs.size=aj:=I.aW.fresh (bp _)
def aG.vt(I:aG X ag σ H s)(Z:H l=aa (.aC xs)):xs.length<=aS/\∃(bw:List af) (n:Nat),bD xs bw/\xs.length=bw.length/\s.heap.get? l=aa {cls:=.type "list",data:=.seq bw.toArray n}:=by obtain⟨z,bw,n,r,e⟩:=I.aW l _ Z;exact⟨z,bw,n,r,r.length,e⟩
def Om{n:Nat}(h:n<=aS):zU n=aB:=by unfold zU;exact cE (by lia)
end
section
variable{X:Cx}
inductive Pz(x:V)(vs:List V)(H:Hp)(Q:VK):Prop|mk(l xs y:_)(_:x=.ref l)(_:vs=[y])(_:H l=aa (.aC xs))(_:xs.length<aS)(_:Q .bW (aM H l (.aC (xs++[y]))))
def j6:DK X "list.append" Pz:=by intro ag s S H x R v us Q I W V h;obtain⟨l,xs,y,rfl,rfl,Y,hz,q⟩:=h;cases W;obtain⟨u,rfl,T⟩:=V.jj;obtain⟨z,Z,n,r,P,e⟩:=I.vt Y;refine Ed jQ ⟨_,e,U⟩ F.entry_list_append (F.args_list_append_2 _ _) (PySem.list_append l Z.toArray n u (by rw[eh];lia)) ⟨e,?_⟩;refine⟨.bW,_,I.GA (jy:=Z++[u]) Y e (by simp) (r.append (.cons T .nil)) ?_,U,q⟩;rw[bb,DG];lia
inductive adn(x:V)(vs:List V)(H:Hp)(Q:VK):Prop|mk(l b xs zs:_)(_:x=.ref l)(_:vs=[.ref b])(_:H l=aa (.aC xs))(_:H b=aa (.aC zs))(_:xs.length+zs.length<=aS)(_:Q .bW (aM H l (.aC (xs++zs))))
def aaF:DK X "list.extend" adn:=by
 intro ag s L H x J v us Q I T S h;obtain⟨l,b,xs,zs,rfl,rfl,V,hB,hz,q⟩:=h;cases T;obtain⟨u,rfl,R⟩:=S.jj;cases R;obtain⟨z,Y,n,r,G,e⟩:=I.vt V;obtain⟨K,Z,O,P,N,M⟩:=I.vt hB;have hsz:Y.toArray.size+Z.toArray.size<=aS:=by rw[eh,eh];lia
 have W:¬(!Y.toArray.isEmpty&&zU (Y.toArray.size+Z.toArray.size))=ah:=by rw[Om hsz,dy];exact cg
 refine Ed lz ⟨_,e,U⟩ F.entry_list_extend (Sv _ _)
  (AutoSeq1.list_extend_list_list_0 l Y.toArray n b Z.toArray O W (by rw[eh];lia) (by lia)) ⟨e,M,?_⟩
 refine⟨.bW,_,I.GA (jy:=Y++Z) V e (by simp) (r.append P) ?_,U,q⟩;rw[bb];lia
inductive PB(x:V)(y:V)(H:Hp)(Q:VK):Prop|mk(l b xs zs:_)(_:x=.ref l)(_:y=.ref b)(_:H l=aa (.aC xs))(_:H b=aa (.aC zs))(_:xs.length+zs.length<=aS)(_:∀p,H p=aj->Q (.ref p) (aM H p (.aC (xs++zs))))
def gU:eW X (nE .Add) PB:=by
 intro ag s M H x y v u Q I V W h;obtain⟨l,b,xs,zs,rfl,rfl,R,hB,hz,q⟩:=h;cases V;cases W;obtain⟨z,Y,n,r,J,e⟩:=I.vt R;obtain⟨L,Z,K,T,S,N⟩:=I.vt hB;refine PySem.P.add_list e N ?_ (by rw[eh,eh];lia);have O:Y.toArray++Z.toArray=(Y++Z).toArray:=by simp
 rw[O];exact⟨.ref _,_,I.Z1 (t':=s.toks) (r.append T) (by rw[bb];lia),U,q _ I.fresh⟩
end
theorem bD.Ga:∀{ns:List Int} {us:List af},bD (ns.map V.int) us->oN us ns
 |[],us,h=>by rw[wV]at h;cases h;exact IntsAre.nil
 |n::ns,us,h=>by
  rw[bM]at h;cases h with
  |cons r t=>
   obtain⟨k,rfl⟩:=r;exact IntsAre.cons n k (bD.Ga t)
theorem bD.EH:∀{bs:List Bool} {us:List af},bD (bs.map V.bl) us->us=bs.map r4
 |[],us,h=>by rw[wV]at h;cases h;rfl
 |b::bs,us,h=>by
  rw[bM]at h;cases h with
  |cons r t=>
   cases r;rw[bD.EH t,bM]
def bD.HR(r:bD [V.ref a] us):us=[cR a]:=by
 cases r with
 |cons r t=>
  cases t;cases r;rfl
section
variable{prog:aR}{w:aQ}{A:b8}{E:af->aD->Prop}{s:aD}{l:ae}{bw:List af}{ns:List Int}{Q:af->aD->Prop}
def agb(W:A.handled=aj)(Y:s.heap.IsList l bw.toArray)(X:oN bw ns)(h:∀h' tk t',(∀b o,s.heap.get? b=aa o->h'.get? b=aa o)->Q (.int ns.sum t') {s with heap:=h',toks:=tk}):aN (model prog w) A (call (.builtin "sum") [.ref l]) Q E s:=by
 obtain⟨xs,e⟩:=X.allInts.items;have Z:numsOf (intItems xs).toList=ns:=by rw[<-e];exact X.numsOf
 rw[nums_intItems]at Z;rw[e]at Y;refine PySem.sum_intListG W Y λh' tk t' hk=>?_;have:=h h' tk t' hk;rw[preSum_eq,zK (by simp),Z];exact this
end
section
variable{X:Cx}
inductive Ck(K:aw)(vs:List V)(H:Hp)(Q:VK):Prop|mk(a:ae)(ns:List Int)(_:vs=[V.ref a])(_:aL K H a (ns.map V.int))(_:Q (.int ns.sum) H)
def EV(V:X.ij=ah):i3 X (.builtin "sum") (Ck X.K):=by intro ag s T H S us Q I r h;obtain⟨a,ns,rfl,hs,q⟩:=h;obtain⟨Y,Z,W,_⟩:=I.list hs;rw[bD.HR r];exact agb (I.ok.hd V) W.isList Z.Ga λh' tk t' hk=>⟨.int _,H,I.eE hk,⟨_,U⟩,q⟩
end
def Nz{l:ae}(X:s.heap.IsList l items)(h:∀Z:aD,Z={s with heap:=s.heap.push {cls:=.type "list_iterator",data:=.fields #[.ref l,.int 0 0]}}->(Z.heap.IsListIter s.heap.objs.size l 0/\Z.heap.IsList l items)->l≠s.heap.objs.size->Q (.ref s.heap.objs.size) Z):aN (model prog w) A (su (.ref l)) Q E s:=by
 have Y:l<s.heap.objs.size:=by obtain⟨_,e,_⟩:=X;exact cI e
 exact Ab X (h _ U ⟨⟨_,dm _ U,U,U⟩,X.push _⟩ (c8 Y))
def Q7{bs:List Bool}(e:bw=bs.map r4):TruthOf prog w A (λi v=>bw.toArray[i]?=aa v) (λi=>bs.getD i aB):=λi v s Q E X W=>by
 have Z:bw[i]?=aa v:=‹X›
 rw[e,cf]at Z;obtain⟨b,T,rfl⟩:=rQ.mp Z;have V:bs.getD i aB=b:=by rw[wR,T]<;>rfl
 have Y:Q (bs.getD i aB) s:=W;rw[V]at Y;exact i_ Y
theorem Lg:∀bs:List Bool,(uf bs.length).any (λi=>bs.getD i aB)=bs.any id
 |[]=>rfl
 |b::bs=>by
  rw[bY,R8,mj,rF,mj,<-Lg bs]
  all_goals rfl
theorem Lf:∀bs:List Bool,(uf bs.length).all (λi=>bs.getD i aB)=bs.all id
 |[]=>rfl
 |b::bs=>by
  rw[bY,R8,Dz,wL,Dz,<-Lf bs]
  all_goals rfl
section
variable{X:Cx}
inductive HJ(K:aw)(vs:List V)(H:Hp)(Q:VK):Prop|mk(a:ae)(bs:List Bool)(_:vs=[V.ref a])(_:aL K H a (bs.map V.bl))(_:Q (.bl (bs.any id)) H)
inductive yV(K:aw)(vs:List V)(H:Hp)(Q:VK):Prop|mk(a:ae)(bs:List Bool)(_:vs=[V.ref a])(_:aL K H a (bs.map V.bl))(_:Q (.bl (bs.all id)) H)
def LI(O:X.ij=ah):i3 X (.builtin "any") (HJ X.K):=by
 intro ag s L H J us Q I r h;obtain⟨a,bs,rfl,hs,q⟩:=h;obtain⟨Y,R,P,_⟩:=I.list hs;rw[bD.HR r];have T:=R.EH;refine call_any_walk (Nz P.isList λV N st W=>?_);subst N;refine⟨_,_,_,_,_,_,_,U,KL (A:=X.A.in1) (I.ok.hd O) _ a W Y.toArray,st,Q7 T,λh' tk hk=>?_⟩;refine⟨.bl _,H,I.eE λb o S=>hk b o (λZ=>?_) (cq _ S),?_,q⟩
 .rcases bJ.mp Z with M|Z
  .exact bq (M▸cI S) (jP _)
  .cases Z
 .show r4 _=r4 _;rw[<-Lg,T,eh,aP]
def AM(O:X.ij=ah):i3 X (.builtin "all") (yV X.K):=by
 intro ag s L H J us Q I r h;obtain⟨a,bs,rfl,hs,q⟩:=h;obtain⟨Y,R,P,_⟩:=I.list hs;rw[bD.HR r];have T:=R.EH;refine call_all_walk (Nz P.isList λV N st W=>?_);subst N;refine⟨_,_,_,_,_,_,_,U,KL (A:=X.A.in1) (I.ok.hd O) _ a W Y.toArray,st,Q7 T,λh' tk hk=>?_⟩;refine⟨.bl _,H,I.eE λb o S=>hk b o (λZ=>?_) (cq _ S),?_,q⟩
 .rcases bJ.mp Z with M|Z
  .exact bq (M▸cI S) (jP _)
  .cases Z
 .show r4 _=r4 _;rw[<-Lf,T,eh,aP]
end
mutual
inductive Dp (K:aw) (H:Hp):V->oQ->Prop
 |bW:Dp K H .bW .none
 |bl (b:Bool):Dp K H (.bl b) (.bool b)
 |int (i:Int):Dp K H (.int i) (.int i)
 |str (x:Str):Dp K H (.str x) (.str x)
 |aC {a:ae} {xs:List V} {ds:List oQ}:aL K H a xs->t6 K H xs ds->Dp K H (.ref a) (.list ds)
 |bh {a:ae} {xs:List V} {ds:List oQ}:aY K H a xs->t6 K H xs ds->Dp K H (.ref a) (.tuple ds)
inductive t6 (K:aw) (H:Hp):List V->List oQ->Prop
 |nil:t6 K H [] []
 |cons {v:V} {vs:List V} {d:oQ} {ds:List oQ}:Dp K H v d->t6 K H vs ds->t6 K H (v::vs) (d::ds)
end
section
variable{X:Cx}{ag:List (ae×Obj)}{σ:St}{H:Hp}{s:aD}
mutual
theorem Dp.vU (I:aG X ag σ H s):∀(d:oQ) (v:V) (u:af),Dp X.K H v d->bL v u->∃as,Reads s.heap u d as
 |.none,_,_,h,r=>by cases h;cases r;exact⟨_,Reads.none⟩
 |.bool b,_,_,h,r=>by cases h;cases r;exact⟨_,Reads.bool b⟩
 |.int i,_,_,h,r=>by cases h;obtain⟨t,rfl⟩:=r;exact⟨_,Reads.int i t⟩
 |.str x,_,_,h,r=>by cases h;obtain⟨t,rfl⟩:=r;exact⟨_,Reads.str x t⟩
 |.list ds,_,_,h,r=>by
  cases h with
  |aC hs ha=>
   cases r;obtain⟨bw,rv,⟨o,n,ho,hc,_,hd⟩,_⟩:=I.list hs;obtain⟨as,hr⟩:=Dp.tR I ds _ bw ha rv;exact⟨_,Reads.list ho hc hd hr⟩
 |.tuple ds,_,_,h,r=>by
  cases h with
  |bh hs ha=>
   cases r;obtain⟨bw,rv,⟨o,ho,hc,n,hd⟩,_⟩:=I.tuple hs;obtain⟨as,hr⟩:=Dp.tR I ds _ bw ha rv;exact⟨_,Reads.tuple ho hc hd hr⟩
 |.dict _,_,_,h,_=>by cases h
theorem Dp.tR (I:aG X ag σ H s):∀(ds:List oQ) (vs:List V) (us:List af),t6 X.K H vs ds->bD vs us->∃as,ReadsAll s.heap us ds as
 |[],_,_,h,r=>by cases h;cases r;exact⟨_,ReadsAll.nil⟩
 |d::ds,_,_,h,r=>by
  cases h with
  |cons h1 h2=>
   cases r with
   |cons r1 r2=>
    obtain⟨as,q1⟩:=Dp.vU I d _ _ h1 r1;obtain⟨bs,q2⟩:=Dp.tR I ds _ _ h2 r2;exact⟨_,ReadsAll.cons q1 q2⟩
end
end
section
variable{X:Cx}
inductive adm(K:aw)(x:V)(y:V)(H:Hp)(Q:VK):Prop|mk(d e:_)(_:Dp K H x d)(_:Dp K H y e)(_:Kv d=ah)(_:Kv e=ah)(_:Q (.bl (zZ d e)) H)
def OM(S:X.A.units+64<du):eW X (gy .Eq) (adm X.K):=by intro ag s R H x y v u Q I W Y h;obtain⟨d,e,hd,he,sd,Z,q⟩:=h;obtain⟨P,T⟩:=Dp.vU I d x v hd W;obtain⟨bs,V⟩:=Dp.vU I e y u he Y;exact SeqAt.compareEq_shaped T V sd Z S ⟨.bl _,H,I,U,q⟩
end
abbrev JB(h:aK)(c:ae)(v:Option af):Prop:=h.IsCell c v
def adx(scope sc:dM):dM:=
 {scope with names:=scope.names.map λ(n,k)=>if(k==.free&&sc.kind==.function&&sc.names.lookup n==aa .cell)then(n,.cell)else(n,k)}
def gQ(cells:List (Str×ae)):List (Str×jr)->List (Str×ae)->List (Str×ae)
 |[],acc=>acc
 |(n,k)::r,acc=>if k==.free then gQ cells r ((n,(cells.lookup n).getD 0)::acc)else gQ cells r acc
theorem LB(env:Env)(f:Str×jr->List (Str×ae)->Sem (ForInStep (List (Str×ae))))(Y:∀n k c,f (n,k) c=if k==.free then(do let a<-cellOf env n;pure (.yield ((n,a)::c)))else pure (.yield c)):
 ∀(names:List (Str×jr)) (acc:List (Str×ae)),(∀y∈names,y.2=.free->∃c,env.cells.lookup y.1=aa c)->forIn names acc f=pure (gQ env.cells names acc)
 |[],acc,_=>by rw[oH];rfl
 |(n,k)::r,acc,h=>by
  rw[nr,Y];have Z:=λacc=>LB env f Y r acc λy W=>h y (cj _ W);unfold gQ;by_cases hk:(k==xn)=ah
  .rw [aA hk,aA hk];obtain⟨c,X⟩:=h (n,k) cy ‹hk›;have e:cellOf env n=pure c:=by unfold cellOf;rw[X]
   rw[e];have V:(env.cells.lookup n).getD 0=c:=by rw[X];rfl
   rw[V];exact Z _
  .rw [ay hk,ay hk];exact Z _
def Ur{env:Env}(h:∀y∈scope.names,y.2=.free->∃c,env.cells.lookup y.1=aa c):closureFor scope env=pure (gQ env.cells scope.names []):=by simp only[closureFor];rw[LB env _ (λn k c=>rfl) scope.names [] h];rfl
theorem GP{Z:Type}:∀{l:List (Str×Z)} {n:Str} {c:Z},(n,c)∈l->∃X,l.lookup n=aa X
 |(k,v)::r,n,c,h=>by
  rw[rJ];cases Y:n==k with
  |true=>exact⟨_,U⟩
  |false=>
   rcases bJ.mp h with e|h
   .cases e;simp at Y
   .exact GP h
theorem AJ{cells:List (Str×ae)}:∀{names:List (Str×jr)} {acc:List (Str×ae)} {n:Str} {c:ae},(n,c)∈gQ cells names acc->(n,c)∈acc\/((n,.free)∈names/\c=(cells.lookup n).getD 0)
 |[],_,_,_,h=>.inl h
 |(m,k)::r,acc,n,c,h=>by
  unfold gQ at h;split at h
  .rename_i hk;have hk:k=.free:=‹hk›
   rcases AJ h with h|⟨Y,Z⟩
   .rcases bJ.mp h with e|h
    .cases e;exact .inr ⟨hk▸cy,U⟩
    .exact .inl h
   .exact .inr ⟨cj _ Y,Z⟩
  .rcases AJ h with h|⟨Y,Z⟩
   .exact .inl h
   .exact .inr ⟨cj _ Y,Z⟩
theorem EM{cells:List (Str×ae)}:∀{names:List (Str×jr)} {acc:List (Str×ae)} {p:Str×ae},p∈acc->p∈gQ cells names acc
 |[],_,_,h=>h
 |(m,k)::r,acc,p,h=>by
  unfold gQ;split
  .exact EM (cj _ h)
  .exact EM h
theorem EN{cells:List (Str×ae)}:∀{names:List (Str×jr)} {acc:List (Str×ae)} {n:Str},(n,.free)∈names->(n,(cells.lookup n).getD 0)∈gQ cells names acc
 |(m,k)::r,acc,n,h=>by
  unfold gQ;rcases bJ.mp h with e|h
  .cases e;exact EM cy
  .split
   .exact EN h
   .exact EN h
theorem xO:∀{names:List (Str×jr)} {h:aK} {acc:List (Str×ae)} {x:Str} {c:ae},(x,c)∈gK h.objs.size names acc->(x,c)∈acc\/((x,.cell)∈names/\h.objs.size<=c/\JB (sr h names) c aj)
 |[],_,_,_,_,h=>.inl h
 |(n,k)::r,h,acc,x,c,Z=>by
  unfold gK at Z;unfold sr;split at Z
  .rename_i hk;rw[aA hk];have hk:k=.cell:=‹hk›
   rw[<-fU h {cls:=.type "cell",data:=.cell aj}]at Z;rcases xO Z with Z|⟨W,Y,X⟩
   .rcases bJ.mp Z with e|Z
    .cases e;exact .inr ⟨hk▸cy,bp _,_,Ej r _ _ _ (dm _ U),U⟩
    .exact .inl Z
   .rw [fU]at Y;exact .inr ⟨cj _ W,DM Y,X⟩
  .rename_i hk;rw[ay hk];rcases xO Z with Z|⟨W,Y,X⟩
   .exact .inl Z
   .exact .inr ⟨cj _ W,Y,X⟩
theorem AG:∀{names:List (Str×jr)} {n:Nat} {acc:List (Str×ae)} {p:Str×ae},p∈acc->p∈gK n names acc
 |[],_,_,_,h=>h
 |(m,k)::r,n,acc,p,h=>by
  unfold gK;split
  .exact AG (cj _ h)
  .exact AG h
theorem EK:∀{names:List (Str×jr)} {n:Nat} {acc:List (Str×ae)} {x:Str},(x,.cell)∈names->∃c,(x,c)∈gK n names acc
 |(m,k)::r,n,acc,x,h=>by
  unfold gK;rcases bJ.mp h with e|h
  .cases e;exact⟨n,AG cy⟩
  .split
   .exact EK h
   .exact EK h
theorem EL:∀{names:List (Str×jr)} {h:aK} {acc:List (Str×ae)} {x y:Str} {c:ae},(∀p∈acc,p.2<h.objs.size)->(∀x y c,(x,c)∈acc->(y,c)∈acc->x=y)->(x,c)∈gK h.objs.size names acc->(y,c)∈gK h.objs.size names acc->x=y
 |[],_,_,_,_,_,_,W,Y,Z=>W _ _ _ Y Z
 |(n,k)::r,h,acc,x,y,c,X,W,Y,Z=>by
  unfold gK at Y Z;split at Y
  .rename_i hk;rw[aA hk]at Z;rw[<-fU h {cls:=.type "cell",data:=.cell aj}]at Y Z;refine EL (h:=h.push _) (λp V=>?_) (λx y c a b=>?_) Y Z
   .rw [fU];rcases bJ.mp V with rfl|V
    .exact qc _
    .exact wX (X p V)
   .rcases bJ.mp a with e|a<;>rcases bJ.mp b with T|b
    .cases e;cases T;rfl
    .cases e;exact bq (X _ b) (jP _)
    .cases T;exact bq (X _ a) (jP _)
    .exact W _ _ _ a b
  .rename_i hk;rw[ay hk]at Z;exact EL X W Y Z
def aaV{M:oO}{globals:ae}{closure:List (Str×ae)}{func:Option ae}{code:af}{Z:Env}{builtins:ae}{Q:Env->aD->Prop}(h:Q (newEnv scope s.heap.objs.size globals (gK (s.heap.objs.size+1) scope.names closure) qual func code (aa Z) builtins) {s with heap:=sr (s.heap.push {cls:=.type "dict",data:=.dict #[]}) scope.names}):aN M A (newFunctionEnv scope globals closure [] qual func code (aa Z) builtins) Q E s:=by simp only[newFunctionEnv,Option.isSome_some,if_true];refine az (wpAny_alloc ?_);refine az (wpAny_layCells _ (λn k c=>rfl) scope.names closure _ _ ?_);rw[show({s with heap:=s.heap.push {cls:=.type "dict",data:=.dict #[]}}:aD).heap.objs.size=s.heap.objs.size+1 from fU ..];rw[oH];exact az (aV (aV h))
theorem Gy{sc:dM}:∀{names:List (Str×jr)} {x:Str} {k:jr},(names.map λ(n,k)=>if(k==xn&&sc.kind==.function&&sc.names.lookup n==aa .cell)then(n,Kt)else(n,k)).lookup x=aa k->∃W,names.lookup x=aa W/\(k=W\/(W=.free/\k=.cell))
 |[],_,_,h=>by simp at h
 |(n,Z)::r,x,k,h=>by
  have V:=@Gy sc r x k;have h':lu x ((if(Z==xn&&sc.kind==.function&&sc.names.lookup n==aa .cell)=ah then(n,Kt)else(n,Z))::(r.map _))=aa k:=h;cases X:x==n with
  |true=>
   simp only[rJ,X];by_cases Y:(Z==xn&&sc.kind==.function&&sc.names.lookup n==aa .cell)=ah
   .rw [aA Y]at h';simp only[rJ,X]at h';cases h';simp only[fk,iE]at Y;exact⟨Z,U,.inr ⟨Y.1.1,U⟩⟩
   .rw [ay Y]at h';simp only[rJ,X]at h';cases h';exact⟨_,U,.inl U⟩
  |false=>
   simp only[rJ,X];by_cases Y:(Z==xn&&sc.kind==.function&&sc.names.lookup n==aa .cell)=ah
   .rw [aA Y]at h';simp only[rJ,X]at h';exact V h'
   .rw [ay Y]at h';simp only[rJ,X]at h';exact V h'
structure wH (N:List Str) (sc scope:dM) (own:List (Str×Nat)):Prop where
 kind:scope.kind=.function
 Jj:∀y∈scope.names,scope.names.lookup y.1=aa y.2
 ix:∀p∈own,N[p.2]?=aa p.1
 free:∀y∈scope.names,y.2=.free->sc.names.lookup y.1=aa .cell\/sc.names.lookup y.1=aa .free
 own:∀y∈scope.names,y.2=.local\/y.2=.cell->y.1∈own.map (·.1)\/y.1∉N
def e7(Z:St):List Nat->St
 |[]=>Z
 |v::vs=>(e7 Z vs).set v aj
theorem Ju(Z:St):∀vs:List Nat,(e7 Z vs).length=Z.length
 |[]=>rfl
 |v::vs=>by unfold e7;rw[zF,Ju Z vs]
theorem Jv{Z:St}{i:Nat}{x:V}:∀{vs:List Nat},(e7 Z vs)[i]?=aa (aa x)->Z[i]?=aa (aa x)/\i∉vs
 |[],h=>⟨h,by simp⟩
 |v::vs,h=>by
  unfold e7 at h;by_cases Y:v=i
  .subst Y;by_cases X:v<(e7 Z vs).length
   .rw [JU X]at h;cases h
   .rw [zE ‹X›]at h;cases h
  .rw [JT Y]at h;obtain⟨T,W⟩:=Jv h;exact⟨T,by simp only[bJ,not_or];exact⟨λe=>Y e.symm,W⟩⟩
abbrev Cx.ig(X:Cx)(s:aD)(H:Hp)(scope:dM)(Z:Env)(fp:List ae):Cx:={X with hX:=s,wK:=H,env:=Z,outer:=X.stack,ex:=fp,fn:=λx=>scope.names.lookup x==aa .cell,pn:=[],xe:=λ_ _=>False}
section
variable{X:Cx}{ag:List (ae×Obj)}{σ:St}{H:Hp}{s:aD}
def T4(I:aG X ag σ H s)(ok:wH X.N X.env.scope scope own)(hN:X.N.Nodup)(S:∀b∈fp,lr X ag H b/\b<s.heap.objs.size):aG (X.ig s H scope (lC scope (gK (s.heap.objs.size+1) scope.names (gQ X.env.cells scope.names [])) s.heap.objs.size X.env) fp) [] (e7 σ (own.map (·.2))) H {s with heap:=sr (s.heap.push {cls:=.type "dict",data:=.dict #[]}) scope.names}:=by
 have D:∀y∈scope.names,y.2=.free->∃c,X.env.cells.lookup y.1=aa c:=λy P e=>by
  rcases ok.free y P e with k|k
  .exact I.ok.has _ (.inl k)
  .exact I.ok.has _ (.inr k)
 generalize Y:lC scope (gK (s.heap.objs.size+1) scope.names (gQ X.env.cells scope.names [])) s.heap.objs.size X.env=Z;have kp:∀b o,s.heap.get? b=aa o->(sr (s.heap.push {cls:=.type "dict",data:=.dict #[]}) scope.names).get? b=aa o:=λb o e=>Ej _ _ _ _ (cq _ e);have u:Z.locals=s.heap.objs.size:=by rw[<-Y];rfl
 have V:Z.cells=gK (s.heap.objs.size+1) scope.names (gQ X.env.cells scope.names []):=by rw[<-Y];rfl
 have F:Z.scope=adx scope X.env.scope:=by rw[<-Y];rfl
 rw[<-fU s.heap {cls:=.type "dict",data:=.dict #[]}]at V;have x:∀{y c},(y,c)∈gQ X.env.cells scope.names []->X.env.cells.lookup y=aa c/\c<s.heap.objs.size:=λ{y c} T=>by
  rcases AJ T with T|⟨W,rfl⟩
  .cases T
  .obtain ⟨c,f⟩:=D _ W U;rw[f];obtain⟨w,z⟩:=I.cell _ _ f;exact⟨U,z.lt⟩
 have mem:∀{y c},Z.cells.lookup y=aa c->(X.env.cells.lookup y=aa c/\c<s.heap.objs.size)\/(s.heap.objs.size+1<=c/\JB (sr (s.heap.push {cls:=.type "dict",data:=.dict #[]}) scope.names) c aj):=λ{y c} e=>by
  rw[V]at e;rcases xO (jR e)with T|⟨_,M,h3⟩
  .exact .inl (x T)
  .rw [fU]at M;exact .inr ⟨M,h3⟩
 have look:∀{y},scope.names.lookup y=aa .free->∃c,Z.cells.lookup y=aa c/\X.env.cells.lookup y=aa c:=λ{y} v=>by
  have P:(y,xn)∈scope.names:=jR v;obtain⟨t,R⟩:=GP (AG (names:=scope.names) (n:=(s.heap.push {cls:=.type "dict",data:=.dict #[]}).objs.size) (EN (cells:=X.env.cells) (acc:=[]) P));rw[<-V]at R;refine⟨t,R,?_⟩;rw[V]at R;rcases xO (jR R)with T|⟨W,_,_⟩
  .exact (x T).1
  .have:=ok.Jj _ W;rw[v]at this;cases this
 have l:(X.ig s H scope Z fp).Ok:=by
  refine⟨I.ok.mod,by show Z.scope.kind=_;rw[F];exact ok.kind,by show Z.globals=_;rw[<-Y];exact I.ok.mS,by show Z.builtins=_;rw[<-Y];exact I.ok.uP,by show s.heap.objs.size<=Z.locals;rw[u];exact bp _,
   λy z c G J=>?_,λy P=>?_,λy c z e=>?_,I.ok.hd,I.ok.frames,.inl U,λb K=>⟨?_,λy c e z=>?_⟩,I.bs,c7 I.ok.nQ I.sz,λb o e K=>?_,λb K z=>?_,I.stack,I.QL⟩
  .have G:Z.cells.lookup y=aa c:=G;have J:Z.cells.lookup z=aa c:=J;rw[V]at G J;refine EL (λp C=>?_) (λy z c a b=>I.ok.inj y z c (x a).1 (x b).1) (jR G) (jR J);rw[fU];exact wX (x (y:=p.1) (c:=p.2) C).2
  .show∃c,Z.cells.lookup y=aa c;have key:∀k,Z.kindOf y=aa k->(k=.cell\/k=.free)->∃c,Z.cells.lookup y=aa c:=λk hk E=>by
    unfold Env.kindOf at hk;rw[F]at hk;obtain⟨L,e,r⟩:=Gy hk;have:L=.cell\/L=.free:=by
     rcases r with rfl|⟨rfl,_⟩
     .exact E
     .exact .inr U
    rcases this with rfl|rfl
    .obtain ⟨c,T⟩:=EK (n:=(s.heap.push {cls:=.type "dict",data:=.dict #[]}).objs.size) (acc:=gQ X.env.cells scope.names []) (jR e);obtain⟨t,R⟩:=GP T;exact⟨t,by rw[V];exact R⟩
    .obtain ⟨c,W,_⟩:=look e;exact⟨c,W⟩
   rcases P with P|P
   .exact key _ P (.inl U)
   .exact key _ P (.inr U)
  .have z:(scope.names.lookup y==aa Kt)=ah:=z;have z:scope.names.lookup y=aa .cell:=‹z›
   have e:Z.cells.lookup y=aa c:=e;rw[V]at e;rcases xO (jR e)with T|⟨_,M,_⟩
   .rcases AJ T with T|⟨W,_⟩
    .cases T
    .have q:=ok.Jj _ W;rw[z]at q;cases q
   .rw [fU]at M;exact DM M
  .show b≠Z.locals;rw[u];exact c8 (S b K).2
  .have e:Z.cells.lookup y=aa c:=e;rcases mem e with⟨W,_⟩|⟨W,_⟩
   .exact (S b K).1.2.2.2.2.1 y c W z
   .have M:s.heap.objs.size+1<=b:=by rw[<-z];exact W
    exact bq (g8 (S b K).2 (DM M)) (jP _)
  .rcases (S b K).1.2.2.2.1 with z|z
   .exact I.ok.yA b o e z
   .exact bq (g8 (cI e) (c7 I.ok.nQ z)) (jP _)
  .rcases bJ.mp (I.IT b z)with z|z
   .exact (S b K).1.2.1 z
   .exact (S b K).1.2.2.1 z
 refine⟨l,U,I.gm,Un.eE kp,⟨λ_=>aj,?_,λi y av G J Q=>?_⟩,λy c e=>?_,?_,λy c e=>?_,λp C=>?_,I.aW.eE kp,by rw[Ju];exact I.bG⟩
 .show Heap.Ns _ Z.locals _;rw[u];exact Heap.Ns.keeps (Heap.Ns.new ..) λb o e=>Ej _ _ _ _ e
 .obtain ⟨J,h⟩:=Jv J;have O:scope.names.lookup y=aa .free/\(Z.kindOf y=aa .cell\/Z.kindOf y=aa .free):=by
   have key:∀k,Z.scope.names.lookup y=aa k->k=.local\/k=.cell\/k=.free->scope.names.lookup y=aa .free/\(Z.kindOf y=aa .cell\/Z.kindOf y=aa .free):=λk hk E=>by
    have A:=hk;rw[F]at hk;obtain⟨L,e,r⟩:=Gy hk;have g:¬(L=.local\/L=.cell):=λd=>by
     rcases ok.own _ (jR e) d with R|R
     .obtain ⟨p,C,j⟩:=bA.mp R;have Q:=ok.ix p C;have:p.1=y:=j;rw[this]at Q;exact h (bA.mpr ⟨p,C,G_ hN Q G⟩)
     .exact R (ck G)
    rcases r with rfl|⟨rfl,rfl⟩
    .rcases E with rfl|rfl|rfl
     .exact bq (.inl U) g
     .exact bq (.inr U) g
     .exact ⟨e,.inr A⟩
    .exact ⟨e,.inl A⟩
   have Q:uM Z.scope y:=Q;rcases Q with Q|Q|Q
   .exact key _ Q (.inl U)
   .exact key _ Q (.inr (.inl U))
   .exact key _ Q (.inr (.inr U))
  obtain⟨m,hn,v⟩:=I.iX;have B:uM X.env.scope y:=(ok.free _ (jR O.1) U).elim (λk=>.inr (.inl k)) (λk=>.inr (.inr k));obtain⟨w,r,q⟩:=v i y av G J B;refine⟨w,r,.inr ⟨O.2,?_⟩⟩;obtain⟨c,W,M⟩:=look O.1;rcases q with⟨k,_⟩|⟨_,t,R,z⟩
  .have k:X.env.scope.names.lookup y=aa .local:=k;rcases ok.free _ (jR O.1) U with L|L<;>rw[show X.env.scope.names.lookup y=_ from L]at k<;>cases k
  .rw [M]at R;cases R;exact⟨c,W,z.keeps kp⟩
 .have e:Z.cells.lookup y=aa c:=e;rcases mem e with⟨W,_⟩|⟨_,z⟩
  .obtain ⟨w,z⟩:=I.cell y c W;exact⟨w,z.keeps kp⟩
  .exact ⟨_,z⟩
 .show H Z.locals=aj;rw[u];exact I.aW.fresh (bp _)
 .have e:Z.cells.lookup y=aa c:=e;rcases mem e with⟨W,_⟩|⟨W,_⟩
  .exact I.lL y c W
  .exact I.aW.fresh (DM W)
 .exact bq (show p∈([]:List (ae×Obj))++[]from C) (by simp)
def Tz{D:ae}{xs:List V}{y:V}(I:aG X ag σ H s)(T:H D=aa (.aC xs))(hz:xs.length<aS)(r:bL y v)(h:∀s',aG X ag σ (aM H D (.aC (xs++[y]))) s'->Q .none s'):aN (model X.prog X.w) X.A (call (.builtin "list.append") [.ref D,v]) Q E s:=by obtain⟨R,Y,n,W,e⟩:=I.aW D _ T;have O:=W.length;refine append_at (hsz:=by rw[eh];lia) e λh' S Z=>?_;refine h {s with heap:=h'} (I.oB (t':=s.toks) (by rw[T];trivial) (.inl U) (λb u P q=>(S.2 b P).trans q) ⟨_,Z⟩ ⟨by rw[bb];exact hz,Y++[v],n+1,W.append (.cons r .nil),?_⟩);rw[Z];simp
def xa(X:Cx)(ifs:List Expr)(t:TT):Prop:=
 ∀(ag:List (ae×Obj)) (s:aD) (σ:St) (H:Hp) (Q:Bool->Hp->Prop),aG X ag σ H s->t σ H Q->
  aN (model X.prog X.w) X.A (forIn ifs ah λc r=>if r=ah then do let ok<-isTrue c X.env (cC c X.env);pure (rA ok)else pure (rA r)) (TP X ag σ Q) X.xe s
def agI:TT:=λ_ H Q=>Q ah H
def jE:xa X [] agI:=λ_ _ _ H _ I h=>wpAny_tests_nil ⟨H,I,h⟩
def k0{t:TT}(h:PT X c t):xa X [c] t:=λag s Z H Q I hw=>wpAny_tests_one (h ag s Z H Q I hw)
end
def wh{Z:Type}{t:Sem Z}{Q Y:Z->aD->Prop}{M:oO}(h:aN M A t Q (λ_ _=>False) s)(X:∀a s,Q a s->Y a s):aN M A t Y E s:=jT h X λ_ _ z=>i4 z
def Uv{R:Result->aD->Prop}{Z:Expr}{K acc:af}{env:Env}(I:Nat->aD->Prop)(O:∀n s,I n s->aN (model prog w) A (js K) (λr W=>match r with
  |none=>R (.ok .next) W
  |some v=>aN (model prog w) A (Ei Z K v) (λ_ X=>aN (model prog w) A (uw Z env v) (λ_ S=>aN (model prog w) A (forIn ifs ah λc r=>if r=ah then do let ok<-isTrue c env (cC c env);pure (rA ok)else pure (rA r)) (λok Y=>if ok=ah then aN (model prog w) A (cC elt env) (λx T=>aN (model prog w) A (call (.builtin "list.append") [acc,x]) (λ_ V=>∃m,m<n/\I m V) (xr (model prog w) A env λe s'=>R (.error e) s') T) (xr (model prog w) A env λe s'=>R (.error e) s') Y else∃m,m<n/\I m Y) (xr (model prog w) A env λe s'=>R (.error e) s') S) (xr (model prog w) A env λe s'=>R (.error e) s') X) (xr (model prog w) A env λe s'=>R (.error e) s') W) (xr (model prog w) A env λe s'=>R (.error e) s') s)
 (n:Nat) (h:I n s):
 nF (model prog w) A (.compLoop (.ListComp elt [⟨Z,iter,ifs,0⟩] scope pos) 0 K acc env) R s:=by
 refine codeAny_loop U I (λn s J=>?_) n h;show aN _ A ((compTurn (.ListComp elt [⟨Z,iter,ifs,0⟩] scope pos) 0 K acc env).onRaise (λx=>do noteFrame x env;theTreesLotGoes x)) _ _ s;refine wpAny_noted ?_;rw[compTurn_list];refine az (K3 (az (jT (O n s J) (λr W h₁=>?_) λ_ _ h'=>h')));cases r with
 |none=>exact aV h₁
 |some v=>
  refine az (jT h₁ (λ_ X P=>?_) λ_ _ h'=>h');refine az (jT P (λ_ S L=>az (jT L (λok Y Q=>?_) λ_ _ h'=>h')) λ_ _ h'=>h');cases ok with
  |false=>exact aV ⟨U,Q⟩
  |true=>
   exact az (az (jT Q (λx T M=>az (jT M (λ_ V N=>aV (aV ⟨U,N⟩)) λ_ _ h'=>h')) λ_ _ h'=>h'))
section
variable{X:Cx}
def C0(O:TI)(g:TG)(tt:TT)(N:TE)(vs:List Nat):TE:=λX H Q=>O X H λJ P=>∀D,P D=aj->∃W:Nat->Nat->Hp->Prop,(∃m,W 0 m (aM P D (.aC [])))/\∀i m H,W i m H->
 (J.stop i H/\Q (.ref D) H)\/(J.go i H/\∃V:Hp->Prop,(∀Y,V Y->∃T,T<m/\W (i+1) T Y)/\∀x Y,J.fj i H x Y->g x (e7 X vs) Y λZ M=>e7 Z vs=e7 X vs/\tt Z M λb R=>if b=ah then N Z R λy S=>∃acc,S D=aa (.aC acc)/\acc.length<aS/\V (aM S D (.aC (acc++[y])))else V R)
def NH{P:St}{H:Hp}{Q:VK}{pos':Pos}{wi:TI}{g:TG}{tt:TT}{te:TE}{use:Option (af->Sem Unit)}{Qf:af->aD->Prop}(hc:X.ij=ah)(hN:X.N.Nodup)(I:aG X ag P H s)(hi:PI X tg iter wi)(ok:wH X.N X.env.scope scope own)(hg:∀(s:aD) (H:Hp) (C:ae) (cl:List (Str×ae)) (fp:List ae),PG (X.ig s H scope (lC scope cl C X.env) fp) tg g)(ht:∀(s:aD) (H:Hp) (C:ae) (cl:List (Str×ae)) (fp:List ae),xa (X.ig s H scope (lC scope cl C X.env) fp) ifs tt)(he:∀(s:aD) (H:Hp) (C:ae) (cl:List (Str×ae)) (fp:List ae),PE (X.ig s H scope (lC scope cl C X.env) fp) elt te)(hs:∀x,foldedSetIterable iter X.env x=pure x)(h:C0 wi g tt te (own.map (·.2)) P H Q)(Xl:∀D C s' m V,aG X ag P V s'->Q (.ref D) V->s'.heap.Ns C m->lr X ag V C->compPost (model X.prog X.w) X.A X.xe use Qf (.ref D) C (.ok .next) s'):aN (model X.prog X.w) X.A (comprehension (.ListComp elt [⟨tg,iter,ifs,0⟩] scope pos) scope X.env pos' (newList []) aB (cC iter X.env) use) Qf X.xe s:=by
 have G:∀y∈scope.names,y.2=.free->∃c,X.env.cells.lookup y.1=aa c:=λy hy e=>by
  rcases ok.free y hy e with k|k
  .exact I.ok.has _ (.inl k)
  .exact I.ok.has _ (.inr k)
 refine wpAny_comprehension_free (use:=use) U hs (Ur G) ok.kind (λy hy e=>by rw[ok.Jj y hy,e])
  (fe (hi ag s P H _ I h) λxv s1 hx=>fe hx λZz B h2=>?_)
 obtain⟨it,fp,tn,J,L,e,I2,T,QH,f2,q⟩:=h2;subst e;refine jU (aaV ?_) (by show 0<=aS;decide);generalize hD:B.heap.objs.size=D;have Xg:L D=aj:=I2.aW.fresh (zM hD);obtain⟨W,⟨m0,w0⟩,a⟩:=q D Xg;generalize Nd:({B with heap:=B.heap.push {cls:=.type "list",data:=.seq ([]:List af).toArray}}:aD)=Z;have I3:aG X ag P (aM L D (.aC [])) Z:=by rw[<-Nd];refine I2.laid (t':=B.toks) (λb o e=>cq _ e) (zM hD) ⟨cN _,[],0,.nil,?_⟩;rw[<-hD];exact dm _ U
 have h3:Z.heap=B.heap.push {cls:=.type "list",data:=.seq ([]:List af).toArray}:=by rw[<-Nd]
 have sz:∀b∈fp,b<B.heap.objs.size:=λb Y=>by obtain⟨o,e,_⟩:=T.obj _ _ QH b Y;exact cI e
 have F:∀b∈fp,lr X ag (aM L D (.aC [])) b/\b<Z.heap.objs.size:=λb Y=>by have lQ:=sz b Y;refine⟨⟨?_,(f2 b Y).2⟩,by rw[h3,fU];exact wX lQ⟩;rw[a_ (by rw[<-hD];exact c8 lQ)];exact(f2 b Y).1
 have st3:tn 0 Z.heap:=T.keep _ _ _ QH λb _ o e=>by rw[h3];exact cq _ e
 have I4:=T4 I3 ok hN F;have pg:=hg Z (aM L D (.aC [])) Z.heap.objs.size (gK (Z.heap.objs.size+1) scope.names (gQ X.env.cells scope.names [])) fp;have pt:=ht Z (aM L D (.aC [])) Z.heap.objs.size (gK (Z.heap.objs.size+1) scope.names (gQ X.env.cells scope.names [])) fp;have pe:=he Z (aM L D (.aC [])) Z.heap.objs.size (gK (Z.heap.objs.size+1) scope.names (gQ X.env.cells scope.names [])) fp;show nF _ _ (.compStart (.ListComp elt [⟨tg,iter,ifs,0⟩] scope pos) 0 (.ref it) (.ref D) (lC scope (gK (Z.heap.objs.size+1) scope.names (gQ X.env.cells scope.names [])) Z.heap.objs.size X.env)) (compPost (model X.prog X.w) X.A X.xe use Qf (.ref D) Z.heap.objs.size) {Z with heap:=sr (Z.heap.push {cls:=.type "dict",data:=.dict #[]}) scope.names};have Of:∀b∈fp,(aM L D (.aC [])) b=aj:=λb Y=>(F b Y).1.1;generalize XH:lC scope (gK (Z.heap.objs.size+1) scope.names (gQ X.env.cells scope.names [])) Z.heap.objs.size X.env=ce at I4 pg pt pe⊢;have cL:ce.locals=Z.heap.objs.size:=by subst XH;rfl
 generalize pw:aM L D (.aC [])=O at I3 I4 pg pt pe w0 Of F;generalize YL:({Z with heap:=sr (Z.heap.push {cls:=.type "dict",data:=.dict #[]}) scope.names}:aD)=s4 at I4⊢;have QI:tn 0 s4.heap:=T.keep _ _ _ st3 λb _ o e=>by rw[<-YL];exact Ej _ _ _ _ (cq _ e)
 have S:∀{d:St} {V:Hp} {s':aD},aG (X.ig Z O scope ce fp) [] d V s'->(∀b∈fp,V b=aj)->∀b∈fp,lr (X.ig Z O scope ce fp) [] V b:=λ{d V s'} f t b Y=>
  ⟨t b Y,(f.ok.AX b Y).1,f.ok.xV b Y,.inl Y,λx c e=>(f.ok.AX b Y).2 x c e,λp hp=>bq (show p∈([]:List (ae×Obj))++[]from hp) (by simp)⟩
 have loop:nF (model X.prog X.w) X.A (.compLoop (.ListComp elt [⟨tg,iter,ifs,0⟩] scope pos) 0 (.ref it) (.ref D) ce) (compPost (model X.prog X.w) X.A X.xe use Qf (.ref D) Z.heap.objs.size) s4:=by
  refine Uv (λn s'=>∃i V,aG (X.ig Z O scope ce fp) [] (e7 P (own.map (·.2))) V s'/\tn i s'.heap/\(∀b∈fp,V b=aj)/\W i n V) ?_ m0 ⟨0,O,I4,QI,Of,w0⟩
  rintro n s5 ⟨i,E,I5,QJ,n5,w5⟩
  rcases a i n E w5 with⟨stop,qq⟩|⟨go,Nx,Xi,step⟩
  .have td:=T.done (X.ig Z O scope ce fp) U rfl rfl hc i [] s5 _ E (λ_ _=>False) I5 (S I5 n5) QJ stop;refine wh td ?_
   rintro r s6 ⟨hr,l⟩
   subst hr;have I7:aG X ag P E s6:=I3.T_ (ch:=fp) l.os l.base l.aW l.gm λb Y=>⟨(F b Y).1.2.2.2.1,(F b Y).1.2.1,(F b Y).1.2.2.2.2.1,(F b Y).1.2.2.2.2.2⟩;have nC:E Z.heap.objs.size=aj:=by have z:E ce.locals=aj:=l.free;rw[cL]at z;exact z
   obtain⟨m,t,_⟩:=l.iX;have t:s6.heap.Ns ce.locals m:=t;rw[cL]at t;exact Xl D Z.heap.objs.size s6 m E I7 qq t (I3.nU (bp _) nC)
  .have ti:=T.item (X.ig Z O scope ce fp) U rfl rfl hc i [] s5 _ E (λ_ _=>False) I5 (S I5 n5) QJ go;refine wh ti ?_
   rintro r s6 ⟨u,hr,h6⟩
   subst hr;refine wh h6 ?_
   rintro _ s7 ⟨x,H7,I7,r7,y7,K,n7⟩
   have RI:=I7.Ph (S I7 n7) (T.obj _ _ K);refine wh (pg _ s7 _ H7 x u _ RI r7 (step x H7 y7)) ?_
   rintro _ s8 ⟨R,H8,I8,Nj,q8⟩
   refine wh (pt _ s8 R H8 _ I8 q8) ?_
   rintro b s9 ⟨H9,I9,q9⟩
   have fin:∀{s':aD} {V:Hp},aG (X.ig Z O scope ce fp) ([]++yN fp s7.heap) R V s'->Nx V->∃m,m<n/\∃i V,aG (X.ig Z O scope ce fp) [] (e7 P (own.map (·.2))) V s'/\tn i s'.heap/\(∀b∈fp,V b=aj)/\W i m V:=λ{s' V} f nx=>by
    obtain⟨m',hm,w'⟩:=Xi V nx;have M:∀b∈fp,∀o,s7.heap.get? b=aa o->s'.heap.get? b=aa o/\V b=aj:=λb Y o e=>
     let z:=f.j_ (b,o) (gZ _ (gZ _ (GQ Y e)))
     ⟨z.1,z.2.1⟩
    have hl:(e7 P (own.map (·.2))).length=R.length:=by rw[<-Nj,Ju]
    refine⟨m',hm,i+1,V,(f.C' (ag:=[])).ahg hl (λj v e=>?_),T.keep _ _ _ K λb Y o e=>(M b Y o e).1,λb Y=>?_,w'⟩
    .rw [<-Nj]at e;exact(Jv e).1
    .obtain ⟨o,e,_⟩:=T.obj _ _ K b Y;exact(M b Y o e).2
   cases b with
   |false=>
    simp only[kj,if_false]at q9⊢;exact fin I9 q9
   |true=>
    simp only[if_true]at q9⊢;refine wh (pe _ s9 R H9 _ I9 q9) ?_
    rintro z Cs ⟨yv,rC,RG,r10,acc,Xe,Za,nx⟩
    exact Tz (X:=X.ig Z O scope ce fp) RG Xe Za r10 λhW RH=>fin RH nx
 exact codeAny_compStart_list loop (T.self X.A 0 _ _ _ QI loop)
def hU{Z:TI}{g:TG}{tt:TT}{Y:TE}(P:X.ij=ah)(M:X.N.Nodup)(S:PI X tg iter Z)(ok:wH X.N X.env.scope scope own)(R:∀(s:aD) (H:Hp) (C:ae) (cl:List (Str×ae)) (fp:List ae),PG (X.ig s H scope (lC scope cl C X.env) fp) tg g)(V:∀(s:aD) (H:Hp) (C:ae) (cl:List (Str×ae)) (fp:List ae),xa (X.ig s H scope (lC scope cl C X.env) fp) ifs tt)(he:∀(s:aD) (H:Hp) (C:ae) (cl:List (Str×ae)) (fp:List ae),PE (X.ig s H scope (lC scope cl C X.env) fp) elt Y)(hs:∀x,foldedSetIterable iter X.env x=pure x:=by intro _;rfl):PE X (.ListComp elt [⟨tg,iter,ifs,0⟩] scope pos) (C0 Z g tt Y (own.map (·.2))):=by intro ag s z H Q I h;rw[eval_ListComp];refine NH P M I S ok R V he hs h λD C s' m A B q T f=>⟨m,T,λL W=>?_⟩;obtain⟨E,F,y,G,J,K⟩:=f;exact⟨.ref D,A,B.jl (t':=s'.toks) (λb o O e=>(W.2 b O).trans e) E F G J K,U,q⟩
def rg{i:Nat}{y:Str}{W:Pos}{Z:Pos}{T:TI}{g:TG}{tt:TT}{S:TE}(p:X.ij=ah)(M:X.N.Nodup)(E:X.N[i]?=aa y)(Y:X.env.scope.names.lookup y=aa .local)(Q:oU (.ListComp elt [⟨tg,iter,ifs,0⟩] scope pos) (aa (.Name y W)) Z.line X.env=pure ah)(t:PI X tg iter T)(ok:wH X.N X.env.scope scope own)(r:∀(s:aD) (H:Hp) (C:ae) (cl:List (Str×ae)) (fp:List ae),PG (X.ig s H scope (lC scope cl C X.env) fp) tg g)(B:∀(s:aD) (H:Hp) (C:ae) (cl:List (Str×ae)) (fp:List ae),xa (X.ig s H scope (lC scope cl C X.env) fp) ifs tt)(he:∀(s:aD) (H:Hp) (C:ae) (cl:List (Str×ae)) (fp:List ae),PE (X.ig s H scope (lC scope cl C X.env) fp) elt S)(hs:∀x,foldedSetIterable iter X.env x=pure x:=by intro _;rfl):PS X (.Assign [.Name y W] (.ListComp elt [⟨tg,iter,ifs,0⟩] scope pos) Z) (wc (C0 T g tt S (own.map (·.2))) (qA i)):=by
 intro ag s O H D I h;rw[exec_Assign_Name_used _ _ _ _ Q];refine az (K3 (az ?_));show aN _ X.A (do let _<-comprehension (.ListComp elt [⟨tg,iter,ifs,0⟩] scope pos) scope X.env (firstIterPos [⟨tg,iter,ifs,0⟩] pos) (newList []) aB (cC iter X.env) (aa (uw (.Name y W) X.env))) _ _ s;have h:C0 T g tt S (own.map (·.2)) O H (λx H1=>qA i x O H1 D.nx):=h;refine az (fe (NH (Qf:=λ_ s'=>SP X ag D .next s') p M I t ok r B he hs h λL C s' m H' I' q u f=>?_) λ_ s' w=>aV (aV w));show aN _ _ (uw (.Name y W) X.env (.ref L)) _ _ _;refine wpAny_assign_Name (QN (v:=V.ref L) I' M E (.inl Y) U ?_ (.inr Y))
 rintro F c ⟨a,G,l⟩
 obtain⟨d,J,f2,j,K,k⟩:=f;have P:C≠a:=by
  rcases l with z|z
  .rw [z];exact J
  .exact λe=>K y a z e.symm
 refine⟨m,u.sameBut G P,λh3 R=>?_⟩;exact⟨_,H',c.jl (t':=F.toks) (λb o n e=>(R.2 b n).trans e) d J j K k,q⟩
def rm{S:List Comprehension}{Z:Pos}{y:Str}{l:Nat}{env:Env}(hk:env.scope.kind=.function)(X:env.scope.names.lookup y=aa .local)(W:(Z.line==pos.line)=ah)(T:(scope.names.any λ(n,k)=>n==y&&(k==.local||k==.cell))=aB):oU (.ListComp elt S scope pos) (aa (.Name y Z)) l env=pure ah:=by
 have Y:env.kindOf y=aa .local:=X;have V:env.blockKind=.function:=by unfold Env.blockKind;rw[hk];rfl
 unfold oU;simp only[V,Y,T,Expr.pos,W];rfl
end
def Ls(N:List Str)(sc scope:dM)(own:List (Str×Nat)):Bool:=
 (match scope.kind with|.function=>ah|_=>aB)&&(scope.names.all λy=>decide (scope.names.lookup y.1=aa y.2))&&(own.all λp=>decide (N[p.2]?=aa p.1))&&
  (scope.names.all λy=>match y.2 with
   |.free=>(match sc.names.lookup y.1 with|some .cell=>ah|some .free=>ah|_=>aB)
   |.local=>decide (y.1∈own.map (·.1))||decide (y.1∉N)
   |.cell=>decide (y.1∈own.map (·.1))||decide (y.1∉N)
   |_=>ah)
def fw(h:Ls N sc scope own=ah):wH N sc scope own:=by
 unfold Ls at h;simp only[fk,rE,decide_eq_true_eq]at h;obtain⟨⟨⟨X,V⟩,W⟩,Y⟩:=h;refine⟨?_,V,W,λy Z e=>?_,λy Z e=>?_⟩
 .split at X
  .assumption
  .cases X
 .have q:=Y y Z;simp only[e]at q;split at q<;>first|exact .inl (by assumption)|exact .inr (by assumption)|cases q
 .have q:=Y y Z;rcases e with e|e<;>(simp only[e,wI,decide_eq_true_eq]at q;exact q)
section
variable{κ:Type}[DecidableEq κ]
def df(kvs:List (κ×V))(k:κ):Option V:=(kvs.find? λZ=>decide (Z.1=k)).map (·.2)
def eY(kvs:List (κ×V))(k:κ)(v:V):List (κ×V):=
 if(kvs.any λZ=>decide (Z.1=k))=ah then kvs.map (λZ=>if Z.1=k then(Z.1,v)else Z)else kvs++[(k,v)]
def mf{p:κ×V}{r:List (κ×V)}{k:κ}(e:p.1=k):df (p::r) k=aa p.2:=by simp[df,iO,e]
def me{p:κ×V}{r:List (κ×V)}{k:κ}(e:¬p.1=k):df (p::r) k=df r k:=by simp[df,iO,e]
theorem zq(k:κ):∀kvs:List (κ×V),(kvs.any λZ=>decide (Z.1=k))=(df kvs k).isSome
 |[]=>rfl
 |p::r=>by
  rw[mj];by_cases e:p.1=k
  .simp only[mf e,dg e,gW,Option.isSome_some]
  .rw [me e,cE e,gf];exact zq k r
theorem Ri(k j:κ)(y:V):∀kvs:List (κ×V),df (kvs.map λZ=>if Z.1=k then(Z.1,y)else Z) j=(df kvs j).map λx=>if j=k then y else x
 |[]=>rfl
 |p::r=>by
  have Y:=Ri k j y r;rw[bM];by_cases h:p.1=k
  .rw [aA h];by_cases e:p.1=j
   .rw [mf (p:=(p.1,y)) e,mf e,w8,aA (e.symm.trans h)]
   .rw [me (p:=(p.1,y)) e,me e,Y]
  .rw [ay h];by_cases e:p.1=j
   .rw [mf (p:=p) e,mf e,w8,ay (λz=>h (e.trans z))]
   .rw [me (p:=p) e,me e,Y]
theorem Rj(k j:κ)(y:V):∀kvs:List (κ×V),df kvs k=aj->df (kvs++[(k,y)]) j=if j=k then aa y else df kvs j
 |[],_=>by
  by_cases e:k=j
  .rw [aA e.symm];exact mf (p:=(k,y)) e
  .rw [ay (λz=>e z.symm)];exact me (p:=(k,y)) e
 |p::r,Z=>by
  rw[oF];have hk:¬p.1=k:=λz=>by rw[mf z]at Z;cases Z
  rw[me hk]at Z;have Y:=Rj k j y r Z;by_cases e:p.1=j
  .rw [mf e,mf e,ay (λz=>hk (e.trans z))]
  .rw [me e,me e,Y]
def Dd(kvs:List (κ×V))(k j:κ)(y:V):df (eY kvs k y) j=if j=k then aa y else df kvs j:=by
 unfold eY;by_cases a:(kvs.any λZ=>decide (Z.1=k))=ah
 .rw [aA a,Ri];rw[zq]at a;by_cases e:j=k
  .obtain ⟨x,Y⟩:=rP.mp a;rw[aA e,e,Y,w8,aA U]
  .rw [ay e];cases df kvs j with
   |none=>rfl
   |some x=>rw[w8,ay e]
 .rw [ay a];refine Rj k j y kvs ?_;rw[zq]at a;cases q:df kvs k with
  |none=>rfl
  |some x=>rw[q]at a;exact(a U).elim
def qP(kvs:List (κ×V))(k:κ)(v:V):(eY kvs k v).length<=kvs.length+1:=by
 unfold eY;split
 .rw [aP];lia
 .rw [bb,bY,nv];lia
def iC.tD{o:Option V}{u:Option af}(r:iC o u):o.isSome=u.isSome:=by
 cases o with
 |none=>cases u with
  |none=>rfl
  |some _=>exact(show False from r).elim
 |some _=>cases u with
  |none=>exact(show False from r).elim
  |some _=>rfl
theorem iC.getD{o:Option V}{u:Option af}{d:V}{d':af}(r:iC o u)(rd:bL d d'):bL (o.getD d) (u.getD d'):=by
 cases o with
 |none=>cases u with
  |none=>exact rd
  |some _=>exact(show False from r).elim
 |some _=>cases u with
  |none=>exact(show False from r).elim
  |some _=>exact r
def KV.val{kvs:List (κ×V)}{X:List (κ×af)}(r:KV kvs X)(k:κ):iC (df kvs k) (valueAt X k):=by
 unfold KV at r
 induction r with
 |nil=>exact o3
 |@cons p q ps Z h t T=>
  obtain⟨W,S⟩:=h;by_cases e:p.1=k
  .have Y:q.1=k:=W.symm.trans e;have b:valueAt (q::Z) k=aa q.2:=by simp[valueAt,iO,Y]
   rw[mf e,b];exact S
  .have Y:¬q.1=k:=λz=>e (W.trans z);have b:valueAt (q::Z) k=valueAt Z k:=by simp[valueAt,iO,Y]
   rw[me e,b];exact T
theorem KV.any{kvs:List (κ×V)}{Y:List (κ×af)}(r:KV kvs Y)(k:κ):(kvs.any λZ=>decide (Z.1=k))=Y.any λZ=>decide (Z.1=k):=by
 unfold KV at r
 induction r with
 |nil=>rfl
 |cons h t X=>rw[mj,mj,X,h.1]
def KV.HU{kvs:List (κ×V)}{X:List (κ×af)}(r:KV kvs X)(k:κ){y:V}(W:bL y u):KV (kvs.map λZ=>if Z.1=k then(Z.1,y)else Z) (X.map λZ=>if Z.1=k then(Z.1,u)else Z):=by
 unfold KV at r⊢
 induction r with
 |nil=>exact .nil
 |@cons p q ps R h t T=>
  rw[bM,bM];refine .cons ?_ T;obtain⟨Y,S⟩:=h;by_cases e:p.1=k
  .rw [aA e,aA (Y.symm.trans e)];exact⟨Y,W⟩
  .rw [ay e,ay (λz=>e (Y.trans z))];exact⟨Y,S⟩
def KV.put{kvs:List (κ×V)}{Z:List (κ×af)}(r:KV kvs Z)(k:κ){y:V}(Y:bL y u):KV (eY kvs k y) (stored Z k u):=by
 unfold eY stored;rw[r.any k];by_cases e:(Z.any λX=>decide (X.1=k))=ah
 .rw [aA e,aA e];exact r.HU k Y
 .rw [ay e,ay e];exact D7 r ⟨U,Y⟩
theorem KV.length{kvs:List (κ×V)}{Z:List (κ×af)}(r:KV kvs Z):kvs.length=Z.length:=kC r
end
def pI{k:bE}(r:bL (kV k) u):(fz P w).is k u=ah:=by
 cases k with
 |inl i=>obtain⟨t,e⟩:=(show∃t,u=z0 i t from r);subst e;exact aax P w i t
 |inr x=>obtain⟨t,e⟩:=(show∃t,u=D_ x t from r);subst e;exact aay P w x t
theorem Ny{P:aR}{w:aQ}:∀{ks:List bE} {us:List af},bD (ks.map kV) us->ItemsAre (fz P w) ks us
 |[],_,r=>by rw[wV]at r;cases r;exact .nil
 |k::ks,_,r=>by
  rw[bM]at r;cases r with
  |cons h t=>exact .cons (pI h) (Ny t)
abbrev KT(H:Hp):List (List bE×V)->List (List bE×ae×af)->Prop:=Paired λp q=>p.1=q.1/\H q.2.1=aa (.bh (p.1.map kV))/\bL p.2 q.2.2
def KT.val{H:Hp}{kvs:List (List bE×V)}{xs:List (List bE×ae×af)}(r:KT H kvs xs)(k:List bE):iC (df kvs k) ((iP xs k).map (·.2)):=by
 induction r with
 |nil=>exact o3
 |@cons p q ps Z h t W=>
  obtain⟨X,_,T⟩:=h;by_cases e:p.1=k
  .have Y:q.1=k:=X.symm.trans e;have b:iP (q::Z) k=aa q.2:=by simp[iP,iO,Y]
   rw[mf e,b];exact T
  .have Y:¬q.1=k:=λz=>e (X.trans z);have b:iP (q::Z) k=iP Z k:=by simp[iP,iO,Y]
   rw[me e,b];exact W
def KT.HU{H:Hp}{kvs:List (List bE×V)}{xs:List (List bE×ae×af)}(r:KT H kvs xs)(k:List bE){y:V}(W:bL y u):KT H (kvs.map λY=>if Y.1=k then(Y.1,y)else Y) (xs.map (putAt k u)):=by
 induction r with
 |nil=>exact .nil
 |@cons p q ps R h t T=>
  rw[bM,bM];refine .cons ?_ T;obtain⟨Z,X,S⟩:=h;unfold putAt;by_cases e:p.1=k
  .rw [aA e,aA (Z.symm.trans e)];exact⟨Z,X,W⟩
  .rw [ay e,ay (λz=>e (Z.trans z))];exact⟨Z,X,S⟩
def KT.put{H:Hp}{kvs:List (List bE×V)}{xs:List (List bE×ae×af)}(r:KT H kvs xs)(k:List bE){y:V}(X:H b=aa (.bh (k.map kV)))(Z:bL y u):KT H (eY kvs k y) (storedH xs k b u):=by
 have e:(kvs.any λY=>decide (Y.1=k))=(iP xs k).isSome:=by rw[zq,(r.val k).tD,w6]
 unfold eY storedH;rw[e];by_cases q:(iP xs k).isSome=ah
 .rw [aA q,aA q];exact r.HU k Z
 .rw [ay q,ay q];exact D7 r ⟨U,X,Z⟩
def KT.keeps{H Z:Hp}{kvs:List (List bE×V)}{xs:List (List bE×ae×af)}(r:KT H kvs xs)(Y:∀b ys,H b=aa (.bh ys)->Z b=aa (.bh ys)):KT Z kvs xs:=
 Paired.BJ r λ_ _ z=>⟨z.1,Y _ _ z.2.1,z.2.2⟩
section
variable{P:aR}{w:aQ}{H:Hp}{h:aK}{a:ae}
def PU{u:HO}(ok:dk P w H h)(e:Rd H a u):eC P w H h a u:=e.ok ok
def pj{kvs:List (bE×V)}(ok:dk P w H h)(e:Rd H a (.dK kvs)):kvs.length<=aS/\(a==kE)=aB/\∃vs,KV kvs vs/\h.DictOf (fz P w) a vs:=
 show eC P w H h a (.dK kvs)from PU ok e
def xS{kvs:List (bE×V)}(ok:dk P w H h)(e:H a=aa (.dK kvs)):kvs.length<=aS/\(a==kE)=aB/\∃vs,KV kvs vs/\h.DictOf (fz P w) a vs:=pj ok (.inl e)
def vp{ks:List bE}(ok:dk P w H h)(e:H a=aa (.bh (ks.map kV))):(xw (fz P w)).is h ks a:=by obtain⟨_,Z,r,o,W,X,n,Y,_⟩:=(show eC P w H h a (.bh (ks.map kV))from ok a _ e);exact⟨o,Z.toArray,n,W,X,Y,‹Ny r›⟩
def sP{kvs:List (List bE×V)}(ok:dk P w H h)(e:Rd H a (.dT kvs)):kvs.length<=aS/\(a==kE)=aB/\∃xs,KT H kvs xs/\h.DictOfH (xw (fz P w)) a xs:=by
 obtain⟨z,y,xs,r,o,es,ep,Q,R,S,T,W⟩:=(show eC P w H h a (.dT kvs)from PU ok e);refine⟨z,y,xs,r,o,es,ep,Q,R,S,T,λx Z=>?_,W⟩;have all:∀{l:List (List bE×V)} {m:List (List bE×ae×af)},KT H l m->∀x∈m,(xw (fz P w)).is h x.1 x.2.1:=by
  intro l m q
  induction q with
  |nil=>intro x Z;exact nomatch Z
  |@cons p q ps O Y t X=>
   intro x Z;rcases bJ.mp Z with e|Z
   .subst e;exact vp ok (by rw[<-Y.1];exact Y.2.1)
   .exact X x Z
 exact all r x Z
def V'{kvs:List (List bE×V)}(ok:dk P w H h)(e:H a=aa (.dT kvs)):kvs.length<=aS/\(a==kE)=aB/\∃xs,KT H kvs xs/\h.DictOfH (xw (fz P w)) a xs:=sP ok (.inl e)
end
def jo(H:Hp)(a:ae)(y:V)(r:Option V):Prop:=
 (∃kvs k,Rd H a (.dK kvs)/\y=kV k/\r=df kvs k)\/∃kvs k b,Rd H a (.dT kvs)/\y=.ref b/\H b=aa (.bh (k.map kV))/\r=df kvs k
def lp(H:Hp)(a:ae)(y v:V)(Z:Hp):Prop:=
 (∃kvs k,H a=aa (.dK kvs)/\y=kV k/\kvs.length<aS/\Z=aM H a (.dK (eY kvs k v)))\/
 ∃kvs k b,H a=aa (.dT kvs)/\y=.ref b/\H b=aa (.bh (k.map kV))/\kvs.length<aS/\Z=aM H a (.dT (eY kvs k v))
theorem lp.k{H:Hp}{a:ae}{kvs:List (bE×V)}{k:bE}{v:V}(e:H a=aa (.dK kvs))(Z:kvs.length<aS):lp H a (kV k) v (aM H a (.dK (eY kvs k v))):=.inl ⟨kvs,k,e,U,Z,U⟩
section
variable{X:Cx}{ag:List (ae×Obj)}{σ:St}{H:Hp}{s:aD}{a:ae}{y v:V}{u r:af}{o:Option V}{A:b8}{E:af->aD->Prop}
def aG.qt(I:aG X ag σ H s):kE<s.heap.objs.size:=by have h:fF<s.heap.objs.size:=(I.mod.mS.keeps I.bk).lt;exact wY (by decide) h
def U6(P:A.units+1<du)(I:aG X ag σ H s)(g:jo H a y (aa v))(S:bL y u)(h:∀Y s',aG X ag σ H s'->bL v Y->Q Y s'):aN (model X.prog X.w) A (nG (.ref a) u) Q E s:=by
 rcases g with⟨kvs,k,e,V,l⟩|⟨kvs,k,b,e,V,N,l⟩
 .subst V;obtain⟨z,hd,R,de,T⟩:=pj I.aW e;obtain⟨Y,hw,Z⟩:=iC.CP (v:=v) (o:=valueAt R k) (by rw[l];exact de.val k);exact wpAny_getItem_of (pI S) T.mapOf hw (h Y _ (I.gH _) Z)
 .subst V;cases(show u=cR b from S);obtain⟨z,hd,xs,de,T⟩:=sP I.aW e;obtain⟨Y,hw,Z⟩:=iC.CP (v:=v) (o:=(iP xs k).map (·.2)) (by rw[l];exact de.val k);obtain⟨p,O,W⟩:=rQ.mp hw;refine wpAny_getItem_heap (Aa P) (vp I.aW N) T O ?_;rw[W];exact h Y _ (I.gH _) Z
def U_(V:A.units+1<du)(I:aG X ag σ H s)(g:jo H a y o)(W:bL y u)(h:∀s',aG X ag σ H s'->Q (.bool o.isSome) s'):aN (model X.prog X.w) A (gy .In u (.ref a)) Q E s:=by
 rcases g with⟨kvs,k,e,Z,l⟩|⟨kvs,k,b,e,Z,T,l⟩
 .subst Z;obtain⟨z,hd,S,de,Y⟩:=pj I.aW e;refine wpAny_in_of (pI W) hd Y.mapOf ?_;rw[<-(de.val k).tD,<-l];exact h _ (I.gH _)
 .subst Z;cases(show u=cR b from W);obtain⟨z,hd,xs,de,Y⟩:=sP I.aW e;refine wpAny_in_heap (Aa V) (vp I.aW T) hd Y ?_;have q:=(de.val k).tD;rw[w6]at q;rw[<-q,<-l];exact h _ (I.gH _)
def Vv(V:A.units+1<du)(I:aG X ag σ H s)(g:jo H a y o)(W:bL y u)(h:∀s',aG X ag σ H s'->Q (.bool (!o.isSome)) s'):aN (model X.prog X.w) A (gy .NotIn u (.ref a)) Q E s:=by
 rcases g with⟨kvs,k,e,Z,l⟩|⟨kvs,k,b,e,Z,T,l⟩
 .subst Z;obtain⟨z,hd,S,de,Y⟩:=pj I.aW e;refine wpAny_notIn_of (pI W) hd Y.mapOf ?_;rw[<-(de.val k).tD,<-l];exact h _ (I.gH _)
 .subst Z;cases(show u=cR b from W);obtain⟨z,hd,xs,de,Y⟩:=sP I.aW e;refine wpAny_notIn_heap (Aa V) (vp I.aW T) hd Y ?_;have q:=(de.val k).tD;rw[w6]at q;rw[<-q,<-l];exact h _ (I.gH _)
def uT{h':aK}{ob:HO}(I:aG X ag σ H s)(Z:uh (H a))(hs:qg a s.heap h')(he:∃q,h'.get? a=aa q)(new:eC X.prog X.w (aM H a ob) h' a ob):aG X ag σ (aM H a ob) {s with heap:=h',toks:=t'}:=
 I.oB (x:=a) (e:=a) Z (.inl U) (λb q Y z=>(hs.2 b Y).trans z) he new
def AQ{X:Hp}{h':aK}{kvs:List (bE×V)}{Z:List (bE×af)}(z:kvs.length<=aS)(hd:(a==kE)=aB)(de:KV kvs Z)(Y:h'.DictOf (fz P w) a Z):eC P w X h' a (.dK kvs):=⟨z,hd,Z,de,Y⟩
def VH{M:Hp}{Q:Unit->aD->Prop}(K:A.units+1<du)(I:aG X ag σ H s)(g:lp H a y v M)(R:bL y u)(P:bL v r)(h:∀s',aG X ag σ M s'->Q () s'):aN (model X.prog X.w) A (setItem (.ref a) u r) Q E s:=by
 rcases g with⟨kvs,k,e,V,l,T⟩|⟨kvs,k,b,e,V,N,l,T⟩
 .subst V T;obtain⟨z,hd,L,de,S⟩:=xS I.aW e;have hz:L.length<=aS:=by rw[<-de.length];exact z
  have W:(eY kvs k v).length<=aS:=by have:=qP kvs k v;lia
  refine wpAny_setItem_pairs (hsz:=hz) (pI R) S λh' Z hs=>h _ ?_;have he:∃q,h'.get? a=aa q:=let⟨q,_,_,Y,_⟩:=Z;⟨q,Y⟩;exact uT I (by rw[e];exact o3) hs he (AQ W hd (de.put k P) Z)
 .subst V T;cases(show u=cR b from R);obtain⟨z,hd,xs,de,S⟩:=V' I.aW e;have hz:xs.length<=aS:=by rw[<-kC de];exact z
  have W:(eY kvs k v).length<=aS:=by have:=qP kvs k v;lia
  refine wpAny_setItem_heap (hsz:=hz) (Aa K) (vp I.aW N) S λh' Z hs=>h _ ?_;obtain⟨q,es,ep,Y,D,F,G,_,J⟩:=Z;refine uT I (by rw[e];exact o3) hs ⟨q,Y⟩ ⟨W,hd,_,(de.put k N P).keeps λc ys O=>?_,q,es,ep,Y,D,F,G,J⟩;rw[a_ (aaT O e (λz=>nomatch z))];exact O
end
section
variable{X:Cx}{ag:List (ae×Obj)}{σ:St}{H:Hp}{s:aD}{a:ae}{kvs:List (bE×V)}{A:b8}{E:af->aD->Prop}
def Vn(I:aG X ag σ H s)(e:Rd H a (.dK kvs))(h:∀t s',aG X ag σ H s'->Q (.int kvs.length t) s'):aN (model X.prog X.w) A (call (.builtin "len") [.ref a]) Q E s:=by obtain⟨z,hd,Y,de,Z⟩:=pj I.aW e;refine call_len_dict hd Z (by rw[<-de.length];rw[z_]at z;lia) ?_;rw[<-de.length];exact h _ _ (I.gH _)
end
def zR(i:Expr):Prop:=∀Z Y,El i aB Z Y=operate [Z,Y] (nG Z Y)
def QU{env:Env}{value Z:Expr}{T id:String}(O:Em (.type T) "__getitem__"=pure (aa (.builtin id)))(hs:zR Z)(h:aN (model prog w) A (cC value env) (λo V=>aN (model prog w) A (cC Z env) (λi Y=>Y.TypeIs o T/\aN (model prog w) A (nG o i) Q E Y) E V) E s):aN (model prog w) A (cC (.Subscript value Z pos) env) Q E s:=by
 refine Subscript_ (jT h (λo V h₁=>jT h₁ (λi Y X=>?_) λ_ _ x=>x) λ_ _ x=>x);obtain⟨P,X⟩:=X;unfold Kd;refine az ?_;rw[getitemInPython_of_ne P.not_modules];refine az (Ac P O ?_);have S:aN (model prog w) A (El Z aB o i) (λr W=>aN (model prog w) A (letTemporaryGo value o r>>=λ_=>pure r) Q E W) E Y:=by rw[hs o i];exact wpAny_operating (jT X (λr W R=>az (wpAny_letTemporaryGo (aV R))) λ_ _ x=>x)
 first
  |exact aV (az S)
  |exact az (aV (az S))
  |exact az S
def V9{X:Cx}{Y:St}{H:Hp}{y:V}{o:Option V}(I:aG X ag Y H s)(g:jo H a y o):s.TypeIs (.ref a) "dict":=by
 rcases g with⟨kvs,k,e,_,_⟩|⟨kvs,k,b,e,_,_,_⟩
 .obtain ⟨_,_,W,_,Z⟩:=pj I.aW e;exact Z.typeIs
 .obtain ⟨_,_,xs,_,Z⟩:=sP I.aW e;exact Z.typeIs
def agh(X ty:TE):TE:=λZ H Q=>X Z H λx W=>ty Z W λy Y=>∃a v,x=.ref a/\jo Y a y (aa v)/\Q v Y
def agj(ty X:TE):TE:=λZ H Q=>ty Z H λy W=>X Z W λx Y=>∃a o,x=.ref a/\jo Y a y o/\Q (.bl o.isSome) Y
def agl(ty X:TE):TE:=λZ H Q=>ty Z H λy W=>X Z W λx Y=>∃a o,x=.ref a/\jo Y a y o/\Q (.bl (!o.isSome)) Y
def adL(W ty X:TE):TS:=λD Z H=>X Z H λv S=>W Z S λx T=>ty Z T λy V=>∃a Y,x=.ref a/\lp V a y v Y/\D.nx Z Y
section
variable{X:Cx}{o i value:Expr}{pos pos':Pos}{td ty tv:TE}
def yL(O:X.A.units+1<du)(N:PE X o td)(M:PE X i ty)(hs:zR i):PE X (.Subscript o i pos) (agh td ty):=by
 intro ag s Y H Q I h;refine QU SG.lookup hs (bT (N ag s Y H _ I h) λu V x G K S P=>bT (M ag V Y G _ K P) ?_)
 rintro B C y J W T ⟨a,v,ex,g,R⟩
 subst ex;obtain rfl:u=cR a:=S;exact⟨V9 W g,U6 O W g T λE D L Z=>⟨v,J,L,Z,R⟩⟩
def yK(P:X.A.units+1<du)(N:PE X i ty)(O:PE X o td):PC X .In i o (agj ty td):=by
 intro ag s Z H Q I h;refine bT (N ag s Z H _ I h) λD Y y G K W S=>bT (O ag Y Z G _ K S) ?_
 rintro u E x J L V ⟨a,R,ex,g,T⟩
 subst ex;obtain rfl:u=cR a:=V;exact U_ P L g W λF M=>⟨.bl R.isSome,J,M,U,T⟩
def ach(P:X.A.units+1<du)(N:PE X i ty)(O:PE X o td):PC X .NotIn i o (agl ty td):=by
 intro ag s Z H Q I h;refine bT (N ag s Z H _ I h) λD Y y G K W S=>bT (O ag Y Z G _ K S) ?_
 rintro u E x J L V ⟨a,R,ex,g,T⟩
 subst ex;obtain rfl:u=cR a:=V;exact Vv P L g W λF M=>⟨.bl (!R.isSome),J,M,U,T⟩
def yO(N:X.A.units+1<du)(M:PE X o td)(L:PE X i ty)(O:PE X value tv)(hs:oU value (aa (.Subscript o i pos')) pos.line X.env=pure aB):PS X (.Assign [.Subscript o i pos'] value pos) (adL td ty tv):=by
 intro ag s Z H D I h;refine S8 (bT (O ag s Z H _ I h) λr W v B F S P=>bT (M ag W Z B _ F P) λu Y x C G T Q=>bT (L ag Y Z C _ G Q) ?_) hs
 rintro t w y q J V ⟨a,E,ex,g,R⟩
 subst ex;obtain rfl:u=cR a:=T;exact VH N J g V S λz K=>⟨Z,E,K,R⟩
end
def LU{H:Hp}(h:aK)(Z:kE<h.objs.size):eC P w H (h.push {cls:=.type "dict",data:=.dict #[]}) h.objs.size (.dK []):=
 ⟨cN _,fX.mpr (cU (c8 Z)),[],.nil,SQ h⟩
def agk:TE:=λ_ H Q=>∀p,H p=aj->Q (.ref p) (aM H p (.dK []))
section
variable{X:Cx}{pos:Pos}
def tL:PE X (.Dict [] [] pos) agk:=λag s Z H Q I h=>
 wpAny_Dict_empty ⟨.ref s.heap.objs.size,_,I.laid (a:=s.heap.objs.size) (o:=.dK []) (t':=s.toks) (λ_ _ q=>cq _ q) (bp _) (LU s.heap I.qt),U,h _ (I.aW.fresh (bp _))⟩
end
def IW:List (TE×TE)->St->Hp->(List (V×V)->Hp->Prop)->Prop
 |[],_,H,Q=>Q [] H
 |(tk,Y)::r,Z,H,Q=>tk Z H λx T=>Y Z T λy W=>IW r Z W λps X=>Q ((x,y)::ps) X
abbrev VV:List (V×V)->List (af×af)->Prop:=Paired λp q=>bL p.1 q.1/\bL p.2 q.2
def zT(X:Cx)(pos:Pos)(f6:List (Option Expr))(Z:List Expr)(W:List (TE×TE)):Prop:=
 ∀(ag:List (ae×Obj)) (s:aD) (Y:St) (H:Hp) (Q:List (V×V)->Hp->Prop),aG X ag Y H s->IW W Y H Q->
  aN (model X.prog X.w) X.A (evalPairs (pairTrees f6 Z X.env pos)) (λvs s'=>∃ps T,aG X ag Y T s'/\VV ps vs/\Q ps T) X.xe s
def acW{X:Cx}:zT X pos [] [] []:=λag s Z H Q I h=>pairTrees_nil_walk ⟨[],H,I,.nil,h⟩
def acV{X:Cx}{k v:Expr}{ks:List (Option Expr)}{W:List Expr}{tk V:TE}{Z:List (TE×TE)}(hk:PE X k tk)(L:PE X v V)(K:zT X pos ks W Z):zT X pos (aa k::ks) (v::W) ((tk,V)::Z):=λag s Y H Q I h=>
 pairTrees_cons_walk (bT (hk ag s Y H _ I h) λu S x C F P M=>bT (L ag S Y C _ F M) λA T y D G R N=>fe (K ag T Y D _ G N) λB z ⟨ps,E,J,de,O⟩=>⟨(x,y)::ps,E,J,.cons ⟨P,R⟩ de,O⟩)
def jB(kvs more:List (bE×V)):List (bE×V):=more.foldl (λacc Z=>eY acc Z.1 Z.2) kvs
def KV.merge:∀{more:List (bE×V)} {rs:List (bE×af)} {kvs:List (bE×V)} {vs:List (bE×af)},KV more rs->KV kvs vs->KV (jB kvs more) (merged vs rs):=by
 intro more rs kvs vs r;unfold KV at r
 induction r generalizing kvs vs with
 |nil=>intro q;exact q
 |@cons p q ps X h t Y=>
  intro Z;have e:KV (eY kvs p.1 p.2) (stored vs q.1 q.2):=by have:=Z.put p.1 h.2;rw[<-h.1];exact this
  exact Y e
theorem Gu:∀(more kvs:List (bE×V)),(jB kvs more).length<=kvs.length+more.length
 |[],kvs=>by show kvs.length<=kvs.length+0;lia
 |p::r,kvs=>by have Y:=Gu r (eY kvs p.1 p.2);have Z:=qP kvs p.1 p.2;show(jB (eY kvs p.1 p.2) r).length<=_;rw[bY];lia
theorem Lv{P:aR}{w:aQ}:∀{kvs:List (bE×V)} {Z:List (af×af)},VV (kvs.map λY=>(kV Y.1,Y.2)) Z->∃rs,Carries (fz P w) Z rs/\KV kvs rs
 |[],_,r=>by rw[wV]at r;cases r;exact⟨[],o3,.nil⟩
 |p::kvs,_,r=>by
  rw[bM]at r;cases r with
  |@cons a b T bs h t=>
   obtain⟨rs,c,q⟩:=Lv (P:=P) (w:=w) t;obtain⟨W,X⟩:=b;exact⟨(p.1,X)::rs,⟨pI h.1,U,c⟩,.cons ⟨U,h.2⟩ q⟩
def agm(Z:List (TE×TE)):TE:=λW H Q=>∀p,H p=aj->IW Z W (aM H p (.dK [])) λps X=>X p=aa (.dK [])/\∃kvs:List (bE×V),ps=kvs.map (λY=>(kV Y.1,Y.2))/\kvs.length<=15/\Q (.ref p) (aM X p (.dK (jB [] kvs)))
def acu{X:Cx}{f6:List (Option Expr)}{Z:List Expr}{Y:List (TE×TE)}(h:zT X pos f6 Z Y)(W:f6.all (·.isSome)=ah)(G:f6.length=Z.length)(E:f6≠[])(T:f6.length<=15):PE X (.Dict f6 Z pos) (agm Y):=by
 intro ag s R H Q I q;have J:=I.aW.fresh (bp s.heap.objs.size);have C:=I.laid (a:=s.heap.objs.size) (o:=.dK []) (h':=s.heap.push {cls:=.type "dict",data:=.dict #[]}) (t':=s.toks) (λ_ _ q=>cq _ q) (bp _) (LU s.heap I.qt);refine wpAny_Dict_walk (knd:=fz X.prog X.w) W G E T (fe (h ag _ R _ _ C (q _ J)) ?_)
 rintro B A ⟨ps,x,S,de,e,kvs,ep,y,L⟩
 subst ep;obtain⟨rs,c,N⟩:=Lv (P:=X.prog) (w:=X.w) de;obtain⟨z,hd,O,M,D⟩:=xS S.aW e;cases M;refine⟨rs,c,D,λh' V hs=>⟨.ref s.heap.objs.size,_,?_,U,L⟩⟩;have hz:(jB [] kvs).length<=aS:=by have F:=Gu kvs [];rw[nv]at F;rw[z_];lia
 have he:∃q,h'.get? s.heap.objs.size=aa q:=let⟨q,_,_,K,_⟩:=V;⟨q,K⟩;exact uT S (by rw[e];exact o3) hs he (AQ hz hd (N.merge .nil) V)
structure M2 (X:Cx) (o:Expr) (m:Str) (apos:Pos) (e f:Expr) (et:Pos):Prop where
 base:xo o m X.env (cC o X.env)=cC o X.env
 dh:((gj et (cu [e,f] X.env)).all (λx=>!x.1)&&(backToKw et (Eg [] X.env)).all (λx=>x.1.isSome)&&decide (([e,f]:List Expr).length+([]:List rZ).length+(if([]:List rZ).isEmpty then 0 else 1)<30))=ah
 line:(apos.endLine==et.line)=ah
 Q6:gj et (cu [e,f] X.env)=[(aB,cC e X.env),(aB,cC f X.env)]
def Ds(H:Hp)(a:ae):Prop:=(∃kvs,Rd H a (.dK kvs))\/∃kvs,Rd H a (.dT kvs)
def Zw{X:Cx}{V:St}{H:Hp}(I:aG X ag V H s)(d:Ds H a):s.TypeIs (.ref a) "dict"/\(∀b,cR a=.ref b->∃ob,s.heap.get? b=aa ob/\ob.dict=aj)/\(a==kE)=aB:=by
 rcases d with⟨kvs,e⟩|⟨kvs,e⟩
 .obtain ⟨_,hd,T,_,Z⟩:=pj I.aW e;refine⟨Z.typeIs,λb q=>?_,hd⟩;cases q;obtain⟨ob,_,_,W,Y,_⟩:=Z;exact⟨ob,W,Y.2.1⟩
 .obtain ⟨_,hd,xs,_,Z⟩:=sP I.aW e;refine⟨Z.typeIs,λb q=>?_,hd⟩;cases q;obtain⟨ob,_,_,W,Y,_⟩:=Z;exact⟨ob,W,Y.2.1⟩
section
variable{X:Cx}{ag:List (ae×Obj)}{σ:St}{H:Hp}{s:aD}{a:ae}{y d:V}{u r:af}{o:Option V}{A:b8}{E:af->aD->Prop}
def U5(T:A.units+1<du)(I:aG X ag σ H s)(g:jo H a y o)(V:bL y u)(rd:bL d r)(h:∀W s',aG X ag σ H s'->bL (o.getD d) W->Q W s'):aN (model X.prog X.w) A (call (.builtin "dict.get") [.ref a,u,r]) Q E s:=by
 rcases g with⟨kvs,k,e,Y,l⟩|⟨kvs,k,b,e,Y,S,l⟩
 .subst Y;obtain⟨z,hd,R,de,Z⟩:=pj I.aW e;refine z6 zY Z.typeIs Kk (Ki _ _ _) (meets_dict_get_default (fz X.prog X.w) a (pI V) hd r) ⟨_,Z.mapOf,h _ _ (I.gH _) ?_⟩;rw[l];exact(de.val k).getD rd
 .subst Y;cases(show u=cR b from V);obtain⟨z,hd,xs,de,Z⟩:=sP I.aW e;refine z6 zY Z.typeIs Kk (Ki _ _ _) (S6 (xw (fz X.prog X.w)) a b hd r) ⟨Aa T,k,xs,vp I.aW S,Z,h _ _ (I.gH _) ?_⟩;rw[l];exact(de.val k).getD rd
end
def agi(W ty tx:TE):TE:=λZ H Q=>W Z H λx X=>∃a,x=.ref a/\Ds X a/\ty Z X λy V=>tx Z V λz Y=>∃o,jo Y a y o/\Q (o.getD z) Y
section
variable{X:Cx}{o e f:Expr}{apos et:Pos}{td ty tx:TE}
def Hy(J:X.A.units+1<du)(G:PE X o td)(he:PE X e ty)(E:PE X f tx)(m:M2 X o "get" apos e f et):PE X (.Call (.Attribute o "get" apos) [e,f] [] et) (agi td ty tx):=by
 intro ag s Z H Q I h;refine wpAny_Call_method m.base m.dh m.line DY zY SN (bT (G ag s Z H _ I h) ?_)
 rintro u R x t W N ⟨a,ex,d,K⟩
 subst ex;obtain rfl:u=cR a:=N;obtain⟨T,V,_⟩:=Zw W d;refine⟨T,V,?_⟩;rw[m.Q6];refine DX U (zV (zW (bT (he ag R Z t _ W K) λl S y v B O L=>zW (bT (E ag S Z v _ B L) λfv p z w C P ⟨n,g,M⟩=>Kh ?_))));exact U5 J C g O P λr q D Y=>⟨_,w,D,Y,M⟩
end
def Z0:Em (.type "list") "keys"=pure aj:=am_miss_of_fast (by first|decide+kernel|rfl)
def Rc:entryFor table "dict.update.loop"=aa Builtin.«dict.update.loop»:=entryFor_of_tree (by kernel_rfl)
def zm:plainId "dict.update.loop"=ah:=by decide+kernel
section
variable{prog:aR}{w:aQ}{A:b8}{E:af->aD->Prop}
def aaw{xs:Array af}{k:Nat}{Q:Option af->aD->Prop}(T:s.heap.get? a=aa o)(S:o.cls=.type "list")(Z:o.data=.seq xs k)(hd:o.dict=aj)(N:A.handled=aj)(h:∀h' tk,(∀b ob,s.heap.get? b=aa ob->h'.get? b=aa ob)->Q aj {s with heap:=h',toks:=tk}):aN (model prog w) A (getAttr? (.ref a) "keys") Q E s:=by
 obtain⟨c,M,L,P⟩:=o;simp only at S Z hd;subst S Z hd;obtain⟨O,g,d,tk,os⟩:=s;have R:∀V,(⟨O,g,d,V,os⟩:aD).TypeIs (.ref a) "list":=λ_=>⟨_,T,U⟩;have W:=Z0;have X:(["__module__","__name__","__qualname__","__doc__","__annotations__"]:List Str).contains "keys"=aB:=by decide+kernel
 have hsz:("keys":Str).length+100<=aS:=by first|size_fits|decide+kernel
 have G:=sub_AttributeError;have H:=Km.lookup;have I:=Km.bind (.ref a);have J:=am_list_getattr_none;unfold getAttr? getAttrBy? getAttrBy
 repeat(any_goals(first|assumption|exact R _|((with_reducible show aN _ _ (call (Value.builtin "list.__getattribute__") _ _) _ _ _);refine Ed Km (R _) am_entry_list_getattribute (PySem.F.args_list_getattribute_2 _ _) (meets_getattribute_miss_list a xs k P "keys" _ W X hsz) ⟨T,N,λh' V e Y=>?_⟩)|wp_step))
 obtain⟨t',K,he⟩:=Y.there;show aN _ _ (getattributeRaised _ _ _ _ _ _ _) _ _ _;unfold getattributeRaised
 repeat(any_goals(first|assumption|wp_step))
 all_goals first|exact h _ _ Y.keeps|(dsimp only;repeat(any_goals(first|assumption|exact h _ _ Y.keeps|wp_step)))
theorem Rf{R:Result->aD->Prop}{S I l:ae}{items:Array af}{res:af}(d:A.handled=aj)(M:l≠I)(X:S≠I)(K:S≠l):∀(rest:List (bE×af)) (i:Nat) (acc:List (bE×af)) (ix:Int) (t:Tok) (s:aD),items.size=i+rest.length->acc.length+rest.length<=aS->(∀(j:Nat) (q:bE×af),rest[j]?=aa q->∃(b:ae) (u:af),items[i+j]?=aa (.ref b)/\b≠S/\b≠I/\gi s.heap b #[u,q.2]/\lS q.1 u=ah)->s.heap.IsListIter I l i->s.heap.IsList l items->s.heap.DictOf (fz prog w) S acc->(∀h' tk,h'.DictOf (fz prog w) S (merged acc rest)->(∀b o,b≠S->b≠I->s.heap.get? b=aa o->h'.get? b=aa o)->R (.ok (.ret res)) {s with heap:=h',toks:=tk})->nF (model prog w) A (.builtin "dict.update.loop" ⟨[.ref S,.ref I,.int ix t,res],[]⟩) R s
 |[],i,acc,ix,t,s,hsz,N,F,P,J,C,h=>by refine si Rc ?_;rw[uq zm _];show aN _ A.in1 (js (.ref I)>>=_) _ _ s;refine az (wpAny_pyNext_list_end (A:=A.in1) d P J (by first|exact wG (zM hsz)|(simp at hsz;simp;lia)) λh' he=>?_);show aN _ A.in1 (Builtin.Dict.addKeywords S []>>=_) _ _ _;refine az (aV (aV ?_));exact h h' s.toks (C.extBut he X) λb o _ m e=>he b o m e
 |q::rest,i,acc,ix,t,s,hsz,N,F,P,J,C,h=>by
  obtain⟨b,u,m,hbS,r,O,hk⟩:=F 0 q U;rw[bY]at hsz N;refine si Rc ?_;rw[uq zm _];show aN _ A.in1 (js (.ref I)>>=_) _ _ s;refine az (Ta (x:=.ref b) P J ‹m› λg L Z=>?_);have G:gi g b #[u,q.2]:=O.extBut Z.extBut r;have B:g.IsList l items:=J.extBut Z.extBut M;have D:g.DictOf (fz prog w) S acc:=C.extBut Z.extBut X;obtain⟨o,f,hc,n,hd⟩:=id G;show aN _ A.in1 (uz [cR b] _>>=_) _ _ _;refine az (jS ?_);refine az (wpAny_tryCatch ?_);unfold Builtin.Dict.pairItems;refine az (uF (T:="tuple") ⟨o,f,hc⟩ ?_);rw[aA (by first|decide|rfl|simp)];refine az (nH f hd (aV ?_));show aN _ A.in1 (uz [u,q.2] (dictSet S u q.2)) _ _ _;refine jS (wpAny_dictSet_pairs (knd:=fz prog w) (k:=q.1) hk D (λh2 E Y=>?_) (by lia));refine aV ⟨uA zm _,Rf (items:=items) d M X K rest (i+1) (stored acc q.1 q.2) (ix+1) 0 _ (show items.size=i+1+rest.length by lia) ?_ (λj q' e=>?_) ?_ ?_ E λh' tk v k=>?_⟩
  .have z:=stored_length_le acc q.1 q.2;lia
  .obtain ⟨b',u',p,W,V,Q,y⟩:=F (j+1) q' ‹e›;refine⟨b',u',?_,W,V,(Q.extBut Z.extBut V).extBut Y.extBut W,y⟩;rw[show i+1+j=i+(j+1) by lia];exact p
  .exact L.at λo' e=>Y.extBut I o' (cU X) e
  .exact B.extBut Y.extBut (cU K)
  .exact h h' tk v λc H h3 a e=>k c H h3 a (Y.extBut c H h3 (Z.extBut c H a e))
def Ub{l:ae}{P:Obj}{n:Nat}{dR:List (bE×af)}(y:A.handled=aj)(H:s.heap.get? l=aa P)(B:P.cls=.type "list")(hd:P.dict=aj)(V:P.data=.seq items n)(hsz:items.size=dR.length)(D:dR.length<=aS)(t:∀(j:Nat) (q:bE×af),dR[j]?=aa q->∃(b:ae) (u:af),items[j]?=aa (.ref b)/\gi s.heap b #[u,q.2]/\lS q.1 u=ah)(h:∀h' tk,h'.DictOf (fz prog w) s.heap.objs.size (merged [] dR)->(∀b o,s.heap.get? b=aa o->h'.get? b=aa o)->Q (.ref s.heap.objs.size) {s with heap:=h',toks:=tk}):aN (model prog w) A (call (.type "dict") [.ref l]) Q E s:=by
 refine callType_codes (Q₁:=λobj W=>obj=.ref s.heap.objs.size/\W={s with heap:=s.heap.push {cls:=.type "dict",data:=.dict #[]}}) PySem.F.kt_called_dict (PySem.F.kt_typeCall_dict_1 _) PySem.F.entry_dict_init (kt_code_dict_new _ ⟨U,U⟩) ?_
 rintro obj W ⟨rfl,rfl⟩
 have Z:(s.heap.push {cls:=.type "dict",data:=.dict #[]}).DictOf (fz prog w) s.heap.objs.size []:=SQ s.heap;have M:∀b o,s.heap.get? b=aa o->(s.heap.push {cls:=.type "dict",data:=.dict #[]}).get? b=aa o:=λb o e=>cq _ e;refine⟨Z.typeIs,PySem.F.args_dict_init_2 _ _,?_⟩;unfold Builtin.«dict.__init__»;refine az ?_;unfold Builtin.Dict.selfAndRest;refine az (wpAny_notOrdered_dict Z.typeIs ?_);show aN _ _ (pure (s.heap.objs.size,[cR l])) _ _ _;refine aV ?_;show aN _ _ (Si "dict.__init__" s.heap.objs.size (.ref l) [] .none) _ _ _;unfold Si;refine az (uF (T:="list") ⟨P,M _ _ H,B⟩ ?_);rw[aA (by first|decide|rfl|simp)];refine az (aaw (M _ _ H) B V hd y λO G Y=>?_);rw[aA (show(aj:Option af).isNone=ah from U)];refine az (oW ?_);have K:O.IsList l items:=⟨P,Y _ _ (M _ _ H),B,n,V⟩;have X:s.heap.objs.size<O.objs.size:=by have e:(s.heap.push {cls:=.type "dict",data:=.dict #[]}).get? s.heap.objs.size=aa {cls:=.type "dict",data:=.dict #[]}:=dm _ U;exact cI (Y _ _ e)
 refine az (Ab K ?_);have J:∀b o,O.get? b=aa o->(O.push {cls:=.type "list_iterator",data:=.fields #[.ref l,.int 0 0]}).get? b=aa o:=λb o e=>cq _ e;have L:l<s.heap.objs.size:=cI H;have key:=Rf (prog:=prog) (w:=w) (A:=A.in1) (R:=wants (λr N=>r=.none/\Q (.ref s.heap.objs.size) N) E) (S:=s.heap.objs.size) (I:=O.objs.size) (l:=l) (items:=items) (res:=iA) y
  (c8 (wY L X)) (c8 X) (mw L) dR 0 [] 0 0
  {s with heap:=O.push {cls:=.type "list_iterator",data:=.fields #[.ref l,.int 0 0]},toks:=G} (by rw[hsz,qd]) (by rw[nv,qd];exact D)
  (λj q e=>by obtain⟨b,u,m,v,p⟩:=t j q e;have x:b<s.heap.objs.size:=v.lt;exact⟨b,u,by rw[qd];exact m,c8 x,c8 (wY x X),v.keeps λc o z=>J _ _ (Y _ _ (M _ _ z)),p⟩)
  ⟨_,dm _ U,U,U⟩ (K.at λo e=>J _ _ e) ((Z.at λo e=>Y _ _ e).at λo e=>J _ _ e)
  (λh' tk C k=>⟨U,h h' tk C λb o e=>k b o (c8 (cI e)) (c8 (wY (cI e) X)) (J _ _ (Y _ _ (M _ _ e)))⟩)
 first
  |exact aV ⟨uA zm _,key⟩
  |exact az (aV (aV ⟨uA zm _,key⟩))
end
section
variable{X:Cx}
theorem O2{ag:List (ae×Obj)}{Y:St}{H:Hp}{s:aD}(I:aG X ag Y H s):∀{ps:List ae} {kvs:List (bE×V)},Paired (λp Z=>aY X.K H p [kV Z.1,Z.2]) ps kvs->∃dR:List (bE×af),KV kvs dR/\dR.length=ps.length/\∀(j:Nat) (q:bE×af),dR[j]?=aa q->∃(b:ae) (u:af),ps[j]?=aa b/\gi s.heap b #[u,q.2]/\lS q.1 u=ah
 |_,_,.nil=>⟨[],.nil,U,λj q e=>by simp at e⟩
 |_,_,.cons (a:=p) (b:=Z) h t=>by
  obtain⟨dR,r,M,N⟩:=O2 I t;obtain⟨Q,S,O,_⟩:=I.tuple h;obtain⟨u,y,L,R,T⟩:=ag9 S;subst L;refine⟨(Z.1,y)::dR,.cons ⟨U,T⟩ r,by rw[bY,bY,M],λj q e=>?_⟩;cases j with
  |zero=>
   have E:(Z.1,y)=q:=dX e;subst E;exact⟨p,u,U,O,pI (P:=X.prog) (w:=X.w) R⟩
  |succ j=>
   obtain⟨b,W,F,G,J⟩:=N j q ‹e›;exact⟨b,W,‹F›,G,J⟩
theorem PV:∀{ps:List ae} {us:List af},bD (ps.map V.ref) us->us=ps.map cR
 |[],us,r=>by rw[wV]at r;cases r;rfl
 |p::ps,us,r=>by
  rw[bM]at r;cases r with
  |cons h t=>
   cases h;rw[bM,<-PV t]
def Ua(Z:X.ij=ah):i3 X (.type "dict") (λxs H Q=>∃(a:ae) (ps:List ae) (kvs:List (bE×V)),xs=[.ref a]/\aL X.K H a (ps.map V.ref)/\Paired (λp P=>aY X.K H p [kV P.1,P.2]) ps kvs/\∀p,H p=aj->Q (.ref p) (aM H p (.dK (jB [] kvs)))):=by
 intro ag s x H xs us Q I r q;obtain⟨a,ps,kvs,ex,J,G,q⟩:=q;subst ex;obtain⟨u,C,O⟩:=wm r;subst C;cases O;obtain⟨L,N,pl,hz⟩:=I.list J;have B:=PV N;subst B;rw[aP]at hz;obtain⟨dR,de,S,T⟩:=O2 I G;obtain⟨o,n,F,D,hd,W⟩:=pl;refine Ub (dR:=dR) (I.ok.hd Z) F D hd W (by simp[S]) (by rw[S];exact hz) (λj M e=>?_) λh' tk R k=>?_
 .obtain ⟨b,u,y,z,A⟩:=T j M e;exact⟨b,u,by simp[y],z,A⟩
 .have E:(s.heap.objs.size==kE)=aB:=fX.mpr (mw I.qt);have Y:(jB [] kvs).length<=aS:=by
   refine c7 (Gu kvs []) ?_;rw[nv,qd,de.length,S];exact hz
  exact⟨.ref s.heap.objs.size,aM H s.heap.objs.size (.dK (jB [] kvs)),I.laid (t':=tk) k (bp _) (show eC X.prog X.w _ _ _ (.dK (jB [] kvs))from⟨Y,E,merged [] dR,KV.merge de .nil,R⟩),U,q _ (I.aW.fresh (bp _))⟩
end
def T5:ux "reversed"=aa (.type "reversed"):=by decide+kernel
section
variable{X:Cx}{ag:List (ae×Obj)}{σ:St}{H:Hp}{s:aD}{h':aK}
def aG.ag3(I:aG X ag σ H s)(k:∀b o,b∉ch->s.heap.get? b=aa o->h'.get? b=aa o)(Y:∀b∈ch,lr X ag H b):aG X ag σ H {s with heap:=h',toks:=t'}:=by
 have W:∀b u,H b=aa u->b∉ch:=λb u e z=>by have q:=(Y b z).1;rw[q]at e;cases e
 refine I.step (g':=s.gens) (d':=s.drawn) (ch:=ch) (λb V=>⟨(Y b V).2.2.2.1,(Y b V).2.1,(Y b V).2.2.2.2.1,(Y b V).2.2.2.2.2⟩) (λb o _ _ Z e _=>k b o Z e) (λb o _ _ Z e _=>⟨o.slots,k b o Z e⟩)
  (λ_ _ _ _ n=>n) (λb o Z e=>⟨o,k b o Z e⟩) (λ_ _ e=>e) (λ_ _ _ e=>e) (λb ps e=>⟨#[],by rw[e];simp⟩) (λm S=>?_) (λb u e=>?_) I.gm
 .obtain ⟨o,es,ep,T,r⟩:=S;exact⟨o,es,ep,k _ o (λz=>(Y _ z).2.1 U) T,r⟩
 .refine (I.aW b u e).ow (λc v Z q=>k c v ?_ q) (λ_ q=>q) λ_ _ q=>q;rcases Z with z|z
  .rw [z];exact W b u e
  .exact W c _ z
def aG.Jh{T:ae}{ob:HO}(I:aG X ag σ H s)(k:∀b o,b∉ch->s.heap.get? b=aa o->h'.get? b=aa o)(W:∀b∈ch,lr X ag H b)(R:s.heap.objs.size<=T)(new:eC X.prog X.w (aM H T ob) h' T ob):aG X ag σ (aM H T ob) {s with heap:=h',toks:=t'}:=by
 have S:H T=aj:=I.aW.fresh R;have V:∀b u,H b=aa u->b∉ch:=λb u e z=>by have q:=(W b z).1;rw[q]at e;cases e
 refine I.step (g':=s.gens) (d':=s.drawn) (ch:=ch) (λb Y=>⟨(W b Y).2.2.2.1,(W b Y).2.1,(W b Y).2.2.2.2.1,(W b Y).2.2.2.2.2⟩) (λb o _ _ Z e _=>k b o Z e) (λb o _ _ Z e _=>⟨o.slots,k b o Z e⟩)
  (λb o _ e n=>?_) (λb o Z e=>⟨o,k b o Z e⟩) (λb xs e=>?_) (λb o u e=>?_) (λb ps e=>⟨#[],?_⟩) (λm P=>?_) (λb u e=>?_) I.gm
 .rw [a_ (c8 (g8 (cI e) R))];exact n
 .rw [a_ (f7 e S)];exact e
 .rw [a_ (f7 e S)];exact e
 .rw [a_ (f7 e S),e];simp
 .obtain ⟨o,es,ep,Q,r⟩:=P;exact⟨o,es,ep,k _ o (λz=>(W _ z).2.1 U) Q,r⟩
 .by_cases Y:b=T
  .subst Y;rw[aJ]at e;cases e;exact new
  .rw [a_ Y]at e;refine(I.aW b u e).ow (λc v Z q=>k c v ?_ q) (λc q=>by rw[a_ (f7 q S)];exact q) λc xs q=>by rw[a_ (f7 q S)];exact q
   rcases Z with z|z
   .rw [z];exact V b u e
   .exact V c _ z
def aG.Z2{d:ae}{u:HO}(I:aG X ag σ H s)(h:H d=aa u)(Z:uh (aa u)):∃od,aG X ag σ (aM H d (.cJ od u)) s:=by
 have x:=I.aW d u h;have ex:∃od,s.heap.get? d=aa od:=by
  cases u with
  |aC xs=>obtain⟨_,_,_,_,e⟩:=x;exact⟨_,e⟩
  |dK kvs=>obtain⟨_,_,_,_,o,_,_,e,_⟩:=x;exact⟨o,e⟩
  |dT kvs=>obtain⟨_,_,_,_,o,_,_,e,_⟩:=x;exact⟨o,e⟩
  |set S n=>obtain⟨o,_,_,_,e,_⟩:=x;exact⟨o,e⟩
  |ins C dx fs=>obtain⟨_,_,_,e,_⟩:=x;exact⟨_,e⟩
  |ext Y=>obtain⟨_,⟨_,e⟩,_⟩:=x;exact⟨_,e⟩
  |_=>exact i4 Z
 obtain⟨od,e⟩:=ex;have new:eC X.prog X.w (aM H d (.cJ od u)) s.heap d (.cJ od u):=by
  refine⟨e,x.ow (λb v _ q=>q) (λb q=>?_) λb xs q=>?_⟩
  .rw [a_ (λz=>by rw[z,h]at q;cases q;exact Z)];exact q
  .rw [a_ (λz=>by rw[z,h]at q;cases q;exact Z)];exact q
 exact⟨od,I.oB (x:=d) (e:=d) (t':=s.toks) (h':=s.heap) (by rw[h];exact Z) (.inl U) (λb v _ q=>q) ⟨od,e⟩ new⟩
end
section
variable{X:Cx}
def B'{Z:St}{H:Hp}{R:It->Hp->Prop}{J:It}{tn:Nat->aK->Prop}{tk:Nat}(I:aG X ag Z H s)(o:Obj)(T:mB X.prog X.w X.K tg J [s.heap.objs.size] s.heap.objs.size tn)(st:tn 0 (s.heap.push o))(q:R J H):DQ X ag Z tg R (.ref s.heap.objs.size) {s with heap:=s.heap.push o,toks:=tk}:=by
 refine⟨s.heap.objs.size,[s.heap.objs.size],tn,J,H,U,I.eE λb ob e=>cq _ e,T,st,λb Y=>?_,q⟩;have e:b=s.heap.objs.size:=‹Y›
 subst e;exact I.nU (bp _) (I.aW.fresh (bp _))
end
def Dx(K:aw)(a:ae)(n:Nat):It:=
 ⟨λi H=>i<n/\∃(xs:List V) (x:V),aL K H a xs/\xs[n-1-i]?=aa x,λi H x Z=>Z=H/\∀xs,aL K H a xs->xs[n-1-i]?=aa x,λi _=>n<=i⟩
def ag1(a W:ae)(n:Nat):mB P w K tg (Dx K a n) [W] W (λi h=>i<=n/\h.IsRevIter W a ((n:Int)-1-(i:Nat)))where
 mem:=by simp
 obj:=λi h st b V=>by
  have e:b=W:=‹V›
  subst e;obtain⟨_,o,e,c,d⟩:=st;exact⟨o,e,λv z=>by rw[d]at z;cases z⟩
 keep:=λi h h' st k=>⟨st.1,st.2.at λo e=>k W (by simp) o e⟩
 item:=by
  intro X O hw N t i ag s C H E I S st R;subst O hw N;obtain⟨T,xs,x,y,B⟩:=R;obtain⟨l,q,p,hz⟩:=I.list y;obtain⟨u,g,m⟩:=q.get B;obtain⟨F,G,f2,J,L,M⟩:=S W (by simp);obtain⟨_,Z⟩:=st;have D:(n:Int)-1-((i:Nat):Int)=((n-1-i:Nat):Int):=by lia
  rw[D]at Z;refine wpAny_pyNext_rev_item Z p.isList (x:=u) ‹g› λh' Y r=>?_;have e2:((n-1-i:Nat):Int)-1=(n:Int)-1-((i+1:Nat):Int):=by lia
  rw[e2]at Y;have I1:aG X ag C H {s with heap:=h'}:=I.jl (t':=s.toks) (λb o V e=>(r.2 b V).trans e) F G J L M;obtain⟨o,e,c,d⟩:=id Y;exact⟨u,U,u4 (s:={s with heap:=h'}) e c d (by decide) ⟨x,H,I1,m,⟨U,λys j=>by rw[I.Gv j y];exact B⟩,⟨T,Y⟩,λb V=>(S b V).1⟩⟩
 done:=by
  intro X O hw N t i ag s C H E I S st R;subst O hw N;obtain⟨F,G,f2,J,L,M⟩:=S W (by simp);obtain⟨T,Z⟩:=st;have f:n<=i:=R;have D:(n:Int)-1-((i:Nat):Int)=-1:=by lia
  rw[D]at Z;exact wpAny_pyNext_rev_end (I.ok.hd t) Z λh' eb=>⟨U,I.jl (t':=s.toks) (λb o V e=>eb b o V e) F G J L M⟩
 self:=λA i s Q E st h=>wpAny_pyIter_revIter st.2 h
def Zi(K:aw)(X:TA):TI:=λY H R=>X Y H λvs Z=>∃(a:ae) (xs:List V),vs=[.ref a]/\aL K Z a xs/\R (Dx K a xs.length) Z
section
variable{X:Cx}{tg:Expr}
def acO{Y:TA}(J:Gl X "reversed")(L:X.mg "reversed"=aj)(G:PA X [e] Y)(hs:cu [e] X.env=[(aB,cC e X.env)]:=by rfl):PI X tg (.Call (.Name "reversed" p) [e] [] pos) (Zi X.K Y):=by
 intro ag s V H R I h;refine Call_ (tE I J L T5 (xb (k' (G pos ag s V H _ I h) λus T E C W P O=>?_) hs U));obtain⟨a,xs,e,M,q⟩:=O;subst e;cases P with
 |cons r Q=>
  cases Q;cases r;obtain⟨Z,S,N,hz⟩:=W.list M;have D:=S.length;have F:((Z.toArray.size:Nat):Int)-1=(xs.length:Int)-1-((0:Nat):Int):=by simp only[eh];lia
  refine call_reversed_list N.isList (wpAny_pyIter_revIter (l:=a) (i:=((Z.toArray.size:Nat):Int)-1) ⟨_,dm _ U,U,U⟩ ?_);refine B' (tk:=T.toks) W _ (ag1 a _ xs.length) ⟨cN _,?_⟩ q;rw[<-F];exact⟨_,dm _ U,U,U⟩
end
section
variable{prog:aR}{w:aQ}{A:b8}{E:af->aD->Prop}{s:aD}
def Gj{d:ae}(hd:(d==kE)=aB)(Y:s.heap.get? d=aa o)(W:o.ExactDict)(Z:o.data=.dict es ep)(V:Q (.ref s.heap.objs.size) {s with heap:=s.heap.push {cls:=.type "dict_keyiterator",data:=.fields #[.ref d,.int 0 0,.int es.size 0,.int ep 0]}}):aN (model prog w) A (su (.ref d)) Q E s:=by have X:s.TypeIs (.ref d) "dict":=⟨o,Y,W.1⟩;refine Ep X F.slot_dict_iter (iB F.slot_dict_iter X F.entry_dict_iter ?_ (F.args_dict_iter_1 _));unfold Builtin.«dict.__iter__»;refine az ?_;unfold Builtin.Dict.dictSlotNone;refine az (wpAny_notOrdered_dict X ?_);show aN _ _ (pure (cR d)) _ _ s;refine aV ?_;show aN _ _ (Sg d>>=_) _ _ s;unfold Sg;rw[ay (by rw[hd];exact cg)];refine az (aV ?_);refine az (KY Y Z ?_);refine az (KZ Y Z ?_);refine az (jU (aV ⟨_,U,"dict_keyiterator",_,⟨_,dm _ U,U⟩,xk.lookup,?_⟩));simpa[eM]using V
def aaW{d:ae}{i n:Nat}{od:Obj}{en:fg}{Q:Option af->aD->Prop}(Z:s.heap.IsKeyIter it d i n ep)(W:s.heap.get? d=aa od)(T:od.data=.dict es ep)(hsz:es.size=n)(P:es[i]?=aa en)(N:∀h',h'.IsKeyIter it d (i+1) n ep->qg it s.heap h'->Q (aa en.key) {s with heap:=h'}):aN (model prog w) A (js (.ref it)) Q E s:=by
 obtain⟨o,S,O,hd⟩:=id Z;unfold js;refine az (xy (oV (name:=oR "__next__") Z.typeIs xk (iB xk Z.typeIs Sy ?_ (Su _))));refine az (aV ?_);refine az ?_;refine az ?_
 first|refine az (Es Z.typeIs (aV ?_))|refine az (wpAny_typeNameOf_keyiter Z.typeIs (aV ?_))
 refine az (K0 S hd ?_);have X:Sj "dict_keyiterator"=aB:=by decide
 simp only[X,kj,if_false];show aN _ _ (if(cR d==iA)=ah then _ else _) _ _ s;rw[ay (show¬((cR d==iA)=ah)from cg)];refine az (aV ?_);refine az (KY W T ?_);rw[ay (by rw[hsz];simp)];refine az (aV ?_);refine az (KZ W T ?_);rw[ay (by simp)];refine aV ?_;obtain⟨V,R⟩:=Array.getElem?_eq_some_iff.mp P;simp only[show¬((i:Int)<0)from by lia,if_false,rD,lg V];refine az ?_
 first|refine az (Es Z.typeIs (aV ?_))|refine az (wpAny_typeNameOf_keyiter Z.typeIs (aV ?_))
 refine az (wpAny_isOneOf_keyiter Z.typeIs ?_);show aN _ _ (sv (.ref it) 1 (eM ((i:Int)+1))>>=_) _ _ s;refine az (Er S hd (by simp) ?_);have Y:(s.heap.update it (Obj.mapFields (·.setIfInBounds 1 (eM ((i:Int)+1))))).IsKeyIter it d (i+1) n ep:=
  ⟨_,xm _ S (SR (D5 hd _)),(Obj.cls_mapFields ..).trans O,by rw[D5 hd];simp[eM]⟩
 refine az (jS ?_);refine az (wpAny_isOneOf_keyiter (s:={s with heap:=s.heap.update it (Obj.mapFields (·.setIfInBounds 1 (eM ((i:Int)+1))))}) Y.typeIs ?_);show aN _ _ (pure es[i].key) _ _ _;rw[R];exact aV (aV ⟨_,U,aV (N _ Y (xl ..))⟩)
def Od{d:ae}{i n:Nat}{od:Obj}{Q:Option af->aD->Prop}(P:A.handled=aj)(Z:s.heap.IsKeyIter it d i n ep)(X:s.heap.get? d=aa od)(V:od.data=.dict es ep)(hsz:es.size=n)(S:n<=i)(O:∀h',Heap.ExtBut it s.heap h'->Q aj {s with heap:=h'}):aN (model prog w) A (js (.ref it)) Q E s:=by
 obtain⟨o,R,N,hd⟩:=id Z;unfold js;refine az (xy (oV (name:=oR "__next__") Z.typeIs xk (iB xk Z.typeIs Sy ?_ (Su _))));refine az (aV ?_);refine az ?_;refine az ?_
 first|refine az (Es Z.typeIs (aV ?_))|refine az (wpAny_typeNameOf_keyiter Z.typeIs (aV ?_))
 refine az (K0 R hd ?_);have Y:Sj "dict_keyiterator"=aB:=by decide
 simp only[Y,kj,if_false];show aN _ _ (if(cR d==iA)=ah then _ else _) _ _ s;rw[ay (show¬((cR d==iA)=ah)from cg)];refine az (aV ?_);refine az (KY X V ?_);rw[ay (by rw[hsz];simp)];refine az (aV ?_);refine az (KZ X V ?_);rw[ay (by simp)];refine aV ?_;have W:es.size<=i:=by rw[hsz];exact S
 simp only[show¬((i:Int)<0)from by lia,if_false,rD,wG W];refine az ?_
 first|refine az (Es Z.typeIs (aV ?_))|refine az (wpAny_typeNameOf_keyiter Z.typeIs (aV ?_))
 show aN _ _ (sv (.ref it) 0 .none>>=_) _ _ s;refine az (Er R hd (by simp) ?_);show aN _ _ (so (.type "StopIteration") []>>=_) _ _ _;refine az ?_;simp only[so,newTuple];refine az (jU ?_ (by size_fits));refine az (m:=xq _ _) (sE (a:=iA) (by first|rfl|(simp only[xq];rfl)) ?_);refine jU ?_ (by size_fits);simp only[raiseNew];refine az (K1 ?_);rw[show A.in1.handled=aj from P];refine az (aV (wpAny_throw ?_));refine az (uC (T:="StopIteration") (b:=ah) ⟨_,dm _ U,U⟩ Ef ?_);exact aV (O _ (((xl ..).extBut.push _).push _))
end
def ZS{Z:Type}{kvs:List (Z×V)}{Y:List (Z×af)}(h:KV kvs Y):∀{i:Nat} {k:Z} {v:V},kvs[i]?=aa (k,v)->∃u,Y[i]?=aa (k,u)/\bL v u:=by
 unfold KV at h
 induction h with
 |nil=>intro i k v e;simp at e
 |@cons a b W X r t T=>
  intro i k v e;cases i with
  |zero=>
   simp only[List.getElem?_cons_zero,Sb]at e;subst e;refine⟨b.2,?_,r.2⟩;simp only[List.getElem?_cons_zero];exact b_ aa (qe r.1.symm U)
  |succ j=>
   simp only[List.getElem?_cons_succ]at e⊢;exact T e
def O0{X W:Type}{G:X->W->Prop}{Y:List X}{Z:List W}(h:Paired G Y Z):∀{i:Nat} {a:X},Y[i]?=aa a->∃b,Z[i]?=aa b/\G a b:=by
 induction h with
 |nil=>intro i a e;simp at e
 |@cons a b Y Z r t V=>
  intro i T e;cases i with
  |zero=>
   simp only[List.getElem?_cons_zero,Sb]at e;subst e;exact⟨b,U,r⟩
  |succ j=>
   simp only[List.getElem?_cons_succ]at e⊢;exact V e
def ady{k:bE}(h:lS k u=ah):bL (kV k) u:=by
 rcases mX h with⟨i,t,rfl,rfl⟩|⟨x,t,rfl,rfl⟩
 .exact ⟨t,U⟩
 .exact ⟨t,U⟩
section
variable{X:Cx}{ag:List (ae×Obj)}{σ:St}{H:Hp}{s:aD}{d:ae}{o:Obj}
def aG.A4{kvs:List (bE×V)}(I:aG X ag σ H s)(h:H d=aa (.cJ o (.dK kvs))):(d==kE)=aB/\s.heap.get? d=aa o/\o.ExactDict/\∃(es:Array fg) (ep:Nat) (vs:List (bE×af)),o.data=.dict es ep/\es.size=kvs.length/\KV kvs vs/\s.heap.DictAt (fz X.prog X.w) d vs ep:=by obtain⟨hd,z,hs,vs,Y,R,es,ep,T,W,Z,r⟩:=I.aW d _ h;rw[hd]at T;cases T;refine⟨hs,hd,W,es,ep,vs,Z,?_,Y,o,es,hd,W,Z,r⟩;have S:=r.2.1.length;have Q:kvs.length=vs.length:=kC Y;rw[iN]at S;lia
end
def p7(d:ae)(o:Obj)(kvs:List (bE×V)):It:=
 ⟨λi H=>H d=aa (.cJ o (.dK kvs))/\i<kvs.length,λi H x Z=>Z=H/\∃k v,kvs[i]?=aa (k,v)/\x=kV k,λi H=>H d=aa (.cJ o (.dK kvs))/\kvs.length<=i⟩
def LS{Z:Array fg}{Y:Nat}(h:o.data=.dict es ep)(h':o.data=.dict Z Y):Z=es/\Y=ep:=by rw[h]at h';cases h';exact⟨U,U⟩
section
variable{P:aR}{w:aQ}{K:aw}{tg:Expr}{d:ae}{o:Obj}{es:Array fg}{ep:Nat}
def Q9{kvs:List (bE×V)}(Y:ae)(S:o.data=.dict es ep):mB P w K tg (p7 d o kvs) [Y] Y (λi h=>h.IsKeyIter Y d i kvs.length ep)where
 mem:=by simp
 obj:=λi h st b W=>by
  have e:b=Y:=‹W›
  subst e;obtain⟨M,e,c,m⟩:=st;exact⟨M,e,λv z=>by rw[m]at z;cases z⟩
 keep:=λi h h' st k=>st.at λM e=>k Y (by simp) M e
 item:=by intro X D hw C a i ag s l H E I L st F;subst D hw C;obtain⟨hd,G⟩:=F;obtain⟨r,t,f2,x,y,B⟩:=L Y (by simp);obtain⟨hs,N,hx,q,n,j,Z,hsz,J,g⟩:=I.A4 hd;obtain⟨rfl,rfl⟩:=LS S Z;obtain⟨⟨k,v⟩,R⟩:∃p,kvs[i]?=aa p:=⟨kvs[i],dC G⟩;obtain⟨u,hu,ru⟩:=ZS J R;have f:kvs.length=j.length:=kC J;rw[f]at st;refine wpAny_pyNext_dict_item st g hu λkey h' O T sb=>?_;have I1:aG X ag l H {s with heap:=h'}:=I.jl (t':=s.toks) (λb ob W e=>(sb.2 b W).trans e) r t x y B;obtain⟨M,e,c,m⟩:=id T;refine⟨key,U,u4 (s:={s with heap:=h'}) e c m (by decide) ⟨kV k,H,I1,ady (show lS k key=ah from O),⟨U,k,v,R,U⟩,?_,λb W=>(L b W).1⟩⟩;show h'.IsKeyIter Y d (i+1) kvs.length _;rw[f];exact T
 done:=by intro X D hw C a i ag s l H E I L st F;subst D hw C;obtain⟨hd,G⟩:=F;obtain⟨r,t,f2,x,y,B⟩:=L Y (by simp);obtain⟨hs,N,hx,q,n,j,Z,hsz,J,g⟩:=I.A4 hd;obtain⟨rfl,rfl⟩:=LS S Z;exact Od (I.ok.hd a) st N Z hsz G λh' eb=>⟨U,I.jl (t':=s.toks) (λb ob W e=>eb b ob W e) r t x y B⟩
 self:=λA i s Q E st h=>wpAny_pyIter_keyiter st h
end
def Dv(K:aw)(a:ae):It:=
 ⟨λi H=>∃(xs:List V) (x:V),aL K H a xs/\xs[i]?=aa x,λi H v Z=>∃T x,v=.ref T/\H T=aj/\Z=aM H T (.bh [.int (i:Nat),x])/\∀xs,aL K H a xs->xs[i]?=aa x,λi H=>∃xs:List V,aL K H a xs/\xs.length<=i⟩
def agX(a e Y:ae):mB P w K (.Tuple elts kk fC) (Dv K a) [e,Y] e (λi h=>(∃ji,IsEnum h e Y ((i:Nat):Int) ji)/\h.IsListIter Y a i/\e≠Y)where
 mem:=by simp
 obj:=λi h st b W=>by
  obtain⟨⟨ji,he⟩,⟨o,F,y,hd⟩,_⟩:=st;have l:b=e\/b=Y:=‹W›
  rcases l with z|z
  .rw [z];exact⟨_,he,λv q=>nomatch q⟩
  .rw [z];exact⟨o,F,λv q=>by rw[hd]at q;cases q⟩
 keep:=λi h h' st k=>let⟨⟨ji,he⟩,c,Z⟩:=st;⟨⟨ji,k e (by simp) _ he⟩,c.at λo q=>k Y (by simp) o q,Z⟩
 item:=by
  intro X n hw m y i ag s j H E I N st C;subst n hw m;obtain⟨⟨ji,he⟩,V,Z⟩:=st;obtain⟨xs,x,O,G⟩:=C;obtain⟨J,L,p,hz⟩:=I.list O;obtain⟨u,d,g⟩:=L.get G;have R:e<s.heap.objs.size:=cI he;have D:Y<s.heap.objs.size:=by obtain⟨_,q,_⟩:=V;exact cI q
  refine wpAny_pyNext_enum_item he V p.isList (x:=u) (by simpa using d) Z λh' F S hT hsz hk=>?_;refine⟨_,U,S_ (s:={s with heap:=h',toks:=s.toks+1}) F λT B M=>?_⟩;have r:T.get? s.heap.objs.size=aa {cls:=.type "tuple",data:=.seq #[.int i s.toks,u]}:=(M.2 _ (mw R)).trans hT;have new:eC X.prog X.w (aM H s.heap.objs.size (.bh [.int (i:Nat),x])) T s.heap.objs.size (.bh [.int (i:Nat),x]):=
   ⟨by show 2<=aS;decide,[.int i s.toks,u],.cons ⟨_,U⟩ (.cons g .nil),⟨_,r,U,_,U,U⟩⟩
  have I1:aG X ag j (aM H s.heap.objs.size (.bh [.int (i:Nat),x])) {s with heap:=T,toks:=s.toks+1}:=
   I.Jh (ch:=[e,Y]) (λb ob W q=>(M.2 b (λz=>W (by simp[z]))).trans (hk b ob (λz=>W (by simp[z])) (λz=>W (by simp[z])) q)) N (bp _) new
  refine⟨.ref s.heap.objs.size,_,I1,U,⟨_,x,U,I.aW.fresh (bp _),U,λys f=>by rw[I.Gv f O];exact G⟩,⟨⟨u,?_⟩,S.at λo q=>(M.2 Y (cU Z)).trans q,Z⟩,λb W=>?_⟩
  .have e1:((i+1:Nat):Int)=(i:Int)+1:=by lia
   rw[e1];exact B
  .have t:b<s.heap.objs.size:=by
    have l:b=e\/b=Y:=‹W›
    rcases l with z|z
    .rw [z];exact R
    .rw [z];exact D
   rw[a_ (c8 t)];exact(N b W).1
 done:=by intro X n hw m y i ag s j H E I N st C;subst n hw m;obtain⟨⟨ji,he⟩,V,Z⟩:=st;obtain⟨xs,O,G⟩:=C;obtain⟨J,L,p,hz⟩:=I.list O;obtain⟨f0,f1,f2,f3,f4,f5⟩:=N Y (by simp);have hl:=L.length;exact wpAny_pyNext_enum_end (I.ok.hd y) he V p.isList (by simp;lia) λh' eb=>⟨U,I.jl (t':=s.toks) (λb o W q=>eb b o W q) f0 f1 f3 f4 f5⟩
 self:=λA i s Q E st h=>let⟨⟨_,he⟩,_⟩:=st;Eo he h
def Zf(K:aw)(X:TA):TI:=λY H R=>X Y H λvs Z=>∃a xs,vs=[.ref a]/\aL K Z a xs/\R (Dv K a) Z
def Pc{X:Cx}{S:TA}(F:Gl X "enumerate")(G:X.mg "enumerate"=aj)(D:PA X [e] S)(hs:cu [e] X.env=[(aB,cC e X.env)]:=by rfl):PI X (.Tuple elts kk fC) (.Call (.Name "enumerate" p) [e] [] pos) (Zf X.K S):=by
 intro ag s T H R I h;refine Call_ (tE I F G boot_enumerate (xb (k' (D pos ag s T H _ I h) λus Z A Q W O N=>?_) hs U));obtain⟨a,xs,ex,J,q⟩:=N;subst ex;cases O with
 |cons r P=>
  cases P;cases r;obtain⟨L,y,M,hz⟩:=W.list J;refine call_enumerate_list M.isList λh' he V hsz hk=>Eo he ?_;have B:aG X ag T Q {Z with heap:=h'}:=W.eE (t':=Z.toks) hk;refine⟨Z.heap.objs.size+1,[Z.heap.objs.size+1,Z.heap.objs.size],_,_,Q,U,B,agX a (Z.heap.objs.size+1) Z.heap.objs.size,⟨⟨.none,he⟩,V,Nat.succ_ne_self _⟩,λb E=>?_,q⟩;have C:b=Z.heap.objs.size+1\/b=Z.heap.objs.size:=‹E›
  have Y:Z.heap.objs.size<=b:=by
   rcases C with z|z
   .rw [z];exact rO _ _
   .rw [z];exact bp _
  exact W.nU Y (W.aW.fresh Y)
def T6:ux "zip"=aa (.type "zip"):=by decide+kernel
def n8(s:c5)(j:Nat):c5:=match s with
 |.ClassDef _ _ _ body _ _ _ _ _ _ _=>body.getD j (.Pass ⟨0,0,0,0⟩)
 |_=>.Pass ⟨0,0,0,0⟩
def mP(s:c5):uo:=match s with
 |.FunctionDef _ a _ _ _ _ _ _ _ _=>a
 |_=>{posonlyargs:=[],args:=[],vararg:=aj,kwonlyargs:=[],kw_defaults:=[],kwarg:=aj,defaults:=[]}
def jw(s:c5):List c5:=match s with
 |.FunctionDef _ _ b _ _ _ _ _ _ _=>b
 |_=>[]
def cF(s:c5):dM:=match s with
 |.FunctionDef _ _ _ _ _ _ sc _ _ _=>sc
 |_=>{kind:=.function,names:=[],isGenerator:=aB,isCoroutine:=aB}
abbrev lh:nh:=λ_ _ _ _ _ _=>False
abbrev E0:XK:=λ_ _ _=>False
def B8{X:Cx}:uj lh X E0:=λ_ _ _ _ _ _ _ h=>h.elim
structure rB (K:aw) (x qual:Str) (st:c5) (f:ae) (fd:rY):Prop where
 ex:∃(oc:af) (od:Option ae) (kV doc pm:af) (an:Option ae) (eA ct:af) (Ht:Array (Option af)),
  fd=lB x qual (mP st) (jw st) (cF st) .none kV doc pm an eA ct/\K.lookup f=aa ⟨oc,od,.func fd,Ht⟩/\uv K eA qual=ah
 kp:oT K (.ref f)=ah
section
variable{P:aR}{w:aQ}{K:aw}{mg:Str->Option af}{base:aK}
def rB.ok{x:Str}{st:c5}{T:rY}{k:Nat}{sp:Sp}(F:rB K x qual st f T)(S:kq N ps (cF st))(bG:∀vs H Q E,sp vs H Q E->vs.length=ps.length)(Y:∀(Z:af) (A:b8) (outer:List Env) (s:aD) (H:Hp) (vs:List V) (Q:VK) (E:XK),eN k (A.deeper (mx qual (cF st) s.heap.objs.size f Z))->sp vs H Q E->∃t,i7 (ph lh P w K mg base N qual (cF st) f Z A outer s H E).qU (jw st) t/\t {nx:=λ_ L=>Q .bW L,rt:=Q} (start N vs) H):jK P w K mg base lh (k+1) f T ps sp:=by obtain⟨J,od,kV,doc,pm,I,Z,ct,R,rfl,O,W⟩:=F.ex;refine L_ O W S bG λA outer s H vs Q E M X=>?_;obtain⟨t,h,q⟩:=Y Z A outer s H vs Q E M X;exact⟨t,h.qU,q⟩
def rB.pf{x:Str}{st:c5}{X:rY}(F:rB K x qual st f X)(h:∀(kV doc pm:af) (Y:Option ae) (Z ct:af) (us:List af),us.length=ps.length->mz (lB x qual (mP st) (jw st) (cF st) .none kV doc pm Y Z ct) ⟨us,[]⟩=pure (ps.zip us)):iv K X ps []:=by obtain⟨S,od,kV,doc,pm,Y,Z,ct,V,rfl,R,T⟩:=F.ex;exact .all (h kV doc pm Y Z ct)
def xW{x:Str}{st:c5}{V:af}{od X:Option ae}{Y:Array (Option af)}{kV doc pm Z ct:af}(l:K.lookup f=aa ⟨V,od,.func (lB x qual (mP st) (jw st) (cF st) .none kV doc pm X Z ct),Y⟩)(c:uv K Z qual=ah)(k:oT K (.ref f)=ah):rB K x qual st f (lB x qual (mP st) (jw st) (cF st) .none kV doc pm X Z ct):=⟨⟨V,od,kV,doc,pm,X,Z,ct,Y,U,l,c⟩,k⟩
end
def il{k:Nat}(Z:eN k A):A.units+1<du:=mv (Nat.add_le_add_left (by decide:1<=64) _) Z.units
section
variable{X:Cx}
def pv(i:Nat){x:Str}(W:X.N[i]?=aa x:=by rfl)(Y:uM X.env.scope x:=by first|exact Or.inl U|exact w9 (Or.inl U)|exact w9 (w9 U))(hd:(x==("__debug__":Str))=aB:=by decide)(Z:(x==("__classdict__":Str))=aB:=by decide):PE X (.Name x pos) (ng i):=O' W Y hd Z
def Ud:i3 X (.builtin "len") (λxs H Q=>∃a kvs,xs=[V.ref a]/\H a=aa (.dK kvs)/\Q (.int kvs.length) H):=by intro ag s T H xs us Q I r h;obtain⟨a,kvs,rfl,Y,q⟩:=h;obtain⟨u,rfl,Z⟩:=wm r;cases Z;exact Vn I (.inl Y) λt s' W=>⟨.int kvs.length,H,W,⟨t,U⟩,q⟩
end
def aF(H Z:Hp):Prop:=∀b o,H b=aa o->Z b=aa o
def aF.refl(H:Hp):aF H H:=λ_ _ h=>h
def aF.trans{H Y Z:Hp}(a:aF H Y)(b:aF Y Z):aF H Z:=λc o h=>b c o (a c o h)
def aF.free{H Z:Hp}(e:aF H Z){l:ae}(h:Z l=aj):H l=aj:=by
 cases q:H l with
 |none=>rfl
 |some o=>
  rw[e l o q]at h;cases h
def aF.seq{H Z:Hp}{xs:List V}(e:aF H Z)(h:aL K H a xs):aL K Z a xs:=by
 rcases h with(h|⟨o,h⟩)|h
 .exact .inl (.inl (e _ _ h))
 .exact .inl (.inr ⟨o,e _ _ h⟩)
 .exact .inr h
def TR{xs:List V}{z:Int}{v:V}(e:z=(j:Int))(h:xs[j]?=aa v):j1 xs z=aa v:=by rw[e];exact bt h
def aF.made{H Z:Hp}{x:ae}(nx:H x=aj)(nd:H dx=aj)(k:∀b o,(aM (aM H dx (.own x)) x (.ins C dx [])) b=aa o->b≠x->Z b=aa o):aF H Z:=λb o e=>
 k b o (by rw[a_ (f7 e nx),a_ (f7 e nd)];exact e) (f7 e nx)
end L2
section
namespace L2
open PySem PySem.Spec PyProof.Rows
open PySem.W (WData Codec OpenSpec Well WellAll ReadsW ReadsAllW)
variable{us vs bw:List af}{u v:af}{h:aK}{a b f:ae}{P:aR}{w:aQ}{o:Obj}{e c:Expr}{A:b8}{s:aD}{p:Pos}{K:aw}
mutual
inductive Dw (K:aw) (H:Hp):V->fE->Prop
 |bW:Dw K H .bW .none
 |bl (b:Bool):Dw K H (.bl b) (.bool b)
 |int (i:Int):Dw K H (.int i) (.int i)
 |str (x:Str):Dw K H (.str x) (.str x)
 |jb (b:Array UInt8):Dw K H (.jb b) (.bytes b.toList)
 |aC {a:ae} {xs:List V} {ds:List fE}:aL K H a xs->mi K H xs ds->Dw K H (.ref a) (.list ds)
 |bh {a:ae} {xs:List V} {ds:List fE}:aY K H a xs->mi K H xs ds->Dw K H (.ref a) (.tuple ds)
inductive mi (K:aw) (H:Hp):List V->List fE->Prop
 |nil:mi K H [] []
 |cons {v:V} {vs:List V} {d:fE} {ds:List fE}:Dw K H v d->mi K H vs ds->mi K H (v::vs) (d::ds)
end
theorem LX{K:aw}{H:Hp}:∀ns:List Int,mi K H (ns.map V.int) (ns.map WData.int)
 |[]=>.nil
 |n::r=>.cons (.int n) (LX r)
theorem Nv{K:aw}{H:Hp}:∀(ns:List Int) (xs:List V),mi K H xs (ns.map WData.int)->xs=ns.map V.int
 |[],xs,h=>by cases h;rfl
 |n::r,xs,h=>by
  cases h with
  |cons Y Z=>
   cases Y;rw[Nv r _ Z]<;>rfl
section
variable{P:aR}{w:aQ}{K:aw}{H:Hp}{h:aK}{R:S0}{cl:Str->Option ae}
def af3{xs:List V}(aW:dk P w H h)(X:K.In h)(q:aL K H a xs):∃(bw:List af) (o:Obj) (n:Nat),bD xs bw/\h.get? a=aa o/\o.cls=.type "list"/\o.data=.seq bw.toArray n:=by
 rcases q with q|⟨o,bw,n,e,Y,_,hd,_,Z⟩
 .obtain ⟨_,bw,n,Z,e⟩:=(show eC P w H h a (.aC xs)from q.ok aW);exact⟨bw,_,n,Z,e,U,U⟩
 .exact ⟨bw.toList,o,n,Z,X _ _ e,Y,by simp[hd]⟩
def af4{xs:List V}(aW:dk P w H h)(X:K.In h)(q:aY K H a xs):∃(bw:List af) (o:Obj) (n:Nat),bD xs bw/\h.get? a=aa o/\o.cls=.type "tuple"/\o.data=.seq bw.toArray n:=by
 rcases q with q|⟨o,bw,n,e,Y,hd,_,Z⟩
 .obtain ⟨_,bw,Z,o,e,Y,n,hd,_⟩:=(show eC P w H h a (.bh xs)from q.ok aW);exact⟨bw,o,n,Z,e,Y,hd⟩
 .exact ⟨bw.toList,o,n,Z,X _ _ e,Y,by simp[hd]⟩
mutual
theorem Dw.vU (aW:dk P w H h) (KX:K.In h):∀(d:fE) (v:V) (u:af),Dw K H v d->bL v u->∃as,ReadsW R cl h u d as
 |.none,_,_,x,r=>by cases x;cases r;exact⟨_,ReadsW.none⟩
 |.bool b,_,_,x,r=>by cases x;cases r;exact⟨_,ReadsW.bool b⟩
 |.int i,_,_,x,r=>by cases x;obtain⟨t,rfl⟩:=r;exact⟨_,ReadsW.int i t⟩
 |.str s,_,_,x,r=>by cases x;obtain⟨t,rfl⟩:=r;exact⟨_,ReadsW.str s t⟩
 |.bytes b,_,_,x,r=>by cases x;obtain⟨t,rfl⟩:=r;exact⟨_,ReadsW.bytes _ t⟩
 |.list ds,_,_,x,r=>by
  cases x with
  |aC hs ha=>
   cases r;obtain⟨bw,o,n,rv,ho,hc,hd⟩:=af3 aW KX hs;obtain⟨as,hr⟩:=Dw.tR aW KX ds _ bw ha rv;exact⟨_,ReadsW.list ho hc hd hr⟩
 |.tuple ds,_,_,x,r=>by
  cases x with
  |bh hs ha=>
   cases r;obtain⟨bw,o,n,rv,ho,hc,hd⟩:=af4 aW KX hs;obtain⟨as,hr⟩:=Dw.tR aW KX ds _ bw ha rv;exact⟨_,ReadsW.tuple ho hc hd hr⟩
 |.float _,_,_,x,_=>by cases x
 |.dict _,_,_,x,_=>by cases x
 |.bytearray _,_,_,x,_=>by cases x
 |.set _,_,_,x,_=>by cases x
 |.frozenset _,_,_,x,_=>by cases x
 |.obj _ _,_,_,x,_=>by cases x
theorem Dw.tR (aW:dk P w H h) (KX:K.In h):∀(ds:List fE) (vs:List V) (us:List af),mi K H vs ds->bD vs us->∃as,ReadsAllW R cl h us ds as
 |[],_,_,x,r=>by cases x;cases r;exact⟨_,ReadsAllW.nil⟩
 |d::ds,_,_,x,r=>by
  cases x with
  |cons h1 h2=>
   cases r with
   |cons r1 r2=>
    obtain⟨as,q1⟩:=Dw.vU aW KX d _ _ h1 r1;obtain⟨bs,q2⟩:=Dw.tR aW KX ds _ _ h2 r2;exact⟨_,ReadsAllW.cons q1 q2⟩
end
end
mutual
def ka:fE->Bool
 |.none=>ah
 |.bool _=>ah
 |.int _=>ah
 |.str _=>ah
 |.bytes _=>ah
 |.list xs=>lY xs
 |.tuple xs=>lY xs
 |_=>aB
def lY:List fE->Bool
 |[]=>ah
 |x::r=>ka x&&lY r
end
theorem Pk{Z:Type}{f:Z->fE}(h:∀a,ka (f a)=ah):∀l:List Z,lY (l.map f)=ah
 |[]=>rfl
 |x::r=>by show(ka (f x)&&lY (r.map f))=ah;rw[h x,Pk h r]<;>rfl
theorem q_:∀(c:r8) (a:c.denote),ka (c.enc a)=ah
 |.unit,_=>rfl
 |.bool,_=>rfl
 |.int _ _,_=>rfl
 |.nat _ _,_=>rfl
 |.u8,_=>rfl
 |.bytes _ _,_=>rfl
 |.text _ _ _ _,_=>rfl
 |.list _ _ c,a=>Pk (λx=>q_ c x) a
 |.pair c d,a=>by show(ka (c.enc a.1)&&(ka (d.enc a.2)&&ah))=ah;rw[q_ c a.1,q_ d a.2]<;>rfl
 |.triple c d e,a=>by show(ka (c.enc a.1)&&(ka (d.enc a.2.1)&&(ka (e.enc a.2.2)&&ah)))=ah;rw[q_ c a.1,q_ d a.2.1,q_ e a.2.2]<;>rfl
 |.option c,aj=>rfl
 |.option c,aa x=>q_ c x
theorem Pl:∀(cs:List r8) (a:Ky cs),lY (z3 cs a)=ah
 |[],_=>rfl
 |c::cs,a=>by show(ka (c.enc a.1)&&lY (z3 cs a.2))=ah;rw[q_ c a.1,Pl cs a.2]<;>rfl
theorem Js:∀{xs:List fE} {d:fE},d∈xs->d.weight<=D' xs
 |[],d,h=>bq h (by simp)
 |x::r,d,h=>by
  show d.weight<=x.weight+1+D' r;rcases bJ.mp h with e|m
  .rw [e];omega
  .have z:=Js m;omega
def i0:af->V
 |.none=>.bW
 |.bool b=>.bl b
 |.int i _=>.int i
 |.str x _=>.str x
 |.bytes b _=>.jb b
 |.ref a=>.ref a
 |_=>.bW
def ky(A:List ae):af->Prop
 |.none=>True
 |.bool _=>True
 |.int _ _=>True
 |.str _ _=>True
 |.bytes _ _=>True
 |.ref a=>a∈A
 |_=>False
def ky.mono{A B:List ae}(h:∀a∈A,a∈B):∀{u:af},ky A u->ky B u:=λ{u} x=>by
 cases u with
 |ref a=>exact h a x
 |none=>trivial
 |bool b=>trivial
 |int i t=>trivial
 |str s t=>trivial
 |bytes b t=>trivial
 |_=>exact i4 x
def adz{A:List ae}(x:ky A u):bL (i0 u) u:=by
 cases u with
 |ref a=>rfl
 |none=>rfl
 |bool b=>rfl
 |int i t=>exact⟨t,U⟩
 |str s t=>exact⟨t,U⟩
 |bytes b t=>exact⟨t,U⟩
 |_=>exact i4 x
theorem wo{A:List ae}:∀{vs:List af},(∀u∈vs,ky A u)->bD (vs.map i0) vs
 |[],_=>.nil
 |u::r,h=>.cons (adz (h u (cy ..))) (wo λx Z=>h x (cj _ Z))
def lb(h:aK)(A:List ae)(a:ae):Prop:=∃vs:List af,vs.length<=aS/\(∀u∈vs,ky A u)/\
 (h.get? a=aa {cls:=.type "list",data:=.seq vs.toArray}\/h.get? a=aa {cls:=.type "tuple",data:=.seq vs.toArray})
theorem lb.mono{h:aK}{A B:List ae}{a:ae}(k:∀a∈A,a∈B)(x:lb h A a):lb h B a:=by obtain⟨Z,V,W,X⟩:=x;exact⟨Z,V,λu Y=>(W u Y).mono k,X⟩
theorem Dh{P:qi}{h:aK}:∀{vs:List af} {Z:List fE},nD P h vs Z->vs.length=Z.length
 |_,_,.nil=>rfl
 |_,_,.cons _ b=>by show _+1=_+1;rw[Dh b]
def Rq{P:qi}{Y:List fE}(x:Well P h v (.list Y)):∃(a:ae) (vs:List af),v=.ref a/\h.get? a=aa {cls:=.type "list",data:=.seq vs.toArray}/\nD P h vs Y:=by
 cases x with
 |list X Z=>exact⟨_,_,U,X,Z⟩
def Rr{P:qi}{Y:List fE}(x:Well P h v (.tuple Y)):∃(a:ae) (vs:List af),v=.ref a/\h.get? a=aa {cls:=.type "tuple",data:=.seq vs.toArray}/\nD P h vs Y:=by
 cases x with
 |tuple X Z=>exact⟨_,_,U,X,Z⟩
def Rp{P:qi}{d:fE}{Z:List fE}(x:nD P h us (d::Z)):∃(v:af) (vs:List af),us=v::vs/\Well P h v d/\nD P h vs Z:=by
 cases x with
 |cons a b=>exact⟨_,_,U,a,b⟩
def NN{n:Nat}(h:n<=1048576):n<=aS:=c7 h (by decide)
section
variable{P:qi}{h:aK}
mutual
theorem TB:∀(d:fE) (v:af),Well P h v d->ka d=ah->d.weight<=1048576->∃A:List ae,ky A v/\∀a∈A,lb h A a
 |.none,_,x,_,_=>by cases x;exact⟨[],trivial,λa m=>bq m (by simp)⟩
 |.bool b,_,x,_,_=>by cases x;exact⟨[],trivial,λa m=>bq m (by simp)⟩
 |.int i,_,x,_,_=>by cases x;exact⟨[],trivial,λa m=>bq m (by simp)⟩
 |.str s,_,x,_,_=>by cases x;exact⟨[],trivial,λa m=>bq m (by simp)⟩
 |.bytes b,_,x,_,_=>by cases x;exact⟨[],trivial,λa m=>bq m (by simp)⟩
 |.list ds,_,x,p,z=>by
  obtain⟨a,vs,rfl,ho,jx⟩:=Rq x;have z2:D' ds<=1048576:=z;obtain⟨A,h1,h2⟩:=Aw ds _ jx p λd hd=>c7 (Js hd) z2;have k:∀b∈A,b∈a::A:=λb hb=>cj _ hb;refine⟨a::A,cy ..,λb hb=>?_⟩;rcases bJ.mp hb with e|m
  .rw [e];exact⟨vs,NN (by rw[Dh jx];exact c7 (S4 ds) z2),λu hu=>(h1 u hu).mono k,.inl ho⟩
  .exact (h2 b m).mono k
 |.tuple ds,_,x,p,z=>by
  obtain⟨a,vs,rfl,ho,jx⟩:=Rr x;have z2:D' ds<=1048576:=z;obtain⟨A,h1,h2⟩:=Aw ds _ jx p λd hd=>c7 (Js hd) z2;have k:∀b∈A,b∈a::A:=λb hb=>cj _ hb;refine⟨a::A,cy ..,λb hb=>?_⟩;rcases bJ.mp hb with e|m
  .rw [e];exact⟨vs,NN (by rw[Dh jx];exact c7 (S4 ds) z2),λu hu=>(h1 u hu).mono k,.inr ho⟩
  .exact (h2 b m).mono k
 |.float _,_,_,p,_=>kl (show aB=ah from p)
 |.dict _,_,_,p,_=>kl (show aB=ah from p)
 |.bytearray _,_,_,p,_=>kl (show aB=ah from p)
 |.set _,_,_,p,_=>kl (show aB=ah from p)
 |.frozenset _,_,_,p,_=>kl (show aB=ah from p)
 |.obj _ _,_,_,p,_=>kl (show aB=ah from p)
theorem Aw:∀(ds:List fE) (vs:List af),nD P h vs ds->lY ds=ah->(∀d∈ds,d.weight<=1048576)->∃A:List ae,(∀u∈vs,ky A u)/\∀a∈A,lb h A a
 |[],_,x,_,_=>by cases x;exact⟨[],λu m=>bq m (by simp),λa m=>bq m (by simp)⟩
 |d::ds,_,x,p,z=>by
  obtain⟨v,vs,rfl,x1,x2⟩:=Rp x;have q:ka d=ah/\lY ds=ah:=JA.mp p;obtain⟨A,a1,a2⟩:=TB d v x1 q.1 (z d (cy ..));obtain⟨B,b1,b2⟩:=Aw ds vs x2 q.2 λe he=>z e (cj _ he);have kA:∀b∈A,b∈A++B:=λb hb=>cZ.mpr (.inl hb);have kB:∀b∈B,b∈A++B:=λb hb=>cZ.mpr (.inr hb);refine⟨A++B,λu hu=>?_,λb hb=>?_⟩
  .rcases bJ.mp hu with e|m
   .rw [e];exact a1.mono kA
   .exact (b1 u m).mono kB
  .rcases cZ.mp hb with m|m
   .exact (a2 b m).mono kA
   .exact (b2 b m).mono kB
end
end
def Bo(o:Obj):Option HO:=match o.data with
 |.seq vs _=>if(o.cls==kD "list")=ah then aa (.cJ o (.aC (vs.toList.map i0)))else aa (.cJ o (.bh (vs.toList.map i0)))
 |_=>aj
def gP(K:aw)(h:aK)(A:List ae):Hp:=λb=>if b∈A then(if(K.lookup b).isNone=ah then(h.get? b).bind Bo else aj)else aj
def w4(H:Hp):Prop:=∀b,H b=aj\/∃o u,H b=aa (.cJ o u)
def MZ(Z:List af):Bo {cls:=.type "list",data:=.seq Z.toArray}=aa (.cJ {cls:=.type "list",data:=.seq Z.toArray} (.aC (Z.map i0))):=by show(if(kD "list"==kD "list")=ah then aa (HO.cJ {cls:=.type "list",data:=.seq Z.toArray} (.aC (Z.toArray.toList.map i0)))else aa (HO.cJ {cls:=.type "list",data:=.seq Z.toArray} (.bh (Z.toArray.toList.map i0))))=_;rw[aA (beq_self_eq_true _)]
def M0(Z:List af):Bo {cls:=.type "tuple",data:=.seq Z.toArray}=aa (.cJ {cls:=.type "tuple",data:=.seq Z.toArray} (.bh (Z.map i0))):=by show(if(kD "tuple"==kD "list")=ah then aa (HO.cJ {cls:=.type "tuple",data:=.seq Z.toArray} (.aC (Z.toArray.toList.map i0)))else aa (HO.cJ {cls:=.type "tuple",data:=.seq Z.toArray} (.bh (Z.toArray.toList.map i0))))=_;rw[ay (by decide)]
section
variable{P:aR}{w:aQ}{K:aw}{h:aK}{A:List ae}
def Ax(Z:b∈A)(hk:K.lookup b=aj)(e:h.get? b=aa o):gP K h A b=Bo o:=by unfold gP;rw[aA Z,hk,aA (show(aj:Option Obj).isNone=ah from U),e]<;>rfl
def aa'{u:HO}(q:gP K h A b=aa u):b∈A/\K.lookup b=aj:=by
 unfold gP at q;by_cases Z:b∈A
 .rw [aA Z]at q;cases hk:K.lookup b with
  |none=>exact⟨Z,U⟩
  |some o=>
   rw[hk,ay (by simp)]at q;cases q
 .rw [ay Z]at q;cases q
def xH(V:∀a∈A,lb h A a){u:HO}(q:gP K h A b=aa u):K.lookup b=aj/\∃vs:List af,vs.length<=aS/\(∀u∈vs,ky A u)/\((h.get? b=aa {cls:=.type "list",data:=.seq vs.toArray}/\u=.cJ {cls:=.type "list",data:=.seq vs.toArray} (.aC (vs.map i0)))\/(h.get? b=aa {cls:=.type "tuple",data:=.seq vs.toArray}/\u=.cJ {cls:=.type "tuple",data:=.seq vs.toArray} (.bh (vs.map i0)))):=by
 obtain⟨Z,hk⟩:=aa' q;obtain⟨vs,W,X,Y⟩:=V b Z;refine⟨hk,vs,W,X,?_⟩;rcases Y with e|e
 .rw [Ax Z hk e,MZ]at q;exact .inl ⟨e,(dX q).symm⟩
 .rw [Ax Z hk e,M0]at q;exact .inr ⟨e,(dX q).symm⟩
def TF(Z:∀a∈A,lb h A a):w4 (gP K h A):=λb=>by
 cases q:gP K h A b with
 |none=>exact .inl U
 |some u=>
  obtain⟨_,Y,_,_,⟨_,e⟩|⟨_,e⟩⟩:=xH Z q
  .exact .inr ⟨_,_,by rw[e]⟩
  .exact .inr ⟨_,_,by rw[e]⟩
def TC(W:∀a∈A,lb h A a):dk P w (gP K h A) h:=λb u q=>by
 obtain⟨_,Z,X,Y,⟨e,rfl⟩|⟨e,rfl⟩⟩:=xH W q
 .exact ⟨e,by rw[aP];exact X,Z,_,wo Y,e⟩
 .exact ⟨e,by rw[aP];exact X,Z,wo Y,_,e,U,_,U,U⟩
def CG{c Z:af}(e:(aa {cls:=c,data:=.seq vs.toArray}:Option Obj)=aa {cls:=Z,data:=.seq us.toArray}):c=Z/\vs=us:=by have Y:=dX e;have T:c=Z:=b_ Obj.cls Y;have V:Data.seq vs.toArray=Data.seq us.toArray:=b_ Obj.data Y;injection V with W;refine⟨T,?_⟩;have X:=b_ Jz W;simpa using X
def TH(R:K.In h)(S:∀a∈A,lb h A a)(Z:a∈A)(e:h.get? a=aa {cls:=.type "list",data:=.seq vs.toArray}):(∀u∈vs,ky A u)/\aL K (gP K h A) a (vs.map i0):=by
 obtain⟨us,T,Y,V⟩:=S a Z;have W:us=vs:=by
  rcases V with q|q
  .rw [e]at q;exact(CG q).2.symm
  .rw [e]at q;exact bq (SY (CG q).1) (by decide)
 subst W;refine⟨Y,?_⟩;cases hk:K.lookup a with
 |none=>exact .inl (.inr ⟨_,by rw[Ax Z hk e,MZ]⟩)
 |some o=>
  have X:=R a o hk;rw[e]at X;obtain rfl:=dX X;exact .inr ⟨_,us.toArray,_,hk,U,U,U,by rw[eh];exact T,‹wo Y›⟩
def TJ(R:K.In h)(S:∀a∈A,lb h A a)(Z:a∈A)(e:h.get? a=aa {cls:=.type "tuple",data:=.seq vs.toArray}):(∀u∈vs,ky A u)/\aY K (gP K h A) a (vs.map i0):=by
 obtain⟨us,T,Y,V⟩:=S a Z;have W:us=vs:=by
  rcases V with q|q
  .rw [e]at q;exact bq (SY (CG q).1) (by decide)
  .rw [e]at q;exact(CG q).2.symm
 subst W;refine⟨Y,?_⟩;cases hk:K.lookup a with
 |none=>exact .inl (.inr ⟨_,by rw[Ax Z hk e,M0]⟩)
 |some o=>
  have X:=R a o hk;rw[e]at X;obtain rfl:=dX X;exact .inr ⟨_,us.toArray,_,hk,U,U,by rw[eh];exact T,‹wo Y›⟩
mutual
theorem Wa {Pm:qi} (KX:K.In h) (ar:∀a∈A,lb h A a):∀(d:fE) (v:af),Well Pm h v d->ka d=ah->ky A v->Dw K (gP K h A) (i0 v) d
 |.none,_,x,_,_=>by cases x;exact .bW
 |.bool b,_,x,_,_=>by cases x;exact .bl b
 |.int i,_,x,_,_=>by cases x;exact .int i
 |.str s,_,x,_,_=>by cases x;exact .str s
 |.bytes b,_,x,_,_=>by cases x;have z:=Dw.jb (K:=K) (H:=gP K h A) b.toArray;exact z
 |.list ds,_,x,p,hu=>by obtain⟨a,vs,rfl,ho,jx⟩:=Rq x;obtain⟨h2,hs⟩:=TH KX ar hu ho;exact .aC hs (AS KX ar ds _ jx p h2)
 |.tuple ds,_,x,p,hu=>by obtain⟨a,vs,rfl,ho,jx⟩:=Rr x;obtain⟨h2,hs⟩:=TJ KX ar hu ho;exact .bh hs (AS KX ar ds _ jx p h2)
 |.float _,_,_,p,_=>kl (show aB=ah from p)
 |.dict _,_,_,p,_=>kl (show aB=ah from p)
 |.bytearray _,_,_,p,_=>kl (show aB=ah from p)
 |.set _,_,_,p,_=>kl (show aB=ah from p)
 |.frozenset _,_,_,p,_=>kl (show aB=ah from p)
 |.obj _ _,_,_,p,_=>kl (show aB=ah from p)
theorem AS {Pm:qi} (KX:K.In h) (ar:∀a∈A,lb h A a):∀(ds:List fE) (vs:List af),nD Pm h vs ds->lY ds=ah->(∀u∈vs,ky A u)->mi K (gP K h A) (vs.map i0) ds
 |[],_,x,_,_=>by cases x;exact .nil
 |d::ds,_,x,p,hu=>by obtain⟨v,vs,rfl,x1,x2⟩:=Rp x;have q:ka d=ah/\lY ds=ah:=JA.mp p;exact .cons (Wa KX ar d v x1 q.1 (hu _ (cy ..))) (AS KX ar ds vs x2 q.2 λu m=>hu u (cj _ m))
end
end
def ZV{Z:List fE}(h:WData.layableAll Z=ah):∀d∈Z,d.weight<=1048576:=λd hd=>
 (PySem.W.layableW_iff.mp (rE.mp h d hd)).2.2
theorem LZ:∀(cs:List r8) (a:Ky cs),(z3 cs a).length=cs.length
 |[],_=>rfl
 |c::cs,a=>by show(z3 cs a.2).length+1=cs.length+1;rw[LZ cs a.2]
end L2
end
namespace L2
open PySem PySem.Spec PyProof.Rows
variable{us vs:List af}{u v:af}{h:aK}{a b it C f:ae}{items:Array af}{P prog:aR}{w:aQ}{o:Obj}{t' j kk:Nat}{ch:List ae}{e c:Expr}{N:List Str}{A:b8}{E Q:af->aD->Prop}{s:aD}{ag:List (ae×Obj)}{pos p fC:Pos}{K:aw}{mg:Str->Option af}{elts:List Expr}
section
variable{prog:aR}{w:aQ}{A:b8}{E:af->aD->Prop}{s:aD}
def Um{t:ae}{S:List af}(L:gi s.heap t ([]:List af).toArray)(K:gi s.heap b S.toArray)(J:Q (.ref b) s):aN (model prog w) A (nE .Add (.ref t) (.ref b)) Q E s:=by
 obtain⟨⟨cls,I,data,N⟩,R,P,n,hd⟩:=id L;obtain⟨⟨O,V,T,W⟩,Z,X,M,Y⟩:=id K;simp only at P hd X Y;subst P hd X Y;exact KO ⟨_,R,U⟩ ⟨_,Z,U⟩ KQ KS Kn Kl (Kj _ _)
  (tuple_addW0 t b ([]:List af).toArray S.toArray n M I V N W U) ⟨R,Z,J⟩
end
section
variable{X:Cx}
inductive adh(K:aw)(x:V)(y:V)(H:Hp)(Q:VK):Prop|mk(a b xs ys:_)(_:x=.ref a)(_:y=.ref b)(_:aY K H a xs)(_:aY K H b ys)(_:ys≠[])(_:xs.length+ys.length<=aS)(_:(xs=[]->Q (.ref b) H))(_:(xs≠[]->∀p,H p=aj->Q (.ref p) (aM H p (.bh (xs++ys)))))
def ab8:eW X (nE .Add) (adh X.K):=by
 intro ag s R H x y v u Q I W Y h;obtain⟨a,b,xs,ys,rfl,rfl,S,T,G,hz,N,O⟩:=h;by_cases Z:xs=[]
 .cases W;cases Y;obtain⟨J,P,L,_⟩:=I.tuple S;obtain⟨V,F,M,_⟩:=I.tuple T;subst Z;cases P;exact Um L M ⟨.ref b,H,I,U,N U⟩
 .exact ab7 ag s R H _ _ v u Q I W Y ⟨a,b,xs,ys,U,U,S,T,Z,hz,λe=>bq e G,λ_=>O Z⟩
end
section
variable{prog:aR}{w:aQ}{A:b8}{E:af->aD->Prop}{s:aD}
def G2{t:ae}{i:Nat}{items}{x:af}(Z:s.heap.IsTupleIter it t i)(T:s.heap.IsTuple t items)(V:items[i]?=aa x)(R:∀h',h'.IsTupleIter it t (i+1)->qg it s.heap h'->Q x {s with heap:=h'}):aN (model prog w) A (ur (.ref it)) Q E s:=by
 obtain⟨o,Y,S,hd⟩:=id Z;obtain⟨P,X,_,nl,W⟩:=T;unfold ur;refine az (oV (name:=oR "__next__") Z.typeIs D0 (iB D0 Z.typeIs SA ?_ (Sw _)));show aN _ _ (qm (.ref it) 0>>=_) _ _ s;refine az (jt Y hd (x:=.ref t) U ?_);show aN _ _ (if(cR t==iA)=ah then _ else _) _ _ s;rw[ay (show¬((cR t==iA)=ah)from cg)];show aN _ _ (qm (.ref it) 1>>=_) _ _ s;refine az (jt Y hd (x:=.int i 0) U ?_);show aN _ _ (seqItems? (.ref t)>>=_) _ _ s;refine az (nH X W ?_);simp only[rD,V];refine az (Er Y hd (by simp) (aV ⟨x,U,aV (R _ ?_ (xl ..))⟩));exact⟨_,xm _ Y (SR (D5 hd _)),(Obj.cls_mapFields ..).trans S,by rw[D5 hd];simp[eM]⟩
def G1{t:ae}{i:Nat}{items}(V:A.handled=aj)(Z:s.heap.IsTupleIter it t i)(S:s.heap.IsTuple t items)(T:items[i]?=aj)(R:∀h' e,Heap.ExtBut it s.heap h'->(∃o,h'.get? e=aa o/\o.cls=.type "StopIteration")->E (.ref e) {s with heap:=h'}):aN (model prog w) A (ur (.ref it)) Q E s:=by
 obtain⟨o,X,O,hd⟩:=id Z;obtain⟨P,Y,_,nl,W⟩:=S;unfold ur;refine az (oV (name:=oR "__next__") Z.typeIs D0 (iB D0 Z.typeIs SA ?_ (Sw _)));show aN _ _ (qm (.ref it) 0>>=_) _ _ s;refine az (jt X hd (x:=.ref t) U ?_);show aN _ _ (if(cR t==iA)=ah then _ else _) _ _ s;rw[ay (show¬((cR t==iA)=ah)from cg)];show aN _ _ (qm (.ref it) 1>>=_) _ _ s;refine az (jt X hd (x:=.int i 0) U ?_);show aN _ _ (seqItems? (.ref t)>>=_) _ _ s;refine az (nH Y W ?_);simp only[rD,T];refine az (oW (az (Er X hd (by simp) ?_)));show aN _ _ (so (.type "StopIteration") []>>=_) _ _ _;refine az ?_;simp only[so,newTuple];refine az (jU ?_ (by size_fits));refine az (m:=xq _ _) (sE (a:=iA) (by first|rfl|(simp only[xq];rfl)) ?_);refine jU ?_ (by size_fits);simp only[raiseNew];refine az (K1 ?_)
 first|rw[show A.in1.handled=aj from V]|rw[V]
 refine az (aV (wpAny_throw ?_));exact R _ _ (((xl ..).extBut.push _).push _) ⟨_,dm _ U,U⟩
end
def V_(S:A.handled=aj)(Z l:ae)(V:l≠Z)(items:Array af):Draws prog w A Z [Z,l] items.size (λi v=>items[i]?=aa v) (λi h=>h.IsTupleIter Z l i/\h.IsTuple l items)where
 live:=λ_ _ st=>let⟨o,X,_⟩:=st.1;⟨o,X⟩
 frame:=λ_ _ _ st hk=>⟨let⟨o,X,r⟩:=st.1;⟨o,hk Z (by simp) o X,r⟩,let⟨o,X,r⟩:=st.2;⟨o,hk l (by simp) o X,r⟩⟩
 item:=λi s Q E T st R=>by refine G2 st.1 st.2 (x:=items[i]) (by simp[T]) λh' W Y=>?_;exact R _ h' s.toks (by simp[T]) ⟨W,st.2.extBut Y.extBut V⟩ Y
 done:=λs Q E st P=>G1 S st.1 st.2 (by simp) P
open AutoSeq1 (wpAny_loadPart') in
def aas (l:ae) (items:Array af) (n:Nat) (X:Option ae) (V:Array (Option af)):
 Meets (Builtin.«enumerate.__new__» ⟨[.type "enumerate",.ref l],[]⟩) (λ_ R s=>s.heap.get? l=aa {cls:=.type "tuple",dict:=X,data:=.seq items n,slots:=V}/\R (.ok (.ret (.ref (s.heap.push {cls:=.type "tuple_iterator",data:=.fields #[.ref l,.int 0 0]}).objs.size))) {s with heap:=(s.heap.push {cls:=.type "tuple_iterator",data:=.fields #[.ref l,.int 0 0]}).push {cls:=.type "enumerate",data:=.fields #[.none,.bool aB,.ref s.heap.objs.size,eM 0,.none,.none]}}):=
 .of_wp λprog w A R s h=>by
  obtain⟨T,g,d,tk,os⟩:=s;obtain⟨Z,h⟩:=h;have W:=sub_enumerate;have Y:Kp (Kw ⟨T,g,d,tk,os⟩) l items:=⟨_,Z,U,n,U⟩
  wp_walk using sD Z
  refine wpAny_stack_any λst=>aV ?_;split
  .rename_i c _ _ _ _ _;cases(c==kD "enumerate")
   .wp_walk using sD Z,uE Y
    exact⟨_,U,h⟩
   .wp_walk using sD Z,uE Y
    exact⟨_,U,h⟩
  .wp_walk using sD Z,uE Y
   exact⟨_,U,h⟩
section
variable{prog:aR}{w:aQ}{A:b8}{E:af->aD->Prop}{s:aD}
def Uc{l:ae}(V:s.heap.IsTuple l items)(h:∀h',IsEnum h' (s.heap.objs.size+1) s.heap.objs.size 0 .none->h'.IsTupleIter s.heap.objs.size l 0->h'.objs.size=s.heap.objs.size+2->(∀b o,s.heap.get? b=aa o->h'.get? b=aa o)->Q (.ref (s.heap.objs.size+1)) {s with heap:=h'}):aN (model prog w) A (call (.type "enumerate") [.ref l]) Q E s:=by
 obtain⟨⟨c,Y,dt,X⟩,W,Z,n,hd⟩:=V;replace Z:c=.type "tuple":=Z;replace hd:dt=.seq items n:=hd;subst Z hd;refine callType_new F.called_enumerate (by decide) (F.typeCall_enumerate_1 _) (F.newCall_enumerate_1 _) (λobj=>F.args_object_init_2 obj _) F.entry_enumerate_new
  (aas l items n Y X) ⟨W,?_⟩
 have hz:(s.heap.push {cls:=.type "tuple_iterator",data:=.fields #[.ref l,.int 0 0]}).objs.size=s.heap.objs.size+1:=fU ..;show _/\_;rw[hz];have he:IsEnum ((s.heap.push {cls:=.type "tuple_iterator",data:=.fields #[.ref l,.int 0 0]}).push {cls:=.type "enumerate",data:=.fields #[.none,.bool aB,.ref s.heap.objs.size,eM 0,.none,.none]}) (s.heap.objs.size+1) s.heap.objs.size 0 .none:=by
  have:=dm (s.heap.push {cls:=.type "tuple_iterator",data:=.fields #[.ref l,.int 0 0]})
   (o:={cls:=.type "enumerate",data:=.fields #[.none,.bool aB,.ref s.heap.objs.size,eM 0,.none,.none]}) U
  rw[hz]at this;exact this
 refine⟨⟨_,he,U⟩,h _ he ⟨_,cq _ (dm _ U),U,U⟩ (by rw[fU,hz]) λb o x=>cq _ (cq _ x)⟩
end
def zx(K:aw)(a:ae):It:=
 ⟨λi H=>∃(xs:List V) (x:V),aY K H a xs/\xs[i]?=aa x,λi H v Z=>∃T x,v=.ref T/\H T=aj/\Z=aM H T (.bh [.int (i:Nat),x])/\∀xs,aY K H a xs->xs[i]?=aa x,λi H=>∃xs:List V,aY K H a xs/\xs.length<=i⟩
def Oa{u:Obj}(X:h.get? a=aa o)(Z:h.get? b=aa u)(Y:o.cls≠u.cls):a≠b:=by
 rintro rfl
 rw[X]at Z;cases Z;exact Y U
def agY(a e Y:ae):mB P w K (.Tuple elts kk fC) (zx K a) [e,Y] e (λi h=>(∃ji,IsEnum h e Y ((i:Nat):Int) ji)/\h.IsTupleIter Y a i/\e≠Y)where
 mem:=by simp
 obj:=λi h st b S=>by
  obtain⟨⟨ji,he⟩,⟨o,R,B,hd⟩,_⟩:=st;have e':b=e\/b=Y:=‹S›
  rcases e' with z|z
  .rw [z];exact⟨_,he,λv q=>nomatch q⟩
  .rw [z];exact⟨o,R,λv q=>by rw[hd]at q;cases q⟩
 keep:=λi h h' st k=>let⟨⟨ji,he⟩,⟨o,R,r⟩,Z⟩:=st;⟨⟨ji,k e (by simp) _ he⟩,⟨o,k Y (by simp) o R,r⟩,Z⟩
 item:=by
  intro X J hw hK B i ag s σ H E I C st c;subst J hw hK;obtain⟨⟨ji,he⟩,V,Z⟩:=st;obtain⟨xs,x,G,g⟩:=c;obtain⟨W,m,p,hz⟩:=I.tuple G;obtain⟨u,hu,ru⟩:=m.get g;have L:e<s.heap.objs.size:=cI he;have d:Y<s.heap.objs.size:=by obtain⟨_,q,_⟩:=V;exact cI q
  have N:s.heap.IsTuple a W.toArray:=p;have Xs:a≠Y:=by obtain⟨o1,l,c1,_⟩:=N;obtain⟨o2,q2,c2,_⟩:=V;exact Oa l q2 (by rw[c1,c2];intro z;injection z with z;exact bq z (by decide))
  have XR:e≠a:=by obtain⟨o1,l,c1,_⟩:=N;exact Oa he l (by rw[c1];intro z;injection z with z;exact bq z (by decide))
  have D:=V_ (prog:=X.prog) (w:=X.w) (A:=X.A.in1) (I.ok.hd B) Y a Xs W.toArray;refine wpAny_pyNext_enum_itemD (i:=i) D he ⟨V,N⟩ (by have:=(oI.mp hu).1;simpa using this) Z (by simp[Z,XR]) λy h' tk J R f t hsz hk=>?_;have ey:y=u:=by
   have:W.toArray[i]?=aa u:=‹hu›
   exact dX (J.symm.trans this)
  subst ey;refine⟨_,U,S_ (s:={s with heap:=h',toks:=tk+1}) R λM O n=>?_⟩;have Xo:M.get? s.heap.objs.size=aa {cls:=.type "tuple",data:=.seq #[.int i tk,y]}:=(n.2 _ (mw L)).trans t;have new:eC X.prog X.w (aM H s.heap.objs.size (.bh [.int (i:Nat),x])) M s.heap.objs.size (.bh [.int (i:Nat),x]):=
   ⟨by show 2<=aS;decide,[.int i tk,y],.cons ⟨_,U⟩ (.cons ru .nil),⟨_,Xo,U,_,U,U⟩⟩
  have I1:aG X ag σ (aM H s.heap.objs.size (.bh [.int (i:Nat),x])) {s with heap:=M,toks:=tk+1}:=
   I.Jh (ch:=[e,Y]) (λb ob S q=>(n.2 b (λz=>S (by simp[z]))).trans (hk b ob (λz=>S (by simp[z])) (λz=>S (by simp[z])) q)) C (bp _) new
  refine⟨.ref s.heap.objs.size,_,I1,U,⟨_,x,U,I.aW.fresh (bp _),U,λys hy=>by rw[I.C_ hy G];exact g⟩,⟨⟨y,?_⟩,?_,Z⟩,λb S=>?_⟩
  .have e1:((i+1:Nat):Int)=(i:Int)+1:=by lia
   rw[e1];exact O
  .obtain ⟨o,q,r⟩:=f.1;exact⟨o,(n.2 Y (cU Z)).trans q,r⟩
  .have sU:b<s.heap.objs.size:=by
    have e':b=e\/b=Y:=‹S›
    rcases e' with z|z
    .rw [z];exact L
    .rw [z];exact d
   rw[a_ (c8 sU)];exact(C b S).1
 done:=by intro X J hw hK B i ag s σ H E I C st c;subst J hw hK;obtain⟨⟨ji,he⟩,V,Z⟩:=st;obtain⟨xs,G,g⟩:=c;obtain⟨W,m,p,hz⟩:=I.tuple G;obtain⟨f0,f1,f2,f3,f4,f5⟩:=C Y (by simp);have hl:=m.length;have t:s.TypeIs (.ref e) "enumerate":=⟨_,he,U⟩;unfold js;refine az (xy (oV (name:=oR "__next__") t SK (iB SK t F.entry_enumerate_next ?_ (F.args_enumerate_next_1 _))));show aN _ _ (qm (.ref e) 2>>=_) _ _ _;refine az (jt he U (x:=.ref Y) U ?_);refine az (G1 (I.ok.hd B) V (items:=W.toArray) p (by simp;lia) λh' x O j=>?_);obtain⟨o,R,x'⟩:=j;refine az (uC (T:="StopIteration") (b:=ah) ⟨o,R,x'⟩ Ef ?_);exact aV ⟨U,I.jl (t':=s.toks) (λb o S q=>O b o S q) f0 f1 f3 f4 f5⟩
 self:=λA i s Q E st h=>let⟨⟨_,he⟩,_⟩:=st;Eo he h
def Zg(K:aw)(X:TA):TI:=λY H R=>X Y H λvs Z=>∃a xs,vs=[.ref a]/\aY K Z a xs/\R (zx K a) Z
noncomputable def Pd{X:Cx}{Q:TA}(F:Gl X "enumerate")(G:X.mg "enumerate"=aj)(D:PA X [e] Q)(hs:cu [e] X.env=[(aB,cC e X.env)]:=by rfl):PI X (.Tuple elts kk fC) (.Call (.Name "enumerate" p) [e] [] pos) (Zg X.K Q):=by
 intro ag s S H R I h;refine Call_ (tE I F G boot_enumerate (xb (k' (D pos ag s S H _ I h) λus Z A P W N M=>?_) hs U));obtain⟨a,xs,ex,J,q⟩:=M;subst ex;cases N with
 |cons r O=>
  cases O;cases r;obtain⟨V,y,L,hz⟩:=W.tuple J;refine Uc (items:=V.toArray) L λh' he T hsz hk=>Eo he ?_;have B:aG X ag S P {Z with heap:=h'}:=W.eE (t':=Z.toks) hk;refine⟨Z.heap.objs.size+1,[Z.heap.objs.size+1,Z.heap.objs.size],_,_,P,U,B,agY a (Z.heap.objs.size+1) Z.heap.objs.size,⟨⟨.none,he⟩,T,Nat.succ_ne_self _⟩,λb E=>?_,q⟩;have C:b=Z.heap.objs.size+1\/b=Z.heap.objs.size:=‹E›
  have Y:Z.heap.objs.size<=b:=by
   rcases C with z|z
   .rw [z];exact rO _ _
   .rw [z];exact bp _
  exact W.nU Y (W.aW.fresh Y)
def WC{J:It}{n:Nat}{g:TG}{O:TS}{dn:L2.St->Hp->Prop}{M:VK}{Z:L2.St}{H:Hp}(X:Nat->L2.St->Hp->Prop)(I:X 0 Z H)(K:∀i Z H,i<n->X i Z H->J.go i H)(R:∀Z H,X n Z H->J.stop n H)(hs:∀i x Z H Y,i<n->X i Z H->J.fj i H x Y->g x Z Y λV P=>O ⟨X (i+1),M,dn,X (i+1)⟩ V P)(hd:∀Z H,X n Z H->dn Z H):∃W:Nat->Nat->L2.St->Hp->Prop,(∃m,W 0 m Z H)/\∀i m Z H,W i m Z H->(J.stop i H/\dn Z H)\/(J.go i H/\∃Q:L2.St->Hp->Prop,(∀T Y,Q T Y->∃N,N<m/\W (i+1) N T Y)/\∀x Y,J.fj i H x Y->g x Z Y λV P=>O ⟨Q,M,dn,Q⟩ V P):=by
 refine⟨λi m Z H=>m=n-i/\i<=n/\X i Z H,⟨n,by simp,cN _,I⟩,?_⟩
 rintro i m Z H ⟨rfl,G,p⟩
 by_cases S:i<n
 .exact .inr ⟨K i Z H S p,X (i+1),λT Y L=>⟨n-(i+1),by lia,U,S,L⟩,λx Y y=>hs i x Z H Y S p y⟩
 .have e:i=n:=by lia
  subst e;exact .inl ⟨R Z H p,hd Z H p⟩
def ZW{J:It}{n:Nat}{g:TG}{tt:TT}{M:TE}{T:List Nat}{Q:L2.St}{I:Hp}{D:ae}{K:Hp->Prop}(X:Nat->Hp->Prop)(E:X 0 (aM I D (.aC [])))(F:∀i H,i<n->X i H->J.go i H)(P:∀H,X n H->J.stop n H)(hs:∀i x H Y,i<n->X i H->J.fj i H x Y->g x (e7 Q T) Y λZ N=>e7 Z T=e7 Q T/\tt Z N λb R=>if b=ah then M Z R λy S=>∃acc,S D=aa (.aC acc)/\acc.length<aS/\X (i+1) (aM S D (.aC (acc++[y])))else X (i+1) R)(hd:∀H,X n H->K H):∃W:Nat->Nat->Hp->Prop,(∃m,W 0 m (aM I D (.aC [])))/\∀i m H,W i m H->(J.stop i H/\K H)\/(J.go i H/\∃O:Hp->Prop,(∀Y,O Y->∃L,L<m/\W (i+1) L Y)/\∀x Y,J.fj i H x Y->g x (e7 Q T) Y λZ N=>e7 Z T=e7 Q T/\tt Z N λb R=>if b=ah then M Z R λy S=>∃acc,S D=aa (.aC acc)/\acc.length<aS/\O (aM S D (.aC (acc++[y])))else O R):=by
 refine⟨λi m H=>m=n-i/\i<=n/\X i H,⟨n,by simp,cN _,E⟩,?_⟩
 rintro i m H ⟨rfl,C,p⟩
 by_cases V:i<n
 .exact .inr ⟨F i H V p,X (i+1),λY G=>⟨n-(i+1),by lia,U,V,G⟩,λx Y y=>hs i x H Y V p y⟩
 .have e:i=n:=by lia
  subst e;exact .inl ⟨P H p,hd H p⟩
end L2
namespace ab
open Vatrka (has next onStretch outright putBefore shown visible)
open Vatrkc (Call giveAll isMove role settle settleIn spotsFrom)
variable{y:aE}{r:List aE}{p q c a m P j v:Nat}{f:aE->List aE}{M S:Nat->Bool}{b:Bool}{s:bf}{cs:List Nat}
noncomputable def iY(M S:Nat->Bool)(x:aE):Bool:=x.ins.all (λc=>!M c||S c)&&x.del.all (λc=>!(M c&&S c))
def c9(M S:Nat->Bool)(row:List aE):Nat:=row.countP (iY M S)
def k_(S:Nat->Bool)(c:Nat)(b:Bool):Nat->Bool:=λd=>if d=c then b else S d
def uS(M S:Nat->Bool)(a b:List aE):c9 M S (a++b)=c9 M S a+c9 M S b:=by unfold c9;exact List.countP_append
def jd(M S:Nat->Bool)(x:aE)(r:List aE):c9 M S (x::r)=(iY M S x).toNat+c9 M S r:=by unfold c9;rw[List.countP_cons];cases iY M S x<;>simp<;>lia
def mO(M S:Nat->Bool):c9 M S []=0:=rfl
def qB(l:List Nat)(c:Nat):has l c=ah↔c∈l:=by
 unfold has;rw[jM];constructor
 .rintro ⟨u,Y,Z⟩;exact(eq_of_beq Z)▸Y
 .intro h;exact⟨c,h,by simp⟩
theorem Cb(M S:Nat->Bool)(new:List aE):∀(row:List aE) (p:Nat),c9 M S (putBefore new p row)=c9 M S new+c9 M S row
 |[],p=>by unfold putBefore;rw[mO];rfl
 |x::r,p=>by
  unfold putBefore;by_cases h:shown x=ah
  .rw [aA h];by_cases h0:p=0
   .rw [aA h0,uS]
   .rw [ay h0,jd,jd,Cb M S new r];lia
  .rw [ay h,jd,jd,Cb M S new r];lia
theorem Cd(new:List aE):∀(row:List aE) (p:Nat),(putBefore new p row).length=new.length+row.length
 |[],p=>by unfold putBefore;simp
 |x::r,p=>by
  unfold putBefore;by_cases h:shown x=ah
  .rw [aA h];by_cases h0:p=0
   .rw [aA h0,bb]
   .rw [ay h0,bY,bY,Cd new r];lia
  .rw [ay h,bY,bY,Cd new r];lia
theorem yS{new:List aE}{y:aE}:∀{row:List aE} {p:Nat},y∈putBefore new p row↔y∈new\/y∈row
 |[],p=>by unfold putBefore;simp
 |x::r,p=>by
  unfold putBefore;by_cases h:shown x=ah
  .rw [aA h];by_cases h0:p=0
   .rw [aA h0,cZ]
   .rw [ay h0,bJ,yS (row:=r),bJ];constructor
    .rintro (h|h|h)
     .exact .inr (.inl h)
     .exact .inl h
     .exact .inr (.inr h)
    .rintro (h|h|h)
     .exact .inr (.inl h)
     .exact .inl h
     .exact .inr (.inr h)
  .rw [ay h,bJ,yS (row:=r),bJ];constructor
   .rintro (h|h|h)
    .exact .inr (.inl h)
    .exact .inl h
    .exact .inr (.inr h)
   .rintro (h|h|h)
    .exact .inr (.inl h)
    .exact .inl h
    .exact .inr (.inr h)
def aga(p q:Nat):e_ p q []=[]:=by unfold e_ visible;simp
def mh{x:aE}(h:shown x=ah):visible (x::r)=x::visible r:=by unfold visible;rw[gv,aA h]
def oz{x:aE}(h:¬shown x=ah):visible (x::r)=visible r:=by unfold visible;rw[gv,ay h]
def QP{x:aE}(h:¬shown x=ah):e_ p q (x::r)=e_ p q r:=by unfold e_;rw[oz h]
def QO{x:aE}(h:shown x=ah)(Z:0<q):e_ 0 q (x::r)=x::e_ 0 (q-1) r:=by unfold e_;rw[mh h];obtain⟨k,rfl⟩:∃k,q=k+1:=⟨q-1,by omega⟩;simp
def QQ{x:aE}(h:shown x=ah)(Z:¬(p=0/\0<q)):e_ p q (x::r)=e_ (p-1) (q-1) r:=by
 unfold e_;rw[mh h];by_cases h0:p=0
 .subst h0;have:q=0:=by lia
  subst this;simp
 .obtain ⟨k,rfl⟩:∃k,p=k+1:=⟨p-1,by lia⟩;have e:q-(k+1)=q-1-(k+1-1):=by lia
  simp[e]
theorem vG(M S:Nat->Bool)(f:aE->List aE)(g:aE->List aE):∀(row:List aE) (p q:Nat),(∀x∈e_ p q row,c9 M S (f x)+c9 M S (g x)<=(iY M S x).toNat)->c9 M S (onStretch f p q row)+c9 M S ((e_ p q row).flatMap g)<=c9 M S row
 |[],p,q,_=>by rw[aga];unfold onStretch;simp[mO]
 |x::r,p,q,h=>by
  unfold onStretch;by_cases hs:shown x=ah
  .rw [aA hs];by_cases Z:p=0/\0<q
   .rw [aA Z];obtain⟨V,W⟩:=Z;subst V;rw[QO hs W]at h⊢;have Y:=vG M S f g r 0 (q-1) (λy X=>h y (cj _ X));have T:=h x cy;rw[dW,uS,uS,jd];show c9 M S (f x)+c9 M S (onStretch f (0-1) (q-1) r)+_<=_;have e:0-1=0:=rfl;rw[e];lia
   .rw [ay Z];rw[QQ hs Z]at h⊢;have Y:=vG M S f g r (p-1) (q-1) h;show c9 M S (x::onStretch f (p-1) (q-1) r)+_<=_;rw[jd,jd];lia
  .rw [ay hs];rw[QP hs]at h⊢;have Y:=vG M S f g r p q h;rw[jd,jd];lia
theorem vI{f:aE->List aE}{y:aE}:∀{row:List aE} {p q:Nat},y∈onStretch f p q row->y∈row\/∃x∈e_ p q row,y∈f x
 |[],p,q,h=>by unfold onStretch at h;exact bq h (by simp)
 |x::r,p,q,h=>by
  unfold onStretch at h;by_cases hs:shown x=ah
  .rw [aA hs]at h;by_cases Z:p=0/\0<q
   .rw [aA Z]at h;obtain⟨V,Y⟩:=Z;subst V;rw[QO hs Y];rcases cZ.mp h with h|h
    .exact .inr ⟨x,cy,h⟩
    .rcases vI h with h|⟨z,W,X⟩
     .exact .inl (cj _ h)
     .exact .inr ⟨z,cj _ W,X⟩
   .rw [ay Z]at h;rw[QQ hs Z];have h:y∈x::onStretch f (p-1) (q-1) r:=h;rcases bJ.mp h with h|h
    .exact .inl (by rw[h];exact cy)
    .rcases vI h with h|h
     .exact .inl (cj _ h)
     .exact .inr h
  .rw [ay hs]at h;rw[QP hs];rcases bJ.mp h with h|h
   .exact .inl (by rw[h];exact cy)
   .rcases vI h with h|h
    .exact .inl (cj _ h)
    .exact .inr h
theorem vH{f:aE->List aE}(Z:∀x,(f x).length<=1):∀(row:List aE) (p q:Nat),(onStretch f p q row).length<=row.length
 |[],p,q=>by unfold onStretch;exact bp _
 |x::r,p,q=>by
  unfold onStretch;by_cases hs:shown x=ah
  .rw [aA hs];have X:=vH Z r (p-1) (q-1);by_cases Y:p=0/\0<q
   .rw [aA Y,bb,bY];have:=Z x;lia
   .rw [ay Y,bb,bY];simp;lia
  .rw [ay hs,bY,bY];have X:=vH Z r p q;lia
def wb{row:List aE}{x:aE}(h:x∈e_ p q row):x∈row/\shown x=ah:=by unfold e_ visible at h;have:=rK (nz h);exact d4.mp this
def af'(row:List aE)(p q:Nat):(e_ p q row).length<=(visible row).length:=by unfold e_;rw[iz,jN];lia
def aex(c:Nat)(x:aE)(k:Nat):(settleIn c x k).ins=x.ins/\(settleIn c x k).del=x.del/\(settleIn c x k).sign=x.sign:=by unfold settleIn;dsimp only;split<;>exact⟨U,U,U⟩
def ID(c:Nat)(x:aE):∀(l:List Nat),(l.foldl (settleIn c) x).ins=x.ins/\(l.foldl (settleIn c) x).del=x.del/\(l.foldl (settleIn c) x).sign=x.sign:=by
 intro l
 induction l generalizing x with
 |nil=>exact⟨U,U,U⟩
 |cons k l Z=>
  rw[mn];obtain⟨W,X,Y⟩:=Z (settleIn c x k);obtain⟨S,T,V⟩:=aex c x k;exact⟨W.trans S,X.trans T,Y.trans V⟩
def N3{d:Nat}{l:List Nat}:d∈fu c l↔d∈l/\d≠c:=by unfold fu;rw[d4];simp
def qY{x:aE}:iY M S x=ah↔(∀c∈x.ins,M c=ah->S c=ah)/\∀c∈x.del,M c=ah->S c=aB:=by
 unfold iY;rw[fk,rE,rE];constructor
 .rintro ⟨W,X⟩
  refine⟨λc Y Z=>?_,λc Y Z=>?_⟩
  .have:=W c Y;rw[Z]at this;simpa using this
  .have:=X c Y;rw[Z]at this;simpa using this
 .rintro ⟨W,X⟩
  refine⟨λc Y=>?_,λc Y=>?_⟩
  .cases Z:M c with
   |false=>rfl
   |true=>rw[W c Y Z];rfl
  .cases Z:M c with
   |false=>rfl
   |true=>rw[X c Y Z];rfl
def zj{a:Bool}(h:a=ah->b=ah):a.toNat<=b.toNat:=by
 cases a with
 |false=>exact cN _
 |true=>rw[h U];exact bp _
def ag'(M S:Nat->Bool)(acc:Bool)(c:Nat)(x:aE):c9 M S (fq acc c x)<=(iY M (k_ S c acc) x).toNat:=by
 unfold fq;cases acc with
 |true=>
  rw[aA U];unfold kH;by_cases h:has x.del c=ah
  .rw [aA h];exact cN _
  .rw [ay h,jd,mO,mu];refine zj λY=>?_;rw[qY]at Y⊢;obtain⟨T,V,_⟩:=ID c {x with ins:=fu c x.ins} o6;rw[T,V]at Y;obtain⟨W,X⟩:=Y;refine⟨λd hd Z=>?_,λd hd Z=>?_⟩
   .unfold k_;by_cases e:d=c
    .rw [aA e]
    .rw [ay e];exact W d (N3.mpr ⟨hd,e⟩) Z
   .unfold k_;have e:d≠c:=by
     rintro rfl
     exact h ((qB _ _).mpr hd)
    rw[ay e];exact X d hd Z
 |false=>
  rw[ay cg];unfold kI;by_cases h:has x.ins c=ah
  .rw [aA h];exact cN _
  .rw [ay h,jd,mO,mu];refine zj λY=>?_;rw[qY]at Y⊢;obtain⟨W,X⟩:=Y;refine⟨λd hd Z=>?_,λd hd Z=>?_⟩
   .unfold k_;have e:d≠c:=by
     rintro rfl
     exact h ((qB _ _).mpr hd)
    rw[ay e];exact W d hd Z
   .unfold k_;by_cases e:d=c
    .rw [aA e]
    .rw [ay e];exact X d (N3.mpr ⟨hd,e⟩) Z
theorem De(M S:Nat->Bool)(acc:Bool)(c:Nat):∀row:List aE,c9 M S (bQ acc c row)<=c9 M (k_ S c acc) row
 |[]=>bp _
 |x::r=>by unfold bQ;rw[dW,uS,jd];have Y:=ag' M S acc c x;have Z:=De M S acc c r;unfold bQ at Z;lia
def ab3(h:M c=aB)(x:aE):iY M (k_ S c b) x=iY M S x:=by
 have e:∀d,(!M d||k_ S c b d)=(!M d||S d):=λd=>by
  unfold k_;by_cases e:d=c
  .rw [e,h];rfl
  .rw [ay e]
 have Z:∀d,(!(M d&&k_ S c b d))=(!(M d&&S d)):=λd=>by
  unfold k_;by_cases e:d=c
  .rw [e,h];rfl
  .rw [ay e]
 unfold iY;simp only[e,Z]
def LF(h:M c=aB)(row:List aE):c9 M (k_ S c b) row=c9 M S row:=by unfold c9;congr 1;funext x;exact ab3 h x
def Rk(acc:Bool)(c:Nat)(x:aE):(fq acc c x).length<=1:=by unfold fq kH kI;split<;>split<;>simp
theorem Df(acc:Bool)(c:Nat):∀row:List aE,(bQ acc c row).length<=row.length
 |[]=>bp _
 |x::r=>by unfold bQ;rw[dW,bb,bY];have Y:=Rk acc c x;have Z:=Df acc c r;unfold bQ at Z;lia
def Xb(M S:Nat->Bool)(acc Z:Bool)(aI:List Nat)(c:Nat)(w:ja×List iS)(h:Z=aB->M c=aB):c9 M S (g_ acc Z aI c w).1.row<=c9 M (k_ S c acc) w.1.row:=by
 unfold g_ lI;dsimp only;have f:=De M S acc c w.1.front;have p:=De M S acc c w.1.part;have b:=De M S acc c w.1.back;cases Z with
 |true=>
  rw[aA U];simp only[uS];lia
 |false=>
  rw[ay cg];simp only[uS];rw[LF (h U) w.1.front,LF (h U) w.1.back];lia
def Xc(acc Z:Bool)(aI:List Nat)(c:Nat)(w:ja×List iS):(g_ acc Z aI c w).1.row.length<=w.1.row.length:=by
 unfold g_ lI;dsimp only;have f:=Df acc c w.1.front;have p:=Df acc c w.1.part;have b:=Df acc c w.1.back;cases Z with
 |true=>
  rw[aA U];simp only[bb];lia
 |false=>
  rw[ay cg];simp only[bb];lia
theorem Mi(s:bf)(M:Nat->Bool)(P:Nat)(acc partly:Bool):∀(cs:List Nat) (w:ja×List iS),(∀c∈cs,M c=fW s c)->(∀S,c9 M S w.1.row<=P)->∀S,c9 M S (giveAll s acc partly cs w).1.row<=P
 |[],w,_,h=>h
 |c::r,w,Z,h=>by
  unfold giveAll;refine Mi s M P acc partly r _ (λd hd=>Z d (cj _ hd)) λS=>?_;refine c7 (Xb M S acc _ _ c w λe=>?_) (h _);rw[Z c cy];cases Y:fW s c with
  |false=>rfl
  |true=>rw[Y]at e;simp at e
theorem Fi(s:bf)(acc partly:Bool):∀(cs:List Nat) (w:ja×List iS),(giveAll s acc partly cs w).1.row.length<=w.1.row.length
 |[],w=>bp _
 |c::r,w=>by unfold giveAll;exact c7 (Fi s acc partly r _) (Xc ..)
structure cX (n:Nat) (x:aE):Prop where
 look:x.look.length=4
 ins:∀c∈x.ins,1<=c/\c<=n
 del:∀c∈x.del,1<=c/\c<=n
 pend:∀y∈x.pend,(1<=y.change/\y.change<=n)/\y.prop<=3
 hG:x.ins.Pairwise (·<·)
 gq:(x.pend.map (·.change)).Pairwise (·<·)
 dl:x.del.length<=1
 tags:x.tags=[]
def cX.mono{n:Nat}{x:aE}(h:cX n x)(X:n<=m):cX m x:=
 ⟨h.look,λc Z=>⟨(h.ins c Z).1,c7 (h.ins c Z).2 X⟩,λc Z=>⟨(h.del c Z).1,c7 (h.del c Z).2 X⟩,λy Y=>⟨⟨(h.pend y Y).1.1,c7 (h.pend y Y).1.2 X⟩,(h.pend y Y).2⟩,h.hG,h.gq,h.dl,h.tags⟩
def xJ{x:aE}:eo m x=ah↔m∈x.ins\/m∈x.del\/∃y∈x.pend,y.change=m:=by
 unfold eo;rw[wI,wI,qB,qB,jM];constructor
 .rintro (h|h|⟨y,Y,Z⟩)
  .exact .inl h
  .exact .inr (.inl h)
  .exact .inr (.inr ⟨y,Y,eq_of_beq Z⟩)
 .rintro (h|h|⟨y,Y,Z⟩)
  .exact .inl h
  .exact .inr (.inl h)
  .exact .inr (.inr ⟨y,Y,by simp[Z]⟩)
def cX.down{n:Nat}{x:aE}(h:cX (n+1) x)(X:¬eo (n+1) x=ah):cX n x:=by
 rw[xJ]at X;have Z:∀c,(1<=c/\c<=n+1)->c≠n+1->1<=c/\c<=n:=λc T V=>by lia
 exact⟨h.look,λc Y=>Z c (h.ins c Y) (λe=>X (.inl (e▸Y))),λc Y=>Z c (h.del c Y) (λe=>X (.inr (.inl (e▸Y)))),λy W=>⟨Z _ (h.pend y W).1 (λe=>X (.inr (.inr ⟨y,W,e⟩))),(h.pend y W).2⟩,h.hG,h.gq,h.dl,h.tags⟩
def Co:∀{l:List Nat} {n:Nat},l.Pairwise (·<·)->(∀c∈l,1<=c/\c<=n)->l.length<=n:=by
 intro l;have A5:∀(l:List Nat) (Z n:Nat),l.Pairwise (·<·)->(∀c∈l,Z<c/\c<=n)->l.length+Z<=max Z n:=by
  intro l
  induction l with
  |nil=>intro Z n _ _;simp;lia
  |cons a l W=>
   intro Z n X h;obtain⟨T,V⟩:=zH.mp X;have:=W a n V (λc Y=>⟨T c Y,(h c (cj _ Y)).2⟩);have S:=h a cy;rw[bY];lia
 intro n X h;have:=A5 l 0 n X (λc Y=>⟨(h c Y).1,(h c Y).2⟩);lia
def cX.Zs{n:Nat}{x:aE}(h:cX n x):x.ins.length<=n:=Co h.hG h.ins
def cX.Pa{n:Nat}{x:aE}(h:cX n x):x.pend.length<=n:=by
 have:=Co h.gq (n:=n) (λc Y=>by obtain⟨y,Z,rfl⟩:=bA.mp Y;exact(h.pend y Z).1)
 rwa[aP]at this
def CO{l:List Nat}{n:Nat}(h:l.Pairwise (·<·))(Y:∀c∈l,c<=n):(l++[n+1]).Pairwise (·<·):=by rw[JZ];refine⟨h,by simp,λa X b Z=>?_⟩;rw[bx.mp Z];have:=Y a X;lia
theorem IE(c k:Nat):∀l:List cW,(settle c k l).2.Sublist l
 |[]=>by unfold settle;exact zB _
 |y::r=>by
  have Z:=IE c k r;unfold settle;dsimp only;split
  .dsimp only;split
   .exact Z.cons y
   .exact Z.cons₂ y
  .split
   .exact Z.cons y
   .exact Z.cons₂ y
theorem cX.settleIn{n c k:Nat}{x:aE}(h:cX n x):cX n (settleIn c x k):=by
 unfold Tj;dsimp only;split
 .have Z:=IE c k x.pend;exact⟨by rw[zF];exact h.look,h.ins,h.del,λy Y=>h.pend y (Z.subset Y),h.hG,h.gq.sublist (Z.map _),h.dl,h.tags⟩
 .exact h
theorem cX.Qj{n c:Nat}:∀(l:List Nat) {x:aE},cX n x->cX n (l.foldl (Tj c) x)
 |[],x,h=>h
 |k::l,x,h=>by rw[mn];exact cX.Qj l h.settleIn
def wC(c:Nat)(l:List Nat):(fu c l).Sublist l:=by unfold fu;exact wO
def cX.wq{n:Nat}{acc:Bool}{x:aE}(h:cX n x)(Z:y∈fq acc c x):cX n y:=by
 unfold fq at Z;cases acc with
 |true=>
  rw[aA U]at Z;unfold kH at Z;split at Z
  .exact bq Z (by simp)
  .rw [bx.mp Z];have Y:=wC c x.ins;have h':cX n {x with ins:=fu c x.ins}:=⟨h.look,λd hd=>h.ins d (Y.subset hd),h.del,h.pend,h.hG.sublist Y,h.gq,h.dl,h.tags⟩;exact h'.Qj _
 |false=>
  rw[ay cg]at Z;unfold kI at Z;split at Z
  .exact bq Z (by simp)
  .rw [bx.mp Z];have Y:=wC c x.del;have sp:(x.pend.filter λy=>!(y.change==c)).Sublist x.pend:=wO;exact⟨h.look,h.ins,λd hd=>h.del d (Y.subset hd),λy Z=>h.pend y (sp.subset Z),h.hG,h.gq.sublist (sp.map _),c7 Y.length_le h.dl,h.tags⟩
def lq(x:aE):Prop:=x.sign=10/\x.ins=[]/\x.del=[]
def iy(row:List aE):Prop:=∃r x,row=r++[x]/\lq x
def iy.ne{row:List aE}(h:iy row):row≠[]:=by obtain⟨r,x,rfl,_⟩:=h;simp
def qM{a b:List aE}(Y:b≠[]):iy (a++b)↔iy b:=by
 constructor
 .rintro ⟨r,x,e,Z⟩
  rcases oG b with z|⟨V,y,z⟩
  .exact bq z Y
  .rw [oE]at z;subst z;rw[<-fm]at e;have:=List.append_inj' e U;obtain⟨_,W⟩:=this;have X:y=x:=‹W›
   subst X;exact⟨V,y,U,Z⟩
 .rintro ⟨r,x,rfl,Z⟩
  exact⟨a++r,x,by rw[fm],Z⟩
def lq.wq{acc:Bool}{x:aE}(h:lq x):∃y,fq acc c x=[y]/\lq y:=by
 obtain⟨X,Y,Z⟩:=h;unfold fq;cases acc with
 |true=>
  rw[aA U];unfold kH;refine⟨_,ay (by rw[Z];simp[has]),?_⟩;obtain⟨T,V,W⟩:=ID c {x with ins:=fu c x.ins} o6;refine⟨W.trans X,T.trans ?_,V.trans Z⟩;show fu c x.ins=[];rw[Y];rfl
 |false=>
  rw[ay cg];unfold kI;refine⟨_,ay (by rw[Y];simp[has]),X,Y,?_⟩;show fu c x.del=[];rw[Z];rfl
theorem iy.wq{acc:Bool}{c:Nat}{row:List aE}(h:iy row):iy (bQ acc c row):=by obtain⟨r,x,rfl,Y⟩:=h;obtain⟨y,e,Z⟩:=Y.wq (acc:=acc) (c:=c);unfold bQ;rw[gw,dW,mm,e];exact⟨_,y,U,Z⟩
def iy.give{acc T:Bool}{aI:List Nat}{w:ja×List iS}(h:iy w.1.row):iy (g_ acc T aI c w).1.row:=by
 unfold g_ lI at*;dsimp only at*;cases T with
 |true=>
  rw[aA U];have:=h.wq (acc:=acc) (c:=c);unfold bQ at this⊢;rw[gw,gw]at this;exact this
 |false=>
  rw[ay cg];dsimp only;by_cases Z:w.1.back=[]
  .rw [Z,ee]at h⊢;by_cases W:w.1.part=[]
   .rw [W]at h⊢;exact h
   .rw [qM W]at h;have V:=h.wq (acc:=acc) (c:=c);rw[qM V.ne];exact V
  .have X:w.1.part++w.1.back≠[]:=by simp[Z]
   have Y:bQ acc c w.1.part++w.1.back≠[]:=by simp[Z]
   rw[qM X,qM Z]at h;rw[qM Y,qM Z];exact h
def Xa{p:aE->Prop}{acc S:Bool}{aI:List Nat}{w:ja×List iS}(R:∀x y,p x->y∈fq acc c x->p y)(h:∀x∈w.1.row,p x):∀x∈(g_ acc S aI c w).1.row,p x:=by
 have X:∀row:List aE,(∀x∈row,p x)->∀y∈bQ acc c row,p y:=λrow h y Y=>by unfold bQ at Y;obtain⟨x,Z,Y⟩:=ny.mp Y;exact R x y (h x Z) Y
 unfold g_ lI at*;dsimp only at*;have V:∀x∈w.1.front,p x:=λx Z=>h x (by simp[Z]);have W:∀x∈w.1.part,p x:=λx Z=>h x (by simp[Z]);have T:∀x∈w.1.back,p x:=λx Z=>h x (by simp[Z]);cases S with
 |true=>
  rw[aA U];intro x Z;dsimp only at Z;rcases cZ.mp Z with Z|Z
  .exact X _ V x Z
  .rcases cZ.mp Z with Z|Z
   .exact X _ W x Z
   .exact X _ T x Z
 |false=>
  rw[ay cg];intro x Z;dsimp only at Z;rcases cZ.mp Z with Z|Z
  .exact V x Z
  .rcases cZ.mp Z with Z|Z
   .exact X _ W x Z
   .exact T x Z
theorem Ml(s:bf)(acc partly:Bool):∀(cs:List Nat) (w:ja×List iS),iy w.1.row->iy (giveAll s acc partly cs w).1.row
 |[],w,h=>h
 |c::r,w,h=>by unfold giveAll;exact Ml s acc partly r _ h.give
theorem Mn(s:bf)(acc partly:Bool){n:Nat}:∀(cs:List Nat) (w:ja×List iS),(∀x∈w.1.row,cX n x)->∀x∈(giveAll s acc partly cs w).1.row,cX n x
 |[],w,h=>h
 |c::r,w,h=>by unfold giveAll;exact Mn s acc partly r _ (Xa (λx y Y Z=>Y.wq Z) h)
theorem Mm(s:bf)(acc partly:Bool):∀(cs:List Nat) (w:ja×List iS),w.2.length=(ie s).length->(giveAll s acc partly cs w).2.length=(ie s).length
 |[],w,h=>h
 |c::r,w,h=>by unfold giveAll;refine Mm s acc partly r _ ?_;unfold g_;dsimp only;rw[aP]
def Hw(row:List aE)(i j:Nat)(Z:i<=j):(lI ⟨row.take i,(row.take j).drop i,row.drop j⟩)=row:=by
 unfold lI;dsimp only;rw[<-fm];have:row.take i=(row.take j).take i:=by rw[List.take_take];congr 1;lia
 rw[this,rL,rL]
structure WF (s:bf):Prop where
 kS:iy s.doc.row
 all:∀x∈s.doc.row,cX (bj s) x
 hZ:s.tallies.length=bj s
 pb:1<=s.doc.author/\s.doc.author<=99
 aI:∀x∈s.doc.changes,(1<=x.author/\x.author<=99)/\1<=x.kind/\x.kind<=4
structure dE (s:bf) (P t:Nat):Prop where
 c9:∀M S,(∀c,1<=c->c<=bj s->M c=fW s c)->c9 M S s.doc.row<=P
 bG:s.doc.row.length<=P*(t+1)
def dE.mono{Q t u:Nat}(h:dE s P t)(Z:P<=Q)(Y:t<=u):dE s Q u:=
 ⟨λM S X=>c7 (h.c9 M S X) Z,c7 h.bG (Nat.mul_le_mul Z (J7 Y))⟩
def Hd(s:bf):(ie s).length=bj s:=by unfold ie;simp
def pK:c∈ie s↔1<=c/\c<=bj s:=by
 unfold ie;rw[bA];constructor
 .rintro ⟨a,h,rfl⟩
  have:=ue.mp h;omega
 .rintro ⟨Y,Z⟩
  exact⟨c-1,ue.mpr (by omega),by omega⟩
theorem WF.settled{s:bf}{acc partly:Bool}{i j:Nat}{cs:List Nat}(h:WF s)(Z:i<=j):WF (jv s acc partly i j cs):=by have e:∀tl,(lI (⟨s.doc.row.take i,(s.doc.row.take j).drop i,s.doc.row.drop j⟩,(tl:List iS)).1)=s.doc.row:=λ_=>Hw s.doc.row i j Z;unfold jv;exact⟨Ml s acc partly cs _ (by rw[e];exact h.kS),Mn s acc partly cs _ (by rw[e];exact h.all),(Mm s acc partly cs _ (by rw[Hd];exact h.hZ)).trans (Hd s),h.pb,h.aI⟩
theorem dE.settled{s:bf}{acc partly:Bool}{i j:Nat}{cs:List Nat}{P t:Nat}(h:dE s P t)(X:i<=j)(W:∀c∈cs,1<=c/\c<=bj s):dE (jv s acc partly i j cs) P t:=by
 have e:∀tl,(lI (⟨s.doc.row.take i,(s.doc.row.take j).drop i,s.doc.row.drop j⟩,(tl:List iS)).1)=s.doc.row:=λ_=>Hw s.doc.row i j X;constructor
 .intro M S Y;have Y:∀c,1<=c->c<=bj s->M c=fW s c:=Y;unfold jv;exact Mi s M P acc partly cs _ (λc Z=>Y c (W c Z).1 (W c Z).2) (λS=>by rw[e];exact h.c9 M S Y) S
 .unfold jv;dsimp only;refine c7 (Fi ..) ?_;rw[e];exact h.bG
noncomputable def dP(s:bf)(x:fV):bf:={doc:=x,tallies:=s.tallies++(if s.doc.changes.length<x.changes.length then[{}]else[])}
def Zy{s':bf}{ch:iD}(e:s'.doc.changes=s.doc.changes++[ch])(Y:1<=c)(Z:c<=bj s):fW s' c=fW s c:=by unfold fW ju;rw[ay (by omega),ay (by omega),e,wU (by unfold bj at Z;omega)]
def Zx{s':bf}{ch:iD}(e:s'.doc.changes=s.doc.changes++[ch]):fW s' (bj s+1)=(ch.kind==4):=by
 unfold fW ju;rw[ay (by lia),e];have:bj s+1-1=s.doc.changes.length:=by unfold bj;lia
 rw[this,p_ (bp _),DP];rfl
def A0{kind:Nat}{Z:List aE}{t:Nat}(h:WF s)(T:iy Z)(hw:∀x∈Z,cX (bj s+1) x)(hk:1<=kind/\kind<=4)(R:∀M S,(∀c,1<=c->c<=bj s->M c=fW s c)->(Z.any (eo (next s.doc))=ah->M (bj s+1)=(kind==4))->c9 M S Z<=P)(X:Z.length<=P*(t+1)):WF (dP s (ic s.doc kind Z).1)/\dE (dP s (ic s.doc kind Z).1) P t:=by
 unfold ic;by_cases V:Z.any (eo (next s.doc))=ah
 .rw [aA V];dsimp only;have hd:(dP s {s.doc with row:=Z,changes:=s.doc.changes++[{author:=s.doc.author,time:=s.doc.time,kind:=kind}]}).doc.changes=s.doc.changes++[{author:=s.doc.author,time:=s.doc.time,kind:=kind}]:=rfl;have he:bj (dP s {s.doc with row:=Z,changes:=s.doc.changes++[{author:=s.doc.author,time:=s.doc.time,kind:=kind}]})=bj s+1:=by
   show(s.doc.changes++[_]).length=_;rw[bb];rfl
  refine⟨⟨T,?_,?_,h.pb,?_⟩,⟨?_,X⟩⟩
  .rw [he];exact hw
  .rw [he];show(s.tallies++(if _ then _ else _)).length=_;rw[aA (by show s.doc.changes.length<(s.doc.changes++[_]).length;rw[bb];exact qc _),bb,h.hZ];rfl
  .intro x Y;have Y:x∈s.doc.changes++[_]:=Y;rcases cZ.mp Y with Y|Y
   .exact h.aI x Y
   .rw [bx.mp Y];exact⟨h.pb,hk⟩
  .intro M S W;rw[he]at W;refine R M S (λc Q O=>(W c Q (by lia)).trans (Zy hd Q O)) λ_=>(W _ (by lia) (bp _)).trans (Zx hd)
 .rw [ay V];dsimp only;have he:bj (dP s {s.doc with row:=Z})=bj s:=rfl;refine⟨⟨T,?_,?_,h.pb,h.aI⟩,⟨?_,X⟩⟩
  .rw [he];intro x Y;refine(hw x Y).down λq=>V ?_;exact jM.mpr ⟨x,Y,q⟩
  .rw [he];show(s.tallies++(if _ then _ else _)).length=_;rw[ay (by exact jP _),ee];exact h.hZ
  .intro M S W;exact R M S W λq=>bq q V
def Qq(x:aE):(gL x).length=4:=by unfold gL o6;rfl
def L0(p:Nat)(row:List aE):(jW p row).length=4:=by
 unfold jW;split
 .exact Qq _
 .rfl
def Qt(p:Nat)(row:List aE):(jX p row).length=4:=by
 unfold jX;split
 .rfl
 .split
  .split
   .rfl
   .exact Qq _
  .rfl
def EU(h:WF s)(p:Nat):Tg p s.doc.row=[]:=by
 unfold Tg;split
 .rfl
 .split
  .rename_i x y e _;have Z:x∈visible s.doc.row:=ck e;have:=(h.all x (d4.mp Z).1).tags;rw[this];rfl
  .rfl
theorem lq.shown{x:aE}(h:lq x):shown x=ah:=by unfold gD;rw[h.2.2];rfl
def Jr(a b:List aE):visible (a++b)=visible a++visible b:=by unfold visible;exact ku ..
def wA{x:aE}(h:lq x):visible (r++[x])=visible r++[x]:=by rw[Jr,mh h.shown];rfl
theorem Cc(new:List aE){x:aE}(Y:lq x):∀(r:List aE) (p:Nat),p<(visible (r++[x])).length->∃Z,putBefore new p (r++[x])=Z++[x]
 |[],p,h=>by
  have h:p<(visible ([]++[x])).length:=h;rw[wA Y]at h;have X:p=0:=by simpa[visible]using h
  refine⟨new,?_⟩;show putBefore new p [x]=_;unfold putBefore;rw[aA Y.shown,aA X]
 |y::r,p,h=>by
  show∃Z,putBefore new p (y::(r++[x]))=_;unfold putBefore;by_cases hs:gD y=ah
  .rw [aA hs];by_cases X:p=0
   .rw [aA X];exact⟨new++y::r,by simp⟩
   .rw [ay X];have h':p<(visible (y::(r++[x]))).length:=h;rw[mh hs,bY]at h';obtain⟨Z,e⟩:=Cc new Y r (p-1) (by omega);exact⟨y::Z,by rw[e];rfl⟩
  .rw [ay hs];have h':p<(visible (y::(r++[x]))).length:=h;rw[oz hs]at h';obtain⟨Z,e⟩:=Cc new Y r p h';exact⟨y::Z,by rw[e];rfl⟩
theorem B3{f:aE->List aE}{x:aE}(Z:lq x):∀(r:List aE) (p q:Nat),q<(visible (r++[x])).length->onStretch f p q (r++[x])=onStretch f p q r++[x]
 |[],p,q,h=>by
  have h:q<(visible ([]++[x])).length:=h;rw[wA Z]at h;have Y:q=0:=by simpa[visible]using h
  show onStretch f p q [x]=_;unfold onStretch;rw[aA Z.shown,ay (by lia)];unfold onStretch;rfl
 |y::r,p,q,h=>by
  show onStretch f p q (y::(r++[x]))=onStretch f p q (y::r)++[x];unfold onStretch;by_cases hs:gD y=ah
  .rw [aA hs,aA hs];have h':q<(visible (y::(r++[x]))).length:=h;rw[mh hs,bY]at h';rw[B3 Z r (p-1) (q-1) (by
    by_cases Y:q=0
    .subst Y;rw[wA Z,bb];simp
    .lia),fm]
  .rw [ay hs,ay hs];have h':q<(visible (y::(r++[x]))).length:=h;rw[oz hs]at h';rw[B3 Z r p q h'];rfl
theorem Ho{f:aE->aE}(X:∀x,lq x->lq (f x)){x:aE}(Y:lq x):∀(r:List aE) (p q:Nat),iy (onStretch (λy=>[f y]) p q (r++[x]))
 |[],p,q=>by
  show iy (onStretch _ p q [x]);unfold onStretch;rw[aA Y.shown];unfold onStretch;by_cases W:p=0/\0<q
  .rw [aA W];exact⟨[],f x,U,X x Y⟩
  .rw [ay W];exact⟨[],x,U,Y⟩
 |y::r,p,q=>by
  show iy (onStretch _ p q (y::(r++[x])));unfold onStretch;by_cases hs:gD y=ah
  .rw [aA hs];have Z:=Ho X Y r (p-1) (q-1);exact(qM Z.ne).mpr Z
  .rw [ay hs];have Z:=Ho X Y r p q;exact(qM (a:=[y]) Z.ne).mpr Z
section
variable{s:bf}{P t:Nat}
def j7(s:bf):next s.doc=bj s+1:=rfl
def ab2{x:aE}(Y:x.ins=y.ins)(Z:x.del=y.del):iY M S x=iY M S y:=by unfold iY;rw[Y,Z]
def ade(h:WF s)(b:dE s P t){signs:List Nat}(T:p<dG s.doc):WF (dP s (Al s.doc p signs).1)/\dE (dP s (Al s.doc p signs).1) (P+signs.length) (t+1):=by
 unfold Al;have V:∀x∈iR s.doc p signs,cX (bj s+1) x:=λx Z=>by
  unfold iR at Z;obtain⟨c,_,rfl⟩:=bA.mp Z;refine⟨?_,?_,by simp,by simp,?_,by simp,by simp,EU h p⟩
  .dsimp only;split
   .exact L0 ..
   .exact Qt ..
  .dsimp only;intro c Y;split at Y
   .rw [bx.mp Y,j7];lia
   .simp at Y
  .dsimp only;split<;>simp
 refine A0 h ?_ (λx Z=>?_) (by decide) (λM S R N=>?_) ?_
 .obtain ⟨r,x,e,Z⟩:=h.kS;rw[e];obtain⟨W,O⟩:=Cc (iR s.doc p signs) Z r p (by rw[<-e];exact T);exact⟨W,x,O,Z⟩
 .rcases yS.mp Z with Z|Z
  .exact V x Z
  .exact (h.all x Z).mono (cS _)
 .rw [Cb];have Q:=b.c9 M S R;have X:c9 M S (iR s.doc p signs)<=signs.length:=by
   unfold c9;refine c7 (RO) ?_;unfold iR;rw[aP];exact bp _
  lia
 .rw [Cd];have Q:=b.bG;have X:(iR s.doc p signs).length=signs.length:=by unfold iR;rw[aP]
  rw[X];have K:(P+signs.length)*(t+1+1)=P*(t+1)+P+signs.length*(t+1+1):=by rw[Nat.add_mul,J4 P (t+1)]
  have L:signs.length<=signs.length*(t+1+1):=Nat.le_mul_of_pos_right _ (J8 _);lia
def AN(h:WF s){x:aE}(Y:x∈s.doc.row)(Z:y∈eO s.doc x):cX (bj s+1) y:=by
 have w:=(h.all x Y).mono (cS _);unfold eO at Z;split at Z
 .simp at Z
 .rw [bx.mp Z];refine⟨w.look,w.ins,λc X=>?_,w.pend,w.hG,w.gq,by simp,w.tags⟩;have:c=next s.doc:=‹X›
  rw[this,j7];lia
def LK(x:aE):(eO s.doc x).length<=1:=by unfold eO;split<;>simp
def NL{P t:Nat}(h:a<=P*(t+1)):a<=P*(t+1+1):=by rw[J4];omega
def UA(h:WF s)(b:dE s P t)(V:q<dG s.doc):WF (dP s (Ai s.doc p q).1)/\dE (dP s (Ai s.doc p q).1) P (t+1):=by
 unfold Ai;refine A0 h ?_ (λx Z=>?_) (by decide) (λM S T R=>?_) ?_
 .obtain ⟨r,x,e,Z⟩:=h.kS;rw[e,B3 Z r p q (by rw[<-e];exact V)];exact⟨_,x,U,Z⟩
 .rcases vI Z with Z|⟨y,Y,Z⟩
  .exact (h.all x Z).mono (cS _)
  .exact AN h (wb Y).1 Z
 .have key:=vG M S (eO s.doc) (λ_=>[]) s.doc.row p q (λx Z=>?_)
  .have O:=b.c9 M S T;lia
  .rw [mO,mu];by_cases X:outright s.doc x=ah
   .unfold eO;rw[aA X];exact cN _
   .have Q:(onStretch (eO s.doc) p q s.doc.row).any (eo (next s.doc))=ah\/¬(onStretch (eO s.doc) p q s.doc.row).any (eo (next s.doc))=ah:=Classical.em _;unfold eO;rw[ay X,jd,mO,mu];refine zj λY=>?_;rw[qY]at Y⊢;refine⟨Y.1,λc W _=>?_⟩;have hs:=(wb Z).2;unfold gD at hs;have:x.del=[]:=‹hs›
    rw[this]at W;simp at W
 .exact c7 (vH (LK) ..) (NL b.bG)
def OY(k v:Nat)(x:aE):(fG s.doc k v x).ins=x.ins/\(fG s.doc k v x).del=x.del/\(fG s.doc k v x).sign=x.sign:=by
 unfold fG;split
 .exact ⟨U,U,U⟩
 .split
  .exact ⟨U,U,U⟩
  .exact ⟨U,U,U⟩
def acd(h:WF s)(b:dE s P t){k:Nat}(hk:k<=3):WF (dP s (Ak s.doc p q k v).1)/\dE (dP s (Ak s.doc p q k v).1) P (t+1):=by
 unfold Ak;refine A0 h ?_ (λx Y=>?_) (by decide) (λM S R O=>?_) ?_
 .obtain ⟨r,x,e,Y⟩:=h.kS;rw[e];refine Ho (λy X=>?_) Y r p q;obtain⟨V,W,Q⟩:=OY (s:=s) k v y;exact⟨Q.trans X.1,V.trans X.2.1,W.trans X.2.2⟩
 .rcases vI Y with Y|⟨y,X,Y⟩
  .exact (h.all x Y).mono (cS _)
  .rw [bx.mp Y];have w:=h.all y (wb X).1;have Z:=w.mono (cS _);unfold fG;split
   .have sp:(y.pend.filter λz=>!(z.prop==k)).Sublist y.pend:=wO;exact⟨by rw[zF];exact Z.look,Z.ins,Z.del,λz hz=>Z.pend z (sp.subset hz),Z.hG,Z.gq.sublist (sp.map _),Z.dl,Z.tags⟩
   .split
    .exact Z
    .refine ⟨Z.look,Z.ins,Z.del,λz hz=>?_,Z.hG,?_,Z.dl,Z.tags⟩
     .rcases cZ.mp hz with hz|hz
      .exact Z.pend z hz
      .rw [bx.mp hz];exact⟨⟨by show 1<=next s.doc;rw[j7];lia,by show next s.doc<=_;rw[j7];exact bp _⟩,hk⟩
     .show ((y.pend++[_]).map Te).Pairwise (·<·);rw[cG];refine CO (n:=bj s) Z.gq λc T=>?_;obtain⟨z,hz,rfl⟩:=bA.mp T;exact(w.pend z hz).1.2
 .have key:=vG M S (λx=>[fG s.doc k v x]) (λ_=>[]) s.doc.row p q (λx Y=>?_)
  .have N:=b.c9 M S R;lia
  .rw [mO,mu,jd,mO,mu];obtain⟨V,W,_⟩:=OY (s:=s) k v x;rw[ab2 V W];exact bp _
 .exact c7 (vH (λ_=>bp _) ..) (NL b.bG)
def ahd(h:WF s)(b:dE s P t):(visible s.doc.row).length<=P:=by
 have:=b.c9 (fW s) (λ_=>ah) (λ_ _ _=>rfl);refine c7 ?_ this;unfold c9 visible;rw[<-List.countP_eq_length_filter];refine List.countP_mono_left λx Y hs=>?_;rw[qY];refine⟨λ_ _ _=>rfl,λc Z _=>?_⟩;unfold gD at hs;have:x.del=[]:=‹hs›
 rw[this]at Z;simp at Z
def aao{f:aE->aE}(l:List aE):l.map f=l.flatMap (λx=>[f x]):=by
 induction l with
 |nil=>rfl
 |cons a l Z=>rw[bM,dW,Z];rfl
def aaC(h:WF s)(b:dE s P t){r:Nat}(o:p<q)(N:q<dG s.doc)(K:r<dG s.doc)(E:r<p\/q<r):WF (dP s (Aj s.doc p q r).1)/\dE (dP s (Aj s.doc p q r).1) P (t+1):=by
 unfold Aj;have v:∀x∈(e_ p q s.doc.row).map (gk s.doc),cX (bj s+1) x:=λx Z=>by
  obtain⟨y,X,rfl⟩:=bA.mp Z;have w:=h.all y (wb X).1;have W:=w.mono (cS _);unfold gk;split
  .exact W
  .refine ⟨W.look,λc Y=>?_,W.del,W.pend,?_,W.gq,W.dl,W.tags⟩
   .rcases cZ.mp Y with Y|Y
    .exact W.ins c Y
    .rw [bx.mp Y,j7];omega
   .exact CO (n:=bj s) W.hG λc Y=>(w.ins c Y).2
 have V:dG s.doc=(visible s.doc.row).length:=rfl;refine A0 h ?_ (λx Z=>?_) (by decide) (λM S C D=>?_) ?_
 .obtain ⟨O,x,e,Z⟩:=h.kS;rw[V,e]at N K;have A:=B3 (f:=eO s.doc) Z O p q N;rw[e,A];have G:∀(row:List aE) (p q:Nat),(visible row).length-(q-p)<=(visible (onStretch (eO s.doc) p q row)).length:=by
   intro row
   induction row with
   |nil=>intro p q;show 0-(q-p)<=_;omega
   |cons y l L=>
    intro p q;unfold onStretch;by_cases hs:gD y=ah
    .rw [aA hs,mh hs,bY];by_cases T:p=0/\0<q
     .rw [aA T,Jr,bb];have:=L (p-1) (q-1);omega
     .rw [ay T];show _<=(visible (y::onStretch (eO s.doc) (p-1) (q-1) l)).length;rw[mh hs,bY];have:=L (p-1) (q-1);omega
    .rw [ay hs,oz hs,oz hs];exact L p q
  have u:=G O p q;rw[wA Z,bb]at N K;obtain⟨F,z⟩:=Cc ((e_ p q (O++[x])).map (gk s.doc)) Z (onStretch (eO s.doc) p q O) (sF p q r) (by rw[wA Z,bb];unfold sF;simp at N K⊢;split<;>omega)
  exact⟨F,x,z,Z⟩
 .rcases yS.mp Z with Z|Z
  .exact v x Z
  .rcases vI Z with Z|⟨y,X,Z⟩
   .exact (h.all x Z).mono (cS _)
   .exact AN h (wb X).1 Z
 .rw [Cb,aao];have key:=vG M S (eO s.doc) (λx=>[gk s.doc x]) s.doc.row p q (λx Z=>?_)
  .have B:=b.c9 M S C;omega
  .rw [jd,mO,mu];have hs:=(wb Z).2;have hd:x.del=[]:=by
    unfold gD at hs;simpa using hs
   by_cases R:outright s.doc x=ah
   .unfold eO gk;rw[aA R,aA R,mO,qd];exact bp _
   .
    have Y:gk s.doc x∈(e_ p q s.doc.row).map (gk s.doc):=bA.mpr ⟨x,Z,U⟩;have J:eo (next s.doc) (gk s.doc x)=ah:=by rw[xJ];unfold gk;rw[ay R];exact .inl (by simp)
    have Q:M (bj s+1)=ah:=D (jM.mpr ⟨_,yS.mpr (.inl Y),J⟩);unfold eO gk;rw[ay R,ay R,jd,mO,mu];by_cases H:S (bj s+1)=ah
    .have I:iY M S {x with del:=[next s.doc]}=aB:=by
      cases q:iY M S {x with del:=[next s.doc]}with
      |false=>rfl
      |true=>
       rw[qY]at q;have:=q.2 (next s.doc) (by simp) (by rw[j7];exact Q);rw[j7,H]at this;cases this
     rw[I];show 0+_<=_;rw[qd];refine zj λX=>?_;rw[qY]at X⊢;exact⟨λc Y=>X.1 c (by simp[Y]),X.2⟩
    .have I:iY M S {x with ins:=x.ins++[next s.doc]}=aB:=by
      cases q:iY M S {x with ins:=x.ins++[next s.doc]}with
      |false=>rfl
      |true=>
       rw[qY]at q;exact bq (q.1 (next s.doc) (by simp) (by rw[j7];exact Q)) (by rw[j7];exact H)
     rw[I];show _+0<=_;rw[mu];refine zj λX=>?_;rw[qY]at X⊢;refine⟨X.1,λc Y=>?_⟩;rw[hd]at Y;simp at Y
 .rw [Cd,aP];have B:=vH (f:=eO s.doc) (LK) s.doc.row p q;have j:=af' s.doc.row p q;have k:=ahd h b;have m:=b.bG;rw[J4];omega
end
noncomputable def bC:Nat->List aE->List aE×List aE
 |_,[]=>([],[])
 |p,x::r=>if shown x=ah then(if p=0 then([],x::r)else(x::(bC (p-1) r).1,(bC (p-1) r).2))else(x::(bC p r).1,(bC p r).2)
theorem ot:∀(row:List aE) (p:Nat),(bC p row).1++(bC p row).2=row
 |[],p=>rfl
 |x::r,p=>by
  unfold bC;split
  .split
   .rfl
   .show x::((bC (p-1) r).1++(bC (p-1) r).2)=_;rw[ot r]
  .show x::((bC p r).1++(bC p r).2)=_;rw[ot r]
theorem yT(new:List aE):∀(row:List aE) (p:Nat),putBefore new p row=(bC p row).1++(new++(bC p row).2)
 |[],p=>by unfold putBefore bC;simp
 |x::r,p=>by
  unfold putBefore bC;by_cases hs:shown x=ah
  .rw [aA hs,aA hs];by_cases h0:p=0
   .rw [aA h0,aA h0];rfl
   .rw [ay h0,ay h0,yT new r];rfl
  .rw [ay hs,ay hs,yT new r];rfl
def d6(f:aE->List aE)(x:aE):List aE:=if shown x=ah then f x else[x]
theorem Hr(f:aE->List aE):∀(row:List aE) (p:Nat),onStretch f p 0 row=row
 |[],p=>by unfold onStretch;rfl
 |x::r,p=>by
  unfold onStretch;by_cases hs:shown x=ah
  .rw [aA hs,ay (by omega)];show x::onStretch f (p-1) 0 r=_;rw[Hr f r]
  .rw [ay hs,Hr f r]
theorem Hq(f:aE->List aE):∀(row:List aE) (q:Nat),0<q->onStretch f 0 q row=(bC q row).1.flatMap (d6 f)++(bC q row).2
 |[],q,_=>by unfold onStretch bC;rfl
 |x::r,q,Y=>by
  unfold onStretch bC;by_cases hs:shown x=ah
  .rw [aA hs,aA hs,aA ⟨U,Y⟩,ay (by lia)];show f x++onStretch f 0 (q-1) r=(d6 f x++_)++_;have e:d6 f x=f x:=by unfold d6;rw[aA hs]
   rw[e,fm];congr 1;by_cases V:0<q-1
   .exact Hq f r (q-1) V
   .have:q-1=0:=by lia
    rw[this,Hr];have X:∀r:List aE,(bC 0 r).1.flatMap (d6 f)++(bC 0 r).2=r:=by
     intro r
     induction r with
     |nil=>rfl
     |cons y r W=>
      unfold bC;by_cases Z:shown y=ah
      .rw [aA Z,aA U];rfl
      .rw [ay Z];show(d6 f y++(bC 0 r).1.flatMap (d6 f))++(bC 0 r).2=_;have e:d6 f y=[y]:=by unfold d6;rw[ay Z]
       rw[e,fm,W];rfl
    exact(X r).symm
  .rw [ay hs,ay hs];show x::onStretch f 0 q r=(d6 f x++_)++_;have e:d6 f x=[x]:=by unfold d6;rw[ay hs]
   rw[e,Hq f r q Y,fm];rfl
theorem vJ(f:aE->List aE):∀(row:List aE) (p q:Nat),p<q->onStretch f p q row=(bC p row).1++((bC (q-p) (bC p row).2).1.flatMap (d6 f)++(bC (q-p) (bC p row).2).2)
 |[],p,q,_=>by unfold onStretch bC bC;rfl
 |x::r,p,q,h=>by
  by_cases h0:p=0
  .subst h0;by_cases hs:shown x=ah
   .have e:bC 0 (x::r)=([],x::r):=by unfold bC;rw[aA hs,aA U]
    rw[e];exact Hq f (x::r) q h
   .have e:bC 0 (x::r)=(x::(bC 0 r).1,(bC 0 r).2):=by
     conv=>lhs;unfold bC
     rw[ay hs]
    rw[e];show onStretch f 0 q (x::r)=x::((bC 0 r).1++_);unfold onStretch;rw[ay hs,vJ f r 0 q h]
  .by_cases hs:shown x=ah
   .have e:bC p (x::r)=(x::(bC (p-1) r).1,(bC (p-1) r).2):=by
     conv=>lhs;unfold bC
     rw[aA hs,ay h0]
    rw[e];unfold onStretch;rw[aA hs,ay (by lia),vJ f r (p-1) (q-1) (by lia)];have Z:q-1-(p-1)=q-p:=by lia
    rw[Z];rfl
   .have e:bC p (x::r)=(x::(bC p r).1,(bC p r).2):=by
     conv=>lhs;unfold bC
     rw[ay hs]
    rw[e];unfold onStretch;rw[ay hs,vJ f r p q h];rfl
theorem wB:∀(row:List aE) (p:Nat),visible (bC p row).1=(visible row).take p
 |[],p=>by unfold bC;simp[visible]
 |x::r,p=>by
  unfold bC;by_cases hs:shown x=ah
  .rw [aA hs,mh hs];by_cases h0:p=0
   .subst h0;rw[aA U];rfl
   .rw [ay h0];obtain⟨k,rfl⟩:∃k,p=k+1:=⟨p-1,by lia⟩;show visible (x::_)=_;rw[mh hs,wB r];rfl
  .rw [ay hs];show visible (x::(bC p r).1)=_;rw[oz hs,oz hs,wB r]
theorem zr:∀(row:List aE) (p:Nat),visible (bC p row).2=(visible row).drop p
 |[],p=>by unfold bC;simp[visible]
 |x::r,p=>by
  unfold bC;by_cases hs:shown x=ah
  .rw [aA hs];by_cases h0:p=0
   .subst h0;rw[aA U];rfl
   .rw [ay h0,mh hs];obtain⟨k,rfl⟩:∃k,p=k+1:=⟨p-1,by lia⟩;exact zr r k
  .rw [ay hs,oz hs];exact zr r p
def QS(row:List aE)(p q:Nat):e_ p q row=(bC (q-p) (bC p row).2).1.filter shown:=by show _=visible _;rw[wB,zr];rfl
structure ak where
 cells:List (Nat×List Nat)
 ins:List Nat
 del:List Nat
 pend:List cW
deriving DecidableEq
def ak.bz(r:ak)(c:Nat×List Nat):aE:={sign:=c.1,look:=c.2,ins:=r.ins,del:=r.del,pend:=r.pend}
def ak.ao(r:ak):List aE:=r.cells.map r.bz
def ao(rs:List ak):List aE:=rs.flatMap ak.ao
def ak.shown(r:ak):Bool:=r.del.isEmpty
def bP(rs:List ak):Prop:=∀r∈rs,r.cells≠[]
def L9:ao []=[]:=rfl
def d5(r:ak)(rs:List ak):ao (r::rs)=r.ao++ao rs:=by unfold ao;rw[dW]
def ik(a b:List ak):ao (a++b)=ao a++ao b:=by unfold ao;rw[gw]
def kO(r:ak):ao [r]=r.ao:=by rw[d5,L9,ee]
def E9(rs:List ak):(ao rs).length=(rs.map (·.cells.length)).sum:=by
 induction rs with
 |nil=>rfl
 |cons r rs Z=>rw[d5,bb,Z,bM,gJ];unfold ak.ao;rw[aP]
def bP.bG{rs:List ak}(h:bP rs):rs.length<=(ao rs).length:=by
 induction rs with
 |nil=>exact bp _
 |cons r rs Z=>
  have X:=h r cy;have:=Z λx Y=>h x (cj _ Y);rw[d5,bb,bY];unfold ak.ao;rw[aP];have:0<r.cells.length:=R5.mpr X;lia
def oa{rs:List ak}{x:aE}:x∈ao rs↔∃r∈rs,∃c∈r.cells,x=r.bz c:=by
 unfold ao ak.ao;rw[ny];constructor
 .rintro ⟨r,Y,Z⟩
  obtain⟨c,X,rfl⟩:=bA.mp Z;exact⟨r,Y,c,X,U⟩
 .rintro ⟨r,Y,c,Z,rfl⟩
  exact⟨r,Y,bA.mpr ⟨c,Z,U⟩⟩
def acS(r:ak)(c:Nat×List Nat):gD (r.bz c)=r.shown:=rfl
def Dg(rs:List ak):visible (ao rs)=ao (rs.filter ak.shown):=by
 induction rs with
 |nil=>rfl
 |cons r rs Z=>
  rw[d5,Jr,Z,gv];have:visible r.ao=if r.shown=ah then r.ao else[]:=by
   unfold visible ak.ao;rw[nk];by_cases h:r.shown=ah
   .rw [aA h];congr 1;rw[t9];intro c _;exact h
   .rw [ay h];have:r.cells.filter (gD∘r.bz)=[]:=by
     rw[DB];intro c _;exact h
    rw[this];rfl
  rw[this];by_cases h:r.shown=ah
  .rw [aA h,aA h,d5]
  .rw [ay h,ay h];rfl
def ak.part(r:ak)(a b:Nat):ak:={r with cells:=(r.cells.drop a).take (b-a)}
def O4(r:ak)(p:Nat)(Z:p<=r.cells.length):(r.part 0 p).ao++(r.part p r.cells.length).ao=r.ao:=by unfold ak.ao ak.part;show(((r.cells.drop 0).take (p-0)).map r.bz)++(((r.cells.drop p).take (r.cells.length-p)).map r.bz)=_;rw[<-cG,p8,zQ];have:(r.cells.drop p).take (r.cells.length-p)=r.cells.drop p:=zK (by rw[jN];exact bp _);rw[this,rL]
noncomputable def bu:List ak->Nat->List ak×List ak
 |[],_=>([],[])
 |r::rs,p=>
  if r.shown=ah then
   (if p=0 then([],r::rs)else if p<r.cells.length then([r.part 0 p],r.part p r.cells.length::rs)else(r::(bu rs (p-r.cells.length)).1,(bu rs (p-r.cells.length)).2))
  else(r::(bu rs p).1,(bu rs p).2)
def af1{l:List aE}(h:∀x∈l,¬gD x=ah)(rest:List aE)(p:Nat):bC p (l++rest)=(l++(bC p rest).1,(bC p rest).2):=by
 induction l with
 |nil=>rfl
 |cons x l Z=>
  have Z:=Z λy Y=>h y (cj _ Y);show bC p (x::(l++rest))=_
  conv=>lhs;unfold bC
  rw[ay (h x cy),Z];rfl
def QE{l:List aE}(h:∀x∈l,gD x=ah)(rest:List aE)(p:Nat)(X:l.length<=p):bC p (l++rest)=(l++(bC (p-l.length) rest).1,(bC (p-l.length) rest).2):=by
 induction l generalizing p with
 |nil=>rfl
 |cons x l Z=>
  rw[bY]at X;have Z:=Z (λy Y=>h y (cj _ Y)) (p-1) (by lia);show bC p (x::(l++rest))=_
  conv=>lhs;unfold bC
  rw[aA (h x cy),ay (by lia),Z];have:p-1-l.length=p-(x::l).length:=by rw[bY];lia
  rw[this];rfl
def QD{x:aE}(h:gD x=ah)(rest:List aE):bC 0 (x::rest)=([],x::rest):=by unfold bC;rw[aA h,aA U]
def adH{r:ak}(h:¬r.shown=ah):∀x∈r.ao,¬gD x=ah:=by intro x Z;unfold ak.ao at Z;obtain⟨c,_,rfl⟩:=bA.mp Z;exact h
def P6{r:ak}(h:r.shown=ah):∀x∈r.ao,gD x=ah:=by intro x Z;unfold ak.ao at Z;obtain⟨c,_,rfl⟩:=bA.mp Z;exact h
theorem BG:∀(rs:List ak) (p:Nat),bP rs->(ao (bu rs p).1,ao (bu rs p).2)=bC p (ao rs)
 |[],p,_=>by unfold bu bC ao;rfl
 |r::rs,p,Q=>by
  have X:bP rs:=λx T=>Q x (cj _ T);have S:=Q r cy;rw[d5];unfold bu;by_cases hs:r.shown=ah
  .rw [aA hs];by_cases h0:p=0
   .subst h0;rw[aA U];obtain⟨c,cs,e⟩:=JQ S;have R:r.ao=r.bz c::cs.map r.bz:=by unfold ak.ao;rw[e,bM]
    show([],ao (r::rs))=_;rw[d5,R];exact(QD (show gD (r.bz c)=ah from hs) _).symm
   .rw [ay h0];by_cases Z:p<r.cells.length
    .rw [aA Z];show(ao [r.part 0 p],ao (r.part p r.cells.length::rs))=_;rw[kO,d5];have P:=O4 r p (jO Z);have Y:(r.part 0 p).ao.length=p:=by
      unfold ak.ao ak.part;rw[aP];simp;lia
     conv=>rhs;rw[<-P,fm]
     rw[QE (λx T=>P6 (r:=r.part 0 p) hs x T) _ p (by rw[Y];exact bp _),Y,DP];have W:(r.part p r.cells.length).cells≠[]:=by unfold ak.part;dsimp only;intro z;have:=b_ fo z;simp at this;lia
     obtain⟨c,cs,e⟩:=JQ W;have R:(r.part p r.cells.length).ao=(r.part p r.cells.length).bz c::cs.map (r.part p r.cells.length).bz:=by unfold ak.ao;rw[e,bM]
     rw[R,oF,QD (show gD ((r.part p r.cells.length).bz c)=ah from hs),ee]
    .rw [ay Z];have V:=BG rs (p-r.cells.length) X;show(ao (r::_),ao _)=_;have Y:r.ao.length=r.cells.length:=by unfold ak.ao;rw[aP]
     rw[d5,QE (P6 hs) _ p (by rw[Y];lia),Y,<-V]
  .rw [ay hs];have V:=BG rs p X;show(ao (r::_),ao _)=_;rw[d5,af1 (adH hs),<-V]
theorem m1:∀(rs:List ak) (p:Nat),bP rs->bP (bu rs p).1/\bP (bu rs p).2
 |[],p,_=>by unfold bu;exact⟨λ_ h=>bq h (by simp),λ_ h=>bq h (by simp)⟩
 |r::rs,p,S=>by
  have Z:bP rs:=λx T=>S x (cj _ T);have X:=S r cy;have cons:∀{x:ak} {l:List ak},x.cells≠[]->bP l->bP (x::l):=λT Q y V=>by
   rcases bJ.mp V with e|V
   .rw [e];exact T
   .exact Q y V
  unfold bu;split
  .split
   .exact ⟨λ_ h=>bq h (by simp),S⟩
   .split
    .rename_i P R;refine⟨cons ?_ (λ_ h=>bq h (by simp)),cons ?_ Z⟩
     .unfold ak.part;dsimp only;intro z;have W:=b_ fo z;rw[iz,jN,nv]at W;lia
     .unfold ak.part;dsimp only;intro z;have W:=b_ fo z;rw[iz,jN,nv]at W;lia
    .have Y:=m1 rs (p-r.cells.length) Z;exact⟨cons X Y.1,Y.2⟩
  .have Y:=m1 rs p Z;exact⟨cons X Y.1,Y.2⟩
theorem uW{Z:Type}(f:Z->Nat):∀(l:List Z) (n:Nat),l.foldl (λn x=>n+f x) n=n+l.foldl (λn x=>n+f x) 0
 |[],n=>rfl
 |a::l,n=>by show l.foldl _ (n+f a)=n+l.foldl _ (0+f a);rw[uW f l (n+f a),uW f l (0+f a)];lia
def A3{Z:Type}(f:Z->Nat)(a b:List Z):(a++b).foldl (λn x=>n+f x) 0=a.foldl (λn x=>n+f x) 0+b.foldl (λn x=>n+f x) 0:=by rw[wQ,uW]
noncomputable def dO(x:aE):List Nat:=x.ins++(x.del++x.pend.map (·.change))
def Ot(a b:List Nat)(c:Nat):cO (a++b) c=cO a c+cO b c:=by unfold cO;rw[ku,bb]
def Ou(l:List cW)(c:Nat):(l.filter λy=>y.change==c).length=cO (l.map (·.change)) c:=by unfold cO;rw[nk,aP];rfl
def GL(x:aE)(c:Nat):cz [x] c=cO (dO x) c:=by unfold cz mI mH mK dO;simp only[mn,List.foldl_nil];rw[Ot,Ot,Ou];lia
def kU(a b:List aE)(c:Nat):cz (a++b) c=cz a c+cz b c:=by unfold cz mI mH mK;rw[A3 (λx:aE=>cO x.ins c),A3 (λx:aE=>cO x.del c),A3 (λx:aE=>(x.pend.filter λy=>y.change==c).length)];lia
def GK(c:Nat):cz [] c=0:=rfl
def GJ(x:aE)(r:List aE)(c:Nat):cz (x::r) c=cO (dO x) c+cz r c:=by rw[<-GL];exact kU [x] r c
def Lc(a b:List aE):gM (a++b)=gM a+gM b:=by unfold gM;exact A3 (λx:aE=>x.ins.length+(x.del.length+x.pend.length)) a b
def Tu(x:aE):gM [x]=(dO x).length:=by unfold gM dO;simp only[mn,List.foldl_nil,bb,aP];lia
def N2{l:List Nat}:0<cO l c↔c∈l:=by
 unfold cO;rw[List.length_pos_iff_exists_mem];constructor
 .rintro ⟨a,h⟩
  obtain⟨Y,Z⟩:=d4.mp h;exact(eq_of_beq Z)▸Y
 .intro h;exact⟨c,d4.mpr ⟨h,by simp⟩⟩
def Lk{x:aE}:eo c x=ah↔c∈dO x:=by rw[xJ];unfold dO;rw[cZ,cZ,bA]
def aaq{row:List aE}:0<cz row c↔∃x∈row,c∈dO x:=by
 induction row with
 |nil=>rw[GK];simp
 |cons x r Y=>
  rw[GJ];constructor
  .intro h;by_cases X:0<cO (dO x) c
   .exact ⟨x,cy,N2.mp X⟩
   .obtain ⟨y,Z,q⟩:=Y.mp (by omega);exact⟨y,cj _ Z,q⟩
  .rintro ⟨y,Z,q⟩
   rcases bJ.mp Z with e|Z
   .subst e;have:=N2.mpr q;omega
   .have:=Y.mpr ⟨y,Z,q⟩;omega
def wu(acc:Bool)(c:Nat)(a b:List aE):bQ acc c (a++b)=bQ acc c a++bQ acc c b:=by unfold bQ;rw[gw]
def ahc(acc:Bool)(c:Nat):bQ acc c []=[]:=rfl
def Rn(acc:Bool)(c:Nat)(x:aE):bQ acc c [x]=fq acc c x:=by unfold bQ;rw[dW,mm,ee]
def aa9{a b:List Nat}(h:a.Sublist b)(c:Nat):cO a c<=cO b c:=by unfold cO;exact(h.filter _).length_le
def aey(c:Nat)(x:aE)(k:Nat):(settleIn c x k).pend.Sublist x.pend:=by
 unfold settleIn;dsimp only;split
 .exact IE c k x.pend
 .exact zB _
theorem Qk(c:Nat):∀(l:List Nat) (x:aE),(l.foldl (settleIn c) x).pend.Sublist x.pend
 |[],x=>zB _
 |k::l,x=>by rw[mn];exact(Qk c l _).trans (aey c x k)
def Lz{a b:aE}(X:a.ins.Sublist b.ins)(Y:a.del.Sublist b.del)(Z:a.pend.Sublist b.pend):(dO a).Sublist (dO b):=by unfold dO;exact X.append (Y.append (Z.map _))
def Rl{acc:Bool}{x:aE}(h:y∈fq acc c x):(dO y).Sublist (dO x):=by
 unfold fq at h;cases acc with
 |true=>
  rw[aA U]at h;unfold kH at h;split at h
  .simp at h
  .rw [bx.mp h];obtain⟨Y,Z,_⟩:=ID c {x with ins:=fu c x.ins} o6;refine Lz (by rw[Y];exact wC c x.ins) (by rw[Z];exact zB _) (Qk c _ _)
 |false=>
  rw[ay cg]at h;unfold kI at h;split at h
  .simp at h
  .rw [bx.mp h];exact Lz (zB _) (wC c x.del) wO
def aha(acc:Bool)(c d:Nat)(x:aE):cz (fq acc c x) d<=cO (dO x) d:=by
 have Z:=Rk acc c x
 match q:fq acc c x,Z with
 |[],_=>rw[GK];exact cN _
 |[y],_=>
  rw[GL];exact aa9 (Rl (acc:=acc) (c:=c) (by rw[q];simp)) d
 |_::_::_,h=>simp at h
theorem Jp(acc:Bool)(c d:Nat):∀row:List aE,cz (bQ acc c row) d<=cz row d
 |[]=>bp _
 |x::r=>by
  have e:bQ acc c (x::r)=fq acc c x++bQ acc c r:=by unfold bQ;rw[dW]
  rw[e,kU,GJ];have Y:=aha acc c d x;have Z:=Jp acc c d r;lia
structure T3 where
 a:Int
 r:Int
 f:Int
deriving DecidableEq
namespace T3
def zero:T3:=⟨0,0,0⟩
def add(x y:T3):T3:=⟨x.a+y.a,x.r+y.r,x.f+y.f⟩
def mul(n:Int)(x:T3):T3:=⟨n*x.a,n*x.r,n*x.f⟩
def ext{x y:T3}(X:x.a=y.a)(Y:x.r=y.r)(Z:x.f=y.f):x=y:=by cases x;cases y;simp_all
def add_zero(x:T3):x.add zero=x:=ext (jL _) (jL _) (jL _)
def zero_add(x:T3):zero.add x=x:=ext (JM _) (JM _) (JM _)
def add_assoc(x y z:T3):(x.add y).add z=x.add (y.add z):=ext (JG _ _ _) (JG _ _ _) (JG _ _ _)
def add_comm(x y:T3):x.add y=y.add x:=ext (JH _ _) (JH _ _) (JH _ _)
def mul_add(n:Int)(x y:T3):mul n (x.add y)=(mul n x).add (mul n y):=ext (Dn _ _ _) (Dn _ _ _) (Dn _ _ _)
def add_mul(n m:Int)(x:T3):mul (n+m) x=(mul n x).add (mul m x):=ext (JI _ _ _) (JI _ _ _) (JI _ _ _)
def zero_mul(x:T3):mul 0 x=zero:=ext (Dr _) (Dr _) (Dr _)
def mul_zero(n:Int):mul n zero=zero:=ext (oC _) (oC _) (oC _)
def one_mul(x:T3):mul 1 x=x:=ext (JL _) (JL _) (JL _)
end T3
def tl(acc:Bool)(c d:Nat)(n:Int):T3:=if d=c then(if acc=ah then⟨n,0,0⟩else⟨0,n,0⟩)else⟨0,0,n⟩
def zi(acc:Bool)(c d:Nat)(n m:Int):tl acc c d (n+m)=(tl acc c d n).add (tl acc c d m):=by
 unfold tl;split
 .split
  .exact T3.ext U rfl rfl
  .exact T3.ext U rfl rfl
 .exact T3.ext U rfl rfl
def Jc(acc:Bool)(c d:Nat):tl acc c d 0=T3.zero:=by
 unfold tl;split
 .split<;>rfl
 .rfl
def agO(acc:Bool)(c d:Nat)(w n:Int):tl acc c d (w*n)=T3.mul w (tl acc c d n):=by
 unfold tl;split
 .split
  .exact T3.ext U (oC _).symm (oC _).symm
  .exact T3.ext (oC _).symm rfl (oC _).symm
 .exact T3.ext (oC _).symm (oC _).symm rfl
def c_(acc:Bool):List Nat->List aE->Nat->T3
 |[],_,_=>T3.zero
 |c::cs,row,d=>(tl acc c d ((cz row d:Int)-(cz (bQ acc c row) d:Int))).add (c_ acc cs (bQ acc c row) d)
def fM(acc:Bool)(cs:List Nat)(row:List aE):List aE:=cs.foldl (λrow c=>bQ acc c row) row
theorem EA(acc:Bool):∀(cs:List Nat) (a b:List aE),fM acc cs (a++b)=fM acc cs a++fM acc cs b
 |[],a,b=>rfl
 |c::cs,a,b=>by show fM acc cs (bQ acc c (a++b))=_;rw[wu,EA acc cs];rfl
theorem xG(acc:Bool):∀(cs:List Nat),fM acc cs []=[]
 |[]=>rfl
 |c::cs=>xG acc cs
theorem K'(acc:Bool)(cs:List Nat):∀row:List aE,fM acc cs row=row.flatMap λx=>fM acc cs [x]
 |[]=>xG acc cs
 |x::r=>by rw[show x::r=[x]++r from U,EA,gw,<-K' acc cs r];simp
theorem Fh(acc:Bool):∀(cs:List Nat) (a b:List aE) (d:Nat),c_ acc cs (a++b) d=(c_ acc cs a d).add (c_ acc cs b d)
 |[],a,b,d=>(T3.add_zero _).symm
 |c::cs,a,b,d=>by
  unfold c_;rw[wu,Fh acc cs,kU,kU];have e:(((cz a d+cz b d:Nat):Int)-((cz (bQ acc c a) d+cz (bQ acc c b) d:Nat):Int))=((cz a d:Int)-(cz (bQ acc c a) d:Int))+((cz b d:Int)-(cz (bQ acc c b) d:Int)):=by lia
  rw[e,zi];simp only[T3.add_assoc];congr 1;rw[<-T3.add_assoc,<-T3.add_assoc,T3.add_comm (tl acc c d ((cz b d:Int)-_))]
theorem u0(acc:Bool):∀(cs:List Nat) (d:Nat),c_ acc cs [] d=T3.zero
 |[],d=>rfl
 |c::cs,d=>by unfold c_;rw[ahc,u0 acc cs,GK];show(tl acc c d (0-0)).add _=_;rw[Int.sub_self,Jc];rfl
def t4(t:iS):T3:=⟨t.accepted,t.rejected,t.fallen⟩
def Q4(acc:Bool)(c d n:Nat)(t:iS):t4 (Vatrkc.tallied acc c d n t)=(t4 t).add (tl acc c d n):=by
 unfold Vatrkc.tallied tl t4;split
 .split
  .exact T3.ext (by show((t.accepted+n:Nat):Int)=(t.accepted:Int)+n;lia) (jL _).symm (jL _).symm
  .exact T3.ext (jL _).symm (by show((t.rejected+n:Nat):Int)=(t.rejected:Int)+n;lia) (jL _).symm
 .exact T3.ext (jL _).symm (jL _).symm (by show((t.fallen+n:Nat):Int)=(t.fallen:Int)+n;lia)
def iu(l:List iS)(d:Nat):T3:=t4 ((l[d-1]?).getD {})
def Q5{n d:Nat}(Z:1<=d)(Y:d<=n)(f:Nat->iS):iu (((uf n).map λi=>i+1).map f) d=t4 (f d):=by unfold iu;rw[cf,cf,List.getElem?_range (by omega)];show t4 (f (d-1+1))=_;rw[J6 Z]
noncomputable def outer(s:bf)(partly:Bool)(cs:List Nat):List Nat:=cs.filter λc=>!partly||isMove s c
theorem Mj(s:bf)(acc partly:Bool):∀(cs:List Nat) (w:ja×List iS),(giveAll s acc partly cs w).1=⟨fM acc (outer s partly cs) w.1.front,fM acc cs w.1.part,fM acc (outer s partly cs) w.1.back⟩/\∀d,1<=d->d<=bj s->iu (giveAll s acc partly cs w).2 d=(iu w.2 d).add ((c_ acc (outer s partly cs) w.1.front d).add ((c_ acc cs w.1.part d).add (c_ acc (outer s partly cs) w.1.back d)))
 |[],w=>⟨U,λd _ _=>(T3.add_zero _).symm⟩
 |c::cs,w=>by
  unfold giveAll;obtain⟨V,W⟩:=Mj s acc partly cs (g_ acc (!partly||isMove s c) (ie s) c w);cases he:(!partly||isMove s c)with
  |true=>
   rw[he]at V W;have S:outer s partly (c::cs)=c::outer s partly cs:=by unfold outer;rw[gv,aA he]
   rw[S];refine⟨V,λd Y Z=>?_⟩;rw[W d Y Z];have R:iu (g_ acc ah (ie s) c w).2 d=(iu w.2 d).add (tl acc c d ((cz w.1.row d:Int)-(cz (bQ acc c w.1.row) d:Int))):=by
    unfold g_;dsimp only;rw[aA U];unfold ie;rw[Q5 Y Z,Q4];have T:lI ⟨bQ acc c w.1.front,bQ acc c w.1.part,bQ acc c w.1.back⟩=bQ acc c w.1.row:=by unfold lI;rw[wu,wu]
    rw[T];have:=Jp acc c d w.1.row;have e:((cz w.1.row d-cz (bQ acc c w.1.row) d:Nat):Int)=(cz w.1.row d:Int)-(cz (bQ acc c w.1.row) d:Int):=by lia
    rw[e];rfl
   rw[R];have X:∀(l:List Nat) (row:List aE),c_ acc (c::l) row d=(tl acc c d ((cz row d:Int)-(cz (bQ acc c row) d:Int))).add (c_ acc l (bQ acc c row) d):=λ_ _=>rfl;rw[X,X,X];show((iu w.2 d).add _).add ((c_ acc (outer s partly cs) (bQ acc c w.1.front) d).add ((c_ acc cs (bQ acc c w.1.part) d).add (c_ acc (outer s partly cs) (bQ acc c w.1.back) d)))=_;have T:tl acc c d ((cz w.1.row d:Int)-(cz (bQ acc c w.1.row) d:Int))=(tl acc c d ((cz w.1.front d:Int)-(cz (bQ acc c w.1.front) d:Int))).add ((tl acc c d ((cz w.1.part d:Int)-(cz (bQ acc c w.1.part) d:Int))).add (tl acc c d ((cz w.1.back d:Int)-(cz (bQ acc c w.1.back) d:Int)))):=by rw[<-zi,<-zi];congr 1;unfold lI;rw[wu,wu,kU,kU,kU,kU];lia
   rw[T];exact T3.ext (by simp only[T3.add];lia) (by simp only[T3.add];lia) (by simp only[T3.add];lia)
  |false=>
   rw[he]at V W;have S:outer s partly (c::cs)=outer s partly cs:=by unfold outer;rw[gv,ay (by rw[he];exact cg)]
   rw[S];refine⟨V,λd Y Z=>?_⟩;rw[W d Y Z];have R:iu (g_ acc aB (ie s) c w).2 d=(iu w.2 d).add (tl acc c d ((cz w.1.part d:Int)-(cz (bQ acc c w.1.part) d:Int))):=by
    unfold g_;dsimp only;rw[ay cg];unfold ie;rw[Q5 Y Z,Q4];have e:((cz w.1.row d-cz (lI {w.1 with part:=bQ acc c w.1.part}) d:Nat):Int)=(cz w.1.part d:Int)-(cz (bQ acc c w.1.part) d:Int):=by unfold lI;dsimp only;rw[kU,kU,kU,kU];have:=Jp acc c d w.1.part;lia
    rw[e];rfl
   rw[R];have X:c_ acc (c::cs) w.1.part d=(tl acc c d ((cz w.1.part d:Int)-(cz (bQ acc c w.1.part) d:Int))).add (c_ acc cs (bQ acc c w.1.part) d):=rfl;rw[X];show((iu w.2 d).add _).add ((c_ acc (outer s partly cs) w.1.front d).add ((c_ acc cs (bQ acc c w.1.part) d).add (c_ acc (outer s partly cs) w.1.back d)))=_;exact T3.ext (by simp only[T3.add];lia) (by simp only[T3.add];lia) (by simp only[T3.add];lia)
structure b7 where
 ins:List Nat
 del:List Nat
 pend:List cW
deriving DecidableEq
def b7.aI(m:b7):List Nat:=m.ins++(m.del++m.pend.map (·.change))
def jC(x:aE):b7:=⟨x.ins,x.del,x.pend⟩
def ak.aT(r:ak):b7:=⟨r.ins,r.del,r.pend⟩
structure b7.Ok (n:Nat) (m:b7):Prop where
 ins:∀c∈m.ins,1<=c/\c<=n
 del:∀c∈m.del,1<=c/\c<=n
 pend:∀y∈m.pend,(1<=y.change/\y.change<=n)/\y.prop<=3
 hG:m.ins.Pairwise (·<·)
 gq:(m.pend.map (·.change)).Pairwise (·<·)
 dl:m.del.length<=1
def cX.aT{n:Nat}{x:aE}(h:cX n x):(jC x).Ok n:=⟨h.ins,h.del,h.pend,h.hG,h.gq,h.dl⟩
theorem b7.Ok.aI{n:Nat}{m:b7}(h:m.Ok n):∀c∈m.aI,1<=c/\c<=n:=λc Z=>by
 unfold b7.aI at Z;rcases cZ.mp Z with q|q
 .exact h.ins c q
 .rcases cZ.mp q with q|q
  .exact h.del c q
  .obtain ⟨y,Y,rfl⟩:=bA.mp q;exact(h.pend y Y).1
def b7.Ok.bG{n:Nat}{m:b7}(h:m.Ok n):m.aI.length<=2*n+1:=by
 unfold b7.aI;rw[bb,bb,aP];have W:=Co h.hG h.ins;have X:=Co h.gq (n:=n) (λc Y=>by obtain⟨y,Z,rfl⟩:=bA.mp Y;exact(h.pend y Z).1)
 rw[aP]at X;have:=h.dl;lia
noncomputable def mL(c:Nat):List cW->Option (Nat×Nat×List cW)
 |[]=>aj
 |y::r=>if y.change=c then aa (y.prop,y.value,r)else match mL c r with
  |none=>aj
  |some z=>aa (z.1,z.2.1,if y.prop=z.1 then z.2.2 else y::z.2.2)
theorem Aq{c:Nat}:∀{l:List cW},(∀y∈l,y.change≠c)->mL c l=aj
 |[],_=>rfl
 |y::r,h=>by unfold mL;rw[ay (h y cy),Aq λz hz=>h z (cj _ hz)]
theorem CJ{c k:Nat}:∀{l:List cW},(∀y∈l,y.change≠c)->settle c k l=(aj,l)
 |[],_=>rfl
 |y::r,h=>by unfold settle;rw[CJ λz hz=>h z (cj _ hz)];dsimp only;rw[ay];unfold Am;rw[fk,iE];exactλq=>h y cy q.1
theorem Ey{c:Nat}:∀{l:List cW},(l.map (·.change)).Pairwise (·<·)->c∈l.map (·.change)->∃k v m,mL c l=aa (k,v,m)/\settle c k l=(aa v,m)/\(∀j,j≠k->settle c j l=(aj,l))/\(∀y∈m,y.change≠c)/\m.Sublist l/\∃y∈l,y.prop=k/\y.change=c/\y.value=v
 |[],_,h=>by simp at h
 |y::r,W,h=>by
  rw[bM,zH]at W;obtain⟨M,N⟩:=W;by_cases Z:y.change=c
  .have Y:∀z∈r,z.change≠c:=λz hz e=>by
    have:=M z.change (bA.mpr ⟨z,hz,U⟩);lia
   refine⟨y.prop,y.value,r,?_,?_,λj X=>?_,Y,List.sublist_cons_self y r,y,cy,U,Z,U⟩
   .unfold mL;rw[aA Z]
   .unfold settle;rw[CJ Y];dsimp only;rw[aA];unfold Am;rw[fk,iE,iE];exact⟨Z,U⟩
   .unfold settle;rw[CJ Y];dsimp only;rw[ay];unfold Am;rw[fk,iE,iE];exactλq=>X q.2.symm
  .have O:c∈r.map (·.change):=by
    rw[bM]at h;rcases bJ.mp h with q|q
    .exact bq q.symm Z
    .exact q
   obtain⟨k,v,m,J,K,L,T,V,z,hz,Q,R,S⟩:=Ey N O;have P:∀j,¬Am c j y=ah:=λj=>by unfold Am;rw[fk,iE];exactλq=>Z q.1
   refine⟨k,v,if y.prop=k then m else y::m,?_,?_,λj X=>?_,λw hw=>?_,?_,z,cj _ hz,Q,R,S⟩
   .unfold mL;rw[ay Z,J]
   .unfold settle;rw[K]
   .unfold settle;rw[L j X];dsimp only;rw[ay (P j)]
   .split at hw
    .exact T w hw
    .rcases bJ.mp hw with q|q
     .rw [q];exact Z
     .exact T w q
   .split
    .exact V.cons y
    .exact V.cons₂ y
theorem CI{c:Nat}{x:aE}(h:∀y∈x.pend,y.change≠c):∀l:List Nat,l.foldl (settleIn c) x=x
 |[]=>rfl
 |k::l=>by
  rw[mn];have e:settleIn c x k=x:=by unfold settleIn;rw[CJ h]
  rw[e];exact CI h l
theorem Ql{c:Nat}{x:aE}{k v:Nat}{m:List cW}(W:settle c k x.pend=(aa v,m))(X:∀j,j≠k->settle c j x.pend=(aj,x.pend))(Y:∀y∈m,y.change≠c):∀l:List Nat,k∈l->l.foldl (settleIn c) x={x with look:=x.look.set k v,pend:=m}
 |[],h=>by simp at h
 |j::l,h=>by
  rw[mn];by_cases Z:j=k
  .subst Z;have e:settleIn c x j={x with look:=x.look.set j v,pend:=m}:=by
    unfold settleIn;rw[W]
   rw[e];exact CI (x:={x with look:=x.look.set j v,pend:=m}) Y l
  .have e:settleIn c x j=x:=by
    unfold settleIn;rw[X j Z]
   rw[e];rcases bJ.mp h with q|q
   .exact bq q.symm Z
   .exact Ql W X Y l q
def IA(f:Nat->Option Nat)(k v:Nat):Nat->Option Nat:=λj=>if j=k then aa v else f j
noncomputable def d7(f:Nat->Option Nat)(look:List Nat):List Nat:=o6.map λk=>(f k).getD (look.getD k 0)
structure fT where
 di:Bool
 aT:b7
 settled:Nat->Option Nat
def iL(m:b7):fT:=⟨aB,m,λ_=>aj⟩
noncomputable def yt(c:Nat)(o:fT):fT:=
 if has o.aT.del c=ah then{o with di:=ah}
 else match mL c o.aT.pend with
  |none=>{o with aT:={o.aT with ins:=fu c o.aT.ins}}
  |some z=>{o with aT:=⟨fu c o.aT.ins,o.aT.del,z.2.2⟩,settled:=IA o.settled z.1 z.2.1}
def yw(c:Nat)(o:fT):fT:=
 if has o.aT.ins c=ah then{o with di:=ah}
 else{o with aT:=⟨o.aT.ins,fu c o.aT.del,o.aT.pend.filter λy=>!(y.change==c)⟩}
def jh(acc:Bool)(c:Nat)(o:fT):fT:=if acc=ah then yt c o else yw c o
def gp(o:fT)(x:aE):List aE:=if o.di=ah then[]else[{x with look:=d7 o.settled x.look,ins:=o.aT.ins,del:=o.aT.del,pend:=o.aT.pend}]
def left(o:fT):List Nat:=if o.di=ah then[]else o.aT.aI
def OR(o:fT)(x:aE)(d:Nat):cz (gp o x) d=cO (left o) d:=by
 unfold gp left;split
 .rfl
 .rw [GL];rfl
def Z3{l:List Nat}(h:l.length=4):∃a b c d,l=[a,b,c,d]:=by
 match l,h with
 |[a,b,c,d],_=>exact⟨a,b,c,d,U⟩
def Gw{l:List Nat}(h:l.length=4):d7 (λ_=>aj) l=l:=by obtain⟨a,b,c,d,rfl⟩:=Z3 h;rfl
def NO{f:Nat->Option Nat}{l:List Nat}{k:Nat}(hk:k<=3):(d7 f l).set k v=d7 (IA f k v) l:=by
 match k,hk with
 |0,_=>rfl
 |1,_=>rfl
 |2,_=>rfl
 |3,_=>rfl
 |k+4,h=>lia
def acZ{k:Nat}(hk:k<=3):k∈o6:=by
 match k,hk with
 |0,_=>decide
 |1,_=>decide
 |2,_=>decide
 |3,_=>decide
 |k+4,h=>lia
def Jq{n:Nat}(acc:Bool)(c:Nat)(x:aE)(o:fT)(w:o.aT.Ok n)(Z:o.di=aB):gp (jh acc c o) x=bQ acc c (gp o x):=by
 have P:gp o x=[{x with look:=d7 o.settled x.look,ins:=o.aT.ins,del:=o.aT.del,pend:=o.aT.pend}]:=by unfold gp;rw[Z];rfl
 rw[P,Rn];unfold fq jh;cases acc with
 |true=>
  rw[aA U,aA U];unfold kH yt;dsimp only;by_cases hd:has o.aT.del c=ah
  .rw [aA hd,aA hd];rfl
  .rw [ay hd,ay hd];by_cases W:c∈o.aT.pend.map (·.change)
   .obtain ⟨k,v,m,Q,R,S,T,O,y,Y,V,_,_⟩:=Ey w.gq W;have hk:k<=3:=by rw[<-V];exact(w.pend y Y).2
    rw[Q];rw[Ql (c:=c) (x:={x with look:=d7 o.settled x.look,ins:=fu c o.aT.ins,del:=o.aT.del,pend:=o.aT.pend}) R S T _ (acZ hk)];unfold gp;dsimp only;rw[Z,NO hk];rfl
   .have X:∀y∈o.aT.pend,y.change≠c:=λy Y e=>W (bA.mpr ⟨y,Y,e⟩);rw[Aq X,CI (c:=c) (x:={x with look:=d7 o.settled x.look,ins:=fu c o.aT.ins,del:=o.aT.del,pend:=o.aT.pend}) X];unfold gp;dsimp only;rw[Z];rfl
 |false=>
  rw[ay cg,ay cg];unfold kI yw;dsimp only;by_cases hd:has o.aT.ins c=ah
  .rw [aA hd,aA hd];rfl
  .rw [ay hd,ay hd];unfold gp;dsimp only;rw[Z];rfl
def BH{n:Nat}(acc:Bool)(c:Nat)(o:fT)(w:o.aT.Ok n):(jh acc c o).aT.Ok n:=by
 unfold jh;cases acc with
 |true=>
  rw[aA U];unfold yt;have Z:=wC c o.aT.ins;split
  .exact w
  .split
   .exact ⟨λd hd=>w.ins d (Z.subset hd),w.del,w.pend,w.hG.sublist Z,w.gq,w.dl⟩
   .rename_i z e;have hs:z.2.2.Sublist o.aT.pend:=by
     by_cases X:c∈o.aT.pend.map (·.change)
     .obtain ⟨k,v,m,W,R,S,T,V,_⟩:=Ey w.gq X;rw[e]at W;cases W;exact V
     .rw [Aq λy Y e=>X (bA.mpr ⟨y,Y,e⟩)]at e;cases e
    exact⟨λd hd=>w.ins d (Z.subset hd),w.del,λy Y=>w.pend y (hs.subset Y),w.hG.sublist Z,w.gq.sublist (hs.map _),w.dl⟩
 |false=>
  rw[ay cg];unfold yw;have Z:=wC c o.aT.del;have sp:(o.aT.pend.filter λy=>!(y.change==c)).Sublist o.aT.pend:=wO;split
  .exact w
  .exact ⟨w.ins,λd hd=>w.del d (Z.subset hd),λy Y=>w.pend y (sp.subset Y),w.hG,w.gq.sublist (sp.map _),c7 Z.length_le w.dl⟩
def tF(acc:Bool):List Nat->fT->fT
 |[],o=>o
 |c::cs,o=>tF acc cs (if o.di=ah then o else jh acc c o)
noncomputable def qQ(acc:Bool):List Nat->fT->Nat->T3
 |[],_,_=>T3.zero
 |c::cs,o,d=>(if o.di=ah then T3.zero else tl acc c d ((cO (left o) d:Int)-(cO (left (jh acc c o)) d:Int))).add (qQ acc cs (if o.di=ah then o else jh acc c o) d)
theorem GH{n:Nat}(acc:Bool)(x:aE):∀(cs:List Nat) (o:fT),o.aT.Ok n->gp (tF acc cs o) x=fM acc cs (gp o x)/\∀d,qQ acc cs o d=c_ acc cs (gp o x) d
 |[],o,_=>⟨U,λ_=>rfl⟩
 |c::cs,o,w=>by
  unfold tF qQ;by_cases Z:o.di=ah
  .rw [aA Z];have V:gp o x=[]:=by unfold gp;rw[aA Z]
   obtain⟨W,X⟩:=GH acc x cs o w;rw[V]at W X⊢;refine⟨W,λd=>?_⟩;rw[aA Z,X d,u0,u0];rfl
  .rw [ay Z];have Y:o.di=aB:=by cases q:o.di with|false=>rfl|true=>exact bq q Z
   obtain⟨W,X⟩:=GH acc x cs (jh acc c o) (BH acc c o w);rw[Jq acc c x o w Y]at W X;refine⟨W,λd=>?_⟩;rw[ay Z,X d];show _=(tl acc c d ((cz (gp o x) d:Int)-(cz (bQ acc c (gp o x)) d:Int))).add _;rw[<-Jq acc c x o w Y,OR,OR]
def OQ{x:aE}(h:x.look.length=4):gp (iL (jC x)) x=[x]:=by unfold gp iL;show[{x with look:=d7 (λ_=>aj) x.look,ins:=(jC x).ins,del:=(jC x).del,pend:=(jC x).pend}]=[x];rw[Gw h];rfl
def ahb{acc:Bool}{x:aE}(h:¬c∈dO x):fq acc c x=[x]:=by
 unfold dO at h;rw[cZ,cZ,not_or,not_or]at h;obtain⟨W,X,R⟩:=h;have S:fu c x.ins=x.ins:=by unfold fu;rw[t9];intro d hd;have:d≠c:=λe=>W (e▸hd);simp[this]
 have T:fu c x.del=x.del:=by unfold fu;rw[t9];intro d hd;have:d≠c:=λe=>X (e▸hd);simp[this]
 have Y:∀y∈x.pend,y.change≠c:=λy Z e=>R (bA.mpr ⟨y,Z,e⟩);unfold fq;cases acc with
 |true=>
  rw[aA U];unfold kH;rw[ay (λq=>X ((qB _ _).mp q)),S];show[o6.foldl (settleIn c) x]=_;rw[CI Y]
 |false=>
  rw[ay cg];unfold kI;rw[ay (λq=>W ((qB _ _).mp q)),T];have V:(x.pend.filter λy=>!(y.change==c))=x.pend:=by rw[t9];intro y Z;have:=Y y Z;simp[this]
  rw[V]
theorem Rm{acc:Bool}{c:Nat}:∀{l:List aE},(∀x∈l,¬c∈dO x)->bQ acc c l=l
 |[],_=>rfl
 |x::r,h=>by
  have e:bQ acc c (x::r)=fq acc c x++bQ acc c r:=by unfold bQ;rw[dW]
  rw[e,ahb (h x cy),Rm λy Z=>h y (cj _ Z)];rfl
theorem EB(acc:Bool)(p:Nat->Bool):∀(cs:List Nat) (l:List aE),(∀x∈l,∀d∈dO x,p d=ah)->fM acc (cs.filter p) l=fM acc cs l/\∀d,c_ acc (cs.filter p) l d=c_ acc cs l d
 |[],l,_=>⟨U,λ_=>rfl⟩
 |c::cs,l,h=>by
  by_cases W:p c=ah
  .rw [gv,aA W];have h':∀x∈bQ acc c l,∀d∈dO x,p d=ah:=λx Z d hd=>by
    unfold bQ at Z;obtain⟨y,V,Z⟩:=ny.mp Z;exact h y V d ((Rl Z).subset hd)
   obtain⟨X,Y⟩:=EB acc p cs (bQ acc c l) h';refine⟨X,λd=>?_⟩;show T3.add _ (c_ acc (cs.filter p) (bQ acc c l) d)=T3.add _ _;rw[Y d]
  .rw [gv,ay W];have e:bQ acc c l=l:=Rm λx Z T=>W (h x Z c T);obtain⟨X,Y⟩:=EB acc p cs l h;refine⟨?_,λd=>?_⟩
   .show _=fM acc cs (bQ acc c l);rw[e];exact X
   .show _=(tl acc c d ((cz l d:Int)-(cz (bQ acc c l) d:Int))).add (c_ acc cs (bQ acc c l) d);rw[e,Y d,Int.sub_self,Jc,T3.zero_add]
def Pg{n:Nat}(acc:Bool)(cs:List Nat){x:aE}(w:cX n x):gp (tF acc (cs.filter λc=>decide (c∈dO x)) (iL (jC x))) x=fM acc cs [x]/\∀d,qQ acc (cs.filter λc=>decide (c∈dO x)) (iL (jC x)) d=c_ acc cs [x] d:=by
 obtain⟨Y,Z⟩:=GH acc x (cs.filter λc=>decide (c∈dO x)) (iL (jC x)) w.aT;rw[OQ w.look]at Y Z;obtain⟨V,W⟩:=EB acc (λc=>decide (c∈dO x)) cs [x] (λy X d hd=>by rw[bx.mp X]at hd;exact dg hd)
 exact⟨Y.trans V,λd=>(Z d).trans (W d)⟩
theorem yX:∀{a b:List Nat},a.Pairwise (·<·)->b.Pairwise (·<·)->(∀c,c∈a↔c∈b)->a=b
 |[],[],_,_,_=>rfl
 |[],y::b,_,_,h=>by have:=(h y).mpr cy;simp at this
 |x::a,[],_,_,h=>by have:=(h x).mp cy;simp at this
 |x::a,y::b,S,T,h=>by
  obtain⟨X,V⟩:=zH.mp S;obtain⟨Y,W⟩:=zH.mp T;have e:x=y:=by
   rcases bJ.mp ((h x).mp cy)with q|q
   .exact q
   .rcases bJ.mp ((h y).mpr cy)with r|r
    .exact r.symm
    .have:=Y x q;have:=X y r;lia
  subst e;congr 1;refine yX V W λc=>?_;constructor
  .intro Z;rcases bJ.mp ((h c).mp (cj _ Z))with q|q
   .have:=X c Z;lia
   .exact q
  .intro Z;rcases bJ.mp ((h c).mpr (cj _ Z))with q|q
   .have:=Y c Z;lia
   .exact q
def BY(s:bf):(ie s).Pairwise (·<·):=by unfold ie;rw[zJ];exact J0.imp (λh=>by lia)
end ab
namespace TV
open PySem PyProof.Rows L2
open Sem (wp)
variable{a b C p D I:ae}{items:Array af}{Q:VK}{xs ys:List V}{r:ab.ak}{h h':aK}{o:Obj}{E:XK}{s:bf}{prog P:aR}{w:aQ}{N:List Str}{f g:Str}{v u y:V}{H:Hp}{S:List ae}{K:aw}{Y:Nat->V->Hp->Prop}{es:Array (Int×af)}{ep j:Nat}{X:Cx}{e:Expr}{c:bV}{ks:List Nat}
structure IK (prog:aR) (w:aQ) (κ:Type) [DecidableEq κ]where
 is:aK->κ->af->Prop
 hash:κ->Int
 draws:κ->Nat
 fN:Nat
 inj:∀{h:aK} {v:af} {x y:κ},is h x v->is h y v->x=y
 keeps:∀{h h':aK} {k:κ} {v:af} {d:ae} {o:Obj} {es ep},is h k v->h.get? d=aa o->o.data=.dict es ep->qg d h h'->is h' k v
 pyHash:∀{A:b8} {E:af->aD->Prop} {s:aD} {k:κ} {v:af} {Q:Int->aD->Prop},A.units+fN<du->is s.heap k v->Q (hash k) {s with toks:=s.toks+draws k}->
  aN (model prog w) A (z9 v) Q E s
 eqBool:∀{A:b8} {E:af->aD->Prop} {s:aD} {x y:κ} {u v:af} {Q:Bool->aD->Prop},A.units+fN<du->is s.heap x u->is s.heap y v->Q (decide (x=y)) s->
  aN (model prog w) A (z8 u v) Q E s
 quiet:∀{A:b8} {E:af->aD->Prop} {s:aD} {k:κ} {v:af} {n:Nat} {Q:Bool->aD->Prop},fN<=n->is s.heap k v->Q ah s->aN (model prog w) A (Ee n v) Q E s
def qV(prog:aR)(w:aQ):IK prog w Nat where
 is:=λ_ n v=>qj (n:Int) v=ah
 hash:=λn=>sj n
 draws:=λ_=>1
 fN:=0
 inj:=λX Y=>t8 (Value.isInt_inj _ _ _ X Y)
 keeps:=λh _ _ _=>h
 pyHash:=λ_ Z h=>(i8 prog w).pyHash Z h
 eqBool:=λ{A E s x y u v Q} _ W Z h=>(i8 prog w).eqBool W Z (by
  have e:decide ((x:Int)=(y:Int))=decide (x=y):=by
   by_cases q:x=y
   .subst q;simp
   .rw [cE q,cE (by lia:¬(x:Int)=(y:Int))]
  rw[e];exact h)
 quiet:=λ{A E s k v n Q} _ Z h=>sE (eqIsQuiet_byValue n ((i8 prog w).byValue _ _ Z)) h
section
variable{prog:aR}{w:aQ}{A:b8}{E:af->aD->Prop}{s:aD}
def Ms{hs:List Int}{t:Nat}{Q:Int->aD->Prop}(V:A.units<du)(X:gi s.heap a items)(T:∀W:Array Int->aD->Prop,W hs.toArray {s with toks:=s.toks+t}->aN (model prog w) A.in1 (forIn items.toList (#[]:Array Int) λx r=>do let h<-z9 x;pure (rA (r.push h))) W E s)
 (h:Q (Ek (rV hs)) {s with toks:=s.toks+(t+1)}):aN (model prog w) A (z9 (.ref a)) Q E s:=by
 have Y:=X.typeIs;unfold z9
 first|unfold pyHashByItsType|skip
 first|refine az (wpAny_cRoomFor_or (.inr V) ?_)|skip
 refine az (Ac Y DZ.lookup ?_);show aN _ _ (if(aa (Value.builtin "tuple.__hash__")==aa iA)=ah then _ else _) Q E s;rw[ay (by rw[beq_builtin_none];exact cg)];refine az (Ac Y DZ.lookup ?_);show aN _ _ (callSpecialIfBoundUnlessNone? (.ref a) "__hash__" _>>=_) Q E s;refine az (wpAny_callSpecialIfBoundUnlessNone?_slot Y DZ (iB DZ Y F.entry_tuple_hash ?_ (F.args_tuple_hash_1 _)));show aN _ _ (Kg (.ref a)>>=_) _ _ s;refine az (xj X ?_);refine az ?_;rw[<-Rz];refine T _ ?_;show aN _ _ (retInt (rV hs.toArray.toList)) _ _ _;refine wpAny_ret_mkInt ?_;show aN _ _ (if(decide (-(2:Int)^63<=rV hs)&&decide (rV hs<2^63))=ah then _ else _) Q E _;unfold Ek at h;by_cases Z:(decide (-(2:Int)^63<=rV hs)&&decide (rV hs<2^63))=ah
 .rw [aA Z];rw[aA Z]at h;exact aV (by simpa[nA]using h)
 .rw [ay Z];rw[ay Z]at h;exact az (oW (aV (by simpa[nA]using h)))
def L4{xs ys:Array af}{r:Bool}{Q:Bool->aD->Prop}(T:A.units<du)(X:gi s.heap a xs)(Y:gi s.heap b ys)(W:a=b->r=ah)(S:∀V:Option rX×Unit->aD->Prop,(∀o,(o=aj->(xs.size==ys.size)=r)->(∀z,o=aa z->z=.done (.ret (.bool aB))/\r=aB)->V (o,()) s)->aN (model prog w) A.in1 (forIn (rM xs.toList ys.toList) ((aj,()):Option rX×Unit) λx r=>do
   let c<-z8 x.1 x.2
   if(!c)=ah then do let f<-ret (.bool aB);pure (JE (aa f,()))else pure (rA (aj,()))) V E s)
 (h:Q r s):aN (model prog w) A (z8 (.ref a) (.ref b)) Q E s:=by
 unfold z8
 try with_reducible refine jS ?_
 show aN _ _ (if(cR a==cR b)=ah then _ else _) Q E s;by_cases Z:(cR a==cR b)=ah
 .rw [aA Z];have e:a=b:=by have:=eq_of_beq Z;injection this
  rw[W e]at h;exact az (oW (aV h))
 .rw [ay Z];refine az (wpAny_richCompare_same_room (op:=.Eq) X.typeIs Y.typeIs Ko (iB Ko X.typeIs F.entry_tuple_eq ?_ (F.args_tuple_eq_2 _ _)) T);show aN _ _ (isInstance (.ref b) (.type "tuple")>>=_) _ _ s;refine az (uC Y.typeIs isSubtype_tuple_tuple ?_);simp only[rx,kj,if_false];refine az (xj X ?_);refine az (xj Y ?_);refine az ?_;refine S _ λo P R=>?_;cases o with
  |none=>
   have e:=P U;show aN _ _ (ret (.bool (xs.size==ys.size))) _ _ _;rw[e];exact aV ⟨_,U,(λe=>nomatch e),i_ h⟩
  |some z=>
   obtain⟨rfl,e⟩:=R z U;rw[e]at h;exact aV ⟨_,U,(λe=>nomatch e),i_ h⟩
def Py{n:Nat}{Q:Bool->aD->Prop}(W:gi s.heap a items)(P:∀v∈items.toList,∀T:Bool->aD->Prop,T ah s->aN (model prog w) A (Ee n v) T E s)(h:Q ah s):aN (model prog w) A (Ee (n+1) (.ref a)) Q E s:=by
 have V:=W.typeIs;obtain⟨o,R,_,k,hd⟩:=W;unfold Ee;refine az (Ac V Ko.lookup ?_);show aN _ _ (isInstance (.ref a) (.type "tuple")>>=_) _ _ s;refine az (uC V isSubtype_tuple_tuple ?_);simp only[rx,kj,if_false];refine az (nH R hd ?_);refine az ?_;show aN _ _ (forIn items _ _) _ _ s;rw[<-Rz];refine wpAny_forIn_list _ (λrest r s'=>r.1=aj/\s'=s/\∀v∈rest,v∈items.toList) _ ?_ ?_ _ _ ⟨U,U,λv S=>S⟩
 .rintro v rest r s' ⟨X,rfl,Z⟩
  refine az (P v (Z v cy) _ ?_);simp only[rx,kj,if_false];exact aV ⟨U,U,λu Y=>Z u (cj _ Y)⟩
 .rintro ⟨N,O⟩ s' ⟨X,rfl,_⟩
  simp only at X;subst X;exact aV h
end
section
variable{prog:aR}{w:aQ}{κ:Type}[DecidableEq κ](I:IK prog w κ)
def Td(h:aK)(ks:List κ)(v:af):Prop:=∃a items,v=.ref a/\gi h a items/\Paired (λk u=>I.is h k u) ks items.toList
def C9{xs ys:Array af}(X:gi h a xs)(Y:gi h a ys):xs=ys:=by obtain⟨o,e,_,n,d⟩:=X;obtain⟨W,Z,_,V,d'⟩:=Y;rw[e]at Z;cases Z;rw[d]at d';injection d'
def Q8{d:ae}{es ep}(x:gi h a items)(V:h.get? d=aa o)(hd:o.data=.dict es ep)(hs:qg d h h'):gi h' a items:=by
 obtain⟨W,Y,T,n,Z⟩:=x;have X:a≠d:=by
  rintro rfl
  obtain rfl:W=o:=dX (Y.symm.trans V);rw[hd]at Z;exact nomatch Z
 exact⟨W,(hs.2 a X).trans Y,T,n,Z⟩
variable{I}
theorem Hu{h:aK}:∀{x y:List κ} {Z:List af},Paired (λk u=>I.is h k u) x Z->Paired (λk u=>I.is h k u) y Z->x=y
 |_,_,_,.nil,.nil=>rfl
 |_,_,_,.cons V X,.cons W Y=>by rw[I.inj V W,Hu X Y]
theorem Mr{A:b8}{E:af->aD->Prop}(X:A.units+I.fN<du):∀(ks:List κ) (Y:List af) (s:aD) (acc:Array Int) (Z:Array Int->aD->Prop),Paired (λk u=>I.is s.heap k u) ks Y->Z (acc++(ks.map I.hash).toArray) {s with toks:=s.toks+(ks.map I.draws).sum}->aN (model prog w) A (forIn Y acc λx r=>do let h<-z9 x;pure (rA (r.push h))) Z E s
 |_,_,s,acc,Z,.nil,h=>by rw[oH];exact aV ‹h›
 |k::ks,v::Y,s,acc,Z,.cons W t,h=>by
  rw[nr];refine az (az (I.pyHash X W (aV ?_)));refine Mr X ks Y {s with toks:=s.toks+I.draws k} _ Z t ?_;have T:acc.push (I.hash k)++(ks.map I.hash).toArray=acc++((k::ks).map I.hash).toArray:=by rw[bM];apply Array.toList_inj.mp;simp
  have V:s.toks+I.draws k+(ks.map I.draws).sum=s.toks+((k::ks).map I.draws).sum:=by rw[bM,gJ];lia
  show Z (acc.push (I.hash k)++(ks.map I.hash).toArray) {s with toks:=s.toks+I.draws k+(ks.map I.draws).sum};rw[T,V];exact h
theorem L3{A:b8}{E:af->aD->Prop}{s:aD}(X:A.units+I.fN<du):∀(xs ys:List κ) (us Y:List af) (Z:Option rX×Unit->aD->Prop),Paired (λk u=>I.is s.heap k u) xs us->Paired (λk u=>I.is s.heap k u) ys Y->(∀o,(o=aj->(us.length==Y.length)=decide (xs=ys))->(∀z,o=aa z->z=.done (.ret (.bool aB))/\decide (xs=ys)=aB)->Z (o,()) s)->aN (model prog w) A (forIn (rM us Y) ((aj,()):Option rX×Unit) λx r=>do
  let c<-z8 x.1 x.2
  if(!c)=ah then do let f<-ret (.bool aB);pure (JE (aa f,()))else pure (rA (aj,()))) Z E s
 |_,_,_,_,Z,.nil,.nil,h=>by rw[J2,oH];exact aV (h aj (λ_=>rfl) (λz e=>nomatch e))
 |_,_,_,_,Z,.nil,.cons _ _,h=>by rw[J2,oH];exact aV (h aj (λ_=>by simp) (λz e=>nomatch e))
 |_,_,_,_,Z,.cons _ _,.nil,h=>by rw[List.zip_nil_right,oH];exact aV (h aj (λ_=>by simp) (λz e=>nomatch e))
 |x::xs,y::ys,u::us,v::Y,Z,.cons P V,.cons Q W,h=>by
  rw[DJ,nr];refine az (az (I.eqBool X P Q ?_));by_cases e:x=y
  .subst e;rw[dg U];simp only[rx,kj,if_false];refine aV ?_;refine L3 X xs ys us Y Z V W λo S T=>h o (λz=>?_) (λz e=>?_)
   .have:=S z;simp only[bY,RN,true_and];rw[<-this];simp
   .obtain ⟨a,b⟩:=T z e;refine⟨a,?_⟩;simp only[RN,true_and];exact b
  .rw [cE e];simp only[zu,if_true];have R:decide (x::xs=y::ys)=aB:=cE λz=>e (RM z).1;exact az (aV (aV (aV (h _ (λz=>nomatch z) λz q=>⟨(dX q).symm,R⟩))))
end
noncomputable def pZ{V:Type}[DecidableEq V](I:IK prog w V):IK prog w (List V)where
 is:=Td I
 hash:=λks=>Ek (rV (ks.map I.hash))
 draws:=λks=>(ks.map I.draws).sum+1
 fN:=I.fN+1
 inj:=λW O=>by obtain⟨a,xs,rfl,Z,Y⟩:=W;obtain⟨b,ys,e,S,T⟩:=O;cases e;cases C9 Z S;exact Hu Y T
 keeps:=λW M hd hs=>by obtain⟨a,xs,rfl,Z,Y⟩:=W;exact⟨a,xs,U,Q8 Z M hd hs,Paired.By (λ_ _ q=>I.keeps q M hd hs) Y⟩
 pyHash:=λ{A E s k v Q} H hk h=>by obtain⟨a,xs,rfl,Z,Y⟩:=hk;refine Ms (hs:=k.map I.hash) (t:=(k.map I.draws).sum) (by omega) Z (λR q=>Mr (A:=A.in1) (by show A.units+1+I.fN<du;omega) k xs.toList s #[] R Y ‹q›) h
 eqBool:=λ{A E s x y u v Q} H W O h=>by obtain⟨a,xs,rfl,Z,Y⟩:=W;obtain⟨b,ys,rfl,S,T⟩:=O;refine L4 (r:=decide (x=y)) (by omega) Z S (λe=>?_) (λR q=>L3 (A:=A.in1) (by show A.units+1+I.fN<du;omega) x y xs.toList ys.toList R Y T (λo K L=>q o ‹K› L)) h;subst e;cases C9 Z S;exact dg (Hu Y T)
 quiet:=λ{A E s k v n Q} F hk h=>by
  obtain⟨a,xs,rfl,Z,Y⟩:=hk;obtain⟨m,rfl⟩:∃m,n=m+1:=⟨n-1,by omega⟩;refine Py Z (λv X R q=>?_) h;have:∀{ks:List V} {P:List af},Paired (λk u=>I.is s.heap k u) ks P->∀v∈P,∃k,I.is s.heap k v:=by
   intro ks P p
   induction p with
   |nil=>intro v X;simp at X
   |cons Z t J=>
    intro v X;rcases bJ.mp X with e|X
    .subst e;exact⟨_,Z⟩
    .exact J v X
  obtain⟨G,N⟩:=this Y v X;exact I.quiet (by omega) N q
section
variable{prog:aR}{w:aQ}{α β γ:Type}[DecidableEq α][DecidableEq β][DecidableEq γ](I:IK prog w α)(J:IK prog w β)(L:IK prog w γ)
def Tc(h:aK)(k:α×β×γ)(v:af):Prop:=∃a items X Y Z,v=.ref a/\gi h a items/\items.toList=[X,Y,Z]/\I.is h k.1 X/\J.is h k.2.1 Y/\L.is h k.2.2 Z
noncomputable def agT:IK prog w (α×β×γ)where
 is:=Tc I J L
 hash:=λk=>Ek (rV [I.hash k.1,J.hash k.2.1,L.hash k.2.2])
 draws:=λk=>I.draws k.1+J.draws k.2.1+L.draws k.2.2+1
 fN:=I.fN+J.fN+L.fN+1
 inj:=λM l=>by obtain⟨a,xs,N,O,P,rfl,V,Z,W,X,Y⟩:=M;obtain⟨b,ys,v1,c,d,e,D,T,G,H,K⟩:=l;cases e;cases C9 V D;rw[Z]at T;cases T;exact qe (I.inj W G) (qe (J.inj X H) (L.inj Y K))
 keeps:=λM F hd hs=>by obtain⟨a,xs,N,O,P,rfl,V,Z,W,X,Y⟩:=M;exact⟨a,xs,N,O,P,U,Q8 V F hd hs,Z,I.keeps W F hd hs,J.keeps X F hd hs,L.keeps Y F hd hs⟩
 pyHash:=λ{A E s k v Q} hu hk h=>by
  obtain⟨a,xs,N,O,P,rfl,V,Z,W,X,Y⟩:=hk;refine Ms (hs:=[I.hash k.1,J.hash k.2.1,L.hash k.2.2]) (t:=I.draws k.1+J.draws k.2.1+L.draws k.2.2) (by lia) V (λo q=>?_) h;rw[Z,nr];refine az (az (I.pyHash (A:=A.in1) (by show A.units+1+I.fN<du;lia) W (aV ?_)));dsimp only;rw[nr];refine az (az (J.pyHash (A:=A.in1) (by show A.units+1+J.fN<du;lia) X (aV ?_)));dsimp only;rw[nr];refine az (az (L.pyHash (A:=A.in1) (by show A.units+1+L.fN<du;lia) Y (aV ?_)));dsimp only;rw[oH];refine aV ?_;show o #[I.hash k.1,J.hash k.2.1,L.hash k.2.2] {s with toks:=s.toks+I.draws k.1+J.draws k.2.1+L.draws k.2.2};have T:s.toks+I.draws k.1+J.draws k.2.1+L.draws k.2.2=s.toks+(I.draws k.1+J.draws k.2.1+L.draws k.2.2):=by lia
  rw[T];exact q
 eqBool:=λ{A E s x y u v Q} hu M l h=>by
  obtain⟨a,xs,N,O,P,rfl,V,Z,W,X,Y⟩:=M;obtain⟨b,ys,v1,c,d,rfl,D,T,G,H,K⟩:=l;have hsz:(xs.size==ys.size)=ah:=by have g:=b_ fo Z;have i:=b_ fo T;rw[iN]at g i;rw[g,i];rfl
  refine L4 (r:=decide (x=y)) (by lia) V D (λe=>?_) (λo q=>?_) h
  .subst e;cases C9 V D;rw[Z]at T;cases T;exact dg (qe (I.inj W G) (qe (J.inj X H) (L.inj Y K)))
  .have fin:decide (x=y)=aB->∀s':aD,s'=s->aN (model prog w) A.in1 (do let f<-ret (.bool aB);pure (JE ((aa f,()):Option rX×Unit))) (λr s'=>match r with|.done b=>o b s'|.yield _=>False) E s':=λR s' e=>by
    subst e;exact az (aV (aV (q _ (λz=>nomatch z) λz S=>⟨(dX S).symm,R⟩)))
   rw[Z,T,DJ,nr];refine az (az (I.eqBool (A:=A.in1) (by show A.units+1+I.fN<du;lia) W G ?_));by_cases p:x.1=y.1
   .rw [dg p];simp only[rx,kj,if_false];refine aV ?_;dsimp only;rw[DJ,nr];refine az (az (J.eqBool (A:=A.in1) (by show A.units+1+J.fN<du;lia) X H ?_));by_cases B:x.2.1=y.2.1
    .rw [dg B];simp only[rx,kj,if_false];refine aV ?_;dsimp only;rw[DJ,nr];refine az (az (L.eqBool (A:=A.in1) (by show A.units+1+L.fN<du;lia) Y K ?_));by_cases C:x.2.2=y.2.2
     .rw [dg C];simp only[rx,kj,if_false];refine aV ?_;dsimp only;rw[J2,oH];exact aV (q aj (λ_=>by rw[hsz];exact(dg (qe p (qe B C))).symm) λz e=>nomatch e)
     .rw [cE C];simp only[zu,if_true];have R:decide (x=y)=aB:=cE λz=>C (by rw[z]);exact az (aV (aV (aV (q _ (λz=>nomatch z) λz S=>⟨(dX S).symm,R⟩))))
    .rw [cE B];simp only[zu,if_true];have R:decide (x=y)=aB:=cE λz=>B (by rw[z]);exact az (aV (aV (aV (q _ (λz=>nomatch z) λz S=>⟨(dX S).symm,R⟩))))
   .rw [cE p];simp only[zu,if_true];have R:decide (x=y)=aB:=cE λz=>p (by rw[z]);exact az (aV (aV (aV (q _ (λz=>nomatch z) λz S=>⟨(dX S).symm,R⟩))))
 quiet:=λ{A E s k v n Q} hn hk h=>by
  obtain⟨a,xs,N,O,P,rfl,V,Z,W,X,Y⟩:=hk;obtain⟨m,rfl⟩:∃m,n=m+1:=⟨n-1,by lia⟩;refine Py V (λv j o q=>?_) h;rw[Z]at j;simp only[bJ,oM,or_false]at j;rcases j with rfl|rfl|rfl
  .exact I.quiet (by lia) W q
  .exact J.quiet (by lia) X q
  .exact L.quiet (by lia) Y q
end
def IK.hk{prog:aR}{w:aQ}{Z:Type}[DecidableEq Z](I:IK prog w Z)(h8:I.fN<=8):HeapKind prog w Z where
 is:=λh k a=>I.is h k (.ref a)
 hash:=I.hash
 draws:=I.draws
 room:=λA=>A.units+I.fN<du
 inj:=λX Y=>I.inj X Y
 keeps:=λx V hd hs=>I.keeps x V hd hs
 pyHash:=λW hk h=>I.pyHash W hk h
 eqBool:=λW X Y h=>I.eqBool W X Y h
 quiet:=λhk h=>I.quiet h8 hk h
end TV
namespace TV
open PySem PySem.Spec PyProof.Rows L2
variable{a b C p D Pt I dx:ae}{Q:VK}{xs ys:List V}{r:ab.ak}{h h':aK}{o od:Obj}{E:XK}{s:bf}{prog P:aR}{w:aQ}{N:List Str}{ps:List (Nat×ae)}{sp:Sp}{f g qual:Str}{v u y:V}{H H1 H2 H':Hp}{S:List ae}{ns:List Int}{K:aw}{zs:List (ae×List Nat)}{rs:List ab.ak}{Y:Nat->V->Hp->Prop}{te:TE}{es:Array (Int×af)}{ep j:Nat}{X:Cx}{e:Expr}{mg:Str->Option af}{pos:Pos}{c:bV}
def bo(i:Nat):c5:=PySem.Challenge.pw_trackverdict_s01_answers.main.body.getD i (.Pass ⟨0,0,0,0⟩)
section
variable(P:aR)(w:aQ)(K:aw)(mg:Str->Option af)(base:aK)
structure ry (x:Str) (ps:List Str) (k:Nat) (sp:Sp):Prop where
 ex:∃f fd,jK P w K mg base lh k f fd ps sp/\mg x=aa (.ref f)/\oT K (.ref f)=ah/\iv K fd ps []
structure qa (x:Str) (C:ae) (ps:List Str) (k:Nat) (sp:Sp):Prop where
 ex:∃f fd,Mk K C f/\jK P w K mg base lh k f fd ps sp/\mg x=aa (.ref C)/\iv K fd ps []
end
structure bK (K:aw) (mg:Str->Option af) (x:Str) (st:c5) (ps:List Str):Prop where
 ex:∃f fd,rB K x x st f fd/\mg x=aa (.ref f)/\iv K fd ps []
structure p6 (K:aw) (mg:Str->Option af) (x:Str) (C:ae) (st:c5) (ps:List Str):Prop where
 ex:∃f fd,rB K "__init__" (x++".__init__") st f fd/\mg x=aa (.ref C)/\Mk K C f/\iv K fd ps []
section
variable{P:aR}{w:aQ}{K:aw}{mg:Str->Option af}{base:aK}
theorem bK.ok{x:Str}{st:c5}{N ps:List Str}{k:Nat}{sp:Sp}(D:bK K mg x st ps)(S:kq N ps (cF st))(X:∀(f:ae) (Z:af) (A:b8) (outer:List Env) (s:aD) (H:Hp) (Y:List V) (Q:VK) (E:XK),eN k (A.deeper (mx x (cF st) s.heap.objs.size f Z))->sp Y H Q E->∃t,i7 (ph lh P w K mg base N x (cF st) f Z A outer s H E).qU (jw st) t/\t {nx:=λ_ H'=>Q .bW H',rt:=Q} (start N Y) H)(bG:∀Y H Q E,sp Y H Q E->Y.length=ps.length:=by walk_at"l"):ry P w K mg base x ps (k+1) sp:=by obtain⟨f,O,F,T,R⟩:=D.ex;exact⟨f,O,F.ok S bG λZ A outer s H Y Q E W h=>X f Z A outer s H Y Q E W h,T,F.kp,R⟩
theorem p6.ok{x:Str}{C:ae}{st:c5}{N ps:List Str}{k:Nat}{sp:Sp}(D:p6 K mg x C st ps)(S:kq N ps (cF st))(X:∀(f:ae) (Z:af) (A:b8) (outer:List Env) (s:aD) (H:Hp) (Y:List V) (Q:VK) (E:XK),eN k (A.deeper (mx (x++".__init__") (cF st) s.heap.objs.size f Z))->sp Y H Q E->∃t,i7 (ph lh P w K mg base N (x++".__init__") (cF st) f Z A outer s H E).qU (jw st) t/\t {nx:=λ_ H'=>Q .bW H',rt:=Q} (start N Y) H)(bG:∀Y H Q E,sp Y H Q E->Y.length=ps.length:=by walk_at"l"):qa P w K mg base x C ps (k+1) sp:=by obtain⟨f,O,F,T,mk,R⟩:=D.ex;exact⟨f,O,mk,F.ok S bG λZ A outer s H Y Q E W h=>X f Z A outer s H Y Q E W h,T,R⟩
end
section
variable{X:Cx}{x:Str}{C:ae}{ps:List Str}{k:Nat}{sp:Sp}{e:Expr}{es:List Expr}{t:TA}{p pos:Pos}
noncomputable def acq(F:ry X.prog X.w X.K X.mg X.base x ps k sp)(W:eN k X.A)(T:Gl X x)(R:PA X (e::es) t)(Y:(x==("__debug__":Str))=aB:=by decide)(he:cu (e::es) X.env=(aB,cC e X.env)::cu es X.env:=by rfl)(Z:(gj pos (cu es X.env)).any (·.1)=aB:=by rfl):PE X (.Call (.Name x p) (e::es) [] pos) (CZ sp [] E0 t):=by obtain⟨f,Q,F,V,hk,S⟩:=F.ex;exact acp F W T V hk S .nil B8 R Y he Z
def m6(F:qa X.prog X.w X.K X.mg X.base x C ps k sp)(W:eN (k+1) X.A)(T:Gl X x)(R:PA X (e::es) t)(Y:(x==("__debug__":Str))=aB:=by decide)(he:cu (e::es) X.env=(aB,cC e X.env)::cu es X.env:=by rfl)(Z:(gj pos (cu es X.env)).any (·.1)=aB:=by rfl):PE X (.Call (.Name x p) (e::es) [] pos) (C1 C sp [] E0 t):=by obtain⟨f,Q,mk,F,V,S⟩:=F.ex;exact acx mk F W T V S .nil B8 R Y he Z
def O_(F:qa X.prog X.w X.K X.mg X.base x C ps k sp)(Y:eN (k+1) X.A)(V:Gl X x)(Z:(x==("__debug__":Str))=aB:=by decide):PE X (.Call (.Name x p) [] [] pos) (C1 C sp [] E0 oy):=by obtain⟨f,S,mk,F,W,T⟩:=F.ex;exact acy mk F Y V W T .nil B8 Z
def Gi(mg:Str->Option af)(x:Str)(i:Int):Prop:=∃t,mg x=aa (.int i t)
def cx{i:Int}(Z:Gl X x)(h:Gi X.mg x i)(hd:(x==("__debug__":Str))=aB:=by decide):PE X (.Name x pos) (tC (.int i)):=by obtain⟨t,h⟩:=h;exact O8 Z h ⟨t,U⟩ hd
def fL(C:ae)(H:Hp)(a:ae)(f:Str)(v:V):Prop:=∃dx fs,H a=aa (.ins C dx fs)/\fs.lookup f=aa v
inductive bH(C:ae)(f:Str)(Q:VK)(x:V)(H:Hp):Prop|mk(a:ae)(v:V)(_:x=.ref a)(_:fL C H a f v)(_:Q v H)
def tAt(C:ae)(f:Str)(Y:TE):TE:=λZ H Q=>Y Z H (bH C f Q)
def aX{Z:TE}(c:lj X.K C)(n:eV X.K C f)(he:PE X e Z)(T:xo e f X.env (cC e X.env)=cC e X.env:=by rfl):PE X (.Attribute e f pos) (tAt C f Z):=by
 intro ag s Y H Q I h;refine TU T (bT (he ag s Y H _ I h) ?_)
 rintro u L x O P W ⟨a,v,rfl,⟨dx,fs,S,l⟩,q⟩
 obtain rfl:u=cR a:=W;exact W_ P S c n l λN M R V=>⟨v,O,R,V,q⟩
def sAt(C:ae)(f:Str)(X Y:TE):TS:=λD Z H=>Y Z H λy H1=>X Z H1 λx H2=>∃a dx fs,x=.ref a/\H2 a=aa (.ins C dx fs)/\fs.length<1000/\D.nx Z (aM H2 a (.ins C dx (dJ f y fs)))
def cY{V W:TE}{o value:Expr}{Z:Pos}(c:lj X.K C)(n:eV X.K C f)(N:PE X o V)(O:PE X value W)(hs:oU value (aa (.Attribute o f Z)) pos.line X.env=pure aB:=by rfl):PS X (.Assign [.Attribute o f Z] value pos) (sAt C f V W):=by
 intro ag s Y H D I h;refine plainObj_wpAny_Assign_Attribute (bT (O ag s Y H _ I h) λu T y F G S q=>bT (N ag T Y F _ G q) ?_) hs
 rintro P B x A J R ⟨a,dx,fs,rfl,M,l,Q⟩
 obtain rfl:P=cR a:=R;exact aew J M c n l S λE L=>⟨Y,_,L,Q⟩
end
def fS{fs:List (Str×V)}:lu f ((f,v)::fs)=aa v:=by simp
def mZ{fs:List (Str×V)}(h:(f==g)=aB):lu f ((g,v)::fs)=lu f fs:=by rw[rJ,h]
def jD{fs:List (Str×V)}:dJ f v ((f,u)::fs)=(f,v)::fs:=by unfold dJ;rw[aA U]
def dQ{fs:List (Str×V)}(h:¬g=f):dJ f v ((g,u)::fs)=(g,u)::dJ f v fs:=by rw[dJ,ay h]
def tM:dJ f v []=[(f,v)]:=rfl
def NI(n:Nat):V:=.int n
def dF(K:aw)(H:Hp)(a:ae)(ns:List Nat):Prop:=aY K H a (ns.map NI)
def rf{Z:Type}(z:ae×Z):V:=.ref z.1
def kG(K:aw)(H:Hp)(a:ae)(xs:List (List Nat)):Prop:=∃zs:List (ae×List Nat),zs.map (·.2)=xs/\aY K H a (zs.map rf)/\∀z∈zs,dF K H z.1 z.2
def eX(y:cW):List Nat:=[y.change,y.prop,y.value]
abbrev rR(K:aw)(H:Hp)(a:ae)(ps:List cW):Prop:=kG K H a (ps.map eX)
def ni(C:ae):HO->Prop
 |.bh _=>True
 |.cJ _ _=>True
 |.ins D _ _=>D=C
 |_=>False
def Le(C:ae)(H H':Hp):Prop:=∀b o,H b=aa o->ni C o->H' b=aa o
def Le.trans(a:Le C H H1)(b:Le C H1 H2):Le C H H2:=λc o h f=>b c o (a c o h f) f
def _root_.L2.aF.le(s:aF H H')(C:ae):Le C H H':=λb o h _=>s b o h
def bZ(S:List ae)(H H':Hp):Prop:=∀b o,H b=aa o->b∉S->H' b=aa o
def bZ.trans(a:bZ S H H1)(b:bZ S H1 H2):bZ S H H2:=λc o h n=>b c o (a c o h n) n
def bZ.mono{Z:List ae}(a:bZ S H H')(h:∀b∈S,b∈Z):bZ Z H H':=λc o q n=>a c o q λz=>n (h c z)
def _root_.L2.aF.x(s:aF H H')(S:List ae):bZ S H H':=λb o h _=>s b o h
def bZ.le(s:bZ S H H')(h:∀b∈S,∀o,H b=aa o->¬ni C o):Le C H H':=λb o q f=>s b o q λz=>h b z o q f
def bg{o:HO}(h:H p=aj):aF H (aM H p o):=λb u e=>by rw[a_ (f7 e h)];exact e
section
variable{K:aw}{C:ae}{H H':Hp}{a:ae}
def dS(l:Le C H H')(h:aY K H a xs):aY K H' a xs:=by
 rcases h with(h|⟨o,h⟩)|h
 .exact .inl (.inl (l _ _ h trivial))
 .exact .inl (.inr ⟨o,l _ _ h trivial⟩)
 .exact .inr h
def dF.up{ns:List Nat}(h:dF K H a ns)(l:Le C H H'):dF K H' a ns:=dS l h
theorem kG.up{xs:List (List Nat)}(h:kG K H a xs)(l:Le C H H'):kG K H' a xs:=by obtain⟨zs,X,Y,Z⟩:=h;exact⟨zs,X,dS l Y,λz hz=>(Z z hz).up l⟩
end
noncomputable def adG(s l i d p:ae):List (Str×V):=[("signs",.ref s),("looks",.ref l),("insertions",.ref i),("deletions",.ref d),("pending",.ref p)]
def iQ(C:ae)(H:Hp)(a s l i d p:ae):Prop:=∃dx,H a=aa (.ins C dx (adG s l i d p))
section
variable{C:ae}{H H':Hp}{a s l i d p:ae}
theorem iQ.signs(h:iQ C H a s l i d p):fL C H a "signs" (.ref s):=let⟨dx,e⟩:=h;⟨dx,_,e,fS⟩
theorem iQ.gF(h:iQ C H a s l i d p):fL C H a "looks" (.ref l):=let⟨dx,e⟩:=h;⟨dx,_,e,(mZ ‹_›).trans fS⟩
def iQ.ins(h:iQ C H a s l i d p):fL C H a "insertions" (.ref i):=let⟨dx,e⟩:=h;⟨dx,_,e,(mZ ‹_›).trans ((mZ ‹_›).trans fS)⟩
def iQ.del(h:iQ C H a s l i d p):fL C H a "deletions" (.ref d):=let⟨dx,e⟩:=h;⟨dx,_,e,(mZ ‹_›).trans ((mZ ‹_›).trans ((mZ ‹_›).trans fS))⟩
def iQ.pend(h:iQ C H a s l i d p):fL C H a "pending" (.ref p):=let⟨dx,e⟩:=h;⟨dx,_,e,(mZ ‹_›).trans ((mZ ‹_›).trans ((mZ ‹_›).trans ((mZ ‹_›).trans fS)))⟩
def iQ.up(h:iQ C H a s l i d p)(le:Le C H H'):iQ C H' a s l i d p:=let⟨dx,e⟩:=h;⟨dx,le _ _ e U⟩
end
structure oX (K:aw) (H:Hp) (s l i d p:ae) (r:ab.ak):Prop where
 signs:H s=aa (.bh ((r.cells.map (·.1)).map NI))
 gF:kG K H l (r.cells.map (·.2))
 ins:dF K H i r.ins
 del:dF K H d r.del
 pend:rR K H p r.pend
def oX.sg{s l i d:ae}(h:oX K H s l i d p r):dF K H s (r.cells.map (·.1)):=aY.of h.signs
theorem oX.up{K:aw}{C:ae}{H Z:Hp}{s l i d p:ae}{r:ab.ak}(h:oX K H s l i d p r)(le:Le C H Z):oX K Z s l i d p r:=
 ⟨le _ _ h.signs trivial,h.gF.up le,h.ins.up le,h.del.up le,h.pend.up le⟩
def eD(K:aw)(C:ae)(H:Hp)(a:ae)(r:ab.ak):Prop:=∃s l i d p,iQ C H a s l i d p/\oX K H s l i d p r
theorem eD.up{K:aw}{C:ae}{H Z:Hp}{a:ae}{r:ab.ak}(h:eD K C H a r)(le:Le C H Z):eD K C Z a r:=
 let⟨s,l,i,d,p,X,Y⟩:=h;⟨s,l,i,d,p,X.up le,Y.up le⟩
abbrev xB(K:aw)(C:ae)(H:Hp)(zs:List (ae×ab.ak)):Prop:=∀z∈zs,eD K C H z.1 z.2
def vX{zs:List (ae×ab.ak)}(h:xB K C H zs)(le:Le C H H'):xB K C H' zs:=λz hz=>(h z hz).up le
def bF(K:aw)(C:ae)(H:Hp)(l:ae)(rs:List ab.ak):Prop:=∃zs:List (ae×ab.ak),zs.map (·.2)=rs/\H l=aa (.aC (zs.map rf))/\xB K C H zs
def bF.same{l:ae}(h:bF K C H l rs)(s:aF H H'):bF K C H' l rs:=
 let⟨zs,h0,Y,Z⟩:=h;⟨zs,h0,s _ _ Y,vX Z (s.le C)⟩
structure br where
 cr:ae
 cc:ae
 ct:ae
 co:ae
 cp:ae
 plain:ae
 props:ae
 xR:ae
structure gB (K:aw) (mg:Str->Option af) (A:br):Prop where
 bS:lj K A.cr
 fI:lj K A.cc
 cA:lj K A.ct
 fb:lj K A.co
 jc:lj K A.cp
 apart:[A.cr,A.cc,A.ct,A.co,A.cp].Nodup
 gr:eV K A.cr "signs"
 m7:eV K A.cr "looks"
 jF:eV K A.cr "insertions"
 lZ:eV K A.cr "deletions"
 jG:eV K A.cr "pending"
 qu:eV K A.cc "author"
 EI:eV K A.cc "time"
 AE:eV K A.cc "kind"
 AB:eV K A.cc "accepted"
 AF:eV K A.cc "rejected"
 AD:eV K A.cc "fallen"
 C3:eV K A.ct "author"
 C4:eV K A.ct "time"
 C5:eV K A.ct "tracking"
 kg:eV K A.ct "changes"
 eI:eV K A.ct "row"
 vA:eV K A.co "gone"
 vB:eV K A.co "insertions"
 vz:eV K A.co "deletions"
 pM:eV K A.co "pending"
 He:eV K A.co "settled"
 B7:eV K A.cp "standing"
 B5:eV K A.cp "inserting"
 B4:eV K A.cp "deleting"
 B6:eV K A.cp "painting"
 eQ:mg "len"=aj
 GZ:mg "sum"=aj
 N7:mg "any"=aj
 BP:mg "all"=aj
 qR:mg "tuple"=aj
 GY:mg "list"=aj
 aaI:mg "dict"=aj
 aaL:mg "set"=aj
 BR:mg "sorted"=aj
 BQ:mg "enumerate"=aj
 aaK:mg "reversed"=aj
 N8:mg "zip"=aj
 aaJ:mg "range"=aj
 uX:Gi mg "BAD_PLACE" (-1)
 lN:Gi mg "BAD_VALUE" (-2)
 Mc:Gi mg "BAD_ORDER" (-3)
 uY:Gi mg "NO_SUCH_CHANGE" (-4)
 uZ:Gi mg "PARAGRAPH_END" 10
 WU:Gi mg "KIND_PUT" 1
 WS:Gi mg "KIND_CUT" 2
 WT:Gi mg "KIND_PAINT" 3
 Me:Gi mg "KIND_MOVE" 4
 Mb:Gi mg "ACCEPT" 1
 WI:Gi mg "AUTHOR" 0
 WJ:Gi mg "CLOCK" 1
 W5:Gi mg "TRACK" 2
 Mf:Gi mg "PUT" 3
 WK:Gi mg "CUT" 4
 WX:Gi mg "PAINT" 5
 WV:Gi mg "MOVE" 6
 WN:Gi mg "JUDGE" 7
 WO:Gi mg "JUDGEBY" 8
 Md:Gi mg "JUDGELIST" 9
 WR:Gi mg "JUDGETOUCHING" 10
 WQ:Gi mg "JUDGEPART" 11
 WL:Gi mg "FALLS" 12
 W3:Gi mg "SPOTS" 13
 W4:Gi mg "STANDING" 14
 WM:Gi mg "FATE" 15
 Mg:Gi mg "WHAT" 16
 W0:Gi mg "ROW" 17
 WY:Gi mg "PEOPLE" 18
 Fg:mg "PLAIN_LOOK"=aa (.ref A.plain)
 WZ:mg "PROPERTIES"=aa (.ref A.props)
 WW:mg "NUMBER_COUNTS"=aa (.ref A.xR)
 plain:∀H,dF K H A.plain [0,0,0,0]
 props:∀H,dF K H A.props [0,1,2,3]
 xR:∀H,dF K H A.xR [1,1,1,1,2,4,3,2,5,1,3,3,2,1,0,1,0,0,0,0]
section
variable{X:Cx}{p:Pos}
def dB(K:aw)(H:Hp)(p:ae)(n:Int):Prop:=(∃ys,(aL K H p ys\/aY K H p ys)/\(ys.length:Int)=n)\/∃kvs:List (bE×V),H p=aa (.dK kvs)/\(kvs.length:Int)=n
inductive HK(K:aw)(xs:List V)(H:Hp)(Q:VK):Prop|mk(p n:_)(_:xs=[.ref p])(_:dB K H p n)(_:Q (.int n) H)
def Cg(K:aw):List V->Hp->VK->Prop:=λxs H Q=>∃p ys,xs=[.ref p]/\(aL K H p ys\/aY K H p ys)/\∀l,H l=aj->Q (.ref l) (aM H l (.aC ys))
def EJ:i3 X (.type "list") (Cg X.K):=Uh
def pP(K:aw):List V->Hp->VK->Prop:=λxs H Q=>∃p ys,xs=[.ref p]/\((aL K H p ys/\∀l,H l=aj->Q (.ref l) (aM H l (.bh ys)))\/(aY K H p ys/\Q (.ref p) H))
def qv:i3 X (.type "tuple") (pP X.K):=Ui
def Ue:i3 X (.builtin "len") (HK X.K):=by
 intro ag s Y H xs us Q I r h;obtain⟨p,n,rfl,l,q⟩:=h;rcases l with⟨ys,Z,rfl⟩|⟨kvs,Z,rfl⟩
 .exact Ug ag s Y H _ us Q I r ⟨p,ys,U,Z,q⟩
 .exact Ud ag s Y H _ us Q I r ⟨p,kvs,U,Z,q⟩
def dB.tn{ns:List Nat}(h:dF K H a ns):dB K H a ns.length:=.inl ⟨_,.inr h,by rw[aP]⟩
def dB.tt{xs:List (List Nat)}(h:kG K H a xs):dB K H a xs.length:=by obtain⟨zs,rfl,Z,Y⟩:=h;exact .inl ⟨_,.inr Z,by rw[aP,aP]⟩
def dB.ls(h:H a=aa (.aC xs)):dB K H a xs.length:=.inl ⟨_,.inl (aL.of h),U⟩
end
def iJ{Y Z:Type}{f:Y->Z}{l:List Y}{i:Nat}{y:Z}(h:(l.map f)[i]?=aa y):∃x,l[i]?=aa x/\f x=y:=by
 rw[cf]at h;cases e:l[i]? with
 |none=>rw[e]at h;cases h
 |some x=>rw[e]at h;exact⟨x,U,dX h⟩
def dU{Z:Type}{l:List Z}{i:Nat}{x:Z}(h:l[i]?=aa x):l.take (i+1)=l.take i++[x]:=by rw[List.take_add_one,h];rfl
def tT{o:HO}(s:aF H H')(h:H D=aj):aF H (aM H' D o):=λb u e=>by rw[a_ (f7 e h)];exact s b u e
def gE{Z:Type}{l:List Z}{i:Nat}{x:Z}(h:l[i]?=aa x):i<l.length:=(oI.mp h).1
structure Wk (J:It) (Ok:Hp->Prop) (n:Nat) (Y:Nat->V->Hp->Prop):Prop where
 go:∀i H,i<n->Ok H->J.go i H
 fj:∀i H x H',i<n->J.fj i H x H'->Ok H->aF H H'/\Y i x H'
 stop:∀H,Ok H->J.stop n H
def wD:Wk (zy K a) (λH=>aL K H a xs) xs.length (λi x _=>xs[i]?=aa x)where
 go:=λi H Z h=>⟨xs,xs[i],h,by simp[Z]⟩
 fj:=λi H x Y Z y h=>by obtain⟨e,y⟩:=y;subst e;exact⟨aF.refl _,y xs h⟩
 stop:=λH h=>⟨xs,h,bp _⟩
def wF:Wk (zA K a) (λH=>aY K H a xs) xs.length (λi x _=>xs[i]?=aa x)where
 go:=λi H Z h=>⟨xs,xs[i],h,by simp[Z]⟩
 fj:=λi H x Y Z y h=>by obtain⟨e,y⟩:=y;subst e;exact⟨aF.refl _,y xs h⟩
 stop:=λH h=>⟨xs,h,bp _⟩
def ahj{Z:Int}{n:Nat}:Wk (zz Z n) (λ_=>True) n (λi x _=>x=.int (Z+i))where
 go:=λi H Y _=>Y
 fj:=λi H x X Y y _=>by obtain⟨e,y⟩:=y;subst e;exact⟨aF.refl _,y⟩
 stop:=λH _=>bp _
def Rv:Wk (Dv K a) (λH=>aL K H a xs) xs.length (λi v H=>∃T x,v=.ref T/\xs[i]?=aa x/\H T=aa (.bh [.int (i:Nat),x]))where
 go:=λi H Z h=>⟨xs,xs[i],h,by simp[Z]⟩
 fj:=λi H x W Z y h=>by obtain⟨T,z,e,Y,X,y⟩:=y;subst e X;exact⟨bg Y,T,z,U,y xs h,aJ⟩
 stop:=λH h=>⟨xs,h,bp _⟩
def ahi:Wk (zx K a) (λH=>aY K H a xs) xs.length (λi v H=>∃T x,v=.ref T/\xs[i]?=aa x/\H T=aa (.bh [.int (i:Nat),x]))where
 go:=λi H Z h=>⟨xs,xs[i],h,by simp[Z]⟩
 fj:=λi H x W Z y h=>by obtain⟨T,z,e,Y,X,y⟩:=y;subst e X;exact⟨bg Y,T,z,U,y xs h,aJ⟩
 stop:=λH h=>⟨xs,h,bp _⟩
def ahk:Wk (Dx K a xs.length) (λH=>aL K H a xs) xs.length (λi x _=>xs.reverse[i]?=aa x)where
 go:=λi H Z h=>by
  have e:(xs[xs.length-1-i]?)=aa xs[xs.length-1-i]:=by rw[dC]
  exact⟨Z,xs,_,h,e⟩
 fj:=λi H x X Z y h=>by obtain⟨e,y⟩:=y;subst e;refine⟨aF.refl _,?_⟩;have q:=y xs h;have Y:xs.length-1-i<xs.length:=gE q;rw[RY Z];exact q
 stop:=λH h=>bp _
def ff{Y:Type}{zs:List Y}{v:Y->V}:Wk (zy K a) (λH=>aL K H a (zs.map v)) zs.length (λi x _=>∃z,zs[i]?=aa z/\x=v z)where
 go:=λi H Z h=>wD.go i H (by rw[aP];exact Z) h
 fj:=λi H x T Z y h=>by obtain⟨s,q⟩:=wD.fj i H x T (by rw[aP];exact Z) y h;obtain⟨z,W,X⟩:=iJ q;exact⟨s,z,W,X.symm⟩
 stop:=λH h=>by have:=wD.stop H h;rw[aP]at this;exact this
def ki{Y:Type}{zs:List Y}{v:Y->V}:Wk (zA K a) (λH=>aY K H a (zs.map v)) zs.length (λi x _=>∃z,zs[i]?=aa z/\x=v z)where
 go:=λi H Z h=>wF.go i H (by rw[aP];exact Z) h
 fj:=λi H x T Z y h=>by obtain⟨s,q⟩:=wF.fj i H x T (by rw[aP];exact Z) y h;obtain⟨z,W,X⟩:=iJ q;exact⟨s,z,W,X.symm⟩
 stop:=λH h=>by have:=wF.stop H h;rw[aP]at this;exact this
def eP{J:It}{Ok:Hp->Prop}{n:Nat}{g:TG}{Q:TS}{dn:L2.St->Hp->Prop}{O:VK}{Z:L2.St}(W:Wk J Ok n Y)(V:Nat->L2.St->Hp->Prop)(M:V 0 Z H)(aW:∀i Z H,V i Z H->Ok H)(hs:∀i x Z H H',i<n->aF H H'->∀N B:L2.St->Hp->Prop,(∀Z H,V (i+1) Z H->N Z H)->(∀Z H,dn Z H->B Z H)->((g x Z H' λX H2=>Q ⟨N,O,B,N⟩ X H2)->False)->V i Z H->Y i x H'->False)(hd:∀Z H,(dn Z H->False)->V n Z H->False):∃W:Nat->Nat->L2.St->Hp->Prop,(∃m,W 0 m Z H)/\∀i m Z H,W i m Z H->(J.stop i H/\dn Z H)\/(J.go i H/\∃R:L2.St->Hp->Prop,(∀T H',R T H'->∃P,P<m/\W (i+1) P T H')/\∀x H',J.fj i H x H'->g x Z H' λX H2=>Q ⟨R,O,dn,R⟩ X H2):=
 WC V M (λi Z H S p=>W.go i H S (aW i Z H p)) (λZ H p=>W.stop H (aW _ Z H p)) (λi x Z H H' S p y=>(let⟨s,q⟩:=W.fj i H x H' S y (aW i Z H p);JC λg=>hs i x Z H H' S s _ _ (λ_ _ h=>h) (λ_ _ h=>h) g p q)) λZ H p=>JC λg=>hd Z H g p
def Gp{K:Type}{J:It}{Ok:Hp->Prop}{g:TG}{tt:TT}{P:List Nat}{L:L2.St}{k:Hp->Prop}(l:List K)(p:K->Bool)(R:K->V->Hp->Prop)(W:Wk J Ok l.length Y)(aW:∀H,aF H1 H->Ok H)(t:H1 D=aj)(hz:l.length<=aS)(mono:∀z y H H',R z y H->aF H1 H->(∃ys,H D=aa (.aC ys))->(∀b o,H b=aa o->b≠D->H' b=aa o)->R z y H')(hs:∀(i:Nat) (z:K) (x:V) (H:Hp) (s:V->Hp->Prop) (r:Hp->Prop),l[i]?=aa z->aF H1 H->Y i x H->(∃ys,H D=aa (.aC ys))->(p z=ah->∀y H',aF H H'->R z y H'->s y H')->(p z=aB->∀H',aF H H'->r H')->g x (e7 L P) H λZ H2=>e7 Z P=e7 L P/\tt Z H2 λb M=>if b=ah then te Z M s else r M)(hd:∀H ys,aF H1 H->H D=aa (.aC ys)->Paired (λz y=>R z y H) (l.filter p) ys->k H):∃W:Nat->Nat->Hp->Prop,(∃m,W 0 m (aM H1 D (.aC [])))/\∀i m H,W i m H->(J.stop i H/\k H)\/(J.go i H/\∃w:Hp->Prop,(∀H',w H'->∃v,v<m/\W (i+1) v H')/\∀x H',J.fj i H x H'->g x (e7 L P) H' λZ H2=>e7 Z P=e7 L P/\tt Z H2 λb M=>if b=ah then te Z M λy N=>∃acc,N D=aa (.aC acc)/\acc.length<aS/\w (aM N D (.aC (acc++[y])))else w M):=by
 refine ZW (n:=l.length) (λi H=>aF H1 H/\∃ys,H D=aa (.aC ys)/\Paired (λz y=>R z y H) ((l.take i).filter p) ys) ⟨bg t,[],aJ,by rw[mq];exact .nil⟩ (λi H G q=>W.go i H G (aW H q.1)) (λH q=>W.stop H (aW H q.1)) ?_ ?_
 .rintro i x H H' G ⟨O,ys,I,pr⟩ y
  obtain⟨C,j⟩:=W.fj i H x H' G y (aW H O);obtain⟨z,Q⟩:∃z,l[i]?=aa z:=⟨_,dC G⟩;have st:=O.trans C;have X:=C _ _ I;have S:Paired (λz y=>R z y H') ((l.take i).filter p) ys:=Paired.By (λz y q=>mono z y H H' q O ⟨_,I⟩ λb o e _=>C b o e) pr;have u:ys.length<=i:=by rw[<-kC S];exact c7 (oJ _ _) (ub _ _)
  refine hs i z x H' _ _ Q st j ⟨_,X⟩ (λB y N T h=>?_) (λB N T=>?_)
  .refine ⟨ys,T _ _ X,by lia,tT (st.trans T) t,ys++[y],aJ,?_⟩;rw[dU Q,ku,gv,aA B,t_];refine D7 (Paired.By (λF E q=>mono F E H' _ q st ⟨_,X⟩ λb o e A=>by rw[a_ A];exact T b o e) S) ?_;exact mono z y N _ h (st.trans T) ⟨_,T _ _ X⟩ λb o e A=>by rw[a_ A];exact e
  .refine ⟨st.trans T,ys,T _ _ X,?_⟩;rw[dU Q,ku,gv,ay (by rw[B];exact cg),t_,ee];exact Paired.By (λF E q=>mono F E H' _ q st ⟨_,X⟩ λb o e _=>T b o e) S
 .rintro H ⟨O,ys,I,pr⟩
  rw[eJ]at pr;exact hd H ys O I pr
def jz(Z:H D=aa (.aC ys))(k:∀b o,H b=aa o->b≠D->H' b=aa o):Le C H H':=λb o e f=>k b o e λq=>by rw[q,Z]at e;cases e;exact f
theorem O1{X Y:Type}{G:ae->Y->Prop}{f:X->Y}:∀{l:List X} {ys:List V},Paired (λz y=>∃t,y=.ref t/\G t (f z)) l ys->∃Z:List (ae×Y),Z.map (·.2)=l.map f/\ys=Z.map rf/\∀w∈Z,G w.1 w.2
 |_,_,.nil=>⟨[],U,U,by simp⟩
 |z::_,_,.cons ⟨t,T,W⟩ r=>by
  obtain⟨Z,Q,R,S⟩:=O1 r;refine⟨(t,f z)::Z,by rw[bM,bM,Q],by rw[T,R];rfl,λw hw=>?_⟩;rcases bJ.mp hw with q|q
  .subst q;exact W
  .exact S w q
theorem OZ{Z:Type}{f:Z->V}:∀{l:List Z} {ys:List V},Paired (λz y=>y=f z) l ys->ys=l.map f
 |_,_,.nil=>rfl
 |_,_,.cons h t=>by rw[h,OZ t];rfl
def fJ{R:Type}{J:It}{Ok:Hp->Prop}{g:TG}{tt:TT}{X:List Nat}{S:L2.St}{L:Hp->Prop}(l:List R)(p:R->Bool)(f:R->V)(W:Wk J Ok l.length Y)(aW:∀H,aF H1 H->Ok H)(C:H1 D=aj)(hz:l.length<=aS)(hs:∀(i:Nat) (z:R) (x:V) (H:Hp) (Q:V->Hp->Prop) (P:Hp->Prop),l[i]?=aa z->aF H1 H->(p z=ah->∀H',aF H H'->Q (f z) H')->(p z=aB->∀H',aF H H'->P H')->((g x (e7 S X) H λZ H2=>e7 Z X=e7 S X/\tt Z H2 λb T=>if b=ah then te Z T Q else P T)->False)->Y i x H->False)(hd:∀H,aF H1 H->H D=aa (.aC ((l.filter p).map f))->L H):∃W:Nat->Nat->Hp->Prop,(∃m,W 0 m (aM H1 D (.aC [])))/\∀i m H,W i m H->(J.stop i H/\L H)\/(J.go i H/\∃N:Hp->Prop,(∀H',N H'->∃M,M<m/\W (i+1) M H')/\∀x H',J.fj i H x H'->g x (e7 S X) H' λZ H2=>e7 Z X=e7 S X/\tt Z H2 λb T=>if b=ah then te Z T λy K=>∃acc,K D=aa (.aC acc)/\acc.length<aS/\N (aM K D (.aC (acc++[y])))else N T):=
 Gp l p (λz y _=>y=f z) W aW C hz (λ_ _ _ _ e _ _ _=>e) (λi z x H Q P hz O y _ G I=>JC λg=>hs i z x H Q P hz O (λF H' s=>G F _ H' s U) I g y) λH ys O E pr=>hd H O (by rw[E,OZ pr])
structure KD (P:aR) (w:aQ) (K:aw) (κ:Type) [DecidableEq κ]where
 I:IK P w κ
 h8:I.fN<=8
 at_:Hp->κ->ae->Prop
 is:∀{H:Hp} {h:aK} {k:κ} {a:ae},dk P w H h->K.In h->at_ H k a->I.is h k (.ref a)
 up:∀{C:ae} {H H':Hp} {k:κ} {a:ae},Le C H H'->at_ H k a->at_ H' k a
def fR(d:ae)(od:Obj):HO:=.ext λh=>h.get? d=aa od
def uU{d:ae}(e:h.get? d=aa od):eC P w H h d (fR d od):=⟨e,⟨od,e⟩,λ_ _ e k=>k _ e⟩
def pk{d:ae}(ok:dk P w H h)(e:H d=aa (fR d od)):h.get? d=aa od:=(ok d _ e).1
section
variable{P:aR}{w:aQ}{K:aw}{κ:Type}[DecidableEq κ]
structure DO (kd:KD P w K κ) (od:Obj) (es:Array fg) (ep:Nat) (xs:List (κ×ae×af)) (kvs:List (κ×ae×V)):Prop where
 ex:od.ExactDict
 dt:od.data=.dict es ep
 en:es.toList=xs.map (entryOfKey (kd.I.hk kd.h8))
 nd:(xs.map (·.1)).Nodup
 pr:Paired (λp q=>p.1=q.1/\p.2.1=q.2.1/\bL p.2.2 q.2.2) kvs xs
noncomputable def dR(kvs:List (κ×ae×V)):List (κ×V):=kvs.map λp=>(p.1,p.2.2)
def MD(kd:KD P w K κ)(H:Hp)(d:ae)(l:List (κ×V)):Prop:=∃od es ep xs kvs,H d=aa (fR d od)/\DO kd od es ep xs kvs/\dR kvs=l/\l.length<=aS/\(d==kE)=aB/\∀p∈kvs,kd.at_ H p.1 p.2.1
theorem MD.up{kd:KD P w K κ}{C:ae}{H Z:Hp}{d:ae}{l:List (κ×V)}(h:MD kd H d l)(le:Le C H Z)(hd:∀o,H d=aa o->Z d=aa o):MD kd Z d l:=by obtain⟨od,es,ep,xs,kvs,Q,R,S,T,W,X⟩:=h;exact⟨od,es,ep,xs,kvs,hd _ Q,R,S,T,W,λp Y=>kd.up le (X p Y)⟩
def MD.same{kd:KD P w K κ}{d:ae}{l:List (κ×V)}(h:MD kd H d l)(s:aF H H'):MD kd H' d l:=h.up (s.le 0) λo e=>s _ _ e
def Ca{kvs:List (κ×ae×V)}{xs:List (κ×ae×af)}(r:Paired (λp q=>p.1=q.1/\p.2.1=q.2.1/\bL p.2.2 q.2.2) kvs xs)(k:κ):iC (df (dR kvs) k) ((iP xs k).map (·.2)):=by
 induction r with
 |nil=>exact o3
 |@cons p q ps Z h t W=>
  obtain⟨X,_,T⟩:=h;show iC (df ((p.1,p.2.2)::dR ps) k) _;by_cases e:p.1=k
  .have Y:q.1=k:=X.symm.trans e;have b:iP (q::Z) k=aa q.2:=by simp[iP,iO,Y]
   rw[mf (p:=(p.1,p.2.2)) e,b];exact T
  .have Y:¬q.1=k:=λz=>e (X.trans z);have b:iP (q::Z) k=iP Z k:=by simp[iP,iO,Y]
   rw[me (p:=(p.1,p.2.2)) e,b];exact W
noncomputable def tO(kvs:List (κ×ae×V))(k:κ)(b:ae)(y:V):List (κ×ae×V):=
 if((dR kvs).any λZ=>decide (Z.1=k))=ah then kvs.map (λp=>if p.1=k then(p.1,p.2.1,y)else p)else kvs++[(k,b,y)]
def ac0(kvs:List (κ×ae×V))(k:κ)(b:ae)(y:V):dR (tO kvs k b y)=eY (dR kvs) k y:=by
 unfold tO eY;split
 .unfold dR;rw[bR,bR];refine gY λp _=>?_;show((if p.1=k then(p.1,p.2.1,y)else p).1,(if p.1=k then(p.1,p.2.1,y)else p).2.2)=if p.1=k then(p.1,y)else(p.1,p.2.2);split<;>rfl
 .unfold dR;rw[cG];rfl
def acY{kvs:List (κ×ae×V)}{xs:List (κ×ae×af)}(r:Paired (λp q=>p.1=q.1/\p.2.1=q.2.1/\bL p.2.2 q.2.2) kvs xs)(k:κ){u:af}(Y:bL y u):Paired (λp q=>p.1=q.1/\p.2.1=q.2.1/\bL p.2.2 q.2.2) (tO kvs k b y) (storedH xs k b u):=by
 have e:((dR kvs).any λW=>decide (W.1=k))=(iP xs k).isSome:=by rw[zq,(Ca r k).tD,w6]
 unfold tO storedH;rw[e];by_cases q:(iP xs k).isSome=ah
 .rw [aA q,aA q];clear e q
  induction r with
  |nil=>exact .nil
  |@cons p q ps R h t T=>
   rw[bM,bM];refine .cons ?_ T;obtain⟨Z,X,S⟩:=h;unfold putAt;by_cases e:p.1=k
   .rw [aA e,aA (Z.symm.trans e)];exact⟨Z,X,Y⟩
   .rw [ay e,ay (λz=>e (Z.trans z))];exact⟨Z,X,S⟩
 .rw [ay q,ay q];exact D7 r ⟨U,U,Y⟩
def adb{kvs:List (κ×ae×V)}{k:κ}{F:κ->ae->Prop}(h:∀p∈kvs,F p.1 p.2.1)(X:F k b):∀p∈tO kvs k b y,F p.1 p.2.1:=by
 intro p Z;unfold tO at Z;split at Z
 .obtain ⟨q,Y,rfl⟩:=bA.mp Z;split
  .exact h q Y
  .exact h q Y
 .rcases cZ.mp Z with Z|Z
  .exact h p Z
  .rw [bx.mp Z];exact X
end
section
variable{X:Cx}{κ:Type}[DecidableEq κ]{kd:KD X.prog X.w X.K κ}{ag:List (ae×Obj)}{σ:L2.St}{H:Hp}{s:aD}{a b:ae}{l:List (κ×V)}{k:κ}{A:b8}{E:af->aD->Prop}
def BK(I:aG X ag σ H s){es:Array fg}{xs:List (κ×ae×af)}{kvs:List (κ×ae×V)}(T:H a=aa (fR a od))(Z:DO kd od es ep xs kvs)(W:∀p∈kvs,kd.at_ H p.1 p.2.1):s.heap.DictOfH (kd.I.hk kd.h8) a xs:=by
 refine⟨od,es,ep,pk I.aW T,Z.ex,Z.dt,Z.en,?_,Z.nd⟩;have pr:=Z.pr;clear T Z
 induction pr with
 |nil=>intro x Y;simp at Y
 |@cons p q ps Q h t S=>
  intro x Y;rcases bJ.mp Y with e|Y
  .subst e;have:=kd.is I.aW I.ip (W p cy);rw[h.1,h.2.1]at this;exact this
  .exact S (λy R=>W y (cj _ R)) x Y
def BL(Z:A.units+64<du):(kd.I.hk kd.h8).room A.in1:=by show A.units+1+kd.I.fN<du;have:=kd.h8;lia
def aaf{Q:af->aD->Prop}(T:A.units+64<du)(I:aG X ag σ H s)(m:MD kd H a l)(hk:kd.at_ H k b)(g:df l k=aa v)(h:∀Z s',aG X ag σ H s'->bL v Z->Q Z s'):aN (model X.prog X.w) A (nG (.ref a) (.ref b)) Q E s:=by obtain⟨od,es,ep,xs,kvs,P,V,rfl,_,_,R⟩:=m;have O:=BK I P V R;obtain⟨Z,hw,Y⟩:=iC.CP (v:=v) (o:=(iP xs k).map (·.2)) (by rw[<-g];exact Ca V.pr k);obtain⟨p,S,W⟩:=rQ.mp hw;refine wpAny_getItem_heap (BL T) (kd.is I.aW I.ip hk) O S ?_;rw[W];exact h Z _ (I.gH _) Y
def aag{Q:af->aD->Prop}(Y:A.units+64<du)(I:aG X ag σ H s)(m:MD kd H a l)(hk:kd.at_ H k b)(h:∀s',aG X ag σ H s'->Q (.bool (!(df l k).isSome)) s'):aN (model X.prog X.w) A (gy .NotIn (.ref b) (.ref a)) Q E s:=by obtain⟨od,es,ep,xs,kvs,T,Z,rfl,_,V,W⟩:=m;have S:=BK I T Z W;refine wpAny_notIn_heap (BL Y) (kd.is I.aW I.ip hk) V S ?_;have q:=(Ca Z.pr k).tD;rw[w6]at q;rw[<-q];exact h _ (I.gH _)
def aae{z:V}{r:af}{Q:af->aD->Prop}(S:A.units+64<du)(I:aG X ag σ H s)(m:MD kd H a l)(hk:kd.at_ H k b)(T:bL z r)(h:∀Z s',aG X ag σ H s'->bL ((df l k).getD z) Z->Q Z s'):aN (model X.prog X.w) A (call (.builtin "dict.get") [.ref a,.ref b,r]) Q E s:=by obtain⟨od,es,ep,xs,kvs,O,Y,rfl,_,P,R⟩:=m;have W:=BK I O Y R;refine z6 zY W.typeIs Kk (Ki _ _ _) (S6 (kd.I.hk kd.h8) a b P r) ⟨BL S,k,xs,kd.is I.aW I.ip hk,W,h _ _ (I.gH _) ?_⟩;exact(Ca Y.pr k).getD T
def aah{r:af}{Q:Unit->aD->Prop}(N:A.units+64<du)(I:aG X ag σ H s)(m:MD kd H a l)(hk:kd.at_ H k b)(z:l.length<aS)(P:bL y r)(h:∀H' s',MD kd H' a (eY l k y)->(∀c o,H c=aa o->c≠a->H' c=aa o)->aG X ag σ H' s'->Q () s'):aN (model X.prog X.w) A (setItem (.ref a) (.ref b) r) Q E s:=by
 obtain⟨od,es,ep,xs,kvs,Y,Z,rfl,K,L,R⟩:=m;have C:=BK I Y Z R;have O:xs.length=(dR kvs).length:=by unfold dR;rw[aP,kC Z.pr]
 refine wpAny_setItem_heap (hsz:=by rw[O];exact K) (BL N) (kd.is I.aW I.ip hk) C λh' T hs=>?_;obtain⟨q,W,V,S,D,F,G,_,J⟩:=T;have B:=uT (t':=s.toks+(kd.I.hk kd.h8).draws k) (ob:=fR a q) I (by rw[Y];exact o3) hs ⟨q,S⟩ (uU S);have kp:∀c o,H c=aa o->c≠a->aM H a (fR a q) c=aa o:=λc o e n=>by rw[a_ n];exact e
 have le:Le 0 H (aM H a (fR a q)):=λc o e f=>kp c o e (by rintro rfl;rw[Y]at e;cases e;exact f);refine h _ _ ⟨q,W,V,_,tO kvs k b y,aJ,⟨D,F,G,J,acY Z.pr k P⟩,ac0 kvs k b y,?_,L,adb (λp M=>kd.up le (R p M)) (kd.up le hk)⟩ kp B;have:=qP (dR kvs) k y;lia
end
section
variable{X:Cx}{κ:Type}[DecidableEq κ]{kd:KD X.prog X.w X.K κ}{o i e f value tg:Expr}{pos pos' fC apos et:Pos}{td ty tv tx:TE}
def Q1{κ:Type}[DecidableEq κ](kd:KD P w K κ):TE:=λ_ H Q=>∀p H',H p=aj->MD kd H' p []->aF H H'->Q (.ref p) H'
def acv:PE X (.Dict [] [] pos) (Q1 kd):=λag s W H Q I h=>by refine wpAny_Dict_empty ⟨.ref s.heap.objs.size,_,I.laid (a:=s.heap.objs.size) (o:=fR s.heap.objs.size {cls:=.type "dict",data:=.dict #[]}) (t':=s.toks) (λ_ _ q=>cq _ q) (bp _) (uU (dm _ U)),U,?_⟩;have Z:=I.aW.fresh (bp s.heap.objs.size);refine h _ _ Z ⟨_,#[],0,[],[],aJ,⟨⟨U,U,U⟩,U,U,oK,.nil⟩,U,cN _,?_,λp Y=>by simp at Y⟩ (bg Z);have:=I.qt;exact fX.mpr (mw this)
def QZ{κ:Type}[DecidableEq κ](kd:KD P w K κ)(td ty:TE):TE:=λZ H Q=>td Z H λx H1=>ty Z H1 λy H2=>∃a b l k v,x=.ref a/\y=.ref b/\MD kd H2 a l/\kd.at_ H2 k b/\df l k=aa v/\Q v H2
def N0{ag:List (ae×Obj)}{Y:L2.St}{s:aD}{l:List (κ×V)}(I:aG X ag Y H s)(m:MD kd H a l):s.TypeIs (.ref a) "dict"/\∀b,cR a=.ref b->∃ob,s.heap.get? b=aa ob/\ob.dict=aj:=by obtain⟨od,es,ep,xs,kvs,W,Z,rfl,_,_,T⟩:=m;have e:=pk I.aW W;exact⟨⟨od,e,Z.ex.1⟩,λb q=>by cases q;exact⟨od,e,Z.ex.2.1⟩⟩
def acz(N:X.A.units+64<du)(M:PE X o td)(L:PE X i ty)(hs:zR i):PE X (.Subscript o i pos) (QZ kd td ty):=by
 intro ag s Y H Q I h;refine QU SG.lookup hs (bT (M ag s Y H _ I h) λu V x E J S P=>bT (L ag V Y E _ J P) ?_)
 rintro O B y G W T ⟨a,b,l,k,v,rfl,rfl,m,hk,g,R⟩
 obtain rfl:u=cR a:=S;obtain rfl:O=cR b:=T;exact⟨(N0 W m).1,aaf N W m hk g λD C K Z=>⟨v,G,K,Z,R⟩⟩
def Q2{κ:Type}[DecidableEq κ](kd:KD P w K κ)(ty td:TE):TE:=λZ H Q=>ty Z H λy H1=>td Z H1 λx H2=>∃a b l k,x=.ref a/\y=.ref b/\MD kd H2 a l/\kd.at_ H2 k b/\Q (.bl (!(df l k).isSome)) H2
def acj(P:X.A.units+64<du)(N:PE X i ty)(O:PE X o td):PC X .NotIn i o (Q2 kd ty td):=by
 intro ag s Z H Q I h;refine bT (N ag s Z H _ I h) λR Y y G K W S=>bT (O ag Y Z G _ K S) ?_
 rintro u E x J L V ⟨a,b,l,k,rfl,rfl,m,hk,T⟩
 obtain rfl:u=cR a:=V;obtain rfl:R=cR b:=W;exact aag P L m hk λF M=>⟨.bl _,J,M,U,T⟩
def P9{κ:Type}[DecidableEq κ](kd:KD P w K κ)(td ty tv:TE):TS:=λD Z H=>tv Z H λv H1=>td Z H1 λx H2=>ty Z H2 λy X=>∃a b l k,x=.ref a/\y=.ref b/\MD kd X a l/\kd.at_ X k b/\l.length<aS/\
 ∀Y,MD kd Y a (eY l k v)->(∀c o,X c=aa o->c≠a->Y c=aa o)->D.nx Z Y
def ac2(K:X.A.units+64<du)(J:PE X o td)(F:PE X i ty)(L:PE X value tv)(hs:oU value (aa (.Subscript o i pos')) pos.line X.env=pure aB):PS X (.Assign [.Subscript o i pos'] value pos) (P9 kd td ty tv):=by
 intro ag s Z H D I h;refine S8 (bT (L ag s Z H _ I h) λr V v t z R O=>bT (J ag V Z t _ z O) λu W x w B S P=>bT (F ag W Z w _ B P) ?_) hs
 rintro M p y n C T ⟨a,b,l,k,rfl,rfl,m,hk,G,Q⟩
 obtain rfl:u=cR a:=S;obtain rfl:M=cR b:=T;exact aah K C m hk G R λY q N kp E=>⟨Z,Y,E,Q Y N kp⟩
def Q0{κ:Type}[DecidableEq κ](kd:KD P w K κ)(td ty tx:TE):TE:=λZ H Q=>td Z H λx H1=>(∃a l,x=.ref a/\MD kd H1 a l)/\ty Z H1 λy H2=>tx Z H2 λz Y=>∃a b l k,x=.ref a/\y=.ref b/\MD kd Y a l/\kd.at_ Y k b/\Q ((df l k).getD z) Y
def acA(D:X.A.units+64<du)(C:PE X o td)(he:PE X e ty)(B:PE X f tx)(m:M2 X o "get" apos e f et):PE X (.Call (.Attribute o "get" apos) [e,f] [] et) (Q0 kd td ty tx):=by
 intro ag s Z H Q I h;refine wpAny_Call_method m.base m.dh m.line DY zY SN (bT (C ag s Z H _ I h) ?_)
 rintro u R x j W N ⟨⟨a,l,rfl,G⟩,K⟩
 obtain rfl:u=cR a:=N;obtain⟨T,V⟩:=N0 W G;refine⟨T,V,?_⟩;rw[m.Q6];refine DX U (zV (zW (bT (he ag R Z j _ W K) λE S y n q O L=>zW (bT (B ag S Z n _ q L) λfv d z p r P ⟨a',b,c,k,v,w,J,hk,M⟩=>Kh ?_))));subst w;cases v;obtain rfl:E=cR b:=O;exact aae D r J hk P λi g t Y=>⟨_,p,t,Y,M⟩
end
def Dt{Z:Type}(d:ae)(od:Obj)(kvs:List (Z×ae×V)):It:=
 ⟨λi H=>H d=aa (fR d od)/\i<kvs.length,λi H x H'=>H'=H/\∃p,kvs[i]?=aa p/\x=.ref p.2.1,λi H=>H d=aa (fR d od)/\kvs.length<=i⟩
def acX{Z:Type}[DecidableEq Z]{kvs:List (Z×ae×V)}{xs:List (Z×ae×af)}(r:Paired (λp q=>p.1=q.1/\p.2.1=q.2.1/\bL p.2.2 q.2.2) kvs xs){i:Nat}{p:Z×ae×V}(h:kvs[i]?=aa p):∃q,xs[i]?=aa q/\p.1=q.1/\p.2.1=q.2.1:=by obtain⟨q,X,Y⟩:=O0 r h;exact⟨q,X,Y.1,Y.2.1⟩
def agZ{R:Type}[DecidableEq R]{kd:KD P w K R}{m:Expr}{d:ae}{es:Array fg}{xs:List (R×ae×af)}{kvs:List (R×ae×V)}(Z:ae)(x:DO kd od es ep xs kvs):mB P w K m (Dt d od kvs) [Z] Z (λi h=>h.IsKeyIter Z d i kvs.length ep)where
 mem:=by simp
 obj:=λi h st b W=>by
  have e:b=Z:=‹W›
  subst e;obtain⟨O,e,c,r⟩:=st;exact⟨O,e,λv z=>by rw[r]at z;cases z⟩
 keep:=λi h h' st k=>st.at λO e=>k Z (by simp) O e
 item:=by
  intro X G hw D n i ag s o H E I N st L;subst G hw D;obtain⟨hd,M⟩:=L;obtain⟨t,u,g,y,B,C⟩:=N Z (by simp);have Y:=pk I.aW hd;have hsz:es.size=kvs.length:=by rw[<-iN,x.en,aP,kC x.pr]
  obtain⟨p,S⟩:∃p,kvs[i]?=aa p:=⟨kvs[i],dC M⟩;obtain⟨q,j,e1,a⟩:=acX x.pr S;have J:es[i]?=aa (entryOfKey (kd.I.hk kd.h8) q):=by rw[<-t5,x.en,cf,j];rfl
  refine aaW st Y x.dt hsz J λh' T l=>?_;have I1:aG X ag o H {s with heap:=h'}:=I.jl (t':=s.toks) (λb ob W e=>(l.2 b W).trans e) t u y B C;obtain⟨O,e,c,r⟩:=id T;exact⟨_,U,u4 (s:={s with heap:=h'}) e c r (by decide) ⟨.ref p.2.1,H,I1,by show cR q.2.1=cR p.2.1;rw[a],⟨U,p,S,U⟩,T,λb W=>(N b W).1⟩⟩
 done:=by
  intro X G hw D n i ag s o H E I N st L;subst G hw D;obtain⟨hd,M⟩:=L;obtain⟨t,u,g,y,B,C⟩:=N Z (by simp);have Y:=pk I.aW hd;have hsz:es.size=kvs.length:=by rw[<-iN,x.en,aP,kC x.pr]
  exact Od (I.ok.hd n) st Y x.dt hsz M λh' f=>⟨U,I.jl (t':=s.toks) (λb ob W e=>f b ob W e) t u y B C⟩
 self:=λA i s Q E st h=>by refine Ep st.typeIs SH (iB SH st.typeIs F.entry_dict_keyiterator_iter ?_ (F.args_dict_keyiterator_iter_1 _));show aN _ _ (ret (.ref Z)) _ _ s;exact aV ⟨_,U,"dict_keyiterator",_,st.typeIs,xk.lookup,h⟩
def Np{Z:Type}[DecidableEq Z](kd:KD P w K Z)(X:TE):TI:=λY H R=>X Y H λx H1=>∃d l,x=.ref d/\MD kd H1 d l/\
 ∀od kvs,H1 d=aa (fR d od)->dR kvs=l->(∀p∈kvs,kd.at_ H1 p.1 p.2.1)->R (Dt d od kvs) H1
def acM{W:Type}[DecidableEq W]{kd:KD X.prog X.w X.K W}{P:Expr}{V:TE}(he:PE X e V):PI X P e (Np kd V):=by
 intro ag s Q H R I h;refine bT (he ag s Q H _ I h) ?_
 rintro u O x G S N ⟨d,l,rfl,m,q⟩
 obtain rfl:u=cR d:=N;obtain⟨od,es,ep,xs,kvs,T,Z,J,_,L,M⟩:=m;have Y:=pk S.aW T;refine Gj L Y Z.ex Z.dt (B' (tk:=O.toks) S _ (agZ (kd:=kd) _ Z) ⟨_,dm _ U,U,?_⟩ (q od kvs T J M));have hsz:es.size=kvs.length:=by rw[<-iN,Z.en,aP,kC Z.pr]
 rw[hsz]<;>rfl
def Jw{Y:Type}{d:ae}{kvs:List (Y×ae×V)}:Wk (Dt d od kvs) (λH=>H d=aa (fR d od)) kvs.length (λi x _=>∃p,kvs[i]?=aa p/\x=.ref p.2.1)where
 go:=λi H Z h=>⟨h,Z⟩
 fj:=λi H x X Z y h=>by obtain⟨rfl,y⟩:=y;exact⟨aF.refl _,y⟩
 stop:=λH h=>⟨h,bp _⟩
section
variable{P:aR}{w:aQ}{K:aw}{H:Hp}{h:aK}
def Jg(ok:dk P w H h)(iI:K.In h)(Y:aY K H a xs):∃Z:List af,bD xs Z/\gi h a Z.toArray:=by
 rcases Y with Y|⟨o,Z,n,hk,X,hs,hz,r⟩
 .obtain ⟨z,Z,r,p⟩:=Y.ok ok;exact⟨Z,r,p.Gh⟩
 .exact ⟨Z.toList,r,⟨o,iI a o hk,X,n,‹hs›⟩⟩
theorem Oo:∀{ns:List Nat} {us:List af},bD (ns.map NI) us->Paired (λk u=>(qV P w).is h k u) ns us
 |[],_,r=>by cases r;exact .nil
 |n::ns,_,r=>by
  cases r with
  |cons h t=>
   obtain⟨t',rfl⟩:=h;exact .cons (by show qj (n:Int) (.int (n:Int) t')=ah;simp[qj]) (Oo t)
def BX{ns:List Nat}(ok:dk P w H h)(iI:K.In h)(Y:dF K H a ns):(pZ (qV P w)).is h ns (.ref a):=by obtain⟨Z,r,p⟩:=Jg ok iI Y;exact⟨a,Z.toArray,U,p,‹Oo r›⟩
def agU{xs:List (List Nat)}(ok:dk P w H h)(iI:K.In h)(V:kG K H a xs):(pZ (pZ (qV P w))).is h xs (.ref a):=by
 obtain⟨zs,rfl,Y,T⟩:=V;obtain⟨Z,r,p⟩:=Jg ok iI Y;refine⟨a,Z.toArray,U,p,?_⟩;have key:∀(zs:List (ae×List Nat)) (us:List af),bD (zs.map rf) us->(∀z∈zs,dF K H z.1 z.2)->Paired (λk u=>(pZ (qV P w)).is h k u) (zs.map (·.2)) us:=by
  intro zs
  induction zs with
  |nil=>intro us r _;cases r;exact .nil
  |cons z zs X=>
   intro us r hz;cases r with
   |cons Y t=>
    cases Y;exact .cons (BX ok iI (hz z cy)) (X _ t λy W=>hz y (cj _ W))
 simpa using key zs Z r T
end
def BO(m:ab.b7):List Nat×List Nat×List (List Nat):=(m.ins,m.del,m.pend.map eX)
theorem O6:∀{x y:List cW},x.map eX=y.map eX->x=y
 |[],[],_=>rfl
 |[],_::_,h=>by simp at h
 |_::_,[],h=>by simp at h
 |a::x,b::y,h=>by
  rw[bM,bM]at h;injection h with Z Y;have e:a=b:=by cases a;cases b;unfold eX at Z;simp at Z;obtain⟨Z,Y,X⟩:=Z;subst Z Y X;rfl
  rw[e,O6 Y]
def aaz{m n:ab.b7}(h:BO m=BO n):m=n:=by cases m;cases n;unfold BO at h;simp only[Prod.mk.injEq]at h;obtain⟨X,Y,Z⟩:=h;subst X Y;rw[O6 Z]
noncomputable def IK.of{Z Y:Type}[DecidableEq Z][DecidableEq Y](I:IK prog w Z)(f:Y->Z)(T:∀{x y},f x=f y->x=y):IK prog w Y where
 is:=λh k v=>I.is h (f k) v
 hash:=λk=>I.hash (f k)
 draws:=λk=>I.draws (f k)
 fN:=I.fN
 inj:=λW X=>T (I.inj W X)
 keeps:=λx S hd hs=>I.keeps x S hd hs
 pyHash:=λV hk h=>I.pyHash V hk h
 eqBool:=λ{A E s x y u v Q} V W X h=>I.eqBool V W X (by
  have e:decide (f x=f y)=decide (x=y):=by
   by_cases q:x=y
   .subst q;simp
   .rw [cE q,cE (λz=>q (T z))]
  rw[e];exact h)
 quiet:=λR hk h=>I.quiet R hk h
def mr(K:aw)(H:Hp)(a:ae)(m:ab.b7):Prop:=∃i d p:ae,aY K H a [.ref i,.ref d,.ref p]/\dF K H i m.ins/\dF K H d m.del/\rR K H p m.pend
theorem mr.up{K:aw}{C:ae}{H Z:Hp}{a:ae}{m:ab.b7}(h:mr K H a m)(l:Le C H Z):mr K Z a m:=let⟨i,d,p,T,V,X,Y⟩:=h;⟨i,d,p,dS l T,V.up l,X.up l,Y.up l⟩
noncomputable def hJ(P:aR)(w:aQ)(K:aw):KD P w K ab.b7 where
 I:=(agT (pZ (qV P w)) (pZ (qV P w)) (pZ (pZ (qV P w)))).of BO aaz
 h8:=by show 0+1+(0+1)+(0+1+1)+1<=8;decide
 at_:=λH m a=>mr K H a m
 is:=λ{H h m a} ok iI Z=>by
  obtain⟨i,d,p,O,Q,R,S⟩:=Z;obtain⟨T,r,q⟩:=Jg ok iI O;cases r with
  |cons V r=>
   cases r with
   |cons X r=>
    cases r with
    |cons Y r=>
     cases r;cases V;cases X;cases Y;exact⟨a,_,_,_,_,U,q,U,BX ok iI Q,BX ok iI R,agU ok iI S⟩
 up:=λle Z=>Z.up le
def yp(P:aR)(w:aQ)(K:aw):KD P w K (List Nat)where
 I:=pZ (qV P w)
 h8:=by show 0+1<=8;decide
 at_:=λH ns a=>dF K H a ns
 is:=λok iI h=>BX ok iI h
 up:=λle h=>dF.up h le
structure FV (P:aR) (w:aQ) (K:aw) (mg:Str->Option af) (base:aK) (k:Nat) (g:ae) (sp:Sp):Prop where
 ex:∃fd ps,jK P w K mg base lh k g fd ps sp/\(∀(vs:List V) (H:Hp) (Q:VK) (E:XK) (s:aD),sp vs H Q E->K.In s.heap->dk P w H s.heap->∃k,(k=Kr\/k=Ks\/k=Kq)/\Kz (model P w) s.heap (keeperOf (.ref g)) k)/\iv K fd ps []
def ry.fv{base:aK}{x:Str}{ps:List Str}{k:Nat}(F:ry P w K mg base x ps k sp):∃g,mg x=aa (.ref g)/\FV P w K mg base k g sp:=by obtain⟨f,V,F,Z,hk,Y⟩:=F.ex;exact⟨f,Z,V,ps,F,λ_ _ _ _ s _ X _=>PySem.W.keeps_K hk _ X,Y⟩
section
variable{X:Cx}{x:Str}{k i:Nat}{e:Expr}{es:List Expr}{t:TA}{p pos:Pos}
def agg(P:aR)(w:aQ)(K:aw)(mg:Str->Option af)(base:aK)(k i:Nat)(t:TA):TE:=λZ H Q=>Cn (Z[i]?) λv=>PQ v λg=>t Z H λY H1=>∃sp,FV P w K mg base k g sp/\sp Y H1 Q E0
noncomputable def acr(E:eN k X.A)(y:X.N[i]?=aa x)(G:uM X.env.scope x)(z:PA X (e::es) t)(hd:(x==("__debug__":Str))=aB:=by decide)(S:(x==("__classdict__":Str))=aB:=by decide)(he:cu (e::es) X.env=(aB,cC e X.env)::cu es X.env:=by rfl)(T:(gj pos (cu es X.env)).any (·.1)=aB:=by rfl):PE X (.Call (.Name x p) (e::es) [] pos) (agg X.prog X.w X.K X.mg X.base k i t):=by
 intro ag s Z H Q I h;obtain⟨v,C,h⟩:=PN h;obtain⟨g,rfl,h⟩:=adw h;refine xx (bT (O' (X:=X) y G hd S ag s Z H (λv m=>v=.ref g/\t Z m λV O=>∃sp,FV X.prog X.w X.K X.mg X.base k g sp/\sp V O Q E0) I (adv C ⟨U,h⟩)) ?_)
 rintro u M v O o r ⟨rfl,q⟩
 cases r;have key:aN (model X.prog X.w) X.A (spliced (gj pos (cu (e::es) X.env))) (λus Y=>(∃k,(k=Kr\/k=Ks\/k=Kq)/\Kz (model X.prog X.w) Y.heap (keeperOf (.ref g)) k)/\aN (model X.prog X.w) X.A (call (.ref g) ([]++us)) (EP X ag Z Q) X.xe Y) X.xe M:=
  k' (z pos ag M Z O _ o q) λus Y V n R J ⟨sp,⟨l,ps,F,D,B⟩,L⟩=>⟨D V n Q E0 Y L R.ip R.aW,P2 F E B .nil B8 R J (by rw[ee];exact L)⟩
 rw[he]at key⊢;exact PySem.W.callWith_of (P:=λh=>∃k,(k=Kr\/k=Ks\/k=Kq)/\Kz (model X.prog X.w) h (keeperOf (.ref g)) k) (by show((aB||(gj pos (cu es X.env)).any (·.1))||false)=aB;rw[T];rfl) (λh q=>q) (zV key)
end
section
variable{X:Cx}{K:aw}{T id:String}{name:Str}{r:V->List V->Hp->VK->Prop}{o e:Expr}{es:List Expr}{to:TE}{t:TA}{apos et:Pos}
def aco(K:aw)(Q:PlainAttrs T)(slot:Slot T name id)(R:typeOf (.builtin id)=pure (.type "method_descriptor"))(O:rN X id r)(P:PE X o to)(N:PA X (e::es) t)(V:xo o name X.env (cC o X.env)=cC o X.env:=by rfl)(S:((gj et (cu (e::es) X.env)).all (λx=>!x.1)&&(backToKw et (Eg [] X.env)).all (λx=>x.1.isSome)&&decide ((e::es).length+([]:List rZ).length+(if([]:List rZ).isEmpty then 0 else 1)<30))=ah:=by rfl)(Y:(apos.endLine==et.line)=ah:=by rfl)(hs:cu (e::es) X.env=(aB,cC e X.env)::cu es X.env:=by rfl)(Z:(gj et (cu es X.env)).any (·.1)=aB:=by rfl)(M:X.K=K:=by rfl):PE X (.Call (.Attribute o name apos) (e::es) [] et) (CY K T r to t):=by subst M;exact fA Q slot R O P N V S Y hs Z
end
def acK(K:aw){es:List Expr}{k:Nat}{t:qo}{n:Nat}(V:X.ij=ah)(h:w_ X es t)(Y:(r_ es X.env).length=n:=by rfl)(Z:(r_ es X.env).findIdx? (·.1)=aj:=by rfl)(T:X.K=K:=by rfl):PG X (.Tuple es k pos) (Ma K n t):=by subst T;exact vN V h Y Z
structure rq (mg:Str->Option af) (base:aK):Prop where
 ex:∃bm ob,mg "__builtins__"=aa (.ref bm)/\bm≠uy/\base.get? bm=aa ob/\ob.cls=.type "module"/\ob.dict=aa uy/\ob.data=.plain
def JD(Y:Obj)(qual:Str):Prop:=∃Z t,Y.data=.fields Z/\Z[1]?=aa (.str qual t)
def oZ(Pt:ae)(pos:Pos)(qual:Str)(H:Hp):Prop:=∃ps,H Pt=aa (.h9 ps)/\TriplesOk ps.toList/\(codeAmong pos ps.toList=aj\/∃Z Y,codeAmong pos ps.toList=aa (.ref Z)/\H Z=aa (fR Z Y)/\JD Y qual)
def oZ.x(h:oZ Pt pos qual H)(s:bZ S H H')(X:∀b∈S,∀o,H b=aa o->(∀ps,o≠.h9 ps)/\∀T,o≠.ext T):oZ Pt pos qual H':=by
 obtain⟨ps,V,P,Z⟩:=h;refine⟨ps,s _ _ V λY=>(X _ Y _ V).1 ps U,P,?_⟩;rcases Z with Z|⟨O,R,Z,W,Q⟩
 .exact .inl Z
 .exact .inr ⟨O,R,Z,s _ _ W λY=>(X _ Y _ W).2 _ U,Q⟩
def oZ.same(h:oZ Pt pos qual H)(s:aF H H'):oZ Pt pos qual H':=h.x (s.x []) (by simp)
def RL(qual:Str)(params:uo)(body:Expr)(scope:dM)(Y:Obj)(X:ae):Prop:=∃pm Z,Y=Eb "<lambda>" qual params body scope [] pm X Z
def JN(qual:Str)(params:uo)(body:Expr)(scope:dM)(H:Hp)(g:ae):Prop:=∃X Z Y,H g=aa (fR g X)/\RL qual params body scope X Z/\H Z=aa (fR Z Y)/\JD Y qual
def agq(Pt:ae)(qual:Str)(params:uo)(body:Expr)(scope:dM)(pos:Pos):TE:=λ_ H Q=>oZ Pt pos qual H/\∀g H',H g=aj->JN qual params body scope H' g->oZ Pt pos qual H'->bZ [Pt] H H'->Q (.ref g) H'
noncomputable def acw{params:uo}{body:Expr}{scope:dM}{c:ae}(hB:rq X.mg X.base)(hC:∀h,X.K.In h->r6 h c Pt)(P:X.env.code=.ref c)(hq:X.env.qual++"<lambda>"=qual)(w:defaultsOf params X.env=([],[]):=by rfl)(v:closureFor scope X.env=pure []:=by rfl)(V:X.env.globals=fF:=by rfl):PE X (.Lambda params body scope pos) (agq Pt qual params body scope pos):=by
 subst hq;intro ag s σ H Q I h;obtain⟨⟨ps,R,m,J⟩,q⟩:=h;have j:s.heap.get? Pt=aa (S5 ps):=I.aW _ _ R;have hg:=I.ok.mod.mS.keeps I.bk;obtain⟨i,ob,b1,b2,l,b4,b5,g⟩:=hB.ex;have XW:fF≠Pt:=λz=>by obtain⟨o,es,ep,e,hd,_⟩:=hg;rw[z,j]at e;cases e;cases hd
 have r:i≠Pt:=λz=>by have e:=I.bk _ _ l;rw[z,j]at e;cases e;cases b4
 have p:i≠fF:=λz=>by obtain⟨o,es,ep,e,hd,_⟩:=I.ok.mod.mS;rw[z,e]at l;cases l;rw[hd]at g;cases g
 have C:=hC _ I.ip;refine PySem.W.kla_eval w ?_;rcases J with J|⟨Z,M,J,h4,h5⟩
 .refine PySem.W.kla_makeFunction v V hg P C j m J XW ⟨i,ob,b1,b2,p,r,I.bk _ _ l,b4,b5,g⟩ λZ O h' tk hx V L A B=>?_;obtain⟨c2,M,vs,t,e2,Yw,hd,hv⟩:=A;cases e2;have nc:H Z=aj:=I.aW.fresh V;have F:H h'.objs.size=aj:=I.aW.fresh (c7 V (jO L));have neP:Pt≠Z:=f7 R nc;have neG:Pt≠h'.objs.size:=f7 R F;have D:Z≠h'.objs.size:=c8 L;obtain⟨Y,T⟩:∃Y,Y=Eb "<lambda>" (X.env.qual++"<lambda>") params body scope [] ((X.mg "__name__").getD .none) Z O:=⟨_,U⟩;rw[<-T];obtain⟨N,S⟩:∃N,N=aM (aM (aM H Pt (.h9 (ps++#[eM pos.line,eM pos.col,.ref Z]))) Z (fR Z M)) h'.objs.size (fR h'.objs.size Y):=⟨_,U⟩;have eg:N h'.objs.size=aa (fR h'.objs.size Y):=by rw[S,aJ]
  have ec:N Z=aa (fR Z M):=by rw[S,a_ D,aJ]
  have ep:N Pt=aa (.h9 (ps++#[eM pos.line,eM pos.col,.ref Z])):=by rw[S,a_ neG,a_ neP,aJ]
  have E:∀b o,H b=aa o->b≠Pt->N b=aa o:=λb o e n=>by rw[S,a_ (f7 e F),a_ (f7 e nc),a_ n];exact e
  have kp:∀b o,b≠Pt->s.heap.get? b=aa o->(h'.push Y).get? b=aa o:=λb o n e=>cq _ (hx b o n e);have og:(h'.push Y).get? h'.objs.size=aa Y:=dm _ (by rw[T];rfl);have I2:aG X ag σ N {s with heap:=h'.push Y,toks:=tk}:=by
   refine I.un ⟨λb o e n _ _=>kp b o (λz=>by rw[z,R]at n;cases n) e,λb o e n _ _=>⟨o.slots,kp b o (λz=>by rw[z,R]at n;cases n) e⟩,λb o e n _=>?_,λb o e _=>?_,λb xs e=>E _ _ e λz=>(by rw[z,R]at e;cases e),λb o u e=>E _ _ e λz=>(by rw[z,R]at e;cases e),λb qs e=>?_⟩ λb o e=>?_
   .have hb:=cI e;rw[S,a_ (c8 (wY (g8 hb V) L)),a_ (c8 (g8 hb V)),a_ (λz=>by rw[z,R]at n;cases n)];exact n
   .by_cases z:b=Pt
    .exact ⟨_,z▸cq _ B⟩
    .exact ⟨o,kp b o z e⟩
   .by_cases z:b=Pt
    .subst z;rw[R]at e;cases e;exact⟨_,ep⟩
    .exact ⟨#[],by rw[E _ _ e z];simp⟩
   .by_cases z1:b=h'.objs.size
    .subst z1;rw[eg]at e;cases e;exact uU og
    .by_cases z2:b=Z
     .subst z2;rw[ec]at e;cases e;exact uU (cq _ Yw)
     .by_cases f:b=Pt
      .subst f;rw[ep]at e;cases e;exact cq _ B
      .have e0:H b=aa o:=by rw[S,a_ z1,a_ z2,a_ f]at e;exact e
       refine(I.aW b o e0).ow (λd u XN eu=>kp d u (λz=>?_) eu) (λd G=>E _ _ G λz=>(by rw[z,R]at G;cases G)) λd xs G=>E _ _ G λz=>(by rw[z,R]at G;cases G);rcases XN with y|y
       .exact f (y▸z)
       .rw [z,R]at y;cases y
  refine⟨.ref h'.objs.size,N,I2,U,q _ _ F ⟨Y,Z,M,eg,⟨_,_,T⟩,ec,vs,t,hd,hv⟩ ⟨_,ep,?_,.inr ⟨Z,M,?_,ec,vs,t,hd,hv⟩⟩ λb o e n=>E b o e λz=>n (by simp[z])⟩
  .rw [RA];exact TriplesOk_snoc _ _ _ _ m
  .rw [RA];exact codeAmong_snoc _ m J
 .refine PySem.W.kla_makeFunctionHit v V hg P C j m J ⟨i,ob,b1,b2,p,r,I.bk _ _ l,b4,b5,g⟩ λO h' tk hk hsz=>?_;obtain⟨Y,T⟩:∃Y,Y=Eb "<lambda>" (X.env.qual++"<lambda>") params body scope [] ((X.mg "__name__").getD .none) Z O:=⟨_,U⟩;have F:H h'.objs.size=aj:=I.aW.fresh hsz;have I2:=I.laid (a:=h'.objs.size) (o:=fR h'.objs.size Y) (t':=tk) (h':=h'.push Y) (λb u e=>cq _ (hk b u e)) hsz (uU (dm _ (by rw[T];rfl)));have k:=bg (o:=fR h'.objs.size Y) F;show EP X ag σ Q (.ref h'.objs.size) {s with heap:=h'.push (Eb "<lambda>" (X.env.qual++"<lambda>") params body scope [] ((X.mg "__name__").getD .none) Z O),toks:=tk};rw[<-T];exact⟨.ref h'.objs.size,_,I2,U,q _ _ F ⟨Y,Z,M,aJ,⟨_,_,T⟩,k _ _ h4,h5⟩ ⟨ps,k _ _ R,m,.inr ⟨Z,M,J,k _ _ h4,h5⟩⟩ (k.x _)⟩
def ZU{base:aK}{params:uo}{scope:dM}{G:Pos}{x:Str}{g:ae}(S:kq N [x] scope)(m:JN qual params (.Constant (.bool ah) j G) scope H g)(p:∀(pm Z:af) (R:ae) (u:af),mz (S3 "<lambda>" qual params (.Constant (.bool ah) j G) scope [] pm (.ref R) Z) ⟨[u],[]⟩=pure [(x,u)]):∃sp,FV P w K mg base 1 g sp/\∀a H' Q,aF H H'->(∀O,aF H' O->Q (.bl ah) O)->sp [.ref a] H' Q E0:=by
 obtain⟨c,R,B,D,⟨pm,Z,rfl⟩,h,L,C,i,l⟩:=m;refine⟨λM H' Q _=>∃v,M=[v]/\aF H H'/\Q (.bl ah) H',⟨S3 "<lambda>" qual params (.Constant (.bool ah) j G) scope [] pm (.ref R) Z,[x],⟨λM H' Q E ⟨v,e,_⟩=>by rw[e];rfl,λA outer s H' args us M Q E t T I r Y=>?_⟩,λM H' Q E s Y KX ok=>?_,.all λus F=>?_⟩,λa H' Q V k=>⟨_,U,V,k _ (aF.refl _)⟩⟩
 .obtain ⟨v,rfl,V,q⟩:=Y;have J:s.heap.NoLimit:=T.mod.nolimit.keeps λb o e=>(T.bs b o e).1;have F:us.length=1:=r.length.symm;have X:∀y∈[x].zip us,scope.names.lookup y.1=aa .local\/(scope.names.lookup y.1=aa .cell/\((gK (s.heap.objs.size+1) scope.names []).lookup y.1).isSome=ah):=λ⟨n,v⟩ z=>by
   rcases S.Hv n (DI z).1 with q|q
   .exact .inl q
   .exact .inr ⟨q,KA _ _ _ (.inl q)⟩
  refine PySem.W.kla_callFunE t.depth (pk T.aW (V _ _ D)) U S.co S.A5 U ⟨R,B,L,C,U,pk T.aW (V _ _ h),i,l⟩ (I _ _ _ _ ?_);refine S' S.kind X λenv he d y=>⟨J.keeps y.toInCall.keep,PySem.W.kla_codeExpr (Constant_bool ?_)⟩;obtain⟨f,tk,rfl,hk⟩:=y.done;exact⟨.bl ah,H',U,T.gm,Un.eE hk,T.aW.eE hk,U,q⟩
 .obtain ⟨v,rfl,V,q⟩:=Y;have e:=pk ok (V _ _ D);refine⟨.frame,.inl U,?_⟩;exact PySem.W.Looks.andThen (PySem.W.Looks.ld e) PySem.W.Looks.now
 .match us,F with
  |[u],_=>exact p pm Z R u
structure zv (K:aw) (mg:Str->Option af) (x:Str) (st:c5) (ps:List Str) (c:ae):Prop where
 ex:∃(f:ae) (fd:rY) (oc:af) (od:Option ae) (kV doc pm:af) (an:Option ae) (ct:af) (Ht:Array (Option af)),fd=lB x x (mP st) (jw st) (cF st) .none kV doc pm an (.ref c) ct/\K.lookup f=aa ⟨oc,od,.func fd,Ht⟩/\uv K (.ref c) x=ah/\
  oT K (.ref f)=ah/\mg x=aa (.ref f)/\iv K fd ps []
structure DS (K:aw) (mg:Str->Option af) (A:br) (c:ae):Prop where
 Zp:p6 K mg "Run" A.cr (n8 (bo 8) 0) ["self","signs","looks","insertions","deletions","pending"]
 Vc:bK K mg "is_shown" (bo 9) ["run"]
 Vt:bK K mg "marks_of" (bo 10) ["run"]
 UQ:bK K mg "changes_pending" (bo 11) ["pending"]
 UP:bK K mg "changes_of" (bo 12) ["marks"]
 VF:bK K mg "role_of" (bo 13) ["run","c"]
 VZ:bK K mg "values_pending" (bo 14) ["pending"]
 Vr:bK K mg "look_with" (bo 15) ["look","values"]
 Vs:bK K mg "looks_with" (bo 16) ["looks","values"]
 Vo:bK K mg "look_as_shown" (bo 17) ["run","index"]
 VB:bK K mg "part_of" (bo 18) ["run","start","end"]
 V1:bK K mg "with_insertion" (bo 19) ["run","m"]
 V0:bK K mg "with_deletion" (bo 20) ["run","m"]
 V2:bK K mg "with_pending_look" (bo 21) ["run","m","k","value"]
 Vz:bK K mg "painted_outright" (bo 22) ["run","k","value"]
 VA:bK K mg "painted_tracked" (bo 23) ["run","m","k","value"]
 UW:bK K mg "count_pieces" (bo 25) ["row"]
 UX:bK K mg "count_shown" (bo 26) ["row"]
 US:bK K mg "count_by_marks" (bo 27) ["row"]
 UN:bK K mg "changes_borne" (bo 28) ["runs"]
 UT:bK K mg "count_marks" (bo 29) ["row"]
 UU:bK K mg "count_marks_of" (bo 30) ["row","c"]
 U1:bK K mg "divide_counting" (bo 31) ["row","place","is_counted"]
 UZ:bK K mg "divide" (bo 32) ["row","place"]
 U3:bK K mg "divide_stretch" (bo 34) ["row","p","q"]
 Zm:p6 K mg "Change" A.cc (n8 (bo 41) 0) ["self","author","time","kind"]
 Zq:p6 K mg "Text" A.ct (n8 (bo 42) 0) ["self"]
 U':bK K mg "is_entered" (bo 46) ["text","c"]
 UR:bK K mg "coming_change" (bo 47) ["text"]
 UM:bK K mg "bears_newest" (bo 48) ["run","m"]
 U4:bK K mg "enter_change" (bo 49) ["text","kind","made"]
 Va:bK K mg "is_own" (bo 50) ["text","run"]
 VI:bK K mg "set_author" (bo 43) ["text","a"]
 VJ:bK K mg "set_clock" (bo 44) ["text","t"]
 VL:bK K mg "set_tracking" (bo 45) ["text","on"]
 Vd:bK K mg "is_sign" (bo 52) ["number"]
 V4:bK K mg "works_outright" (bo 53) ["text","run"]
 Vp:bK K mg "look_behind" (bo 54) ["before"]
 Vq:bK K mg "look_of_end" (bo 55) ["behind"]
 UY:bK K mg "cut" (bo 57) ["text","p","q"]
 Vy:bK K mg "painted" (bo 58) ["text","run","k","value"]
 Vx:bK K mg "paint" (bo 59) ["text","p","q","k","value"]
 Vu:bK K mg "move" (bo 60) ["text","p","q","r"]
 VD:bK K mg "put" (bo 56) ["text","p","signs"]
 Zn:p6 K mg "Outcome" A.co (n8 (bo 63) 0) ["self","marks"]
 Ve:bK K mg "is_verdict" (bo 64) ["v"]
 Vm:bK K mg "keyed" (bo 65) ["changes"]
 V3:bK K mg "without" (bo 66) ["changes","c"]
 UO:bK K mg "changes_left" (bo 70) ["outcome"]
 VE:bK K mg "reject" (bo 68) ["outcome","c"]
 UE:bK K mg "accept" (bo 67) ["outcome","c"]
 U7:bK K mg "give_verdict" (bo 69) ["outcome","v","c"]
 VO:bK K mg "tally" (bo 71) ["changes","v","c","lost","weight"]
 VG:bK K mg "run_after" (bo 73) ["run","outcome"]
 Vw:bK K mg "outcome_of" (bo 72) ["changes","marks","pieces","v","selected"]
 U8:bK K mg "give_verdicts" (bo 74) ["changes","runs","v","selected"]
 Vh:bK K mg "judge_shares" (bo 76) ["text","v","selected","shares"]
 Vg:bK K mg "judge_everywhere" (bo 77) ["text","v","selected"]
 Vf:bK K mg "judge" (bo 78) ["text","v","c"]
 Vj:bK K mg "judgelist" (bo 80) ["text","v","changes"]
 Vb:bK K mg "is_part" (bo 81) ["text","i","j"]
 Vi:bK K mg "judgeby" (bo 79) ["text","v","a","k","from_time","to_time"]
 U0:zv K mg "divide_at_row_place" (bo 33) ["row","place"] c
 U2:bK K mg "divide_part" (bo 35) ["row","i","j"]
 Vl:bK K mg "judgetouching" (bo 82) ["text","v","i","j"]
 Vk:bK K mg "judgepart" (bo 83) ["text","v","i","j"]
 VU:bK K mg "tell_size" (bo 97) ["text"]
 VQ:bK K mg "tell_fate" (bo 89) ["text","c"]
 VX:bK K mg "tell_standing" (bo 88) ["text"]
 VW:bK K mg "tell_spots" (bo 87) ["text","c"]
 VR:bK K mg "tell_marks" (bo 92) ["run"]
 VN:bK K mg "stands_with" (bo 90) ["run","listed"]
 VM:bK K mg "standing_after" (bo 85) ["row","v","c"]
 VP:bK K mg "tell_falls" (bo 86) ["text","v","c"]
 VT:bK K mg "tell_row" (bo 93) ["text"]
 VY:bK K mg "tell_what" (bo 91) ["text","changes"]
 Zo:p6 K mg "Person" A.cp (n8 (bo 94) 0) ["self"]
 VC:bK K mg "people_of" (bo 95) ["text"]
 VS:bK K mg "tell_people" (bo 96) ["text"]
 U9:bK K mg "has_list" (bo 119) ["call"]
 UJ:bK K mg "answer_setting" (bo 120) ["text","call","number"]
 UH:bK K mg "answer_command" (bo 121) ["text","call","numbers","signs"]
 UI:bK K mg "answer_judging" (bo 122) ["text","call","numbers","changes"]
 UK:bK K mg "answer_telling" (bo 123) ["text","call","numbers","changes"]
 UG:bK K mg "answer_call" (bo 124) ["text","call","numbers","listed"]
 UL:bK K mg "answers" (bo 125) ["calls"]
structure Zd (P:aR) (w:aQ) (K:aw) (mg:Str->Option af) (base:aK) (A:br) (c Pt:ae):Prop extends DS K mg A c,gB K mg A where
 hB:rq mg base
 hC:∀h,K.In h->r6 h c Pt
abbrev Sc(N:List Str)(k n:Nat):Prop:=kq N (N.take k) (cF (bo n))
section
variable{P:aR}{w:aQ}{K:aw}{mg:Str->Option af}{base:aK}{A:br}{zc Pt:ae}
abbrev Cz(_:Zd P w K mg base A zc Pt)(x:Str)(ps:List Str)(k:Nat)(sp:Sp):Prop:=ry P w K mg base x ps k sp
end
section
variable{X:Cx}{x:Str}{e a b:Expr}{es:List Expr}{t:TA}{te ta tb:TE}{p pos:Pos}{k n:Nat}{ps:List Str}{sp:Sp}
noncomputable def qF(F:ry X.prog X.w X.K X.mg X.base x ps k sp)(W:eN n X.A)(T:PA X (e::es) t)(hk:k<=n:=by decide)(V:Gl X x:=by exact U)(Y:(x==("__debug__":Str))=aB:=by decide)(he:cu (e::es) X.env=(aB,cC e X.env)::cu es X.env:=by rfl)(Z:(gj pos (cu es X.env)).any (·.1)=aB:=by rfl):PE X (.Call (.Name x p) (e::es) [] pos) (CZ sp [] E0 t):=acq F (W.mono hk) V T Y he Z
noncomputable def qS(i:Nat){Z:Pos}(T:X.N.Nodup)(he:PE X e te)(W:X.N[i]?=aa x:=by exact U)(Y:ug X.env.scope x:=by first|exact .inl U|exact .inr U)(hs:oU e (aa (.Name x Z)) pos.line X.env=pure aB:=by rfl)(V:X.fn x=ah\/X.env.scope.names.lookup x=aa .local:=by first|exact .inl U|exact .inr U|assumption):PS X (.Assign [.Name x Z] e pos) (wc te (qA i)):=ac3 T W Y he hs V
def qG(i:Nat)(V:X.N.Nodup)(Y:X.N[i]?=aa x:=by exact U)(Z:ug X.env.scope x:=by first|exact .inl U|exact .inr U)(W:X.fn x=ah\/X.env.scope.names.lookup x=aa .local:=by first|exact .inl U|exact .inr U|assumption):PG X (.Name x pos) (qA i):=acJ V Y Z W
def qI(K:aw)(Z:PE X a ta)(Y:X.K=K:=by exact U):PI X b a (Nn K ta):=Y▸acL Z
def qJ(K:aw)(Z:PE X a ta)(Y:X.K=K:=by exact U):PI X b a (Nq K ta):=Y▸acQ Z
noncomputable def qL(K:aw)(Y:PE X a ta)(Z:PE X b tb)(V:X.K=K:=by exact U)(hs:DR b:=by exactλ_ _=>rfl):PE X (.Subscript a b pos) (we (PH K) ta tb):=V▸O9 ZA Y Z hs
noncomputable def qT(K:aw)(Y:PE X a ta)(Z:PE X b tb)(V:X.K=K:=by exact U)(hs:DR b:=by exactλ_ _=>rfl):PE X (.Subscript a b pos) (we (PJ K) ta tb):=V▸O9 ZD Y Z hs
def qN(K:aw)(Y:X.mg "len"=aj)(T:PA X (e::es) t)(S:X.K=K:=by exact U)(V:Gl X "len":=by exact U)(he:cu (e::es) X.env=(aB,cC e X.env)::cu es X.env:=by rfl)(Z:(gj pos (cu es X.env)).any (·.1)=aB:=by rfl):PE X (.Call (.Name "len" p) (e::es) [] pos) (tZ (HK K) t):=S▸lV Ue V Y PySem.boot_len T (by decide) (by decide) he Z
end
end TV
namespace L2
open PySem PySem.Spec PyProof.Rows
open PySem.W (Codec OpenSpec WData WellAll ReadsW WellAll)
variable{vs:List af}{u v:af}{h base:aK}{a b C f:ae}{P prog:aR}{w:aQ}{o:Obj}{j ep:Nat}{e c:Expr}{N ps:List Str}{A:b8}{E Q:af->aD->Prop}{s:aD}{p:Pos}{K:aw}{es:Array fg}{mg:Str->Option af}
def agJ{H:Hp}{Pt:ae}{o:HO}(Z:H Pt=aj)(x:eC P w H h b o):eC P w (aM H Pt (.h9 #[])) h b o:=
 x.ow (λ_ _ _ q=>q) (λc q=>by rw[a_ (f7 q Z)];exact q) λc xs q=>by rw[a_ (f7 q Z)];exact q
def af0{mb:Str->Option af}{CX:nh}{k:Nat}{fa c Pt:ae}{sp:Sp}{Z:aD}{Y:List af}{G:List fE}{R:S0}{cl:Str->Option ae}{d0:fE}(KX:K.In Z.heap)(y:Z.heap.Ns fF mg)(hb:Z.heap.Ns uy mb)(Xw:∀x:Str,x≠"__name__"->mb x=ux x)(t:Z.heap.NoLimit)(hg:Z.gens=#[])(lO:∃f ob,mg "__builtins__"=aa (.ref f)/\f≠uy/\Z.heap.get? f=aa ob/\ob.cls=.type "module"/\ob.dict=aa uy/\ob.data=.plain)(hC:r6 Z.heap c Pt)(l:Z.heap.get? Pt=aa (S5 #[]))(i:K.lookup Pt=aj)(I:nD w.params Z.heap Y G)(B:lY G=ah)(F4:∀d∈G,d.weight<=1048576)(hr:eN k z7)(F:∀base:aK,K.In base->base.Ns fF mg->TV.rq mg base->∃fd,iv K fd ps []/\jK P w K mg base CX k fa fd ps sp)(s:G.length=ps.length)(FX:∀(H:Hp) (xs:List V),w4 H->H Pt=aj->mi K H xs G->sp xs (aM H Pt (.h9 #[])) (λv H'=>Dw K H' v d0) λ_ _ _=>False)(Xd:∀H e s',CX [] H Z (λ_ _ _=>False) e s'->False):nF (model P w) z7 (.call (.ref fa) ⟨Y,[]⟩) (λr s'=>∃u as,r=.ok (.ret u)/\ReadsW R cl s'.heap u d0 as/\OldK Z.heap s'.heap/\s'.os=Z.os/\uk s'.gens) Z:=by
 obtain⟨A,ho,D⟩:=Aw G Y I B F4;have hO:w4 (gP K Z.heap A):=TF D;have M:dk P w (gP K Z.heap A) Z.heap:=TC D;have hS:=AS KX D G Y I B ho;have hV:=wo ho;have hn:gP K Z.heap A Pt=aj:=by
  cases q:gP K Z.heap A Pt with
  |none=>rfl
  |some u=>
   obtain⟨_,J,_,_,⟨e,_⟩|⟨e,_⟩⟩:=xH D q<;>(rw[l]at e;cases e)
 have h:∀b u,gP K Z.heap A b=aa u->K.lookup b=aj:=λb u q=>(xH D q).1;have O:∀{b:ae} {o:Obj},Z.heap.get? b=aa o->(∀J n,o.data≠.seq J n)->gP K Z.heap A b=aj:=λ{b o} e d=>by
  cases q:gP K Z.heap A b with
  |none=>rfl
  |some u=>
   obtain⟨_,J,_,_,⟨e2,_⟩|⟨e2,_⟩⟩:=xH D q<;>(rw[e2]at e;cases e;exact bq U (d _ _))
 generalize gP K Z.heap A=H0 at hO M hS hn h O;obtain⟨H,a⟩:∃H,H=aM H0 Pt (.h9 #[]):=⟨_,U⟩;have g:H Pt=aa (.h9 #[]):=by rw[a,aJ]
 have S:∀b,b≠Pt->H b=H0 b:=λb n=>by rw[a,a_ n]
 have aW:dk P w H Z.heap:=λb u e=>by
  by_cases z:b=Pt
  .rw [z,g]at e;cases e;rw[z];exact l
  .rw [S b z]at e;rw[a];exact agJ hn (M b u e)
 have hK:∀b u,H b=aa u->K.lookup b=aj:=λb u q=>by
  by_cases z:b=Pt
  .rw [z];exact i
  .rw [S b z]at q;exact h b u q
 have C:∀{b:ae} {o:Obj},Z.heap.get? b=aa o->(∀J n,o.data≠.seq J n)->(∀J,o.data≠.fields J)->H b=aj:=λ{b o} e d d2=>by
  have z:b≠Pt:=λz=>by rw[z,l]at e;cases e;exact d2 _ U
  rw[S b z];exact O e d
 have X:∀{b:ae} {o:Obj},Z.heap.get? b=aa o->H b=aj->(nY Z.heap H).get? b=aa o:=λe n=>X2 e n;have Q:∀{b:ae} {m:Str->Option af},Z.heap.Ns b m->(nY Z.heap H).Ns b m:=λ{b m} ⟨o,es,ep,e,d,r⟩=>⟨o,es,ep,X e (C e (λ_ _ z=>by rw[d]at z;cases z) λ_ z=>by rw[d]at z;cases z),d,r⟩;have nK:∀b o,K.lookup b=aa o->H b=aj:=λb o e=>by
  cases q:H b with
  |none=>rfl
  |some u=>
   rw[hK b u q]at e;cases e
 have j:K.In (nY Z.heap H):=λb o e=>X (KX b o e) (nK b o e);have hM:zL K mg (nY Z.heap H):=⟨j,Q y,⟨mb,Q hb,Xw⟩,let⟨mc,h1,h2⟩:=t;⟨mc,Q h1,h2⟩⟩;have hB:TV.rq mg (nY Z.heap H):=let⟨f,ob,h1,h2,h3,h4,h5,h6⟩:=lO;⟨f,ob,h1,h2,X h3 (C h3 (λ_ _ z=>by rw[h6]at z;cases z) λ_ z=>by rw[h6]at z;cases z),h4,h5,h6⟩;have e0:rz P w K mg (nY Z.heap H) z7 [] Z H:=⟨U,hM,λb o e=>aba e,zM (X4 _ _),trivial,λb hb=>bq (show b∈([]:List ae)from hb) (by simp),aW,.of_eq hg⟩;have hl:Y.length=ps.length:=by rw[Dh I];exact s
 have N:=FX H0 _ hO hn hS;rw[<-a]at N;obtain⟨fd,pz,hF⟩:=F _ j (Q y) hB;have L:=pz Z Y KX (by rw[ee];exact hl);rw[ee]at L;refine xp (hF.HY z7 [] Z H ⟨Y,[]⟩ Y (Y.map i0) _ _ hr e0 L hV N) λr s' x=>?_;cases r with
 |error e=>exact(Xd H e s' x).elim
 |ok fl=>
  cases fl with
  |next=>exact i4 x
  |brk=>exact i4 x
  |cont=>exact i4 x
  |ret u=>
   obtain⟨v,H',os,gm,un,T,r',q⟩:=x;have eE:∀b o,b≠Pt->Z.heap.get? b=aa o->s'.heap.get? b=aa o:=λb o z e=>by
    cases q2:H b with
    |none=>exact un.keep b o e q2 (by intro z;exact bq (show b∈([]:List ae)from z) (by simp)) (by simp)
    |some u2=>
     rcases hO b with E|⟨ob,u3,E⟩
     .rw [<-S b z,q2]at E;cases E
     .rw [<-S b z]at E;have z2:=un.pq b ob _ E;obtain⟨e1,_⟩:=aW b _ E;obtain⟨e2,_⟩:=T b _ z2;rw[e]at e1;cases e1;exact e2
   obtain⟨more,hm⟩:=un.pY Pt #[] g;have p:s'.heap.get? Pt=aa {cls:=.none,data:=.fields (#[]++more)}:=T Pt _ hm;have RK:K.In s'.heap:=λb o e=>eE b o (λz=>by rw[z,i]at e;cases e) (KX b o e);obtain⟨as,YG⟩:=Dw.vU (R:=R) (cl:=cl) T RK d0 v u q r';refine⟨u,as,U,YG,⟨λb o e=>?_,λb o e=>?_⟩,os,gm⟩
   .by_cases z:b=Pt
    .subst z;rw[l]at e;cases e;exact .inr (.inl ⟨(hC.tab l).isCodeTable,U,#[],more,U,p⟩)
    .exact .inl (eE b o z e)
   .by_cases z:b=Pt
    .exact ⟨_,z▸p⟩
    .exact ⟨o,eE b o z e⟩
def ahf{r:OpenSpec}{k:Nat}{q:aR}{Z:List Str}{XP:(Str->Option af)->aK->Prop}{y:aQ->aK->Prop}{d dl:DefRec}{x:Str}{K:qi->aw}{CX:nh}{sp:aw->ae->Sp}{c Pt:qi->ae}(X:r.wellSaid=ah)(hdf:d.params.defaults=[])(N:r.args.length=ps.length)(j:eN k z7)(hY:∀(w:aQ) (h:aK),y w h->(K w.params).In h)(P:(PyProof.Rows.recsOf q).find? (λe=>e.name==x)=aa dl)(I:∀p,PySem.W.tabIn (K p) x=aa (c p,Pt p))(D:∀p,(K p).lookup (Pt p)=aj)(F:∀(w:aQ) (mg:Str->Option af) (L:ae) (h:aK),y w h->(K w.params).In h->h.Ns fF mg->mg d.name=aa (.ref L)->r6 h (c w.params) (Pt w.params)->∀base:aK,(K w.params).In base->base.Ns fF mg->TV.rq mg base->∃m,iv (K w.params) m ps []/\jK r.prog w (K w.params) mg base CX k L m ps (sp (K w.params) (Pt w.params)))(E:∀(K:aw) (Pt:ae) (H:Hp) (xs:List V) (a:Ky r.args),w4 H->H Pt=aj->Codec.withinAll r.args a=ah->Kx r.args r.asked a=ah->mi K H xs (z3 r.args a)->sp K Pt xs (aM H Pt (.h9 #[])) (λv H'=>Dw K H' v (r.ret.enc (Kx r.args r.f a))) λ_ _ _=>False)(B:∀(H:Hp) (s:aD) (e:af) (s':aD),CX [] H s (λ_ _ _=>False) e s'->False):PySem.W.WalkOS q Z XP y r d [] (λf vs=>PySem.call f vs):=by intro w hX S mg mb G Y L o pm cd doc dV kV ho hd hcd hD C hg args n as O M l J hlo;obtain⟨a,e1,e2⟩:=PySem.W.os_pre_some O;obtain⟨e3,Q⟩:=Codec.encAll_of_decAll r.args args a e1;subst e3;have t:=hY w _ Y;obtain⟨hC,hP⟩:=PySem.W.tab_of G.T t P (I w.params);have hF:=F w mg L _ Y t G.T.g C hC;refine PySem.W.enter_call (xp (af0 (R:=[]) (cl:=classAt hX.heap) (d0:=r.ret.enc (Kx r.args r.f a)) t G.T.g G.T.b G.T.builtins G.T.nolimit hg G.T.bmain hC hP (D _) J (Pl _ _) (ZV M) j hF (by rw[LZ];exact N) (λH xs hO hn hS=>E (K w.params) (Pt w.params) H xs a hO hn Q e2 hS) λH e s'=>B H S e s') λr' s' i=>?_);obtain⟨u,A,rfl,h1,h2,h3,h4⟩:=i;exact⟨.inl ⟨u,_,A,U,λ_=>rfl,h1,(OpenSpec.post_iff X Q _ _).mpr U,λz=>kl (show aB=ah from z)⟩,h2,h3,h4⟩
end L2
namespace TV
open PySem PySem.Spec PyProof.Rows L2
variable{a b C Pt:ae}{Q:VK}{r:ab.ak}{h h':aK}{o od:Obj}{P:aR}{w:aQ}{N:List Str}{ps:List (Nat×ae)}{f:Str}{H:Hp}{S:List ae}{ns:List Int}{K:aw}{Y:Nat->V->Hp->Prop}{X:Cx}{e:Expr}{mg:Str->Option af}{c:bV}
variable{P:aR}{w:aQ}{K:aw}{mg:Str->Option af}{base:aK}{A:br}{zc Pt:ae}(Z:Zd P w K mg base A zc Pt)
section
variable{K:aw}{mg:Str->Option af}{h:aK}{x:Str}{f C:ae}{oc kV dc pm cd ct:af}{od an:Option ae}{sl:Array (Option af)}{st:c5}{ps:List Str}
def V6(X:K.In h)(G:h.Ns fF mg)(a:my K fF x=aa (aa (.ref f)))(l:K.lookup f=aa ⟨oc,od,.func (lB x x (mP st) (jw st) (cF st) .none kV dc pm an cd ct),sl⟩)(c:uv K cd x=ah)(k:oT K (.ref f)=ah)(b:∀(kV doc pm:af) (an:Option ae) (Z ct:af) (us:List af),us.length=ps.length->mz (lB x x (mP st) (jw st) (cF st) .none kV doc pm an Z ct) ⟨us,[]⟩=pure (ps.zip us)):bK K mg x st ps:=⟨f,_,xW l c k,z5 X G a,(xW l c k).pf b⟩
def V5{c:ae}(X:K.In h)(G:h.Ns fF mg)(a:my K fF x=aa (aa (.ref f)))(l:K.lookup f=aa ⟨oc,od,.func (lB x x (mP st) (jw st) (cF st) .none kV dc pm an (.ref c) ct),sl⟩)(cc:uv K (.ref c) x=ah)(k:oT K (.ref f)=ah)(b:∀(kV doc pm:af) (an:Option ae) (Z ct:af) (us:List af),us.length=ps.length->mz (lB x x (mP st) (jw st) (cF st) .none kV doc pm an Z ct) ⟨us,[]⟩=pure (ps.zip us)):zv K mg x st ps c:=⟨f,_,oc,od,kV,dc,pm,an,ct,sl,U,l,cc,k,z5 X G a,(xW l cc k).pf b⟩
def Zr{q:Str}(X:K.In h)(G:h.Ns fF mg)(hC:my K fF x=aa (aa (.ref C)))(a:oS K (.ref C) "__init__"=aa (aa (.ref f)))(i:PySem.W.isFn K (.ref f)=ah)(l:K.lookup f=aa ⟨oc,od,.func (lB "__init__" q (mP st) (jw st) (cF st) .none kV dc pm an cd ct),sl⟩)(c:uv K cd q=ah)(k:oT K (.ref f)=ah)(m:KG K C=ah)(Y:oT K (.ref C)=ah)(b:∀(kV doc pm:af) (an:Option ae) (Z ct:af) (us:List af),us.length=ps.length->mz (lB "__init__" q (mP st) (jw st) (cF st) .none kV doc pm an Z ct) ⟨us,[]⟩=pure (ps.zip us))(V:q=x++".__init__"):p6 K mg x C st ps:=by subst V;exact⟨f,_,xW l c k,z5 X G hC,⟨m,a,i,Y⟩,(xW l c k).pf b⟩
def W'{i:Int}{t:Tok}(X:K.In h)(G:h.Ns fF mg)(a:my K fF x=aa (aa (.int i t))):Gi mg x i:=⟨t,z5 X G a⟩
def agV{Z:Array af}{n:Nat}{ns:List Nat}(l:K.lookup a=aa ⟨.type "tuple",od,.seq Z n,sl⟩)(hz:Z.size<=aS)(Y:bD (ns.map NI) Z.toList):∀H,dF K H a ns:=λH=>.inr ⟨_,Z,n,l,U,U,hz,Y⟩
def Us(pg:Ec K C Str.empty=ah)(hd:Ea K C=ah)(po:KI K C=ah)(sa:oS K (.ref C) "__setattr__"=aa (aa (.builtin "object.__setattr__"))):lj K C:=⟨pg,hd,po,sa⟩
def Uu{K:aw}{h:aK}{c P:ae}(X:K.In h)(H:r6 h c P)(l:K.lookup c=aa o):∀h',K.In h'->r6 h' c P:=λh' N=>by obtain⟨Q,T,Y,R,Z,S,V,text,tt,e,r⟩:=H;have:=X _ _ l;rw[e]at this;have O:=dX this;subst O;exact⟨Q,T,Y,R,Z,S,V,text,tt,N _ _ l,r⟩
end
end TV
namespace TV
open PySem PySem.Spec PyProof.Rows L2
variable{p Pt I:ae}{Q:VK}{h:aK}{o:Obj}{E:XK}{P:aR}{w:aQ}{N:List Str}{sp:Sp}{v:V}{H H':Hp}{S:List ae}{K:aw}{Y:Nat->V->Hp->Prop}{X:Cx}{mg:Str->Option af}{c:bV}
def SS(sp:aw->ae->Sp):Prop:=∀{K:aw} {Pt p:ae} {H:Hp} {l:List Int} {E:XK} {d:fE},w4 H->H Pt=aj->aL K H p (l.map V.int)->l.length<=16000->K5 l=ah->(∀(H':Hp) (q:ae),H' q=aa (.aC ((Ad l).map V.int))->Dw K H' (.ref q) d)->sp K Pt [.ref p] (aM H Pt (.h9 #[])) (λv H'=>Dw K H' v d) E
def SF(sp:aw->ae->Sp):Prop:=∀{P:aR} {w:aQ} {K:aw} {mg:Str->Option af} {Y c Pt:ae} {A:br},mg "answers"=aa (.ref Y)->gB K mg A->DS K mg A c->(∀h,K.In h->r6 h c Pt)->∀base:aK,K.In base->base.Ns fF mg->rq mg base->∃Z,iv K Z ["calls"] []/\jK P w K mg base lh 11 Y Z ["calls"] (sp K Pt)
def Ww{sp:aw->ae->Sp}(F:SF sp){O c cr cc ct co cp R V Y:ae}(X:K.In h)(Z:mg "answers"=aa (.ref O))(G:my K fF "Run"=aa (aa (.ref cr)))(H:my K fF "Change"=aa (aa (.ref cc)))(I:my K fF "Text"=aa (aa (.ref ct)))(J:my K fF "Outcome"=aa (aa (.ref co)))(L:my K fF "Person"=aa (aa (.ref cp)))(M:my K fF "PLAIN_LOOK"=aa (aa (.ref R)))(N:my K fF "PROPERTIES"=aa (aa (.ref V)))(h8:my K fF "NUMBER_COUNTS"=aa (aa (.ref Y)))(l:K.lookup c=aa o)(T:gB K mg ⟨cr,cc,ct,co,cp,R,V,Y⟩)(S:DS K mg ⟨cr,cc,ct,co,cp,R,V,Y⟩ c)(hC:r6 h c Pt):∀base:aK,K.In base->base.Ns fF mg->rq mg base->∃Q,iv K Q ["calls"] []/\jK P w K mg base lh 11 O Q ["calls"] (sp K Pt):=F Z T S (Uu X hC l)
end TV
section
open PySem PySem.W PyProof.Rows
def TV.ax{G P:Prop}(_:G)(p:P):P:=p
def TV.Z5{Z:Type}{P:List Z->Prop}:∀{us:List Z},us.length=1->(∀a,P [a])->P us
 |[_],_,h=>h _
def TV.Z6{Z:Type}{P:List Z->Prop}:∀{us:List Z},us.length=2->(∀a b,P [a,b])->P us
 |[_,_],_,h=>h _ _
def TV.Z7{Z:Type}{P:List Z->Prop}:∀{us:List Z},us.length=3->(∀a b c,P [a,b,c])->P us
 |[_,_,_],_,h=>h _ _ _
def TV.Z8{Z:Type}{P:List Z->Prop}:∀{us:List Z},us.length=4->(∀a b c d,P [a,b,c,d])->P us
 |[_,_,_,_],_,h=>h _ _ _ _
def TV.Z9{Z:Type}{P:List Z->Prop}:∀{us:List Z},us.length=5->(∀a b c d e,P [a,b,c,d,e])->P us
 |[_,_,_,_,_],_,h=>h _ _ _ _ _
def TV.Z_{Z:Type}{P:List Z->Prop}:∀{us:List Z},us.length=6->(∀a b c d e f,P [a,b,c,d,e,f])->P us
 |[_,_,_,_,_,_],_,h=>h _ _ _ _ _ _
local macro_rules|`(tactic|walk_at"tv bind")=>`(tactic|(first|(exactλ_ _ _ _ _ _ us hl=>TV.Z5 (P:=λus=>mz _ ⟨us,[]⟩=pure (rM _ us)) hl λ_=>rfl)|(exactλ_ _ _ _ _ _ us hl=>TV.Z6 (P:=λus=>mz _ ⟨us,[]⟩=pure (rM _ us)) hl λ_ _=>rfl)|(exactλ_ _ _ _ _ _ us hl=>TV.Z7 (P:=λus=>mz _ ⟨us,[]⟩=pure (rM _ us)) hl λ_ _ _=>rfl)|(exactλ_ _ _ _ _ _ us hl=>TV.Z8 (P:=λus=>mz _ ⟨us,[]⟩=pure (rM _ us)) hl λ_ _ _ _=>rfl)|(exactλ_ _ _ _ _ _ us hl=>TV.Z9 (P:=λus=>mz _ ⟨us,[]⟩=pure (rM _ us)) hl λ_ _ _ _ _=>rfl)|(exactλ_ _ _ _ _ _ us hl=>TV.Z_ (P:=λus=>mz _ ⟨us,[]⟩=pure (rM _ us)) hl λ_ _ _ _ _ _=>rfl)))
local macro_rules|`(tactic|walk_at"tv def")=>`(tactic|(refine' TV.V6 (by assumption) (by assumption) ?a ?l ?c ?k ?b;(case a=>k_is);(case l=>k_is);(case c=>k_is);(case k=>k_is);(case b=>walk_at"tv bind")))
local macro_rules|`(tactic|walk_at"tv defL")=>`(tactic|(refine' TV.V5 (by assumption) (by assumption) ?a ?l ?c ?k ?b;(case a=>k_is);(case l=>k_is);(case c=>k_is);(case k=>k_is);(case b=>walk_at"tv bind")))
local macro_rules|`(tactic|walk_at"tv ini")=>`(tactic|(refine' TV.Zr (by assumption) (by assumption) ?a ?b ?c ?d ?e ?f ?g ?h ?i ?j;(case a=>k_is);(case b=>k_is);(case c=>k_is);(case d=>k_is);(case e=>k_is);(case f=>k_is);(case g=>k_is);(case h=>k_is);(case i=>walk_at"tv bind");(case j=>rfl)))
local macro_rules|`(tactic|walk_at"tv txt")=>`(tactic|first|(refine' TV.Us ?a ?b ?c ?d;(case a=>k_is);(case b=>k_is);(case c=>k_is);(case d=>k_is))|(refine' TV.W' (by assumption) (by assumption) ?a;(case a=>k_is))|(refine' PySem.W.mg_none_of (by assumption) (by assumption) ?_;k_is)|(refine' z5 (by assumption) (by assumption) ?_;k_is)|(refine' TV.agV ?l ?z ?v;(case l=>k_is);(case z=>decide);(case v=>repeat(first|exact PySem.Paired.nil|refine PySem.Paired.cons ⟨_,rfl⟩ ?_)))|decide+kernel|(refine'(show oS _ _ _=_ from ?_);k_is))
set_option maxRecDepth 100000 in
set_option maxHeartbeats 0 in
theorem PySem.Challenge.cw_x {sp:aw->ae->L2.Sp} (SF:TV.SF sp) (SS:TV.SS sp):PySem.Challenge.rw_trackverdict_s01_answers.Holds:=by
 refine' TV.ax ?hc ?main;(case main=>w_on;k_headS;(case hw=>exact⟨[.list [.int 19]],by decide+kernel,by decide+kernel⟩))
 k_fillS
 refine L2.ahf (r:=PySem.Challenge.rw_trackverdict_s01_answers) (k:=11) (CX:=L2.lh) (ps:=["calls"]) (sp:=sp) (x:="divide_at_row_place") (c:=λ_=>186) (Pt:=λ_=>182) (by decide+kernel) rfl rfl ⟨rfl,by decide,by decide⟩ (λw h Y=>PySem.W.kIn_of Y) rfl ?tb ?no ?F ?S (λ_ _ _ _ z=>z)
 case tb=>intro p;kernel_rfl
 case no=>intro p;kernel_rfl
 case F=>
  intro w mg fa h Y KX G Yn hC
  refine' TV.Ww SF KX Yn ?h1 ?h2 ?h3 ?h4 ?h5 ?h6 ?h7 ?h8 ?l ?T ?DS hC
  (case h1=>k_is);(case h2=>k_is);(case h3=>k_is);(case h4=>k_is);(case h5=>k_is);(case h6=>k_is);(case h7=>k_is);(case h8=>k_is);(case l=>k_is)
  case T=>
   constructor
   all_goals walk_at"tv txt"
  case DS=>
   constructor
   all_goals first|walk_at"tv def"|walk_at"tv ini"|walk_at"tv defL"
 case S=>
  intro K Pt H xs a hO hn yl Xu hx
  cases hx with
  |cons h1 h2=>
   cases h2
   cases h1 with
   |aC hs ha=>
    have e:=L2.Nv a.1 _ ha
    subst e
    have q:((r8.inLen 0 16000 a.1&&a.1.all (r8.inInt (_root_.Int.negSucc 999999999999999999) (_root_.Int.ofNat 1000000000000000000)))&&ah)=ah:=yl
    rw[fk,fk]at q
    exact SS hO hn hs (r8.inNat_iff.mp q.1.1).2 Xu λH' q hq=>.aC (L2.aL.of hq) (L2.LX _)
end
namespace ab
open Vatrka (has next onStretch outright putBefore shown visible)
open Vatrkc (Call giveAll isMove role settle settleIn spotsFrom)
variable{y:aE}{r:List aE}{p q c a m P j v:Nat}{f:aE->List aE}{M S:Nat->Bool}{b:Bool}{s:bf}{cs:List Nat}
def Qu:Call->Nat
 |.put _ signs=>signs.length
 |_=>0
section
variable{s:bf}{P t:Nat}
def l7(h:WF s)(b:dE s P t){n:Nat}:WF s/\dE s (P+n) (t+1):=⟨h,b.mono (rO _ _) (cS _)⟩
def sO(h:WF s)(b:dE s P t){c:Ag}{n:Nat}(Y:∀k,(lH s.doc c).2=.refused k->True)(Z:∀l,(lH s.doc c).2=.told l->WF (dP s (lH s.doc c).1)/\dE (dP s (lH s.doc c).1) (P+n) (t+1)):WF (qp s c).1/\dE (qp s c).1 (P+n) (t+1):=by
 unfold qp;dsimp only;split
 .rename_i l e;exact Z l e
 .exact l7 h b
def A6(h:WF s)(b:dE s P t){v:Int}(Z:∀c∈cs,1<=c/\c<=bj s):WF (uK s v cs).1/\dE (uK s v cs).1 (P+0) (t+1):=by unfold uK xE;exact⟨h.settled (cN _),(b.settled (cN _) Z).mono (bp _) (cS _)⟩
def CF{p:Nat->Bool}(Z:c∈(ie s).filter p):1<=c/\c<=bj s:=pK.mp (d4.mp Z).1
def vn{c:Int}:dD s c=ah↔1<=c/\c<=bj s:=by unfold dD dY;rw[fk,xF,xF];exact Iff.rfl
def Gg{p q:Int}{n:Nat}:gC p q n=ah↔0<=p/\p<q/\q<=n:=by unfold gC;simp only[fk,xF]
def Ll{z:Int}{n:Nat}:lF z n=ah↔0<=z/\z<n:=by unfold lF;simp only[fk,xF]
def Ru{z:Int}{b:Nat}:dY z a b=ah↔(a:Int)<=z/\z<=b:=by unfold dY;simp only[fk,xF]
def vw(h:¬b=aB):b=ah:=by cases b<;>simp_all
def AL(h:WF s):0<dG s.doc:=by obtain⟨r,x,e,Z⟩:=h.kS;unfold dG;rw[e,wA Z,bb];exact J8 _
def HS(s:bf)(d:fV)(he:d.changes=s.doc.changes):dP s d={doc:=d,tallies:=s.tallies}:=by unfold dP;rw[he,ay (jP _),ee]
def v9(h:WF s)(b:dE s P t){d:fV}{n:Nat}(Z:d.row=s.doc.row)(Y:d.changes=s.doc.changes)(V:1<=d.author/\d.author<=99):WF (dP s d)/\dE (dP s d) (P+n) (t+1):=by
 rw[HS s d Y];have he:bj {doc:=d,tallies:=s.tallies}=bj s:=by show d.changes.length=s.doc.changes.length;rw[Y]
 have W:∀c,fW {doc:=d,tallies:=s.tallies} c=fW s c:=λc=>by unfold fW ju;dsimp only;rw[Y]
 have X:=b.mono (rO P n) (cS t);refine⟨⟨?_,?_,?_,V,?_⟩,⟨?_,?_⟩⟩
 .show iy d.row;rw[Z];exact h.kS
 .rw [he];show∀x∈d.row,_;rw[Z];exact h.all
 .rw [he];exact h.hZ
 .show∀x∈d.changes,_;rw[Y];exact h.aI
 .intro M S T;show c9 M S d.row<=_;rw[Z];exact X.c9 M S λc Q R=>(T c Q (by rw[he];exact R)).trans (W c)
 .show d.row.length<=_;rw[Z];exact X.bG
def af9(h:WF s)(b:dE s P t)(c:Call):WF (cP s c).1/\dE (cP s c).1 (P+Qu c) (t+1):=by
 cases c with
 |author a=>
  refine sO h b (λ_ _=>trivial) λl Z=>?_;unfold lH at Z⊢;dsimp only at Z⊢;split
  .rename_i hw;have:=Ru.mp hw;refine v9 h b U rfl ⟨?_,?_⟩
   .show 1<=a.toNat;lia
   .show a.toNat<=99;lia
  .rename_i hw;rw[ay hw]at Z;cases Z
 |clock u=>
  refine sO h b (λ_ _=>trivial) λl Z=>?_;unfold lH at Z⊢;dsimp only at Z⊢;split
  .exact v9 h b U rfl h.pb
  .split
   .exact v9 h b U rfl h.pb
   .exact v9 h b U rfl h.pb
 |track S=>
  refine sO h b (λ_ _=>trivial) λl Z=>?_;unfold lH at Z⊢;dsimp only at Z⊢;split
  .exact v9 h b U rfl h.pb
  .exact v9 h b U rfl h.pb
 |put p signs=>
  refine sO h b (λ_ _=>trivial) λl Z=>?_;show WF (dP s (mG s.doc p signs).1)/\dE (dP s (mG s.doc p signs).1) _ _;have Z:(mG s.doc p signs).2=.told l:=Z;unfold mG at Z⊢;split
  .rename_i hw;rw[aA hw]at Z;cases Z
  .rename_i hw;rw[ay hw]at Z;have V:=Ll.mp (vw hw);split
   .rename_i Y;rw[aA Y]at Z;cases Z
   .have:=ade h b (p:=p.toNat) (signs:=signs.map λz=>z.toNat) (by lia);rw[aP]at this;exact this
 |cut p q=>
  refine sO h b (λ_ _=>trivial) λl Z=>?_;show WF (dP s (o7 s.doc p q).1)/\dE (dP s (o7 s.doc p q).1) _ _;have Z:(o7 s.doc p q).2=.told l:=Z;unfold o7 at Z⊢;have T:=AL h;split
  .rename_i hw;rw[aA hw]at Z;cases Z
  .rename_i hw;have V:=Gg.mp (vw hw);exact UA h b (p:=p.toNat) (q:=q.toNat) (by lia)
 |paint p q k v=>
  refine sO h b (λ_ _=>trivial) λl Z=>?_;show WF (dP s (mF s.doc p q k v).1)/\dE (dP s (mF s.doc p q k v).1) _ _;have Z:(mF s.doc p q k v).2=.told l:=Z;unfold mF at Z⊢;split
  .rename_i hw;rw[aA hw]at Z;cases Z
  .rename_i hw;rw[ay hw]at Z;split
   .rename_i Y;rw[aA Y]at Z;cases Z
   .rename_i Y;have hk:=(fk _ _).mp (vw Y);have hk:=Ru.mp hk.1;exact acd h b (p:=p.toNat) (q:=q.toNat) (k:=k.toNat) (v:=v.toNat) (by lia)
 |move p q r=>
  refine sO h b (λ_ _=>trivial) λl Z=>?_;show WF (dP s (mE s.doc p q r).1)/\dE (dP s (mE s.doc p q r).1) _ _;have Z:(mE s.doc p q r).2=.told l:=Z;unfold mE at Z⊢;have T:=AL h;split
  .rename_i hw;rw[aA hw]at Z;cases Z
  .rename_i hw;rw[ay hw]at Z;have hw:=(fk _ _).mp (vw hw);have Q:=Gg.mp hw.1;have R:=Ll.mp hw.2;split
   .rename_i Y;rw[aA Y]at Z;cases Z
   .rename_i Y;exact aaC h b (p:=p.toNat) (q:=q.toNat) (r:=r.toNat) (by lia) (by lia) (by lia) (by lia)
 |judge v c=>
  show WF (nJ s v c).1/\dE (nJ s v c).1 _ _;unfold nJ;split
  .exact l7 h b
  .split
   .exact l7 h b
   .rename_i _ hw;have:=vn.mp (vw hw);exact A6 h b (cs:=[c.toNat]) (λd hd=>by rw[bx.mp hd];lia)
 |judgeby v a k X W=>
  show WF (nM s v a k X W).1/\dE (nM s v a k X W).1 _ _;unfold nM;split
  .exact l7 h b
  .split
   .exact l7 h b
   .exact A6 h b (λd hd=>CF hd)
 |judgelist v l=>
  show WF (nN s v l).1/\dE (nN s v l).1 _ _;unfold nN;split
  .exact l7 h b
  .split
   .exact l7 h b
   .exact A6 h b (λd hd=>CF hd)
 |judgetouching v i j=>
  show WF (nP s v i j).1/\dE (nP s v i j).1 _ _;unfold nP;split
  .exact l7 h b
  .split
   .exact l7 h b
   .exact A6 h b (λd hd=>CF hd)
 |judgepart v i j=>
  show WF (nO s v i j).1/\dE (nO s v i j).1 _ _;unfold nO;split
  .exact l7 h b
  .split
   .exact l7 h b
   .rename_i _ hw;have:=Gg.mp (vw hw);unfold xE;exact⟨h.settled (by lia),(b.settled (by lia) (λd hd=>CF hd)).mono (bp _) (cS _)⟩
 |_=>exact l7 h b
def QK:WF kK/\dE kK 1 0:=by
 refine⟨⟨⟨[],_,U,U,U,U⟩,?_,U,by decide,by intro x Z;exact bq Z (by simp[kK,Vatrka.start])⟩,⟨λM S _=>?_,by decide⟩⟩
 .intro x Z;have:x={sign:=Ah,look:=o8}:=by simpa[kK,Vatrka.start]using Z
  subst this;exact⟨U,by simp,by simp,by simp,by simp,by simp,by simp,U⟩
 .exact c7 RO (by decide)
end
theorem uV(g:ak->List ak)(f:aE->List aE):∀(rs:List ak),(∀r∈rs,ao (g r)=r.ao.flatMap f)->ao (rs.flatMap g)=(ao rs).flatMap f
 |[],_=>rfl
 |r::rs,h=>by rw[dW,ik,d5,gw,h r cy,uV g f rs λx Z=>h x (cj _ Z)]
def Fb(r:ak)(f:aE->List aE)(Z:ak)(h:Nat×List Nat->Nat×List Nat)(Y:∀c∈r.cells,f (r.bz c)=[Z.bz (h c)])(hs:Z.cells=r.cells.map h):Z.ao=r.ao.flatMap f:=by
 unfold ak.ao;rw[hs];generalize r.cells=cs at Y
 induction cs with
 |nil=>rfl
 |cons c cs X=>rw[bM,bM,bM,dW,Y c cy,X λx W=>Y x (cj _ W)];rfl
def E_(r:ak)(f:aE->List aE)(Z:ak)(Y:∀c,f (r.bz c)=[Z.bz c])(hs:Z.cells=r.cells):Z.ao=r.ao.flatMap f:=
 Fb r f Z id (λc _=>Y c) (by rw[hs,kx])
def Wz(r:ak)(f:aE->List aE)(h:∀c,f (r.bz c)=[]):r.ao.flatMap f=[]:=by
 unfold ak.ao
 induction r.cells with
 |nil=>rfl
 |cons c cs Z=>rw[bM,dW,h c,Z];rfl
def ak.outright(d:fV)(r:ak):Bool:=o4 d (r.bz (0,[]))
def eG(d:fV)(r:ak):List ak:=if r.shown=ah then(if r.outright d=ah then[]else[{r with del:=[next d]}])else[r]
def yu(d:fV)(r:ak):ao (eG d r)=r.ao.flatMap (d6 (eO d)):=by
 unfold eG;by_cases hs:r.shown=ah
 .rw [aA hs];by_cases Z:r.outright d=ah
  .rw [aA Z];refine(Wz r _ λc=>?_).symm;unfold d6 eO;rw[aA (show gD (r.bz c)=ah from hs),aA (show o4 d (r.bz c)=ah from Z)]
  .rw [ay Z,kO];refine E_ r _ _ (λc=>?_) U;unfold d6 eO;rw[aA (show gD (r.bz c)=ah from hs),ay (show¬o4 d (r.bz c)=ah from Z)];rfl
 .rw [ay hs,kO];refine E_ r _ _ (λc=>?_) U;unfold d6;rw[ay (show¬gD (r.bz c)=ah from hs)]
def GD(d:fV){r:ak}(h:r.cells≠[]):bP (eG d r):=by
 unfold eG;intro x Z;split at Z
 .split at Z
  .simp at Z
  .rw [bx.mp Z];exact h
 .rw [bx.mp Z];exact h
def Ff{g:ak->List ak}{rs:List ak}(h:∀r∈rs,bP (g r)):bP (rs.flatMap g):=by intro x Z;obtain⟨r,X,Y⟩:=ny.mp Z;exact h r X x Y
def iG{a b:List ak}(X:bP a)(Y:bP b):bP (a++b):=by
 intro x Z;rcases cZ.mp Z with h|h
 .exact X x h
 .exact Y x h
def jg(d:fV)(r:ak):ak:=if r.outright d=ah then r else{r with ins:=r.ins++[next d]}
def GC(d:fV)(rs:List ak):ao ((rs.filter ak.shown).map (jg d))=((ao rs).filter shown).map (gk d):=by
 show _=(visible (ao rs)).map (gk d);rw[Dg]
 induction rs.filter ak.shown with
 |nil=>rfl
 |cons r l Y=>
  rw[bM,d5,d5,cG,Y];congr 1;unfold ak.ao jg gk;by_cases Z:r.outright d=ah
  .rw [aA Z,bR];refine gY λc _=>?_;show _=if o4 d (r.bz c)=ah then _ else _;rw[aA (show o4 d (r.bz c)=ah from Z)]
  .rw [ay Z,bR];refine gY λc _=>?_;show _=if o4 d (r.bz c)=ah then _ else _;rw[ay (show¬o4 d (r.bz c)=ah from Z)];rfl
def aaa(d:fV){rs:List ak}(h:bP rs):bP ((rs.filter ak.shown).map (jg d)):=by
 intro x Y;obtain⟨r,Z,rfl⟩:=bA.mp Y;unfold jg;split
 .exact h r (d4.mp Z).1
 .exact h r (d4.mp Z).1
def j5{rs:List ak}(h:bP rs):ao (bu rs p).1=(bC p (ao rs)).1:=b_ Prod.fst (BG rs p h)
def jA{rs:List ak}(h:bP rs):ao (bu rs p).2=(bC p (ao rs)).2:=b_ Prod.snd (BG rs p h)
def Pw{rs new:List ak}(h:bP rs):ao ((bu rs p).1++new++(bu rs p).2)=putBefore (ao new) p (ao rs):=by rw[ik,ik,j5 h,jA h,yT,fm]
def QR{rs:List ak}(h:bP rs)(Y:p<q)(f:aE->List aE)(Z:List ak)(W:ao Z=(ao (bu (bu rs p).2 (q-p)).1).flatMap (d6 f)):ao ((bu rs p).1++Z++(bu (bu rs p).2 (q-p)).2)=onStretch f p q (ao rs):=by have X:=(m1 rs p h).2;rw[ik,ik,W,j5 h,j5 X,jA X,jA h,vJ f _ p q Y,fm]
def UB(d:fV){rs:List ak}(h:bP rs)(Z:p<q):ao ((bu rs p).1++(bu (bu rs p).2 (q-p)).1.flatMap (eG d)++(bu (bu rs p).2 (q-p)).2)=onStretch (eO d) p q (ao rs):=
 QR h Z _ _ (uV _ _ _ λr _=>yu d r)
theorem IP:∀(a b:List aE) (p:Nat),p<(visible a).length->bC p (a++b)=((bC p a).1,(bC p a).2++b)
 |[],b,p,h=>by simp[visible]at h
 |x::a,b,p,h=>by
  show bC p (x::(a++b))=_;unfold bC;by_cases hs:shown x=ah
  .rw [aA hs,aA hs];by_cases h0:p=0
   .rw [aA h0,aA h0];rfl
   .rw [mh hs,bY]at h;rw[ay h0,ay h0,IP a b (p-1) (by lia)]
  .rw [oz hs]at h;rw[ay hs,ay hs,IP a b p h]
theorem CS:∀(a b:List aE) (p:Nat),(visible a).length<p->bC p (a++b)=(a++(bC (p-(visible a).length) b).1,(bC (p-(visible a).length) b).2)
 |[],b,p,h=>by simp[visible]
 |x::a,b,p,h=>by
  show bC p (x::(a++b))=_
  conv=>lhs;unfold bC
  by_cases hs:shown x=ah
  .rw [mh hs,bY]at h⊢;rw[aA hs,ay (by lia),CS a b (p-1) (by lia)];have:p-1-(visible a).length=p-((visible a).length+1):=by lia
   rw[this];rfl
  .rw [oz hs]at h⊢;rw[ay hs,CS a b p h];rfl
def Uz(d:fV)(Y:List aE):visible (Y.flatMap (d6 (eO d)))=[]:=by
 unfold visible;rw[DB];intro x X hs;obtain⟨y,_,Z⟩:=ny.mp X;unfold d6 at Z;split at Z
 .unfold eO at Z;split at Z
  .simp at Z
  .rw [bx.mp Z]at hs;simp[shown]at hs
 .rename_i W;rw[bx.mp Z]at hs;exact W hs
def aaA(d:fV){rs:List ak}{r:Nat}(h:bP rs)(Z:p<q)(S:q<(visible (ao rs)).length)(Y:r<p):ao ((bu (bu rs p).1 r).1++((bu (bu rs p).2 (q-p)).1.filter ak.shown).map (jg d)++(bu (bu rs p).1 r).2++(bu (bu rs p).2 (q-p)).1.flatMap (eG d)++(bu (bu rs p).2 (q-p)).2)=putBefore ((e_ p q (ao rs)).map (gk d)) (sF p q r) (onStretch (eO d) p q (ao rs)):=by
 have W:=(m1 rs p h).1;have X:=(m1 rs p h).2;have T:=j5 (p:=p) h;have el:sF p q r=r:=by unfold sF;rw[aA Y]
 rw[el,vJ _ _ p q Z,yT,QS];have V:(visible (bC p (ao rs)).1).length=p:=by rw[wB,iz];lia
 rw[IP _ _ r (by rw[V];exact Y)];simp only[ik];rw[j5 W,jA W,T,GC,uV _ _ _ λr _=>yu d r,j5 X,jA X,jA h];simp only[fm]
def aaB(d:fV){rs:List ak}{r:Nat}(h:bP rs)(Z:p<q)(R:q<(visible (ao rs)).length)(S:q<r):ao ((bu rs p).1++(bu (bu rs p).2 (q-p)).1.flatMap (eG d)++(bu (bu (bu rs p).2 (q-p)).2 (r-q)).1++((bu (bu rs p).2 (q-p)).1.filter ak.shown).map (jg d)++(bu (bu (bu rs p).2 (q-p)).2 (r-q)).2)=putBefore ((e_ p q (ao rs)).map (gk d)) (sF p q r) (onStretch (eO d) p q (ao rs)):=by
 have Q:=(m1 rs p h).1;have Y:=(m1 rs p h).2;have V:=(m1 _ (q-p) Y).2;have el:sF p q r=r-(q-p):=by unfold sF;rw[ay (by lia)]
 rw[el,vJ _ _ p q Z,yT,QS];have X:(visible (bC p (ao rs)).1).length=p:=by rw[wB,iz];lia
 rw[CS _ _ _ (by rw[X];lia),X];have W:(visible ((bC (q-p) (bC p (ao rs)).2).1.flatMap (d6 (eO d)))).length=0:=by rw[Uz];rfl
 rw[CS _ _ _ (by rw[W];lia),W];have T:r-(q-p)-p-0=r-q:=by lia
 rw[T];simp only[ik];rw[j5 V,jA V,GC,uV _ _ _ λr _=>yu d r,j5 Y,jA Y,jA h,j5 h];simp only[fm]
def aeC{row:List aE}(Z:p<=(visible row).length):jX p row=match(visible (bC p row).1).getLast? with
 |some x=>if x.sign=Ah then o8 else gL x
 |none=>o8:=by
 unfold jX;rw[wB];by_cases h0:p=0
 .subst h0;rw[aA U];rfl
 .rw [ay h0,DF,iz,zN Z,List.getElem?_take];rw[aA (by omega)];rfl
def Wi{row:List aE}:jW p row=match(visible (bC p row).2).find? λx=>x.sign==Ah with
 |some x=>gL x
 |none=>o8:=by
 unfold jW;rw[zr];rfl
noncomputable def d8(g:ak->Bool):List ak->Nat->List ak×List ak
 |[],_=>([],[])
 |r::rs,p=>
  if g r=ah then
   (if p=0 then([],r::rs)else if p<r.cells.length then([r.part 0 p],r.part p r.cells.length::rs)else(r::(d8 g rs (p-r.cells.length)).1,(d8 g rs (p-r.cells.length)).2))
  else(r::(d8 g rs p).1,(d8 g rs p).2)
theorem GG:∀(rs:List ak) (p:Nat),d8 ak.shown rs p=bu rs p
 |[],_=>rfl
 |r::rs,p=>by unfold d8 bu;rw[GG rs (p-r.cells.length),GG rs p]
theorem GF:∀(rs:List ak) (p:Nat),bP rs->ao (d8 (λ_=>ah) rs p).1=(ao rs).take p/\ao (d8 (λ_=>ah) rs p).2=(ao rs).drop p/\bP (d8 (λ_=>ah) rs p).1/\bP (d8 (λ_=>ah) rs p).2
 |[],p,_=>by unfold d8;simp[ao,bP]
 |r::rs,p,S=>by
  have Y:bP rs:=λx V=>S x (cj _ V);have T:=S r cy;have cons:∀{x:ak} {l:List ak},x.cells≠[]->bP l->bP (x::l):=λV L y W=>by
   rcases bJ.mp W with e|W
   .rw [e];exact V
   .exact L y W
  have nil:bP []:=λ_ h=>bq h (by simp);have R:r.ao.length=r.cells.length:=by unfold ak.ao;rw[aP]
  unfold d8;rw[aA U];by_cases h0:p=0
  .subst h0;rw[aA U];exact⟨by rw[mq];rfl,by rw[p8],nil,S⟩
  .rw [ay h0];by_cases Z:p<r.cells.length
   .rw [aA Z];have K:=O4 r p (jO Z);have J:(r.part 0 p).ao.length=p:=by
     unfold ak.ao ak.part;rw[aP];simp;lia
    dsimp only;rw[kO,d5,d5,<-K,fm];have n1:(r.part 0 p).cells≠[]:=by unfold ak.part;dsimp only;intro z;have X:=b_ fo z;rw[iz,jN,nv]at X;lia
    have Q:(r.part p r.cells.length).cells≠[]:=by unfold ak.part;dsimp only;intro z;have X:=b_ fo z;rw[iz,jN,nv]at X;lia
    refine⟨?_,?_,cons n1 nil,cons Q Y⟩
    .rw [List.take_append_of_le_length (by lia),zK (by lia)]
    .rw [List.drop_append_of_le_length (by lia),RQ (by lia)];rfl
   .rw [ay Z];obtain⟨M,N,O,P⟩:=GF rs (p-r.cells.length) Y;dsimp only;rw[d5,d5,M,N];refine⟨?_,?_,cons T O,P⟩
    .rw [List.take_append,R,zK (l:=r.ao) (by lia)]
    .rw [List.drop_append,R,RQ (l:=r.ao) (by lia)];rfl
def aab{g:ak->Bool}{r:ak}(h:g r=aB)(rs:List ak)(p:Nat):d8 g (r::rs) p=(r::(d8 g rs p).1,(d8 g rs p).2):=by
 conv=>lhs;unfold d8
 rw[ay (by rw[h];exact cg)]
def NV{g:ak->Bool}{r:ak}(h:g r=ah)(rs:List ak):d8 g (r::rs) 0=([],r::rs):=by unfold d8;rw[aA h,aA U]
def NW{g:ak->Bool}{r:ak}(h:g r=ah)(rs:List ak)(Y:p≠0)(Z:p<r.cells.length):d8 g (r::rs) p=([r.part 0 p],r.part p r.cells.length::rs):=by unfold d8;rw[aA h,ay Y,aA Z]
def aad{g:ak->Bool}{r:ak}(h:g r=ah)(rs:List ak)(Y:p≠0)(Z:¬p<r.cells.length):d8 g (r::rs) p=(r::(d8 g rs (p-r.cells.length)).1,(d8 g rs (p-r.cells.length)).2):=by
 conv=>lhs;unfold d8
 rw[aA h,ay Y,ay Z]
def ace(d:fV)(k v:Nat)(r:ak)(hs:r.shown=ah)(Z:r.outright d=ah):ao [{r with cells:=r.cells.map λc=>(c.1,c.2.set k v),pend:=r.pend.filter λy=>!(y.prop==k)}]=r.ao.flatMap (d6 λx=>[fG d k v x]):=by rw[kO];refine Fb r _ _ (λc=>(c.1,c.2.set k v)) (λc _=>?_) U;unfold d6;rw[aA (show gD (r.bz c)=ah from hs)];show[fG d k v (r.bz c)]=_;unfold fG;rw[aA (show o4 d (r.bz c)=ah from Z)];rfl
def acb(d:fV)(k v:Nat)(r:ak)(hs:¬r.shown=ah):ao [r]=r.ao.flatMap (d6 λx=>[fG d k v x]):=by rw[kO];refine E_ r _ _ (λc=>?_) U;unfold d6;rw[ay (show¬gD (r.bz c)=ah from hs)]
noncomputable def pO(d:fV)(k v:Nat)(r:ak)(Z:List (Nat×List Nat))(b:Bool):ak:=
 if b=ah then{r with cells:=Z}else{r with cells:=Z,pend:=r.pend++[{change:=next d,prop:=k,value:=v}]}
def acf(d:fV)(k v:Nat)(r:ak)(hs:r.shown=ah)(W:¬r.outright d=ah)(Z:List (Nat×List Nat))(b:Bool)(X:∀c∈Z,(lG (r.bz c) k=v)↔b=ah):ao [pO d k v r Z b]=(Z.map r.bz).flatMap (d6 λx=>[fG d k v x]):=by
 have e:(Z.map r.bz)=({r with cells:=Z}:ak).ao:=rfl;rw[e,kO];have key:∀c∈Z,(d6 λx=>[fG d k v x]) (r.bz c)=[(pO d k v r Z b).bz c]:=λc Y=>by
  unfold d6;rw[aA (show gD (r.bz c)=ah from hs)];show[fG d k v (r.bz c)]=_;unfold fG pO;rw[ay (show¬o4 d (r.bz c)=ah from W)];cases b with
  |true=>rw[aA ((X c Y).mpr U),aA U];rfl
  |false=>rw[ay (λq=>cg ((X c Y).mp q)),ay cg];rfl
 refine Fb {r with cells:=Z} _ _ id (λc Y=>key c Y) ?_;rw[kx];unfold pO;cases b<;>rfl
noncomputable def hA(m:Nat)(r:ak):Bool:=(r.ins.getLast?==aa m)||((r.del.getLast?==aa m)||((r.pend.getLast?).map (·.change)==aa m))
def NG{l:List Nat}(Z:l.Pairwise (·<·))(Y:∀c∈l,c<=m):m∈l↔l.getLast?=aa m:=by
 constructor
 .intro h;rcases oG l with e|⟨X,a,e⟩
  .rw [e]at h;simp at h
  .rw [oE]at e;subst e;rw[rH,JX];show aa a=aa m;rcases cZ.mp h with h|h
   .have V:=(JZ.mp Z).2.2 m h a (by simp);have W:=Y a (by simp);lia
   .rw [bx.mp h]
 .intro h;exact ud h
def V8{l:List Nat}(Z:l.length<=1):m∈l↔l.getLast?=aa m:=by
 match l,Z with
 |[],_=>simp
 |[a],_=>simp[eq_comm]
 |_::_::_,h=>simp at h
def TY{r:ak}{c:Nat×List Nat}(h:cX m (r.bz c)):hA m r=eo m (r.bz c):=by
 have key:hA m r=ah↔eo m (r.bz c)=ah:=by
  rw[xJ];unfold hA;rw[wI,wI,iE,iE,iE];have R:m∈r.ins↔r.ins.getLast?=aa m:=NG h.hG (λc Z=>(h.ins c Z).2);have S:m∈r.del↔r.del.getLast?=aa m:=V8 h.dl;have X:m∈r.pend.map (·.change)↔(r.pend.map (·.change)).getLast?=aa m:=NG h.gq (λc Z=>by obtain⟨y,W,rfl⟩:=bA.mp Z;exact(h.pend y W).1.2)
  have T:m∈r.pend.map (·.change)↔∃y∈r.pend,y.change=m:=bA;rw[ua]at X;rw[<-R,<-S,<-X,T];exact Iff.rfl
 cases Y:eo m (r.bz c)with
 |true=>exact key.mpr Y
 |false=>
  cases V:hA m r with
  |false=>rfl
  |true=>rw[key.mp V]at Y;cases Y
def ED{rs:List ak}(X:bP rs)(hw:∀x∈ao rs,cX m x):rs.any (hA m)=(ao rs).any (eo m):=by
 induction rs with
 |nil=>rfl
 |cons r rs V=>
  rw[mj,d5,wM,V (λx Z=>X x (cj _ Z)) λx Z=>hw x (by rw[d5];exact gZ _ Z)];congr 1;have Y:∀c∈r.cells,eo m (r.bz c)=hA m r:=λc T=>(TY (hw (r.bz c) (by rw[d5];exact jq _ (bA.mpr ⟨c,T,U⟩)))).symm
  obtain⟨c,cs,e⟩:=JQ (X r cy);unfold ak.ao;rw[rF];cases W:hA m r with
  |true=>
   symm;rw[jM];exact⟨c,by rw[e];simp,by rw[RD,Y c (by rw[e];simp)];exact W⟩
  |false=>
   symm;rw[zC];intro x Z;rw[RD,Y x Z,W];exact cg
def aa1{n:Nat}{x:aE}(h:cX n x):eo (n+1) x=aB:=by
 cases Z:eo (n+1) x with
 |false=>rfl
 |true=>
  rcases xJ.mp Z with q|q|⟨y,q,e⟩
  .have:=(h.ins _ q).2;lia
  .have:=(h.del _ q).2;lia
  .have:=(h.pend y q).1.2;lia
def EE{n:Nat}{l:List aE}(h:∀x∈l,cX n x):l.any (eo (n+1))=aB:=by rw[zC];intro x Z;rw[aa1 (h x Z)];exact cg
noncomputable def lookBehind(rs:List ak):List Nat:=match(rs.filter ak.shown).getLast? with
 |none=>o8
 |some r=>match r.cells.getLast? with
  |none=>o8
  |some c=>if c.1=10 then o8 else gL (r.bz c)
def WA(rs:List ak)(h:bP rs):(ao rs).getLast?=rs.getLast?.bind λr=>r.cells.getLast?.map r.bz:=by
 rcases oG rs with e|⟨l,r,e⟩
 .rw [e];rfl
 .rw [oE]at e;subst e;rw[ik,kO,rH,rH,JX];have Z:=h r (by simp);unfold ak.ao;rw[ua];show _=(r.cells.getLast?.map r.bz);cases q:r.cells.getLast? with
  |none=>exact bq (R1.mp q) Z
  |some c=>rfl
theorem bP.filter{rs:List ak}(h:bP rs)(p:ak->Bool):bP (rs.filter p):=λr Z=>h r (d4.mp Z).1
def aeD{rs:List ak}(h:bP rs)(Z:p<=(visible (ao rs)).length):jX p (ao rs)=lookBehind (bu rs p).1:=by
 rw[aeC Z,<-j5 h,Dg,WA _ ((m1 rs p h).1.filter _)];unfold lookBehind;cases q:((bu rs p).1.filter ak.shown).getLast? with
 |none=>rfl
 |some r=>
  simp only[Option.bind_some];cases r.cells.getLast?<;>rfl
noncomputable def vr(rs:List ak):List Nat:=match(rs.filter λr=>r.shown&&r.cells.any λc=>c.1==10).head? with
 |none=>o8
 |some r=>match r.cells.find? λc=>c.1==10 with
  |none=>o8
  |some c=>gL (r.bz c)
def Wy(rs:List ak):((ao rs).find? λx=>x.sign==Ah)=(rs.find? λr=>r.cells.any λc=>c.1==10).bind λr=>(r.cells.find? λc=>c.1==10).map r.bz:=by
 induction rs with
 |nil=>rfl
 |cons r rs W=>
  rw[d5,RT,W,iO];have e:(r.ao.find? λx=>x.sign==Ah)=(r.cells.find? λc=>c.1==10).map r.bz:=by unfold ak.ao;rw[JR];rfl
  rw[e];cases Y:r.cells.any λc=>c.1==10 with
  |true=>
   obtain⟨c,Z,X⟩:=jM.mp Y;cases q:r.cells.find? λc=>c.1==10 with
   |none=>exact bq X (RU.mp q c Z)
   |some z=>
    show _=(r.cells.find? λc=>c.1==10).map r.bz;rw[q];rfl
  |false=>
   have q:(r.cells.find? λc=>c.1==10)=aj:=by rw[RU];intro c Z X;rw[zC]at Y;exact Y c Z X
   rw[q];rfl
def Wj{rs:List ak}(h:bP rs):jW p (ao rs)=vr (bu rs p).2:=by
 rw[Wi,<-jA h,Dg,Wy];unfold vr;have e:((bu rs p).2.filter λr=>r.shown&&r.cells.any λc=>c.1==10).head?=((bu rs p).2.filter ak.shown).find? λr=>r.cells.any λc=>c.1==10:=by rw[<-List.head?_filter,RS];congr 2;funext r;exact Bool.and_comm _ _
 rw[e];cases q:((bu rs p).2.filter ak.shown).find? λr=>r.cells.any λc=>c.1==10 with
 |none=>rfl
 |some r=>
  simp only[Option.bind_some];cases(r.cells.find? λc=>c.1==10)<;>rfl
structure cT where
 author:Nat
 time:Nat
 kind:Nat
 t:T3
deriving DecidableEq
def cT.eS(c:cT)(t:T3):cT:={c with t:=c.t.add t}
def dN(aI:List cT)(g:Nat->T3):List cT:=aI.mapIdx λi ch=>ch.eS (g (i+1))
def Ez(aI:List cT)(g:Nat->T3):(dN aI g).length=aI.length:=by unfold dN;simp
def o_(aI:List cT)(g:Nat->T3)(i:Nat):(dN aI g)[i]?=(aI[i]?).map λch=>ch.eS (g (i+1)):=by unfold dN;rw[RW]
def Au(aI:List cT):dN aI (λ_=>T3.zero)=aI:=by
 apply rG;intro i;rw[o_];cases aI[i]? with
 |none=>rfl
 |some c=>
  show aa (c.eS T3.zero)=aa c;unfold cT.eS;rw[T3.add_zero]
def As(aI:List cT)(g h:Nat->T3):dN (dN aI g) h=dN aI λd=>(g d).add (h d):=by
 apply rG;intro i;rw[o_,o_,o_];cases aI[i]? with
 |none=>rfl
 |some c=>
  show aa ((c.eS (g (i+1))).eS (h (i+1)))=aa (c.eS ((g (i+1)).add (h (i+1))));unfold cT.eS;dsimp only;rw[T3.add_assoc]
def Tr{aI:List cT}{g h:Nat->T3}(e:∀d,1<=d->d<=aI.length->g d=h d):dN aI g=dN aI h:=by
 apply rG;intro i;rw[o_,o_];cases q:aI[i]? with
 |none=>rfl
 |some c=>
  have Z:=(oI.mp q).1;show aa (c.eS (g (i+1)))=aa (c.eS (h (i+1)));rw[e (i+1) (by lia) (by lia)]
noncomputable def kh(acc:Bool)(c:Nat)(w:Int)(Z:List Nat)(aI:List cT):List cT:=Z.foldl (λaI d=>aI.modify (d-1) λch=>ch.eS (tl acc c d w)) aI
def agL(acc:Bool)(c:Nat)(w:Int)(Z:List Nat)(d:Nat)(aI:List cT):kh acc c w (Z++[d]) aI=(kh acc c w Z aI).modify (d-1) λch=>ch.eS (tl acc c d w):=by unfold kh;rw[wQ];rfl
theorem I0(acc:Bool)(c:Nat)(w:Int):∀(Z:List Nat) (aI:List cT),(kh acc c w Z aI).length=aI.length
 |[],aI=>rfl
 |d::l,aI=>by show(kh acc c w l _).length=_;rw[I0,R4]
def BZ(d:Nat)(l:List Nat)(e:Nat):cO (d::l) e=(if d=e then 1 else 0)+cO l e:=by
 unfold cO;rw[gv];by_cases h:d=e
 .rw [aA (by simp[h]),aA h,bY];lia
 .rw [ay (by simp[h]),ay h];lia
theorem IZ(acc:Bool)(c:Nat)(w:Int):∀(Z:List Nat) (aI:List cT),(∀d∈Z,1<=d)->kh acc c w Z aI=dN aI λd=>tl acc c d (w*(cO Z d:Int))
 |[],aI,_=>by
  show aI=_;have e:(λd=>tl acc c d (w*(cO [] d:Int)))=λ_=>T3.zero:=by funext d;show tl acc c d (w*0)=_;rw[oC,Jc]
  rw[e,Au]
 |d::l,aI,h=>by
  show kh acc c w l (aI.modify (d-1) λch=>ch.eS (tl acc c d w))=_;rw[IZ acc c w l _ λe he=>h e (cj _ he)];have hd:=h d cy;apply rG;intro i;rw[o_,o_,RX];cases aI[i]? with
  |none=>rfl
  |some ch=>
   by_cases Y:d-1=i
   .have e:d=i+1:=by lia
    subst e;have em:(λa:cT=>if i+1-1=i then a.eS (tl acc c (i+1) w)else a)<$>aa ch=aa (ch.eS (tl acc c (i+1) w)):=by show aa (if i+1-1=i then _ else _)=_;rw[aA Y]
    rw[em];show aa ((ch.eS (tl acc c (i+1) w)).eS _)=aa (ch.eS _);unfold cT.eS;dsimp only;rw[BZ,aA U,T3.add_assoc,<-zi];congr 4;have:((1+cO l (i+1):Nat):Int)=1+(cO l (i+1):Int):=by lia
    rw[this,Dn,Int.mul_one]
   .have em:(λa:cT=>if d-1=i then a.eS (tl acc c d w)else a)<$>aa ch=aa ch:=by
     show aa (if d-1=i then _ else _)=_;rw[ay Y]
    rw[em];show aa (ch.eS _)=aa (ch.eS _);have e:¬d=i+1:=by lia
    rw[BZ,ay e,qd]
def agM(acc:Bool)(c:Nat)(w:Int)(b a:List Nat)(aI:List cT)(Z:∀d∈b,1<=d)(Y:∀d∈a,1<=d):kh acc c (0-w) a (kh acc c w b aI)=dN aI λd=>T3.mul w (tl acc c d ((cO b d:Int)-(cO a d:Int))):=by rw[IZ acc c w b aI Z,IZ acc c _ a _ Y,As];refine Tr λd _ _=>?_;rw[<-zi,<-agO];congr 1;rw[Int.mul_sub,Int.sub_mul,Dr];lia
section
variable{κ α:Type}[DecidableEq κ]
noncomputable def bU(l:List (κ×α))(k:κ):Option α:=(l.find? λp=>decide (p.1=k)).map (·.2)
noncomputable def f_(l:List (κ×α))(k:κ)(v:α):List (κ×α):=if(l.any λp=>decide (p.1=k))=ah then l.map (λp=>if p.1=k then(p.1,v)else p)else l++[(k,v)]
def wk(l:List (κ×α))(k:κ):(l.any λp=>decide (p.1=k))=(bU l k).isSome:=by
 unfold bU;rw[w6]
 induction l with
 |nil=>rfl
 |cons a r Z=>
  rw[mj,iO];cases decide (a.1=k)with
  |true=>rfl
  |false=>exact Z
def NC{l:List (κ×α)}{k:κ}{v:α}:(f_ l k v).map (·.1)=if(bU l k).isSome=ah then l.map (·.1)else l.map (·.1)++[k]:=by
 unfold f_;rw[wk];split
 .rw [bR];refine gY λp _=>?_;show(if p.1=k then(p.1,v)else p).1=p.1;split<;>rfl
 .rw [cG];rfl
def ag8{l:List (κ×α)}{k:κ}(h:(bU l k).isSome=aB):¬k∈l.map (·.1):=by intro hk;obtain⟨p,Z,e⟩:=bA.mp hk;rw[<-wk]at h;rw[zC]at h;exact h p Z (dg e)
def Dc{l:List (κ×α)}{k:κ}:(bU l k).isSome=ah↔k∈l.map (·.1):=by
 constructor
 .intro h;rw[<-wk,jM]at h;obtain⟨p,Z,e⟩:=h;exact bA.mpr ⟨p,Z,cQ e⟩
 .intro h;cases q:(bU l k).isSome with
  |true=>rfl
  |false=>exact bq h (ag8 q)
def Ol{l:List (κ×α)}{k:κ}{v:α}(h:(l.map (·.1)).Nodup):((f_ l k v).map (·.1)).Nodup:=by
 rw[NC];split
 .exact h
 .rename_i Z;rw[wW];refine⟨h,by simp,λa X b Y=>?_⟩;rw[bx.mp Y]
  rintro rfl
  exact Z (Dc.mpr X)
def zo{l:List (κ×α)}(h:(l.map (·.1)).Nodup){p:κ×α}(Z:p∈l):bU l p.1=aa p.2:=by
 unfold bU
 induction l with
 |nil=>simp at Z
 |cons a r Y=>
  rw[bM,i6]at h;rw[iO];rcases bJ.mp Z with e|Z
  .subst e;simp
  .have:¬a.1=p.1:=λe=>h.1 (by rw[e];exact bA.mpr ⟨p,Z,U⟩);rw[cE this];exact Y h.2 Z
def N1{l:List (κ×α)}{k j:κ}{v:α}:j∈(f_ l k v).map (·.1)↔j∈l.map (·.1)\/j=k:=by
 rw[NC];split
 .rename_i h;constructor
  .exact .inl
  .rintro (q|q)
   .exact q
   .rw [q];exact Dc.mp h
 .rw [cZ,bx]
def Rh{l:List (κ×α)}{k j:κ}{v:α}:bU (f_ l k v) j=if j=k then aa v else bU l j:=by
 unfold f_;rw[wk];by_cases hs:(bU l k).isSome=ah
 .rw [aA hs];have key:∀l:List (κ×α),bU (l.map λp=>if p.1=k then(p.1,v)else p) j=(bU l j).map λx=>if j=k then v else x:=by
   intro l;unfold bU
   induction l with
   |nil=>rfl
   |cons p r Y=>
    rw[bM,iO,iO];by_cases hk:p.1=k
    .rw [aA hk];by_cases Z:p.1=j
     .simp [Z];intro q;exact bq (Z.symm.trans hk) q
     .rw [cE Z];exact Y
    .rw [ay hk];by_cases Z:p.1=j
     .have:¬j=k:=λq=>hk (Z.trans q);simp[Z,this]
     .rw [cE Z];exact Y
  rw[key];by_cases e:j=k
  .subst e;obtain⟨x,X⟩:=rP.mp hs;rw[X,aA U];simp
  .rw [ay e];cases bU l j with
   |none=>rfl
   |some x=>simp[e]
 .rw [ay hs];unfold bU;rw[RT];by_cases e:j=k
  .subst e;have:bU l j=aj:=by
    cases q:bU l j with
    |none=>rfl
    |some x=>rw[q]at hs;exact bq U hs
   unfold bU at this;rw[Option.map_eq_none_iff]at this;rw[this,aA U];simp
  .rw [ay e];have:([(k,v)].find? λp=>decide (p.1=j))=aj:=by
    have q:¬k=j:=λq=>e q.symm;simp[q]
   rw[this,Option.or_none]
def Pr(l:List (κ×α))(k:κ)(v:α):(f_ l k v).length<=l.length+1:=by
 unfold f_;split
 .rw [aP];lia
 .rw [bb];exact bp _
end
def ez(G:b7->T3):List (b7×Nat)->T3
 |[]=>T3.zero
 |p::r=>(T3.mul p.2 (G p.1)).add (ez G r)
theorem Jf(G:b7->T3):∀a b:List (b7×Nat),ez G (a++b)=(ez G a).add (ez G b)
 |[],b=>(T3.zero_add _).symm
 |p::r,b=>by show(T3.mul p.2 (G p.1)).add (ez G (r++b))=((T3.mul p.2 (G p.1)).add (ez G r)).add _;rw[Jf G r b,T3.add_assoc]
def agS(G:b7->T3)(m:b7)(k:Nat):∀l:List (b7×Nat),(l.map (·.1)).Nodup->ez G (f_ l m ((bU l m).getD 0+k))=(ez G l).add (T3.mul k (G m)):=by
 intro l X;unfold f_;rw[wk];by_cases hs:(bU l m).isSome=ah
 .rw [aA hs];have key:∀(l:List (b7×Nat)) (n:Nat),(l.map (·.1)).Nodup->bU l m=aa n->ez G (l.map λp=>if p.1=m then(p.1,n+k)else p)=(ez G l).add (T3.mul k (G m)):=by
   intro l n
   induction l with
   |nil=>intro _ h;simp[bU]at h
   |cons p r V=>
    intro X Z;rw[bM,i6]at X;rw[bM];by_cases Y:p.1=m
    .rw [aA Y];have Q:p.2=n:=by
      unfold bU at Z;rw[iO,dg Y]at Z;exact dX Z
     have R:(r.map λp=>if p.1=m then(p.1,n+k)else p)=r:=by
      conv=>rhs;rw[<-kx r]
      refine gY λq T=>?_;rw[ay]
      .rfl
      .intro e;exact X.1 (by rw[Y,<-e];exact bA.mpr ⟨q,T,U⟩)
     rw[R];show(T3.mul ((n+k:Nat):Int) (G p.1)).add (ez G r)=((T3.mul (p.2:Int) (G p.1)).add (ez G r)).add (T3.mul k (G m));have S:((n+k:Nat):Int)=(n:Int)+(k:Int):=by lia
     rw[S,T3.add_mul,Q,Y,T3.add_assoc,T3.add_assoc,T3.add_comm (T3.mul (k:Int) (G m))]
    .rw [ay Y];have W:bU r m=aa n:=by
      unfold bU at Z⊢;rw[iO,cE Y]at Z;exact Z
     show(T3.mul p.2 (G p.1)).add (ez G _)=((T3.mul p.2 (G p.1)).add (ez G r)).add _;rw[V X.2 W,T3.add_assoc]
  obtain⟨n,Z⟩:=rP.mp hs;rw[Z];exact key l n X Z
 .rw [ay hs,Jf];have:bU l m=aj:=by
   cases q:bU l m with
   |none=>rfl
   |some x=>rw[q]at hs;exact bq U hs
  rw[this];show(ez G l).add ((T3.mul ((0+k:Nat):Int) (G m)).add T3.zero)=_;rw[T3.add_zero,qd]
noncomputable def c6(rs:List ak):List (b7×Nat):=rs.foldl (λl r=>f_ l r.aT ((bU l r.aT).getD 0+r.cells.length)) []
def xQ(rs:List ak)(r:ak):c6 (rs++[r])=f_ (c6 rs) r.aT ((bU (c6 rs) r.aT).getD 0+r.cells.length):=by unfold c6;rw[wQ];rfl
def v'{Y:Type}{P:List Y->Prop}(W:P [])(T:∀l a,P l->P (l++[a])):∀l,P l:=by
 intro l;have key:∀n (l:List Y),l.length=n->P l:=by
  intro n
  induction n with
  |zero=>intro l Z;rw[gh.mp Z];exact W
  |succ n V=>
   intro l Z;rcases oG l with e|⟨X,a,e⟩
   .rw [e];exact W
   .rw [oE]at e;subst e;exact T X a (V X (by rw[bb]at Z;simpa using Z))
 exact key l.length l U
def ER(rs:List ak):((c6 rs).map (·.1)).Nodup:=by refine v' (P:=λrs=>((c6 rs).map (·.1)).Nodup) (by simp[c6]) (λl a Z=>?_) rs;show((c6 (l++[a])).map (·.1)).Nodup;rw[xQ];exact Ol Z
def uR(rs:List ak)(m:b7):m∈(c6 rs).map (·.1)↔∃r∈rs,r.aT=m:=by
 refine v' (P:=λrs=>m∈(c6 rs).map (·.1)↔∃r∈rs,r.aT=m) (by simp[c6]) (λl a Y=>?_) rs;show m∈(c6 (l++[a])).map (·.1)↔_;rw[xQ,N1,Y];constructor
 .rintro (⟨r,Z,e⟩|e)
  .exact ⟨r,by simp[Z],e⟩
  .exact ⟨a,by simp,e.symm⟩
 .rintro ⟨r,Z,e⟩
  rcases cZ.mp Z with q|q
  .exact .inl ⟨r,q,e⟩
  .rw [bx.mp q]at e;exact .inr e.symm
def LC(rs:List ak):(c6 rs).length<=rs.length:=by refine v' (P:=λrs=>(c6 rs).length<=rs.length) (by simp[c6]) (λl a Z=>?_) rs;show(c6 (l++[a])).length<=_;rw[xQ,bb];have:=Pr (c6 l) a.aT ((bU (c6 l) a.aT).getD 0+a.cells.length);simp;lia
def LD(G:b7->T3)(rs:List ak):ez G (c6 rs)=(rs.map λr=>T3.mul r.cells.length (G r.aT)).foldr T3.add T3.zero:=by
 refine v' (P:=λrs=>ez G (c6 rs)=(rs.map λr=>T3.mul r.cells.length (G r.aT)).foldr T3.add T3.zero) U (λl a Y=>?_) rs;show ez G (c6 (l++[a]))=_;rw[xQ,agS G _ _ _ (ER l),Y,cG,List.foldr_append];generalize (l.map λr=>T3.mul r.cells.length (G r.aT))=xs;show _=xs.foldr T3.add ((T3.mul a.cells.length (G a.aT)).add T3.zero);rw[T3.add_zero]
 induction xs with
 |nil=>rw[List.foldr_nil,List.foldr_nil,T3.zero_add]
 |cons x xs Z=>
  rw[DC,DC,T3.add_assoc,Z]
noncomputable def CD(cs:List Nat)(m:b7):List Nat:=cs.filter λc=>decide (c∈m.aI)
def j9(acc:Bool)(cs:List Nat)(m:b7):fT:=tF acc (CD cs m) (iL m)
def kP(acc:Bool)(cs:List Nat)(m:b7)(d:Nat):T3:=qQ acc (CD cs m) (iL m) d
theorem Mh{n:Nat}(acc:Bool)(cs:List Nat)(d:Nat):∀rs:List ak,(∀x∈ao rs,cX n x)->c_ acc cs (ao rs) d=(rs.map λr=>T3.mul r.cells.length (kP acc cs r.aT d)).foldr T3.add T3.zero
 |[],_=>u0 acc cs d
 |r::rs,h=>by
  rw[d5,Fh,Mh acc cs d rs λx Z=>h x (by rw[d5];exact gZ _ Z),bM,DC];congr 1;have Y:∀c∈r.cells,c_ acc cs [r.bz c] d=kP acc cs r.aT d:=λc W=>by have w:=h (r.bz c) (by rw[d5];exact jq _ (bA.mpr ⟨c,W,U⟩));exact((Pg acc cs w).2 d).symm
  unfold ak.ao;generalize r.cells=cells at Y
  induction cells with
  |nil=>rw[wV,u0];exact(T3.zero_mul _).symm
  |cons c l X=>
   rw[bM,show r.bz c::l.map r.bz=[r.bz c]++l.map r.bz from U,Fh,X λx Z=>Y x (cj _ Z),Y c cy];have e:((fo (c::l):Nat):Int)=1+(l.length:Int):=by rw[bY];lia
   rw[e,T3.add_mul,T3.one_mul]
def W6{n:Nat}(acc:Bool)(cs:List Nat)(d:Nat)(rs:List ak)(h:∀x∈ao rs,cX n x):c_ acc cs (ao rs) d=ez (λm=>kP acc cs m d) (c6 rs):=by rw[Mh acc cs d rs h,LD]
noncomputable def vW(o:fT)(r:ak):ak:={cells:=r.cells.map λc=>(c.1,d7 o.settled c.2),ins:=o.aT.ins,del:=o.aT.del,pend:=o.aT.pend}
noncomputable def iZ(acc:Bool)(cs:List Nat)(rs:List ak):List ak:=rs.flatMap λr=>if(j9 acc cs r.aT).di=ah then[]else[vW (j9 acc cs r.aT) r]
theorem yZ{n:Nat}(acc:Bool)(cs:List Nat):∀rs:List ak,(∀x∈ao rs,cX n x)->ao (iZ acc cs rs)=fM acc cs (ao rs)
 |[],_=>(xG acc cs).symm
 |r::rs,h=>by
  unfold iZ;rw[dW,ik,d5,EA];have T:=yZ acc cs rs λx W=>h x (by rw[d5];exact gZ _ W);unfold iZ at T;rw[T];congr 1;have Z:∀c∈r.cells,fM acc cs [r.bz c]=gp (j9 acc cs r.aT) (r.bz c):=λc V=>by have w:=h (r.bz c) (by rw[d5];exact jq _ (bA.mpr ⟨c,V,U⟩));exact(Pg acc cs w).1.symm
  rw[K'];unfold ak.ao;rw[JS];by_cases Y:(j9 acc cs r.aT).di=ah
  .rw [aA Y];symm;rw[L9];rw[List.flatMap_eq_nil_iff];intro c V;rw[Z c V];unfold gp;rw[aA Y]
  .rw [ay Y,kO];unfold ak.ao vW;dsimp only;rw[bR];generalize r.cells=cells at Z
   induction cells with
   |nil=>rfl
   |cons c l X=>
    rw[bM,dW,Z c cy,<-X λx W=>Z x (cj _ W)];unfold gp;rw[ay Y];rfl
def Cr(acc:Bool)(cs:List Nat){rs:List ak}(h:bP rs):bP (iZ acc cs rs):=by
 unfold iZ;intro x Z;obtain⟨r,Y,Z⟩:=ny.mp Z;split at Z
 .simp at Z
 .rw [bx.mp Z];unfold vW;dsimp only;have:=h r Y;simpa using this
def eB(s:bf):List cT:=s.doc.changes.zipWith (λc t=>⟨c.author,c.time,c.kind,t4 t⟩) s.tallies
def Ly(h:s.tallies.length=bj s):(eB s).length=bj s:=by unfold eB;rw[List.length_zipWith,h];unfold bj;lia
def uQ(h:s.tallies.length=bj s)(i:Nat):(eB s)[i]?=(s.doc.changes[i]?).map λc=>⟨c.author,c.time,c.kind,iu s.tallies (i+1)⟩:=by
 unfold eB;rw[List.getElem?_zipWith];cases q:s.doc.changes[i]? with
 |none=>rfl
 |some c=>
  have Y:=(oI.mp q).1;have Z:i<s.tallies.length:=by rw[h];exact Y
  unfold iu;rw[DL,dC Z];rfl
def IF(h:WF s)(acc partly:Bool){i:Nat}(Z:i<=j)(cs:List Nat):(jv s acc partly i j cs).doc.row=fM acc (outer s partly cs) (s.doc.row.take i)++(fM acc cs ((s.doc.row.take j).drop i)++fM acc (outer s partly cs) (s.doc.row.drop j))/\eB (jv s acc partly i j cs)=dN (eB s) λd=>(c_ acc (outer s partly cs) (s.doc.row.take i) d).add ((c_ acc cs ((s.doc.row.take j).drop i) d).add (c_ acc (outer s partly cs) (s.doc.row.drop j) d)):=by
 obtain⟨W,X⟩:=Mj s acc partly cs (⟨s.doc.row.take i,(s.doc.row.take j).drop i,s.doc.row.drop j⟩,s.tallies);have Y:=(h.settled (acc:=acc) (partly:=partly) (cs:=cs) Z).hZ;constructor
 .show (giveAll s acc partly cs _).1.row=_;rw[W];rfl
 .apply rG;intro k;rw[o_,uQ Y,uQ h.hZ];show(s.doc.changes[k]?).map _=_;cases q:s.doc.changes[k]? with
  |none=>rfl
  |some c=>
   have hk:k<bj s:=(oI.mp q).1;have:=X (k+1) (by lia) (by lia);show aa (cT.mk c.author c.time c.kind (iu (giveAll s acc partly cs _).2 (k+1)))=aa (cT.eS ⟨c.author,c.time,c.kind,iu s.tallies (k+1)⟩ _);rw[this];rfl
def AH(h:WF s){x:aE}(Z:x∈s.doc.row)(Y:c∈dO x):1<=c/\c<=bj s:=(h.all x Z).aT.aI c Y
def pX:jZ s c=ah↔∃x∈s.doc.row,c∈dO x:=by unfold jZ;rw[xF];exact aaq
def af7(h:WF s){l:List Nat}(X:l.Pairwise (·<·))(W:∀c,c∈l↔∃x∈s.doc.row,c∈dO x):l=(ie s).filter (jZ s):=by
 refine yX X ((BY s).filter _) λc=>?_;rw[W c,d4,pK,pX];constructor
 .rintro ⟨x,Z,Y⟩
  exact⟨AH h Z Y,x,Z,Y⟩
 .exact λq=>q.2
def ZG(h:WF s)(acc:Bool)(cs:List Nat):(Ew s acc cs).doc.row=fM acc cs s.doc.row:=by unfold Ew;rw[(IF h acc aB (cN _) cs).1,mq,p8,eJ,zD,xG,ee];rfl
def pJ(acc:Bool)(c:Nat)(m:b7):List Nat:=left (jh acc c (iL m))
def Ro{n:Nat}(acc:Bool)(c:Nat){x:aE}(w:cX n x)(d:Nat):(∃y∈fq acc c x,d∈dO y)↔d∈pJ acc c (jC x):=by
 have e:=Jq acc c x (iL (jC x)) w.aT U;rw[OQ w.look,Rn]at e;rw[<-e];unfold gp pJ left;by_cases Z:(jh acc c (iL (jC x))).di=ah
 .rw [aA Z,aA Z];simp
 .rw [ay Z,ay Z];constructor
  .rintro ⟨y,Y,hd⟩
   rw[bx.mp Y]at hd;exact hd
  .intro hd;exact⟨_,bx.mpr U,hd⟩
def Wu(h:WF s)(acc:Bool)(c:Nat){l:List Nat}(V:l.Pairwise (·<·))(T:∀d,d∈l↔d≠c/\(∃x∈s.doc.row,d∈dO x)/\¬∃x∈s.doc.row,d∈pJ acc c (jC x)):l=o9 s acc c:=by
 unfold o9;refine yX V ((BY s).filter _) λd=>?_;have R:jZ (Ew s acc [c]) d=ah↔∃x∈s.doc.row,d∈pJ acc c (jC x):=by
  rw[pX,ZG h];show(∃y∈bQ acc c s.doc.row,d∈dO y)↔_;unfold bQ;constructor
  .rintro ⟨y,Y,hd⟩
   obtain⟨x,Z,Y⟩:=ny.mp Y;exact⟨x,Z,(Ro acc c (h.all x Z) d).mp ⟨y,Y,hd⟩⟩
  .rintro ⟨x,Z,hd⟩
   obtain⟨y,Y,hd⟩:=(Ro acc c (h.all x Z) d).mpr hd;exact⟨y,ny.mpr ⟨x,Z,Y⟩,hd⟩
 rw[T d,d4,pK,fk,fk,pX,<-R];simp only[Bool.not_eq_true',fX];constructor
 .rintro ⟨W,⟨x,Z,hd⟩,X⟩
  exact⟨AH h Z hd,W,⟨x,Z,hd⟩,by cases q:jZ (Ew s acc [c]) d with|false=>rfl|true=>exact bq q X⟩
 .rintro ⟨_,W,S,X⟩
  exact⟨W,S,by rw[X];exact cg⟩
noncomputable def jf(s:Nat×Nat×Nat):List (Nat×Nat×Nat)->List (Nat×Nat×Nat)
 |[]=>[s]
 |t::g=>if t.1=s.1+s.2.1/\t.2.2=s.2.2 then(s.1,s.2.1+t.2.1,s.2.2)::g else s::t::g
def wa(c i:Nat)(x:aE)(r:List aE):spotsFrom c i (x::r)=if role c x=0 then spotsFrom c (i+1) r else jf (i,1,role c x) (spotsFrom c (i+1) r):=by
 conv=>lhs;unfold spotsFrom
 split
 .rfl
 .cases spotsFrom c (i+1) r with
  |nil=>rfl
  |cons t g=>
   obtain⟨j,n,b⟩:=t;unfold jf
   try dsimp only
   by_cases Z:j=i+1/\b=role c x
   .rw [aA Z,aA Z,Z.2,J3]
   .rw [ay Z,ay Z]
def ZF{s:Nat×Nat×Nat}{k:Nat}{g:List (Nat×Nat×Nat)}(hs:k<=s.1)(Y:∀t∈g,k<=t.1):∀t∈jf s g,k<=t.1:=by
 intro t Z;cases g with
 |nil=>rw[bx.mp Z];exact hs
 |cons u g=>
  unfold jf at Z;dsimp only at Z;split at Z
  .rcases bJ.mp Z with e|Z
   .rw [e];exact hs
   .exact Y t (cj _ Z)
  .rcases bJ.mp Z with e|Z
   .rw [e];exact hs
   .exact Y t Z
theorem QF(c:Nat):∀(row:List aE) (i:Nat),∀t∈spotsFrom c i row,i<=t.1
 |[],i=>by intro t Z;simp[spotsFrom]at Z
 |x::r,i=>by
  intro t Z;rw[wa]at Z;have Y:=QF c r (i+1);split at Z
  .have:=Y t Z;lia
  .exact ZF (bp _) (λu X=>by have:=Y u X;lia) t Z
def ZE{s:Nat×Nat×Nat}{g:List (Nat×Nat×Nat)}(h:∀t∈g,s.1+s.2.1<t.1):jf s g=s::g:=by
 cases g with
 |nil=>rfl
 |cons t g=>
  unfold jf
  try dsimp only
  rw[ay];have:=h t cy;lia
structure lD where
 acc:List (Nat×Nat×Nat)
 place:Nat
 role:Nat
noncomputable def AA(l:List (Nat×Nat×Nat))(n:Nat):List (Nat×Nat×Nat):=match l.getLast? with
 |none=>[]
 |some t=>l.dropLast++[(t.1,t.2.1+n,t.2.2)]
noncomputable def gG(st:lD)(L b:Nat):lD:=
 ⟨if b≠0/\b=st.role then AA st.acc L else if b≠0 then st.acc++[(st.place,L,b)]else st.acc,st.place+L,b⟩
structure kF (c:Nat) (st:lD) (all rest:List aE):Prop where
 zero:st.role=0->spotsFrom c 0 all=st.acc++spotsFrom c st.place rest
 pos:st.role≠0->∃l t,st.acc=l++[t]/\t.1+t.2.1=st.place/\t.2.2=st.role/\spotsFrom c 0 all=l++jf t (spotsFrom c st.place rest)
def sL(l:List (Nat×Nat×Nat))(t:Nat×Nat×Nat)(n:Nat):AA (l++[t]) n=l++[(t.1,t.2.1+n,t.2.2)]:=by unfold AA;rw[rH,JX];show(l++[t]).dropLast++_=_;rw[List.dropLast_concat]
def kF.jj{st:lD}{all rest:List aE}{x:aE}(h:kF c st all (x::rest)):kF c (gG st 1 (role c x)) all rest:=by
 unfold gG;by_cases Z:role c x=0
 .rw [Z];refine⟨λ_=>?_,λq=>bq U q⟩
  try dsimp only
  rw[ay (by simp),ay (by simp)];by_cases Y:st.role=0
  .rw [h.zero Y,wa,aA Z]
  .obtain ⟨l,t,T,V,Q,W⟩:=h.pos Y;rw[W,wa,aA Z,ZE (λu X=>by have:=QF c rest _ u X;lia),T];simp
 .refine ⟨λq=>bq q Z,λ_=>?_⟩
  try dsimp only
  by_cases Y:st.role=0
  .rw [ay (by lia),aA Z];refine⟨st.acc,(st.place,1,role c x),U,U,U,?_⟩;rw[h.zero Y,wa,ay Z]
  .obtain ⟨l,t,T,V,Q,W⟩:=h.pos Y;by_cases hs:role c x=st.role
   .rw [aA ⟨Z,hs⟩,T,sL];refine⟨l,_,U,by dsimp only;lia,by dsimp only;lia,?_⟩;rw[W,wa,ay Z];congr 1;generalize S:spotsFrom c (st.place+1) rest=g;cases g with
    |nil=>
     unfold jf
     try dsimp only
     rw[aA ⟨V.symm,by lia⟩]
    |cons u g=>
     show jf t (jf (st.place,1,role c x) (u::g))=jf (t.1,t.2.1+1,t.2.2) (u::g);unfold jf
     try dsimp only
     by_cases X:u.1=st.place+1/\u.2.2=role c x
     .rw [aA X]
      try dsimp only
      rw[aA ⟨V.symm,by lia⟩,aA ⟨by lia,by lia⟩];congr 2;rw[nA]
     .rw [ay X]
      try dsimp only
      rw[aA ⟨V.symm,by lia⟩,ay (by lia)]
   .rw [ay (λq=>hs q.2),aA Z];refine⟨st.acc,(st.place,1,role c x),U,U,U,?_⟩;rw[W,wa,ay Z,T,fm];congr 1;generalize S:jf (st.place,1,role c x) (spotsFrom c (st.place+1) rest)=g;have R:∃n g',g=(st.place,n,role c x)::g':=by
     rw[<-S];cases spotsFrom c (st.place+1) rest with
     |nil=>exact⟨1,[],U⟩
     |cons u g=>
      unfold jf
      try dsimp only
      split
      .exact ⟨_,_,U⟩
      .exact ⟨_,_,U⟩
    obtain⟨n,g',rfl⟩:=R;unfold jf
    try dsimp only
    rw[ay (by lia)];rfl
def afH(st:lD)(L b:Nat)(V:0<L)(W:st.role≠0->st.acc≠[]):gG (gG st L b) 1 b=gG st (L+1) b:=by
 unfold gG;by_cases Y:b=0
 .subst Y;simp only[ne_eq,not_true_eq_false,false_and,if_false,nA]
 .by_cases hs:b=st.role
  .simp only[ne_eq,Y,not_false_eq_true,true_and,hs,if_true,nA];have Z:=W (by lia);rcases oG st.acc with e|⟨l,t,e⟩
   .exact bq e Z
   .rw [oE]at e;have X:¬st.role=0:=by lia
    simp only[X,not_false_eq_true,true_and,if_true];rw[e,sL,sL,sL]
    try dsimp only
    rw[nA]
  .simp only[ne_eq,Y,not_false_eq_true,true_and,hs,if_true,if_false,nA];rw[sL]
def kF.aam{all rest:List aE}{b:Nat}:∀(l:List aE) (st:lD),(∀x∈l,role c x=b)->l≠[]->kF c st all (l++rest)->kF c (gG st l.length b) all rest:=by
 intro l st Y W h;have key:∀(n:Nat) (l:List aE),l.length=n+1->∀(rest:List aE),(∀x∈l,role c x=b)->kF c st all (l++rest)->kF c (gG st l.length b) all rest:=by
  intro n
  induction n with
  |zero=>
   intro l Z rest Y h
   match l,Z with
   |[x],_=>
    have e:=Y x cy;have:=kF.jj (x:=x) (rest:=rest) h;rw[e]at this;exact this
  |succ n T=>
   intro l Z rest Y h;rcases oG l with e|⟨X,x,e⟩
   .rw [e]at Z;simp at Z
   .rw [oE]at e;subst e;rw[bb]at Z;have V:X.length=n+1:=‹Z›
    have h':=T X V (x::rest) (λy S=>Y y (by simp[S])) (by rw[fm]at h;exact h);have:=kF.jj h';rw[Y x (by simp),afH st X.length b (by lia) (λq=>by obtain⟨l,t,R,_⟩:=h.pos q;rw[R];simp)]at this
    rw[bb];exact this
 cases q:l.length with
 |zero=>exact bq (gh.mp q) W
 |succ n=>
  rw[<-q];exact key n l q rest Y h
def eZ(c:Nat)(r:ak):Nat:=role c (r.bz (0,[]))
theorem QG{c:Nat}:∀(rs done:List ak),bP rs->∀st:lD,kF c st (ao (done++rs)) (ao rs)->kF c (rs.foldl (λst r=>gG st r.cells.length (eZ c r)) st) (ao (done++rs)) []
 |[],done,_,st,h=>h
 |r::rs,done,X,st,h=>by
  rw[mn];have Y:r.ao≠[]:=by have:=X r cy;unfold ak.ao;simpa using this
  have W:r.ao.length=r.cells.length:=by unfold ak.ao;rw[aP]
  rw[d5]at h;have:=kF.aam r.ao st (b:=eZ c r) (λx Z=>by obtain⟨z,_,rfl⟩:=bA.mp Z;rfl) Y h
  rw[W]at this;have e:done++r::rs=(done++[r])++rs:=by simp
  rw[e]at this⊢;exact QG rs (done++[r]) (λx Z=>X x (cj _ Z)) _ this
def af2{rs:List ak}(Y:bP rs):(rs.foldl (λst r=>gG st r.cells.length (eZ c r)) ⟨[],0,0⟩).acc=spotsFrom c 0 (ao rs):=by
 have h:=QG (c:=c) rs [] Y ⟨[],0,0⟩ ⟨λ_=>rfl,λq=>bq U q⟩;generalize rs.foldl (λst r=>gG st r.cells.length (eZ c r)) ⟨[],0,0⟩=st at h;by_cases Z:st.role=0
 .rw [show ao rs=ao ([]++rs)from U,h.zero Z];simp[spotsFrom]
 .obtain ⟨l,t,W,_,_,X⟩:=h.pos Z;rw[show ao rs=ao ([]++rs)from U,X,W];simp[spotsFrom,jf]
def kL(s:bf)(c:Nat):Nat:=((ju s c).map (·.author)).getD 0
def Lj(Y:1<=c)(Z:c<=bj s):((ju s c).any λx=>x.author==a)=(kL s c==a):=by
 unfold kL ju;rw[ay (by omega)];have:c-1<s.doc.changes.length:=by unfold bj at Z;omega
 rw[dC this];rfl
noncomputable def dw(s:bf)(a:Nat)(l:List Nat):Nat:=(l.filter λc=>kL s c==a).length
def IU(l:List Nat):Ao l=l.sum:=by
 unfold Ao;have:∀(l:List Nat) (n:Nat),l.foldl (λa b=>a+b) n=n+l.sum:=by
  intro l
  induction l with
  |nil=>intro n;simp
  |cons x l Z=>intro n;rw[mn,Z,gJ];lia
 rw[this,qd]
theorem QW{cs:List Nat}(Y:cs.Nodup):∀l:List Nat,(cs.map (cO l)).sum=(l.filter λd=>decide (d∈cs)).length
 |[]=>by
  have:cs.map (cO [])=cs.map λ_=>0:=rfl;rw[this]
  induction cs with
  |nil=>rfl
  |cons c cs Z=>rw[bM,gJ,Z (i6.mp Y).2 U];rfl
 |d::l=>by
  have e:cs.map (cO (d::l))=cs.map λc=>(if d=c then 1 else 0)+cO l c:=gY λc _=>BZ d l c;have add:∀(cs:List Nat) (f g:Nat->Nat),(cs.map λc=>f c+g c).sum=(cs.map f).sum+(cs.map g).sum:=by
   intro cs f g
   induction cs with
   |nil=>rfl
   |cons c cs Z=>rw[bM,bM,bM,gJ,gJ,gJ,Z];lia
  rw[e,add cs (λc=>if d=c then 1 else 0) (cO l),QW Y l,gv];have jj:∀cs:List Nat,cs.Nodup->(cs.map λc=>if d=c then 1 else 0).sum=if d∈cs then 1 else 0:=by
   intro cs
   induction cs with
   |nil=>intro _;rfl
   |cons c cs Z=>
    intro Y;obtain⟨W,X⟩:=i6.mp Y;rw[bM,gJ,Z X];by_cases hd:d=c
    .subst hd;rw[aA U,ay W,aA cy]
    .rw [ay hd];by_cases hm:d∈cs
     .rw [aA hm,aA (cj _ hm)]
     .rw [ay hm,ay];intro q;rcases bJ.mp q with q|q
      .exact hd q
      .exact hm q
  rw[jj cs Y];by_cases hm:d∈cs
  .rw [aA hm,aA (dg hm),bY];lia
  .rw [ay hm,ay (by simp[hm])];lia
def fY(s:bf)(a:Nat):List Nat:=(ie s).filter λc=>jZ s c&&(ju s c).any λx=>x.author==a
def LJ(s:bf)(a:Nat):(fY s a).Nodup:=((BY s).imp (λh=>c8 h)).filter _
def tG:c∈fY s a↔(1<=c/\c<=bj s)/\jZ s c=ah/\kL s c=a:=by
 unfold fY;rw[d4,pK,fk];constructor
 .rintro ⟨Z,X,Y⟩
  rw[Lj Z.1 Z.2,iE]at Y;exact⟨Z,X,Y⟩
 .rintro ⟨Z,X,Y⟩
  refine⟨Z,X,?_⟩;rw[Lj Z.1 Z.2,iE];exact Y
theorem CV{s:bf}(a:Nat)(f:aE->List Nat)(M:List aE->Nat->Nat)(W:∀c,M [] c=0)(X:∀x r c,M (x::r) c=cO (f x) c+M r c):∀row:List aE,(∀x∈row,∀c∈f x,(1<=c/\c<=bj s)/\jZ s c=ah)->((fY s a).map (M row)).sum=(row.map λx=>dw s a (f x)).sum
 |[],_=>by
  have:(fY s a).map (M [])=(fY s a).map λ_=>0:=gY λc _=>W c;rw[this]
  induction fY s a with
  |nil=>rfl
  |cons c cs Y=>rw[bM,gJ,Y];rfl
 |x::r,h=>by
  have e:(fY s a).map (M (x::r))=(fY s a).map λc=>cO (f x) c+M r c:=gY λc _=>X x r c;have add:∀(cs:List Nat) (f g:Nat->Nat),(cs.map λc=>f c+g c).sum=(cs.map f).sum+(cs.map g).sum:=by
   intro cs f g
   induction cs with
   |nil=>rfl
   |cons c cs Y=>rw[bM,bM,bM,gJ,gJ,gJ,Y];lia
  rw[e,add _ (cO (f x)) (M r),QW (LJ s a),CV a f M W X r λy S=>h y (cj _ S),bM,gJ];congr 1;unfold dw;congr 1;refine RR λc R=>?_;obtain⟨T,V⟩:=h x cy c R;by_cases Z:kL s c=a
  .rw [dg (tG.mpr ⟨T,V,Z⟩)];simp[Z]
  .rw [cE (λz=>Z (tG.mp z).2.2)];simp[Z]
def Zt(x:aE)(r:List aE)(c:Nat):mI (x::r) c=cO x.ins c+mI r c:=by unfold mI;rw[mn,uW (λx:aE=>cO x.ins c)];lia
def V7(x:aE)(r:List aE)(c:Nat):mH (x::r) c=cO x.del c+mH r c:=by unfold mH;rw[mn,uW (λx:aE=>cO x.del c)];lia
def acF(x:aE)(r:List aE)(c:Nat):mK (x::r) c=cO (x.pend.map (·.change)) c+mK r c:=by unfold mK;rw[mn,uW (λx:aE=>(x.pend.filter λy=>y.change==c).length),Ou];lia
noncomputable def jJ(g:b7->Nat)(l:List (b7×Nat)):Nat:=(l.map λp=>p.2*g p.1).sum
def Je(g:b7->Nat)(rs:List ak):jJ g (c6 rs)=(rs.map λr=>r.cells.length*g r.aT).sum:=by
 have h:=LD (λm=>⟨g m,0,0⟩) rs;have X:∀l:List (b7×Nat),(ez (λm=>⟨g m,0,0⟩) l).a=((jJ g l:Nat):Int):=by
  intro l
  induction l with
  |nil=>rfl
  |cons p r Z=>
   show((p.2:Int)*(g p.1:Int))+(ez _ r).a=_;rw[Z];unfold jJ;rw[bM,gJ]
   push_cast
   rfl
 have Y:∀rs:List ak,((rs.map λr=>T3.mul r.cells.length (⟨(g r.aT:Int),0,0⟩:T3)).foldr T3.add T3.zero).a=(((rs.map λr=>r.cells.length*g r.aT).sum:Nat):Int):=by
  intro rs
  induction rs with
  |nil=>rfl
  |cons r rs Z=>
   rw[bM,DC,bM,gJ];show((r.cells.length:Int)*(g r.aT:Int))+_=_;rw[Z]
   push_cast
   rfl
 have:=b_ T3.a h;rw[X,Y]at this;lia
theorem CU(g:b7->Nat):∀rs:List ak,((ao rs).map λx=>g (jC x)).sum=(rs.map λr=>r.cells.length*g r.aT).sum
 |[]=>rfl
 |r::rs=>by
  rw[d5,cG,List.sum_append,CU g rs,bM,gJ];congr 1;unfold ak.ao;rw[bR]
  induction r.cells with
  |nil=>simp
  |cons c l Z=>
   rw[bM,gJ,Z,bY,Nat.add_mul,Nat.one_mul,J3];rfl
structure P4 where
 st:Nat
 i:Nat
 d:Nat
 p:Nat
deriving DecidableEq
noncomputable def kY(s:bf)(rs:List ak)(a:Nat):P4:=
 ⟨(fY s a).length,jJ (λm=>dw s a m.ins) (c6 rs),jJ (λm=>dw s a m.del) (c6 rs),jJ (λm=>dw s a (m.pend.map (·.change))) (c6 rs)⟩
def acI(h:WF s){rs:List ak}(e:ao rs=s.doc.row)(a:Nat):An s a=if(fY s a).isEmpty=ah then aj else aa [a,(kY s rs a).st,(kY s rs a).i,(kY s rs a).d,(kY s rs a).p]:=by unfold An;show(if(fY s a).isEmpty=ah then aj else aa [a,(fY s a).length,Ao ((fY s a).map (mI s.doc.row)),Ao ((fY s a).map (mH s.doc.row)),Ao ((fY s a).map (mK s.doc.row))])=_;have ok:∀x∈s.doc.row,∀c∈dO x,(1<=c/\c<=bj s)/\jZ s c=ah:=λx Z c Y=>⟨AH h Z Y,pX.mpr ⟨x,Z,Y⟩⟩;have R:=CV (s:=s) a (λx=>x.ins) mI (λ_=>rfl) Zt s.doc.row λx Z c Y=>ok x Z c (by unfold dO;simp[Y]);have S:=CV (s:=s) a (λx=>x.del) mH (λ_=>rfl) V7 s.doc.row λx Z c Y=>ok x Z c (by unfold dO;simp[Y]);have T:=CV (s:=s) a (λx=>x.pend.map (·.change)) mK (λ_=>rfl) acF s.doc.row λx Z c Y=>ok x Z c (by unfold dO;exact gZ _ (gZ _ Y));rw[IU,IU,IU,R,S,T,<-e];have V:=(CU (λm:b7=>dw s a m.ins) rs).trans (Je (λm:b7=>dw s a m.ins) rs).symm;have W:=(CU (λm:b7=>dw s a m.del) rs).trans (Je (λm:b7=>dw s a m.del) rs).symm;have X:=(CU (λm:b7=>dw s a (m.pend.map (·.change))) rs).trans (Je (λm:b7=>dw s a (m.pend.map (·.change))) rs).symm;have V:((ao rs).map λx=>dw s a x.ins).sum=_:=V;have W:((ao rs).map λx=>dw s a x.del).sum=_:=W;have X:((ao rs).map λx=>dw s a (x.pend.map (·.change))).sum=_:=X;rw[V,W,X];rfl
def acH(h:WF s){rs:List ak}(e:ao rs=s.doc.row){l:List Nat}(Q:l.Pairwise (·<·))(P:∀a,a∈l↔∃c,c∈fY s a):uJ.filterMap (An s)=l.map λa=>[a,(kY s rs a).st,(kY s rs a).i,(kY s rs a).d,(kY s rs a).p]:=by
 have O:l=uJ.filter λa=>!(fY s a).isEmpty:=by
  refine yX Q ?_ λa=>?_
  .refine List.Pairwise.filter _ ?_;unfold uJ;rw[zJ];exact J0.imp (λh=>by lia)
  .rw [P a,d4];constructor
   .rintro ⟨c,X⟩
    obtain⟨R,N,S⟩:=tG.mp X;refine⟨?_,?_⟩
    .have:1<=a/\a<=99:=by
      rw[<-S];unfold kL ju;rw[ay (by lia)];have Z:c-1<s.doc.changes.length:=by have:=R.2;unfold bj at this;lia
      rw[dC Z];exact(h.aI _ (DE Z)).1
     unfold uJ;exact bA.mpr ⟨a-1,ue.mpr (by lia),by lia⟩
    .cases Y:fY s a with
     |nil=>rw[Y]at X;simp at X
     |cons _ _=>rfl
   .rintro ⟨_,V⟩
    cases Y:fY s a with
    |nil=>rw[Y]at V;simp at V
    |cons c _=>exact⟨c,by simp⟩
 rw[O];generalize uJ=T
 induction T with
 |nil=>rfl
 |cons a T W=>
  rw[DA,gv,acI h e];cases Y:(fY s a).isEmpty with
  |true=>simp only[if_true,rx,kj,if_false];exact W
  |false=>simp only[kj,if_false,zu,if_true,bM,W]
end ab
namespace TV
open PySem PyProof.Rows
variable{a b p:ae}{Q:VK}{xs:List V}{r:ab.ak}{h:aK}{P:aR}{w:aQ}{N:List Str}{f:Str}{S:List ae}{Y:Nat->V->Hp->Prop}{es:Array (Int×af)}{j:Nat}{X:Cx}{e:Expr}{c:bV}
theorem EF{xs:Array Nat}(T:xs.toList.Pairwise (·<·))(j:Nat):∀(f Y Z:Nat),Z<=xs.size->Y<=Z->Z-Y<=f->(∀i (h:i<xs.size),i<Y->xs[i]<j)->(∀i (h:i<xs.size),Z<=i->j<=xs[i])->D9 xs j f Y Z<=xs.size/\(∀i (h:i<xs.size),i<D9 xs j f Y Z->xs[i]<j)/\∀i (h:i<xs.size),D9 xs j f Y Z<=i->j<=xs[i]
 |0,Y,Z,V,L,M,W,X=>by
  have e:Y=Z:=by lia
  subst e;exact⟨V,W,X⟩
 |f+1,Y,Z,V,L,M,W,X=>by
  have mono:∀a b (O:a<xs.size) (P:b<xs.size),a<=b->xs[a]<=xs[b]:=λa b O P N=>by
   rcases qb a b with q|q
   .have:=zI.mp T a b ‹O› ‹P› q;simp only[Array.getElem_toList]at this;lia
   .have e:a=b:=by lia
    subst e;exact bp _
  unfold D9;by_cases Q:Y<Z
  .have S:(Y+Z)/2<xs.size:=by lia
   rw[aA Q];simp only[Jy,lg S,Option.getD_some];by_cases R:xs[(Y+Z)/2]<j
   .rw [aA R];refine EF T j f _ _ V (by lia) (by lia) (λi h q=>?_) X;have:=mono i ((Y+Z)/2) h S (by lia);lia
   .rw [ay R];refine EF T j f _ _ (by lia) (by lia) (by lia) W λi h q=>?_;have:=mono ((Y+Z)/2) i S h q;lia
  .rw [ay Q];have e:Y=Z:=by lia
   subst e;exact⟨V,W,X⟩
def Lm{xs:Array Nat}(Z:xs.toList.Pairwise (·<·))(j:Nat):ib xs j<=xs.size/\(∀i (h:i<xs.size),i<ib xs j->xs[i]<j)/\∀i (h:i<xs.size),ib xs j<=i->j<=xs[i]:=
 EF Z j xs.size 0 xs.size (bp _) (cN _) (bp _) (λ_ _ h=>bq h (J5 _)) λi h q=>by lia
def TZ{xs:Array Nat}(Y:xs.toList.Pairwise (·<·)){i:Nat}(S:i<=xs.size)(X:i=0/\j=0\/∃h:i-1<xs.size,0<i/\j=xs[i-1]+1):ib xs j=i:=by
 obtain⟨R,V,W⟩:=Lm Y j;rcases Nat.lt_trichotomy (ib xs j) i with q|q|q
 .rcases X with⟨rfl,rfl⟩|⟨Z,T,rfl⟩
  .lia
  .have:=W (i-1) Z (by lia);lia
 .exact q
 .have Q:=V i (by lia) q;rcases X with⟨rfl,rfl⟩|⟨Z,T,rfl⟩
  .lia
  .have:=zI.mp Y (i-1) i ‹Z› (by simp;lia) (by lia);simp only[Array.getElem_toList]at this;lia
def adA{xs:Array Nat}(W:xs.toList.Pairwise (·<·))(S:xs[ib xs j]?≠aa j):(SetTable.insertAt xs (ib xs j) j).toList.Pairwise (·<·):=by
 obtain⟨O,P,R⟩:=Lm W j;rw[SetTable.toList_insertAt];have V:∀a∈xs.toList.take (ib xs j),a<j:=λa X=>by obtain⟨i,T,e⟩:=List.mem_take_iff_getElem.mp X;have:=P i (by simp at T;lia) (by lia);simp at e;lia
 have Y:∀a∈xs.toList.drop (ib xs j),j<a:=λa X=>by
  obtain⟨i,T,e⟩:=List.mem_drop_iff_getElem.mp X;have hs:ib xs j+i<xs.size:=by simp at T;lia
  have L:=R (ib xs j+i) hs (by lia);have Z:ib xs j<xs.size:=by lia
  have M:=R (ib xs j) Z (bp _);rw[lg Z]at S;have N:xs[ib xs j]≠j:=λz=>S (by rw[z]);simp at e;rcases Nat.eq_zero_or_pos i with q|q
  .subst q;simp at e;lia
  .have:=zI.mp W (ib xs j) (ib xs j+i) ‹Z› ‹hs› (by lia);simp only[Array.getElem_toList]at this;lia
 refine JZ.mpr ⟨W.sublist (R9 _ _),zH.mpr ⟨Y,W.sublist (List.drop_sublist _ _)⟩,λa X b Z=>?_⟩;have Q:=V a X;rcases bJ.mp Z with rfl|Z
 .exact Q
 .have:=Y b Z;lia
structure lE (w:aQ) (t:SetTable):Prop where
 led:t.led=!(w.params.followText "set-order")
 LW:t.dummies=#[]
 PY:t.plain=ah->t.place.toList.Pairwise (·<·)
def agP(w:aQ):lE w (.fresh 0 0 (!(w.params.followText "set-order"))):=⟨U,U,λ_=>.nil⟩
def C7{t:SetTable}(h:lE w t)(n:Nat):lE w (t.standIn n):=⟨h.led,U,λz=>by cases z⟩
theorem Pn{t:SetTable}(hd:t.dummies=#[]){h:Int}:∀(f:Nat) (p:SetTable.Probe) {j:Nat} {d:Option Nat},p.dummy=aj->SX t (λ_=>h+1) h f p=aa (.empty j d)->d=aj/\t.place[ib t.place j]?≠aa j
 |0,p,j,d,_,e=>by cases e
 |f+1,p,j,d,Y,e=>by
  unfold SX at e;have Z:∀k,SetTable.has t.dummies k=aB:=λk=>by rw[hd];rfl
  unfold SetTable.slot at e;by_cases q:t.place[ib t.place p.j]?==aa p.j
  .simp only[q,if_true]at e;rw[ay (by simp;lia)]at e;exact Pn hd f _ (by unfold SetTable.advance;split<;>exact Y) e
  .simp only[q,Z,if_false,kj]at e;cases e;exact⟨Y,λz=>q (by rw[z];simp)⟩
def agQ{t:SetTable}(k:lE w t)(es:Array (Int×af))(h:Int)(x:af):lE w (layNew t es h x).2.1:=by
 unfold layNew;cases e:t.freeSlot h with
 |none=>exact C7 k _
 |some sd=>
  obtain⟨slot,X⟩:=sd;have Y:t.place[ib t.place slot]?≠aa slot:=by
   unfold SetTable.freeSlot SetTable.probe at e;split at e
   .rename_i j d Z;obtain⟨rfl,q⟩:=Pn k.LW _ _ (by rfl) Z;cases e;exact q
   .cases e
  have kp:lE w (t.put slot).1:=⟨k.led,by show(if SetTable.has t.dummies slot then _ else t.dummies)=_;rw[k.LW];rfl,λz=>adA (k.PY z) Y⟩;show lE w (SW _ _);unfold SW;split
  .exact kp
  .exact C7 kp _
def agR{t:SetTable}(k:lE w t)(es:Array (Int×af))(m:Nat):lE w (xt t es m).2.1:=by
 unfold xt;cases e:t.relaid (es.map (·.1)) m with
 |none=>exact C7 k _
 |some r=>
  obtain⟨t',order⟩:=r;have W:lE w t':=by
   unfold SetTable.relaid SetTable.laid at e;cases Y:SetTable.layClean (SetTable.sizeAbove m-1) (es.map (·.1))with
   |none=>rw[Y]at e;cases e
   |some owner=>
    rw[Y]at e;cases e;refine⟨k.led,U,λ_=>?_⟩;show List.Pairwise (·<·) (List.map _ _);rw[zJ];refine List.Pairwise.filterMap _ (R:=(·<·)) (λa b Z c X d hd=>?_) J0;rw[rQ]at X hd;obtain⟨_,_,rfl⟩:=X;obtain⟨_,_,rfl⟩:=hd;exact Z
  dsimp only;split
  .exact W
  .exact C7 k _
end TV
namespace HT
open PySem PyProof.Rows
section
variable{prog:aR}{w:aQ}{A:b8}{E:af->aD->Prop}{s:aD}
def W7{t Y:ae}{items:Array af}{S T:af}{R P:Option Int}{Q:af->aD->Prop}(Z:gi s.heap t items)(hs:s.heap.IsSliceOf Y S T .none)(pl:IsPart S R)(O:IsPart T P)(hw:cD items.size 0 R=0/\cD items.size items.size P=items.size)(h:Q (.ref t) s):aN (model prog w) A (nG (.ref t) (.ref Y)) Q E s:=by
 obtain⟨os,X,W,N⟩:=id hs;have V:s.TypeIs (.ref Y) "slice":=⟨os,X,W⟩;unfold nG
 try with_reducible refine jS ?_
 first|refine az (aV ?_)|skip
 refine az (wpAny_sequenceKey Z.typeIs (by decide) ?_);refine az (oV (name:=oR "__getitem__") Z.typeIs um (iB um Z.typeIs entry_tuple_getitem ?_ (args_tuple_getitem _ _)));show aN _ _ (Kg (.ref t)>>=_) _ _ s;refine az (xj Z ?_);refine az (uF V ?_);rw[aA (by decide)];refine az (Qv hs pl O ?_);rw[hw.1,hw.2];show aN _ _ (if((((0:Nat):Int)==0&&(1:Int)==1&&(items.size-0)==items.size)=ah)then _ else _) _ _ s;rw[aA (by simp)];unfold Builtin.Tuple.tupleIsExact;refine az (az (uF Z.typeIs (aV ?_)));rw[aA (by decide)];exact az (oW (aV ⟨_,U,aV h⟩))
end
end HT
namespace TV
open PySem PySem.Spec PyProof.Rows L2
variable{a b C p D I:ae}{items:Array af}{Q:VK}{xs:List V}{r:ab.ak}{h:aK}{o:Obj}{E:XK}{s:bf}{prog P:aR}{w:aQ}{N:List Str}{f g:Str}{v u y:V}{H H1 H2 H5:Hp}{S:List ae}{ns:List Int}{K:aw}{zs:List (ae×List Nat)}{Y:Nat->V->Hp->Prop}{j:Nat}{X:Cx}{e:Expr}{pos:Pos}{c:bV}
section
variable{X:Cx}
inductive ads(K:aw)(x:V)(lo:Option Int)(hi:Option Int)(H:Hp)(Q:VK):Prop|mk(a xs:_)(_:x=.ref a)(_:aY K H a xs)(_:((fi xs lo hi=xs->Q (.ref a) H)/\∀p,H p=aj->Q (.ref p) (aM H p (.bh (fi xs lo hi)))))
def aeH:xC X (ads X.K):=by
 intro ag s O H x v M N T P L Q I W hs pl V h;obtain⟨a,xs,rfl,R,G,J⟩:=h;by_cases hw:HT.cD xs.length 0 T=0/\HT.cD xs.length xs.length P=xs.length
 .cases W;obtain⟨Y,r,S,hz⟩:=I.tuple R;have Z:Y.toArray.size=xs.length:=by rw[eh,r.length]
  refine⟨"tuple",_,um.lookup,S.typeIs,?_⟩;refine HT.W7 S hs pl V (by rw[Z];exact hw) ⟨.ref a,H,I,U,G ?_⟩;unfold fi;rw[hw.1,hw.2,p8,zQ,eJ]
 .exact aeG ag s O H _ v M N T P L Q I W hs pl V ⟨a,xs,U,R,hw,J⟩
open AutoSeq1 (wpAny_loadPart') in
def Wt (l:ae) (items:Array af) (n:Nat) (b:ae) (Z:Array af) (S:Nat) (O:Option ae) (T:Array (Option af)) (Q:¬(!items.isEmpty&&zU (items.size+Z.size))=ah) (W:items.size<=aS) (X:items.size+Z.size<=aS+1):
 Meets (Builtin.«list.extend» ⟨[.ref l,.ref b],[]⟩) (λ_ R s=>s.heap.get? l=aa {cls:=.type "list",dict:=aj,data:=.seq items n,slots:=#[]}/\s.heap.get? b=aa {cls:=.type "tuple",dict:=O,data:=.seq Z S,slots:=T}/\R (.ok (.ret iA)) {s with heap:=s.heap.update l (oP λx=>x++Z),toks:=s.toks}):=
 .of_wp λprog w A R s h=>by
  obtain⟨N,g,d,tk,os⟩:=s;obtain⟨V,P,h⟩:=h;have I:=AutoSeq1.idx_int;have J:=AutoSeq1.sub_tuple_tuple;have K:=AutoSeq1.sub_list_list;have L:=AutoSeq1.sub_tuple_list;have M:=AutoSeq1.sub_list_tuple;have Y:(items++Z).size<=aS+1:=by rw[Array.size_append];exact X
  wp_walk using(K4 V U (hz:=W) (_hz':=Y)),sD V,sD P;exact⟨_,U,h⟩
inductive PF(K:aw)(x:V)(vs:List V)(H:Hp)(Q:VK):Prop|mk(l b xs zs:_)(_:x=.ref l)(_:vs=[.ref b])(_:H l=aa (.aC xs))(_:(H b=aa (.aC zs)\/aY K H b zs))(_:xs.length+zs.length<=aS)(_:Q .bW (aM H l (.aC (xs++zs))))
def m3:DK X "list.extend" (PF X.K):=by
 intro ag s O H x C v us Q I T S h;obtain⟨l,b,xs,zs,rfl,rfl,V,hB,hz,q⟩:=h;rcases hB with hB|hB
 .exact aaF ag s O H _ _ v us Q I T S ⟨l,b,xs,zs,U,U,V,hB,hz,q⟩
 .cases T;obtain⟨u,rfl,M⟩:=S.jj;cases M;obtain⟨z,Y,n,r,B,e⟩:=I.vt V;obtain⟨Z,R,⟨⟨cls,E,data,N⟩,G,P,L,hd⟩,D⟩:=I.tuple hB;simp only at P hd;subst P hd;have J:=R.length;have hsz:Y.toArray.size+Z.toArray.size<=aS:=by rw[eh,eh];lia
  have W:¬(!Y.toArray.isEmpty&&zU (Y.toArray.size+Z.toArray.size))=ah:=by rw[Om hsz,dy];exact cg
  refine Ed lz ⟨_,e,U⟩ F.entry_list_extend (Sv _ _)
   (Wt l Y.toArray n b Z.toArray L E N W (by rw[eh];lia) (by lia)) ⟨e,G,?_⟩
  refine⟨.bW,_,I.GA (jy:=Y++Z) V e (by simp) (r.append R) ?_,U,q⟩;rw[bb];lia
inductive PD(K:aw)(x:V)(vs:List V)(H:Hp)(Q:VK):Prop|mk(l:ae)(ns:List Int)(k:Int)(_:x=.ref l)(_:vs=[.int k])(_:aL K H l (ns.map V.int))(_:Q (.int (ns.count k:Nat)) H)
def aaD:rN X "list.count" (PD X.K):=by intro ag s T H x S v us Q I Z Y h;obtain⟨l,ns,k,rfl,rfl,V,q⟩:=h;cases Z;obtain⟨u,rfl,⟨t,rfl⟩⟩:=Y.jj;obtain⟨W,r,p,_⟩:=I.list V;exact count_list_ints p.isList r.Ga ⟨.int _,H,I.gH _,⟨_,U⟩,q⟩
def QY(r N Y:R2)(O P R S:TE):TE:=λZ H Q=>O Z H λx H1=>P Z H1 λy H2=>r x y H2 λz W=>pQ z λk=>
 (if k=ah then R Z W λX K=>N y X K λV H5=>pQ V λM=>(if M=ah then S Z H5 λT L=>Y X T L Q else Q (.bl aB) H5)else Q (.bl aB) W)
section
variable{a b c d:Expr}{ta tb tc td:TE}{pos:Pos}
noncomputable def HI{op W Z:fD}{r J V:R2}(ho:eW X (gy op) r)(O:eW X (gy W) J)(T:eW X (gy Z) V)(ha:PE X a ta)(hb:PE X b tb)(hc:PE X c tc)(hd:PE X d td)(hm:Eh [op,W,Z] [b,c,d]=aB:=by with_unfolding_all rfl):PT X (.Compare a [op,W,Z] [b,c,d] pos) (IX (QY r J V ta tb tc td)):=by
 intro ag s Y H Q I h;refine isTrue_chain (bT (ha ag s Y H _ I h) λv o x H1 I1 i q1=>test_link (bT (hb ag o Y H1 _ I1 q1) λu p y H2 I2 K q2=>bT (ho ag p Y H2 x y v u _ I2 i K q2) ?_)) hm
 rintro dv q z D F j R
 obtain⟨k,e,R⟩:=ke R;subst e;cases j;refine i_ ?_;cases k with
 |false=>
  exact xf ⟨D,F,R⟩
 |true=>
  refine xg (test_link (bT (hc ag q Y D _ F R) λM t N H4 I4 L f=>bT (O ag t Y H4 y N u M _ I4 K L f) ?_))
  rintro d' w z2 E G l S
  obtain⟨k2,e2,S⟩:=ke S;subst e2;cases l;refine i_ ?_;cases k2 with
  |false=>
   exact xf ⟨E,G,S⟩
  |true=>
   refine xg (test_last (bT (hd ag w Y E _ G S) λB A C H6 I6 m g=>bT (T ag A Y H6 N C M B _ I6 L m g) ?_))
   rintro d'' s7 z4 H7 I7 n P
   obtain⟨k4,e4,P⟩:=ke P;subst e4;cases n;exact i_ ⟨H7,I7,P⟩
def acs{op W Z:fD}{r K V:R2}(ho:eW X (gy op) r)(P:eW X (gy W) K)(T:eW X (gy Z) V)(ha:PE X a ta)(hb:PE X b tb)(hc:PE X c tc)(hd:PE X d td)(hm:Eh [op,W,Z] [b,c,d]=aB:=by with_unfolding_all rfl):PE X (.Compare a [op,W,Z] [b,c,d] pos) (QY r K V ta tb tc td):=by
 intro ag s Y H Q I h;refine Compare_chain (bT (ha ag s Y H _ I h) λv p x H1 I1 l f=>chain_link (bT (hb ag p Y H1 _ I1 f) λu q y H2 I2 L g=>bT (ho ag q Y H2 x y v u _ I2 l L g) ?_)) hm
 rintro dv t z E G m R
 obtain⟨k,e,R⟩:=ke R;subst e;cases m;refine i_ ?_;cases k with
 |false=>exact xf ⟨.bl aB,E,G,U,R⟩
 |true=>
  refine xg (chain_link (bT (hc ag t Y E _ G R) λN w O H4 I4 M i=>bT (P ag w Y H4 y O u N _ I4 L M i) ?_))
  rintro d' A z2 F J n S
  obtain⟨k2,e2,S⟩:=ke S;subst e2;cases n;refine i_ ?_;cases k2 with
  |false=>exact xf ⟨.bl aB,F,J,U,S⟩
  |true=>exact xg (chain_last (bT (hd ag A Y F _ J S) λC B D H6 I6 o j=>T ag B Y H6 O D N C Q I6 M o j))
end
end
end TV
namespace TV
open PySem PySem.Calls PyProof.Rows
variable{a b C p D I:ae}{Q:VK}{r:ab.ak}{h h':aK}{o:Obj}{E:XK}{s:bf}{prog P:aR}{w:aQ}{N:List Str}{f g:Str}{v u y:V}{H:Hp}{S:List ae}{K:aw}{Y:Nat->V->Hp->Prop}{es:Array (Int×af)}{ep j:Nat}{X:Cx}{e:Expr}{c:bV}{ks:List Nat}
def n9(e:Int×af):Int:=match e.2 with|.int n _=>n|_=>0
section
variable{prog:aR}{w:aQ}
structure uH (prog:aR) (w:aQ) (o:Obj) (es:Array (Int×af)) (ep:Nat) (t:SetTable) (ks:List Int):Prop where
 ex:o.ExactSet
 dt:o.data=.set es ep t
 el:zX (i8 prog w) es.toList
 pm:kr (es.toList.map n9) ks
 ft:t.fits es.size=ah
 ok:lE w t
def oY(prog:aR)(w:aQ)(h:aK)(a:ae)(ks:List Int):Prop:=∃o es ep t,h.get? a=aa o/\uH prog w o es ep t ks
def Ge{e:Int×af}{k:Int}(h:(i8 prog w).is k e.2=ah):n9 e=k:=by obtain⟨a,v⟩:=e;have h':qj k v=ah:=h;unfold n9;cases v<;>simp[qj]at h'⊢;exact h'.symm▸rfl
def aat{es:List (Int×af)}(he:zX (i8 prog w) es)(k:Int):k∈es.map n9↔∃e∈es,(i8 prog w).is k e.2=ah:=by
 constructor
 .intro h;obtain⟨e,Z,Y⟩:=bA.mp h;obtain⟨⟨X,hk,_⟩,_⟩:=he e Z;have:=Ge hk;subst Y;rw[this];exact⟨e,Z,hk⟩
 .rintro ⟨e,Z,Y⟩
  exact bA.mpr ⟨e,Z,Ge Y⟩
variable{A:b8}{E:af->aD->Prop}{s:aD}
def Qh{Z:Array (Int×af)}{t t':SetTable}{ks Y:List Int}{Q:Unit->aD->Prop}(S:s.heap.get? a=aa o)(d:uH prog w o es ep t ks)(W:zX (i8 prog w) Z.toList)(X:kr (Z.toList.map n9) Y)(hz:Y.length<xu)(R:t'.fits Z.size=ah)(hk:lE w t')(h:∀T V,(s.heap.update a (D6 Z t')).get? a=aa T->uH prog w T Z V t' Y->Q () {s with heap:=s.heap.update a (D6 Z t')}):aN (model prog w) A (storeSet a Z t') Q E s:=by
 have hs:Z.size=Y.length:=by rw[<-X.length_eq,aP,iN]
 refine wpAny_storeSet_of S d.dt (h {o with data:=.set Z (ep+1) t'} (ep+1) ?_ ⟨d.ex,U,W,X,R,hk⟩) (fits_of_scanBound (by lia));have q:=xm (D6 Z t') S (by rw[putSet_of Z t' d.dt];rfl);rw[q,putSet_of Z t' d.dt]
def aem{ks:List Int}{v:Int}{tk:Tok}{Q:Bool->aD->Prop}(hS:oY prog w s.heap a ks)(hz:ks.length+1<xu)(h:∀b h',qg a s.heap h'->oY prog w h' a (xi ks v)->Q b {s with heap:=h'}):aN (model prog w) A (setAddHashed a (.int v tk) (sj v)) Q E s:=by
 obtain⟨o,es,ep,t,K,d⟩:=hS;have hl:es.size=ks.length:=by rw[<-d.pm.length_eq,aP,iN]
 have k:(i8 prog w).is v (.int v tk)=ah:=intKind_is _ _ _ _;unfold setAddHashed setAddHashedIn;refine jS (az (xA K d.dt d.ft ?_));dsimp only;rw[aA (byScan_of (knd:=i8 prog w) U (by lia) d.el)];unfold setAddByScan;refine az (az (oW (az (wpAny_setScan_of (knd:=i8 prog w) k K d.dt d.ft d.el ?_))));have g:=aat d.el v;cases i:List.findIdx? (λe=>(i8 prog w).is v e.2) es.toList with
 |some j=>
  obtain⟨hj,H,_⟩:=List.findIdx?_eq_some_iff_getElem.mp i;have F:v∈ks:=d.pm.mem_iff.mp (g.mpr ⟨_,DE hj,H⟩);have e:xi ks v=ks:=by unfold xi;rw[aA (jM.mpr ⟨v,F,by simp⟩)]
  have q:=h aB s.heap (Heap.SameBut.refl a s.heap) (by rw[e];exact⟨o,es,ep,t,K,d⟩);exact aV (aV q)
 |none=>
  have T:¬v∈ks:=λq=>by obtain⟨e,D,J⟩:=g.mp (d.pm.mem_iff.mpr q);have:=List.findIdx?_eq_none_iff.mp i e D;rw[J]at this;cases this
  have e:xi ks v=ks++[v]:=by unfold xi;rw[ay];intro z;obtain⟨x,D,J⟩:=jM.mp z;rw[iE]at J;subst J;exact T D
  rw[e]at h;have N:=layNew_perm t es (sj v) (.int v tk);have y:=layNew_fits t es (sj v) (.int v tk);have M:=agQ d.ok es (sj v) (.int v tk);have f:∀(b:Bool) (X:aD) (m:Unit->aD->Prop),m () X->aN (model prog w) A (match b with|true=>rule "set.scan.the-table-gave-way"|false=>pure ()) m E X:=λb X m q=>by
   cases b
   .exact aV q
   .exact oW q
  dsimp only;generalize layNew t es (sj v) (.int v tk)=L at N y M⊢;obtain⟨Z,Y,wd,c⟩:=L;dsimp only at N y M⊢;have pl:kr Z.toList (es.toList++[((i8 prog w).hash v,.int v tk)]):=by rw[RB]at N;exact N
  have P:zX (i8 prog w) Z.toList:=(d.el.push k U).perm pl;have V:kr (Z.toList.map n9) (ks++[v]):=by refine(pl.map n9).trans ?_;rw[cG];exact d.pm.append (List.Perm.refl _)
  have l:(ks++[v]).length<xu:=by rw[bb];exact hz
  refine az (f _ _ _ ?_);have R:∀(b:Bool),b=ah->aN (model prog w) A (do
   storeSet a Z (if b=ah then Y else{Y with plain:=aB})
   if(!wd&&(if b=ah then Y else{Y with plain:=aB}:SetTable).tooFull)=ah then do
    (match(xt (if b=ah then Y else{Y with plain:=aB}) Z (uu Z.size)).2.2 with|true=>rule "set.scan.the-table-gave-way"|false=>pure ())
    storeSet a (xt (if b=ah then Y else{Y with plain:=aB}) Z (uu Z.size)).1 (xt (if b=ah then Y else{Y with plain:=aB}) Z (uu Z.size)).2.1
    pure (aa ah)
    else pure (aa ah)) (λr s'=>aN (model prog w) A (match r with|some W=>pure W|none=>setAddHashedIn a (.int v tk) (sj v) 99999) Q E s') E s:=by
   rintro _ rfl
   simp only[if_true];refine az (Qh K d P V l y M λo' n S d'=>?_);have b1:=xl s.heap a (D6 Z Y);split
   .have O:=relayAll_perm Y Z (uu Z.size);have B:=relayAll_fits Y Z (uu Z.size);have I:=agR M Z (uu Z.size);generalize xt Y Z (uu Z.size)=L at O B I⊢;obtain⟨u,t2,C⟩:=L;dsimp only at O B I⊢;refine az (f _ _ _ ?_);refine az (Qh S d' (P.perm O) ((O.map n9).trans V) l B I λo2 p G d2=>aV (aV ?_));exact h ah _ (b1.trans (xl _ a _)) ⟨o2,u,p,t2,G,d2⟩
   .exact aV (aV (h ah _ b1 ⟨o',Z,n,Y,S,d'⟩))
  split
  .refine az ?_;rw[hashByValue_scannable 8 U];exact aV (R ah U)
  .exact az (aV (R ah U))
end
end TV
namespace TV
open PySem PySem.Calls PySem.Spec PyProof.Rows
variable{a b C p D I nl:ae}{items:Array af}{Q:VK}{xs ys:List V}{r:ab.ak}{h h':aK}{o:Obj}{E:XK}{s:bf}{prog P:aR}{w:aQ}{N:List Str}{f g:Str}{v u y:V}{H:Hp}{S:List ae}{ns:List Int}{K:aw}{Y:Nat->V->Hp->Prop}{es:Array (Int×af)}{ep j:Nat}{X:Cx}{e:Expr}{c:bV}{ks:List Nat}
section
variable{prog:aR}{w:aQ}{A:b8}
def oY.keep{ks:List Int}(x:oY prog w h a ks)(k:∀o,h.get? a=aa o->h'.get? a=aa o):oY prog w h' a ks:=let⟨o,es,ep,t,Z,d⟩:=x;⟨o,es,ep,t,k o Z,d⟩
def aeq{R:Result->aD->Prop}{E Q:List ae}{G:Array GenState->Array GenState->Prop}{n:Nat}{P:Nat->af->Prop}{St:Nat->aD->Prop}(W:WalksS prog w A.in1 I E Q G n P St){S:ae}(T:S∉E){val:Nat->Int}(Y:∀i v,P i v->∃t,v=.int (val i) t)(Z:n+1<xu):∀(k i:Nat) (s:aD),n-i=k->i<=n->St i s->oY prog w s.heap S (xc val i)->(∀s',Moved (S::Q) G s s'->oY prog w s'.heap S (xc val n)->R (.ok (.ret .none)) s')->nF (model prog w) A (.builtin "set.update.loop" ⟨[.ref S,.ref I],[]⟩) R s:=by
 have H:S∉Q:=λh=>T (W.sub _ h);intro k
 induction k with
 |zero=>
  intro i s hk y st L K;obtain rfl:i=n:=by lia
  refine si Sd ?_;rw[uq Ka];refine az (m:=js (.ref I)) (W.done s _ _ st λs' X=>aV (K s' (X.mono λb Z=>cj _ Z) (L.keep λo e=>X.heap S _ H e)))
 |succ k B=>
  intro i s hk y st L K;have V:i<n:=by lia
  refine si Sd ?_;rw[uq Ka];refine az (m:=js (.ref I)) (W.item i s _ _ V st λv s' x O X=>?_);obtain⟨t,rfl⟩:=Y i v x;refine az (m:=uz [z0 (val i) t] (setAdd S (.int (val i) t))) (jS ?_);unfold setAdd;have u:=firstMet_length_le val i;refine jS (az ((i8 prog w).pyHash (k:=val i) (intKind_is _ _ _ _) (aem (s:={s' with toks:=s'.toks+1}) (L.keep λo e=>X.heap S _ H e) (by lia) λb h' J M=>?_)));refine aV ⟨uA Ka _,B (i+1) _ (by lia) V (W.frame _ s' _ _ O (cS _) λb Z o e=>?_) (by rw[firstMet_succ];exact M) λD C N=>?_⟩
  .rw [J.2 b (λz:b=S=>T (z▸Z))];exact e
  .refine K D (Moved.trans W.gtrans ((X.mono λb Z=>cj _ Z).then_heap (cS _) λb o Z e=>?_) C) N;rw[J.2 b (λz:b=S=>Z (z▸cy))];exact e
variable{E:af->aD->Prop}{s:aD}
noncomputable def oq(w:aQ):Obj:={cls:=.type "set",dict:=aj,data:=.set #[] 0 (.fresh 0 0 (!(w.params.followText "set-order")))}
def aes(a:af){Q:af->aD->Prop}(h:Q (.ref s.heap.objs.size) {s with heap:=s.heap.push (oq w)}):nF (model prog w) A (.call (.builtin "set.__new__") ⟨[.type "set",a],[]⟩) (wants Q E) s:=by
 refine codeAny_of_tree ?_;show aN _ A.in1 (do checkBuiltinCall "set.__new__" ⟨[.type "set",a],[]⟩;again (.builtin "set.__new__" ⟨[.type "set",a],[]⟩)) _ _ s;refine az (sE (PySem.F.newCall_set_1 a) (aV ⟨uA SE _,si PySem.F.entry_set_new ?_⟩));rw[uq SE];have Z:=PySem.sub_set_self;unfold Builtin.«set.__new__» Builtin.Frozenset.newClass;obtain⟨Y,g,d,tk,os⟩:=s;dsimp only
 wp_walk
 refine KW (aV ?_);simp only[newObj];exact az (wpAny_alloc (aV (aV h)))
def aeu{l:ae}{Q:af->aD->Prop}(hh:A.handled=aj)(d:s.heap.IsList l items)(a:oN items.toList ns)(J:items.size+1<xu)(h:∀(h':aK) (tk:Nat),oY prog w h' s.heap.objs.size (xc (λi=>ns.getD i 0) items.size)->(∀b o,s.heap.get? b=aa o->h'.get? b=aa o)->Q (.ref s.heap.objs.size) {s with heap:=h',toks:=tk}):aN (model prog w) A (call (.type "set") [.ref l]) Q E s:=by
 obtain⟨k,O,K,nl,L⟩:=d;have N:l<s.heap.objs.size:=cI O;have D:(s.heap.push (oq w)).get? s.heap.objs.size=aa (oq w):=dm _ U;obtain⟨y,T,I,X⟩:=k;simp only at K L;subst K L;have V:=cq (oq w) O;have M:(s.heap.push (oq w)).IsList l items:=⟨_,V,U,nl,U⟩;have hT:Shared.TypeIs {s with heap:=s.heap.push (oq w)} (.ref s.heap.objs.size) "set":=⟨_,D,U⟩;have body:aN (model prog w) A.in1.in1 (Builtin.«set.__init__» ⟨[.ref s.heap.objs.size,.ref l],[]⟩)
  (λB s'=>match B with|.done f=>wants (λr Z=>r=.none/\Q (.ref s.heap.objs.size) Z) E (.ok f) s'|.again q=>q.quiet=ah/\nF (model prog w) A.in1 q (wants (λr Z=>r=.none/\Q (.ref s.heap.objs.size) Z) E) s')
  (λe s'=>wants (λr Z=>r=.none/\Q (.ref s.heap.objs.size) Z) E (.error e) s') {s with heap:=s.heap.push (oq w)}:=by
  have m:=PySem.F.sub_list_set;have n:=PySem.F.sub_list_frozenset;have p:(kD "list"==kD "dict")=aB:=by decide
  have hS':(s.heap.push {cls:=.type "set",dict:=aj,data:=.set #[] 0 (.fresh 0 0 (!(w.params.followText "set-order")))}).get? s.heap.objs.size=aa {cls:=.type "set",dict:=aj,data:=.set #[] 0 (.fresh 0 0 (!(w.params.followText "set-order")))}:=D;have x:(s.heap.push {cls:=.type "set",dict:=aj,data:=.set #[] 0 (.fresh 0 0 (!(w.params.followText "set-order")))}).get? l=aa {cls:=.type "list",dict:=T,data:=.seq items nl,slots:=X}:=V;show aN _ _ _ _ _ {s with heap:=s.heap.push {cls:=.type "set",dict:=aj,data:=.set #[] 0 (.fresh 0 0 (!(w.params.followText "set-order")))}};unfold Builtin.«set.__init__» noKeywords Builtin.Frozenset.updateFrom;generalize C:su=PI
  wp_walk
  subst C;refine Ab M (az (wpAny_runValue ?_));have ne:l≠(s.heap.push (oq w)).objs.size:=by rw[fU];exact c8 (wX N)
  have j:s.heap.objs.size∉[(s.heap.push (oq w)).objs.size,l]:=by rw[fU,bJ,bx];exactλz=>z.elim (c8 (qc _)) (mw N)
  refine aeq ((KL (by simpa using hh) _ l ne items).toS) j (val:=λi=>ns.getD i 0) (λi v g=>a.int_at i v (by rw[t5];exact g)) J items.size 0 _ U (cN _) ⟨⟨_,dm _ U,U,U⟩,M.push _⟩
   ⟨_,#[],0,_,cq _ D,⟨U,U,U⟩,U,λe he=>by simp at he,.nil,U,agP w⟩ λs' t G=>?_
  rw[Moved.eq_with t];refine aV (aV ⟨U,h _ _ G λb o e=>?_⟩);have J:=cI e;refine t.heap b o ?_ (cq _ (cq _ e));rw[fU,bJ,bx];exactλz=>z.elim (c8 J) (c8 (wX J))
 obtain⟨c,tl,u⟩:=rW.mro;have m:=rW.made;have n:=rW.sub;have p:=rW.notType;have q4:=rW.canCreate;have q5:=PySem.F.typeCall_set_1 (.ref l);refine wpAny_call (codeAny_of_tree ?_);show aN _ _ (callAny (.type "set") _) _ _ _;refine aV ⟨Code.quiet_builtin _ ‹_›,si PySem.F.entry_type_call ?_⟩;rw[Around.under_plain (weight_type_call_type "set" [.ref l] []) U]
 repeat(any_goals(first|assumption|wp_step))
 refine xp (aes (.ref l) (E:=E) (Q:=λobj W=>obj=.ref s.heap.objs.size/\W={s with heap:=s.heap.push (oq w)}) ⟨U,U⟩) λr W H=>?_;rcases r with e|fl
 .exact H
 .cases fl with
  |ret obj=>
   obtain⟨rfl,rfl⟩:=H;have q6:=rW.init.lookup;have q7:=rW.init.bind (.ref s.heap.objs.size)
   repeat(any_goals(first|assumption|wp_step))
   refine xp (codeAny_call_builtin (R:=wants (λr Z=>r=.none/\Q (.ref s.heap.objs.size) Z) E) rW.init.plain PySem.F.entry_set_init (PySem.check_set_init_1 hT body)) λP Z Y=>?_;rcases P with e|S
   .exact Y
   .cases S with
    |ret r=>
     obtain⟨rfl,hq⟩:=Y
     repeat(any_goals(first|assumption|wp_step))
    |_=>exact Y.elim
  |_=>exact H.elim
end
def Wq:entryFor table "set.__iter__"=aa Builtin.«frozenset.__iter__»:=entryFor_alias (id':="frozenset.__iter__") (by kernel_rfl) U ‹_› (by kernel_rfl)
def CN:Slot "set_iterator" "__next__" "set_iterator.__next__":=
 .of (owner:="set_iterator") (n:="__next__") (by rw[typeLookup_type,builtinLookup_eq_fast];kernel_rfl) ‹_› ‹_› ‹_› (by first|exact .inl ‹_›|exact .inr ‹_›) (by rw[KP];kernel_rfl)
def Wo:entryFor table "set_iterator.__next__"=aa Builtin.«set_iterator.__next__»:=entryFor_of_tree (by kernel_rfl)
def OU:Manifest.owners.lookup (String.ofList ['r','o','t','a','r','e','t','i','_','t','e','s'].reverse)=aa Manifest.sig_set_iterator:=by kernel_rfl
def TM(a:af):argsOk "set_iterator.__next__" ⟨[a],[]⟩:=by unfold argsOk;rw[signature?_of (id:="set_iterator.__next__") (n:=['_','_','t','x','e','n','_','_']) (o:=['r','o','t','a','r','e','t','i','_','t','e','s']) (by kernel_rfl) OU];kernel_rfl
def Qy:Slot "set_iterator" "__iter__" "set_iterator.__iter__":=
 .of (owner:="set_iterator") (n:="__iter__") (by rw[typeLookup_type,builtinLookup_eq_fast];kernel_rfl) ‹_› ‹_› ‹_› (by first|exact .inl ‹_›|exact .inr ‹_›) (by rw[KP];kernel_rfl)
def Wn:entryFor table "set_iterator.__iter__"=aa Builtin.«dict_keyiterator.__iter__»:=entryFor_alias (id':="dict_keyiterator.__iter__") (by kernel_rfl) U ‹_› (by kernel_rfl)
def TK(a:af):argsOk "set_iterator.__iter__" ⟨[a],[]⟩:=by unfold argsOk;rw[signature?_of (id:="set_iterator.__iter__") (n:=['_','_','r','e','t','i','_','_']) (o:=['r','o','t','a','r','e','t','i','_','t','e','s']) (by kernel_rfl) OU];kernel_rfl
section
variable{prog:aR}{w:aQ}{A:b8}{E:af->aD->Prop}{s:aD}
noncomputable def vo(f:af)(i:Nat)(z:af)(n ep:Nat):Obj:={cls:=.type "set_iterator",dict:=aj,data:=.fields #[f,eM i,z,eM n,eM ep],slots:=#[]}
def CK{f z:af}{i n:Nat}{Q:Option af->aD->Prop}(X:s.heap.get? I=aa (vo f i z n ep))(h:aN (model prog w) A.in1 (Builtin.«set_iterator.__next__» ⟨[.ref I],[]⟩) (λZ s'=>∃r,Z=.done (.ret r)/\Q (aa r) s') (λe s'=>s'.TypeIs e "StopIteration"/\Q aj s') s):aN (model prog w) A (js (.ref I)) Q E s:=by
 have Y:s.TypeIs (.ref I) "set_iterator":=⟨_,X,U⟩;unfold js;refine az (xy (oV (name:=oR "__next__") Y CN (iB CN Y Wo (jT h (λZ s' x=>?_) λe s' x=>?_) (TM _))))
 .obtain ⟨r,rfl,q⟩:=x;exact⟨r,U,aV q⟩
 .exact az (uC (T:="StopIteration") (b:=ah) x.1 Ef (aV x.2))
def Qs{Q:rX->aD->Prop}{E:af->aD->Prop}(Z:A.handled=aj)(h:∀h' v,(∀b o,s.heap.get? b=aa o->h'.get? b=aa o)->Shared.TypeIs {s with heap:=h'} v "StopIteration"->E v {s with heap:=h'}):aN (model prog w) A (so (.type "StopIteration") []>>=λe=>raiseNew e) Q E s:=by refine az ?_;simp only[so,newTuple];refine az (jU ?_ (by size_fits));refine az (m:=xq _ _) (sE (a:=iA) (by first|rfl|(simp only[xq];rfl)) ?_);refine jU ?_ (by size_fits);simp only[raiseNew];refine az (K1 ?_);rw[Z];exact az (aV (wpAny_throw (h _ (.ref _) (λb o e=>cq _ (cq _ e)) ⟨_,dm _ U,U⟩)))
def Qr{f z:af}{i n:Nat}{Q:af->aD->Prop}(Y:s.heap.get? I=aa (vo f i z n ep))(h:Q (.ref I) s):aN (model prog w) A (su (.ref I)) Q E s:=by have Z:s.TypeIs (.ref I) "set_iterator":=⟨_,Y,U⟩;refine Ep Z Qy (iB Qy Z Wn ?_ (TK _));exact aV ⟨_,U,"set_iterator",_,Z,CN.lookup,h⟩
def CL{f:af}{i n Y:Nat}{t:SetTable}{Q:rX->aD->Prop}(X:s.heap.get? I=aa (vo f i (.ref a) n ep))(hs:s.heap.get? a=aa o)(hd:o.data=.set es Y t)(V:t.fits es.size=ah)(W:es.size=n)(R:∀slot tk,f=.int slot tk->aN (model prog w) A (do
  match<-setNext a slot.toNat i ep with
  |some (x,next)=>
   sv (.ref I) 0 (eM next)
   sv (.ref I) 1 (eM ((i:Int)+1))
   ret x
  |none=>sv (.ref I) 2 .none;raiseNew (<-so (.type "StopIteration") [])) Q E s)
 (S:∀T,f=.ref T->aN (model prog w) A (do
  let aa Z<-seqItems? (.ref T)|unsupported "internal:set_iterator"
  match Z[i]? with
  |some (.int place _)=>
   let x<-KU a place.toNat ep
   sv (.ref I) 1 (eM ((i:Int)+1))
   ret x
  |some _=>unsupported "internal:set_iterator"
  |none=>sv (.ref I) 0 (eM 0);sv (.ref I) 2 .none;raiseNew (<-so (.type "StopIteration") [])) Q E s)
 (hk:(∃slot tk,f=.int slot tk)\/∃T,f=.ref T):aN (model prog w) A (Builtin.«set_iterator.__next__» ⟨[.ref I],[]⟩) Q E s:=by
 unfold Builtin.«set_iterator.__next__»;refine az (m:=slotArgs "__next__" 0 _) (sE (a:=(.ref I,[])) U ?_);refine az (K0 X U ?_);refine az (m:=setEntries a) (wpAny_setEntries_of hs hd V ?_);show aN _ _ (if(((es.size:Nat):Int)!=(n:Int))=ah then _ else _) _ _ _;rw[ay (by rw[W];simp)];rcases hk with⟨slot,tk,rfl⟩|⟨T,rfl⟩
 .exact R slot tk U
 .exact S T U
structure SO (h:aK) (a:ae) (o:Obj) (es:Array (Int×af)) (ep:Nat) (t:SetTable):Prop where
 at_:h.get? a=aa o
 dt:o.data=.set es ep t
 ft:t.fits es.size=ah
def SO.keep{t:SetTable}(x:SO h a o es ep t)(k:h.get? a=aa o->h'.get? a=aa o):SO h' a o es ep t:=⟨k x.at_,x.dt,x.ft⟩
def Qi(J:A.handled=aj)(I a:ae)(R:a≠I){t:SetTable}(V:List af)(D:V.length=es.size)(S:Nat->Nat)(M:∀(A:b8) (s:aD) (i:Nat) (Q:Option (af×Nat)->aD->Prop) (E:af->aD->Prop),SO s.heap a o es ep t->i<=es.size->Q (V[i]?.map λv=>(v,S (i+1))) s->aN (model prog w) A (setNext a (S i) i ep) Q E s):Walks prog w A I [I,a] [I] es.size (λi v=>V[i]?=aa v) (λi h=>h.get? I=aa (vo (eM (S i)) i (.ref a) es.size ep)/\SO h a o es ep t)where
 sub:=λb X=>by simp at X;simp[X]
 frame:=λi h h' st k=>⟨k I (by simp) _ st.1,st.2.keep λe=>k a (by simp) _ e⟩
 item:=λi s Q E C st W=>by obtain⟨Y,Z⟩:=st;obtain⟨v,N⟩:∃v,V[i]?=aa v:=⟨_,dC (by lia)⟩;refine CK Y (CL Y Z.at_ Z.dt Z.ft U (λslot tk e=>?_) (λT e=>by cases e) (.inl ⟨_,_,U⟩));cases e;refine az (M _ _ i _ _ Z (by lia) ?_);rw[N];refine az (nI Y (by simp) λP L O=>?_);refine az (nI (s:={s with heap:=P}) L (by simp) λH G F=>?_);have K:=O.trans F;refine aV ⟨v,U,W v H s.toks N ⟨by rw[G];rfl,Z.keep λe=>(K.2 a R).trans e⟩ λb o X e=>(K.2 b (λz=>X (by simp[z]))).trans e⟩
 done:=λs Q E st W=>by obtain⟨Y,Z⟩:=st;refine CK Y (CL Y Z.at_ Z.dt Z.ft U (λslot tk e=>?_) (λT e=>by cases e) (.inl ⟨_,_,U⟩));cases e;refine az (M _ _ es.size _ _ Z (bp _) ?_);rw[zE (by lia)];refine az (nI Y (by simp) λP L O=>?_);refine Qs (s:={s with heap:=P}) ‹J› λh' v k ty=>⟨ty,W h' s.toks λb o X e=>k b o ((O.2 b (λz=>X (by simp[z]))).trans e)⟩
 self:=λi s Q E st W=>Qr st.1 W
def aev(C:A.handled=aj)(I a T:ae)(N:a≠I)(M:T≠I){H:Obj}{n1:Nat}{t:SetTable}(pl:List Nat)(G:H.data=.seq (pl.map λi:Nat=>eM i).toArray n1)(P:List af)(n:P.length=es.size)(q:pl.length=es.size)(D:∀(i p:Nat),pl[i]?=aa p->∃e:Int×af,es[p]?=aa e/\P[i]?=aa e.2):Walks prog w A I [I,a,T] [I] es.size (λi v=>P[i]?=aa v) (λi h=>h.get? I=aa (vo (.ref T) i (.ref a) es.size ep)/\SO h a o es ep t/\h.get? T=aa H)where
 sub:=λb X=>by simp at X;simp[X]
 frame:=λi h h' st k=>⟨k I (by simp) _ st.1,st.2.1.keep λe=>k a (by simp) _ e,k T (by simp) _ st.2.2⟩
 item:=λi s Q E m st V=>by
  obtain⟨Y,Z,R⟩:=st;obtain⟨p,W⟩:∃p,pl[i]?=aa p:=⟨_,dC (by lia)⟩;obtain⟨e,he,O⟩:=D i p W;refine CK Y (CL Y Z.at_ Z.dt Z.ft U (λslot tk e=>by cases e) (λr J=>?_) (.inr ⟨_,U⟩));cases J;refine az (nH R G ?_);have L:(pl.map λi:Nat=>eM i).toArray[i]?=aa (eM p):=by rw[R0,cf,W];rfl
  simp only[L];show aN _ _ (KU a ((p:Int)).toNat ep>>=_) _ _ _;refine az ?_;unfold KU;refine az (xA Z.at_ Z.dt Z.ft ?_);dsimp only;rw[ay (by simp),rD,he];refine aV (az (nI Y (by simp) λK F S=>?_));exact aV ⟨_,U,V _ K s.toks O ⟨by rw[F];rfl,Z.keep λe=>(S.2 a N).trans e,(S.2 T M).trans R⟩ λb o X e=>(S.2 b (λz=>X (by simp[z]))).trans e⟩
 done:=λs Q E st V=>by
  obtain⟨Y,Z,R⟩:=st;refine CK Y (CL Y Z.at_ Z.dt Z.ft U (λslot tk e=>by cases e) (λr J=>?_) (.inr ⟨_,U⟩));cases J;refine az (nH R G ?_);have L:(pl.map λi:Nat=>eM i).toArray[es.size]?=aj:=by rw[R0,cf,zE (by lia)];rfl
  simp only[L];refine az (nI Y (by simp) λB y u=>?_);refine az (nI (s:={s with heap:=B}) y (by simp) λK F x=>?_);have S:=u.trans x;refine Qs (s:={s with heap:=K}) ‹C› λh' v k ty=>⟨ty,V h' s.toks λb o X e=>k b o ((S.2 b (λz=>X (by simp[z]))).trans e)⟩
 self:=λi s Q E st V=>Qr st.1 V
end
theorem E3{Z:Type}:∀{l:List Z} {i:Nat} (h:i<l.length),kr (l[i]::l.eraseIdx i) l
 |a::l,0,_=>.refl _
 |a::l,i+1,h=>by rw[List.getElem_cons_succ,List.eraseIdx_cons_succ];exact(List.Perm.swap _ _ _).trans ((E3 (Nat.lt_of_succ_lt_succ h)).cons a)
theorem Pf{Y:Type}{next:Nat->Nat}:∀(f k:Nat) (left:List Y) (out:Array Y),left.length=f->kr (S7 next f k left out).toList (out.toList++left)
 |0,k,left,out,h=>by
  cases left with
  |nil=>rw[ee];exact .refl _
  |cons _ _=>cases h
 |f+1,k,left,out,h=>by
  have Z:next k% left.length<left.length:=Nat.mod_lt _ (by lia)
  unfold S7;rw[dC Z];refine(Pf f (k+1) _ _ (by rw[R3,aA Z,h];rfl)).trans ?_;rw[RB,fm];exact List.Perm.append_left _ (E3 Z)
section
variable{prog:aR}{w:aQ}{A:b8}{E:af->aD->Prop}{s:aD}
def ahl{Z:Source}{n:Nat}{Q:Nat->aD->Prop}(Y:n≠0)(h:∀i d,i<n->Q i {s with drawn:=d}):aN (model prog w) A (choose Z n) Q E s:=λW p X=>by unfold choose;rw[Sem.wp_choose];exact⟨Y,by rw[Sem.wp_pure];exact h _ _ (Nat.mod_lt _ (Nat.pos_of_ne_zero Y))⟩
theorem LV{X:Type}:∀(n:Nat) (xs:List X) (s:aD) (Q:List X->aD->Prop),xs.length=n->(∀ys d,kr ys xs->Q ys {s with drawn:=d})->aN (model prog w) A (drawOrder n xs) Q E s
 |0,xs,s,Q,h,Z=>by
  cases xs with
  |nil=>exact aV (Z [] s.drawn (.refl _))
  |cons _ _=>cases h
 |n+1,[],s,Q,h,Z=>by cases h
 |n+1,x::xs,s,Q,h,Z=>by unfold drawOrder;refine az (ahl (by simp) λi d Y=>?_);rw[dC Y];refine az (LV n _ _ _ (by rw[R3,aA Y,h];rfl) λys d' W=>aV (Z _ d' ?_));exact(W.cons _).trans (E3 Y)
def Ay{Q:Bool->aD->Prop}(h:Q (w.params.followText "set-order") s):aN (model prog w) A setsByText Q E s:=az (KW (aV h))
def aep{t:SetTable}{ks:List Int}{Q:af->aD->Prop}(u:A.handled=aj)(V:s.heap.get? a=aa o)(d:uH prog w o es ep t ks)(hz:ks.length<=aS)(h:∀(I:ae) (fp:List ae) (St:Nat->aK->Prop) (Z:List (Int×af)) (h':aK) (j:Drawn),(∀b o,s.heap.get? b=aa o->h'.get? b=aa o)->kr Z es.toList->(∀b∈fp,b=a\/s.heap.objs.size<=b)->s.heap.objs.size<=I->Walks prog w A I fp [I] es.size (λi v=>(Z.map (·.2))[i]?=aa v) St->St 0 h'->Q (.ref I) {s with heap:=h',drawn:=j}):aN (model prog w) A (su (.ref a)) Q E s:=by
 have hT:s.TypeIs (.ref a) "set":=⟨o,V,d.ex.1⟩;have S:a<s.heap.objs.size:=cI V;have D:SO s.heap a o es ep t:=⟨V,d.dt,d.ft⟩;refine Ep hT F.slot_set_iter (iB F.slot_set_iter hT Wq ?_ (F.args_set_iter_1 _));unfold Builtin.«frozenset.__iter__»;refine az (m:=Builtin.Frozenset.slot0 "__iter__" _) (sE (a:=a) U ?_);refine az (m:=Builtin.Frozenset.sizeOf a) (az (wpAny_setEntries_of V d.dt d.ft (aV ?_)));refine az (m:=setDrawn a) (az (xA V d.dt d.ft (az (Ay (aV ?_)))));dsimp only;have kS:∀(f:af) (R:aD),R.heap.get? a=aa o->(Q (.ref R.heap.objs.size) {R with heap:=R.heap.push (vo f 0 (.ref a) es.size ep)})->
  aN (model prog w) A.in1 (setEpoch a>>=λe=>newFields "set_iterator" [f,eM 0,.ref a,eM es.size,eM e]>>=ret) (λk s'=>∃r,k=.done (.ret r)/\∃T' r',s'.TypeIs r T'/\Em (.type T') "__next__"=pure (aa r')/\Q r s') E R:=λf R H q=>by
  refine az (wpAny_setEpoch_of H d.dt d.ft (az ?_));unfold newFields;exact jU (aV ⟨_,U,"set_iterator",_,⟨_,dm _ U,U⟩,CN.lookup,q⟩)
 have ahD:t.place.size=es.size:=by have:=d.ft;simp only[SetTable.fits,fk,iE,decide_eq_true_eq]at this;exact this.1
 by_cases Y:w.params.followText "set-order"=ah
 .rw [Y];refine az (aV (kS _ s V ?_));have W:kr (pickOrder (w.params.setOrder a ep) es).toList es.toList:=Pf es.size 0 es.toList #[] (by simp);refine h _ [s.heap.objs.size,a] _ (pickOrder (w.params.setOrder a ep) es).toList _ s.drawn (λb o e=>cq _ e) W (by simp) (bp _)
   (Qi (o:=o) (es:=es) (ep:=ep) (t:=t) u _ a (c8 S) _ (by rw[aP,W.length_eq,iN]) (λ_=>0) λA s i Q E x hi q=>?_)
   ⟨dm _ U,D.keep λe=>cq _ e⟩
  unfold setNext;refine az (xA x.at_ x.dt x.ft (az (Ay ?_)));rw[Y];dsimp only;rw[aA U,ay (by simp)];refine az ?_;unfold setWalk;refine az (xA x.at_ x.dt x.ft (az (Ay ?_)));rw[Y,aA U];refine az (KW (aV (aV ?_)));rw[cf,t5,Option.map_map]at q;exact q
 .have n:w.params.followText "set-order"=aB:=‹Y›
  have L:t.led=ah:=by rw[d.ok.led,n];rfl
  rw[n];by_cases X:(!t.plain&&decide (es.size>1))=ah
  .have H:(!aB&&(!t.plain&&decide (es.size>1)))=ah:=by rw[X];rfl
   show aN _ _ (if(!aB&&(!t.plain&&decide (es.size>1)))=ah then _ else _) _ _ _;rw[aA H];refine az (LV es.size (uf es.size) s _ (by simp) λys j W=>az ?_);unfold newTuple;have hes:es.size=ks.length:=by rw[<-d.pm.length_eq,aP,iN]
   have C:ys.length=es.size:=by rw[W.length_eq,List.length_range]
   refine jU ?_ (show(ys.map λi:Nat=>eM i).toArray.size<=aS by simp;lia);refine kS _ _ (cq _ V) ?_;have P:(s.heap.push {cls:=.type "tuple",data:=.seq (ys.map λi:Nat=>eM i).toArray}).objs.size=s.heap.objs.size+1:=fU _ _;obtain⟨Z,T⟩:∃Z:List (Int×af),Z=ys.filterMap λp=>es[p]?:=⟨_,U⟩;have N:kr Z es.toList:=by rw[T,<-filterMap_getElem?_range es];exact W.filterMap _
   have J:∀(l:List Nat),(∀p∈l,p<es.size)->∀(i p:Nat),l[i]?=aa p->∃e:Int×af,es[p]?=aa e/\((l.filterMap λp=>es[p]?).map (·.2))[i]?=aa e.2:=by
    intro l
    induction l with
    |nil=>intro _ i p q;simp at q
    |cons x l ih=>
     intro hl i p q;have c:=hl x cy;rw[List.filterMap_cons_some (b:=es[x]) (lg c),bM];cases i with
     |zero=>
      obtain rfl:x=p:=‹q›
      exact⟨es[x],lg c,U⟩
     |succ i=>exact ih (λp W=>hl p (cj _ W)) i p ‹q›
   have M:a≠s.heap.objs.size+1:=c8 (wX S);rw[P];refine h _ [s.heap.objs.size+1,a,s.heap.objs.size] _ Z _ j (λb o e=>cq _ (cq _ e)) N (λb G=>?_) (cS _)
    (aev (o:=o) (es:=es) (ep:=ep) (t:=t) (n1:=0) u _ a s.heap.objs.size M (c8 (qc _)) ys U _ (by rw[aP,N.length_eq,iN]) C (by rw[T];exact J ys λp B=>ue.mp (W.mem_iff.mp B)))
    ⟨by rw[<-P];exact dm _ U,D.keep λe=>cq _ (cq _ e),cq _ (dm _ U)⟩
   simp only[bJ,oM,or_false]at G;rcases G with rfl|rfl|rfl
   .exact .inr (cS _)
   .exact .inl U
   .exact .inr (bp _)
  .have H:¬(!aB&&(!t.plain&&decide (es.size>1)))=ah:=λz=>X (by simpa using z);show aN _ _ (if(!aB&&(!t.plain&&decide (es.size>1)))=ah then _ else _) _ _ _;rw[ay H];have O:t.place.toList.Pairwise (·<·):=by
    by_cases q:t.plain=ah
    .exact d.ok.PY q
    .have h1:es.size<=1:=by
      rcases qb 1 es.size with z|z
      .exact bq (by simp[q,z]) X
      .exact z
     rcases e:t.place.toList with _|⟨x,_|⟨y,l⟩⟩
     .exact .nil
     .exact R7 _ _
     .have:=b_ fo e;simp at this;lia
   refine az (aV (kS _ s V ?_));refine h _ [s.heap.objs.size,a] _ es.toList _ s.drawn (λb o e=>cq _ e) (.refl _) (by simp) (bp _)
    (Qi (o:=o) (es:=es) (ep:=ep) (t:=t) u _ a (c8 S) _ (by simp) (λi=>if i=0 then 0 else t.place.getD (i-1) 0+1) λA s i Q E x hi q=>?_)
    ⟨dm _ U,D.keep λe=>cq _ e⟩
   unfold setNext;refine az (xA x.at_ x.dt x.ft (az (Ay ?_)));rw[n];dsimp only;rw[ay cg];show aN _ _ (if(!t.plain&&decide (es.size>1))=ah then _ else _) _ _ _;rw[ay X];refine az ?_;show aN _ _ (if(!t.led&&!es.isEmpty)=ah then _ else _) _ _ _;rw[ay (by rw[L];simp)];refine aV (aV ?_);have G:ib t.place (if i=0 then 0 else t.place.getD (i-1) 0+1)=i:=by
    refine TZ O (by lia) ?_;by_cases q:i=0
    .exact .inl ⟨q,by rw[aA q]⟩
    .have K:i-1<t.place.size:=by lia
     exact .inr ⟨K,by lia,by rw[ay q,Jy,lg K];rfl⟩
   rw[G];rw[cf,t5,Option.map_map]at q;rcases qb i es.size with z|z
   .have g:i<t.place.size:=by lia
    rw[lg z,lg g];rw[lg z]at q;rw[ay (by lia)]at q;have e2:t.place.getD (i+1-1) 0=t.place[i]:=by rw[DL,Jy,lg g];rfl
    simp only[w8,RC,e2]at q;exact q
   .rw [wG z];rw[wG z]at q;exact q
def aeo{Q:Bool->aD->Prop}(X:s.TypeIs (.ref a) "set")(h:Q aB s):aN (model prog w) A (Sl (.ref a)) Q E s:=by
 unfold Sl;refine az (Ac X F.slot_set_len.lookup ?_);generalize Z:("set.__len__":String)=Y
 wp_delta
 rw[show splitId Y=aa ("set","__len__")from by subst Z;decide+kernel];subst Z;refine az (uC (T:="set") (b:=ah) X (by rw[KP];kernel_rfl) ?_);refine wpAny_ite_split (λq=>bq q (by decide)) λ_=>wpAny_ite_split (λ_=>az (uF X (aV h))) λq=>bq ‹_› q
theorem Nw{prog:aR}{w:aQ}:∀{es:List (Int×af)},zX (i8 prog w) es->oN (es.map (·.2)) (es.map n9)
 |[],_=>.nil
 |e::es,h=>by obtain⟨⟨k,hk,_⟩,_⟩:=h e cy;have X:=Ge hk;have Y:qj k e.2=ah:=hk;obtain⟨a,v⟩:=e;cases v<;>simp[qj]at Y;exact .cons _ _ (Nw λx Z=>h x (cj _ Z))
def aen{ks:List Int}{R:List af->aD->Prop}(r:A.handled=aj)(l:oY prog w s.heap a ks)(hz:ks.length<=aS)(h:∀(h':aK) (tk:Nat) (K:Drawn) (J:List af) (ns:List Int),(∀b o,s.heap.get? b=aa o->h'.get? b=aa o)->oN J ns->kr ns ks->R J {s with heap:=h',toks:=tk,drawn:=K}):aN (model prog w) A (collect (.ref a)) R E s:=by
 obtain⟨o,es,ep,t,H,d⟩:=l;have S:a<s.heap.objs.size:=cI H;have p:es.size=ks.length:=by rw[<-d.pm.length_eq,aP,iN]
 unfold collect;refine az (wpAny_runValue (si entry_proto_collect' ?_));rw[uq F.plain_proto_collect];refine az (m:=newList []) (jU (aV ⟨uA F.plain_list_iadd _,si entry_list_iadd' ?_⟩));rw[uq F.plain_list_iadd];show aN _ A.in1 (Sk (.ref s.heap.objs.size) (.ref a) (.ref s.heap.objs.size)) _ _ _;have D:(s.heap.push {cls:=.type "list",data:=.seq ([]:List af).toArray}).get? s.heap.objs.size=aa {cls:=.type "list",data:=.seq #[]}:=dm _ U;have Y:=cq {cls:=.type "list",data:=.seq ([]:List af).toArray} H;unfold Sk;refine az (uF (T:="set") ⟨o,Y,d.ex.1⟩ ?_);have n1:Sm (.ref s.heap.objs.size) (.ref a)=aB:=by simp[Sm,mw S]
 have y:(kD "set"==kD "list")=aB:=by decide
 have B:(kD "set"==kD "tuple")=aB:=by decide
 simp only[n1,y,B,Dl,kj,if_false];refine az (aep (A:=A.in1) (by simpa using r) Y d hz λI g St L h' K k P O M W st=>?_);have u:s.heap.objs.size≠I:=c8 (g8 (by rw[fU];exact qc _) M);refine az (jS (aeo ⟨o,k _ _ Y,d.ex.1⟩ ?_));have Q:s.heap.objs.size∉g:=λz=>by
  rcases O _ z with e|e
  .exact bq e (mw S)
  .rw [fU]at e;exact bq e (Nat.not_succ_le_self _)
 rw[aA (by decide)];refine az (oW (az ?_));show aN _ _ (updateSeq s.heap.objs.size (·.push .none)>>=λ_=>updateSeq s.heap.objs.size (·.pop)) _ _ _;refine az (K4 (k _ _ D) U ?_);have C:=xm (oP (·.push iA)) (k _ _ D) U;refine K4 (hz:=by seq_fits) C U ?_;have j:=xm (oP (·.pop)) C U;have V:∀b o,b≠s.heap.objs.size->h'.get? b=aa o->((h'.update s.heap.objs.size (oP (·.push iA))).update s.heap.objs.size (oP (·.pop))).get? b=aa o:=λb o n e=>
  (D4 _ _ (cU n)).trans ((D4 _ _ (cU n)).trans e)
 refine aV ⟨uA F.plain_extend_loop _,codeAny_extend_loopS W.toS (by lia) s.heap.objs.size Q _ es.size 0 _ #[] _ U (cN _) (W.frame 0 _ _ st λb X o e=>V b o (λz=>Q (z▸X)) e) j (ItemsOf.nil _) λs' acc f G N Z=>?_⟩
 .rw [Moved.eq_with G];show aN _ A (load s.heap.objs.size>>=_) _ _ _;refine az (wpAny_load N (aV ?_));have el:acc.toList=L.map (·.2):=by
   refine rG λi=>?_;rcases qb i acc.size with q|q
   .rw [t5,lg q];exact(Z.2 i _ (lg q)).symm
   .rw [t5,wG q,zE];rw[aP,P.length_eq,iN,<-Z.1];exact q
  rw[el];refine h s'.heap s'.toks K _ _ (λb o e=>?_) (Nw λx v=>d.el x (P.mem_iff.mp v)) ((P.map n9).trans d.pm);have X:=cI e;refine G.heap b o (λz=>?_) (V b o (c8 X) (k _ _ (cq _ e)));rcases bJ.mp z with q|q
  .exact c8 X q
  .rw [bx.mp q,]at X;exact bq (g8 X (c7 (cS _) (by rw[fU]at M;exact M))) (jP _)
end
end TV
namespace TV
open PySem PySem.Spec PyProof.Rows L2
variable{a b C p D I:ae}{items:Array af}{Q:VK}{xs ys:List V}{r:ab.ak}{h h':aK}{o od:Obj}{E:XK}{s:bf}{prog P:aR}{w:aQ}{N:List Str}{ps:List (Nat×ae)}{f g:Str}{v u y:V}{H H1 H2 H':Hp}{S:List ae}{ns:List Int}{K:aw}{zs:List (ae×List Nat)}{Y:Nat->V->Hp->Prop}{te:TE}{es:Array (Int×af)}{ep j:Nat}{X:Cx}{e:Expr}{mg:Str->Option af}{pos:Pos}{c:bV}{ks:List Nat}
section
variable{prog:aR}{w:aQ}{A:b8}{E:af->aD->Prop}{s:aD}
def WB{M:oO}{X:Type}{b:Nat}{f:Nat->X->Sem (ForInStep X)}(I:Nat->X->aD->Prop){Q:X->aD->Prop}(Z:∀i c s,i<b->I i c s->aN M A (f i c) (λr s'=>match r with|.yield T=>I (i+1) T s'|.done T=>Q T s') E s)(V:∀c s,I b c s->Q c s){c:X}(h:I 0 c s):aN M A (forIn ([0:b]:K7) c f) Q E s:=by
 rw[Std.Legacy.Range.forIn_eq_forIn_range'];have hsz:([0:b]:K7).size=b:=by simp[Std.Legacy.Range.size]
 show aN M A (forIn (List.range' 0 ([0:b]:K7).size 1) c f) Q E s;rw[hsz];refine wpAny_forIn_list f (λl c s=>∃i,i<=b/\l=List.range' i (b-i) 1/\I i c s) Q ?_ ?_ _ c ⟨0,cN _,by rw[zQ],h⟩
 .rintro x rest c s ⟨i,R,Y,P⟩
  have W:i<b:=by
   rcases qb i b with h'|h'
   .exact h'
   .rw [show b-i=0 by lia]at Y;simp at Y
  obtain⟨n,S⟩:∃n,b-i=n+1:=⟨b-i-1,by lia⟩;rw[S,List.range'_succ]at Y;obtain⟨rfl,rfl⟩:=RM Y;refine jT (Z x c s W P) (λr s' h'=>?_) λ_ _ z=>z;cases r with
  |done T=>exact h'
  |yield T=>exact⟨x+1,W,by congr 1;lia,h'⟩
 .rintro c s ⟨i,R,Y,P⟩
  have:i=b:=by
   rcases qb i b with h'|h'
   .obtain ⟨n,S⟩:∃n,b-i=n+1:=⟨b-i-1,by lia⟩;rw[S,List.range'_succ]at Y;cases Y
   .lia
  subst this;exact V c s P
def agW{t:ae}{x:af}{e:af->Bool}{Q:af->aD->Prop}(V:gi s.heap t items)(he:∀y,y∈items->Ku A.in1 s y x (e y))(R:j<items.size)(Y:e items[j]=ah)(Z:∀m (T:m<items.size),m<j->e items[m]=aB)(h:Q (.int j s.toks) {s with toks:=s.toks+1}):aN (model prog w) A (call (.builtin "tuple.index") [.ref t,x]) Q E s:=by
 refine iB SM V.typeIs PySem.F.entry_tuple_index ?_ (PySem.F.args_tuple_index_2 _ _);unfold Builtin.«tuple.index»;refine az (sE (a:=(cR t,[x])) (by rfl) ?_)
 try dsimp only
 refine az (xj V ?_)
 try dsimp only
 refine az (aV ?_);refine az (aV ?_);refine az ?_;rw[Nat.min_self];refine WB (b:=items.size) (λi r s'=>r.1=aj/\s'=s/\i<=j) ?_ ?_ ⟨U,U,cN _⟩
 .rintro i r s' W ⟨S,rfl,X⟩
  rw[lg W]
  try dsimp only
  refine az (he _ (Array.getElem_mem W) prog w _ _ ?_);by_cases T:i=j
  .subst T;rw[Y,aA U];exact az (m:=retInt _) (az (wpAny_mkInt (aV (aV (aV ⟨_,U,h⟩)))))
  .rw [Z i W (by lia),ay cg]
   first|exact aV ⟨U,U,by lia⟩|exact az (aV (aV ⟨U,U,by lia⟩))
 .rintro r s' ⟨S,rfl,X⟩
  lia
end
section
variable{X:Cx}{o e:Expr}{es:List Expr}{to:TE}{t:TA}{apos et:Pos}{name:Str}{id:String}{r:V->List V->Hp->VK->Prop}
def tTM(r:V->List V->Hp->VK->Prop)(to:TE)(t:TA):TE:=λZ H Q=>to Z H λx H1=>(∃a xs,x=.ref a/\H1 a=aa (.bh xs))/\t Z H1 λxs H2=>r x xs H2 Q
noncomputable def acE(slot:Slot "tuple" name id)(R:typeOf (.builtin id)=pure (.type "method_descriptor"))(z:rN X id r)(A:PE X o to)(y:PA X (e::es) t)(W:xo o name X.env (cC o X.env)=cC o X.env:=by rfl)(V:((gj et (cu (e::es) X.env)).all (λx=>!x.1)&&(backToKw et (Eg [] X.env)).all (λx=>x.1.isSome)&&decide ((e::es).length+([]:List rZ).length+(if([]:List rZ).isEmpty then 0 else 1)<30))=ah:=by rfl)(Y:(apos.endLine==et.line)=ah:=by rfl)(hs:cu (e::es) X.env=(aB,cC e X.env)::cu es X.env:=by rfl)(Z:(gj et (cu es X.env)).any (·.1)=aB:=by rfl):PE X (.Call (.Attribute o name apos) (e::es) [] et) (tTM r to t):=by
 intro ag s T H Q I h;refine S9 W V Y U (bT (A ag s T H _ I h) ?_)
 rintro v P x K L O ⟨⟨a,xs,rfl,u⟩,C⟩
 have S:=O;cases S;obtain⟨_,B,j,ob,M,m,n,i,p⟩:=(show eC X.prog X.w K P.heap a (.bh xs)from L.aW a _ u);refine⟨"tuple",id,PySem.F.plainAttrs_tuple,slot,R,⟨ob,M,m⟩,λb q=>by cases q;exact⟨ob,M,p⟩,?_⟩;have N:=y et ag P T K _ L C;rw[hs]at N⊢;refine DX (by show(aB||(gj et (cu es X.env)).any (·.1))=aB;rw[Z]<;>rfl) (zV ?_);exact fe N λus G ⟨J,k,l,E,D⟩=>z ag G T k (.ref a) J _ us Q l O E D
inductive adt(x:V)(vs:List V)(H:Hp)(Q:VK):Prop|mk(a:ae)(ns:List Nat)(k j:Nat)(_:x=.ref a)(_:vs=[NI k])(_:H a=aa (.bh (ns.map NI)))(_:ns[j]?=aa k)(_:(∀m:Nat,m<j->ns[m]?≠aa k))(_:Q (NI j) H)
def aaH:rN X "tuple.index" adt:=by
 intro ag s A H x w v us Q I J G h;obtain⟨a,ns,k,j,rfl,rfl,C,E,R,q⟩:=h;cases J;obtain⟨u,rfl,F⟩:=wm G;obtain⟨Z,r,p,_⟩:=I.tuple (aY.of (K:=X.K) C);have D:(ns.map NI).all nT=ah:=by rw[rE];intro y T;obtain⟨n,_,rfl⟩:=bA.mp T;rfl
 have key:∀(m:Nat) (n:Nat),ns[m]?=aa n->∃W:m<Z.toArray.size,mQ (NI k) Z.toArray[m]=decide (n=k):=λm n W=>by
  obtain⟨L,S,V⟩:=r.get (show(ns.map NI)[m]?=aa (NI n) by rw[cf,W];rfl);obtain⟨M,he⟩:=oI.mp S;refine⟨‹M›,?_⟩;have B:Z.toArray[m]'‹M›=L:=‹he›
  rw[B,E2 V U];show((n:Int)==(k:Int))=_;by_cases e:n=k
  .subst e;simp
  .rw [cE e];exact fX.mpr (λz=>e (t8 z))
 obtain⟨N,O⟩:=key j k E;refine agW p (e:=mQ (NI k)) (λy T=>BM F U r D y ‹T›) N (by rw[O];simp) (λm W P=>?_) ⟨NI j,H,I.gH _,⟨_,U⟩,q⟩;have Y:m<ns.length:=by have:=r.length;rw[aP]at this;rw[eh]at W;lia
 obtain⟨_,e⟩:=key m ns[m] (dC Y);rw[e];refine cE λz=>R m P ?_;rw[dC Y,z]
end
section
variable{α:Type}
def dv(g:α->V)(ps:List (Nat×α)):List (bE×V):=ps.map λp=>((.inl (p.1:Int):bE),g p.2)
def qw(g:α->V)(ps:List (Nat×α)):(dv g ps).length=ps.length:=by unfold dv;rw[aP]
def NB{a b:Nat}:decide ((jV (a:Int):bE)=jV (b:Int))=decide (a=b):=by
 by_cases e:a=b
 .subst e;simp
 .rw [cE e,cE];intro q;injection q with q;exact e (t8 q)
def EX(g:α->V)(ps:List (Nat×α))(k:Nat):df (dv g ps) (.inl (k:Int))=(ab.bU ps k).map g:=by
 unfold df ab.bU dv;rw[JR];have e:((λZ:bE×V=>decide (Z.1=jV (k:Int)))∘λp:Nat×α=>((.inl (p.1:Int):bE),g p.2))=λp=>decide (p.1=k):=by funext p;exact NB
 rw[e];cases ps.find? λp=>decide (p.1=k)<;>rfl
def xT(g:α->V)(ps:List (Nat×α))(k:Nat)(v:α):eY (dv g ps) (.inl (k:Int)) (g v)=dv g (ab.f_ ps k v):=by
 unfold eY ab.f_ dv;rw[rF];have e:((λY:bE×V=>decide (Y.1=jV (k:Int)))∘λp:Nat×α=>((.inl (p.1:Int):bE),g p.2))=λp=>decide (p.1=k):=by funext p;exact NB
 rw[e];split
 .rw [bR,bR];apply gY;intro p _;show(if(jV (p.1:Int):bE)=jV (k:Int)then _ else _)=_;by_cases q:p.1=k
  .subst q;simp
  .have Z:¬((jV (p.1:Int):bE)=jV (k:Int)):=λz=>by
    injection z with z;exact q (t8 z)
   rw[ay Z];simp[q]
 .rw [cG];rfl
end
def jo.rd{kvs:List (bE×V)}{k:bE}(e:Rd H a (.dK kvs)):jo H a (kV k) (df kvs k):=.inl ⟨kvs,k,e,U,U⟩
def DN{Z:Type}(g:Z->V)(H:Hp)(a:ae)(ps:List (Nat×Z)):Prop:=Rd H a (.dK (dv g ps))
def DN.get{Z:Type}{g:Z->V}{ps:List (Nat×Z)}(h:DN g H a ps)(k:Nat):jo H a (.int k) ((ab.bU ps k).map g):=by rw[<-EX];exact jo.rd (k:=.inl (k:Int)) h
def DN.Gd{Z:Type}{g:Z->V}{ps:List (Nat×Z)}(h:DN g H a ps):Ds H a:=.inl ⟨_,h⟩
def DN.up{Z:Type}{g:Z->V}{ps:List (Nat×Z)}(h:DN g H a ps)(s:aF H H'):DN g H' a ps:=by
 rcases h with h|⟨o,h⟩
 .exact .inl (s _ _ h)
 .exact .inr ⟨o,s _ _ h⟩
def DN.bG{Z:Type}{g:Z->V}{ps:List (Nat×Z)}(h:H a=aa (.dK (dv g ps))):dB K H a ps.length:=.inr ⟨_,h,by rw[qw]⟩
section
variable{X:Cx}{tg e:Expr}{td tl:TE}
def wZ(H1:Hp)(a:ae)(H:Hp):Prop:=∀o,H1 a=aa o->(∀kvs,o≠.dK kvs)->H a=aa o
def wZ.l(k:wZ H1 a H)(h:aL K H1 a xs):aL K H a xs:=by
 rcases h with(h|⟨o,h⟩)|h
 .exact .inl (.inl (k _ h (by intro _ z;cases z)))
 .exact .inl (.inr ⟨o,k _ h (by intro _ z;cases z)⟩)
 .exact .inr h
def wZ.t(k:wZ H1 a H)(h:aY K H1 a xs):aY K H a xs:=by
 rcases h with(h|⟨o,h⟩)|h
 .exact .inl (.inl (k _ h (by intro _ z;cases z)))
 .exact .inl (.inr ⟨o,k _ h (by intro _ z;cases z)⟩)
 .exact .inr h
def Zk(K:aw)(tl:TE):TI:=λZ H R=>tl Z H λx H1=>∃a xs,x=.ref a/\(aL K H1 a xs\/aY K H1 a xs)/\∀J,Wk J (wZ H1 a) xs.length (λi x _=>xs[i]?=aa x)->R J H1
def acP{l:Expr}(J:PE X l tl):PI X tg l (Zk X.K tl):=by
 intro ag s O H R I h;refine bT (J ag s O H _ I h) λv Y x P W M L=>?_;obtain⟨a,xs,e,Z,q⟩:=L;subst e;cases M;rcases Z with Z|Z
 .obtain ⟨T,N,p,hz⟩:=W.list Z;refine Ab p.isList ?_;refine⟨Y.heap.objs.size,[Y.heap.objs.size],_,_,P,U,W.eE (t':=Y.toks) λb o e=>cq _ e,Q_ a _,⟨_,dm _ U,U,U⟩,λb S=>?_,q _ ⟨λi H V k=>wD.go i H V (k.l Z),λi H x Q V y k=>wD.fj i H x Q V y (k.l Z),λH k=>wD.stop H (k.l Z)⟩⟩;have e:b=Y.heap.objs.size:=‹S›
  subst e;exact W.nU (bp _) (W.aW.fresh (bp _))
 .obtain ⟨T,N,p,hz⟩:=W.tuple Z;refine uE (show Y.heap.IsTuple a T.toArray from p) ?_;refine⟨Y.heap.objs.size,[Y.heap.objs.size],_,_,P,U,W.eE (t':=Y.toks) λb o e=>cq _ e,Ra a _,⟨_,dm _ U,U,U⟩,λb S=>?_,q _ ⟨λi H V k=>wF.go i H V (k.t Z),λi H x Q V y k=>wF.fj i H x Q V y (k.t Z),λH k=>wF.stop H (k.t Z)⟩⟩;have e:b=Y.heap.objs.size:=‹S›
  subst e;exact W.nU (bp _) (W.aW.fresh (bp _))
def Zh(td:TE):TI:=λZ H R=>td Z H λx H1=>∃d kvs,x=.ref d/\Rd H1 d (.dK kvs)/\(∀o,H1 d=aa (.cJ o (.dK kvs))->R (p7 d o kvs) H1)/\(H1 d=aa (.dK kvs)->∀o,R (p7 d o kvs) (aM H1 d (.cJ o (.dK kvs))))
def B_(he:PE X e td):PI X tg e (Zh td):=by
 intro ag s P H R I h;refine bT (he ag s P H _ I h) ?_
 rintro u S x G T N ⟨d,kvs,rfl,hd,L,M⟩
 obtain rfl:u=cR d:=N;rcases hd with hd|⟨o,hd⟩
 .obtain ⟨o,Q⟩:=T.Z2 hd trivial;have V:(aM G d (.cJ o (.dK kvs))) d=aa (.cJ o (.dK kvs)):=aJ;obtain⟨hs,Y,W,es,ep,O,Z,hsz,K,J⟩:=Q.A4 V;refine Gj hs Y W Z (B' (tk:=S.toks) Q _ (Q9 _ Z) ⟨_,dm _ U,U,?_⟩ (M hd o));rw[hsz]<;>rfl
 .obtain ⟨hs,Y,W,es,ep,O,Z,hsz,K,J⟩:=T.A4 hd;refine Gj hs Y W Z (B' (tk:=S.toks) T _ (Q9 _ Z) ⟨_,dm _ U,U,?_⟩ (L o hd));rw[hsz]<;>rfl
end
section
variable{X:Cx}
inductive yW(K:aw)(x:V)(lo:Option Int)(hi:Option Int)(H:Hp)(Q:VK):Prop|mk(a xs:_)(_:x=.ref a)(_:aY K H a xs)(_:∀p H',aY K H' p (fi xs lo hi)->(H a=aa (.bh xs)->H' p=aa (.bh (fi xs lo hi)))->aF H H'->Q (.ref p) H')
def CM:xC X (yW X.K):=by intro ag s Y H x v V W O N T Q I S hs pl R h;obtain⟨a,xs,rfl,Z,q⟩:=h;exact aeH ag s Y H _ v V W O N T Q I S hs pl R ⟨a,xs,U,Z,λe=>q a H (by rw[e];exact Z) (λz=>by rw[e];exact z) (aF.refl _),λp P=>q p _ (aY.of aJ) (λ_=>aJ) (bg P)⟩
inductive adi(K:aw)(x:V)(y:V)(H:Hp)(Q:VK):Prop|mk(a b xs ys:_)(_:x=.ref a)(_:y=.ref b)(_:aY K H a xs)(_:aY K H b ys)(_:ys≠[])(_:xs.length+ys.length<=aS)(_:∀p H',aY K H' p (xs++ys)->aF H H'->Q (.ref p) H')
def OL:eW X (nE .Add) (adi X.K):=by intro ag s Y H x y u v Q I V W h;obtain⟨a,b,xs,ys,N,O,P,Z,R,S,q⟩:=h;exact ab8 ag s Y H x y u v Q I V W ⟨a,b,xs,ys,N,O,P,Z,R,S,λe=>q b H (by rw[e];exact Z) (aF.refl _),λ_ p T=>q p _ (aY.of aJ) (bg T)⟩
end
section
variable{X:Cx}{κ:Type}[DecidableEq κ]{o i e f value tg:Expr}{x:Str}{a:ae}{pos pos' apos et:Pos}{td ty tv tx:TE}
noncomputable def vL(Z:Gl X x)(h:X.mg x=aa (.ref a))(hd:(x==("__debug__":Str))=aB:=by decide):PE X (.Name x pos) (tC (.ref a)):=O8 Z h U hd
variable{P:aR}{w:aQ}{K:aw}
noncomputable def Hz(kd:KD P w K κ)(Z:X.prog=P:=by rfl)(hw:X.w=w:=by rfl)(Y:X.K=K:=by rfl):PE X (.Dict [] [] pos) (Q1 kd):=by subst Z hw Y;exact acv
def vM(kd:KD P w K κ)(Z:X.A.units+64<du)(Y:PE X o td)(W:PE X i ty)(hs:zR i)(V:X.prog=P:=by rfl)(hw:X.w=w:=by rfl)(T:X.K=K:=by rfl):PE X (.Subscript o i pos) (QZ kd td ty):=by subst V hw T;exact acz Z Y W hs
def ack(kd:KD P w K κ)(Z:X.A.units+64<du)(W:PE X i ty)(Y:PE X o td)(V:X.prog=P:=by rfl)(hw:X.w=w:=by rfl)(T:X.K=K:=by rfl):PC X .NotIn i o (Q2 kd ty td):=by subst V hw T;exact acj Z W Y
def HH(kd:KD P w K κ)(Y:X.A.units+64<du)(W:PE X o td)(V:PE X i ty)(Z:PE X value tv)(hs:oU value (aa (.Subscript o i pos')) pos.line X.env=pure aB)(T:X.prog=P:=by rfl)(hw:X.w=w:=by rfl)(S:X.K=K:=by rfl):PS X (.Assign [.Subscript o i pos'] value pos) (P9 kd td ty tv):=by subst T hw S;exact ac2 Y W V Z hs
def acB(kd:KD P w K κ)(Z:X.A.units+64<du)(Y:PE X o td)(he:PE X e ty)(W:PE X f tx)(m:M2 X o "get" apos e f et)(V:X.prog=P:=by rfl)(hw:X.w=w:=by rfl)(T:X.K=K:=by rfl):PE X (.Call (.Attribute o "get" apos) [e,f] [] et) (Q0 kd td ty tx):=by subst V hw T;exact acA Z Y he W m
def HG(kd:KD P w K κ)(he:PE X e td)(Z:X.prog=P:=by rfl)(hw:X.w=w:=by rfl)(Y:X.K=K:=by rfl):PI X tg e (Np kd td):=by subst Z hw Y;exact acM he
end
def zt{Z:Type}{g:Z->V}{d:ae}{ps:List (Nat×Z)}:Wk (p7 d o (dv g ps)) (λH=>H d=aa (.cJ o (.dK (dv g ps)))) ps.length (λi x _=>∃p,ps[i]?=aa p/\x=.int (p.1:Nat))where
 go:=λi H Y h=>⟨h,by rw[qw];exact Y⟩
 fj:=λi H x T Y y h=>by obtain⟨rfl,k,v,y,rfl⟩:=y;refine⟨aF.refl _,?_⟩;unfold dv at y;obtain⟨p,W,X⟩:=iJ y;refine⟨p,W,?_⟩;cases X;rfl
 stop:=λH h=>⟨h,by rw[qw];exact bp _⟩
section
variable{prog:aR}{w:aQ}{A:b8}{E:af->aD->Prop}{s:aD}{T:String}{r d:ae}{n:Nat}{P:Nat->af->Prop}{OK:aK->Prop}
theorem Nu:∀{Z:List af} {ns:List Int},Z.length=ns.length->(∀(i:Nat) v,Z[i]?=aa v->∃t,v=.int (ns.getD i 0) t)->oN Z ns
 |[],[],_,_=>.nil
 |[],_::_,h,_=>by simp at h
 |_::_,[],h,_=>by simp at h
 |v::Z,m::ns,h,Y=>by obtain⟨t,e⟩:=Y 0 v U;have W:v=.int m t:=e;subst W;exact .cons m t (Nu ‹h› λi u X=>Y (i+1) u X)
def aeM{Q:af->aD->Prop}(K:PySem.W.KdlSrc prog w T r d n P OK)(I:A.handled=aj)(aW:OK s.heap)(N:n<=aS)(L:ns.length=n)(G:∀(i:Nat) v,P i v->i<n->∃t,v=.int (ns.getD i 0) t)(h:∀(X h':aK) (tk e:Nat) (R:List af) (Y:List Int),(∀b o,s.heap.get? b=aa o->X.get? b=aa o)->(∀b o,X.get? b=aa o->h'.get? b=aa o)->h'.get? X.objs.size=aa (xh "list" R.toArray e)->oN R Y->Y.Perm ns->Y.Pairwise (·<=·)->Q (.ref X.objs.size) {s with heap:=h',toks:=tk}):aN (model prog w) A (call (.builtin "sorted") [.ref r]) Q E s:=by
 refine Ss kind_sorted plain_sorted entry_sorted (args_sorted1 _) ?_;unfold Builtin.«sorted»;refine az (m:=checkCount "sorted" 1 1 _) (aV ?_);refine az (PySem.W.kdu_collect K (by simpa using I) aW N λX tk acc hk Z=>?_);refine az (wpAny_newList (hsz:=by rw[iN,Z.1];exact N) ?_);have F:oN acc.toList ns:=Nu (by rw[iN,Z.1,L]) λi v M=>by
  have V:acc[i]?=aa v:=by rw[<-t5];exact M
  have J:i<acc.size:=by
   rcases qb i acc.size with q|q
   .exact q
   .rw [wG q]at V;cases V
  exact G i v (Z.2 i v V) (by rw[<-Z.1];exact J)
 have S:(X.push (xh "list" acc.toList.toArray 0)).get? X.objs.size=aa (xh "list" acc.toList.toArray 0):=dm _ U;refine az (jS (iB slot_list_sort ⟨_,S,U⟩ entry_list_sort (list_sort_treeAny S F (by rw[iN,Z.1];exact N) λout Y B C D=>⟨_,U,?_⟩) (args_list_sort _)));obtain⟨e,he⟩:=sortedHeap_at (out:=out) S;refine aV ⟨_,U,h X _ _ e out.toList Y hk (λb o O=>?_) ‹he› B C D⟩;have H:b<X.objs.size:=cI O;rw[sortedHeap_old (c8 H) (cI (cq _ O))];exact cq _ O
end
theorem Jo:∀{Z:List af} {ns:List Int},oN Z ns->bD (ns.map V.int) Z
 |_,_,.nil=>.nil
 |_,_,.cons n t h=>.cons ⟨t,U⟩ (Jo h)
def QT{Z:List Nat}(h:(Z.map λn:Nat=>(n:Int)).Pairwise (·<=·))(Y:Z.Nodup):Z.Pairwise (·<·):=by rw[zJ]at h;refine List.Pairwise.imp₂ (λa b W X=>?_) h Y;have T:(a:Int)<=(b:Int):=W;have V:a≠b:=X;lia
section
variable{X:Cx}
def PL:List V->Hp->VK->Prop
 |[v],H1,Q=>∃d,∃(Y:Type) (g:Y->V) (ps:List (Nat×Y)),v=.ref d/\H1 d=aa (.dK (dv g ps))/\(ps.map (·.1)).Nodup/\∀(p:ae) (Z:List Nat),H1 p=aj->Z.Pairwise (·<·)->(∀x,x∈Z↔x∈ps.map (·.1))->Q (.ref p) (aM H1 p (.aC (Z.map NI)))
 |_,_,_=>False
def Ux(hc:X.ij=ah):i3 X (.builtin "sorted") PL:=by
 intro ag s σ H xs us Q I r h;obtain⟨K,rfl⟩:∃K,xs=[K]:=by
  rcases xs with _|⟨K,_|⟨v1,vs⟩⟩
  .exact h.elim
  .exact ⟨K,U⟩
  .exact h.elim
 obtain⟨d,α,g,ps,rfl,hd,hn,q⟩:=h;obtain⟨u,rfl,ru⟩:=r.jj;cases ru;obtain⟨z,F,L,de,o,es,ep,ho,hx,f,rr⟩:=xS I.aW hd;have hm:s.heap.DictAt (fz X.prog X.w) d L ep:=⟨o,es,ho,hx,f,rr⟩;have E:(dv g ps).length=L.length:=kC de;have nZ:L.length=ps.length:=by rw[<-E,qw]
 refine aeM (ns:=ps.map λp=>(p.1:Int)) (PySem.W.kdl_dict (knd:=fz X.prog X.w) (d:=d) (kvs:=L) (ep:=ep) F) (I.ok.hd hc) hm (by lia) (by rw[aP];lia) ?_ λY h' tk e S V A B hL c R hs=>?_
 .rintro i v ⟨k,x,hk,m⟩ hi
  obtain⟨p,R⟩:∃p,ps[i]?=aa p:=⟨_,dC (by lia)⟩;have D:(dv g ps)[i]?=aa ((.inl (p.1:Int):bE),g p.2):=by unfold dv;rw[cf,R];rfl
  obtain⟨u,hu,G⟩:=O0 de D;cases hk.symm.trans hu;have C:k=.inl (p.1:Int):=G.1.symm;subst C;rcases mX (show lS (.inl (p.1:Int)) v=ah from m)with⟨j,t,M,rfl⟩|⟨y,t,M,rfl⟩
  .cases M;refine⟨t,?_⟩;rw[wR,cf,R];rfl
  .cases M
 .obtain ⟨Z,O⟩:∃Z:List Nat,Z=V.map oD:=⟨_,U⟩;have P:V=Z.map λn:Nat=>(n:Int):=by
   rw[O,bR]
   conv=>lhs;rw[<-kx V]
   apply gY;intro x J;have:=R.mem_iff.mp J;obtain⟨p,_,rfl⟩:=bA.mp this;rfl
  have T:kr Z (ps.map (·.1)):=by
   have Y:=R.map oD;rw[<-O,bR]at Y;have M:(ps.map (oD∘λp=>(p.1:Int)))=ps.map (·.1):=by apply gY;intro p _;exact rD _
   rw[M]at Y;exact Y
  have b:aG X ag σ H {s with heap:=Y,toks:=tk}:=I.eE (t':=tk) A;have l:H Y.objs.size=aj:=b.aW.fresh (bp _);have N:Z.length<=aS:=by rw[T.length_eq,aP];lia
  rw[P]at c;have hv:bD (Z.map NI) S:=by have:=Jo c;rw[bR]at this;exact this
  have I2:=b.laid (a:=Y.objs.size) (o:=.aC (Z.map NI)) (t':=tk) B (bp _) ⟨by rw[aP];exact N,S,e,hv,hL⟩;exact⟨.ref Y.objs.size,_,I2,U,q _ Z l (QT (by rw[<-P];exact hs) (T.nodup_iff.mpr hn)) λx=>T.mem_iff⟩
def agC(te:TE):TE:=λX H Q=>te X H λv H1=>∃d,∃(Y:Type) (g:Y->V) (ps:List (Nat×Y)),v=.ref d/\H1 d=aa (.dK (dv g ps))/\(ps.map (·.1)).Nodup/\∀(p:ae) (Z:List Nat),H1 p=aj->Z.Pairwise (·<·)->(∀x,x∈Z↔x∈ps.map (·.1))->Q (.ref p) (aM H1 p (.aC (Z.map NI)))
noncomputable def HE{Y:Pos}(T:Gl X "sorted")(W:X.mg "sorted"=aj)(he:PE X e te)(S:X.ij=ah:=by rfl)(Z:cu [e] X.env=(aB,cC e X.env)::cu [] X.env:=by rfl):PE X (.Call (.Name "sorted" Y) [e] [] pos) (agC te):=by have V:PE X (.Call (.Name "sorted" Y) [e] [] pos) (tZ PL (m_ te oy)):=lV (Ux S) T W U (ai he aq Z) (he:=Z);exact V
end
def Zu{ag:List (ae×Obj)}{Z:L2.St}{s:aD}(I:aG X ag Z H s)(d:Drawn):aG X ag Z H {s with drawn:=d}:=⟨I.ok,I.os,I.gm,I.base,I.iX,I.cell,I.free,I.lL,I.j_,I.aW,I.bG⟩
def aau(val:Nat->Int)(n:Nat)(x:Int):x∈xc val n↔x∈(uf n).map val:=by
 have h:=firstMet_any val n x;have e:∀l:List Int,l.any (·==x)=ah↔x∈l:=λl=>by rw[jM];exact⟨λ⟨y,Y,Z⟩=>by rw[iE]at Z;exact Z▸Y,λh=>⟨x,h,by simp⟩⟩
 rw[<-e,<-e,h]
theorem GU(val:Nat->Int):∀n,(xc val n).Nodup
 |0=>oK
 |n+1=>by
  rw[firstMet_succ];unfold xi;split
  .exact GU val n
  .rename_i h;refine wW.mpr ⟨GU val n,by simp,λa Y b Z=>?_⟩;rw[bx.mp Z]
   rintro rfl
   exact h (jM.mpr ⟨_,Y,by simp⟩)
def BN(ns:List Nat):List Int:=xc (λi=>(ns.map λn:Nat=>(n:Int)).getD i 0) ns.length
def N5{ns:List Nat}{x:Int}:x∈BN ns↔∃n∈ns,(n:Int)=x:=by
 unfold BN;rw[aau,bA];constructor
 .rintro ⟨i,Z,rfl⟩
  have Z:=ue.mp Z;exact⟨ns[i],DE Z,by rw[wR,cf,dC Z];rfl⟩
 .rintro ⟨n,Y,rfl⟩
  obtain⟨i,Z,rfl⟩:=JV Y;exact⟨i,ue.mpr Z,by rw[wR,cf,dC Z];rfl⟩
def Ci(P:aR)(w:aQ):List V->Hp->VK->Prop
 |[v],H,Q=>∃l,∃ns:List Nat,v=.ref l/\H l=aa (.aC (ns.map NI))/\ns.length<4000/\∀a od es ep t,uH P w od es ep t (BN ns)->H a=aj->Q (.ref a) (aM H a (fR a od))
 |_,_,_=>False
def Cj(P:aR)(w:aQ):List V->Hp->VK->Prop
 |[v],H,Q=>∃a od es ep t ks,v=.ref a/\H a=aa (fR a od)/\uH P w od es ep t ks/\ks.length<=aS/\(∀k∈ks,0<=k)/\ks.Nodup/\∀(p:ae) (Z:List Nat),H p=aj->Z.Pairwise (·<·)->(∀x:Nat,x∈Z↔(x:Int)∈ks)->Q (.ref p) (aM H p (.aC (Z.map NI)))
 |_,_,_=>False
def aeL{l:ae}{ns:List Nat}(O:H l=aa (.aC (ns.map NI)))(R:ns.length<4000)(h:∀(p:ae) (Z:List Nat) (H2:Hp),H2 p=aa (.aC (Z.map NI))->aF H H2->Z.Pairwise (·<·)->(∀x,x∈Z↔x∈ns)->Q (.ref p) H2):Ci P w [.ref l] H λx H2=>Cj P w [x] H2 Q:=by
 refine⟨l,ns,U,O,R,λa od es ep t d V=>⟨a,od,es,ep,t,_,U,aJ,d,?_,λk hk=>?_,GU _ _,λp Z W Y X=>h p Z _ aJ ((bg V).trans (bg W)) Y λx=>?_⟩⟩
 .have:=firstMet_length_le (λi=>(ns.map λn:Nat=>(n:Int)).getD i 0) ns.length;unfold BN;rw[z_];lia
 .obtain ⟨n,_,rfl⟩:=N5.mp hk;lia
 .rw [X,N5];exact⟨λ⟨n,S,e⟩=>by rw[<-t8 e];exact S,λT=>⟨x,T,U⟩⟩
section
variable{X:Cx}
theorem N9:∀{ns:List Nat} {Z:List af},bD (ns.map NI) Z->oN Z (ns.map λn:Nat=>(n:Int))
 |[],_,.nil=>.nil
 |n::ns,_,.cons h t=>by obtain⟨t',rfl⟩:=h;exact .cons _ _ (N9 t)
def Uw(O:X.ij=ah):i3 X (.type "set") (Ci X.prog X.w):=by
 intro ag s N H xs us Q I r h;obtain⟨W,rfl⟩:∃W,xs=[W]:=by
  rcases xs with _|⟨W,_|⟨L,M⟩⟩
  .exact h.elim
  .exact ⟨W,U⟩
  .exact h.elim
 obtain⟨l,ns,rfl,P,hz,q⟩:=h;obtain⟨u,rfl,S⟩:=r.jj;cases S;obtain⟨Z,V,p,_⟩:=I.list (aL.of (K:=X.K) P);have Y:Z.length=ns.length:=by have:=V.length;rw[aP]at this;lia
 have hsz:Z.toArray.size=ns.length:=‹Y›
 refine aeu (ns:=ns.map λn:Nat=>(n:Int)) (I.ok.hd O) p.isList ‹N9 V› (by rw[hsz];unfold xu;lia) λh' tk T hk=>?_;rw[hsz]at T;obtain⟨o,es,ep,t,R,d⟩:=T;exact⟨.ref s.heap.objs.size,_,I.laid (t':=tk) hk (bp _) (uU R),U,q _ o es ep t d (I.aW.fresh (bp _))⟩
def Uy(i:X.ij=ah):i3 X (.builtin "sorted") (Cj X.prog X.w):=by
 intro ag s z H xs us Q I r h;obtain⟨O,rfl⟩:∃O,xs=[O]:=by
  rcases xs with _|⟨O,_|⟨v1,R⟩⟩
  .exact h.elim
  .exact ⟨O,U⟩
  .exact h.elim
 obtain⟨a,od,es,ep,t,ks,rfl,g,d,hz,F,L,q⟩:=h;obtain⟨u,rfl,y⟩:=r.jj;cases y;have j:=pk I.aW g;refine Ss kind_sorted plain_sorted entry_sorted (args_sorted1 _) ?_;unfold Builtin.«sorted»;refine az (m:=checkCount "sorted" 1 1 _) (aV ?_);refine az (aen ‹I.ok.hd i› ⟨od,es,ep,t,j,d⟩ hz λV tk c R ns hk C D=>?_);have P:R.length<=aS:=by rw[C.length,D.length_eq];exact hz
 refine az (wpAny_newList (hsz:=P) ?_);have S:(V.push (xh "list" R.toArray 0)).get? V.objs.size=aa (xh "list" R.toArray 0):=dm _ U;refine az (jS (iB slot_list_sort ⟨_,S,U⟩ entry_list_sort (list_sort_treeAny S C P λout T B a2 a3=>⟨_,U,?_⟩) (args_list_sort _)));obtain⟨e,he⟩:=sortedHeap_at (out:=out) S;refine aV ⟨_,U,?_⟩;have W:=a2.trans D;obtain⟨Y,K⟩:∃Y:List Nat,Y=T.map oD:=⟨_,U⟩;have Z:T=Y.map λn:Nat=>(n:Int):=by
  rw[K,bR]
  conv=>lhs;rw[<-kx T]
  apply gY;intro x M;have:=F x (W.mem_iff.mp M);show x=((oD x:Nat):Int);lia
 have J:Y.Nodup:=by
  have f:(Y.map λn:Nat=>(n:Int)).Nodup:=by rw[<-Z];exact W.nodup_iff.mpr L
  exact List.Pairwise.imp (λh e=>h (by rw[e])) (zJ.mp f)
 have A:aG X ag z H {s with heap:=V,toks:=tk}:=I.eE (t':=tk) hk;have E:H V.objs.size=aj:=A.aW.fresh (bp _);rw[Z]at B;have p:bD (Y.map NI) out.toList:=by have:=Jo B;rw[bR]at this;exact this
 have k:Y.length<=aS:=by have:=W.length_eq;rw[Z,aP]at this;lia
 have G:∀b o,V.get? b=aa o->(sortedHeap (V.push (xh "list" R.toArray 0)) V.objs.size R out).get? b=aa o:=λb o N=>by rw[sortedHeap_old (c8 (cI N)) (cI (cq _ N))];exact cq _ N
 have I2:=λt'=>Zu (A.laid (a:=V.objs.size) (o:=.aC (Y.map NI)) (t':=t') G (bp _) ⟨by rw[aP];exact k,out.toList,e,p,‹he›⟩) c;exact⟨.ref V.objs.size,_,I2 _,U,q _ Y E (QT (by rw[<-Z];exact a3) J) λx=>by rw[<-W.mem_iff,Z,bA];exact⟨λv=>⟨x,v,U⟩,λ⟨n,l,e⟩=>by rw[<-t8 e];exact l⟩⟩
def agD(P:aR)(w:aQ)(te:TE):TE:=λZ H Q=>te Z H λv H1=>Ci P w [v] H1 λx H2=>Cj P w [x] H2 Q
noncomputable def acD{R V Z:Pos}(N:Gl X "sorted")(O:X.mg "sorted"=aj)(S:Gl X "set")(T:X.mg "set"=aj)(he:PE X e te)(Q:X.ij=ah:=by rfl)(W:cu [e] X.env=(aB,cC e X.env)::cu [] X.env:=by rfl)(Y:cu [.Call (.Name "set" V) [e] [] Z] X.env=(aB,cC (.Call (.Name "set" V) [e] [] Z) X.env)::cu [] X.env:=by rfl)(M:X.prog=P:=by rfl)(hw:X.w=w:=by rfl):PE X (.Call (.Name "sorted" R) [.Call (.Name "set" V) [e] [] Z] [] pos) (agD P w te):=by subst M hw;have h:PE X (.Call (.Name "sorted" R) [.Call (.Name "set" V) [e] [] Z] [] pos) (tZ (Cj X.prog X.w) (m_ (tZ (Ci X.prog X.w) (m_ te oy)) oy)):=lV (Uy Q) N O U (ai (kZ (Uw Q) S T U (ai he aq W) (he:=W)) aq Y) (he:=Y);exact h
end
theorem N4:∀(more kvs:List (bE×V)),(jB kvs more).length<=kvs.length+more.length
 |[],kvs=>bp _
 |p::more,kvs=>by show(jB (eY kvs p.1 p.2) more).length<=_;have Y:=N4 more (eY kvs p.1 p.2);have Z:=qP kvs p.1 p.2;rw[bY];lia
section
variable{X:Cx}
inductive adk(x:V)(vs:List V)(H:Hp)(Q:VK):Prop|mk(a b kvs more:_)(_:x=.ref a)(_:vs=[.ref b])(_:H a=aa (.dK kvs))(_:Rd H b (.dK more))(_:a≠b)(_:kvs.length+more.length<=aS)(_:Q .bW (aM H a (.dK (jB kvs more))))
def aaE:rN X "dict.update" adk:=by
 intro ag s E H x B v us Q I L K h;obtain⟨a,b,kvs,more,rfl,rfl,P,G,W,hz,q⟩:=h;cases L;obtain⟨u,rfl,J⟩:=K.jj;cases J;obtain⟨C,T,R,de,O⟩:=xS I.aW P;obtain⟨D,V,Y,Z,S⟩:=pj I.aW G;have z:kvs.length=R.length:=kC de;have A:more.length=Y.length:=kC Z;refine z6 SJ O.typeIs F.entry_dict_update (F.args_dict_update_2 _ _) (meets_dict_update (fz X.prog X.w) a b W V) ⟨R,Y,O,S,by lia,λh' N y M=>?_⟩;have ex:∃o,h'.get? a=aa o:=by obtain⟨o,_,_,e,_⟩:=N;exact⟨o,e⟩
 exact⟨.bW,_,uT (t':=s.toks) I (by rw[P];trivial) M ex (AQ (c7 (N4 more kvs) hz) T (KV.merge Z de) N),U,q⟩
inductive adj(x:V)(vs:List V)(H:Hp)(Q:VK):Prop|mk(a kvs k v:_)(_:x=.ref a)(_:vs=[kV k,v])(_:H a=aa (.dK kvs))(_:kvs.length<aS)(_:(∀u,df kvs k=aa u->Q u H))(_:(df kvs k=aj->Q v (aM H a (.dK (eY kvs k v)))))
def aaG:rN X "dict.setdefault" adj:=by
 intro ag s C H x A v us Q I M L h;obtain⟨a,kvs,k,y,rfl,rfl,R,hz,G,J⟩:=h;cases M;obtain⟨B,Y,T,de,P⟩:=xS I.aW R;have z:kvs.length=T.length:=kC de;cases L with
 |cons K V=>
  cases V with
  |cons S V=>
   cases V;refine z6 SI P.typeIs F.entry_dict_setdefault (F.args_dict_setdefault_3 _ _ _) (PySem.kt_meets_setdefault (fz X.prog X.w) a (pI K) Y _) ⟨T,P,by lia,λu E=>?_,λD h' O N=>?_⟩
   .have Z:=de.val k;rw[E]at Z;cases e:df kvs k with
    |none=>rw[e]at Z;exact bq Z (by intro q;cases q)
    |some W=>
     rw[e]at Z;exact⟨W,H,I.gH _,Z,G W e⟩
   .have Z:=de.val k;rw[D]at Z;cases e:df kvs k with
    |some W=>rw[e]at Z;exact bq Z (by intro q;cases q)
    |none=>
     have ex:∃o,h'.get? a=aa o:=by obtain⟨o,_,_,e,_⟩:=O;exact⟨o,e⟩
     have t:=qP kvs k y;exact⟨y,_,uT (t':=s.toks+1) I (by rw[R];trivial) N ex (AQ (by lia) Y (de.put k S) O),S,J e⟩
end
section
variable{prog:aR}{w:aQ}{A:b8}{E:af->aD->Prop}{s:aD}{z TI TO i1 i2 l1 l2:ae}{k:Nat}{xs ys:Array af}
def ahn{x y a b:af}{Q:af->aD->Prop}(D:ZipApart z TI TO i1 i2 l1 l2)(hz:qh s.heap z TI TO .none)(hI:lA s.heap TI (.ref i1) (.ref i2))(hO:lA s.heap TO a b)(i:s.heap.IsTupleIter i1 l1 k)(j:s.heap.IsTupleIter i2 l2 k)(f:s.heap.IsTuple l1 xs)(h:s.heap.IsTuple l2 ys)(hx:xs[k]?=aa x)(hy:ys[k]?=aa y)(hQ:∀g,qh g z TI TO (eM s.heap.objs.size)->lA g TO x y->g.IsTupleIter i1 l1 (k+1)->g.IsTupleIter i2 l2 (k+1)->lA g s.heap.objs.size x y->(∀c o,c≠z->c≠TO->c≠i1->c≠i2->s.heap.get? c=aa o->g.get? c=aa o)->Q (.ref s.heap.objs.size) {s with heap:=g}):aN (model prog w) A (Builtin.«zip.__next__» ⟨[.ref z],[]⟩) (λP s'=>∃v,P=.done (.ret v)/\Q v s') E s:=by
 refine az (m:=qm (.ref z) 2) (jt hz U (x:=.bool aB) U (az (m:=qm (.ref z) 3) (jt hz U (x:=.ref TI) U (az (nH hI U ?_)))));refine az (m:=Sq (.ref z)) (az (jt hz U (x:=.none) U (aV ?_)));simp only[if_true];refine az (oW (az (jt hz U (x:=.ref TO) U (az (nI hz (by simp) λg1 t Y=>az ?_)))));simp only[List.zipIdx_cons,List.zipIdx_nil,nr,oH];refine az (az (K2 (az (m:=ur (.ref i1)) (G2 (i.extBut Y.extBut D.i1z) (f.extBut Y.extBut D.l1z) hx λg2 l W=>aV ?_))));have J:lA g2 TO a b:=W.extBut _ _ D.TOi1 (Y.extBut _ _ D.TOz hO);refine az (nH J U (az (wpAny_updateSeq_pair J λg3 d X=>az (wpAny_letGo (aV ?_)))));refine az (az (K2 (az (m:=ur (.ref i2)) (G2 (((j.extBut Y.extBut D.i2z).extBut W.extBut D.i12.symm).extBut X.extBut D.TOi2.symm) (((h.extBut Y.extBut D.l2z).extBut W.extBut D.l2i1).extBut X.extBut D.l2TO) hy λg4 p T=>aV ?_))));have K:lA g4 TO x b:=T.extBut _ _ D.TOi2 d;refine az (nH K U (az (wpAny_updateSeq_pair K λZ S V=>az (wpAny_letGo (aV (aV ?_))))));replace S:lA Z TO x y:=S;have e5:Z.objs.size=s.heap.objs.size:=by rw[V.1,T.1,X.1,W.1,Y.1]
 have M:qh Z z TI TO .ellipsis:=V.extBut _ _ D.TOz.symm (T.extBut _ _ D.i2z.symm (X.extBut _ _ D.TOz.symm (W.extBut _ _ D.i1z.symm t)));have O:z<Z.objs.size:=cI M;refine az (nH S U (az (wpAny_newTuple ?_)));refine az (m:=So (.ref z) (.ref Z.objs.size)) ?_;unfold So;have u:qh (Z.push {cls:=.type "tuple",data:=.seq #[x,y]}) z TI TO .ellipsis:=cq _ M;refine az (nI u (by simp) λg7 B F=>nI B (by simp) λR C G=>aV ⟨_,U,?_⟩);have up:∀c o,c≠z->Z.get? c=aa o->R.get? c=aa o:=λc o n e=>G.extBut _ _ n (F.extBut _ _ n (cq _ e));have L:lA R Z.objs.size x y:=G.extBut _ _ (mw O) (F.extBut _ _ (mw O) (dm _ U));have N:qh R z TI TO (eM Z.objs.size):=C;have q:Z.IsTupleIter i1 l1 (k+1):=((l.extBut X.extBut D.TOi1.symm).extBut T.extBut D.i12).extBut V.extBut D.TOi1.symm;have r:Z.IsTupleIter i2 l2 (k+1):=p.extBut V.extBut D.TOi2.symm;show Q (.ref Z.objs.size) _;rw[e5]at L N⊢;exact hQ R N (up _ _ D.TOz S) (q.at λo e=>up _ o D.i1z e) (r.at λo e=>up _ o D.i2z e) L λc o H I c3 c4 e=>up c o H (V.extBut _ _ I (T.extBut _ _ c4 (X.extBut _ _ I (W.extBut _ _ c3 (Y.extBut _ _ H e)))))
def ahm{a b:af}{Q:rX->aD->Prop}(L:A.handled=aj)(D:ZipApart z TI TO i1 i2 l1 l2)(hz:qh s.heap z TI TO .none)(K:lA s.heap TI (.ref i1) (.ref i2))(P:s.heap.IsTupleIter i1 l1 k)(O:s.heap.IsTuple l1 xs)(M:xs[k]?=aj)(J:∀g e,(∀c o,c≠z->c≠TO->c≠i1->c≠i2->s.heap.get? c=aa o->g.get? c=aa o)->(∃o,g.get? e=aa o/\o.cls=.type "StopIteration")->E (.ref e) {s with heap:=g}):aN (model prog w) A (Builtin.«zip.__next__» ⟨[.ref z],[]⟩) Q E s:=by
 refine az (m:=qm (.ref z) 2) (jt hz U (x:=.bool aB) U (az (m:=qm (.ref z) 3) (jt hz U (x:=.ref TI) U (az (nH K U ?_)))));refine az (m:=Sq (.ref z)) (az (jt hz U (x:=.none) U (aV ?_)));simp only[if_true];refine az (oW (az (jt hz U (x:=.ref TO) U (az (nI hz (by simp) λF R Y=>az ?_)))));simp only[List.zipIdx_cons,List.zipIdx_nil,nr,oH];refine az (az (K2 (az (m:=ur (.ref i1)) (G1 L (P.extBut Y.extBut D.i1z) (O.extBut Y.extBut D.l1z) M λH e S he=>?_))));obtain⟨N,Z,W⟩:=he;have X:qh H z TI TO .ellipsis:=S _ _ D.i1z.symm R;have ne:e≠z:=λq=>by rw[q,X]at Z;cases Z;simp at W
 exact nI X (by simp) λI _ T=>J I e (λc o V _ G _ q=>T.extBut _ _ V (S _ _ G (Y.extBut _ _ V q))) ⟨N,T.extBut _ _ ne Z,W⟩
noncomputable def yQ{G Z:aK}(e:Z=G.push o)(h:o.isFreed=aB:=by rfl):Z.get? G.objs.size=aa o:=by rw[e];exact dm _ h
def yR{G Z:aK}(e:Z=G.push o):∀c u,G.get? c=aa u->Z.get? c=aa u:=λc u q=>by rw[e];exact cq _ q
def aho(W M:ae)(xs ys:Array af):Meets (Builtin.«zip.__new__» ⟨[.type "zip",.ref W,.ref M],[]⟩) (λ_ R s=>s.heap.IsTuple W xs/\s.heap.IsTuple M ys/\∀g,qh g (s.heap.objs.size+4) (s.heap.objs.size+2) (s.heap.objs.size+3) .none->lA g (s.heap.objs.size+2) (.ref s.heap.objs.size) (.ref (s.heap.objs.size+1))->lA g (s.heap.objs.size+3) .none .none->g.IsTupleIter s.heap.objs.size W 0->g.IsTupleIter (s.heap.objs.size+1) M 0->(∀c o,s.heap.get? c=aa o->g.get? c=aa o)->R (.ok (.ret (.ref (s.heap.objs.size+4)))) {s with heap:=g}):=
 .of_wp λprog w A R s h=>by
  obtain⟨Z,g,d,tk,os⟩:=s;obtain⟨v,x,h⟩:=h;have sz:=PySem.sub_zip;have q:Kp (Kw ⟨Z,g,d,tk,os⟩) W xs:=v;have t:Kp (Kw ⟨Z.push {cls:=.type "tuple_iterator",data:=.fields #[.ref W,.int 0 0]},g,d,tk,os⟩) M ys:=by obtain⟨o,e,r⟩:=x;exact⟨o,cq _ e,r⟩
  wp_walk using uE q,uE t
  obtain⟨S,G⟩:∃S:aK,S=Z.push {cls:=.type "tuple_iterator",data:=.fields #[.ref W,.int 0 0]}:=⟨_,U⟩;obtain⟨T,H⟩:∃T:aK,T=S.push {cls:=.type "tuple_iterator",data:=.fields #[.ref M,.int 0 0]}:=⟨_,U⟩;obtain⟨V,I⟩:∃V:aK,V=T.push {cls:=.type "tuple",data:=.seq #[.ref Z.objs.size,.ref S.objs.size]}:=⟨_,U⟩;obtain⟨L,J⟩:∃L:aK,L=V.push {cls:=.type "tuple",data:=.seq #[.none,.none]}:=⟨_,U⟩;obtain⟨X,E⟩:∃X:aK,X=L.push {cls:=.type "zip",data:=.fields #[.none,.bool aB,.bool aB,.ref T.objs.size,.ref V.objs.size]}:=⟨_,U⟩;have n1:S.objs.size=Z.objs.size+1:=by rw[G];exact fU ..
  have B:T.objs.size=Z.objs.size+2:=by rw[H,fU,n1]
  have C:V.objs.size=Z.objs.size+3:=by rw[I,fU,B]
  have D:L.objs.size=Z.objs.size+4:=by rw[J,fU,C]
  have K:=yQ E;have Q:=yR E;have P:∀c o,V.get? c=aa o->X.get? c=aa o:=λc o e=>Q c o (yR J c o e);have O:∀c o,T.get? c=aa o->X.get? c=aa o:=λc o e=>P c o (yR I c o e);have N:∀c o,S.get? c=aa o->X.get? c=aa o:=λc o e=>O c o (yR H c o e);have z:=Q _ _ (yQ J);have F:=P _ _ (yQ I);have y:=O _ _ (yQ H);have u:=N _ _ (yQ G);rw[n1]at y F;rw[B]at F K;rw[C]at z K;rw[D]at K;have Y:=h X K F z ⟨_,u,U,U⟩ ⟨_,y,U,U⟩ λc o e=>N c o (yR G c o e);have e:(.ref (Z.objs.size+4):af)=.ref L.objs.size:=by rw[D]
  replace Y:R (.ok (.ret (.ref (Z.objs.size+4)))) ⟨X,g,d,tk,os⟩:=Y;rw[e]at Y;subst E J I H G;exact⟨_,U,Y⟩
end
def Du(K:aw)(a b:ae):It:=
 ⟨λi H=>∃(xs ys:List V) (x y:V),aY K H a xs/\aY K H b ys/\xs[i]?=aa x/\ys[i]?=aa y,λi H v H'=>∃T x y,v=.ref T/\H T=aj/\H'=aM H T (.bh [x,y])/\(∀xs,aY K H a xs->xs[i]?=aa x)/\∀ys,aY K H b ys->ys[i]?=aa y,λi H=>∃xs:List V,aY K H a xs/\xs.length<=i⟩
def ag2{B:List Expr}{kk:Nat}{L:Pos}{z TI TO R S:ae}(D:ZipApart z TI TO R S a b):mB P w K (.Tuple B kk L) (Du K a b) [z,TI,TO,R,S] z (λi h=>qh h z TI TO .none/\lA h TI (.ref R) (.ref S)/\(∃x y,lA h TO x y)/\h.IsTupleIter R a i/\h.IsTupleIter S b i)where
 mem:=by simp
 obj:=λi h st c G=>by
  obtain⟨q1,q2,⟨x,y,d⟩,⟨o1,e1,_,d1⟩,⟨o2,e2,_,d2⟩⟩:=st;simp only[bJ,oM,or_false]at G;rcases G with rfl|rfl|rfl|rfl|rfl
  .exact ⟨_,q1,λv q=>nomatch q⟩
  .exact ⟨_,q2,λv q=>nomatch q⟩
  .exact ⟨_,d,λv q=>nomatch q⟩
  .exact ⟨o1,e1,λv q=>by rw[d1]at q;cases q⟩
  .exact ⟨o2,e2,λv q=>by rw[d2]at q;cases q⟩
 keep:=λi h h' st k=>by obtain⟨q1,q2,⟨x,y,d⟩,q4,q5⟩:=st;exact⟨k z (by simp) _ q1,k TI (by simp) _ q2,⟨x,y,k TO (by simp) _ d⟩,q4.at λo q=>k R (by simp) o q,q5.at λo q=>k S (by simp) o q⟩
 item:=by
  intro X hP hw hK G i ag s σ H E I r st hg;subst hP hw hK;obtain⟨hz,Y,⟨x0,y0,N⟩,n,h2⟩:=st;obtain⟨xs,ys,x,y,V,J,hx,hy⟩:=hg;obtain⟨bw,j,p,_⟩:=I.tuple V;obtain⟨ahW,m,p2,_⟩:=I.tuple J;obtain⟨u,hu,ru⟩:=j.get hx;obtain⟨t,YY,f⟩:=m.get hy;have zl:z<s.heap.objs.size:=cI hz;have C:s.TypeIs (.ref z) "zip":=⟨_,hz,U⟩;unfold js;refine az (xy (oV (name:=oR "__next__") C D1 (iB D1 C SD (ahn D hz Y N n h2 p p2 (x:=u) (y:=t) (by simpa using hu) (by simpa using YY) λg z' o' w1 w2 t' hk=>aV ?_) (Sx _))));refine⟨_,U,wpAny_letOwnedTupleGo_zip (s:={s with heap:=g}) z' λg2 z2 M=>?_⟩;have t2:g2.get? s.heap.objs.size=aa {cls:=.type "tuple",data:=.seq #[u,t]}:=(M.2 _ (mw zl)).trans t';have I1:aG X ag σ (aM H s.heap.objs.size (.bh [x,y])) {s with heap:=g2}:=I.Jh (t':=s.toks) (ch:=[z,TI,TO,R,S])
   (λc o W q=>(M.2 c (λZ=>W (by simp[Z]))).trans (hk c o (λZ=>W (by simp[Z])) (λZ=>W (by simp[Z])) (λZ=>W (by simp[Z])) (λZ=>W (by simp[Z])) q)) r (bp _)
   ⟨by show 2<=aS;decide,[u,t],.cons ru (.cons f .nil),_,t2,U,_,U,U⟩
  refine⟨.ref s.heap.objs.size,_,I1,U,⟨_,x,y,U,I.aW.fresh (bp _),U,λl hl=>by rw[I.C_ hl V];exact hx,λl hl=>by rw[I.C_ hl J];exact hy⟩,⟨z2,?_,⟨u,t,?_⟩,?_,?_⟩,λc O=>?_⟩
  .exact (M.2 _ D.TIz).trans (hk _ _ D.TIz D.TITO D.TIi1 D.TIi2 Y)
  .exact (M.2 _ D.TOz).trans o'
  .exact w1.at λo q=>(M.2 _ D.i1z).trans q
  .exact w2.at λo q=>(M.2 _ D.i2z).trans q
  .have lQ:c<s.heap.objs.size:=by
    simp only[bJ,oM,or_false]at O;rcases O with rfl|rfl|rfl|rfl|rfl
    .exact zl
    .exact cI Y
    .exact cI N
    .obtain ⟨_,e1,_⟩:=n;exact cI e1
    .obtain ⟨_,e2,_⟩:=h2;exact cI e2
   rw[a_ (c8 lQ)];exact(r c O).1
 done:=by intro X hP hw hK G i ag s σ H E I r st hg;subst hP hw hK;obtain⟨hz,Y,⟨x0,y0,N⟩,n,h2⟩:=st;obtain⟨xs,V,he⟩:=hg;obtain⟨bw,j,p,_⟩:=I.tuple V;have l1:=j.length;have C:s.TypeIs (.ref z) "zip":=⟨_,hz,U⟩;unfold js;refine az (xy (oV (name:=oR "__next__") C D1 (iB D1 C SD (ahm (a:=x0) (b:=y0) ‹I.ok.hd G› D hz Y n p (by simp;lia) λg e hk ⟨o,ho,nW⟩=>?_) (Sx _))));refine az (uC (T:="StopIteration") (b:=ah) ⟨o,ho,nW⟩ Ef (aV ⟨U,I.ag3 (t':=s.toks) (ch:=[z,TI,TO,R,S]) (λc o W q=>?_) r⟩));exact hk c o (λZ=>W (by simp[Z])) (λZ=>W (by simp[Z])) (λZ=>W (by simp[Z])) (λZ=>W (by simp[Z])) q
 self:=λA i s Q E st h=>wpAny_pyIter_zip st.1 h
def Zl(K:aw)(X:TA):TI:=λZ H R=>X Z H λY H1=>∃a b xs ys,Y=[.ref a,.ref b]/\aY K H1 a xs/\aY K H1 b ys/\R (Du K a b) H1
def Pe{P:Expr}{C:TA}{p Y:Pos}{Q:List Expr}{v:Nat}(t:Gl X "zip")(u:X.mg "zip"=aj)(o:PA X [e,P] C)(hs:cu [e,P] X.env=(aB,cC e X.env)::cu [P] X.env:=by rfl)(G:(gj pos (cu [P] X.env)).any (·.1)=aB:=by rfl):PI X (.Tuple Q v Y) (.Call (.Name "zip" p) [e,P] [] pos) (Zl X.K C):=by
 intro ag s z H R I h;refine Call_ (tE I t u T6 (xb (k' (o pos ag s z H _ I h) ?_) hs G))
 rintro us Z k l O x ⟨a,b,xs,ys,rfl,J,L,q⟩
 cases x with
 |cons r N=>
  cases N with
  |cons w N=>
   cases N;cases r;cases w;obtain⟨M,j,A,_⟩:=O.tuple J;obtain⟨V,y,B,_⟩:=O.tuple L;refine callType_new PySem.F.called_zip (by decide) (PySem.F.typeCall_zip_2 _ _) (PySem.F.newCall_zip_2 _ _) (λobj=>PySem.F.args_object_init_3 obj _ _) PySem.F.entry_zip_new (aho a b M.toArray V.toArray) ⟨A,B,λg hz D E m n hk=>?_⟩;refine⟨⟨_,hz,U⟩,wpAny_pyIter_zip hz ?_⟩;refine⟨Z.heap.objs.size+4,[Z.heap.objs.size+4,Z.heap.objs.size+2,Z.heap.objs.size+3,Z.heap.objs.size,Z.heap.objs.size+1],_,_,l,U,O.eE (t':=Z.toks) hk,ag2 (PySem.W.ktu_apart Z.heap.objs.size a b A.lt B.lt),⟨hz,D,⟨_,_,E⟩,m,n⟩,λc S=>?_,q⟩;have T:Z.heap.objs.size<=c:=by
    simp only[bJ,oM,or_false]at S;rcases S with rfl|rfl|rfl|rfl|rfl
    .exact rO _ _
    .exact rO _ _
    .exact rO _ _
    .exact bp _
    .exact rO _ _
   exact O.nU T (O.aW.fresh T)
def Rw{Y:Type}{zs:List Y}{f g:Y->V}:Wk (Du K a b) (λH=>aY K H a (zs.map f)/\aY K H b (zs.map g)) zs.length (λi v H=>∃T z,v=.ref T/\zs[i]?=aa z/\H T=aa (.bh [f z,g z]))where
 go:=λi H Z h=>by have e:zs[i]?=aa zs[i]:=dC Z;exact⟨_,_,f zs[i],g zs[i],h.1,h.2,by rw[cf,e];rfl,by rw[cf,e];rfl⟩
 fj:=λi H v P Z y h=>by obtain⟨T,x,y,rfl,S,rfl,Q,R⟩:=y;have e:zs[i]?=aa zs[i]:=dC Z;have W:=Q _ h.1;have X:=R _ h.2;rw[cf,e]at W X;cases W;cases X;exact⟨bg S,T,zs[i],U,e,aJ⟩
 stop:=λH h=>⟨_,h.1,by rw[aP];exact bp _⟩
end TV
namespace TV
open PySem PySem.Spec PyProof.Rows L2
variable{a b C p D Pt I dx cl rl nl:ae}{Q:VK}{xs ys:List V}{r:ab.ak}{h h':aK}{o od:Obj}{E:XK}{s:bf}{P:aR}{w:aQ}{N:List Str}{ps:List (Nat×ae)}{sp:Sp}{f g qual:Str}{v u y:V}{H H1 H2 H' H0 H5:Hp}{S ca:List ae}{ns:List Int}{K:aw}{zs:List (ae×List Nat)}{rs ss:List ab.ak}{Y:Nat->V->Hp->Prop}{es:Array (Int×af)}{ep j au ti:Nat}{X:Cx}{e:Expr}{mg:Str->Option af}{c:bV}{ks cs:List Nat}{tr:Bool}
variable{P:aR}{w:aQ}{K:aw}{mg:Str->Option af}{base:aK}{A:br}{zc Pt:ae}(Z:Zd P w K mg base A zc Pt)
inductive afj(K:aw)(C:ae)(vs:List V)(H:Hp)(Q:VK)(_:XK):Prop|mk(a r:_)(_:vs=[.ref a])(_:eD K C H a r)(_:∀p H',mr K H' p r.aT->aF H H'->Q (.ref p) H')
inductive aeW(K:aw)(vs:List V)(H:Hp)(Q:VK)(_:XK):Prop|mk(a ps:_)(_:vs=[.ref a])(_:rR K H a ps)(_:ps.length<aS)(_:∀l H',H' l=aa (.aC ((ps.map (·.change)).map NI))->aF H H'->Q (.ref l) H')
def adR:kq ["self","signs","looks","insertions","deletions","pending"] ["self","signs","looks","insertions","deletions","pending"] (cF (n8 (bo 8) 0)):=by walk_at"s"
inductive IM(C:ae)(vs:List V)(H:Hp)(Q:VK)(_:XK):Prop|mk(a dx s l i d p:ae)(_:vs=[.ref a,.ref s,.ref l,.ref i,.ref d,.ref p])(_:H a=aa (.ins C dx []))(_:∀H',iQ C H' a s l i d p->(∀b o,H b=aa o->b≠a->H' b=aa o)->Q .bW H')
def qW(Z:Zd P w K mg base A zc Pt):qa P w K mg base "Run" A.cr ["self","signs","looks","insertions","deletions","pending"] 1 (IM A.cr):=by
 refine Z.Zp.ok adR λf W S outer s H V Q E T h=>?_;obtain⟨a,dx,s,l,i,d,p,rfl,X,k⟩:=h;refine⟨_,(aH (cY Z.bS Z.gr (pv 0) (pv 1)) (aH (cY Z.bS Z.m7 (pv 0) (pv 2)) (aH (cY Z.bS Z.jF (pv 0) (pv 3)) (aH (cY Z.bS Z.lZ (pv 0) (pv 4)) (aO (cY Z.bS Z.jG (pv 0) (pv 5))))))),?_⟩;refine⟨a,dx,[],U,X,by decide,?_⟩;refine⟨a,dx,_,U,aJ,by show 1<1000;decide,?_⟩;refine⟨a,dx,_,U,aJ,by show 2<1000;decide,?_⟩;refine⟨a,dx,_,U,aJ,by show 3<1000;decide,?_⟩;refine⟨a,dx,_,U,aJ,by show 4<1000;decide,?_⟩;show Q .bW _;rw[fO,fO,fO,fO]
 repeat(first|rw[tM]|rw[dQ ‹_›])
 exact k _ ⟨dx,aJ⟩ λb o e Y=>by rw[a_ Y];exact e
def ad8:Sc ["run"] 1 9:=by walk_at"s"
inductive afD(K:aw)(C:ae)(vs:List V)(H:Hp)(Q:VK)(_:XK):Prop|mk(a r:_)(_:vs=[.ref a])(_:eD K C H a r)(_:Q (.bl r.shown) H)
def aeA(r:ab.ak):decide (V.int (r.del.length:Int)=V.int 0)=r.shown:=by
 unfold ab.ak.shown;cases r.del with
 |nil=>rfl
 |cons a l=>
  have:¬(V.int ((a::l).length:Int)=V.int 0):=by intro h;injection h with h;simp at h;lia
  rw[cE this];rfl
def tJ:Cz Z "is_shown" ["run"] 1 (afD K A.cr):=by refine Z.Vc.ok ad8 λf W P outer s H T Q E R h=>?_;obtain⟨a,r,rfl,⟨S,l,i,d,p,X,Y⟩,k⟩:=h;refine⟨_,(aO (bc (lW dI (qN K Z.eQ (ai (aX Z.bS Z.lZ (pv 0)) aq)) aU (cB _)))),?_⟩;refine⟨a,_,U,X.del,d,_,U,dB.tn Y.del,U,?_⟩;show Q (.bl (decide (V.int (r.del.length:Int)=V.int 0))) H;rw[aeA];exact k
def aec:Sc ["run"] 1 10:=by walk_at"s"
def yI:Cz Z "marks_of" ["run"] 1 (afj K A.cr):=by refine Z.Vt.ok aec λf T O outer s H S Q E P h=>?_;obtain⟨a,r,rfl,⟨R,l,i,d,p,W,X⟩,k⟩:=h;refine⟨_,(aO (bc (fB (ai (aX Z.bS Z.jF (pv 0)) (ai (aX Z.bS Z.lZ (pv 0)) (ai (aX Z.bS Z.jG (pv 0)) aq)))))),?_⟩;refine⟨a,_,U,W.ins,a,_,U,W.del,a,_,U,W.pend,by show 3<=aS;decide,λq V=>?_⟩;have Y:=bg (o:=.bh [.ref i,.ref d,.ref p]) V;exact k q _ ⟨i,d,p,aY.of aJ,X.ins.up (Y.le A.cr),X.del.up (Y.le A.cr),X.pend.up (Y.le A.cr)⟩ Y
def Ic:Sc ["pending","entry"] 1 11:=by walk_at"s"
def Hh:Cz Z "changes_pending" ["pending"] 1 (aeW K):=by
 refine Z.UQ.ok Ic λf F u outer s H B Q E A h=>?_;obtain⟨a,ps,rfl,⟨zs,V,R,J⟩,hz,k⟩:=h;have el:zs.length=ps.length:=by have:=b_ fo V;simpa using this
 refine⟨_,(aO (bc (hU U Ic.nd (qJ K (pv 0)) (fw (N:=["pending","entry"]) (sc:=cF (bo 11)) (own:=[("entry",1)]) ‹_›) (λ_ _ _ _ _=>(qG 1 Ic.nd)) (λ_ _ _ _ _=>jE) (λ_ _ _ _ _=>(qT K (pv 1) aU))))),?_⟩;refine⟨a,U,⟨_,R⟩,λD L=>fJ zs (λ_=>ah) (λz=>NI (z.2.getD 0 0)) ki (λX Y=>dS (Y.le 0) R) L (by lia) ?_ λX Y M=>?_⟩
 .rintro n z x X w v hz Y P _ I ⟨C,W,rfl⟩
  cases hz.symm.trans W;refine I ?_;have O:=ck hz;obtain⟨y,_,T⟩:∃y,ps[n]?=aa y/\eX y=z.2:=iJ (by rw[<-V,cf,hz];rfl);have S:=(J z O).up (Y.le 0);rw[<-T]at S;refine⟨U,z.1,_,0,_,U,U,S,bt (j:=0) U,?_⟩;have:=P U X (aF.refl _);rw[<-T]at this;exact this
 .refine k D X ?_ Y;rw[M];have e:(zs.filter λ_=>ah)=zs:=by simp
  rw[e];have G:zs.map (λz=>NI (z.2.getD 0 0))=(zs.map (·.2)).map λl=>NI (l.getD 0 0):=by rw[bR];rfl
  rw[G,V,bR,bR];rfl
def vv{s l i d x:ae}(Y:oX K H s l i d p r)(nx:H x=aj)(nd:H dx=aj)(ne:dx≠x)(k:∀a H',eD K C H' a r->aF H H'->Q (.ref a) H'):IM C ([.ref x,.ref s,.ref l,.ref i,.ref d,.ref p]) (aM (aM H dx (.own x)) x (.ins C dx [])) (λv H2=>v=.bW/\Q (.ref x) H2) E:=by refine⟨x,dx,s,l,i,d,p,U,aJ,λH' X hk=>⟨U,?_⟩⟩;have Z:aF H H':=aF.made nx nd hk;exact k x H' ⟨s,l,i,d,p,X,Y.up (Z.le C)⟩ Z
def ad0:Sc ["marks"] 1 12:=by walk_at"s"
inductive aeV(K:aw)(vs:List V)(H:Hp)(Q:VK)(_:XK):Prop|mk(a m:_)(_:vs=[.ref a])(_:mr K H a m)(_:m.aI.length<aS)(_:∀l H',H' l=aa (.aC (m.aI.map NI))->H l=aj->aF H H'->Q (.ref l) H')
def yD:Cz Z "changes_of" ["marks"] 2 (aeV K):=by refine Z.UP.ok ad0 λf A x outer s H z Q E G h=>?_;obtain⟨a,m,rfl,⟨i,d,p,V,C,D,F⟩,hz,k⟩:=h;unfold ab.b7.aI at hz;rw[bb,bb,aP]at hz;refine⟨_,(aO (bc (b6 gU (b6 gU (kZ (r:=Cg K) EJ U Z.GY Kb (ai (qT K (pv 0) aU) aq)) (kZ (r:=Cg K) EJ U Z.GY Kb (ai (qT K (pv 0) aU) aq))) (qF (Hh Z:) G (ai (qT K (pv 0) aU) aq))))),?_⟩;refine⟨a,_,0,_,U,U,V,bt (j:=0) U,i,_,U,.inr C,λI n1=>?_⟩;have W:=bg (o:=.aC (m.ins.map NI)) n1;refine⟨a,_,1,_,U,U,dS (W.le 0) V,bt (j:=1) U,d,_,U,.inr (D.up (W.le 0)),λJ O=>?_⟩;have T:=bg (o:=.aC (m.del.map NI)) O;refine⟨I,J,_,_,U,U,T _ _ aJ,aJ,by rw[aP,aP];lia,λL P=>?_⟩;have R:=bg (o:=.aC (m.ins.map NI++m.del.map NI)) P;have Y:=W.trans (T.trans R);refine⟨a,_,2,_,U,U,dS (Y.le 0) V,bt (j:=2) U,p,_,U,F.up (Y.le 0),by lia,λM y B X=>?_⟩;refine⟨L,M,_,_,U,U,X _ _ aJ,B,by rw[bb,aP,aP,aP,aP];lia,λN S=>?_⟩;refine k N _ ?_ ((Y.trans X).free S) ((Y.trans X).trans (bg S));rw[aJ];unfold ab.b7.aI;rw[cG,cG,fm]
def zf:Sc ["run","c","role"] 2 13:=by walk_at"s"
noncomputable def yY(c:Nat)(r:ab.ak):Nat:=(if r.ins.contains c then 1 else 0)+(if r.del.contains c then 2 else 0)+(if(r.pend.map (·.change)).contains c then 4 else 0)
inductive afy(K:aw)(C:ae)(vs:List V)(H:Hp)(Q:VK)(_:XK):Prop|mk(a r c:_)(_:vs=[.ref a,.int (c:Nat)])(_:eD K C H a r)(_:r.pend.length<aS)(_:∀H',aF H H'->Q (NI (yY c r)) H')
def aZ{b:Bool}{p q:Prop}(Y:b=ah->p)(Z:b=aB->q):if b=ah then p else q:=by
 cases b
 .rw [ay cg];exact Z U
 .rw [aA U];exact Y U
def vm(c:Nat)(l:List Nat):iW (.int (c:Nat)) (l.map NI)=l.contains c:=by
 unfold iW
 induction l with
 |nil=>rfl
 |cons a l Z=>
  rw[bM,mj,Z,JO];congr 1;show((a:Int)==(c:Int))=(c==a);by_cases e:c=a
  .subst e;simp
  .have Y:¬(a:Int)=(c:Int):=by lia
   rw[fX.mpr Y,fX.mpr e]
def qz(l:List Nat):(l.map NI).all nT=ah:=by rw[wL,rE];intro x _;rfl
def abK:Cz Z "role_of" ["run","c"] 2 (afy K A.cr):=by
 refine Z.VF.ok zf λf L F outer s H I Q E M h=>?_;obtain⟨a,r,c,rfl,⟨G,l,i,d,p,W,X⟩,hz,k⟩:=h;refine⟨_,(aH (qS 2 zf.nd aU) (aH (bO (cK (r:=rh K aB) tK (pv 1) (aX Z.bS Z.jF (pv 0)) U) (aO (qS 2 zf.nd (b6 f9 (pv 2) aU))) bX) (aH (bO (cK (r:=rh K aB) tK (pv 1) (aX Z.bS Z.lZ (pv 0)) U) (aO (qS 2 zf.nd (b6 f9 (pv 2) aU))) bX) (aH (bO (cK (r:=rh K aB) tK (pv 1) (qF (Hh Z:) M (ai (aX Z.bS Z.jG (pv 0)) aq)) U) (aO (qS 2 zf.nd (b6 f9 (pv 2) aU))) bX) (aO (bc (pv 2))))))),?_⟩;have Y:∀N,aF H N->Q (NI (yY c r)) N:=k;unfold yY at Y;rw[<-vm,<-vm,<-vm]at Y;refine⟨a,_,U,W.ins,i,_,U,.inr X.ins,U,qz _,aZ (λO=>?_) λO=>?_⟩
 all_goals
  rw[show iW (.int (c:Nat)) (r.ins.map NI)=_ from O]at Y
  first
  |refine⟨a,_,U,W.del,d,_,U,.inr X.del,U,qz _,aZ (λT=>?_) λT=>?_⟩
  |refine⟨a,_,U,W.del,d,_,U,.inr X.del,U,qz _,aZ (λT=>?_) λT=>?_⟩
  all_goals
   rw[show iW (.int (c:Nat)) (r.del.map NI)=_ from T]at Y
   first
   |refine⟨a,_,U,W.pend,p,_,U,X.pend,hz,λR J P S=>⟨R,_,U,.inl (aL.of P),U,qz _,aZ (λV=>?_) λV=>?_⟩⟩
   |refine⟨a,_,U,W.pend,p,_,U,X.pend,hz,λR J P S=>⟨R,_,U,.inl (aL.of P),U,qz _,aZ (λV=>?_) λV=>?_⟩⟩
   all_goals
    rw[show iW (.int (c:Nat)) ((r.pend.map (·.change)).map NI)=_ from V]at Y
    first
    |exact(Y _ S)
    |exact(Y _ S)
def Iy:Sc ["pending","values","entry"] 1 14:=by walk_at"s"
noncomputable def gd(ps:List cW):List (Nat×Nat):=ps.foldl (λl y=>ab.f_ l y.prop y.value) []
def Jm(ps:List cW)(y:cW):gd (ps++[y])=ab.f_ (gd ps) y.prop y.value:=by unfold gd;rw[wQ];rfl
def ag_(ps:List cW):(gd ps).length<=ps.length:=by refine ab.v' (P:=λps=>(gd ps).length<=ps.length) (bp _) (λl a Z=>?_) ps;rw[Jm,bb];have:=ab.Pr (gd l) a.prop a.value;simp only[DG];lia
def Jn(ps:List cW)(k:Nat):ab.bU (gd ps) k=((ps.filter λy=>y.prop==k).getLast?).map (·.value):=by
 refine ab.v' (P:=λps=>ab.bU (gd ps) k=((ps.filter λy=>y.prop==k).getLast?).map (·.value)) U (λl a Z=>?_) ps;rw[Jm,ab.Rh,ku,gv,t_];by_cases e:a.prop=k
 .subst e;rw[aA U,aA (by simp),rH];rfl
 .rw [ay (λz=>e z.symm),ay ‹e›,ee];exact Z
def t7(K:aw)(H:Hp)(a:ae)(ps:List cW):Prop:=∃zs:List (ae×List Nat),zs.map (·.2)=ps.map eX/\(aL K H a (zs.map rf)\/aY K H a (zs.map rf))/\∀z∈zs,dF K H z.1 z.2
def t7.of{ps:List cW}(h:rR K H a ps):t7 K H a ps:=let⟨zs,h0,Y,Z⟩:=h;⟨zs,h0,.inr Y,Z⟩
inductive afT(K:aw)(vs:List V)(H:Hp)(Q:VK)(_:XK):Prop|mk(a ps:_)(_:vs=[.ref a])(_:t7 K H a ps)(_:ps.length<aS)(_:∀d H',H' d=aa (.dK (dv NI (gd ps)))->H d=aj->aF H H'->Q (.ref d) H')
def Hm:Cz Z "values_pending" ["pending"] 1 (afT K):=by
 refine Z.VZ.ok Iy λf u l outer s H t Q E G h=>?_;obtain⟨a,ps,rfl,⟨zs,L,F,v⟩,hz,k⟩:=h;have el:zs.length=ps.length:=by have:=b_ fo L;simpa using this
 refine⟨_,(aH (qS 1 Iy.nd (tL)) (aH (eU eK U (acP (pv 0)) (qG 2 Iy.nd) (aO (yO (il G) (pv 1) (qT K (pv 2) aU) (qT K (pv 2) aU) U))) (aO (bc (pv 1))))),?_⟩;refineλd nd=>?_;have P:aL K (aM H d (.dK [])) a (zs.map rf)\/aY K (aM H d (.dK [])) a (zs.map rf):=by
  have Y:=bg (o:=.dK []) nd;rcases F with q|q
  .exact .inl (Y.seq q)
  .exact .inr (dS (Y.le 0) q)
 refine⟨a,_,U,P,λJ W=>eP W (λi T V=>(∃x,T=[aa (.ref a),aa (.ref d),x])/\V d=aa (.dK (dv NI (gd (ps.take i))))/\aF H V) ⟨⟨aj,U⟩,aJ,bg nd⟩ ?_ ?_ ?_⟩
 .rintro i T V ⟨_,_,Y⟩ o e ne
  by_cases q:a=d
  .subst q;rw[aJ]at e;cases e;exact bq U (ne [])
  .rw [a_ q]at e;exact Y _ _ e
 .rintro i x T m n w S N B kn r M ⟨⟨y,rfl⟩,hd,Y⟩ I
  obtain⟨z,X,rfl⟩:=iJ I;refine M ?_;have C:=ck X;obtain⟨p,D,O⟩:∃y,ps[i]?=aa y/\eX y=z.2:=iJ (by rw[<-L,cf,X];rfl);have R:=(v z C).up ((Y.trans S).le 0);rw[<-O]at R;have A:(gd (ps.take i)).length<aS:=by have:=ag_ (ps.take i);have:=ub i ps;rw[aP,el]at w;lia
  refine⟨z.1,_,2,_,U,U,R,bt (j:=2) U,z.1,_,1,_,U,U,R,bt (j:=1) U,d,_,U,lp.k (k:=.inl (p.prop:Int)) (S _ _ hd) (by rw[qw];exact A),kn _ _ ⟨⟨_,U⟩,?_,tT (Y.trans S) nd⟩⟩;rw[aJ,dU D,Jm];exact b_ (λz=>aa (HO.dK z)) (xT NI _ p.prop p.value)
 .rintro T V M ⟨⟨y,rfl⟩,hd,Y⟩
  refine M ?_;rw[aP,el,eJ]at hd;exact(k d V hd nd Y)
def Ip:Sc ["look","values","k"] 2 15:=by walk_at"s"
inductive afh(K:aw)(vs:List V)(H:Hp)(Q:VK)(_:XK):Prop|mk(b d look ps:_)(_:vs=[.ref b,.ref d])(_:dF K H b look)(_:look.length=4)(_:DN NI H d ps)(_:∀t H',dF K H' t (ab.d7 (ab.bU ps) look)->aF H H'->Q (.ref t) H')
def OF:Cz Z "look_with" ["look","values"] 1 (afh K):=by
 refine Z.Vr.ok Ip λf I u outer s H F Q E P h=>?_;obtain⟨b,d,look,ps,rfl,M,C,hd,k⟩:=h;refine⟨_,(aO (bc (kZ (r:=pP K) qv U Z.qR rT (ai (hU U Ip.nd (qJ K (vL U Z.WZ)) (fw (N:=["look","values","k"]) (sc:=cF (bo 15)) (own:=[("k",2)]) ‹_›) (λ_ _ _ _ _=>(qG 2 Ip.nd)) (λ_ _ _ _ _=>jE) (λ_ _ _ _ _=>(Hy (il P) (pv 1) (pv 2) (qT K (pv 0) (pv 2)) ⟨U,U,U,U⟩))) aq)))),?_⟩;refine⟨A.props,U,⟨_,Z.props H⟩,λD L=>fJ [0,1,2,3] (λ_=>ah) (λk=>NI ((ab.bU ps k).getD (look.getD k 0))) (ki (v:=NI)) (λX Y=>Z.props X) L (by show 4<=aS;decide) ?_ λX Y O=>?_⟩
 .rintro n z x X B w hz Y R _ J ⟨G,W,rfl⟩
  cases hz.symm.trans W;refine J ?_;have V:z<look.length:=by have:=ck hz;simp at this;lia
  obtain⟨y,T⟩:∃y,look[z]?=aa y:=⟨_,dC V⟩;refine⟨U,d,U,(hd.up Y).Gd,b,_,_,_,U,U,M.up (Y.le 0),bt (j:=z) (by rw[cf,T];rfl),_,(hd.up Y).get z,?_⟩;have:=R U X (aF.refl _);rw[wR,T]at this;cases q:ab.bU ps z with
  |none=>rw[q]at this;exact this
  |some v=>rw[q]at this;exact this
 .refine ⟨D,_,U,.inl ⟨aL.of O,λt S=>?_⟩⟩;refine k t _ ?_ (Y.trans (bg S));refine aY.of ?_;rw[aJ];rfl
def zd:Sc ["looks","values","changed","look"] 2 16:=by walk_at"s"
inductive afi(K:aw)(vs:List V)(H:Hp)(Q:VK)(_:XK):Prop|mk(a d xs ps:_)(_:vs=[.ref a,.ref d])(_:kG K H a xs)(_:(∀x∈xs,x.length=4))(_:xs.length<aS)(_:H d=aa (.dK (dv NI ps)))(_:∀t H',kG K H' t (xs.map (ab.d7 (ab.bU ps)))->aF H H'->Q (.ref t) H')
def Hk:Cz Z "looks_with" ["looks","values"] 2 (afi K):=by
 refine Z.Vs.ok zd λf eA Ar outer s H vs Q E hr h=>?_;obtain⟨a,d,xs,ps,rfl,ha,h4,hz,hd,k⟩:=h;obtain⟨zs,e0,h1,h2⟩:=id ha;have el:zs.length=xs.length:=by have:=b_ fo e0;simpa using this
 refine⟨_,(aH (bO (cK dI (qN K Z.eQ (ai (pv 1) aq)) aU (cB _)) (aO (bc (pv 0))) bX) (aH (qS 2 zd.nd (Hz (yp P w K))) (aH (eU eK U (qJ K (pv 0)) (qG 3 zd.nd) (aO (bO (yP (ack (yp P w K) hr.units (pv 3) (pv 2))) (aO (HH (yp P w K) hr.units (pv 2) (pv 3) (qF (OF Z:) hr (ai (pv 3) (ai (pv 1) aq))) U)) bX))) (aO (bc (kZ (r:=pP K) qv U Z.qR rT (ai (hU U zd.nd (qJ K (pv 0)) (fw (N:=["looks","values","changed","look"]) (sc:=cF (bo 16)) (own:=[("look",3)]) ‹_›) (λ_ _ _ _ _=>(qG 3 zd.nd)) (λ_ _ _ _ _=>jE) (λ_ _ _ _ _=>(vM (yp P w K) hr.units (pv 2) (pv 3) (λ_ _=>rfl)))) aq))))))),?_⟩;refine⟨d,_,U,DN.bG hd,U,aZ (λO=>?_) λO=>?_⟩
 .have e:ps=[]:=by
   have:=cQ O;injection this with this;exact gh.mp (by lia)
  subst e;refine(k a H ?_ (aF.refl _));have:xs.map (ab.d7 (ab.bU []))=xs:=by
   conv=>rhs;rw[<-kx xs]
   exact gY λx X=>ab.Gw (h4 x X)
  rw[this];exact ha
 .refine λc H0 nc m0 s0=>?_;refine⟨a,U,⟨_,dS (s0.le 0) h1⟩,eP (ki (zs:=zs) (v:=rf)) (λi j m=>(∃x,j=[aa (.ref a),aa (.ref d),aa (.ref c),x])/\aF H m/\∃l,MD (yp P w K) m c l/\l.length<=i/\(∀x∈xs.take i,(df l x).isSome=ah)/\∀x v,df l x=aa v->∃t,v=.ref t/\dF K m t (ab.d7 (ab.bU ps) x)) ⟨⟨aj,U⟩,s0,[],m0,bp _,by simp,λx v q=>by cases q⟩ (λi j m j0=>dS (j0.2.1.le 0) h1) ?_ ?_⟩
  .rintro i x j H1 p hi Y N B kn kb gz ⟨⟨y,rfl⟩,R,l,M,hl,hk,g⟩ ⟨z,W,rfl⟩
   refine gz ?_;have S:=ck W;have V:xs[i]?=aa z.2:=by rw[<-e0,cf,W];rfl
   have T:=R.trans Y;have F:=(h2 z S).up (T.le 0);have yf:=h4 z.2 (ck V);refine⟨c,z.1,l,z.2,U,U,M.same Y,F,aZ (λO=>?_) λO=>?_⟩
   .refine ⟨z.1,d,z.2,ps,U,F,yf,.inl (T _ _ hd),λt H3 h3 L=>?_⟩;refine⟨c,z.1,l,z.2,U,U,M.same (Y.trans L),F.up (L.le 0),by lia,λH4 m4 k4=>?_⟩;have sH:aF H H4:=λb o e=>k4 b o ((T.trans L) b o e) (λq=>by rw[q,nc]at e;cases e);have J:Le 0 H3 H4:=λb o e f=>k4 b o e (λq=>by
     subst q;obtain⟨od,_,_,_,_,q1,_⟩:=M.same (Y.trans L);rw[q1]at e;cases e;exact f)
    refine kn _ _ ⟨⟨_,U⟩,sH,_,m4,c7 (qP _ _ _) (J7 hl),λx X=>?_,λx v q=>?_⟩
    .rw [Dd];split
     .rfl
     .rw [dU V]at X;rcases cZ.mp X with X|X
      .exact hk x X
      .rename_i q;exact bq ‹X› q
    .rw [Dd]at q;by_cases e:x=z.2
     .rw [aA e]at q;cases q;exact⟨t,U,by rw[e];exact h3.up J⟩
     .rw [ay e]at q;obtain⟨t',u,A⟩:=g x v q;exact⟨t',u,(A.up ((Y.trans L).le 0)).up J⟩
   .refine kn _ _ ⟨⟨_,U⟩,T,l,M.same Y,Nat.le_succ_of_le hl,λx X=>?_,λx v q=>?_⟩
    .rw [dU V]at X;rcases cZ.mp X with X|X
     .exact hk x X
     .have:x=z.2:=‹X›
      subst this;cases q:(df l z.2).isSome with
      |true=>rfl
      |false=>rw[q]at O;cases O
    .obtain ⟨t',u,A⟩:=g x v q;exact⟨t',u,A.up (Y.le 0)⟩
  .rintro j m gz ⟨⟨y,rfl⟩,R,l,M,hl,hk,g⟩
   refine gz ?_;rw[el,eJ]at hk;refine⟨a,U,⟨_,dS (R.le 0) h1⟩,λD hD=>Gp zs (λ_=>ah) (λz y H=>∃t,y=.ref t/\dF K H t (ab.d7 (ab.bU ps) z.2)) ki (λp Y=>dS ((R.trans Y).le 0) h1) hD (by lia) (λz y p H3 ⟨t,u,A⟩ Y ⟨_,xX⟩ kp=>⟨t,u,A.up (jz (C:=0) xX kp)⟩) ?_ λp ys Y nZ pr=>?_⟩
   .rintro n z x p Qx Qn W Y ⟨z',pH,rfl⟩ _ k1 _
    cases W.symm.trans pH;have S:=ck W;have V:z.2∈xs:=by rw[<-e0];exact bA.mpr ⟨z,S,U⟩
    have F:=(h2 z S).up ((R.trans Y).le 0);obtain⟨v,I⟩:=rP.mp (hk z.2 V);obtain⟨t,rfl,YV⟩:=g _ _ I;exact⟨U,c,z.1,l,z.2,_,U,U,M.same Y,F,I,k1 U _ _ (aF.refl _) ⟨t,U,YV.up (Y.le 0)⟩⟩
   .refine ⟨D,_,U,.inl ⟨aL.of nZ,λt nt=>?_⟩⟩;have sq:=(R.trans Y).trans (bg (o:=.bh ys) nt);refine k t _ ?_ sq;obtain⟨ws,w1,w2,w3⟩:=O1 (f:=λz:ae×List Nat=>ab.d7 (ab.bU ps) z.2) (G:=λt x=>dF K p t x) pr;refine⟨ws,?_,aY.of (by rw[aJ,w2]),λz hz=>(w3 z hz).up ((bg (o:=.bh ys) nt).le 0)⟩;rw[w1,show(zs.filter λ_=>ah)=zs by simp,<-e0,bR];rfl
def AO{m n:Nat}(Y:m<=n)(Z:n<=xs.length):fi xs (aa (m:Int)) (aa (n:Int))=(xs.drop m).take (n-m):=by unfold fi;rw[HT.Ct,HT.Ct,zN Z,zN (c7 Y Z)]
def aeB(r:ab.ak)(c:Nat×List Nat):gL (r.bz c)=ab.d7 (ab.bU (gd r.pend)) c.2:=by unfold gL ab.d7;apply gY;intro k _;rw[Jn];show lG (r.bz c) k=_;unfold lG;show(match(r.pend.filter λy=>y.prop==k).getLast? with|some y=>y.value|none=>c.2.getD k 0)=_;cases(r.pend.filter λy=>y.prop==k).getLast?<;>rfl
def aeb:Sc ["run","index"] 2 17:=by walk_at"s"
inductive afg(K:aw)(C:ae)(vs:List V)(H:Hp)(Q:VK)(_:XK):Prop|mk(a r c:_)(i:Nat)(_:vs=[.ref a,.int i])(_:eD K C H a r)(_:r.cells[i]?=aa c)(_:c.2.length=4)(_:r.pend.length<aS)(_:∀t H',dF K H' t (gL (r.bz c))->aF H H'->Q (.ref t) H')
def OE:Cz Z "look_as_shown" ["run","index"] 2 (afg K A.cr):=by refine Z.Vo.ok aeb λf D w outer s H B Q E T h=>?_;obtain⟨a,r,c,i,rfl,⟨X,l,y,d,p,S,V⟩,M,L,hz,k⟩:=h;obtain⟨zs,G,O,P⟩:=V.gF;obtain⟨z,Y,W⟩:∃z,zs[i]?=aa z/\z.2=c.2:=iJ (by rw[G,cf,M];rfl);have N:=P z (ck Y);refine⟨_,(aO (bc (qF (OF Z:) T (ai (qT K (aX Z.bS Z.m7 (pv 0)) (pv 1)) (ai (qF (Hm Z:) T (ai (aX Z.bS Z.jG (pv 0)) aq)) aq))))),?_⟩;refine⟨a,_,U,S.gF,l,_,_,_,U,U,O,bt (j:=i) (by rw[cf,Y];rfl),a,_,U,S.pend,p,r.pend,U,t7.of V.pend,hz,λF x I n1 X=>?_⟩;refine⟨z.1,F,c.2,gd r.pend,U,by rw[<-W];exact N.up (X.le 0),L,.inl I,λt C J R=>k t C ?_ (X.trans R)⟩;rw[aeB];exact J
def aee:Sc ["run","start","end"] 3 18:=by walk_at"s"
inductive afs(K:aw)(C:ae)(vs:List V)(H:Hp)(Q:VK)(_:XK):Prop|mk(a r:_)(m n:Nat)(_:vs=[.ref a,.int m,.int n])(_:eD K C H a r)(_:m<=n)(_:n<=r.cells.length)(_:∀b H',eD K C H' b (r.part m n)->aF H H'->Q (.ref b) H')
def UC{xs:List (List Nat)}(V:zs.map (·.2)=xs)(W:∀z∈zs,dF K H z.1 z.2)(Z:aF H H'){m n:Nat}(X:m<=n)(Y:n<=xs.length)(h:aY K H' p (fi (zs.map rf) (aa (m:Int)) (aa (n:Int)))):kG K H' p ((xs.drop m).take (n-m)):=by subst V;refine⟨(zs.drop m).take (n-m),by rw[ly,lx],?_,λz hz=>(W z (rK (nz hz))).up (Z.le 0)⟩;rw[AO X ‹Y›]at h;rw[ly,lx];exact h
def Hl:Cz Z "part_of" ["run","start","end"] 3 (afs K A.cr):=by
 refine Z.VB.ok aee λf z q outer s H v Q E F h=>?_;obtain⟨a,r,m,n,rfl,⟨M,l,i,d,p,R,V⟩,O,P,k⟩:=h;refine⟨_,(aO (bc (m6 (qW Z:) (F.mono (by decide)) U (ai (oh (r:=yW K) CM (aX Z.bS Z.gr (pv 0)) (kc (pv 1)) (kc (pv 2))) (ai (oh (r:=yW K) CM (aX Z.bS Z.m7 (pv 0)) (kc (pv 1)) (kc (pv 2))) (ai (aX Z.bS Z.jF (pv 0)) (ai (aX Z.bS Z.lZ (pv 0)) (ai (aX Z.bS Z.jG (pv 0)) aq)))))))),?_⟩;have S:fi ((r.cells.map (·.1)).map NI) (aa (m:Int)) (aa (n:Int))=(((r.cells.drop m).take (n-m)).map (·.1)).map NI:=by rw[AO O ‹P›,ly,ly,lx,lx]
 obtain⟨zs,B,I,J⟩:=V.gF;refine⟨a,_,U,R.signs,M,_,U,aY.of V.signs,λu t _ C Y=>?_⟩;refine⟨a,_,U,(R.up (Y.le _)).gF,l,_,U,dS (Y.le 0) I,λG w D _ T=>?_⟩;have W:=Y.trans T;have X:=R.up (W.le _);refine⟨a,_,U,X.ins,a,_,U,X.del,a,_,U,X.pend,λx dx nx nd ne=>vv (r:=r.part m n) ⟨?_,?_,V.ins.up (W.le 0),V.del.up (W.le 0),V.pend.up (W.le 0)⟩ nx nd ne λb y L N=>k b y L (W.trans N)⟩
 .refine T _ _ ?_;rw[C V.signs,S];rfl
 .show kG K w G (((r.cells.drop m).take (n-m)).map (·.2));rw[ly,lx];exact UC B J W O ‹P› D
def aej:Sc ["run","m"] 2 19:=by walk_at"s"
inductive afW(K:aw)(C:ae)(vs:List V)(H:Hp)(Q:VK)(_:XK):Prop|mk(a r:_)(m:Nat)(_:vs=[.ref a,.int m])(_:eD K C H a r)(_:r.ins.length<aS)(_:∀b H',eD K C H' b {r with ins:=r.ins++[m]}->aF H H'->Q (.ref b) H')
def ab0:Cz Z "with_insertion" ["run","m"] 3 (afW K A.cr):=by refine Z.V1.ok aej λf I B outer s H D Q E L h=>?_;obtain⟨a,r,m,rfl,⟨C,l,i,d,p,S,V⟩,hz,k⟩:=h;refine⟨_,(aO (bc (m6 (qW Z:) (L.mono (by decide)) U (ai (aX Z.bS Z.gr (pv 0)) (ai (aX Z.bS Z.m7 (pv 0)) (ai (b6 (OL (X:=_)) (aX Z.bS Z.jF (pv 0)) (fB (ai (pv 1) aq))) (ai (aX Z.bS Z.lZ (pv 0)) (ai (aX Z.bS Z.jG (pv 0)) aq)))))))),?_⟩;refine⟨a,_,U,S.signs,a,_,U,S.gF,a,_,U,S.ins,by show 1<=aS;decide,λq N=>?_⟩;have W:=bg (o:=.bh [.int (m:Nat)]) N;refine⟨i,q,_,_,U,U,V.ins.up (W.le 0),aY.of aJ,by simp,by rw[aP];show r.ins.length+1<=aS;lia,λM F J R=>?_⟩;have Y:=W.trans R;have T:=S.up (Y.le _);refine⟨a,_,U,T.del,a,_,U,T.pend,λx dx nx nd ne=>vv (r:={r with ins:=r.ins++[m]}) ⟨Y _ _ V.signs,V.gF.up (Y.le 0),?_,V.del.up (Y.le 0),V.pend.up (Y.le 0)⟩ nx nd ne λb G O P=>k b G O (Y.trans P)⟩;show aY K F M ((r.ins++[m]).map NI);rw[cG];exact J
def aei:Sc ["run","m"] 2 20:=by walk_at"s"
inductive afV(K:aw)(C:ae)(vs:List V)(H:Hp)(Q:VK)(_:XK):Prop|mk(a r:_)(m:Nat)(_:vs=[.ref a,.int m])(_:eD K C H a r)(_:∀b H',eD K C H' b {r with del:=[m]}->aF H H'->Q (.ref b) H')
def OH:Cz Z "with_deletion" ["run","m"] 3 (afV K A.cr):=by refine Z.V0.ok aei λf O J outer s H M Q E P h=>?_;obtain⟨a,r,m,rfl,⟨L,l,i,d,p,W,X⟩,k⟩:=h;refine⟨_,(aO (bc (m6 (qW Z:) (P.mono (by decide)) U (ai (aX Z.bS Z.gr (pv 0)) (ai (aX Z.bS Z.m7 (pv 0)) (ai (aX Z.bS Z.jF (pv 0)) (ai (fB (ai (pv 1) aq)) (ai (aX Z.bS Z.jG (pv 0)) aq)))))))),?_⟩;refine⟨a,_,U,W.signs,a,_,U,W.gF,a,_,U,W.ins,by show 1<=aS;decide,λq R=>?_⟩;have Y:=bg (o:=.bh [.int (m:Nat)]) R;have V:=W.up (Y.le _);exact⟨a,_,U,V.pend,λx dx nx nd ne=>vv (r:={r with del:=[m]}) ⟨Y _ _ X.signs,X.gF.up (Y.le 0),X.ins.up (Y.le 0),aY.of aJ,X.pend.up (Y.le 0)⟩ nx nd ne λb N S T=>k b N S (Y.trans T)⟩
def aek:Sc ["run","m","k","value"] 4 21:=by walk_at"s"
inductive afX(K:aw)(C:ae)(vs:List V)(H:Hp)(Q:VK)(_:XK):Prop|mk(a r:_)(m j v:Nat)(_:vs=[.ref a,.int m,.int j,.int v])(_:eD K C H a r)(_:r.pend.length<aS)(_:∀b H',eD K C H' b {r with pend:=r.pend++[⟨m,j,v⟩]}->aF H H'->Q (.ref b) H')
def ab1:Cz Z "with_pending_look" ["run","m","k","value"] 3 (afX K A.cr):=by
 refine Z.V2.ok aek λf D n outer s H B Q E G h=>?_;obtain⟨a,r,m,j,v,rfl,⟨y,l,i,d,p,R,S⟩,hz,k⟩:=h;obtain⟨zs,P,L,M⟩:=S.pend;have el:zs.length=r.pend.length:=by have:=b_ fo P;simpa using this
 refine⟨_,(aO (bc (m6 (qW Z:) (G.mono (by decide)) U (ai (aX Z.bS Z.gr (pv 0)) (ai (aX Z.bS Z.m7 (pv 0)) (ai (aX Z.bS Z.jF (pv 0)) (ai (aX Z.bS Z.lZ (pv 0)) (ai (b6 (OL (X:=_)) (aX Z.bS Z.jG (pv 0)) (fB (ai (fB (ai (pv 1) (ai (pv 2) (ai (pv 3) aq)))) aq))) aq)))))))),?_⟩;refine⟨a,_,U,R.signs,a,_,U,R.gF,a,_,U,R.ins,a,_,U,R.del,a,_,U,R.pend,by show 3<=aS;decide,λq I=>?_⟩;have T:=bg (o:=.bh [.int (m:Nat),.int (j:Nat),.int (v:Nat)]) I;refine⟨by show 1<=aS;decide,λu J=>?_⟩;have Y:=bg (o:=.bh [.ref q]) J;refine⟨p,u,_,_,U,U,dS ((T.trans Y).le 0) L,aY.of aJ,by simp,by rw[aP];show zs.length+1<=aS;lia,λw t F V=>?_⟩;have W:=(T.trans Y).trans V;refineλx dx nx nd ne=>vv (r:={r with pend:=r.pend++[⟨m,j,v⟩]}) ⟨W _ _ S.signs,S.gF.up (W.le 0),S.ins.up (W.le 0),S.del.up (W.le 0),?_⟩ nx nd ne λb C N O=>k b C N (W.trans O);refine⟨zs++[(q,[m,j,v])],?_,?_,λz hz=>?_⟩
 .rw [cG,P,cG];rfl
 .rw [cG];exact F
 .rcases cZ.mp hz with hz|hz
  .exact (M z hz).up (W.le 0)
  .rw [bx]at hz;subst hz;exact aY.of (V _ _ (Y _ _ aJ))
def QV{p q:Prop}(h:p)(f:p->q):q:=f h
def eR(a b:Nat):decide (V.int (a:Nat)=V.int (b:Nat))=(a==b):=by
 by_cases e:a=b
 .subst e;simp
 .have Z:¬V.int (a:Nat)=V.int (b:Nat):=λz=>by injection z with z;exact e (t8 z)
  rw[cE Z];exact(fX.mpr e).symm
def Jx{ps:List cW}(Y:zs.map (·.2)=ps.map eX)(q:List Nat->Bool):(zs.filter λz=>q z.2).map (·.2)=(ps.filter λy=>q (eX y)).map eX:=by
 have Z:(zs.filter λz=>q z.2).map (·.2)=(zs.map (·.2)).filter q:=by rw[nk];rfl
 rw[Z,Y,nk];rfl
def ze:Sc ["run","k","value","looks","pending","entry"] 3 22:=by walk_at"s"
inductive afp(K:aw)(C:ae)(vs:List V)(H:Hp)(Q:VK)(_:XK):Prop|mk(a r:_)(j v:Nat)(_:vs=[.ref a,.int j,.int v])(_:eD K C H a r)(_:(∀c∈r.cells,c.2.length=4))(_:r.cells.length<aS)(_:r.pend.length<aS)(_:j<=3)(_:∀b H',eD K C H' b {r with cells:=r.cells.map λc=>(c.1,c.2.set j v),pend:=r.pend.filter λy=>!(y.prop==j)}->aF H H'->Q (.ref b) H')
def abF:Cz Z "painted_outright" ["run","k","value"] 3 (afp K A.cr):=by
 refine Z.Vz.ok ze λf eA Ar outer s H vs Q E q h=>?_;obtain⟨a,r,j,v,rfl,⟨s1,l,i,d,p,I,R⟩,m,hz,F9,hj,k⟩:=h;obtain⟨zs,G,C,F⟩:=R.pend;have el:zs.length=r.pend.length:=by have:=b_ fo G;simpa using this
 refine⟨_,(aH (qS 3 ze.nd (qF (Hk Z:) q (ai (aX Z.bS Z.m7 (pv 0)) (ai (acu (acV (pv 1) (pv 2) acW) U rfl (by simp) (by decide)) aq)))) (aH (qS 4 ze.nd (kZ (r:=pP K) qv U Z.qR rT (ai (hU U ze.nd (qJ K (aX Z.bS Z.jG (pv 0))) (fw (N:=["run","k","value","looks","pending","entry"]) (sc:=cF (bo 22)) (own:=[("entry",5)]) ‹_›) (λ_ _ _ _ _=>(qG 5 ze.nd)) (λ_ _ _ _ _=>(k0 (cK qZ (qT K (pv 5) aU) (pv 1) (cB _)))) (λ_ _ _ _ _=>(pv 5))) aq))) (aO (bc (m6 (qW Z:) (q.mono (by decide)) U (ai (aX Z.bS Z.gr (pv 0)) (ai (pv 3) (ai (aX Z.bS Z.jF (pv 0)) (ai (aX Z.bS Z.lZ (pv 0)) (ai (pv 4) aq)))))))))),?_⟩;refine⟨a,_,U,I.gF,λc nc=>⟨aJ,[(.inl (j:Int),NI v)],U,by show 1<=15;decide,?_⟩⟩;rw[fO];have T:=bg (o:=.dK (jB [] [(.inl (j:Int),NI v)])) nc;refine⟨l,c,r.cells.map (·.2),[(j,v)],U,R.gF.up (T.le 0),λx hx=>?_,by rw[aP];exact hz,aJ,λl2 H2 h2 O=>?_⟩
 .obtain ⟨y,J,rfl⟩:=bA.mp hx;exact m y J
 have S:=T.trans O;refine⟨a,_,U,(I.up (S.le _)).pend,p,U,⟨_,dS (S.le 0) C⟩,λD hD=>fJ zs (λz=>!(z.2.getD 1 0==j)) rf ki (λH' M=>dS ((S.trans M).le 0) C) hD (by lia) ?_ λH3 W hl=>?_⟩
 .rintro n z x H' Qx Qn hz M w B gz ⟨z',L,rfl⟩
  cases hz.symm.trans L;obtain⟨y,_,J⟩:∃y,r.pend[n]?=aa y/\eX y=z.2:=iJ (by rw[<-G,cf,hz];rfl);refine gz ?_;have u:=(F z (ck hz)).up ((S.trans M).le 0);rw[<-J]at u w B;refine⟨U,z.1,_,1,_,U,U,u,bt (j:=1) U,U,aZ (λP=>?_) λP=>?_⟩
  .rw [show(!decide (NI y.prop=V.int (j:Nat)))=_ from b_ not (eR y.prop j)]at P;exact(w P _ (aF.refl _))
  .rw [show(!decide (NI y.prop=V.int (j:Nat)))=_ from b_ not (eR y.prop j)]at P;exact B P _ (aF.refl _)
 .refine ⟨D,_,U,.inl ⟨aL.of hl,λt nt=>?_⟩⟩;have X:=bg (o:=.bh ((zs.filter λz=>!(z.2.getD 1 0==j)).map rf)) nt;have sa:=(S.trans W).trans X;have Y:=I.up (sa.le _);refine⟨a,_,U,Y.signs,a,_,U,Y.ins,a,_,U,Y.del,λx dx nx nd ne=>vv (r:={r with cells:=r.cells.map λc=>(c.1,c.2.set j v),pend:=r.pend.filter λy=>!(y.prop==j)}) ⟨?_,?_,R.ins.up (sa.le 0),R.del.up (sa.le 0),?_⟩ nx nd ne λb H4 rb s4=>k b H4 rb (sa.trans s4)⟩
  .rw [sa _ _ R.signs];show _=aa (HO.bh (((r.cells.map λc=>(c.1,c.2.set j v)).map (·.1)).map NI));rw[show(r.cells.map λc=>(c.1,c.2.set j v)).map (·.1)=r.cells.map (·.1) by rw[bR];rfl]
  .have g:=h2.up ((W.trans X).le 0);have e:(r.cells.map (·.2)).map (ab.d7 (ab.bU [(j,v)]))=(r.cells.map λc=>(c.1,c.2.set j v)).map (·.2):=by
    rw[bR,bR];apply gY;intro c hc;show ab.d7 (ab.bU [(j,v)]) c.2=c.2.set j v
    conv=>rhs;rw[<-ab.Gw (m c hc)]
    rw[ab.NO hj];congr 1;funext x;unfold ab.IA ab.bU;rw[iO];by_cases e:x=j
    .subst e;simp
    .rw [ay e,cE (λz=>e z.symm)];rfl
   rw[e]at g;exact g
  .exact ⟨_,Jx G (λx=>!(x.getD 1 0==j)),aY.of aJ,λz hz=>(F z (d4.mp hz).1).up (sa.le 0)⟩
def pU:Sc ["run","m","k","value","pending","showing","look","runs","start","end","part"] 4 23:=by walk_at"s"
inductive afq(K:aw)(C:ae)(vs:List V)(H:Hp)(Q:VK)(_:XK):Prop|mk(a r:_)(d:fV)(j v:Nat)(_:vs=[.ref a,.int (dH d:Nat),.int j,.int v])(_:eD K C H a r)(_:(∀c∈r.cells,c.2.length=4))(_:r.cells≠[])(_:r.cells.length<2^24)(_:r.pend.length<aS)(_:j<=3)(_:r.shown=ah)(_:¬r.outright d=ah)(_:∀l rs H',bF K C H' l rs->ab.bP rs->ab.ao rs=r.ao.flatMap (ab.d6 λx=>[fG d j v x])->H l=aj->aF H H'->Q (.ref l) H')
def abG:Cz Z "painted_tracked" ["run","m","k","value"] 4 (afq K A.cr):=by
 refine Z.VA.ok pU λf eA Ar outer s H vs Q E hr h=>?_;obtain⟨a,r,d,j,v,rfl,vi,h4,iU,hz,F9,hj,pE,FI,k⟩:=h;obtain⟨s1,l,i,dd,p,ho,hv⟩:=id vi;obtain⟨zs,e0,q1,q2⟩:=hv.gF;have el:zs.length=r.cells.length:=by have:=b_ fo e0;simpa using this
 have YQ:(2:Nat)^24<=aS:=by decide
 refine⟨_,(aH (qS 4 pU.nd (qF (Hm Z:) hr (ai (aX Z.bS Z.jG (pv 0)) aq))) (aH (rg U pU.nd (i:=5) U rfl (rm U rfl rfl rfl) (qJ K (aX Z.bS Z.m7 (pv 0))) (fw (N:=["run","m","k","value","pending","showing","look","runs","start","end","part"]) (sc:=cF (bo 23)) (own:=[("look",6)]) ‹_›) (λ_ _ _ _ _=>(qG 6 pU.nd)) (λ_ _ _ _ _=>jE) (λ_ _ _ _ _=>(lW dI (Hy (il hr) (pv 4) (pv 2) (qT K (pv 6) (pv 2)) ⟨U,U,U,U⟩) (pv 3) (cB _)))) (aH (qS 7 pU.nd (b9 aq)) (aH (qS 8 pU.nd aU) (aH (eU eK U (acN U Z.aaJ (ai aU (ai (b6 f9 (qN K Z.eQ (ai (pv 5) aq)) aU) aq))) (qG 9 pU.nd) (aO (bO (PW.pt (vQ (cK dI (pv 9) (qN K Z.eQ (ai (pv 5) aq)) (cB _)) (vR (cK qZ (qL K (pv 5) (pv 9)) (qL K (pv 5) (pv 8)) (cB _))))) (aH (qS 10 pU.nd (qF (Hl Z:) hr (ai (pv 0) (ai (pv 8) (ai (pv 9) aq))))) (aH (eT (fA fQ jQ kz j6 (pv 7) (ai (HD (d_ (qL K (pv 5) (pv 8))) (pv 10) (qF (ab1 Z:) hr (ai (pv 10) (ai (pv 1) (ai (pv 2) (ai (pv 3) aq)))))) aq))) (aO (qS 8 pU.nd (pv 9))))) bX))) (aO (bc (pv 7)))))))),?_⟩;refine⟨a,_,U,ho.pend,p,r.pend,U,t7.of hv.pend,F9,λc H1 t n1 P=>?_⟩;refine⟨a,_,U,(ho.up (P.le _)).gF,l,U,⟨_,dS (P.le 0) q1⟩,λD hD=>fJ zs (λ_=>ah) (λz=>.bl ((ab.bU (gd r.pend) j).getD (z.2.getD j 0)==v)) ki (λH' s3=>dS ((P.trans s3).le 0) q1) hD (by lia) ?_ λH3 l_ hl=>?_⟩
 .rintro n z x H' Qx Qn Nl s3 k1 _ gz ⟨z',pH,rfl⟩
  cases Nl.symm.trans pH;refine gz ?_;have hm:=ck Nl;have ht:=(q2 z hm).up ((P.trans s3).le 0);have hz4:z.2.length=4:=by
   have:z.2∈r.cells.map (·.2):=by rw[<-e0];exact bA.mpr ⟨z,hm,U⟩
   obtain⟨c,hc,e⟩:=bA.mp this;rw[<-e];exact h4 c hc
  obtain⟨y,hy⟩:∃y,z.2[j]?=aa y:=⟨_,dC (by lia)⟩;have hd:DN NI H' c (gd r.pend):=.inl (s3 _ _ t);refine⟨U,c,U,hd.Gd,z.1,_,_,_,U,U,ht,bt (j:=j) (by rw[cf,hy];rfl),_,hd.get j,?_,?_⟩
  .cases ab.bU (gd r.pend) j<;>rfl
  .have:=k1 U H' (aF.refl _);rw[wR,hy]at this;rw[<-eR]at this;cases q:ab.bU (gd r.pend) j with
   |none=>rw[q]at this;exact this
   |some u=>rw[q]at this;exact this
 .obtain ⟨Y,C⟩:∃Y:Nat×List Nat->Bool,Y=λc=>((ab.bU (gd r.pend) j).getD (c.2.getD j 0)==v):=⟨_,U⟩;have YU:∀c∈r.cells,(lG (r.bz c) j=v)↔Y c=ah:=λc hc=>by
   rw[C,Jn];show(match(r.pend.filter λy=>y.prop==j).getLast? with|some y=>y.value|none=>c.2.getD j 0)=v↔_;cases(r.pend.filter λy=>y.prop==j).getLast?<;>simp
  have nZ:H3 D=aa (.aC (r.cells.map λc=>.bl (Y c))):=by
   rw[hl,show(zs.filter λ_=>ah)=zs by simp];have e:(zs.map λz=>V.bl ((ab.bU (gd r.pend) j).getD (z.2.getD j 0)==v))=(zs.map (·.2)).map λx=>V.bl ((ab.bU (gd r.pend) j).getD (x.getD j 0)==v):=by rw[bR];rfl
   rw[e,e0,bR,C];rfl
  have sm:=P.trans l_;refine⟨cN _,λR nR=>⟨D,_,U,dB.ls ((bg nR) _ _ nZ),_,_,U,?_,?_⟩⟩
  .rw [aP];lia
  have en:(((r.cells.map λc=>V.bl (Y c)).length:Int)+1-1).toNat=r.cells.length:=by rw[aP];lia
  rw[en];obtain⟨F,hF⟩:∃F:aE->List aE,F=ab.d6 λx=>[fG d j v x]:=⟨_,U⟩;obtain⟨Pv,M⟩:∃Pv:Nat->L2.St->Hp->Prop,Pv=λn σ H'=>∃(st:Nat) (x9 T:Option V) (ys:List (ae×ab.ak)),σ=[aa (.ref a),aa (.int (dH d:Nat)),aa (.int j),aa (.int v),aa (.ref c),aa (.ref D),aj,aa (.ref R),aa (.int st),x9,T]/\aF H3 H'/\H' R=aa (.aC (ys.map rf))/\xB K A.cr H' ys/\ab.bP (ys.map (·.2))/\
   ab.ao (ys.map (·.2))=((r.cells.take st).map r.bz).flatMap F/\ys.length<=n/\(n<r.cells.length->st<=n/\∀m,st<=m->m<=n->∀c c',r.cells[m]?=aa c->r.cells[st]?=aa c'->Y c=Y c')/\(n=r.cells.length->st=r.cells.length):=⟨_,U⟩
  have M8:0<r.cells.length:=R5.mpr iU;refine eP ahj Pv ?_ (λ_ _ _ _=>trivial) (λn x σ H4 H5 hn s5 N B kn kb gz hp hx=>?_) λσ H4 gz hp=>?_
  .rw [M];refine⟨0,aj,aj,[],U,bg nR,aJ,λz hz=>by simp at hz,λz hz=>by simp at hz,U,bp _,λ_=>⟨bp _,λm h1 h2 c c' t w=>?_⟩,λe=>by lia⟩;have:m=0:=by lia
   subst this;cases t.symm.trans w;rfl
  .rw [M]at hp;obtain⟨st,x9,T,ys,F_,s4,hR,S,X,W,j3,X5,_⟩:=hp;obtain⟨iH,M3⟩:=X5 hn;subst F_;have ex:(1+(n:Int))=((n+1:Nat):Int):=by lia
   rw[ex]at hx;subst hx;refine gz ?_;have J:=s4.trans s5;have I:=J _ _ nZ;have O:=s5 _ _ hR;obtain⟨cs,sY⟩:∃cs,r.cells[st]?=aa cs:=⟨_,dC (by lia)⟩;have Mo:(r.cells.map λc=>V.bl (Y c))[st]?=aa (.bl (Y cs)):=by rw[cf,sY];rfl
   have ahP:((r.cells.drop st).take (n+1-st))=(r.part st (n+1)).cells:=rfl;have hb:∀c∈(r.cells.drop st).take (n+1-st),(lG (r.bz c) j=v)↔Y cs=ah:=λc hc=>by
    obtain⟨m,hm⟩:=DD hc;have Yj:m<n+1-st:=by have:=gE hm;rw[iz]at this;lia
    rw[RZ Yj,List.getElem?_drop]at hm;rw[YU c (ck hm),M3 (st+m) (by lia) (by lia) c cs hm sY]
   have G:∀(b:ae) (g:Hp) (x9 T:Option V),eD K A.cr g b (ab.pO d j v r ((r.cells.drop st).take (n+1-st)) (Y cs))->aF H5 g->
    Pv (n+1) [aa (.ref a),aa (.int (dH d:Nat)),aa (.int j),aa (.int v),aa (.ref c),aa (.ref D),aj,aa (.ref R),aa (.int (n+1:Nat)),x9,T] (aM g R (.aC (ys.map rf++[.ref b]))):=λb g x9 T YF L=>by
    rw[M];have Xk:=L _ _ O;have le:Le A.cr g (aM g R (.aC (ys.map rf++[.ref b]))):=jz Xk λb o e hb=>by rw[a_ hb];exact e
    have ya:(ab.pO d j v r ((r.cells.drop st).take (n+1-st)) (Y cs)).cells=(r.cells.drop st).take (n+1-st):=by unfold ab.pO;split<;>rfl
    refine⟨n+1,x9,T,ys++[(b,ab.pO d j v r ((r.cells.drop st).take (n+1-st)) (Y cs))],U,λb o e=>?_,?_,λz hz=>?_,?_,?_,?_,λ_=>⟨bp _,λm h1 h2 c c' t w=>?_⟩,λe=>e⟩
    .have hb:b≠R:=λq=>by rw[q,nR]at e;cases e
     rw[a_ hb];exact L _ _ (J _ _ e)
    .rw [aJ,cG];rfl
    .rcases cZ.mp hz with hz|hz
     .exact ((S z hz).up ((s5.trans L).le _)).up le
     .rw [bx]at hz;subst hz;exact YF.up le
    .rw [cG];refine ab.iG X λz hz=>?_;have:z=ab.pO d j v r ((r.cells.drop st).take (n+1-st)) (Y cs):=‹hz›
     subst this;rw[ya];intro q;have:=b_ fo q;rw[iz,jN]at this;simp at this;lia
    .rw [cG,ab.ik,W];have w:=ab.acf d j v r pE FI ((r.cells.drop st).take (n+1-st)) (Y cs) hb;rw[uc,w,<-hF,<-gw,<-cG];congr 2;have e3:n+1=st+(n+1-st):=by lia
     conv=>rhs;rw[e3,List.take_add]
    .rw [bb];show ys.length+1<=n+1;lia
    .have:m=n+1:=by lia
     subst this;cases t.symm.trans w;rfl
   refine QV ?_ λbody=>⟨D,_,U,dB.ls I,U,aZ (λ_=>body) λh1=>?_⟩
   .refine ⟨a,r,st,n+1,U,vi.up ((sm.trans J).le _),by lia,by lia,λb g Mt L=>?_⟩;refine⟨.inl ⟨U,_,aL.of (L _ _ O)⟩,D,_,_,_,U,U,aL.of (L _ _ I),bt Mo,aZ (λkQ=>?_) λkQ=>?_⟩
    .rw [kQ]at G;refine⟨R,_,_,U,U,L _ _ O,by rw[aP];lia,?_⟩;exact(kn _ _ (G b g _ _ Mt L))
    .rw [kQ]at G;refine⟨b,r.part st (n+1),_,j,v,U,Mt,F9,λb2 H7 Xv s7=>?_⟩;refine⟨R,_,_,U,U,s7 _ _ (L _ _ O),by rw[aP];lia,?_⟩;exact(kn _ _ (G b2 H7 _ _ Xv (L.trans s7)))
   .have Yr:n+1≠r.cells.length:=λq=>by
     rw[aP]at h1;have:=fh h1;exact this (by rw[q])
    obtain⟨cn,Bb⟩:∃cn,r.cells[n+1]?=aa cn:=⟨_,dC (by lia)⟩;have gn:(r.cells.map λc=>V.bl (Y c))[n+1]?=aa (.bl (Y cn)):=by rw[cf,Bb];rfl
    refine⟨D,_,_,_,U,U,aL.of I,bt gn,D,_,_,_,U,U,aL.of I,bt Mo,U,aZ (λ_=>body) λh2=>?_⟩;have he:Y cn=Y cs:=by
     have h3:decide (V.bl (Y cn)=V.bl (Y cs))=ah:=by
      cases q:decide (V.bl (Y cn)=V.bl (Y cs))with
      |true=>rfl
      |false=>rw[q]at h2;cases h2
     have:=cQ h3;injection this
    refine kn _ _ ?_;rw[M];refine⟨st,_,T,ys,U,J,O,vX S (s5.le _),X,W,by lia,λlQ=>⟨by lia,λm h3 h4 c c' t w=>?_⟩,λq=>bq q Yr⟩;by_cases q:m=n+1
    .subst q;cases t.symm.trans Bb;cases w.symm.trans sY;exact he
    .exact M3 m h3 (by lia) c c' t w
  .rw [M]at hp;obtain⟨st,x9,T,ys,F_,s4,hR,S,X,W,j3,_,XS⟩:=hp;have:=XS U;subst this F_;refine gz ?_;refine(k R (ys.map (·.2)) H4 ⟨ys,U,hR,S⟩ X ?_ (sm.free nR) (sm.trans s4));rw[W,eJ,hF];rfl
structure cM (n:Nat) (rs:List ab.ak):Prop where
 bN:ab.bP rs
 wf:∀x∈ab.ao rs,ab.cX n x
 pW:(ab.ao rs).length<7000000
 dh:n<=500
theorem cM.bz{n:Nat}{rs:List ab.ak}(h:cM n rs){r:ab.ak}(Z:r∈rs):∀c∈r.cells,ab.cX n (r.bz c):=λc Y=>h.wf _ (ab.oa.mpr ⟨r,Z,c,Y,U⟩)
theorem cM.aT{n:Nat}{rs:List ab.ak}(h:cM n rs){r:ab.ak}(Z:r∈rs):r.aT.Ok n:=by obtain⟨c,Y⟩:=wN _ (h.bN r Z);exact(h.bz Z c Y).aT
theorem cM.look{n:Nat}{rs:List ab.ak}(h:cM n rs){r:ab.ak}(Z:r∈rs):∀c∈r.cells,c.2.length=4:=λc Y=>(h.bz Z c Y).look
theorem cM.bG{n:Nat}{rs:List ab.ak}(h:cM n rs):rs.length<7000000:=mv h.bN.bG h.pW
def NK{l:List Nat}{a:Nat}(h:a∈l):a<=l.sum:=by
 induction l with
 |nil=>simp at h
 |cons b l Z=>
  rw[gJ];rcases bJ.mp h with e|e
  .subst e;lia
  .have:=Z e;lia
theorem cM.cells{n:Nat}{rs:List ab.ak}(h:cM n rs){r:ab.ak}(Z:r∈rs):r.cells.length<7000000:=by have:=h.pW;rw[ab.E9]at this;exact mv (NK (bA.mpr ⟨r,Z,U⟩)) this
theorem cM.aI{n:Nat}{rs:List ab.ak}(h:cM n rs){r:ab.ak}(Z:r∈rs):r.aT.aI.length<=1001:=by have:=(h.aT Z).bG;have:=h.dh;lia
theorem cM.pend{n:Nat}{rs:List ab.ak}(h:cM n rs){r:ab.ak}(Z:r∈rs):r.pend.length<=500:=by obtain⟨c,Y⟩:=wN _ (h.bN r Z);have:=(h.bz Z c Y).Pa;have:=h.dh;exact c7 (h.bz Z c Y).Pa h.dh
theorem cM.ins{n:Nat}{rs:List ab.ak}(h:cM n rs){r:ab.ak}(Z:r∈rs):r.ins.length<=500:=by obtain⟨c,Y⟩:=wN _ (h.bN r Z);exact c7 (h.bz Z c Y).Zs h.dh
def eF:(2:Nat)^24<=aS:=by decide
theorem BA:∀l:List Nat,(l.map λn:Nat=>(n:Int)).sum=((l.sum:Nat):Int)
 |[]=>rfl
 |a::l=>by rw[bM,gJ,gJ,BA l];lia
def lK{Z:Type}(l:List Z):(l.filter λ_=>ah)=l:=by simp
def Gb{Z:Type}(l:List Z)(f:Z->Nat):l.map (λz=>NI (f z))=((l.map f).map λn:Nat=>(n:Int)).map V.int:=by rw[bR,bR];rfl
def Ih:Sc ["row","run"] 1 25:=by walk_at"s"
inductive ae0(K:aw)(C:ae)(vs:List V)(H:Hp)(Q:VK)(_:XK):Prop|mk(l rs:_)(_:vs=[.ref l])(_:bF K C H l rs)(_:rs.length<aS)(_:∀H',aF H H'->Q (NI (ab.ao rs).length) H')
def qX:Cz Z "count_pieces" ["row"] 1 (ae0 K A.cr):=by
 refine Z.UW.ok Ih λf I v outer s H F Q E B h=>?_;obtain⟨l,rs,rfl,⟨zs,rfl,T,L⟩,hz,k⟩:=h;rw[aP]at hz;refine⟨_,(aO (bc (lV (r:=Ck K) (EV U) U Z.GZ Kc (ai (hU U Ih.nd (qI K (pv 0)) (fw (N:=["row","run"]) (sc:=cF (bo 25)) (own:=[("run",1)]) ‹_›) (λ_ _ _ _ _=>(qG 1 Ih.nd)) (λ_ _ _ _ _=>jE) (λ_ _ _ _ _=>(qN K Z.eQ (ai (aX Z.bS Z.gr (pv 1)) aq)))) aq)))),?_⟩;refine⟨l,U,⟨_,aL.of T⟩,λD M=>fJ zs (λ_=>ah) (λz=>NI z.2.cells.length) ff (λX Y=>aL.of (Y _ _ T)) M (by lia) ?_ λX Y V=>?_⟩
 .rintro n z x X y w hz Y R _ J ⟨G,W,rfl⟩
  cases hz.symm.trans W;obtain⟨S,C,i,d,p,O,P⟩:=(L z (ck hz)).up (Y.le _);refine J ?_;refine⟨U,z.1,_,U,O.signs,S,_,U,dB.tn P.sg,?_⟩;rw[aP];exact R U X (aF.refl _)
 .rw [lK,Gb]at V;refine⟨D,_,U,aL.of V,?_⟩;rw[BA];have:=k X Y;rw[ab.E9,bR]at this;exact this
def Ii:Sc ["row","run"] 1 26:=by walk_at"s"
inductive ae1(K:aw)(C:ae)(vs:List V)(H:Hp)(Q:VK)(_:XK):Prop|mk(l rs:_)(_:vs=[.ref l])(_:bF K C H l rs)(_:rs.length<aS)(_:∀H',aF H H'->Q (NI (jY (ab.ao rs)).length) H')
def yF:Cz Z "count_shown" ["row"] 2 (ae1 K A.cr):=by
 refine Z.UX.ok Ii λf G v outer s H B Q E S h=>?_;obtain⟨l,rs,rfl,⟨zs,rfl,P,R⟩,hz,k⟩:=h;rw[aP]at hz;refine⟨_,(aO (bc (qF (qX Z:) S (ai (hU U Ii.nd (qI K (pv 0)) (fw (N:=["row","run"]) (sc:=cF (bo 26)) (own:=[("run",1)]) ‹_›) (λ_ _ _ _ _=>(qG 1 Ii.nd)) (λ_ _ _ _ _=>(k0 (d_ (qF (tJ Z:) S (ai (pv 1) aq))))) (λ_ _ _ _ _=>(pv 1))) aq)))),?_⟩;refine⟨l,U,⟨_,aL.of P⟩,λD J=>fJ zs (λz=>z.2.shown) rf ff (λX Y=>aL.of (Y _ _ P)) J (by omega) ?_ λX Y L=>?_⟩
 .rintro n z x X y w hz Y M O I ⟨C,V,rfl⟩
  cases hz.symm.trans V;refine I ?_;refine⟨U,z.1,z.2,U,(R z (ck hz)).up (Y.le _),aZ (λT=>?_) λT=>?_⟩
  .exact (M T X (aF.refl _))
  .exact O T X (aF.refl _)
 .refine ⟨D,(zs.filter λz=>z.2.shown).map (·.2),U,⟨_,U,L,λz hz=>(R z (d4.mp hz).1).up (Y.le _)⟩,?_,λF W=>?_⟩
  .rw [aP];exact mv (oJ _ _) hz
  .have:=k F (Y.trans W);rw[ab.Dg,nk]at this;exact this
def Cw:Sc ["row","counts","run","marks"] 1 27:=by walk_at"s"
noncomputable def gR(l:List (ab.b7×Nat)):List (ab.b7×V):=l.map λp=>(p.1,NI p.2)
def ES(l:List (ab.b7×Nat))(m:ab.b7):df (gR l) m=(ab.bU l m).map NI:=by
 unfold df ab.bU gR;rw[JR];have e:((λZ:ab.b7×V=>decide (Z.1=m))∘λp:ab.b7×Nat=>(p.1,NI p.2))=λp=>decide (p.1=m):=by funext p;rfl
 rw[e];cases l.find? λp=>decide (p.1=m)<;>rfl
def Ut(l:List (ab.b7×Nat))(m:ab.b7)(v:Nat):eY (gR l) m (NI v)=gR (ab.f_ l m v):=by
 unfold eY ab.f_ gR;rw[rF];have e:((λZ:ab.b7×V=>decide (Z.1=m))∘λp:ab.b7×Nat=>(p.1,NI p.2))=λp=>decide (p.1=m):=by funext p;rfl
 rw[e];split
 .rw [bR,bR];apply gY;intro p _;show(if p.1=m then _ else _)=_;by_cases q:p.1=m
  .simp [q]
  .simp [q]
 .rw [cG];rfl
inductive aeT(P:aR)(w:aQ)(K:aw)(C:ae)(vs:List V)(H:Hp)(Q:VK)(_:XK):Prop|mk(l rs:_)(_:vs=[.ref l])(_:bF K C H l rs)(_:rs.length<aS)(_:∀d H',MD (hJ P w K) H' d (gR (ab.c6 rs))->H d=aj->aF H H'->Q (.ref d) H')
def Hi:Cz Z "count_by_marks" ["row"] 2 (aeT P w K A.cr):=by
 refine Z.US.ok Cw λf eA Ar outer s H vs Q E J h=>?_;obtain⟨l,rs,rfl,⟨zs,rfl,D,h2⟩,hz,k⟩:=h;rw[aP]at hz;refine⟨_,(aH (qS 1 Cw.nd (Hz (hJ P w K))) (aH (eU eK U (qI K (pv 0)) (qG 2 Cw.nd) (aH (qS 3 Cw.nd (qF (yI Z:) J (ai (pv 2) aq))) (aO (HH (hJ P w K) J.units (pv 1) (pv 3) (b6 f9 (acB (hJ P w K) J.units (pv 1) (pv 3) aU ⟨U,U,U,U⟩) (qN K Z.eQ (ai (aX Z.bS Z.gr (pv 2)) aq))) U)))) (aO (bc (pv 1))))),?_⟩;refineλd H0 nd r G=>⟨l,U,⟨_,aL.of (G _ _ D)⟩,eP (ff (zs:=zs) (v:=rf)) (λi O R=>(∃x y,O=[aa (.ref l),aa (.ref d),x,y])/\aF H R/\MD (hJ P w K) R d (gR (ab.c6 ((zs.take i).map (·.2))))) ⟨⟨aj,aj,U⟩,G,r⟩ (λi O R j=>aL.of (j.2.1 _ _ D)) ?_ ?_⟩
 .rintro i x O H1 H2 hi M N B kn kb I ⟨⟨u,C,rfl⟩,L,Y⟩ ⟨z,V,rfl⟩
  refine I ?_;have X:=L.trans M;have T:=(h2 z (ck V)).up (X.le _);refine⟨z.1,z.2,U,T,λm H3 S W=>?_⟩;obtain⟨t,l1,ii,dd,p,c,g⟩:=T.up (W.le _);have a:(gR (ab.c6 ((zs.take i).map (·.2)))).length<aS:=by unfold gR;rw[aP];have:=ab.LC ((zs.take i).map (·.2));rw[aP]at this;have:=ub i zs;lia
  refine⟨⟨d,_,U,Y.same (M.trans W)⟩,d,m,_,z.2.aT,U,U,Y.same (M.trans W),S,z.1,_,U,c.signs,t,_,U,dB.tn g.sg,HN (i:=(((ab.bU (ab.c6 ((zs.take i).map (·.2))) z.2.aT).getD 0:Nat):Int)) ?_ U ⟨d,m,_,z.2.aT,U,U,Y.same (M.trans W),S,a,λH4 F n=>kn _ _ ⟨⟨_,_,U⟩,λb o e=>n b o (W _ _ (X _ _ e)) (λq=>by rw[q,nd]at e;cases e),?_⟩⟩⟩
  .rw [ES];show((ab.bU (ab.c6 ((zs.take i).map (·.2))) z.2.aT).map NI).getD (.int 0)=.int (((ab.bU (ab.c6 ((zs.take i).map (·.2))) z.2.aT).getD 0:Nat):Int);cases ab.bU (ab.c6 ((zs.take i).map (·.2))) z.2.aT<;>rfl
  .rw [dU V,cG];show MD (hJ P w K) H4 d (gR (ab.c6 ((zs.take i).map (·.2)++[z.2])));rw[ab.xQ,<-Ut];rw[aP]at F;exact F
 .rintro O R I ⟨⟨u,C,rfl⟩,L,Y⟩
  refine I ?_;rw[eJ]at Y;exact(k d R Y nd L)
def Cv:Sc ["runs","borne","run","c"] 1 28:=by walk_at"s"
noncomputable def dZ(ks:List Nat):List (bE×V):=dv (λ_:Unit=>V.bl ah) (ks.map λk=>(k,()))
def mM(ks:List Nat)(k:Nat):List Nat:=if k∈ks then ks else ks++[k]
def GO{k c:Nat}:c∈mM ks k↔c∈ks\/c=k:=by
 unfold mM;split
 .rename_i h;constructor
  .exact .inl
  .rintro (h'|rfl)
   .exact h'
   .exact h
 .simp
def G9{k:Nat}(h:ks.Nodup):(mM ks k).Nodup:=by
 unfold mM;split
 .exact h
 .rename_i q;exact wW.mpr ⟨h,by simp,λa Y b Z e=>by rw[bx]at Z;subst Z;subst e;exact q Y⟩
def BC(ks:List Nat):(dZ ks).length=ks.length:=by unfold dZ;rw[qw,aP]
def Rg(ks:List Nat)(k:Nat):ab.bU (ks.map λk=>(k,())) k=if k∈ks then aa ()else aj:=by
 have:=ab.Dc (l:=ks.map λk=>(k,())) (k:=k);rw[bR]at this;have e:(ks.map ((λx:Nat×Unit=>x.1)∘λk=>(k,())))=ks:=by
  conv=>rhs;rw[<-kx ks]
  rfl
 rw[e]at this;split
 .rename_i h;obtain⟨u,Z⟩:=rP.mp (this.mpr h);exact Z
 .rename_i h;cases q:ab.bU (ks.map λk=>(k,())) k with
  |none=>rfl
  |some u=>exact bq (this.mp (by rw[q];rfl)) h
def ac5(ks:List Nat)(k:Nat):ab.f_ (ks.map λk=>(k,())) k ()=(mM ks k).map λk=>(k,()):=by
 unfold ab.f_ mM;rw[ab.wk,Rg];by_cases h:k∈ks
 .rw [aA h,aA h,aA (show(aa ()).isSome=ah from U),bR];apply gY;intro x _;show(if x=k then(x,())else(x,()))=(x,());split<;>rfl
 .rw [ay h,ay h,ay (show¬(aj:Option Unit).isSome=ah by simp),cG];rfl
def Gm(ks:List Nat)(k:Nat):eY (dZ ks) (.inl (k:Int)) (.bl ah)=dZ (mM ks k):=by unfold dZ;rw[<-ac5];exact xT (λ_:Unit=>V.bl ah) (ks.map λk=>(k,())) k ()
theorem j8:∀{n:Nat} {ks:List Nat},ks.Nodup->(∀c∈ks,c<n)->ks.length<=n
 |0,ks,_,h=>by
  cases ks with
  |nil=>exact bp _
  |cons a l=>exact bq (h a cy) (J5 _)
 |n+1,ks,Z,h=>by
  have W:∀c∈ks.erase n,c<n:=λc Y=>by have X:=(List.Nodup.mem_erase_iff Z).mp Y;have:=h c X.2;lia
  have T:=j8 (Z.erase n) W;have V:ks.length<=(ks.erase n).length+1:=by
   by_cases q:n∈ks
   .have:=List.length_erase_of_mem q;lia
   .rw [List.erase_of_not_mem q];lia
  lia
inductive aeS(K:aw)(C:ae)(vs:List V)(H:Hp)(Q:VK)(_:XK):Prop|mk(l rs n:_)(_:vs=[.ref l])(_:bF K C H l rs)(_:cM n rs)(_:∀d ks H',H' d=aa (.dK (dZ ks))->ks.Nodup->(∀c,c∈ks↔∃r∈rs,c∈r.aT.aI)->H d=aj->aF H H'->Q (.ref d) H')
def vC:Cz Z "changes_borne" ["runs"] 3 (aeS K A.cr):=by
 refine Z.UN.ok Cv λf eA Ar outer s H vs Q E hr h=>?_;obtain⟨l,rs,n,rfl,⟨zs,e0,W,J⟩,ok,k⟩:=h;refine⟨_,(aH (qS 1 Cv.nd (tL)) (aH (eU eK U (qI K (pv 0)) (qG 2 Cv.nd) (aO (eU eK U (qI K (qF (yD Z:) hr (ai (qF (yI Z:) hr (ai (pv 2) aq)) aq))) (qG 3 Cv.nd) (aO (yO (il hr) (pv 1) (pv 3) oe U))))) (aO (bc (pv 1))))),?_⟩;refineλd nd=>⟨l,U,⟨_,aL.of ((bg nd) _ _ W)⟩,eP (ff (zs:=zs) (v:=rf)) (λi V X=>(∃x y,V=[aa (.ref l),aa (.ref d),x,y])/\aF H X/\∃ks,X d=aa (.dK (dZ ks))/\ks.Nodup/\∀c,c∈ks↔∃r∈(zs.take i).map (·.2),c∈r.aT.aI) ⟨⟨aj,aj,U⟩,bg nd,[],aJ,oK,by simp⟩ (λi V X g=>aL.of (g.2.1 _ _ W)) ?_ ?_⟩
 .rintro i x V H1 H2 hi s2 N B kn kb L ⟨⟨t,u,rfl⟩,C,ks,hd,hn,w⟩ ⟨z,F,rfl⟩
  refine L ?_;have p:=C.trans s2;have G:=ck F;have D:z.2∈rs:=by rw[<-e0];exact bA.mpr ⟨z,G,U⟩
  have a:=(J z G).up (p.le _);have sW:=ok.aI D;refine⟨z.1,z.2,U,a,λm H3 Yk s3=>⟨m,z.2.aT,U,Yk,mv sW (by have:=eF;lia),λq H4 hq nq s4=>⟨q,U,⟨_,aL.of hq⟩,?_⟩⟩⟩;have I:=s2.trans (s3.trans s4);refine eP (ff (zs:=z.2.aT.aI) (v:=NI)) (λj V X=>(∃x y,V=[aa (.ref l),aa (.ref d),x,y])/\aF H X/\X q=aa (.aC (z.2.aT.aI.map NI))/\∃ks,X d=aa (.dK (dZ ks))/\ks.Nodup/\∀c,c∈ks↔(∃r∈(zs.take i).map (·.2),c∈r.aT.aI)\/c∈z.2.aT.aI.take j)
   ⟨⟨_,_,U⟩,C.trans I,hq,ks,I _ _ hd,hn,‹w›⟩ (λj V X g=>aL.of g.2.2.1) ?_ ?_
  .rintro j x V H5 H6 hj o N B kn kb L ⟨⟨t,u,rfl⟩,O,T,Y,P,S,R⟩ ⟨c,hc,rfl⟩
   refine L ?_;have yd:Y.length<aS:=by
    have:Y.length<=n+1:=j8 S λc hc=>by
     rcases(R c).mp hc with⟨r,FQ,M⟩|M
     .obtain ⟨z',b,rfl⟩:=bA.mp FQ;have:=(ok.aT (r:=z'.2) (by rw[<-e0];exact bA.mpr ⟨z',nz b,U⟩)).aI c M;lia
     .have:=(ok.aT D).aI c (nz M);lia
    have:=ok.dh;have:=eF;lia
   have YD:q≠d:=λe=>by rw[e,P]at T;cases T
   refine⟨d,_,U,lp.k (k:=.inl (c:Int)) (o _ _ P) (by rw[BC];exact yd),kn _ _ ⟨⟨_,_,U⟩,tT (O.trans o) nd,by rw[a_ YD];exact o _ _ T,mM Y c,by rw[aJ,Gm],G9 S,λe=>?_⟩⟩;rw[GO,R,dU hc,cZ,bx];constructor
   .rintro ((h|h)|h)
    .exact .inl h
    .exact .inr (.inl h)
    .exact .inr (.inr h)
   .rintro (h|h|h)
    .exact .inl (.inl h)
    .exact .inl (.inr h)
    .exact .inr h
  .rintro V X L ⟨⟨t,u,rfl⟩,O,T,Y,P,S,R⟩
   refine L ?_;refine kn _ _ ⟨⟨_,_,U⟩,O,Y,P,S,λc=>?_⟩;rw[R,dU F,cG,eJ];constructor
   .rintro (⟨r,W,J⟩|h)
    .exact ⟨r,jq _ W,J⟩
    .exact ⟨z.2,by simp,h⟩
   .rintro ⟨r,W,J⟩
    rcases cZ.mp W with W|W
    .exact .inl ⟨r,W,J⟩
    .have:r=z.2:=‹W›
     subst this;exact .inr J
 .rintro V X L ⟨⟨t,u,rfl⟩,C,ks,hd,hn,w⟩
  refine L ?_;rw[eJ,e0]at w;exact(k d ks X hd hn w nd C)
def Tv(n:Nat)(l:List aE)(h:∀x∈l,(ab.dO x).length=n):gM l=n*l.length:=by
 induction l with
 |nil=>rfl
 |cons x l Z=>
  have e:x::l=[x]++l:=rfl;rw[e,ab.Lc,ab.Tu,Z (λy Y=>h y (cj _ Y)),h x cy,bb,DG,zO,zP]
theorem Ld:∀rs:List ab.ak,gM (ab.ao rs)=(rs.map λr=>r.aT.aI.length*r.cells.length).sum
 |[]=>rfl
 |r::rs=>by
  rw[ab.d5,ab.Lc,Ld rs,bM,gJ,Tv r.aT.aI.length]
  .unfold ab.ak.ao;rw[aP]
  .intro x Z;obtain⟨c,_,rfl⟩:=bA.mp Z;rfl
def aar(c n:Nat)(l:List aE)(h:∀x∈l,cO (ab.dO x) c=n):cz l c=n*l.length:=by
 induction l with
 |nil=>rfl
 |cons x l Z=>
  rw[ab.GJ,Z (λy Y=>h y (cj _ Y)),h x cy,bY,zO,zP];lia
theorem NZ(c:Nat):∀rs:List ab.ak,cz (ab.ao rs) c=(rs.map λr=>cO r.aT.aI c*r.cells.length).sum
 |[]=>rfl
 |r::rs=>by
  rw[ab.d5,ab.kU,NZ c rs,bM,gJ,aar c (cO r.aT.aI c)]
  .unfold ab.ak.ao;rw[aP]
  .intro x Z;obtain⟨c,_,rfl⟩:=bA.mp Z;rfl
theorem LH(c:Nat):∀l:List Nat,(l.map λn:Nat=>(n:Int)).count (c:Int)=cO l c
 |[]=>rfl
 |a::l=>by
  rw[bM,List.count_cons,LH c l,ab.BZ];by_cases e:a=c
  .subst e;simp;lia
  .have Z:¬(a:Int)=(c:Int):=by lia
   rw[ay e,ay ‹Z›];lia
def EW{Z:Type}{zs:List Z}{v:Z->V}{i:Nat}(h:i<=zs.length):fi (zs.map v) aj (aa (i:Int))=(zs.take i).map v:=by unfold fi;rw[HT.Ib,HT.Ct,p8,zQ,aP,zN h,ly]
def LM{Z:Type}{zs:List Z}{v:Z->V}{i:Nat}(h:i<=zs.length):fi (zs.map v) (aa (i:Int)) aj=(zs.drop i).map v:=by unfold fi;rw[HT.Ib,HT.Ct,aP,zN h,lx,zK];rw[jN,aP];exact bp _
def HW{K:aw}{l:ae}{ys zs:List (ae×ab.ak)}(X:xB K C H zs)(le:Le C H H')(Y:H' l=aa (.aC (ys.map rf)))(hs:∀y∈ys,y∈zs):bF K C H' l (ys.map (·.2)):=⟨ys,U,Y,λy Z=>(X y (hs y Z)).up le⟩
def Ie:Sc ["row","run"] 1 29:=by walk_at"s"
inductive aeY(K:aw)(C:ae)(vs:List V)(H:Hp)(Q:VK)(_:XK):Prop|mk(l rs n:_)(_:vs=[.ref l])(_:bF K C H l rs)(_:cM n rs)(_:∀H',aF H H'->Q (NI (gM (ab.ao rs))) H')
def Ox:Cz Z "count_marks" ["row"] 3 (aeY K A.cr):=by
 refine Z.UT.ok Ie λf j Ar outer s H c Q E M h=>?_;obtain⟨l,rs,n,rfl,⟨zs,S,I,J⟩,ok,k⟩:=h;have hz:zs.length<7000000:=by have:=ok.bG;rw[<-S,aP]at this;exact this
 have C:=eF;refine⟨_,(aO (bc (lV (r:=Ck K) (EV U) U Z.GZ Kc (ai (hU U Ie.nd (qI K (pv 0)) (fw (N:=["row","run"]) (sc:=cF (bo 29)) (own:=[("run",1)]) ‹_›) (λ_ _ _ _ _=>(qG 1 Ie.nd)) (λ_ _ _ _ _=>jE) (λ_ _ _ _ _=>(b6 OO (qN K Z.eQ (ai (qF (yD Z:) M (ai (qF (yI Z:) M (ai (pv 1) aq)) aq)) aq)) (qN K Z.eQ (ai (aX Z.bS Z.gr (pv 1)) aq))))) aq)))),?_⟩;refine⟨l,U,⟨_,aL.of I⟩,λD t=>fJ zs (λ_=>ah) (λz=>NI (z.2.aT.aI.length*z.2.cells.length)) ff (λR X=>aL.of (X _ _ I)) t (by omega) ?_ λR X L=>?_⟩
 .rintro n z x R g Qn hz X B _ o ⟨e,W,rfl⟩
  cases hz.symm.trans W;refine o ?_;have Y:=ck hz;have V:z.2∈rs:=by rw[<-S];exact bA.mpr ⟨z,Y,U⟩
  have u:=ok.aI V;refine⟨U,z.1,z.2,U,(J z Y).up (X.le _),λm H3 T O=>⟨m,z.2.aT,U,T,by omega,λq G w b P=>⟨q,_,U,dB.ls w,?_⟩⟩⟩;obtain⟨F,a,i,d,p,v,y⟩:=(J z Y).up ((X.trans (O.trans P)).le _);have:=B U G (O.trans P);refine⟨z.1,_,U,v.signs,F,_,U,dB.tn y.sg,.inl ⟨by rw[aP];omega,by rw[aP];omega⟩,?_⟩;show g (.int (((z.2.aT.aI.map NI).length:Int)*(((z.2.cells.map (·.1)).length:Nat):Int))) G;rw[aP,aP,<-Int.natCast_mul];exact this
 .rw [lK,Gb]at L;refine⟨D,_,U,aL.of L,?_⟩;rw[BA];have:=k R X;rw[Ld,<-S,bR]at this;exact this
def Ig:Sc ["row","c","run"] 2 30:=by walk_at"s"
inductive aeZ(K:aw)(C:ae)(vs:List V)(H:Hp)(Q:VK)(_:XK):Prop|mk(l rs n:_)(c:Nat)(_:vs=[.ref l,.int c])(_:bF K C H l rs)(_:cM n rs)(_:∀H',aF H H'->Q (NI (cz (ab.ao rs) c)) H')
def abn:Cz Z "count_marks_of" ["row","c"] 3 (aeZ K A.cr):=by
 refine Z.UU.ok Ig λf g Ar outer s H a Q E L h=>?_;obtain⟨l,rs,n,c,rfl,⟨zs,R,C,G⟩,ok,k⟩:=h;have hz:zs.length<7000000:=by have:=ok.bG;rw[<-R,aP]at this;exact this
 have w:=eF;refine⟨_,(aO (bc (lV (r:=Ck K) (EV U) U Z.GZ Kc (ai (hU U Ig.nd (qI K (pv 0)) (fw (N:=["row","c","run"]) (sc:=cF (bo 30)) (own:=[("run",2)]) ‹_›) (λ_ _ _ _ _=>(qG 2 Ig.nd)) (λ_ _ _ _ _=>jE) (λ_ _ _ _ _=>(b6 OO (aco K (r:=PD K) fQ PySem.F.slot_list_count PySem.F.type_list_count aaD (qF (yD Z:) L (ai (qF (yI Z:) L (ai (pv 2) aq)) aq)) (ai (pv 1) aq)) (qN K Z.eQ (ai (aX Z.bS Z.gr (pv 2)) aq))))) aq)))),?_⟩;refine⟨l,U,⟨_,aL.of C⟩,λD o=>fJ zs (λ_=>ah) (λz=>NI (cO z.2.aT.aI c*z.2.cells.length)) ff (λP X=>aL.of (X _ _ C)) o (by omega) ?_ λP X I=>?_⟩
 .rintro n z x P e Qn hz X v _ j ⟨b,W,rfl⟩
  cases hz.symm.trans W;refine j ?_;have Y:=ck hz;have V:z.2∈rs:=by rw[<-R];exact bA.mpr ⟨z,Y,U⟩
  have S:=ok.aI V;refine⟨U,z.1,z.2,U,(G z Y).up (X.le _),λm H3 T M=>⟨m,z.2.aT,U,T,by omega,λq B J nq O=>⟨.inl ⟨U,_,aL.of J⟩,q,z.2.aT.aI.map λn:Nat=>(n:Int),_,U,U,aL.of (by rw[J,bR];rfl),?_⟩⟩⟩;obtain⟨y,l1,i,d,p,t,u⟩:=(G z Y).up ((X.trans (M.trans O)).le _);have:=v U B (M.trans O);refine⟨z.1,_,U,t.signs,y,_,U,dB.tn u.sg,.inl ⟨by omega,?_⟩,?_⟩
  .have:(z.2.aT.aI.map λn:Nat=>(n:Int)).count (c:Int)<=1001:=c7 List.count_le_length (by rw[aP];exact S);omega
  show e (.int ((((z.2.aT.aI.map λn:Nat=>(n:Int)).count (c:Int):Nat):Int)*(((z.2.cells.map (·.1)).length:Nat):Int))) B;rw[LH,aP,<-Int.natCast_mul];exact this
 .rw [lK,Gb]at I;refine⟨D,_,U,aL.of I,?_⟩;rw[BA];have:=k P X;rw[NZ,<-R,bR]at this;exact this
def rj:Sc ["row","place","is_counted","passed","index","run","inner","left","right"] 3 31:=by walk_at"s"
def Tb(P:aR)(w:aQ)(K:aw)(mg:Str->Option af)(base:aK)(C:ae)(H:Hp)(g:ae)(p:ab.ak->Bool):Prop:=
 ∃sp,FV P w K mg base 1 g sp/\∀a r H' Q,eD K C H' a r->aF H H'->(∀Z,aF H' Z->Q (.bl (p r)) Z)->sp [.ref a] H' Q E0
inductive ae3(P:aR)(w:aQ)(K:aw)(mg:Str->Option af)(base:aK)(C:ae)(vs:List V)(H:Hp)(Q:VK)(_:XK):Prop|mk(l rs g p:_)(j:Nat)(_:vs=[.ref l,.int j,.ref g])(_:bF K C H l rs)(_:rs.length<2^24)(_:Tb P w K mg base C H g p)(_:∀t l1 l2 H',H' t=aa (.bh [.ref l1,.ref l2])->bF K C H' l1 (ab.d8 p rs j).1->bF K C H' l2 (ab.d8 p rs j).2->H l1=aj->H l2=aj->aF H H'->Q (.ref t) H')
def OP:eW X (nE .Sub) (λx y H Q=>∃i j,x=.int i/\y=.int j/\Q (.int (i-j)) H):=λ_ _ _ _ _ _ _ _ _ I Y Z ⟨_,_,e,W,q⟩=>iK _ _ _ _ _ _ _ _ _ I Y Z (HN e W q)
def Oz:Cz Z "divide_counting" ["row","place","is_counted"] 4 (ae3 P w K mg base A.cr):=by
 refine Z.U1.ok rj λf eA Ar outer s H vs Q E hr h=>?_;obtain⟨l,rs,g,p,j,rfl,⟨zs,e0,h1,h2⟩,hz,⟨sp,fv,FX⟩,k⟩:=h;have el:zs.length=rs.length:=by rw[<-e0,aP]
 have gT:=eF;refine⟨_,(aH (qS 3 rj.nd aU) (aH (eU eK U (Pc U Z.BQ (ai (pv 0) aq)) (vN U (lX (qG 4 rj.nd) (lX (qG 5 rj.nd) vO))) (aO (bO (d_ (acr (k:=1) (i:=2) (hr.mono (by decide)) U (by first|exact Or.inl U|exact w9 (Or.inl U)|exact w9 (w9 U)) (ai (pv 5) aq))) (aH (qS 6 rj.nd (b6 OP (pv 1) (pv 3))) (aH (bO (cK dI (pv 6) aU (cB _)) (aO (bc (fB (ai (oh (r:=tQ K) v_ (pv 0) vP (kc (pv 4))) (ai (oh (r:=tQ K) v_ (pv 0) (kc (pv 4)) vP) aq))))) bX) (aH (bO (cK pN (pv 6) (qN K Z.eQ (ai (aX Z.bS Z.gr (pv 5)) aq)) (cB _)) (aH (qS 7 rj.nd (qF (Hl Z:) hr (ai (pv 5) (ai aU (ai (pv 6) aq))))) (aH (qS 8 rj.nd (qF (Hl Z:) hr (ai (pv 5) (ai (pv 6) (ai (qN K Z.eQ (ai (aX Z.bS Z.gr (pv 5)) aq)) aq))))) (aO (bc (fB (ai (b6 gU (oh (r:=tQ K) v_ (pv 0) vP (kc (pv 4))) (b9 (ai (pv 7) aq))) (ai (b6 gU (b9 (ai (pv 8) aq)) (oh (r:=tQ K) v_ (pv 0) (kc (b6 f9 (pv 4) aU)) vP)) aq))))))) bX) (aO (qS 3 rj.nd (b6 f9 (pv 3) (qN K Z.eQ (ai (aX Z.bS Z.gr (pv 5)) aq)))))))) bX))) (aO (bc (fB (ai (kZ (r:=Cg K) EJ U Z.GY Kb (ai (pv 0) aq)) (ai (b9 aq) aq))))))),?_⟩;refine⟨l,_,U,aL.of h1,?_⟩;have W:=Rv (K:=K) (a:=l) (xs:=zs.map rf);rw[aP]at W;refine eP W (λi σ H'=>(∃(ps:Nat) (x4 x5 x6 x7 x8:Option V),σ=[aa (.ref l),aa (.int j),aa (.ref g),aa (.int ps),x4,x5,x6,x7,x8]/\ps<=j/\ab.d8 p rs j=(rs.take i++(ab.d8 p (rs.drop i) (j-ps)).1,(ab.d8 p (rs.drop i) (j-ps)).2))/\aF H H')
  ⟨⟨0,aj,aj,aj,aj,aj,U,cN _,U⟩,aF.refl _⟩ (λi σ H' j0=>aL.of (j0.2 _ _ h1)) ?_ ?_
 .rintro i x σ H1 H2 hi s2 N B kn kb gz ⟨⟨ps,x4,x5,x6,x7,x8,rfl,M_,M⟩,sm⟩ ⟨T1,y,rfl,Y,hT⟩
  obtain⟨z,fZ,rfl⟩:=iJ Y;refine gz ?_;have gS:=ck fZ;have L:=sm.trans s2;have iV:=(h2 z gS).up (L.le _);have O:rs[i]?=aa z.2:=by rw[<-e0,cf,fZ];rfl
  have X:rs.drop i=z.2::rs.drop (i+1):=by have:=gE O;rw[JP this];congr 1;rw[dC this]at O;exact dX O
  refine⟨T1,_,U,aY.of hT,U,_,_,U,_,_,U,U,?_⟩;refine⟨sp,fv,FX z.1 z.2 H2 _ iV L λH3 n=>(aZ (λhp=>?_) λhp=>?_)⟩
  .have T:=L.trans n;have ej:(j:Int)-(ps:Int)=((j-ps:Nat):Int):=by lia
   refine⟨_,_,U,U,?_⟩;dsimp only;rw[ej];have MM:=T _ _ h1;have J:i<=zs.length:=by lia
   refine⟨U,aZ (λhq=>?_) λhq=>?_⟩
   .have S:j-ps=0:=by
     have:=cQ hq;injection this with this;lia
    refine⟨l,_,U,aL.of MM,λG n1=>?_⟩;have I:=bg (o:=.aC (fi (zs.map rf) aj (aa (i:Int)))) n1;refine⟨l,_,U,aL.of (I _ _ MM),λl2 c=>?_⟩;have s5:=bg (o:=.aC (fi (zs.map rf) (aa (i:Int)) aj)) c;refine⟨by show 2<=aS;lia,λt nt=>?_⟩;have u:=bg (o:=.bh [.ref G,.ref l2]) nt;have sa:=(T.trans I).trans (s5.trans u);refine k t G l2 _ aJ ?_ ?_ (T.free n1) ((T.trans I).free c) sa
    .rw [M,S,X,ab.NV hp,ee,<-e0,<-ly];exact HW h2 (sa.le _) (by rw[u _ _ (s5 _ _ aJ),EW J]) λy Y=>nz Y
    .rw [M,S,X,ab.NV hp,<-X,<-e0,<-lx];exact HW h2 (sa.le _) (by rw[u _ _ aJ,LM J]) λy Y=>rK Y
   have S:j-ps≠0:=λe=>by have:=fh hq;exact this (by rw[e];rfl)
   have R:=iV.up (n.le _);obtain⟨s1,G,ii,d,pp,ho,hv⟩:=id R;refine⟨z.1,_,U,ho.signs,s1,_,U,dB.tn hv.sg,aZ (λlQ=>?_) λlQ=>?_⟩
   .have F:j-ps<z.2.cells.length:=by
     have:=cQ lQ;rw[aP]at this;lia
    refine⟨z.1,z.2,0,j-ps,U,R,cN _,by lia,λb H4 A9 I=>?_⟩;have Yu:=ho.up (I.le _);have Y1:=hv.up (C:=A.cr) (I.le _);refine⟨z.1,_,U,Yu.signs,s1,_,U,dB.tn Y1.sg,z.1,z.2,j-ps,z.2.cells.length,by rw[aP];rfl,R.up (I.le _),by lia,bp _,λb2 H5 sV s5=>?_⟩;have v:=T.trans (I.trans s5);refine⟨l,_,U,aL.of (v _ _ h1),λG n1=>?_⟩;have u:=bg (o:=.aC (fi (zs.map rf) aj (aa (i:Int)))) n1;refine⟨by show 1<=aS;lia,λl2 c=>?_⟩;have s7:=bg (o:=.aC [.ref b]) c;refine⟨G,l2,_,_,U,U,s7 _ _ aJ,aJ,by rw[EW J,aP,iz];show _+1<=_;lia,λl3 n3=>?_⟩;have s8:=bg (o:=.aC (fi (zs.map rf) aj (aa (i:Int))++[.ref b])) n3;have D:=(v.trans u).trans (s7.trans s8);refine⟨by show 1<=aS;lia,λl4 n4=>?_⟩;have s9:=bg (o:=.aC [.ref b2]) n4;refine⟨l,_,U,aL.of ((D.trans s9) _ _ h1),λl5 n5=>?_⟩;have ei:(i:Int)+1=((i+1:Nat):Int):=by lia
    dsimp only;rw[ei,LM (i:=i+1) (by lia)];have m:=bg (o:=.aC ((zs.drop (i+1)).map rf)) n5;refine⟨l4,l5,_,_,U,U,m _ _ aJ,aJ,by rw[aP,jN];show 1+_<=_;lia,λl6 n6=>?_⟩;have hW:=bg (o:=.aC ([.ref b2]++(zs.drop (i+1)).map rf)) n6;refine⟨by show 2<=aS;lia,λt nt=>?_⟩;have iq:=bg (o:=.bh [.ref l3,.ref l6]) nt;have sx:=s9.trans (m.trans (hW.trans iq));have sa:=D.trans sx;have sy:=u.trans (s7.trans (s8.trans sx));refine k t l3 l6 _ aJ ?_ ?_ (((v.trans u).trans s7).free n3) ((D.trans (s9.trans m)).free n6) sa
    .rw [M,X,ab.NW hp _ S F,<-e0,<-ly];refine⟨zs.take i++[(b,z.2.part 0 (j-ps))],by rw[cG];rfl,?_,λy Y=>?_⟩
     .rw [sx _ _ aJ,EW J,cG];rfl
     .rcases cZ.mp Y with Y|Y
      .exact (h2 y (nz Y)).up (sa.le _)
      .rw [bx]at Y;subst Y;exact A9.up ((s5.trans sy).le _)
    .rw [M,X,ab.NW hp _ S F,<-e0,<-lx];refine⟨(b2,z.2.part (j-ps) z.2.cells.length)::zs.drop (i+1),U,?_,λy Y=>?_⟩
     .rw [iq _ _ aJ];rfl
     .rcases bJ.mp Y with Y|Y
      .subst Y;exact sV.up (sy.le _)
      .exact (h2 y (rK Y)).up (sa.le _)
   .have XY:¬j-ps<z.2.cells.length:=λq=>by
     have:=fh lQ;rw[aP]at this;exact this (by lia)
    refine⟨z.1,_,U,ho.signs,s1,_,U,dB.tn hv.sg,kn _ _ ⟨⟨ps+z.2.cells.length,aa (.int (i:Nat)),aa (rf z),aa (.int (j-ps:Nat)),x7,x8,?_,by lia,?_⟩,T⟩⟩
    .dsimp only;rw[aP,<-Dq];rfl
    .rw [M,X,ab.aad hp _ S XY,dU O,fm,Nat.sub_sub];rfl
  .refine kn _ _ ⟨⟨ps,_,_,_,_,_,U,M_,?_⟩,L.trans n⟩;rw[M,X,ab.aab hp,dU O,fm];rfl
 .rintro σ H' gz ⟨⟨ps,x4,x5,x6,x7,x8,rfl,M_,M⟩,sm⟩
  refine gz ?_;refine⟨l,_,U,.inl (aL.of (sm _ _ h1)),λG n1=>?_⟩;have s1:=bg (o:=.aC (zs.map rf)) n1;refine⟨cN _,λl2 c=>?_⟩;have s2:=bg (o:=.aC []) c;refine⟨by show 2<=aS;lia,λt nt=>?_⟩;have n:=bg (o:=.bh [.ref G,.ref l2]) nt;have sa:=sm.trans (s1.trans (s2.trans n));rw[el,zD,eJ]at M;have hn:ab.d8 p [] (j-ps)=([],[]):=rfl;rw[hn,ee]at M;refine k t G l2 _ aJ ?_ ?_ (sm.free n1) ((sm.trans s1).free c) sa
  .rw [M,<-e0];exact HW h2 (sa.le _) (n _ _ (s2 _ _ aJ)) λy Y=>Y
  .rw [M];exact⟨[],U,n _ _ aJ,λy Y=>by simp at Y⟩
def ad2:Sc ["row","place"] 2 32:=by walk_at"s"
inductive Qz(K:aw)(C:ae)(vs:List V)(H:Hp)(Q:VK)(_:XK):Prop|mk(l rs:_)(j:Nat)(_:vs=[.ref l,.int j])(_:bF K C H l rs)(_:rs.length<2^24)(_:∀t l1 l2 H',H' t=aa (.bh [.ref l1,.ref l2])->bF K C H' l1 (ab.bu rs j).1->bF K C H' l2 (ab.bu rs j).2->H l1=aj->H l2=aj->aF H H'->Q (.ref t) H')
def yG:Cz Z "divide" ["row","place"] 5 (Qz K A.cr):=by refine Z.UZ.ok ad2 λf S M outer s H P Q E W h=>?_;obtain⟨l,rs,j,rfl,T,hz,k⟩:=h;obtain⟨g,Y,fv⟩:=(tJ Z:).fv;refine⟨_,(aO (bc (qF (Oz Z:) W (ai (pv 0) (ai (pv 1) (ai (vL U Y) aq)))))),?_⟩;refine⟨l,rs,g,ab.ak.shown,j,U,T,hz,⟨_,fv,λa r R N V O X=>⟨a,r,U,V,X R (aF.refl _)⟩⟩,?_⟩;rw[ab.GG];exact k
def Ik:Sc ["row","p","q","front","back"] 3 34:=by walk_at"s"
inductive ae5(K:aw)(C:ae)(vs:List V)(H:Hp)(Q:VK)(_:XK):Prop|mk(l rs:_)(i j:Nat)(_:vs=[.ref l,.int i,.int j])(_:i<=j)(_:bF K C H l rs)(_:rs.length+1<2^24)(_:∀t l1 l2 l3 H',H' t=aa (.bh [.ref l1,.ref l2,.ref l3])->bF K C H' l1 (ab.bu rs i).1->bF K C H' l2 (ab.bu (ab.bu rs i).2 (j-i)).1->bF K C H' l3 (ab.bu (ab.bu rs i).2 (j-i)).2->H l1=aj->H l2=aj->H l3=aj->aF H H'->Q (.ref t) H')
def m2(rs:List ab.ak)(p:Nat):(ab.bu rs p).1.length+(ab.bu rs p).2.length<=rs.length+1:=by
 induction rs generalizing p with
 |nil=>simp[ab.bu]
 |cons r rs Z=>
  unfold ab.bu;split
  .split
   .simp
   .split
    .simp;lia
    .have:=Z (p-r.cells.length);simp only[bY];lia
  .have:=Z p;simp only[bY];lia
def Hj:Cz Z "divide_stretch" ["row","p","q"] 6 (ae5 K A.cr):=by
 refine Z.U3.ok Ik λf v n outer s H r Q E L h=>?_;obtain⟨l,rs,i,j,rfl,y,x,hz,k⟩:=h;refine⟨_,(aH (qS 3 Ik.nd (qF (yG Z:) L (ai (pv 0) (ai (pv 1) aq)))) (aH (qS 4 Ik.nd (qF (yG Z:) L (ai (qT K (pv 3) aU) (ai (b6 iK (pv 2) (pv 1)) aq)))) (aO (bc (fB (ai (qT K (pv 3) aU) (ai (qT K (pv 4) aU) (ai (qT K (pv 4) aU) aq)))))))),?_⟩;refine⟨l,rs,i,U,x,by lia,λt N O u M D F n1 q T=>?_⟩;have w:(j:Int)-(i:Int)=((j-i:Nat):Int):=by lia
 refine⟨t,_,1,_,U,U,aY.of M,bt (j:=1) U,?_⟩;show Qz K A.cr [V.ref O,V.int ((j:Int)-(i:Int))] u _ _;rw[w];have:=m2 rs i;refine⟨O,_,j-i,U,F,by lia,λS P R p Y G I z B W=>?_⟩;refine⟨t,_,0,_,U,U,aY.of (W _ _ M),bt (j:=0) U,S,_,0,_,U,U,aY.of Y,bt (j:=0) U,S,_,1,_,U,U,aY.of Y,bt (j:=1) U,by show 3<=aS;decide,λJ C=>?_⟩;have X:=bg (o:=.bh [.ref N,.ref P,.ref R]) C;exact k J N P R _ aJ ((D.same W).same X) (G.same X) (I.same X) n1 (T.free z) (T.free B) (T.trans (W.trans X))
def dz{fs:List (Str×V)}(h:(f==g)=aB)(k:lu f fs=aa u):lu f ((g,v)::fs)=aa u:=(mZ h).trans k
noncomputable def kM(c:ab.cT):List (Str×V):=[("author",NI c.author),("time",NI c.time),("kind",NI c.kind),("accepted",.int c.t.a),("rejected",.int c.t.r),("fallen",.int c.t.f)]
def gX(C:ae)(H:Hp)(a:ae)(c:ab.cT):Prop:=∃dx,H a=aa (.ins C dx (kM c))
section
variable{C:ae}{H:Hp}{a:ae}{c:ab.cT}
theorem gX.author(h:gX C H a c):fL C H a "author" (NI c.author):=let⟨dx,e⟩:=h;⟨dx,_,e,fS⟩
theorem gX.time(h:gX C H a c):fL C H a "time" (NI c.time):=let⟨dx,e⟩:=h;⟨dx,_,e,dz ‹_› fS⟩
theorem gX.kind(h:gX C H a c):fL C H a "kind" (NI c.kind):=let⟨dx,e⟩:=h;⟨dx,_,e,dz ‹_› (dz ‹_› fS)⟩
def gX.acc(h:gX C H a c):fL C H a "accepted" (.int c.t.a):=let⟨dx,e⟩:=h;⟨dx,_,e,dz ‹_› (dz ‹_› (dz ‹_› fS))⟩
def gX.PX(h:gX C H a c):fL C H a "rejected" (.int c.t.r):=let⟨dx,e⟩:=h;⟨dx,_,e,dz ‹_› (dz ‹_› (dz ‹_› (dz ‹_› fS)))⟩
def gX.L5(h:gX C H a c):fL C H a "fallen" (.int c.t.f):=let⟨dx,e⟩:=h;⟨dx,_,e,dz ‹_› (dz ‹_› (dz ‹_› (dz ‹_› (dz ‹_› fS))))⟩
end
noncomputable def gu(au ti:Nat)(tr:Bool)(cl rl:ae):List (Str×V):=[("author",NI au),("time",NI ti),("tracking",.bl tr),("changes",.ref cl),("row",.ref rl)]
def g9(C:ae)(H:Hp)(t:ae)(au ti:Nat)(tr:Bool)(cl rl:ae):Prop:=∃dx,H t=aa (.ins C dx (gu au ti tr cl rl))
section
variable{C:ae}{H:Hp}{t cl rl:ae}{au ti:Nat}{tr:Bool}
theorem g9.author(h:g9 C H t au ti tr cl rl):fL C H t "author" (NI au):=let⟨dx,e⟩:=h;⟨dx,_,e,fS⟩
theorem g9.time(h:g9 C H t au ti tr cl rl):fL C H t "time" (NI ti):=let⟨dx,e⟩:=h;⟨dx,_,e,dz ‹_› fS⟩
theorem g9.tracking(h:g9 C H t au ti tr cl rl):fL C H t "tracking" (.bl tr):=let⟨dx,e⟩:=h;⟨dx,_,e,dz ‹_› (dz ‹_› fS)⟩
theorem g9.changes(h:g9 C H t au ti tr cl rl):fL C H t "changes" (.ref cl):=let⟨dx,e⟩:=h;⟨dx,_,e,dz ‹_› (dz ‹_› (dz ‹_› fS))⟩
theorem g9.row(h:g9 C H t au ti tr cl rl):fL C H t "row" (.ref rl):=let⟨dx,e⟩:=h;⟨dx,_,e,dz ‹_› (dz ‹_› (dz ‹_› (dz ‹_› fS)))⟩
def g9.same(h:g9 C H t au ti tr cl rl)(s:aF H H'):g9 C H' t au ti tr cl rl:=let⟨dx,e⟩:=h;⟨dx,s _ _ e⟩
end
structure ea (C:ae) (H:Hp) (cl:ae) (ca:List ae) (aI:List ab.cT):Prop where
 nd:ca.Nodup
 aC:H cl=aa (.aC (ca.map V.ref))
 bG:ca.length=aI.length
 at_:∀(i:Nat) (a:ae) (c:ab.cT),ca[i]?=aa a->aI[i]?=aa c->gX C H a c
def ea.same{aI:List ab.cT}(h:ea C H cl ca aI)(s:aF H H'):ea C H' cl ca aI:=
 ⟨h.nd,s _ _ h.aC,h.bG,λi a c Y Z=>let⟨dx,e⟩:=h.at_ i a c Y Z;⟨dx,s _ _ e⟩⟩
def ea.get{aI:List ab.cT}(h:ea C H cl ca aI){i:Nat}{c:ab.cT}(e:aI[i]?=aa c):∃a,ca[i]?=aa a/\gX C H a c/\(ca.map V.ref)[i]?=aa (.ref a):=by
 have Z:i<ca.length:=by rw[h.bG];exact gE e
 refine⟨ca[i],dC Z,h.at_ i _ c (dC Z) e,?_⟩;rw[cf,dC Z];rfl
def adO:kq ["self","author","time","kind"] ["self","author","time","kind"] (cF (n8 (bo 41) 0)):=by walk_at"s"
inductive aeU(C:ae)(vs:List V)(H:Hp)(Q:VK)(_:XK):Prop|mk(a dx:ae)(au ti kn:Nat)(_:vs=[.ref a,NI au,NI ti,NI kn])(_:H a=aa (.ins C dx []))(_:∀H',gX C H' a ⟨au,ti,kn,ab.T3.zero⟩->(∀b o,H b=aa o->b≠a->H' b=aa o)->Q .bW H')
def abc(Z:Zd P w K mg base A zc Pt):qa P w K mg base "Change" A.cc ["self","author","time","kind"] 1 (aeU A.cc):=by
 refine Z.Zm.ok adO λf W O outer s H V Q E S h=>?_;obtain⟨a,dx,R,T,kn,rfl,X,k⟩:=h;refine⟨_,(aH (cY Z.fI Z.qu (pv 0) (pv 1)) (aH (cY Z.fI Z.EI (pv 0) (pv 2)) (aH (cY Z.fI Z.AE (pv 0) (pv 3)) (aH (cY Z.fI Z.AB (pv 0) aU) (aH (cY Z.fI Z.AF (pv 0) aU) (aO (cY Z.fI Z.AD (pv 0) aU))))))),?_⟩;refine⟨a,dx,[],U,X,by decide,?_⟩;refine⟨a,dx,_,U,aJ,by show 1<1000;decide,?_⟩;refine⟨a,dx,_,U,aJ,by show 2<1000;decide,?_⟩;refine⟨a,dx,_,U,aJ,by show 3<1000;decide,?_⟩;refine⟨a,dx,_,U,aJ,by show 4<1000;decide,?_⟩;refine⟨a,dx,_,U,aJ,by show 5<1000;decide,?_⟩;show Q .bW _;rw[fO,fO,fO,fO,fO]
 repeat(first|rw[tM]|rw[dQ ‹_›])
 exact k _ ⟨dx,aJ⟩ λb o e Y=>by rw[a_ Y];exact e
def GV{s l i d x:ae}{G:Hp->Prop}(Y:oX K H s l i d p r)(nx:H x=aj)(nd:H dx=aj)(ne:dx≠x)(k:∀H',eD K C H' x r->aF H H'->G H'):IM C ([.ref x,.ref s,.ref l,.ref i,.ref d,.ref p]) (aM (aM H dx (.own x)) x (.ins C dx [])) (λv H2=>v=.bW/\G H2) E:=by refine⟨x,dx,s,l,i,d,p,U,aJ,λH' X hk=>⟨U,?_⟩⟩;have Z:aF H H':=aF.made nx nd hk;exact k H' ⟨s,l,i,d,p,X,Y.up (Z.le C)⟩ Z
def adS:kq ["self"] ["self"] (cF (n8 (bo 42) 0)):=by walk_at"s"
noncomputable def Cq:ab.ak:=⟨[(10,[0,0,0,0])],[],[],[]⟩
inductive afS(K:aw)(A:br)(vs:List V)(H:Hp)(Q:VK)(_:XK):Prop|mk(a dx:ae)(_:vs=[.ref a])(_:H a=aa (.ins A.ct dx []))(_:∀cl rl H',g9 A.ct H' a 1 0 aB cl rl->H' cl=aa (.aC [])->bF K A.cr H' rl [Cq]->H cl=aj->(∀b o,H b=aa o->b≠a->H' b=aa o)->Q .bW H')
def abe(Z:Zd P w K mg base A zc Pt):qa P w K mg base "Text" A.ct ["self"] 3 (afS K A):=by
 refine Z.Zq.ok adS λf j Ar outer s H i Q E n h=>?_;obtain⟨a,dx,rfl,m,k⟩:=h;refine⟨_,(aH (cY Z.cA Z.C3 (pv 0) aU) (aH (cY Z.cA Z.C4 (pv 0) aU) (aH (cY Z.cA Z.C5 (pv 0) oe) (aH (cY Z.cA Z.kg (pv 0) (b9 aq)) (aO (cY Z.cA Z.eI (pv 0) (b9 (ai (m6 (qW Z:) (n.mono (by decide)) U (ai (fB (ai (cx U Z.uZ) aq)) (ai (fB (ai (vL U Z.Fg) aq)) (ai (fB aq) (ai (fB aq) (ai (fB aq) aq)))))) aq)))))))),?_⟩;refine⟨a,dx,[],U,m,by decide,?_⟩;refine⟨a,dx,_,U,aJ,by show 1<1000;decide,?_⟩;refine⟨a,dx,_,U,aJ,by show 2<1000;decide,?_⟩;rw[fO,fO]
 repeat(first|rw[tM]|rw[dQ ‹_›])
 refine⟨cN _,λcl Y=>?_⟩;have V:cl≠a:=λe=>by rw[e,aJ]at Y;cases Y
 refine⟨a,dx,_,U,by rw[a_ (cU V),aJ],by show 3<1000;decide,?_⟩
 repeat(first|rw[tM]|rw[dQ ‹_›])
 generalize F:aM (aM (aM H a _) cl _) a _=H1;have R:H1 a=aa (.ins A.ct dx [("author",.int 1),("time",.int 0),("tracking",.bl aB),("changes",.ref cl)]):=by rw[<-F,aJ]
 have G:H1 cl=aa (.aC []):=by rw[<-F,a_ V,aJ]
 have J:∀b o,H b=aa o->b≠a->H1 b=aa o:=λb o e O=>by
  have:b≠cl:=λq=>by rw[<-q,a_ O,e]at Y;cases Y
  rw[<-F,a_ O,a_ this,a_ O];exact e
 have I:H cl=aj:=by rw[a_ V]at Y;exact Y
 refine⟨by show 1<=aS;decide,λg n1=>⟨by show 1<=aS;decide,λc p=>⟨cN _,λi1 t=>⟨cN _,λd1 u=>⟨cN _,λd v=>λx l nx nd ne=>?_⟩⟩⟩⟩⟩;have M:=bg (o:=.bh [.int 10]) n1;have N:=bg (o:=.bh [.ref A.plain]) p;have T:=bg (o:=.bh []) t;have W:=bg (o:=.bh []) u;have X:=bg (o:=.bh []) v;have D:=M.trans (N.trans (T.trans (W.trans X)));refine GV (K:=K) (r:=Cq) ⟨(N.trans (T.trans (W.trans X))) _ _ aJ,⟨[(A.plain,[0,0,0,0])],U,aY.of ((T.trans (W.trans X)) _ _ aJ),λz hz=>?_⟩,aY.of ((W.trans X) _ _ aJ),aY.of (X _ _ aJ),⟨[],U,aY.of aJ,λz hz=>by simp at hz⟩⟩ nx nd ne λH4 y B=>?_
 .rw [bx]at hz;subst hz;exact Z.plain _
 refine⟨by show 1<=aS;decide,λrl S=>?_⟩;have C:=bg (o:=.aC [.ref x]) S;have sa:=D.trans (B.trans C);refine⟨a,dx,_,U,sa _ _ R,by show 4<1000;decide,?_⟩
 repeat(first|rw[tM]|rw[dQ ‹_›])
 have L:rl≠a:=λe=>by rw[e,(D.trans B) _ _ R]at S;cases S
 refine k cl rl _ ⟨dx,aJ⟩ (by rw[a_ V];exact sa _ _ G) ⟨[(x,Cq)],U,by rw[a_ L,aJ];rfl,λz hz=>?_⟩ I λb o e O=>by rw[a_ O];exact sa _ _ (J b o e O)
 rw[bx]at hz;subst hz;refine(y.up (C.le _)).up λb o e f=>?_;have:b≠a:=λq=>by rw[q,sa _ _ R]at e;cases e;have:=Z.apart;simp[i6]at this;exact this.1.2.1 f.symm
 rw[a_ this];exact e
structure Tx (A:br) (H:Hp) (t cl rl:ae) (ca:List ae) (s:bf):Prop where
 tx:g9 A.ct H t s.doc.author s.doc.time s.doc.tracking cl rl
 aI:ea A.cc H cl ca (ab.eB s)
 hZ:s.tallies.length=bj s
theorem Tx.same{A:br}{H X:Hp}{t cl rl:ae}{Y:List ae}{s:bf}(h:Tx A H t cl rl Y s)(Z:aF H X):Tx A X t cl rl Y s:=⟨h.tx.same Z,h.aI.same Z,h.hZ⟩
def Tx.n{A:br}{t:ae}(h:Tx A H t cl rl ca s):ca.length=bj s:=h.aI.bG.trans (ab.Ly h.hZ)
structure cV (K:aw) (A:br) (H:Hp) (t cl:ae) (ca:List ae) (s:bf) (rs:List ab.ak):Prop where
 ex:∃rl,Tx A H t cl rl ca s/\bF K A.cr H rl rs
 ao:ab.ao rs=s.doc.row
 bN:ab.bP rs
structure Sz (s:bf):Prop where
 wf:ab.WF s
 pW:s.doc.row.length<7000000
 dh:bj s<500
def Sz.ok(z:Sz s)(e:ab.ao rs=s.doc.row)(f:ab.bP rs):cM (bj s) rs:=⟨f,λx Z=>z.wf.all x (e▸Z),by rw[e];exact z.pW,jO z.dh⟩
def e8(K:aw)(A:br)(Z:List ae)(H:Hp)(t cl:ae)(ca:List ae)(s:bf)(c:bV)(Q:VK):Prop:=
 ∀l Y X H',cV K A H' t cl Y (cP s c).1 X->H' l=aa (.aC ((gO (cP s c).2).map V.int))->H l=aj->bZ (Z++t::cl::ca) H H'->(∀a∈Y,a∈ca\/H a=aj)->Q (.ref l) H'
def aa2{c:ab.cT}(h:gX C H a c)(Z:H b=aa (.aC xs)):a≠b:=λe=>by obtain⟨dx,h⟩:=h;rw[e,Z]at h;cases h
theorem e8.same{K:aw}{A:br}{Z:List ae}{H Y:Hp}{t cl:ae}{T:List ae}{s:bf}{rs:List ab.ak}{c:bV}{Q:VK}(d:e8 K A Z H t cl T s c Q)(h:cV K A H t cl T s rs)(e:(cP s c).1=s){l:ae}{xs:List Int}(S:gO (cP s c).2=xs)(X:aF H Y)(nl:H l=aj)(R:Y l=aa (.aC (xs.map V.int))):Q (.ref l) Y:=by obtain⟨rl,tx,row⟩:=h.ex;refine d l T rs Y ?_ (by rw[S];exact R) nl (X.x _) λa P=>.inl P;rw[e];exact⟨⟨rl,tx.same X,row.same X⟩,h.ao,h.bN⟩
def ad6:Sc ["text","c"] 2 46:=by walk_at"s"
inductive ae6(A:br)(vs:List V)(H:Hp)(Q:VK)(_:XK):Prop|mk(t cl rl ca s:_)(c:Int)(_:vs=[.ref t,.int c])(_:Tx A H t cl rl ca s)(_:Q (.bl (dD s c)) H)
def vD:Cz Z "is_entered" ["text","c"] 1 (ae6 A):=by
 refine Z.U'.ok ad6 λf X R outer s H T Q E S h=>?_;obtain⟨t,cl,rl,W,s,c,rfl,tx,k⟩:=h;refine⟨_,(aO (bc (Hx d3 d3 aU (pv 1) (qN K Z.eQ (ai (aX Z.cA Z.kg (pv 0)) aq))))),?_⟩;unfold dD dY at k;refine(aZ (λY=>?_) λY=>?_)
 .refine ⟨t,_,U,tx.tx.changes,cl,_,U,dB.ls tx.aI.aC,?_⟩;rw[show decide (((1:Nat):Int)<=c)=ah from Y,gg]at k;show Q (.bl (decide (c<=((W.map V.ref).length:Int)))) H;rw[aP,tx.n];exact k
 .rw [show decide (((1:Nat):Int)<=c)=aB from Y,dj]at k;exact k
def ad1:Sc ["text"] 1 47:=by walk_at"s"
inductive aeX(A:br)(vs:List V)(H:Hp)(Q:VK)(_:XK):Prop|mk(t cl rl ca s:_)(_:vs=[.ref t])(_:Tx A H t cl rl ca s)(_:Q (NI (dH s.doc)) H)
def yE:Cz Z "coming_change" ["text"] 1 (aeX A):=by refine Z.UR.ok ad1 λf Y S outer s H W Q E T h=>?_;obtain⟨t,cl,rl,X,s,rfl,tx,k⟩:=h;refine⟨_,(aO (bc (b6 f9 (qN K Z.eQ (ai (aX Z.cA Z.kg (pv 0)) aq)) aU))),?_⟩;refine⟨t,_,U,tx.tx.changes,cl,_,U,dB.ls tx.aI.aC,?_⟩;show Q (.int (((X.map V.ref).length:Int)+1)) H;rw[aP,tx.n];exact k
def adY:Sc ["run","m"] 2 48:=by walk_at"s"
def qK(ns:List Nat):List Nat:=match ns.getLast? with|none=>[]|some x=>[x]
def LN(ns:List Nat):fi (ns.map NI) (aa (-1)) aj=(qK ns).map NI:=by
 unfold fi;have e:HT.cD (ns.map NI).length 0 (aa (-1))=ns.length-1:=by show(if(-1:Int)<0 then((-1:Int)+((ns.map NI).length:Int)).toNat else min (-1:Int).toNat (ns.map NI).length)=ns.length-1;rw[aA (show(-1:Int)<0 by decide),aP];lia
 rw[e,HT.Ib,<-lx,<-ly];congr 1;unfold qK;rcases oG ns with q|⟨l,a,q⟩
 .subst q;rfl
 .rw [oE]at q;subst q;rw[rH,bb,aP];simp
def AR{ns:List Nat}(h:dF K H a ns):Dp K H (.ref a) (.tuple (ns.map λn:Nat=>D8 (n:Int))):=by
 refine .bh h ?_;clear h
 induction ns with
 |nil=>exact .nil
 |cons n ns Z=>exact .cons (.int _) Z
def AV(ns:List Nat)(m:Nat):zZ (.tuple ((qK ns).map λn:Nat=>D8 (n:Int))) (.tuple (([m]:List Nat).map λn:Nat=>D8 (n:Int)))=(ns.getLast?==aa m):=by
 unfold qK;cases ns.getLast? with
 |none=>rfl
 |some x=>
  show zZ (.tuple [.int (x:Int)]) (.tuple [.int (m:Int)])=_;by_cases e:x=m
  .subst e;simp[zZ,oQ.eqvAll]
  .have Z:¬(x:Int)=(m:Int):=by lia
   have:(aa x==aa m)=aB:=‹e›
   rw[this];simp[zZ,oQ.eqvAll,Z]
def Qp(ns:List Nat):Kv (.tuple ((qK ns).map λn:Nat=>D8 (n:Int)))=ah:=by unfold qK;cases ns.getLast?<;>rfl
inductive aeR(K:aw)(C:ae)(vs:List V)(H:Hp)(Q:VK)(_:XK):Prop|mk(a r:_)(m:Nat)(_:vs=[.ref a,.int m])(_:eD K C H a r)(_:∀H',aF H H'->Q (.bl (ab.hA m r)) H')
def abm:Cz Z "bears_newest" ["run","m"] 1 (aeR K A.cr):=by
 refine Z.UM.ok adY λf eA Ar outer s H vs Q E u h=>?_;obtain⟨a,r,m,rfl,⟨s1,l,i,d,p,F,I⟩,k⟩:=h;refine⟨_,(aH (bO (PW.pt (vQ (cK (OM u.units) (oh (r:=yW K) CM (aX Z.bS Z.jF (pv 0)) (kc (q0 ro aU)) vP) (fB (ai (pv 1) aq)) (cB _)) (vR (cK (OM u.units) (oh (r:=yW K) CM (aX Z.bS Z.lZ (pv 0)) (kc (q0 ro aU)) vP) (fB (ai (pv 1) aq)) (cB _))))) (aO (bc oe)) bX) (aO (bc (acn (lW ON (qN K Z.eQ (ai (aX Z.bS Z.jG (pv 0)) aq)) aU (cB _)) (yM (lW dI (qT K (qT K (aX Z.bS Z.jG (pv 0)) (q0 ro aU)) aU) (pv 1) (cB _))))))),?_⟩;unfold ab.hA at k;refine⟨a,_,U,F.ins,i,_,U,I.ins,λi2 H2 n _ M=>?_⟩;rw[show(-1:Int)=-1 from U,LN]at n;refine⟨by show 1<=aS;decide,λq c=>?_⟩;have B:=bg (o:=.bh [.int (m:Nat)]) c;have W:=M.trans B;refine⟨_,_,AR (ns:=qK r.ins) (dS (B.le 0) n),AR (ns:=[m]) (aY.of aJ),Qp _,U,aZ (λX=>?_) λX=>?_⟩
 .rw [AV]at X;rw[X,gW]at k;exact k _ W
 rw[AV]at X;rw[X,gf]at k;have G:=F.up (W.le _);refine⟨a,_,U,G.del,d,_,U,I.del.up (W.le 0),λd2 H4 t _ N=>?_⟩;rw[show(-1:Int)=-1 from U,LN]at t;refine⟨by show 1<=aS;decide,λx L=>?_⟩;have C:=bg (o:=.bh [.int (m:Nat)]) L;have Y:=W.trans (N.trans C);refine⟨_,_,AR (ns:=qK r.del) (dS (C.le 0) t),AR (ns:=[m]) (aY.of aJ),Qp _,U,aZ (λX=>?_) λX=>?_⟩
 .rw [AV]at X;rw[X,gW]at k;exact k _ Y
 rw[AV]at X;rw[X,gf]at k;have P:=F.up (Y.le _);have R:=I.pend.up (Y.le 0);refine⟨a,_,U,P.pend,p,_,U,dB.tt R,aZ (λO=>?_) λO=>?_⟩
 .have T:r.pend≠[]:=λe=>by
   rw[e]at O;cases O
  obtain⟨y,w⟩:∃y,r.pend.getLast?=aa y:=⟨_,JW T⟩;obtain⟨zs,b,g,x⟩:=id R;obtain⟨z,hz,J⟩:∃z,zs.getLast?=aa z/\z.2=eX y:=by
   have:(zs.map (·.2)).getLast?=aa (eX y):=by rw[b,ua,w];rfl
   rw[ua]at this;cases q:zs.getLast? with
   |none=>rw[q]at this;cases this
   |some z=>rw[q]at this;exact⟨z,U,dX this⟩
  have S:z∈zs:=ud hz;have v:=x z S;rw[J]at v;have D:j1 (zs.map rf) (-1)=aa (rf z):=by
   have hl:0<zs.length:=JY S;unfold j1 kR;rw[ay (by decide),aP];rw[aA (by lia)];rw[DF]at hz;show(zs.map rf)[_]?=_;rw[cf];have:((-1:Int)+(zs.length:Int)).toNat=zs.length-1:=by lia
   rw[this,hz];rfl
  refine⟨a,_,U,P.pend,p,_,_,_,U,U,g,D,z.1,_,0,_,U,U,v,bt (j:=0) U,U,?_⟩;show Q (.bl (decide (NI y.change=V.int (m:Nat)))) _;rw[show decide (NI y.change=V.int (m:Nat))=_ from eR y.change m];have:=k _ Y;rw[w]at this;exact this
 .have T:r.pend=[]:=by
   cases q:r.pend with
   |nil=>rfl
   |cons y l=>
    rw[q]at O;have:=fh O;simp at this
  have:=k _ Y;rw[T]at this;exact this
def Cy:Sc ["text","kind","made","m","run"] 3 49:=by walk_at"s"
inductive II(K:aw)(A:br)(vs:List V)(H:Hp)(Q:VK)(_:XK):Prop|mk(t cl rl ca s ml BI:_)(kn:Nat)(_:vs=[.ref t,.int kn,.ref ml])(_:Tx A H t cl rl ca s)(_:bF K A.cr H ml BI)(_:BI.length<2^24)(_:bj s<500)(_:(BI.any (ab.hA (dH s.doc))=aB->∀H',aF H H'->Q (NI 0) H'))(_:(BI.any (ab.hA (dH s.doc))=ah->∀a H',H a=aj->gX A.cc H' a ⟨s.doc.author,s.doc.time,kn,ab.T3.zero⟩->H' cl=aa (.aC ((ca++[a]).map V.ref))->bZ [cl] H H'->Q (NI (dH s.doc)) H'))
def B1:Cz Z "enter_change" ["text","kind","made"] 3 (II K A):=by
 refine Z.U4.ok Cy λf i Ar outer s H c Q E L h=>?_;obtain⟨t,cl,rl,g,s,u,Y,kn,rfl,tx,⟨zs,v,w,l⟩,hz,B,p,P⟩:=h;have el:zs.length=Y.length:=by rw[<-v,aP]
 have q:=eF;refine⟨_,(aH (qS 3 Cy.nd (qF (yE Z:) L (ai (pv 0) aq))) (aH (bO (eH (d_ (lV (r:=HJ K) (LI U) U Z.N7 Se (ai (hU U Cy.nd (qI K (pv 2)) (fw (N:=["text","kind","made","m","run"]) (sc:=cF (bo 49)) (own:=[("run",4)]) ‹_›) (λ_ _ _ _ _=>(qG 4 Cy.nd)) (λ_ _ _ _ _=>jE) (λ_ _ _ _ _=>(qF (abm Z:) L (ai (pv 4) (ai (pv 3) aq))))) aq)))) (aO (bc aU)) bX) (aH (eT (fA fQ jQ kz j6 (aX Z.cA Z.kg (pv 0)) (ai (m6 (abc Z:) (L.mono (by decide)) U (ai (aX Z.cA Z.C3 (pv 0)) (ai (aX Z.cA Z.C4 (pv 0)) (ai (pv 1) aq)))) aq))) (aO (bc (pv 3)))))),?_⟩;refine⟨t,cl,rl,g,s,U,tx,u,U,⟨_,aL.of w⟩,λD m=>fJ zs (λ_=>ah) (λz=>.bl (ab.hA (dH s.doc) z.2)) ff (λR W=>aL.of (W _ _ w)) m (by lia) ?_ λR W C=>?_⟩
 .rintro n z x R a Qn hz W P _ k ⟨d,O,rfl⟩
  cases hz.symm.trans O;refine k ?_;exact⟨U,z.1,z.2,dH s.doc,U,(l z (ck hz)).up (W.le _),λG S=>P U G S⟩
 .rw [lK]at C;have j:((zs.map λz=>ab.hA (dH s.doc) z.2).any id)=Y.any (ab.hA (dH s.doc)):=by
   rw[<-v,rF,rF];rfl
  refine⟨D,zs.map λz=>ab.hA (dH s.doc) z.2,U,aL.of (by rw[C,bR];rfl),?_⟩;rw[j];refine aZ (λT=>?_) λT=>?_
  .exact p ‹T› R W
  .have J:Y.any (ab.hA (dH s.doc))=ah:=‹T›
   have X:=tx.same W;refine⟨t,_,U,X.tx.changes,.inl ⟨U,_,aL.of X.aI.aC⟩,t,_,U,X.tx.author,t,_,U,X.tx.time,λx dx nx nd ne=>?_⟩;refine⟨x,dx,s.doc.author,s.doc.time,kn,U,aJ,λG y hk=>⟨U,?_⟩⟩;have S:aF R G:=aF.made nx nd hk;have V:=S _ _ X.aI.aC;have M:x≠cl:=aa2 y V;refine⟨cl,_,_,U,U,V,by rw[aP,tx.n];lia,?_⟩;refine(P J x _ (W.free nx) ?_ ?_ ?_)
   .obtain ⟨I,e⟩:=y;exact⟨I,by rw[a_ M];exact e⟩
   .rw [aJ,cG];rfl
   .intro b o e T;rw[a_ ‹T›];exact S _ _ (W _ _ e)
def P_:Sc ["text","run","last"] 2 50:=by walk_at"s"
def OT(s:bf)(r:ab.ak):Bool:=Vatrka.own s.doc (r.bz (0,[]))
inductive afn(K:aw)(A:br)(vs:List V)(H:Hp)(Q:VK)(_:XK):Prop|mk(t cl rl ca s a r:_)(_:vs=[.ref t,.ref a])(_:Tx A H t cl rl ca s)(_:eD K A.cr H a r)(_:(∀c∈r.ins,1<=c/\c<=bj s))(_:Q (.bl (OT s r)) H)
def Li{Z:Type}{xs:List Z}{x:Z}(h:xs.getLast?=aa x):j1 xs (-1)=aa x:=by
 have Y:0<xs.length:=JY (ud h);unfold j1 kR;rw[ay (by decide),aA (by omega)];rw[DF]at h;show xs[_]?=_;have:((-1:Int)+(xs.length:Int)).toNat=xs.length-1:=by omega
 rw[this,h]
def abr:Cz Z "is_own" ["text","run"] 1 (afn K A):=by
 refine Z.Va.ok P_ λf D u outer s H B Q E y h=>?_;obtain⟨t,cl,rl,w,s,a,r,rfl,tx,⟨z,l,i,d,p,M,N⟩,V,k⟩:=h;refine⟨_,(aH (bO (cK dI (qN K Z.eQ (ai (aX Z.bS Z.jF (pv 1)) aq)) aU (cB _)) (aO (bc oe)) bX) (aH (qS 2 P_.nd (qL K (aX Z.cA Z.kg (pv 0)) (b6 iK (qT K (aX Z.bS Z.jF (pv 1)) (q0 ro aU)) aU))) (aO (bc (lW dI (aX Z.fI Z.qu (pv 2)) (aX Z.cA Z.C3 (pv 0)) (cB _)))))),?_⟩;unfold OT Vatrka.own at k;refine⟨a,_,U,M.ins,i,_,U,dB.tn N.ins,U,aZ (λX=>?_) λX=>?_⟩
 .have e:r.ins=[]:=by
   have:=cQ X;injection this with this;exact gh.mp (by lia)
  have O:(r.bz (0,[])).ins.getLast?=aj:=by show r.ins.getLast?=aj;rw[e];rfl
  rw[O]at k;exact k
 .have W:r.ins≠[]:=λe=>by
   rw[e]at X;cases X
  obtain⟨c,S⟩:∃c,r.ins.getLast?=aa c:=⟨_,JW W⟩;have O:(r.bz (0,[])).ins.getLast?=aa c:=S;rw[O]at k;obtain⟨v,C⟩:=V c (ud S);have T:c-1<s.doc.changes.length:=by unfold bj at C;lia
  obtain⟨ch,Y⟩:∃ch,s.doc.changes[c-1]?=aa ch:=⟨_,dC T⟩;have L:(ab.eB s)[c-1]?=aa ⟨ch.author,ch.time,ch.kind,ab.iu s.tallies (c-1+1)⟩:=by rw[ab.uQ tx.hZ,Y];rfl
  obtain⟨b,J,P,R⟩:=tx.aI.get L;have I:(c:Int)-1=((c-1:Nat):Int):=by lia
  refine⟨t,_,U,tx.tx.changes,a,_,U,M.ins,i,_,_,_,U,U,N.ins,Li (x:=NI c) (by rw[ua,S];rfl),cl,_,_,_,U,U,aL.of tx.aI.aC,by rw[I];exact bt R,?_⟩;refine⟨b,_,U,P.author,t,_,U,tx.tx.author,U,?_⟩;show Q (.bl (decide (NI ch.author=NI s.doc.author))) H;rw[show decide (NI ch.author=NI s.doc.author)=_ from eR _ _];have F:Tf s.doc c=aa ch.author:=by unfold Tf;rw[ay (by lia),Y];rfl
  simp only[F]at k;have G:(aa ch.author==aa s.doc.author)=(ch.author==s.doc.author):=by
   by_cases q:ch.author=s.doc.author
   .rw [q];simp
   .simp [q]
  rw[G]at k;exact k
def ea.x{aI:List ab.cT}(h:ea C H cl ca aI)(s:bZ S H H')(X:cl∉S)(Y:∀a∈ca,a∉S):ea C H' cl ca aI:=
 ⟨h.nd,s _ _ h.aC X,h.bG,λi a c Z W=>let⟨dx,e⟩:=h.at_ i a c Z W;⟨dx,s _ _ e (Y a (ck Z))⟩⟩
def bF.x{K:aw}{l:ae}(h:bF K C H l rs)(s:bZ S H H')(Z:l∉S)(Y:∀b∈S,∀o,H b=aa o->¬ni C o):bF K C H' l rs:=
 let⟨zs,h0,V,X⟩:=h;⟨zs,h0,s _ _ V Z,vX X (s.le Y)⟩
def ir{t:ae}{o:HO}:bZ [t] H (aM H t o):=λb u e Z=>by rw[a_ ‹Z›];exact e
def _root_.L2.aF.wj(a:aF H H')(b:bZ S H' H2):bZ S H H2:=λc o e n=>b c o (a c o e) n
def bZ.to(a:bZ S H H')(b:aF H' H2):bZ S H H2:=λc o e n=>b c o (a c o e n)
section
variable{K:aw}{mg:Str->Option af}{A:br}{H:Hp}{t cl rl:ae}{ca:List ae}{s:bf}
def gB.aaU(T:gB K mg A):A.ct≠A.cc:=λe=>by have:=T.apart;simp[i6]at this;exact this.2.1.1 e.symm
def gB.Ob(T:gB K mg A):A.ct≠A.cr:=λe=>by have:=T.apart;simp[i6]at this;exact this.1.2.1 e.symm
def gB.aaR(T:gB K mg A):A.cc≠A.cr:=λe=>by have:=T.apart;simp[i6]at this;exact this.1.1 e.symm
def Tx.IY(h:Tx A H t cl rl ca s):t≠cl:=λe=>by obtain⟨dx,q⟩:=h.tx;rw[e,h.aI.aC]at q;cases q
def ea.mem{aI:List ab.cT}(h:ea C H cl ca aI)(X:a∈ca):∃c,gX C H a c:=by
 obtain⟨i,Z⟩:=DD X;have Y:i<aI.length:=by rw[<-h.bG];exact gE Z
 exact⟨_,h.at_ i a _ Z (dC Y)⟩
def Tx.xN(T:gB K mg A)(h:Tx A H t cl rl ca s)(X:a∈ca):a≠t/\a≠cl:=by
 obtain⟨c,dx,Z⟩:=h.aI.mem X;refine⟨λe=>?_,λe=>?_⟩
 .obtain ⟨W,q⟩:=h.tx;rw[<-e,Z]at q;injection q with q;injection q with Y;exact T.aaU Y.symm
 .rw [e,h.aI.aC]at Z;cases Z
def tN:dJ "row" (.ref nl) (gu au ti tr cl rl)=gu au ti tr cl nl:=by unfold gu;rw[dQ ‹_›,dQ ‹_›,dQ ‹_›,dQ ‹_›,jD]
def ac7{v:Nat}:dJ "author" (NI v) (gu au ti tr cl rl)=gu v ti tr cl rl:=by unfold gu;rw[jD]
def ac8{v:Nat}:dJ "time" (NI v) (gu au ti tr cl rl)=gu au v tr cl rl:=by unfold gu;rw[dQ ‹_›,jD]
def ac9{b:Bool}:dJ "tracking" (.bl b) (gu au ti tr cl rl)=gu au ti b cl rl:=by unfold gu;rw[dQ ‹_›,dQ ‹_›,jD]
def Tx.set(T:gB K mg A)(h:Tx A H t cl rl ca s){s':bf}(hs:s'.doc.changes=s.doc.changes)(Z:s'.tallies=s.tallies):Tx A (aM H t (.ins A.ct dx (gu s'.doc.author s'.doc.time s'.doc.tracking cl nl))) t cl nl ca s':=by
 refine⟨⟨dx,aJ⟩,?_,?_⟩
 .have e:ab.eB s'=ab.eB s:=by unfold ab.eB;rw[hs,Z]
  rw[e];exact h.aI.x ir ‹cU h.IY› λa Y=>by simpa using(h.xN T Y).1
 .rw [Z,h.hZ];unfold bj;rw[hs]
def Tx.kW(T:gB K mg A)(h:Tx A H t cl rl ca s):∀b∈[t],∀o,H b=aa o->¬ni A.cr o:=λb Z o e f=>by rw[bx]at Z;subst Z;obtain⟨dx,q⟩:=h.tx;rw[q]at e;cases e;exact T.Ob f
def m8{l:ae}{fs:List (Str×V)}(h:bF K C H l rs)(Y:H b=aa (.ins D dx fs)):l≠b:=λe=>by obtain⟨zs,_,Z,_⟩:=h;rw[e,Y]at Z;cases Z
end
def tY{x:Ag}{d:fV}{l:List Nat}(e:cP s c=qp s x)(h:lH s.doc x=(d,.told l)):cP s c=(ab.dP s d,.told (gN l)):=by rw[e];unfold qp ab.dP;rw[h]
def m9{x:Ag}{d:fV}{n:Nat}(e:cP s c=qp s x)(h:lH s.doc x=(d,.refused n)):cP s c=(s,.refused (-(n:Int))):=by rw[e];unfold qp;rw[h]
def e8.refuse{Z:List ae}{t:ae}(d:e8 K A Z H t cl ca s c Q)(h:cV K A H t cl ca s rs){n:Int}(e:cP s c=(s,.refused n))(Y:aF H H'):[V.int n].length<=aS/\∀p,H' p=aj->Q (.ref p) (aM H' p (.aC [.int n])):=by refine⟨by show 1<=aS;decide,λp X=>d.same h (by rw[e]) (xs:=[n]) (by rw[e];rfl) (Y.trans (bg X)) (Y.free X) aJ⟩
def e8.IC(T:gB K mg A){Z:List ae}{t:ae}(d:e8 K A Z H t cl ca s c Q)(tx:Tx A H t cl rl ca s)(row:bF K A.cr H rl rs)(L:ab.ao rs=s.doc.row)(N:ab.bP rs){d':fV}(e:cP s c=(ab.dP s d',.told [0]))(P:d'.changes=s.doc.changes)(M:d'.row=s.doc.row):[V.int 0].length<=aS/\∀p,(aM H t (.ins A.ct dx (gu d'.author d'.time d'.tracking cl rl))) p=aj->Q (.ref p) (aM (aM H t (.ins A.ct dx (gu d'.author d'.time d'.tracking cl rl))) p (.aC [.int 0])):=by
 refine⟨by show 1<=aS;decide,λp Y=>?_⟩;rw[ab.HS s d' P]at e;obtain⟨I,W⟩:=id tx.tx;have S:H p=aj:=by
  by_cases q:p=t
  .rw [q,aJ]at Y;cases Y
  .rw [a_ q]at Y;exact Y
 have R:bZ [t] H (aM H t (.ins A.ct dx (gu d'.author d'.time d'.tracking cl rl))):=ir;have X:=bg (o:=.aC [.int 0]) Y;refine d p ca rs _ ?_ (by rw[e,aJ];rfl) S ((R.to X).mono λb O=>?_) λa J=>.inl J
 .rw [e];exact⟨⟨rl,(tx.set T (s':=⟨d',s.tallies⟩) P U).same X,(row.x R ‹m8 row W› (tx.kW T)).same X⟩,by rw[L];exact M.symm,N⟩
 .rw [bx]at O;subst O;simp
def aef:Sc ["text","a"] 2 43:=by walk_at"s"
inductive afz(K:aw)(A:br)(vs:List V)(H:Hp)(Q:VK)(_:XK):Prop|mk(t cl ca s rs:_)(a:Int)(_:vs=[.ref t,.int a])(_:cV K A H t cl ca s rs)(_:e8 K A [] H t cl ca s (.author a) Q)
def abM:Cz Z "set_author" ["text","a"] 1 (afz K A):=by
 refine Z.VI.ok aef λf O I outer s H N Q E M h=>?_;obtain⟨t,cl,J,s,rs,a,rfl,h,d⟩:=h;obtain⟨rl,tx,row⟩:=h.ex;obtain⟨dx,T⟩:=id tx.tx;refine⟨_,(aH (bO (eH (oi d3 d3 aU (pv 1) aU)) (aO (bc (b9 (ai (cx U Z.lN) aq)))) bX) (aH (cY Z.cA Z.C3 (pv 0) (pv 1)) (aO (bc (b9 (ai aU aq)))))),?_⟩;have X:dY a 1 99=aB->cP s (.author a)=(s,.refused (-2)):=λq=>m9 (n:=2) (x:=.author a) U (by show(if dY a 1 99=ah then _ else _)=_;rw[q];rfl);refine(aZ (λW=>(aZ (λY=>?_) λY=>?_)) λW=>?_)
 .have S:decide (a<=99)=aB:=by cases q:decide (a<=99)with|false=>rfl|true=>rw[show decide (a<=(99:Int))=_ from q]at Y;cases Y
  exact d.refuse h (X (by unfold dY;rw[show decide (a<=((99:Nat):Int))=_ from S,dy])) (aF.refl _)
 .have S:decide (a<=99)=ah:=by cases q:decide (a<=99)with|true=>rfl|false=>rw[show decide (a<=(99:Int))=_ from q]at Y;cases Y
  have L:1<=a:=cQ W;have P:V.int a=NI a.toNat:=by unfold NI;rw[RJ (by omega)]
  refine⟨t,dx,_,U,T,by show 5<1000;decide,?_⟩;rw[P,ac7];have R:dY a 1 99=ah:=by unfold dY;rw[show decide (a<=((99:Nat):Int))=_ from S,show decide (((1:Nat):Int)<=a)=_ from W];rfl
  exact d.IC Z.togB tx row h.ao h.bN (d':={s.doc with author:=a.toNat}) (tY (l:=[0]) (x:=.author a) U (by show(if dY a 1 99=ah then _ else _)=_;rw[aA R])) U rfl
 .exact d.refuse h (X (by unfold dY;rw[show decide (((1:Nat):Int)<=a)=_ from W,dj])) (aF.refl _)
def aeg:Sc ["text","t"] 2 44:=by walk_at"s"
inductive afA(K:aw)(A:br)(vs:List V)(H:Hp)(Q:VK)(_:XK):Prop|mk(t cl ca s rs:_)(a:Int)(_:vs=[.ref t,.int a])(_:cV K A H t cl ca s rs)(_:e8 K A [] H t cl ca s (.clock a) Q)
def abN:Cz Z "set_clock" ["text","t"] 1 (afA K A):=by
 refine Z.VJ.ok aeg λf P L outer s H O Q E N h=>?_;obtain⟨t,cl,M,s,rs,a,rfl,h,d⟩:=h;obtain⟨rl,tx,row⟩:=h.ex;obtain⟨dx,X⟩:=id tx.tx;refine⟨_,(aH (bO (cK pN (pv 1) aU (cB _)) (aO (bc (b9 (ai (cx U Z.lN) aq)))) bX) (aH (bO (cK pN (pv 1) (aX Z.cA Z.C4 (pv 0)) (cB _)) (aO (bc (b9 (ai (cx U Z.Mc) aq)))) bX) (aH (cY Z.cA Z.C4 (pv 0) (pv 1)) (aO (bc (b9 (ai aU aq))))))),?_⟩;refine(aZ (λS=>?_) λS=>?_)
 .have Y:a<0:=cQ S;exact d.refuse h (n:=-2) (m9 (n:=2) (x:=.clock a) U (by show(if a<0 then _ else _)=_;rw[aA Y])) (aF.refl _)
 have Y:¬a<0:=fh S;refine⟨t,_,U,tx.tx.time,aZ (λT=>?_) λT=>?_⟩
 .have W:a<(s.doc.time:Int):=cQ T;exact d.refuse h (n:=-3) (m9 (n:=3) (x:=.clock a) U (by show(if a<0 then _ else _)=_;rw[ay Y,aA W])) (aF.refl _)
 have W:¬a<(s.doc.time:Int):=fh T;have R:V.int a=NI a.toNat:=by unfold NI;rw[RJ (by lia)]
 refine⟨t,dx,_,U,X,by show 5<1000;decide,?_⟩;rw[R,ac8];exact d.IC Z.togB tx row h.ao h.bN (d':={s.doc with time:=a.toNat}) (tY (l:=[0]) (x:=.clock a) U (by show(if a<0 then _ else _)=_;rw[ay Y,ay W])) U rfl
def aeh:Sc ["text","on"] 2 45:=by walk_at"s"
inductive afB(K:aw)(A:br)(vs:List V)(H:Hp)(Q:VK)(_:XK):Prop|mk(t cl ca s rs:_)(a:Int)(_:vs=[.ref t,.int a])(_:cV K A H t cl ca s rs)(_:e8 K A [] H t cl ca s (.track a) Q)
def abO:Cz Z "set_tracking" ["text","on"] 1 (afB K A):=by
 refine Z.VL.ok aeh λf N I outer s H M Q E L h=>?_;obtain⟨t,cl,J,s,rs,a,rfl,h,d⟩:=h;obtain⟨rl,tx,row⟩:=h.ex;obtain⟨dx,W⟩:=id tx.tx;refine⟨_,(aH (bO (eH (oi d3 d3 aU (pv 1) aU)) (aO (bc (b9 (ai (cx U Z.lN) aq)))) bX) (aH (cY Z.cA Z.C5 (pv 0) (lW dI (pv 1) aU (cB _))) (aO (bc (b9 (ai aU aq)))))),?_⟩;have X:dY a 0 1=aB->cP s (.track a)=(s,.refused (-2)):=λq=>m9 (n:=2) (x:=.track a) U (by show(if dY a 0 1=ah then _ else _)=_;rw[q];rfl);refine(aZ (λS=>(aZ (λY=>?_) λY=>?_)) λS=>?_)
 .have T:decide (a<=1)=aB:=by cases q:decide (a<=1)with|false=>rfl|true=>rw[show decide (a<=(1:Int))=_ from q]at Y;cases Y
  exact d.refuse h (X (by unfold dY;rw[show decide (a<=((1:Nat):Int))=_ from T,dy])) (aF.refl _)
 .have T:decide (a<=1)=ah:=by cases q:decide (a<=1)with|true=>rfl|false=>rw[show decide (a<=(1:Int))=_ from q]at Y;cases Y
  refine⟨U,t,dx,_,U,W,by show 5<1000;decide,?_⟩;rw[ac9];have O:decide (V.int a=V.int 1)=(a==1):=by
   by_cases q:a=1
   .subst q;rfl
   .have R:¬V.int a=V.int 1:=λz=>by injection z with z;exact q z
    rw[cE R];exact(fX.mpr q).symm
  rw[O];have P:dY a 0 1=ah:=by unfold dY;rw[show decide (a<=((1:Nat):Int))=_ from T,show decide (((0:Nat):Int)<=a)=_ from S];rfl
  exact d.IC Z.togB tx row h.ao h.bN (d':={s.doc with tracking:=a==1}) (tY (l:=[0]) (x:=.track a) U (by show(if dY a 0 1=ah then _ else _)=_;rw[aA P])) U rfl
 .exact d.refuse h (X (by unfold dY;rw[show decide (((0:Nat):Int)<=a)=_ from S,dj])) (aF.refl _)
def Up{d:fV}{ch:iD}(Z:s.tallies.length=bj s)(hd:d.changes=s.doc.changes++[ch]):ab.eB (ab.dP s d)=ab.eB s++[⟨ch.author,ch.time,ch.kind,ab.T3.zero⟩]:=by unfold ab.eB ab.dP;show List.zipWith _ d.changes (s.tallies++(if s.doc.changes.length<d.changes.length then[(⟨0,0,0⟩:iS)]else[]))=_;rw[hd,aA (by rw[bb];simp),List.zipWith_append (by rw[Z];rfl)];rfl
def E7(T:gB K mg A){Z:List ae}{t ml:ae}{kn:Nat}{Y:List aE}{O W:List ab.ak}(d:e8 K A Z H0 t cl ca s c Q)(w:Tx A H0 t cl rl ca s)(l:aF H0 H1)(z:cP s c=(ab.dP s (ic s.doc kn Y).1,.told (gN [(ic s.doc kn Y).2])))(H:bF K A.cr H1 nl O)(u:H0 nl=aj)(M:ab.ao O=Y)(N:ab.bP O)(D:aF (aM H1 t (.ins A.ct dx (gu s.doc.author s.doc.time s.doc.tracking cl nl))) H2)(r:bF K A.cr H2 ml W)(G:W.any (ab.hA (dH s.doc))=Y.any (eo (dH s.doc)))(pB:W.length<2^24)(dh:bj s<500):II K A [.ref t,.int (kn:Nat),.ref ml] H2 (λv h=>[v].length<=aS/\∀p,h p=aj->Q (.ref p) (aM h p (.aC [v]))) E:=by
 have tx:=w.same l;have g:bZ [t] H1 (aM H1 t (.ins A.ct dx (gu s.doc.author s.doc.time s.doc.tracking cl nl))):=ir;have sX:bZ [t] H1 H2:=g.to D;obtain⟨AU,mW⟩:=id tx.tx;have X:=(tx.set T (dx:=dx) (nl:=nl) (s':=s) U rfl).same D;have I:=H.x sX (by simpa using m8 H mW) (tx.kW T);have free:∀p,H2 p=aj->H0 p=aj:=λp np0=>by
  have P:=D.free np0;by_cases q:p=t
  .rw [q,aJ]at P;cases P
  .rw [a_ q]at P;exact l.free P
 have sub:∀b∈[t],b∈Z++t::cl::ca:=λb R=>by rw[bx]at R;subst R;simp
 refine⟨t,cl,nl,ca,s,ml,W,kn,U,X,r,pB,dh,λR h J=>⟨by show 1<=aS;decide,λp P=>?_⟩,λR a h na hc B J=>⟨by show 1<=aS;decide,λp P=>?_⟩⟩
 .rw [G]at R;have ef:ic s.doc kn Y=({s.doc with row:=Y},0):=by unfold ic;rw[ay (by rw[R];exact cg)]
  rw[ef,ab.HS s {s.doc with row:=Y} rfl]at z;have L:=bg (o:=.aC [NI 0]) P;have C:=J.trans L;refine d p ca O _ ?_ (by rw[z,aJ];rfl) (free p (J.free P)) ((l.wj (sX.to C)).mono sub) λa ha=>.inl ha;rw[z];have F:=X.same C;exact⟨⟨nl,⟨F.tx,F.aI,F.hZ⟩,I.same C⟩,M,N⟩
 .rw [G]at R;have ef:ic s.doc kn Y=({s.doc with row:=Y,changes:=s.doc.changes++[{author:=s.doc.author,time:=s.doc.time,kind:=kn}]},dH s.doc):=by unfold ic;rw[aA R]
  rw[ef]at z;have L:=bg (o:=.aC [NI (dH s.doc)]) P;have XE:∀x∈ca,x≠cl:=λx S=>(X.xN T S).2;have Xr:∀x∈ca,x≠a:=λx S e=>by obtain⟨c,V,q⟩:=X.aI.mem S;rw[e,na]at q;cases q
  have hcx:cl≠a:=λe=>by obtain⟨V,q⟩:=hc;rw[<-e,B]at q;cases q
  have qC:nl≠cl:=λe=>by rw[e,w.aI.aC]at u;cases u
  refine d p (ca++[a]) O _ ?_ (by rw[z,aJ];rfl) (free p ?_) ?_ ?_
  .rw [z];refine⟨⟨nl,⟨?_,?_,?_⟩,?_⟩,M,N⟩
   .obtain ⟨V,q⟩:=X.tx;exact⟨V,L _ _ (J _ _ q ‹X.IY›)⟩
   .rw [Up tx.hZ (ch:={author:=s.doc.author,time:=s.doc.time,kind:=kn}) U];refine⟨?_,L _ _ B,?_,λi x y m j=>?_⟩
    .exact wW.mpr ⟨X.aI.nd,by simp,λx S y k e=>by rw[bx]at k;subst k;exact Xr x S e⟩
    .rw [bb,bb,X.aI.bG];rfl
    .rcases qb i ca.length with n|n
     .rw [wU n]at m;rw[wU (by rw[<-X.aI.bG];exact n)]at j;obtain⟨V,q⟩:=X.aI.at_ i x y m j;exact⟨V,L _ _ (J _ _ q ‹XE x (ck m)›)⟩
     .rw [p_ n]at m;rw[p_ (by rw[<-X.aI.bG];exact n)]at j;have S:x=a:=by
       have:=ck m;simpa using this
      have k:y=⟨s.doc.author,s.doc.time,kn,ab.T3.zero⟩:=by have:=ck j;simpa using this
      subst S k;obtain⟨V,q⟩:=hc;exact⟨V,L _ _ q⟩
   .show (s.tallies++(if s.doc.changes.length<(s.doc.changes++[_]).length then[(⟨0,0,0⟩:iS)]else[])).length=(s.doc.changes++[_]).length;rw[aA (by rw[bb];simp),bb,bb,tx.hZ];rfl
   .refine (I.x J ‹qC› λb R o e f=>?_).same L;rw[bx]at R;subst R;rw[X.aI.aC]at e;cases e;exact f
  .cases q:H2 p with
   |none=>rfl
   |some o=>
    by_cases e:p=cl
    .rw [e,B]at P;cases P
    .rw [J _ _ q ‹e›]at P;cases P
  .refine (l.wj (((sX.mono sub).trans (J.mono λb R=>?_)).to L));rw[bx]at R;subst R;simp
  .intro x S;rcases cZ.mp S with S|S
   .exact .inl S
   .rw [bx]at S;subst S;exact .inr (free _ na)
def AY(T:gB K mg A){Z:List ae}{t H:ae}{kn:Nat}{X:List aE}{V Y:List ab.ak}(d:e8 K A Z H0 t cl ca s c Q)(P:Tx A H0 t cl rl ca s)(I:aF H0 H1)(F:cP s c=(ab.dP s (ic s.doc kn X).1,.told (gN [(ic s.doc kn X).2])))(O:bF K A.cr H1 nl V)(M:H0 nl=aj)(R:ab.ao V=X)(S:ab.bP V)(W:bF K A.cr H1 H Y)(N:Y.any (ab.hA (dH s.doc))=X.any (eo (dH s.doc)))(J:Y.length<2^24)(dh:bj s<500):II K A [.ref t,.int (kn:Nat),.ref H] (aM H1 t (.ins A.ct dx (gu s.doc.author s.doc.time s.doc.tracking cl nl))) (λv G=>[v].length<=aS/\∀p,G p=aj->Q (.ref p) (aM G p (.aC [v]))) E:=by have tx:=P.same I;obtain⟨D,L⟩:=id tx.tx;exact E7 T d P I F O M R S (aF.refl _) (W.x ir ‹m8 W L› (tx.kW T)) N J dh
def ad9:Sc ["number"] 1 52:=by walk_at"s"
inductive afE(vs:List V)(H:Hp)(Q:VK)(_:XK):Prop|mk(z:Int)(_:vs=[.int z])(_:Q (.bl (mD z)) H)
def abt:Cz Z "is_sign" ["number"] 1 afE:=by
 refine Z.Vd.ok ad9 λf S O outer s H R Q E P h=>?_;obtain⟨z,rfl,k⟩:=h;refine⟨_,(aO (bc (B9 (lW dI (pv 0) (cx U Z.uZ) (cB _)) (yM (Hx d3 d3 aU (pv 0) aU))))),?_⟩;unfold mD at k;have W:decide (V.int z=V.int 10)=(z==10):=by
  by_cases q:z=10
  .subst q;rfl
  .have T:¬V.int z=V.int 10:=λz=>by injection z with z;exact q z
   rw[cE T];exact(fX.mpr q).symm
 refine⟨U,aZ (λY=>?_) λY=>?_⟩
 .rw [W]at Y;rw[Y,gW]at k;exact k
 .rw [W]at Y;rw[Y,gf]at k;refine(aZ (λX=>?_) λX=>?_)
  .rw [show decide (32<=z)=_ from X,gg]at k;exact k
  .rw [show decide (32<=z)=_ from X,dj]at k;exact k
def ael:Sc ["text","run"] 2 53:=by walk_at"s"
inductive afZ(K:aw)(A:br)(vs:List V)(H:Hp)(Q:VK)(_:XK):Prop|mk(t cl rl ca s a r:_)(_:vs=[.ref t,.ref a])(_:Tx A H t cl rl ca s)(_:eD K A.cr H a r)(_:(∀c∈r.ins,1<=c/\c<=bj s))(_:Q (.bl (r.outright s.doc)) H)
def Hn:Cz Z "works_outright" ["text","run"] 2 (afZ K A):=by
 refine Z.V4.ok ael λf T P outer s H R Q E W h=>?_;obtain⟨t,cl,rl,S,s,a,r,rfl,tx,V,Y,k⟩:=h;refine⟨_,(aO (bc (B9 (acC (aX Z.cA Z.C5 (pv 0))) (yM (qF (abr Z:) W (ai (pv 0) (ai (pv 1) aq))))))),?_⟩;unfold ab.ak.outright o4 at k;refine⟨t,_,U,tx.tx.tracking,aZ (λX=>?_) λX=>?_⟩
 .rw [X,gW]at k;exact k
 .rw [X,gf]at k;exact⟨t,cl,rl,S,s,a,r,U,tx,V,Y,k⟩
def Qa:Sc ["before","run"] 1 54:=by walk_at"s"
inductive afe(K:aw)(C:ae)(vs:List V)(H:Hp)(Q:VK)(_:XK):Prop|mk(l rs n:_)(_:vs=[.ref l])(_:bF K C H l rs)(_:cM n rs)(_:∀t H',dF K H' t (ab.lookBehind rs)->aF H H'->Q (.ref t) H')
def abz:Cz Z "look_behind" ["before"] 3 (afe K A.cr):=by
 refine Z.Vp.ok Qa λf eA Ar outer s H vs Q E j h=>?_;obtain⟨l,rs,n,rfl,⟨zs,r,b,h2⟩,ok,k⟩:=h;have el:zs.length=rs.length:=by rw[<-r,aP]
 have gT:=eF;refine⟨_,(aH (eU eK U (acO U Z.aaK (ai (pv 0) aq)) (qG 1 Qa.nd) (aO (bO (d_ (qF (tJ Z:) j (ai (pv 1) aq))) (aH (bO (cK dI (qT K (aX Z.bS Z.gr (pv 1)) (q0 ro aU)) (cx U Z.uZ) (cB _)) (aO (bc (vL U Z.Fg))) bX) (aO (bc (qF (OE Z:) j (ai (pv 1) (ai (b6 iK (qN K Z.eQ (ai (aX Z.bS Z.gr (pv 1)) aq)) aU) aq)))))) bX))) (aO (bc (vL U Z.Fg)))),?_⟩;have W:=ahk (K:=K) (a:=l) (xs:=zs.map rf);rw[aP]at W;refine⟨l,_,U,aL.of b,?_⟩;rw[aP];refine eP W (λi J I=>(∃x,J=[aa (.ref l),x])/\aF H I/\(rs.filter ab.ak.shown).getLast?=((rs.take (rs.length-i)).filter ab.ak.shown).getLast?) ⟨⟨aj,U⟩,aF.refl _,by rw[zQ,eJ]⟩ (λi J I j0=>aL.of (j0.2.1 _ _ b)) ?_ ?_
 .rintro i x J H1 H2 hi s2 N B kn kb u ⟨⟨y,rfl⟩,G,Y⟩ o
  refine u ?_;have X:=G.trans s2;rw[RY (by rw[aP];exact hi),aP]at o;obtain⟨z,hz,rfl⟩:=iJ o;have P:=ck hz;have S:z.2∈rs:=by rw[<-r];exact bA.mpr ⟨z,P,U⟩
  have T:=(h2 z P).up (X.le A.cr);have C:rs[rs.length-1-i]?=aa z.2:=by rw[<-el,<-r,cf,hz];rfl
  have F:rs.take (rs.length-i)=rs.take (rs.length-1-i)++[z.2]:=by
   have:rs.length-i=rs.length-1-i+1:=by lia
   rw[this,dU C]
  rw[F,ku]at Y;refine⟨z.1,z.2,U,T,aZ (λhs=>?_) λhs=>?_⟩
  .have w:(rs.filter ab.ak.shown).getLast?=aa z.2:=by
    rw[Y,gv,aA hs,rH];rfl
   obtain⟨q,l1,ii,d,p,e,m⟩:=id T;obtain⟨c,M⟩:∃c,z.2.cells.getLast?=aa c:=⟨_,JW (ok.bN _ S)⟩;have O:ab.lookBehind rs=if c.1=10 then o8 else gL (z.2.bz c):=by unfold ab.lookBehind;rw[w];simp only[M]
   have D:((z.2.cells.map (·.1)).map NI).getLast?=aa (NI c.1):=by rw[ua,ua,M];rfl
   refine⟨z.1,_,U,e.signs,q,_,_,_,U,U,m.sg,Li D,U,aZ (λL=>?_) λL=>?_⟩
   .rw [show decide (NI c.1=V.int 10)=_ from eR c.1 10]at L;have R:c.1=10:=‹L›
    refine k A.plain H2 ?_ X;rw[O,aA R];exact Z.plain _
   .rw [show decide (NI c.1=V.int 10)=_ from eR c.1 10]at L;have R:¬c.1=10:=‹L›
    have v:z.2.cells[z.2.cells.length-1]?=aa c:=by rw[<-DF];exact M
    have g:0<z.2.cells.length:=JY (ud M);refine⟨z.1,_,U,e.signs,q,_,U,dB.tn m.sg,z.1,z.2,c,z.2.cells.length-1,?_,T,v,ok.look S c (ud M),by have:=ok.pend S;lia,λt H3 ht s3=>k t H3 ?_ (X.trans s3)⟩
    .try dsimp only
     rw[aP];have:((z.2.cells.length:Int)-1)=((z.2.cells.length-1:Nat):Int):=by lia
     rw[this];rfl
    .rw [O,ay R];exact ht
  .refine kn _ _ ⟨⟨_,U⟩,X,?_⟩;rw[Y,gv,ay (by rw[hs];exact cg),t_,ee,Nat.sub_sub,J3 1 i]
 .rintro J I u ⟨⟨y,rfl⟩,G,Y⟩
  refine u ?_;refine k A.plain I ?_ G;have:ab.lookBehind rs=[0,0,0,0]:=by unfold ab.lookBehind;rw[Y,el,DP];rfl
  rw[this];exact Z.plain _
def Io:Sc ["behind","ends","run"] 1 55:=by walk_at"s"
inductive aff(K:aw)(C:ae)(vs:List V)(H:Hp)(Q:VK)(_:XK):Prop|mk(l rs n:_)(_:vs=[.ref l])(_:bF K C H l rs)(_:cM n rs)(_:(∃r∈rs,r.shown=ah/\∃c∈r.cells,c.1=10))(_:∀t H',dF K H' t (ab.vr rs)->aF H H'->Q (.ref t) H')
def Qm(r:ab.ak):iW (.int ((10:Nat):Int)) ((r.cells.map (·.1)).map NI)=r.cells.any λc=>c.1==10:=by
 rw[vm]
 induction r.cells with
 |nil=>rfl
 |cons c l Z=>
  rw[bM,JO,mj,Z];congr 1;by_cases e:c.1=10
  .rw [e]
  .rw [fX.mpr e,fX.mpr (λz=>e z.symm)]
theorem L7{Z:Type}{p:Z->Bool}:∀{l:List Z} {x:Z},l.find? p=aa x->∃j:Nat,l[j]?=aa x/\p x=ah/\∀m:Nat,m<j->∀y,l[m]?=aa y->p y=aB
 |[],_,h=>by cases h
 |a::l,x,h=>by
  rw[iO]at h;cases q:p a with
  |true=>
   rw[q]at h;cases h;exact⟨0,U,q,λm X=>by lia⟩
  |false=>
   rw[q]at h;obtain⟨j,T,V,W⟩:=L7 h;refine⟨j+1,T,V,λm X y Y=>?_⟩;cases m with
   |zero=>
    cases Y;exact q
   |succ m=>exact W m (by lia) y Y
def abA:Cz Z "look_of_end" ["behind"] 3 (aff K A.cr):=by
 refine Z.Vq.ok Io λf eA Ar outer s H vs Q E hr h=>?_;obtain⟨l,rs,n,rfl,⟨zs,e0,h1,h2⟩,ok,hex,k⟩:=h;have el:zs.length=rs.length:=by rw[<-e0,aP]
 have gT:=eF;have j3:=ok.bG;refine⟨_,(aH (rg U Io.nd (i:=1) U rfl (rm U rfl rfl rfl) (qI K (pv 0)) (fw (N:=["behind","ends","run"]) (sc:=cF (bo 55)) (own:=[("run",2)]) ‹_›) (λ_ _ _ _ _=>(qG 2 Io.nd)) (λ_ _ _ _ _=>(k0 (PW.pt (yU (d_ (qF (tJ Z:) hr (ai (pv 2) aq))) (Cf (cK (r:=rh K aB) tK (cx U Z.uZ) (aX Z.bS Z.gr (pv 2)) U)))))) (λ_ _ _ _ _=>(pv 2))) (aO (bc (qF (OE Z:) hr (ai (qL K (pv 1) aU) (ai (acE SM PySem.F.type_tuple_index aaH (aX Z.bS Z.gr (qL K (pv 1) aU)) (ai (cx U Z.uZ) aq)) aq)))))),?_⟩;refine⟨l,U,⟨_,aL.of h1⟩,λD hD=>fJ zs (λz=>z.2.shown&&z.2.cells.any λc=>c.1==10) rf ff (λH' V=>aL.of (V _ _ h1)) hD (by lia) ?_ λH' V a=>?_⟩
 .rintro n z x H' Qx Qn hz V k1 k2 gz ⟨z',C,rfl⟩
  cases hz.symm.trans C;refine gz ?_;have Y:=(h2 z (ck hz)).up (V.le A.cr);obtain⟨L,l1,ii,d,p,e,J⟩:=id Y;refine⟨U,z.1,z.2,U,Y,aZ (λhs=>?_) λhs=>?_⟩
  .refine ⟨z.1,_,U,e.signs,L,_,U,.inr J.sg,U,qz _,aZ (λO=>?_) λO=>?_⟩
   .rw [show iW (.int 10) ((z.2.cells.map (·.1)).map NI)=_ from Qm z.2]at O;exact(k1 (by rw[hs,gg];exact O) _ (aF.refl _))
   .rw [show iW (.int 10) ((z.2.cells.map (·.1)).map NI)=_ from Qm z.2]at O;exact k2 (by rw[hs,gg];exact O) _ (aF.refl _)
  .exact k2 (by rw[hs];rfl) _ (aF.refl _)
 .obtain ⟨r0,g,o,c0,XC,XG⟩:=hex;have X:rs.filter (λr=>r.shown&&r.cells.any λc=>c.1==10)=(zs.filter λz=>z.2.shown&&z.2.cells.any λc=>c.1==10).map (·.2):=by
   rw[<-e0,nk];rfl
  cases W:zs.filter λz=>z.2.shown&&z.2.cells.any λc=>c.1==10 with
  |nil=>
   rw[W]at X;have:r0∈rs.filter (λr=>r.shown&&r.cells.any λc=>c.1==10):=d4.mpr ⟨g,by rw[o,gg,jM];exact⟨c0,XC,by rw[XG];rfl⟩⟩;rw[X]at this;simp at this
  |cons z rest=>
   rw[W]at a X;have G:z∈zs.filter λz=>z.2.shown&&z.2.cells.any λc=>c.1==10:=by rw[W];exact cy
   obtain⟨T,I⟩:=d4.mp G;have S:z.2∈rs:=by rw[<-e0];exact bA.mpr ⟨z,T,U⟩
   have Y:=(h2 z T).up (V.le A.cr);obtain⟨L,l1,ii,d,p,e,J⟩:=id Y;have M:(z.2.cells.any λc=>c.1==10)=ah:=(JA.mp I).2;obtain⟨c,hc⟩:∃c,(z.2.cells.find? λc=>c.1==10)=aa c:=by rw[<-rP,List.find?_isSome];obtain⟨x,u,v⟩:=jM.mp M;exact⟨x,u,v⟩
   have b:ab.vr rs=gL (z.2.bz c):=by unfold ab.vr;rw[X];simp only[bM,List.head?_cons,hc]
   obtain⟨j,R,X6,X7⟩:=L7 hc;have P:c.1=10:=‹X6›
   refine⟨D,_,0,_,U,U,aL.of a,bt (j:=0) U,D,_,0,_,U,U,aL.of a,bt (j:=0) U,z.1,_,U,e.signs,⟨L,_,U,J.signs⟩,L,z.2.cells.map (·.1),10,j,U,U,J.signs,by rw[cf,R,w8,P],λm hm q=>?_,?_⟩
   .rw [cf]at q;obtain⟨y,w,B⟩:=rQ.mp q;have:=X7 m hm y w;rw[B]at this;cases this
   .refine ⟨z.1,z.2,c,j,U,Y,R,ok.look S c (List.mem_of_find?_eq_some hc),by have:=ok.pend S;lia,λt H3 ht s3=>k t H3 ?_ (V.trans s3)⟩;rw[b];exact ht
def cM.sub{n:Nat}(h:cM n rs)(X:ab.bP ss)(hs:∀x∈ab.ao ss,x∈ab.ao rs)(Y:(ab.ao ss).length<=(ab.ao rs).length):cM n ss:=⟨X,λx Z=>h.wf x (hs x Z),mv Y h.pW,h.dh⟩
def cM.cw{n:Nat}(h:cM n rs)(p:Nat):cM n (ab.bu rs p).1/\cM n (ab.bu rs p).2:=by
 have e:=ab.ot (ab.ao rs) p;have W:=ab.j5 (p:=p) h.bN;have X:=ab.jA (p:=p) h.bN;have Y:=ab.m1 rs p h.bN;have V:=b_ fo e;rw[bb,<-W,<-X]at V;refine⟨h.sub Y.1 (λx Z=>?_) (by omega),h.sub Y.2 (λx Z=>?_) (by omega)⟩
 .rw [<-e];rw[W]at Z;exact jq _ Z
 .rw [<-e];rw[X]at Z;exact gZ _ Z
def cM.F'{n:Nat}(h:cM n rs)(Z:r∈rs):∀c∈r.ins,1<=c/\c<=n:=λc Y=>(h.aT Z).aI c (jq _ Y)
def Av{n:Nat}{a m b:List ab.ak}(X:cM n a)(Y:cM n b)(Z:ab.bP m)(hw:∀x∈ab.ao m,ab.cX (n+1) x):m.any (ab.hA (n+1))=(ab.ao (a++m++b)).any (eo (n+1)):=by rw[ab.ik,ab.ik,wM,wM,ab.EE X.wf,ab.EE Y.wf,gf,Dl,ab.ED Z hw]
def vV{K:aw}{l:ae}(h:bF K C H l rs)(X:aF H H')(Y:H' l=aa (.aC xs))(T:eD K C H' b r):bF K C (aM H' l (.aC (xs++[.ref b]))) l (rs++[r]):=by
 obtain⟨zs,R,Z,S⟩:=h.same X;rw[Y]at Z;have ex:xs=zs.map rf:=by injection Z with Z;injection Z
 subst ex;have le:Le C H' (aM H' l (.aC (zs.map rf++[.ref b]))):=jz Y λc o e V=>by rw[a_ V];exact e
 refine⟨zs++[(b,r)],by rw[cG,R];rfl,by rw[aJ,cG];rfl,λz hz=>?_⟩;rcases cZ.mp hz with hz|hz
 .exact (S z hz).up le
 .rw [bx]at hz;subst hz;exact T.up le
def oj{K:aw}{l:ae}(h:bF K C H l rs)(Y:H l=aa (.aC xs)):xs.length=rs.length:=by
 obtain⟨zs,X,Z,V⟩:=h;rw[Y]at Z;have ex:xs=zs.map rf:=by injection Z with Z;injection Z
 rw[ex,<-X,aP,aP]
def Cp{K:aw}{l m:ae}(h:bF K C H l rs)(Y:H m=aa (.aC xs))(Z:l≠m):bF K C (aM H m (.aC ys)) l rs:=by obtain⟨zs,S,T,V⟩:=h;exact⟨zs,S,by rw[a_ Z];exact T,vX V (jz Y λc o e X=>by rw[a_ X];exact e)⟩
def l0{K:aw}{l:ae}(h:bF K C H l rs):∃xs,H l=aa (.aC xs):=let⟨zs,_,Z,_⟩:=h;⟨_,Z⟩
def adF{K:aw}(O:bF K C H a rs)(P:bF K C H b ss)(Q:H a=aa (.aC xs))(R:H b=aa (.aC ys))(S:H p=aj):bF K C (aM H p (.aC (xs++ys))) p (rs++ss):=by
 obtain⟨zs,L,Y,T⟩:=O;obtain⟨us,M,Z,V⟩:=P;rw[Q]at Y;rw[R]at Z;have ex:xs=zs.map rf:=by injection Y with Y;injection Y
 have N:ys=us.map rf:=by injection Z with Z;injection Z
 subst ex N;have X:=bg (o:=.aC (zs.map rf++us.map rf)) S;refine⟨zs++us,by rw[cG,L,M],by rw[aJ,cG],λz hz=>?_⟩;rcases cZ.mp hz with hz|hz
 .exact (T z hz).up (X.le _)
 .exact (V z hz).up (X.le _)
def iF(V:bF K C H a rs)(W:bF K C H b ss)(hz:rs.length+ss.length<=aS)(k:∀p H',H p=aj->bF K C H' p (rs++ss)->aF H H'->Q (.ref p) H'):PB (.ref a) (.ref b) H Q:=by obtain⟨xs,X⟩:=l0 V;obtain⟨ys,Y⟩:=l0 W;exact⟨a,b,xs,ys,U,U,X,Y,by rw[oj V X,oj W Y];exact hz,λp Z=>k p _ Z (adF V W X Y Z) (bg Z)⟩
def zb:Sc ["text","p","q","m","parts","staying","run"] 3 57:=by walk_at"s"
inductive ae2(K:aw)(A:br)(vs:List V)(H:Hp)(Q:VK)(_:XK):Prop|mk(t cl ca s rs:_)(p q:Int)(_:vs=[.ref t,.int p,.int q])(_:cV K A H t cl ca s rs)(_:Sz s)(_:e8 K A [] H t cl ca s (.cut p q) Q)
def abo:Cz Z "cut" ["text","p","q"] 7 (ae2 K A):=by
 refine Z.UY.ok zb λf eA Ar outer s H vs Q E O h=>?_;obtain⟨t,cl,ca,s,rs,p,q,rfl,h,z,d⟩:=h;obtain⟨rl,tx,row⟩:=h.ex;have ok:=z.ok h.ao h.bN;have gT:=eF;have j3:=ok.bG;have nX:=z.dh;refine⟨_,(aH (bO (eH (HI d3 pN d3 aU (pv 1) (pv 2) (b6 iK (qF (yF Z:) O (ai (aX Z.cA Z.eI (pv 0)) aq)) aU))) (aO (bc (b9 (ai (cx U Z.uX) aq)))) bX) (aH (qS 3 zb.nd (qF (yE Z:) O (ai (pv 0) aq))) (aH (qS 4 zb.nd (qF (Hj Z:) O (ai (aX Z.cA Z.eI (pv 0)) (ai (pv 1) (ai (pv 2) aq))))) (aH (qS 5 zb.nd (b9 aq)) (aH (eU eK U (qI K (qT K (pv 4) aU)) (qG 6 zb.nd) (aO (bO (eH (d_ (qF (tJ Z:) O (ai (pv 6) aq)))) (aO (eT (fA fQ jQ kz j6 (pv 5) (ai (pv 6) aq)))) (aO (bO (eH (d_ (qF (Hn Z:) O (ai (pv 0) (ai (pv 6) aq))))) (aO (eT (fA fQ jQ kz j6 (pv 5) (ai (qF (OH Z:) O (ai (pv 6) (ai (pv 3) aq))) aq)))) bX))))) (aH (cY Z.cA Z.eI (pv 0) (b6 gU (b6 gU (qT K (pv 4) aU) (pv 5)) (qT K (pv 4) aU))) (aO (bc (b9 (ai (qF (B1 Z:) O (ai (pv 0) (ai (cx U Z.WS) (ai (pv 5) aq)))) aq)))))))))),?_⟩;have bad:gC p q (dG s.doc-1)=aB->cP s (.cut p q)=(s,.refused (-1)):=λe=>m9 (n:=1) (x:=.cut p q) U (by show o7 s.doc p q=_;unfold o7;rw[e];rfl);have u7:(jY (ab.ao rs)).length=dG s.doc:=by rw[h.ao];rfl
 have M8:=ab.AL z.wf;refine(aZ (λh1=>(aZ (λh2=>⟨t,_,U,tx.tx.row,rl,rs,U,row,by lia,λH1 s1=>(aZ (λh3=>?_) λh3=>?_)⟩) λh2=>?_)) λh1=>?_)
 .refine d.refuse h (bad ?_) s1;have h4:¬q<=((jY (ab.ao rs)).length:Int)-1:=‹h3›
  unfold gC;have:decide (q<=((dG s.doc-1:Nat):Int))=aB:=cE (by rw[<-u7];lia);rw[this,dy,dy]
 .have h4:q<=((jY (ab.ao rs)).length:Int)-1:=‹h3›
  have a:0<=p:=cQ h1;have qE:p<q:=cQ h2;obtain⟨i,rfl⟩:=i5 a;obtain⟨j,rfl⟩:=i5 (JJ (JK a qE));have u9:i<j:=by lia
  have iH:cP s (.cut i j)=(ab.dP s (Ai s.doc i j).1,.told (gN [(Ai s.doc i j).2])):=by
   refine tY (x:=.cut i j) U ?_;show o7 s.doc i j=_;unfold o7;have:gC (i:Int) (j:Int) (dG s.doc-1)=ah:=by unfold gC;rw[dg a,dg qE,dg (show(j:Int)<=((dG s.doc-1:Nat):Int) by lia)];rfl
   rw[this];rfl
  refine⟨t,cl,rl,ca,s,U,tx.same s1,?_⟩;refine⟨t,_,U,(tx.same s1).tx.row,rl,rs,i,j,U,by lia,row.same s1,by lia,λpt l1 l2 l3 H2 g r1 r2 r3 n1 n2 n3 s2=>?_⟩;have iq:=s1.trans s2;refine⟨cN _,λst m5=>?_⟩;have s3:=bg (o:=.aC []) m5;obtain⟨X,W⟩:∃X,X=(ab.bu (ab.bu rs i).2 (j-i)).1:=⟨_,U⟩;rw[<-W]at r2;have m:cM (bj s) X:=by rw[W];exact((ok.cw i).2.cw (j-i)).1
  obtain⟨zs,e0,q1,q2⟩:=id r2;have el:zs.length=X.length:=by rw[<-e0,aP]
  have pB:=m.bG;refine⟨pt,_,1,_,U,U,aY.of (s3 _ _ g),bt (j:=1) U,l2,U,⟨_,aL.of (s3 _ _ q1)⟩,?_⟩;have FA:∀r,(ab.eG s.doc r).length<=1:=λr=>by unfold ab.eG;split<;>(try split)<;>simp
  have lP:∀l:List ab.ak,(l.flatMap (ab.eG s.doc)).length<=l.length:=λl=>by
   induction l with
   |nil=>simp
   |cons r l ih=>rw[dW,bb,bY];have:=FA r;lia
  refine eP (ff (zs:=zs) (v:=rf)) (λk σ H'=>(∃x,σ=[aa (.ref t),aa (.int i),aa (.int j),aa (NI (dH s.doc)),aa (.ref pt),aa (.ref st),x])/\aF H2 H'/\bF K A.cr H' st ((X.take k).flatMap (ab.eG s.doc)))
   ⟨⟨aj,U⟩,s3,⟨[],U,aJ,λy hy=>by simp at hy⟩⟩ (λk σ H' j0=>aL.of (j0.2.1 _ _ q1)) ?_ ?_
  .rintro k x σ H3 H4 hk D N B kn kb gz ⟨⟨y,rfl⟩,u,S⟩ ⟨Y,fZ,rfl⟩
   refine gz ?_;have L:=u.trans D;have gS:=ck fZ;have je:Y.2∈X:=by rw[<-e0];exact bA.mpr ⟨Y,gS,U⟩
   have G:=(q2 Y gS).up (L.le A.cr);have iT:X[k]?=aa Y.2:=by rw[<-e0,cf,fZ];rfl
   have T:=S.same D;obtain⟨xs,R⟩:=l0 T;have ym:xs.length<aS:=by rw[oj T R];have:=lP (X.take k);have:=ub k X;lia
   have C:∀(b:ae) (w:Hp) (r':ab.ak) (x6:Option V),aF H4 w->eD K A.cr w b r'->ab.eG s.doc Y.2=[r']->(∃x,[aa (V.ref t),aa (.int i),aa (.int j),aa (NI (dH s.doc)),aa (.ref pt),aa (.ref st),x6]=[aa (V.ref t),aa (.int i),aa (.int j),aa (NI (dH s.doc)),aa (.ref pt),aa (.ref st),x])/\aF H2 (aM w st (.aC (xs++[.ref b])))/\bF K A.cr (aM w st (.aC (xs++[.ref b]))) st ((X.take (k+1)).flatMap (ab.eG s.doc)):=λb w r' x6 J hb he=>by
    refine⟨⟨x6,U⟩,λc o e=>?_,?_⟩
    .have:c≠st:=λq=>by rw[q,m5]at e;cases e
     rw[a_ this];exact J _ _ (L _ _ e)
    .rw [dU iT,gw];have e2:[Y.2].flatMap (ab.eG s.doc)=[r']:=by rw[dW,he];rfl
     rw[e2];exact vV T J (J _ _ R) hb
   refine⟨Y.1,Y.2,U,G,aZ (λhs=>?_) λhs=>?_⟩
   .have I:¬Y.2.shown=ah:=by cases q:Y.2.shown<;>simp_all
    refine⟨.inl ⟨U,_,aL.of R⟩,st,xs,_,U,U,R,ym,?_⟩;exact kn _ _ (C Y.1 H4 Y.2 _ (aF.refl _) G (by unfold ab.eG;rw[ay I]))
   .have I:Y.2.shown=ah:=by cases q:Y.2.shown<;>simp_all
    refine⟨t,cl,rl,ca,s,Y.1,Y.2,U,tx.same ((s1.trans s2).trans L),G,m.F' je,aZ (λho=>?_) λho=>?_⟩
    .have va:¬Y.2.outright s.doc=ah:=by cases q:Y.2.outright s.doc<;>simp_all
     refine⟨.inl ⟨U,_,aL.of R⟩,Y.1,Y.2,dH s.doc,U,G,λb w hb J=>⟨st,xs,_,U,U,J _ _ R,ym,?_⟩⟩;exact kn _ _ (C b w _ _ J hb (by unfold ab.eG;rw[aA I,ay va]))
    .have va:Y.2.outright s.doc=ah:=by cases q:Y.2.outright s.doc<;>simp_all
     refine kn _ _ ⟨⟨_,U⟩,L,?_⟩;rw[dU iT,gw];have e2:[Y.2].flatMap (ab.eG s.doc)=[]:=by rw[dW];unfold ab.eG;rw[aA I,aA va];rfl
     rw[e2,ee];exact T
  .rintro σ H3 gz ⟨⟨y,rfl⟩,u,S⟩
   refine gz ?_;rw[el,eJ]at S;have iM:=iq.trans u;have vS:=r1.same u;have vT:=r3.same u;have MT:=lP X;have Bc:=m2 rs i;have Bd:=m2 (ab.bu rs i).2 (j-i);rw[<-W]at Bd;refine⟨pt,_,0,_,U,U,aY.of (u _ _ g),bt (j:=0) U,iF vS S (by lia) λp1 H4 tH tm D=>?_⟩;refine⟨pt,_,2,_,U,U,aY.of (D _ _ (u _ _ g)),bt (j:=2) U,iF tm (vT.same D) (by rw[bb];lia) λp2 w yB qH J=>?_⟩;have om:=iM.trans (D.trans J);obtain⟨dx,mW⟩:=(tx.same om).tx;refine⟨t,dx,_,U,mW,by show 5<1000;decide,?_⟩;rw[tN];refine ?_;rw[W]at qH;have XU:ab.bP ((ab.bu rs i).1++(ab.bu (ab.bu rs i).2 (j-i)).1.flatMap (ab.eG s.doc)++(ab.bu (ab.bu rs i).2 (j-i)).2):=
    ab.iG (ab.iG (ok.cw i).1.bN (ab.Ff λr O=>ab.GD s.doc (((ok.cw i).2.cw (j-i)).1.bN r O))) ((ok.cw i).2.cw (j-i)).2.bN
   have M:=ab.UB s.doc (p:=i) (q:=j) h.bN u9;rw[h.ao]at M;refine AY (E:=E0) Z.togB d tx om (kn:=2) iH qH ((iM.trans D).free yB) M XU ((S.same D).same J) ?_ (by lia) z.dh;rw[<-M,<-W];refine Av (n:=bj s) (ok.cw i).1 ((ok.cw i).2.cw (j-i)).2 (ab.Ff λr O=>ab.GD s.doc (m.bN r O)) λx hx=>?_;rw[ab.uV _ _ _ λr _=>ab.yu s.doc r]at hx;obtain⟨y,hy,P⟩:=ny.mp hx;have yn:y∈s.doc.row:=by rw[<-h.ao];have e2:=ab.ot (ab.ao rs) i;have e3:=ab.ot (ab.ao (ab.bu rs i).2) (j-i);rw[<-e2,<-ab.jA h.bN];refine gZ _ ?_;rw[<-e3,<-ab.j5 (ok.cw i).2.bN,<-W];exact jq _ hy
   unfold ab.d6 at P;split at P
   .exact ab.AN z.wf yn P
   .rw [bx]at P;subst P;exact(z.wf.all _ yn).mono (cS _)
 .refine d.refuse h (bad ?_) (aF.refl _);unfold gC;rw[show decide (p<q)=_ from h2,dj,dy]
 .refine d.refuse h (bad ?_) (aF.refl _);unfold gC;rw[show decide (0<=p)=_ from h1,dj]
def aca(h:ab.WF s){y:aE}(Y:y∈s.doc.row){k v:Nat}(hk:k<=3):ab.cX (bj s+1) (fG s.doc k v y):=by
 have w:=h.all y Y;have Z:=w.mono (cS _);unfold fG;split
 .have sp:(y.pend.filter λz=>!(z.prop==k)).Sublist y.pend:=wO;exact⟨by rw[zF];exact Z.look,Z.ins,Z.del,λz hz=>Z.pend z (sp.subset hz),Z.hG,Z.gq.sublist (sp.map _),Z.dl,Z.tags⟩
 .split
  .exact Z
  .refine ⟨Z.look,Z.ins,Z.del,λz hz=>?_,Z.hG,?_,Z.dl,Z.tags⟩
   .rcases cZ.mp hz with hz|hz
    .exact Z.pend z hz
    .rw [bx.mp hz];exact⟨⟨by show 1<=dH s.doc;rw[ab.j7];lia,by show dH s.doc<=_;rw[ab.j7];exact bp _⟩,hk⟩
   .show ((y.pend++[_]).map Te).Pairwise (·<·);rw[cG];refine ab.CO (n:=bj s) Z.gq λc X=>?_;obtain⟨z,hz,rfl⟩:=bA.mp X;exact(w.pend z hz).1.2
def aed:Sc ["text","run","k","value"] 4 58:=by walk_at"s"
def vK(s:bf)(k v:Nat):aE->List aE:=ab.d6 λx=>[fG s.doc k v x]
inductive afr(K:aw)(A:br)(vs:List V)(H:Hp)(Q:VK)(_:XK):Prop|mk(t cl rl ca s a r:_)(k v:Nat)(_:vs=[.ref t,.ref a,.int k,.int v])(_:Tx A H t cl rl ca s)(_:eD K A.cr H a r)(_:cM (bj s) [r])(_:k<=3)(_:∀l rs H',bF K A.cr H' l rs->ab.bP rs->ab.ao rs=r.ao.flatMap (vK s k v)->H l=aj->aF H H'->Q (.ref l) H')
def abE:Cz Z "painted" ["text","run","k","value"] 5 (afr K A):=by
 refine Z.Vy.ok aed λf B p outer s H w Q E V h=>?_;obtain⟨t,cl,rl,N,s,a,r,j,v,rfl,tx,T,ok,O,k⟩:=h;have Y:r∈[r]:=bx.mpr U;have L:=eF;have J:=ok.pend Y;have I:=ok.cells Y;refine⟨_,(aH (bO (eH (d_ (qF (tJ Z:) V (ai (pv 1) aq)))) (aO (bc (b9 (ai (pv 1) aq)))) bX) (aH (bO (d_ (qF (Hn Z:) V (ai (pv 0) (ai (pv 1) aq)))) (aO (bc (b9 (ai (qF (abF Z:) V (ai (pv 1) (ai (pv 2) (ai (pv 3) aq)))) aq)))) bX) (aO (bc (qF (abG Z:) V (ai (pv 1) (ai (qF (yE Z:) V (ai (pv 0) aq)) (ai (pv 2) (ai (pv 3) aq))))))))),?_⟩;refine⟨a,r,U,T,aZ (λhs=>?_) λhs=>?_⟩
 .have X:¬r.shown=ah:=by cases q:r.shown<;>simp_all
  refine⟨by show 1<=aS;decide,λl nl=>?_⟩;have W:=bg (o:=.aC [.ref a]) nl;exact k l [r] _ ⟨[(a,r)],U,aJ,λz hz=>by rw[bx]at hz;subst hz;exact T.up (W.le _)⟩ ok.bN (ab.acb s.doc j v r X) nl W
 have X:r.shown=ah:=by cases q:r.shown<;>simp_all
 refine⟨t,cl,rl,N,s,a,r,U,tx,T,ok.F' Y,aZ (λS=>?_) λS=>?_⟩
 .refine ⟨a,r,j,v,U,T,ok.look Y,by lia,by lia,O,λb u G W=>⟨by show 1<=aS;decide,λl nl=>?_⟩⟩;have R:=bg (o:=.aC [.ref b]) nl;refine k l [_] _ ⟨[(b,_)],U,aJ,λz hz=>by rw[bx]at hz;subst hz;exact G.up (R.le _)⟩ (λx P=>?_) (ab.ace s.doc j v r X S) (W.free nl) (W.trans R);rw[bx]at P;subst P;intro q;exact ok.bN r Y (zG.mp q)
 .refine ⟨t,cl,rl,N,s,U,tx,a,r,s.doc,j,v,U,T,ok.look Y,ok.bN r Y,by lia,by lia,O,X,by rw[S];exact cg,λl rs y C D F nl M=>k l rs y C D F nl M⟩
def CA:Sc ["text","p","q","k","value","parts","made","run"] 5 59:=by walk_at"s"
inductive afo(K:aw)(A:br)(vs:List V)(H:Hp)(Q:VK)(_:XK):Prop|mk(t cl ca s rs:_)(p q k v:Int)(_:vs=[.ref t,.int p,.int q,.int k,.int v])(_:cV K A H t cl ca s rs)(_:Sz s)(_:e8 K A [] H t cl ca s (.paint p q k v) Q)
def P0{l:ae}(h:bF K C H l rs)(W:aF H H')(X:H' l=aa (.aC xs))(S:bF K C H' b ss)(V:H' b=aa (.aC ys)):bF K C (aM H' l (.aC (xs++ys))) l (rs++ss):=by
 obtain⟨zs,N,Y,Q⟩:=h.same W;obtain⟨us,O,Z,R⟩:=S;rw[X]at Y;rw[V]at Z;have ex:xs=zs.map rf:=by injection Y with Y;injection Y
 have P:ys=us.map rf:=by injection Z with Z;injection Z
 subst ex P;have le:Le C H' (aM H' l (.aC (zs.map rf++us.map rf))):=jz X λc o e T=>by rw[a_ T];exact e
 refine⟨zs++us,by rw[cG,N,O],by rw[aJ,cG],λz hz=>?_⟩;rcases cZ.mp hz with hz|hz
 .exact (Q z hz).up le
 .exact (R z hz).up le
theorem E8{f:aE->List aE}(Z:∀x,(f x).length<=1):∀l:List aE,(l.flatMap f).length<=l.length
 |[]=>by simp
 |x::l=>by rw[dW,bb,bY];have:=Z x;have:=E8 Z l;lia
def OX(s:bf)(k v:Nat)(x:aE):(vK s k v x).length<=1:=by unfold vK ab.d6;split<;>simp
def abD:Cz Z "paint" ["text","p","q","k","value"] 7 (afo K A):=by
 refine Z.Vx.ok CA λf eA Ar outer s H vs Q E hr h=>?_;obtain⟨t,cl,ca,s,rs,p,q,k,v,rfl,h,z,d⟩:=h;obtain⟨rl,tx,row⟩:=h.ex;have ok:=z.ok h.ao h.bN;have gT:=eF;have j3:=ok.bG;have nX:=z.dh;refine⟨_,(aH (bO (eH (HI d3 pN d3 aU (pv 1) (pv 2) (qF (yF Z:) hr (ai (aX Z.cA Z.eI (pv 0)) aq)))) (aO (bc (b9 (ai (cx U Z.uX) aq)))) bX) (aH (bO (PW.pt (vQ (eH (oi d3 d3 aU (pv 3) aU)) (vR (eH (oi d3 d3 aU (pv 4) aU))))) (aO (bc (b9 (ai (cx U Z.lN) aq)))) bX) (aH (qS 5 CA.nd (qF (Hj Z:) hr (ai (aX Z.cA Z.eI (pv 0)) (ai (pv 1) (ai (pv 2) aq))))) (aH (qS 6 CA.nd (b9 aq)) (aH (eU eK U (qI K (qT K (pv 5) aU)) (qG 7 CA.nd) (aO (eT (fA fQ lz nB m3 (pv 6) (ai (qF (abE Z:) hr (ai (pv 0) (ai (pv 7) (ai (pv 3) (ai (pv 4) aq))))) aq))))) (aH (cY Z.cA Z.eI (pv 0) (b6 gU (b6 gU (qT K (pv 5) aU) (pv 6)) (qT K (pv 5) aU))) (aO (bc (b9 (ai (qF (B1 Z:) hr (ai (pv 0) (ai (cx U Z.WT) (ai (pv 6) aq)))) aq)))))))))),?_⟩;have u7:(jY (ab.ao rs)).length=dG s.doc:=by rw[h.ao];rfl
 have bad:gC p q (dG s.doc)=aB->cP s (.paint p q k v)=(s,.refused (-1)):=λe=>m9 (n:=1) (x:=.paint p q k v) U (by show mF s.doc p q k v=_;unfold mF;rw[e];rfl);refine(aZ (λh1=>(aZ (λh2=>⟨t,_,U,tx.tx.row,rl,rs,U,row,by lia,λm D=>(aZ (λh3=>?_) λh3=>?_)⟩) λh2=>?_)) λh1=>?_)
 .refine d.refuse h (bad ?_) D;have h4:¬q<=((jY (ab.ao rs)).length:Int):=‹h3›
  unfold gC;have:decide (q<=((dG s.doc:Nat):Int))=aB:=cE (by rw[<-u7];lia);rw[this,dy,dy]
 .have h4:q<=((jY (ab.ao rs)).length:Int):=‹h3›
  have n0:0<=p:=cQ h1;have qE:p<q:=cQ h2;have g:gC p q (dG s.doc)=ah:=by unfold gC;rw[dg n0,dg qE,dg (show q<=((dG s.doc:Nat):Int) by lia)];rfl
  have Az:(dY k 0 3&&dY v 0 99)=aB->cP s (.paint p q k v)=(s,.refused (-2)):=λe=>m9 (n:=2) (x:=.paint p q k v) U (by show mF s.doc p q k v=_;unfold mF;rw[g,e];rfl);have Y:∀m,aF H m->(dY k 0 3&&dY v 0 99)=aB->[V.int (-2)].length<=aS/\∀p,m p=aj->Q (.ref p) (aM m p (.aC [.int (-2)])):=λm D e=>d.refuse h (Az e) D;refine(aZ (λa1=>(aZ (λa2=>?_) λa2=>(aZ (λb1=>(aZ (λb2=>?_) λb2=>?_)) λb1=>?_))) λa1=>?_)
  .refine Y m D ?_;have:¬k<=3:=‹a2›
   unfold dY;rw[cE (show¬k<=((3:Nat):Int)from this),dy,dj]
  .refine Y m D ?_;have:¬v<=99:=‹b2›
   unfold dY;rw[cE (show¬v<=((99:Nat):Int)from this),dy,dy]
  .have a3:k<=3:=‹a2›
   have b3:v<=99:=‹b2›
   have a0:0<=k:=cQ a1;have b0:0<=v:=cQ b1;have yl:(dY k 0 3&&dY v 0 99)=ah:=by unfold dY;rw[dg (show k<=((3:Nat):Int)from a3),dg (show v<=((99:Nat):Int)from b3),dg (show((0:Nat):Int)<=k from a0),dg (show((0:Nat):Int)<=v from b0)];rfl
   obtain⟨i,rfl⟩:=i5 n0;obtain⟨j,rfl⟩:=i5 (JJ (JK n0 qE));obtain⟨k,rfl⟩:=i5 a0;obtain⟨v,rfl⟩:=i5 b0;have u9:i<j:=by lia
   have MJ:k<=3:=by lia
   have iH:cP s (.paint i j k v)=(ab.dP s (Ak s.doc i j k v).1,.told (gN [(Ak s.doc i j k v).2])):=by refine tY (x:=.paint i j k v) U ?_;show mF s.doc i j k v=_;unfold mF;rw[g,yl];rfl
   refine⟨t,_,U,(tx.same D).tx.row,rl,rs,i,j,U,by lia,row.same D,by lia,λpt l1 l2 l3 H2 pD r1 r2 r3 n1 n2 n3 s2=>?_⟩;have iq:=D.trans s2;refine⟨cN _,λst m5=>?_⟩;have s3:=bg (o:=.aC []) m5;obtain⟨X,R⟩:∃X,X=(ab.bu (ab.bu rs i).2 (j-i)).1:=⟨_,U⟩;rw[<-R]at r2;have w:cM (bj s) X:=by rw[R];exact((ok.cw i).2.cw (j-i)).1
   obtain⟨zs,e0,q1,q2⟩:=id r2;have el:zs.length=X.length:=by rw[<-e0,aP]
   have pB:=w.bG;have hsm:=w.pW;refine⟨pt,_,1,_,U,U,aY.of (s3 _ _ pD),bt (j:=1) U,l2,U,⟨_,aL.of (s3 _ _ q1)⟩,?_⟩;refine eP (ff (zs:=zs) (v:=rf)) (λn σ H'=>(∃x,σ=[aa (.ref t),aa (.int i),aa (.int j),aa (.int k),aa (.int v),aa (.ref pt),aa (.ref st),x])/\aF H2 H'/\∃J,bF K A.cr H' st J/\ab.bP J/\ab.ao J=(ab.ao (X.take n)).flatMap (vK s k v))
    ⟨⟨aj,U⟩,s3,[],⟨[],U,aJ,λy hy=>by simp at hy⟩,λy hy=>by simp at hy,by rw[mq];rfl⟩ (λn σ H' j0=>aL.of (j0.2.1 _ _ q1)) ?_ ?_
   .rintro n x σ H3 H4 hn l N B kn kb gz ⟨⟨y,rfl⟩,a,J,T,I,L⟩ ⟨C,fZ,rfl⟩
    refine gz ?_;have b:=a.trans l;have gS:=ck fZ;have je:C.2∈X:=by rw[<-e0];exact bA.mpr ⟨C,gS,U⟩
    have iV:=(q2 C gS).up (b.le A.cr);have iT:X[n]?=aa C.2:=by rw[<-e0,cf,fZ];rfl
    have B0:cM (bj s) [C.2]:=w.sub (λr hr=>by rw[bx]at hr;subst hr;exact w.bN _ je) (λx hx=>by
     rw[ab.kO]at hx;obtain⟨c,hc,rfl⟩:=bA.mp hx;exact ab.oa.mpr ⟨C.2,je,c,hc,U⟩) (by
     rw[ab.kO,ab.E9];unfold ab.ak.ao;rw[aP];exact NK (bA.mpr ⟨C.2,je,U⟩))
    have W:=T.same l;obtain⟨xs,u⟩:=l0 W;refine⟨.inl ⟨U,_,aL.of u⟩,t,cl,rl,ca,s,C.1,C.2,k,v,U,tx.same (iq.trans b),iV,B0,MJ,λnl ns H5 qC Ys Yt Oi s5=>?_⟩;obtain⟨ys,j4⟩:=l0 qC;have S:ab.ao (J++ns)=(ab.ao (X.take (n+1))).flatMap (vK s k v):=by rw[dU iT,ab.ik,ab.ik,gw,L,Yt,ab.kO]
    have P:=ab.iG I Ys;have Yg:xs.length+ys.length<=aS:=by
     rw[oj W u,oj qC j4];have h1:=P.bG;rw[S,bb]at h1;have h2:=E8 (OX s k v) (ab.ao (X.take (n+1)));have h3:(ab.ao (X.take (n+1))).length<=(ab.ao X).length:=by
      conv=>rhs;rw[<-rL (n+1) X,ab.ik,bb]
      lia
     lia
    refine⟨st,nl,xs,ys,U,U,s5 _ _ u,.inl j4,Yg,?_⟩;refine kn _ _ ⟨⟨_,U⟩,λc o e=>?_,J++ns,P0 W s5 (s5 _ _ u) qC j4,P,S⟩;have:c≠st:=λq=>by rw[q,m5]at e;cases e
    rw[a_ this];exact s5 _ _ (b _ _ e)
   .rintro σ H3 gz ⟨⟨y,rfl⟩,a,J,T,I,L⟩
    refine gz ?_;rw[el,eJ]at L;have iM:=iq.trans a;have vS:=r1.same a;have vT:=r3.same a;have MT:J.length<7000000:=by have h1:=I.bG;rw[L]at h1;have h2:=E8 (OX s k v) (ab.ao X);lia
    have Bc:=m2 rs i;have Bd:=m2 (ab.bu rs i).2 (j-i);have Be:=(ok.cw i).1.bG;have hd4:=((ok.cw i).2.cw (j-i)).2.bG;have S:ab.ao J=(ab.ao (ab.bu (ab.bu rs i).2 (j-i)).1).flatMap (ab.d6 λx=>[fG s.doc k v x]):=by rw[L,R];rfl
    have O:=ab.QR (p:=i) (q:=j) h.bN u9 (λx=>[fG s.doc k v x]) J S;rw[h.ao]at O;have jx:(ab.ao ((ab.bu rs i).1++J++(ab.bu (ab.bu rs i).2 (j-i)).2)).length<=s.doc.row.length:=by rw[O];exact ab.vH (λx=>by simp) _ _ _
    have G:ab.bP ((ab.bu rs i).1++J++(ab.bu (ab.bu rs i).2 (j-i)).2):=ab.iG (ab.iG (ok.cw i).1.bN I) ((ok.cw i).2.cw (j-i)).2.bN;have tf:=G.bG;have hzs:=z.pW;rw[bb,bb]at tf;refine⟨pt,_,0,_,U,U,aY.of (a _ _ pD),bt (j:=0) U,iF vS T (by lia) λp1 H4 tH tm l=>?_⟩;refine⟨pt,_,2,_,U,U,aY.of (l _ _ (a _ _ pD)),bt (j:=2) U,iF tm (vT.same l) (by rw[bb];lia) λp2 H5 yB qH s5=>?_⟩;have om:=iM.trans (l.trans s5);obtain⟨dx,mW⟩:=(tx.same om).tx;refine⟨t,dx,_,U,mW,by show 5<1000;decide,?_⟩;rw[tN];refine ?_;refine AY (E:=E0) Z.togB d tx om (kn:=3) iH qH ((iM.trans l).free yB) O G ((T.same l).same s5) ?_ (by lia) z.dh;rw[<-O];refine Av (n:=bj s) (ok.cw i).1 ((ok.cw i).2.cw (j-i)).2 I λx hx=>?_;rw[L]at hx;obtain⟨y,hy,M⟩:=ny.mp hx;have yn:y∈s.doc.row:=by rw[<-h.ao];have e2:=ab.ot (ab.ao rs) i;have e3:=ab.ot (ab.ao (ab.bu rs i).2) (j-i);rw[<-e2,<-ab.jA h.bN];refine gZ _ ?_;rw[<-e3,<-ab.j5 (ok.cw i).2.bN,<-R];exact jq _ hy
    unfold vK ab.d6 at M;split at M
    .rw [bx]at M;subst M;exact aca z.wf yn MJ
    .rw [bx]at M;subst M;exact(z.wf.all _ yn).mono (cS _)
  .refine Y m D ?_;unfold dY;rw[show decide (((0:Nat):Int)<=v)=_ from b1,dj,dy]
  .refine Y m D ?_;unfold dY;rw[show decide (((0:Nat):Int)<=k)=_ from a1,dj,dj]
 .refine d.refuse h (bad ?_) (aF.refl _);unfold gC;rw[show decide (p<q)=_ from h2,dj,dy]
 .refine d.refuse h (bad ?_) (aF.refl _);unfold gC;rw[show decide (0<=p)=_ from h1,dj]
def Uj(h:ab.WF s){y:aE}(X:y∈s.doc.row):ab.cX (bj s+1) (gk s.doc y):=by
 have w:=h.all y X;have Z:=w.mono (cS _);unfold gk;split
 .exact Z
 .refine ⟨Z.look,λc Y=>?_,Z.del,Z.pend,?_,Z.gq,Z.dl,Z.tags⟩
  .rcases cZ.mp Y with Y|Y
   .exact Z.ins c Y
   .rw [bx.mp Y,ab.j7];lia
  .exact ab.CO (n:=bj s) Z.hG λc Y=>(w.ins c Y).2
def aav(h:ab.bP rs){i:Nat}{y:aE}(Z:y∈ab.ao (ab.bu (ab.bu rs i).2 (j-i)).1):y∈ab.ao rs:=by have X:=ab.ot (ab.ao rs) i;have Y:=ab.ot (ab.ao (ab.bu rs i).2) (j-i);rw[<-X,<-ab.jA h];refine gZ _ ?_;rw[<-Y,<-ab.j5 (ab.m1 rs i h).2];exact jq _ Z
def UD(h:ab.WF s){Y:List ab.ak}(V:∀y∈ab.ao Y,y∈s.doc.row):∀x∈ab.ao (Y.flatMap (ab.eG s.doc)),ab.cX (bj s+1) x:=λx W=>by
 rw[ab.uV _ _ _ λr _=>ab.yu s.doc r]at W;obtain⟨y,X,Z⟩:=ny.mp W;unfold ab.d6 at Z;split at Z
 .exact ab.AN h (V y X) Z
 .rw [bx]at Z;subst Z;exact(h.all _ (V _ X)).mono (cS _)
def Uk(h:ab.WF s){Z:List ab.ak}(W:∀y∈ab.ao Z,y∈s.doc.row):∀x∈ab.ao ((Z.filter ab.ak.shown).map (ab.jg s.doc)),ab.cX (bj s+1) x:=λx Y=>by rw[ab.GC]at Y;obtain⟨y,X,rfl⟩:=bA.mp Y;exact Uj h (W y (d4.mp X).1)
def pT:Sc ["text","p","q","r","last","m","parts","staying","coming","run","halves"] 4 60:=by walk_at"s"
inductive afk(K:aw)(A:br)(vs:List V)(H:Hp)(Q:VK)(_:XK):Prop|mk(t cl ca s rs:_)(p q r:Int)(_:vs=[.ref t,.int p,.int q,.int r])(_:cV K A H t cl ca s rs)(_:Sz s)(_:e8 K A [] H t cl ca s (.move p q r) Q)
def abB:Cz Z "move" ["text","p","q","r"] 7 (afk K A):=by
 refine Z.Vu.ok pT λf eA Ar outer s H vs Q E hr h=>?_;obtain⟨t,cl,ca,s,rs,p,q,r,rfl,h,z,d⟩:=h;obtain⟨rl,tx,row⟩:=h.ex;have ok:=z.ok h.ao h.bN;have gT:=eF;have j3:=ok.bG;have nX:=z.dh;refine⟨_,(aH (qS 4 pT.nd (b6 OP (qF (yF Z:) hr (ai (aX Z.cA Z.eI (pv 0)) aq)) aU)) (aH (bO (PW.pt (vQ (eH (HI d3 pN d3 aU (pv 1) (pv 2) (pv 4))) (vR (eH (oi d3 d3 aU (pv 3) (pv 4)))))) (aO (bc (b9 (ai (cx U Z.uX) aq)))) bX) (aH (bO (oi d3 d3 (pv 1) (pv 3) (pv 2)) (aO (bc (b9 (ai (cx U Z.Mc) aq)))) bX) (aH (qS 5 pT.nd (qF (yE Z:) hr (ai (pv 0) aq))) (aH (qS 6 pT.nd (qF (Hj Z:) hr (ai (aX Z.cA Z.eI (pv 0)) (ai (pv 1) (ai (pv 2) aq))))) (aH (qS 7 pT.nd (b9 aq)) (aH (qS 8 pT.nd (b9 aq)) (aH (eU eK U (qI K (qT K (pv 6) aU)) (qG 9 pT.nd) (aO (bO (eH (d_ (qF (tJ Z:) hr (ai (pv 9) aq)))) (aO (eT (fA fQ jQ kz j6 (pv 7) (ai (pv 9) aq)))) (aO (bO (d_ (qF (Hn Z:) hr (ai (pv 0) (ai (pv 9) aq)))) (aO (eT (fA fQ jQ kz j6 (pv 8) (ai (pv 9) aq)))) (aH (eT (fA fQ jQ kz j6 (pv 7) (ai (qF (OH Z:) hr (ai (pv 9) (ai (pv 5) aq))) aq))) (aO (eT (fA fQ jQ kz j6 (pv 8) (ai (qF (ab0 Z:) hr (ai (pv 9) (ai (pv 5) aq))) aq)))))))))) (aH (bO (cK pN (pv 3) (pv 1) (cB _)) (aH (qS 10 pT.nd (qF (yG Z:) hr (ai (qT K (pv 6) aU) (ai (pv 3) aq)))) (aO (cY Z.cA Z.eI (pv 0) (b6 gU (b6 gU (b6 gU (b6 gU (qT K (pv 10) aU) (pv 8)) (qT K (pv 10) aU)) (pv 7)) (qT K (pv 6) aU))))) (aH (qS 10 pT.nd (qF (yG Z:) hr (ai (qT K (pv 6) aU) (ai (b6 iK (pv 3) (pv 2)) aq)))) (aO (cY Z.cA Z.eI (pv 0) (b6 gU (b6 gU (b6 gU (b6 gU (qT K (pv 6) aU) (pv 7)) (qT K (pv 10) aU)) (pv 8)) (qT K (pv 10) aU)))))) (aO (bc (b9 (ai (qF (B1 Z:) hr (ai (pv 0) (ai (cx U Z.Me) (ai (b6 gU (pv 7) (pv 8)) aq)))) aq))))))))))))),?_⟩;have u7:(jY (ab.ao rs)).length=dG s.doc:=by rw[h.ao];rfl
 have M8:=ab.AL z.wf;have bad:(gC p q (dG s.doc-1)&&lF r (dG s.doc))=aB->cP s (.move p q r)=(s,.refused (-1)):=λe=>m9 (n:=1) (x:=.move p q r) U (by show mE s.doc p q r=_;unfold mE;rw[e];rfl);refine⟨t,_,U,tx.tx.row,rl,rs,U,row,by lia,λH1 s1=>⟨_,_,U,U,?_⟩⟩;have We:(((jY (ab.ao rs)).length:Nat):Int)-1=((dG s.doc-1:Nat):Int):=by lia
 try dsimp only
 rw[show((((jY (ab.ao rs)).length:Nat):Int)-1)=_ from We];have X:(gC p q (dG s.doc-1)&&lF r (dG s.doc))=aB->[V.int (-1)].length<=aS/\∀p,H1 p=aj->Q (.ref p) (aM H1 p (.aC [.int (-1)])):=λe=>d.refuse h (bad e) s1;refine(aZ (λh1=>(aZ (λh2=>(aZ (λh3=>?_) λh3=>(aZ (λh5=>(aZ (λh6=>?_) λh6=>?_)) λh5=>?_))) λh2=>?_)) λh1=>?_)
 .refine X ?_;have:¬q<=((dG s.doc-1:Nat):Int):=‹h3›
  unfold gC;rw[cE this,dy,dy,dj]
 .refine X ?_;have:¬r<=((dG s.doc-1:Nat):Int):=‹h6›
  unfold lF;rw[cE (show¬r<((dG s.doc:Nat):Int) by lia),dy,dy]
 .have YC:q<=((dG s.doc-1:Nat):Int):=‹h3›
  have Bt:r<=((dG s.doc-1:Nat):Int):=‹h6›
  have n0:0<=p:=cQ h1;have qE:p<q:=cQ h2;have Nb:0<=r:=cQ h5;have MB:(gC p q (dG s.doc-1)&&lF r (dG s.doc))=ah:=by unfold gC lF;rw[dg n0,dg qE,dg YC,dg Nb,dg (show r<((dG s.doc:Nat):Int) by lia)];rfl
  have TX:(p<=r/\r<=q)->[V.int (-3)].length<=aS/\∀p,H1 p=aj->Q (.ref p) (aM H1 p (.aC [.int (-3)])):=λe=>d.refuse h (m9 (n:=3) (x:=.move p q r) U (by show mE s.doc p q r=_;unfold mE;rw[MB,ay (by decide),aA e])) s1;refine QV (p:=¬(p<=r/\r<=q)->_) (λFF=>?_) λmain=>(aZ (λh7=>(aZ (λh8=>?_) λh8=>main λe=>?_)) λh7=>(main λe=>?_))
  .obtain ⟨i,rfl⟩:=i5 n0;obtain⟨j,rfl⟩:=i5 (JJ (JK n0 qE));obtain⟨u,rfl⟩:=i5 Nb;have u9:i<j:=by lia
   have MI:j<(jY (ab.ao rs)).length:=by lia
   have iH:cP s (.move i j u)=(ab.dP s (Aj s.doc i j u).1,.told (gN [(Aj s.doc i j u).2])):=by refine tY (x:=.move i j u) U ?_;show mE s.doc i j u=_;unfold mE;rw[MB,ay (by decide),ay FF];rfl
   refine⟨t,cl,rl,ca,s,U,tx.same s1,?_⟩;refine⟨t,_,U,(tx.same s1).tx.row,rl,rs,i,j,U,by lia,row.same s1,by lia,λpt l1 l2 l3 H2 pD r1 r2 r3 n1 n2 n3 s2=>?_⟩;have iq:=s1.trans s2;refine⟨cN _,λst m5=>⟨cN _,λco BS=>?_⟩⟩;have s3:=bg (o:=.aC []) m5;have s4:=bg (o:=.aC []) BS;have N':H2 co=aj:=s3.free BS;have kQ:st≠co:=λe=>by rw[<-e,aJ]at BS;cases BS
   obtain⟨Y,L⟩:∃Y,Y=(ab.bu (ab.bu rs i).2 (j-i)).1:=⟨_,U⟩;rw[<-L]at r2;have vF:cM (bj s) Y:=by rw[L];exact((ok.cw i).2.cw (j-i)).1
   obtain⟨zs,e0,q1,q2⟩:=id r2;have el:zs.length=Y.length:=by rw[<-e0,aP]
   have pB:=vF.bG;refine⟨pt,_,1,_,U,U,aY.of ((s3.trans s4) _ _ pD),bt (j:=1) U,l2,U,⟨_,aL.of ((s3.trans s4) _ _ q1)⟩,?_⟩;have FA:∀r,(ab.eG s.doc r).length<=1:=λr=>by unfold ab.eG;split<;>(try split)<;>simp
   have lP:∀l:List ab.ak,(l.flatMap (ab.eG s.doc)).length<=l.length:=λl=>by
    induction l with
    |nil=>simp
    |cons r l ih=>rw[dW,bb,bY];have:=FA r;lia
   have nW:∀l:List ab.ak,((l.filter ab.ak.shown).map (ab.jg s.doc)).length<=l.length:=λl=>by rw[aP];exact oJ _ _
   refine eP (ff (zs:=zs) (v:=rf)) (λk σ H'=>(∃x,σ=[aa (.ref t),aa (.int i),aa (.int j),aa (.int u),aa (.int (dG s.doc-1:Nat)),aa (NI (dH s.doc)),aa (.ref pt),aa (.ref st),aa (.ref co),x,aj])/\aF H2 H'/\bF K A.cr H' st ((Y.take k).flatMap (ab.eG s.doc))/\bF K A.cr H' co (((Y.take k).filter ab.ak.shown).map (ab.jg s.doc)))
    ⟨⟨aj,U⟩,s3.trans s4,⟨[],U,s4 _ _ aJ,λy hy=>by simp at hy⟩,⟨[],U,aJ,λy hy=>by simp at hy⟩⟩ (λk σ H' j0=>aL.of (j0.2.1 _ _ q1)) ?_ ?_
   .rintro k x σ H3 H4 hk s5 N B kn kb gz ⟨⟨y,rfl⟩,sm,T,S⟩ ⟨R,fZ,rfl⟩
    refine gz ?_;have tW:=sm.trans s5;have gS:=ck fZ;have je:R.2∈Y:=by rw[<-e0];exact bA.mpr ⟨R,gS,U⟩
    have iV:=(q2 R gS).up (tW.le A.cr);have iT:Y[k]?=aa R.2:=by rw[<-e0,cf,fZ];rfl
    have M:=T.same s5;have J:=S.same s5;obtain⟨xs,I⟩:=l0 M;obtain⟨ys,j4⟩:=l0 J;have htk:=ub k Y;have ym:xs.length<aS:=by rw[oj M I];have:=lP (Y.take k);lia
    have Nk:ys.length<aS:=by rw[oj J j4];have:=nW (Y.take k);lia
    have keep:∀(H5:Hp) (c:ae) (zs:List V),aF H4 H5->(c=st\/c=co)->aF H2 (aM H5 c (.aC zs)):=λH5 c zs P hc b o e=>by
     have:b≠c:=λq=>by
      rcases hc with hc|hc
      .rw [q,hc,m5]at e;cases e
      .rw [q,hc,N']at e;cases e
     rw[a_ this];exact P _ _ (tW _ _ e)
    refine⟨R.1,R.2,U,iV,aZ (λhs=>?_) λhs=>?_⟩
    .have w:¬R.2.shown=ah:=by cases q:R.2.shown<;>simp_all
     refine⟨.inl ⟨U,_,aL.of I⟩,st,xs,_,U,U,I,ym,?_⟩;refine kn _ _ ⟨⟨_,U⟩,keep H4 st _ (aF.refl _) (.inl U),?_,?_⟩
     .rw [dU iT,gw];have e2:[R.2].flatMap (ab.eG s.doc)=[R.2]:=by rw[dW];unfold ab.eG;rw[ay w];rfl
      rw[e2];exact vV M (aF.refl _) I iV
     .rw [dU iT,ku,gv,ay w,t_,ee];exact Cp J I (cU kQ)
    .have w:R.2.shown=ah:=by cases q:R.2.shown<;>simp_all
     refine⟨t,cl,rl,ca,s,R.1,R.2,U,tx.same ((s1.trans s2).trans tW),iV,vF.F' je,aZ (λho=>?_) λho=>?_⟩
     .refine ⟨.inl ⟨U,_,aL.of j4⟩,co,ys,_,U,U,j4,Nk,?_⟩;refine kn _ _ ⟨⟨_,U⟩,keep H4 co _ (aF.refl _) (.inr U),?_,?_⟩
      .rw [dU iT,gw];have e2:[R.2].flatMap (ab.eG s.doc)=[]:=by rw[dW];unfold ab.eG;rw[aA w,aA ho];rfl
       rw[e2,ee];exact Cp M j4 kQ
      .rw [dU iT,ku,gv,aA w,t_,cG];have e2:[R.2].map (ab.jg s.doc)=[R.2]:=by rw[uc];unfold ab.jg;rw[aA ho]
       rw[e2];exact vV J (aF.refl _) j4 iV
     .have va:¬R.2.outright s.doc=ah:=by rw[ho];exact cg
      refine⟨.inl ⟨U,_,aL.of I⟩,R.1,R.2,dH s.doc,U,iV,λb H5 hb P=>⟨st,xs,_,U,U,P _ _ I,ym,?_⟩⟩;have mY:Le A.cr H5 (aM H5 st (.aC (xs++[.ref b]))):=jz (P _ _ I) λc o e hc=>by rw[a_ hc];exact e
      have XJ:=Cp (ys:=xs++[.ref b]) (J.same P) (P _ _ I) (cU kQ);have Bw:(aM H5 st (.aC (xs++[.ref b]))) co=aa (.aC ys):=by rw[a_ (cU kQ)];exact P _ _ j4
      refine⟨.inl ⟨U,_,aL.of Bw⟩,R.1,R.2,dH s.doc,U,(iV.up (P.le _)).up mY,by have:=vF.ins je;lia,λb2 H6 px G=>⟨co,ys,_,U,U,G _ _ Bw,Nk,?_⟩⟩;have YI:=vV M P (P _ _ I) hb;refine kn _ _ ⟨⟨_,U⟩,λc o e=>?_,?_,?_⟩
      .have h1:c≠co:=λq=>by rw[q,N']at e;cases e
       rw[a_ h1];exact G _ _ (keep H5 st _ P (.inl U) _ _ e)
      .rw [dU iT,gw];have e2:[R.2].flatMap (ab.eG s.doc)=[{R.2 with del:=[dH s.doc]}]:=by rw[dW];unfold ab.eG;rw[aA w,ay va];rfl
       rw[e2];exact Cp (YI.same G) (G _ _ Bw) kQ
      .rw [dU iT,ku,gv,aA w,t_,cG];have e2:[R.2].map (ab.jg s.doc)=[{R.2 with ins:=R.2.ins++[dH s.doc]}]:=by rw[uc];unfold ab.jg;rw[ay va]
       rw[e2];exact vV XJ G (G _ _ Bw) px
   .rintro σ H3 gz ⟨⟨y,rfl⟩,sm,T,S⟩
    refine gz ?_;rw[el,eJ]at T S;have iM:=iq.trans sm;have vS:=r1.same sm;have vT:=r3.same sm;have MT:=lP Y;have Bh:=nW Y;have Bc:=m2 rs i;have Bd:=m2 (ab.bu rs i).2 (j-i);rw[<-L]at Bd;have tj:∀y∈ab.ao Y,y∈s.doc.row:=λy hy=>by rw[<-h.ao];rw[L]at hy;exact aav h.bN hy
    have fst:ab.bP (Y.flatMap (ab.eG s.doc)):=ab.Ff λr hr=>ab.GD s.doc (vF.bN r hr);have E6:ab.bP ((Y.filter ab.ak.shown).map (ab.jg s.doc)):=ab.aaa s.doc vF.bN;have MY:((Y.flatMap (ab.eG s.doc))++((Y.filter ab.ak.shown).map (ab.jg s.doc))).any (ab.hA (dH s.doc))=((ab.ao (Y.flatMap (ab.eG s.doc))).any (eo (dH s.doc))||(ab.ao ((Y.filter ab.ak.shown).map (ab.jg s.doc))).any (eo (dH s.doc))):=by rw[wM,ab.j7,ab.ED fst (UD z.wf tj),ab.ED E6 (Uk z.wf tj)]
    have vy:∀{rs:List ab.ak},cM (bj s) rs->(ab.ao rs).any (eo (dH s.doc))=aB:=λo=>ab.EE o.wf;refine(aZ (λF1=>?_) λF1=>?_)
    .have YZ:u<i:=by
      have:=cQ F1;lia
     have Be:=m2 (ab.bu rs i).1 u;refine⟨pt,_,0,_,U,U,aY.of (sm _ _ pD),bt (j:=0) U,l1,_,u,U,vS,by lia,λht a1 a2 H4 yc HL HM na1 na2 P=>?_⟩;have vY:=iM.trans P;refine⟨ht,_,0,_,U,U,aY.of yc,bt (j:=0) U,iF HL (S.same P) (by lia) λp1 H5 tH tm G=>?_⟩;refine⟨ht,_,1,_,U,U,aY.of (G _ _ yc),bt (j:=1) U,iF tm (HM.same G) (by rw[bb];lia) λp2 H6 yB qH s8=>?_⟩;refine(iF qH (((T.same P).same G).same s8) (by rw[bb,bb];lia) λp3 H7 np3 FR s9=>?_);have W:=P.trans (G.trans (s8.trans s9));refine⟨pt,_,2,_,U,U,aY.of (W _ _ (sm _ _ pD)),bt (j:=2) U,iF FR (vT.same W) (by rw[bb,bb,bb];lia) λp4 H8 Ha Bt O=>?_⟩;have D:=iM.trans (W.trans O);obtain⟨dx,C⟩:=(tx.same D).tx;refine⟨t,dx,_,U,C,by show 5<1000;decide,?_⟩;rw[tN];obtain⟨H9,a⟩:∃H9,H9=aM H8 t (.ins A.ct dx (gu s.doc.author s.doc.time s.doc.tracking cl p4)):=⟨_,U⟩;rw[<-a];have sX:bZ [t] H8 H9:=by rw[a];exact ir
     have nf:=(tx.same D).kW Z.togB;have IQ:=((T.same W).same O).x sX ‹m8 ((T.same W).same O) C› nf;have ET:=((S.same W).same O).x sX ‹m8 ((S.same W).same O) C› nf;refine(iF IQ ET (by lia) λml rC yz g hW=>?_);rw[a]at hW;have m:=ab.aaA s.doc (p:=i) (q:=j) (r:=u) h.bN u9 MI YZ;rw[h.ao,<-L]at m;refine E7 (E:=E0) Z.togB d tx D (kn:=4) iH Bt ((iM.trans W).free Ha) m (ab.iG (ab.iG (ab.iG (ab.iG ((ok.cw i).1.cw u).1.bN E6) ((ok.cw i).1.cw u).2.bN) fst) (by rw[L]at vF;exact((ok.cw i).2.cw (j-i)).2.bN)) hW g ?_ (by rw[bb];lia) z.dh;rw[MY,<-m];simp only[ab.ik,wM];rw[vy ((ok.cw i).1.cw u).1,vy ((ok.cw i).1.cw u).2,vy ((ok.cw i).2.cw (j-i)).2];simp only[gf,Dl];exact Bool.or_comm _ _
    .have X9:j<u:=by
      have:=fh F1;lia
     have eu:(u:Int)-(j:Int)=((u-j:Nat):Int):=by lia
     have Be:=m2 (ab.bu (ab.bu rs i).2 (j-i)).2 (u-j);refine⟨pt,_,2,_,U,U,aY.of (sm _ _ pD),bt (j:=2) U,l3,_,u-j,by dsimp only;rw[eu];rfl,vT,by lia,λht a1 a2 H4 yc HL HM na1 na2 P=>?_⟩;have vY:=iM.trans P;refine⟨pt,_,0,_,U,U,aY.of (P _ _ (sm _ _ pD)),bt (j:=0) U,iF (vS.same P) (T.same P) (by lia) λp1 H5 tH tm G=>?_⟩;refine⟨ht,_,0,_,U,U,aY.of (G _ _ yc),bt (j:=0) U,iF tm (HL.same G) (by rw[bb];lia) λp2 H6 yB qH s8=>?_⟩;refine(iF qH (((S.same P).same G).same s8) (by rw[bb,bb];lia) λp3 H7 np3 FR s9=>?_);have W:=P.trans (G.trans (s8.trans s9));refine⟨ht,_,1,_,U,U,aY.of ((G.trans (s8.trans s9)) _ _ yc),bt (j:=1) U,iF FR (HM.same (G.trans (s8.trans s9))) (by rw[bb,bb,bb];lia) λp4 H8 Ha Bt O=>?_⟩;have D:=iM.trans (W.trans O);obtain⟨dx,C⟩:=(tx.same D).tx;refine⟨t,dx,_,U,C,by show 5<1000;decide,?_⟩;rw[tN];obtain⟨H9,a⟩:∃H9,H9=aM H8 t (.ins A.ct dx (gu s.doc.author s.doc.time s.doc.tracking cl p4)):=⟨_,U⟩;rw[<-a];have sX:bZ [t] H8 H9:=by rw[a];exact ir
     have nf:=(tx.same D).kW Z.togB;have IQ:=((T.same W).same O).x sX ‹m8 ((T.same W).same O) C› nf;have ET:=((S.same W).same O).x sX ‹m8 ((S.same W).same O) C› nf;refine(iF IQ ET (by lia) λml rC yz g hW=>?_);rw[a]at hW;have m:=ab.aaB s.doc (p:=i) (q:=j) (r:=u) h.bN u9 MI X9;rw[h.ao,<-L]at m;refine E7 (E:=E0) Z.togB d tx D (kn:=4) iH Bt ((iM.trans W).free Ha) m (ab.iG (ab.iG (ab.iG (ab.iG (ok.cw i).1.bN fst) (((ok.cw i).2.cw (j-i)).2.cw (u-j)).1.bN) E6) (((ok.cw i).2.cw (j-i)).2.cw (u-j)).2.bN) hW g ?_ (by rw[bb];lia) z.dh;rw[MY,<-m];simp only[ab.ik,wM];rw[vy (ok.cw i).1,vy (((ok.cw i).2.cw (j-i)).2.cw (u-j)).1,vy (((ok.cw i).2.cw (j-i)).2.cw (u-j)).2];simp only[gf,Dl]
  .exact TX ⟨cQ h7,cQ h8⟩
  .exact fh h8 e.2
  .exact fh h7 e.1
 .refine X ?_;unfold lF;rw[show decide (0<=r)=_ from h5,dj,dy]
 .refine X ?_;unfold gC;rw[show decide (p<q)=_ from h2,dj,dy,dj]
 .refine X ?_;unfold gC;rw[show decide (0<=p)=_ from h1,dj,dj]
noncomputable def lU(s:bf)(p:Nat)(ns:List Nat):ab.ak:=
 ⟨ns.map λc=>(c,if c=10 then jW p s.doc.row else jX p s.doc.row),if s.doc.tracking=ah then[dH s.doc]else[],[],[]⟩
def BV(h:ab.WF s)(p:Nat)(ns:List Nat):ab.ao [lU s p ns]=iR s.doc p ns:=by
 rw[ab.kO];unfold ab.ak.ao lU iR
 try dsimp only
 rw[bR];apply gY;intro c _;unfold ab.ak.bz;dsimp only[RC];rw[ab.EU h p];rfl
def Oc(h:ab.WF s)(p:Nat)(signs:List Nat):∀x∈iR s.doc p signs,ab.cX (bj s+1) x:=λx Y=>by
 unfold iR at Y;obtain⟨c,_,rfl⟩:=bA.mp Y;refine⟨?_,?_,by simp,by simp,?_,by simp,by simp,ab.EU h p⟩
 .try dsimp only
  split
  .exact ab.L0 ..
  .exact ab.Qt ..
 .try dsimp only
  intro c Z;split at Z
  .rw [bx.mp Z,ab.j7];lia
  .simp at Z
 .try dsimp only
  split<;>simp
def Wl(h:ab.WF s)(e:ab.ao rs=s.doc.row)(Q:ab.bP rs){p:Nat}(T:p<dG s.doc):∃r∈(ab.bu rs p).2,r.shown=ah/\∃c∈r.cells,c.1=10:=by
 obtain⟨L,x,M,X⟩:=h.kS;have N:=ab.ot (ab.ao rs) p;have O:=ab.jA (p:=p) Q;have W:=ab.zr (ab.ao rs) p;have Z:(ab.bC p (ab.ao rs)).2≠[]:=λq=>by rw[q,e]at W;have:=b_ fo W;rw[jN]at this;unfold dG at T;have hz:(jY ([]:List aE)).length=0:=rfl;rw[hz]at this;omega
 have R:(ab.bC p (ab.ao rs)).2.getLast?=aa x:=by
  have Y:(ab.ao rs).getLast?=aa x:=by rw[e,M];simp
  rw[<-N,rH]at Y;cases q:(ab.bC p (ab.ao rs)).2.getLast? with
  |none=>exact bq (R1.mp q) Z
  |some y=>rw[q]at Y;exact Y
 have S:x∈ab.ao (ab.bu rs p).2:=by rw[O];exact ud R
 obtain⟨r,V,c,P,rfl⟩:=ab.oa.mp S;refine⟨r,V,?_,c,P,X.1⟩;have:=X.shown;rw[ab.acS]at this;exact this
def aeE{z:Int}(h:mD z=ah):z=(z.toNat:Int):=by
 unfold mD at h;rw[wI,fk]at h;rcases h with h|⟨h,_⟩
 .have:z=10:=‹h›
  lia
 .have:=cQ h;lia
def oo:Sc ["text","p","signs","number","halves","sign_look","end_look","looks","sign","insertions","made"] 3 56:=by walk_at"s"
inductive afw(K:aw)(A:br)(vs:List V)(H:Hp)(Q:VK)(_:XK):Prop|mk(t cl ca s rs:_)(p:Int)(sl:ae)(zs:List Int)(_:vs=[.ref t,.int p,.ref sl])(_:cV K A H t cl ca s rs)(_:Sz s)(_:H sl=aa (.aC (zs.map V.int)))(_:zs.length<=16000)(_:e8 K A [] H t cl ca s (.put p zs) Q)
def abI:Cz Z "put" ["text","p","signs"] 6 (afw K A):=by
 refine Z.VD.ok oo λf eA Ar outer s H vs Q E F h=>?_;obtain⟨t,cl,ca,s,rs,p,sl,zs,rfl,h,z,M,yo,d⟩:=h;obtain⟨rl,tx,row⟩:=h.ex;have ok:=z.ok h.ao h.bN;have gT:=eF;have j3:=ok.bG;have nX:=z.dh;refine⟨_,(aH (bO (eH (oi d3 d3 aU (pv 1) (b6 iK (qF (yF Z:) F (ai (aX Z.cA Z.eI (pv 0)) aq)) aU))) (aO (bc (b9 (ai (cx U Z.uX) aq)))) bX) (aH (bO (PW.pt (vQ (cK dI (qN K Z.eQ (ai (pv 2) aq)) aU (cB _)) (vR (eH (d_ (lV (r:=yV K) (AM U) U Z.BP DU (ai (hU U oo.nd (qI K (pv 2)) (fw (N:=["text","p","signs","number","halves","sign_look","end_look","looks","sign","insertions","made"]) (sc:=cF (bo 56)) (own:=[("number",3)]) ‹_›) (λ_ _ _ _ _=>(qG 3 oo.nd)) (λ_ _ _ _ _=>jE) (λ_ _ _ _ _=>(qF (abt Z:) F (ai (pv 3) aq)))) aq))))))) (aO (bc (b9 (ai (cx U Z.lN) aq)))) bX) (aH (qS 4 oo.nd (qF (yG Z:) F (ai (aX Z.cA Z.eI (pv 0)) (ai (pv 1) aq)))) (aH (qS 5 oo.nd (qF (abz Z:) F (ai (qT K (pv 4) aU) aq))) (aH (qS 6 oo.nd (qF (abA Z:) F (ai (qT K (pv 4) aU) aq))) (aH (rg U oo.nd (i:=7) U rfl (rm U rfl rfl rfl) (qI K (pv 2)) (fw (N:=["text","p","signs","number","halves","sign_look","end_look","looks","sign","insertions","made"]) (sc:=cF (bo 56)) (own:=[("sign",8)]) ‹_›) (λ_ _ _ _ _=>(qG 8 oo.nd)) (λ_ _ _ _ _=>jE) (λ_ _ _ _ _=>(HD (cK dI (pv 8) (cx U Z.uZ) (cB _)) (pv 6) (pv 5)))) (aH (qS 9 oo.nd (HD (d_ (aX Z.cA Z.C5 (pv 0))) (fB (ai (qF (yE Z:) F (ai (pv 0) aq)) aq)) (fB aq))) (aH (qS 10 oo.nd (b9 (ai (m6 (qW Z:) (F.mono (by decide)) U (ai (kZ (r:=pP K) qv U Z.qR rT (ai (pv 2) aq)) (ai (kZ (r:=pP K) qv U Z.qR rT (ai (pv 7) aq)) (ai (pv 9) (ai (fB aq) (ai (fB aq) aq)))))) aq))) (aH (cY Z.cA Z.eI (pv 0) (b6 gU (b6 gU (qT K (pv 4) aU) (pv 10)) (qT K (pv 4) aU))) (aO (bc (b9 (ai (qF (B1 Z:) F (ai (pv 0) (ai (cx U Z.WU) (ai (pv 10) aq)))) aq))))))))))))),?_⟩;have u7:(jY (ab.ao rs)).length=dG s.doc:=by rw[h.ao];rfl
 have bad:lF p (dG s.doc)=aB->cP s (.put p zs)=(s,.refused (-1)):=λe=>m9 (n:=1) (x:=.put p zs) U (by show mG s.doc p zs=_;unfold mG;rw[e];rfl);refine(aZ (λh1=>⟨t,_,U,tx.tx.row,rl,rs,U,row,by lia,λH1 s1=>(aZ (λh3=>?_) λh3=>?_)⟩) λh1=>?_)
 .refine d.refuse h (bad ?_) s1;have h4:¬p<=((jY (ab.ao rs)).length:Int)-1:=‹h3›
  unfold lF;rw[cE (show¬p<((dG s.doc:Nat):Int) by lia),dy]
 .have h4:p<=((jY (ab.ao rs)).length:Int)-1:=‹h3›
  have n0:0<=p:=cQ h1;have Mu:lF p (dG s.doc)=ah:=by unfold lF;rw[dg n0,dg (show p<((dG s.doc:Nat):Int) by lia)];rfl
  have Az:∀H1,aF H H1->(zs.isEmpty||!zs.all mD)=ah->[V.int (-2)].length<=aS/\∀p,H1 p=aj->Q (.ref p) (aM H1 p (.aC [.int (-2)])):=λH1 s1 e=>d.refuse h (m9 (n:=2) (x:=.put p zs) U (by show mG s.doc p zs=_;unfold mG;rw[Mu,e];rfl)) s1;refine⟨sl,_,U,dB.ls (s1 _ _ M),U,aZ (λh5=>?_) λh5=>?_⟩
  .refine Az H1 s1 ?_;have:zs=[]:=by
    have:=cQ h5;injection this with this;rw[aP]at this;exact gh.mp (by lia)
   rw[this];rfl
  have iU:zs≠[]:=λq=>by rw[q]at h5;cases h5
  refine⟨sl,U,⟨_,aL.of (s1 _ _ M)⟩,λD hD=>fJ zs (λ_=>ah) (λz=>.bl (mD z)) (ff (v:=V.int)) (λH' sm=>aL.of ((s1.trans sm) _ _ M)) hD (by lia) ?_ λH2 sm2 hl=>?_⟩
  .rintro n z x H' Qx Qn hz sm k1 _ gz ⟨z',pH,rfl⟩
   cases hz.symm.trans pH;refine gz ?_;exact⟨U,z,U,k1 U H' (aF.refl _)⟩
  rw[lK]at hl;have s2:=s1.trans sm2;refine⟨D,zs.map mD,U,aL.of (by rw[hl,bR];rfl),?_⟩;have EZ:(zs.map mD).all id=zs.all mD:=by rw[wL];rfl
  rw[EZ];refine aZ (λh6=>?_) λh6=>?_
  .exact Az H2 s2 (by rw[h6,Bool.or_true])
  have jx:zs.all mD=ah:=by cases q:zs.all mD<;>simp_all
  obtain⟨i,rfl⟩:=i5 n0;have X1:i<dG s.doc:=by lia
  obtain⟨ns,k⟩:∃ns:List Nat,ns=zs.map oD:=⟨_,U⟩;have Y4:zs.map V.int=ns.map NI:=by rw[k,bR];apply gY;intro x hx;show V.int x=NI x.toNat;unfold NI;rw[<-aeE (rE.mp jx x hx)]
  have iH:cP s (.put i zs)=(ab.dP s (Al s.doc i ns).1,.told (gN [(Al s.doc i ns).2])):=by
   refine tY (x:=.put i zs) U ?_;show mG s.doc i zs=_;unfold mG;have e2:(zs.isEmpty||!zs.all mD)=aB:=by rw[jx];cases zs with|nil=>exact bq U iU|cons a l=>rfl
   rw[Mu,e2,k];rfl
  rw[Y4]at M;have qC:ns.length<=16000:=by rw[k,aP];exact yo
  refine⟨t,_,U,(tx.same s2).tx.row,rl,rs,i,U,row.same s2,by lia,λht l1 l2 H3 C r1 r2 n1 n2 s3=>?_⟩;have iM:=s2.trans s3;refine⟨ht,_,0,_,U,U,aY.of C,bt (j:=0) U,l1,_,_,U,r1,(ok.cw i).1,λsk H4 FW s4=>?_⟩;refine⟨ht,_,1,_,U,U,aY.of (s4 _ _ C),bt (j:=1) U,l2,_,_,U,r2.same s4,(ok.cw i).2,Wl z.wf h.ao h.bN X1,λek H5 Fs s5=>?_⟩;have Wf:ab.lookBehind (ab.bu rs i).1=jX i s.doc.row:=by rw[<-h.ao];exact(ab.aeD h.bN (by rw[u7];lia)).symm
  have Wg:ab.vr (ab.bu rs i).2=jW i s.doc.row:=by rw[<-h.ao];exact(ab.Wj h.bN).symm
  rw[Wf]at FW;rw[Wg]at Fs;have om:=iM.trans (s4.trans s5);refine⟨sl,U,⟨_,aL.of (om _ _ M)⟩,λD2 xX=>fJ ns (λ_=>ah) (λc=>.ref (if c=10 then ek else sk)) (ff (v:=NI)) (λH' sm=>aL.of ((om.trans sm) _ _ M)) xX (by lia) ?_ λH6 IG yg=>?_⟩
  .rintro n z x H' Qx Qn hz sm k1 _ gz ⟨z',pH,rfl⟩
   cases hz.symm.trans pH;refine gz ?_;have:=k1 U H' (aF.refl _);refine⟨U,U,aZ (λhb=>?_) λhb=>?_⟩
   .rw [show decide (NI z=V.int 10)=_ from eR z 10]at hb;have px:z=10:=‹hb›
    rw[aA px]at this;exact this
   .rw [show decide (NI z=V.int 10)=_ from eR z 10]at hb;have px:¬z=10:=‹hb›
    rw[ay px]at this;exact this
  rw[lK]at yg;have vY:=om.trans IG;refine⟨t,_,U,(tx.same vY).tx.tracking,aZ (λFY=>?_) λFY=>?_⟩
  .refine ⟨t,cl,rl,ca,s,U,tx.same vY,by show 1<=aS;decide,λia G4=>?_⟩;have s7:=bg (o:=.bh [NI (dH s.doc)]) G4;have g:dF K (aM H6 ia (.bh [NI (dH s.doc)])) ia (if s.doc.tracking=ah then[dH s.doc]else[]):=by rw[FY];exact aY.of aJ
   generalize Fu:aM H6 ia (.bh [NI (dH s.doc)])=H7 at s7 g⊢;clear Fu;have u:=vY.trans s7;refine⟨sl,_,U,.inl ⟨aL.of (u _ _ M),λsg Hc=>?_⟩⟩;have s8:=bg (o:=.bh (ns.map NI)) Hc;refine⟨D2,_,U,.inl ⟨aL.of ((s7.trans s8) _ _ yg),λlk G7=>?_⟩⟩;have s9:=bg (o:=.bh (ns.map λc=>V.ref (if c=10 then ek else sk))) G7;refine⟨cN _,λd1 G0=>⟨cN _,λp1 tH=>λx dx nx nd ne=>?_⟩⟩;have J:=bg (o:=.bh []) G0;have R:=bg (o:=.bh []) tH;have Y:=s8.trans (s9.trans (J.trans R));have s1b:=u.trans Y;have L:aF H5 _:=IG.trans (s7.trans Y);refine GV (K:=K) (r:=lU s i ns) ⟨?_,?_,g.up (Y.le 0),aY.of (R _ _ aJ),⟨[],U,aY.of aJ,λz hz=>by simp at hz⟩⟩ nx nd ne λb m iq=>?_
   .rw [(s9.trans (J.trans R)) _ _ aJ];show _=aa (HO.bh (((ns.map λc=>(c,if c=10 then jW i s.doc.row else jX i s.doc.row)).map (·.1)).map NI));rw[show(ns.map λc=>(c,if c=10 then jW i s.doc.row else jX i s.doc.row)).map (·.1)=ns from by rw[bR];exact kx ns]
   .refine ⟨ns.map λc=>(if c=10 then ek else sk,if c=10 then jW i s.doc.row else jX i s.doc.row),?_,aY.of ?_,λy I=>?_⟩
    .show _=(ns.map λc=>(c,if c=10 then jW i s.doc.row else jX i s.doc.row)).map (·.2);rw[bR,bR];rfl
    .rw [(J.trans R) _ _ aJ,bR];rfl
    .obtain ⟨c,_,rfl⟩:=bA.mp I
     try dsimp only
     by_cases hc:c=10
     .rw [aA hc,aA hc];exact Fs.up (L.le 0)
     .rw [ay hc,ay hc];exact FW.up ((s5.trans L).le 0)
   refine⟨by show 1<=aS;decide,λml yz=>?_⟩;have O:=bg (o:=.aC [.ref x]) yz;have T:bF K A.cr (aM b ml (.aC [.ref x])) ml [lU s i ns]:=⟨[(x,lU s i ns)],U,aJ,λy I=>by rw[bx]at I;subst I;exact m.up (O.le _)⟩;have X:aF H3 (aM b ml (.aC [.ref x])):=(s4.trans s5).trans (L.trans (iq.trans O));have w:=iM.trans X;have Bc:=m2 rs i;refine⟨ht,_,0,_,U,U,aY.of (X _ _ C),bt (j:=0) U,iF (r1.same X) T (by show _+1<=_;lia) λq1 RE nq1 FL W=>?_⟩;refine⟨ht,_,1,_,U,U,aY.of (W _ _ (X _ _ C)),bt (j:=1) U,iF FL ((r2.same X).same W) (by rw[bb];show _+1+_<=_;lia) λq2 RF Hb FN P=>?_⟩;have B:=w.trans (W.trans P);obtain⟨AU,mW⟩:=(tx.same B).tx;refine⟨t,AU,_,U,mW,by show 5<1000;decide,?_⟩;rw[tN];refine ?_;have S:ab.bP [lU s i ns]:=λr F=>by rw[bx]at F;subst F;intro q;have:ns=[]:=zG.mp q;rw[k]at this;exact iU (zG.mp this)
   have G:=ab.Pw (p:=i) (new:=[lU s i ns]) h.bN;rw[BV z.wf,h.ao]at G;refine AY (E:=E0) Z.togB d tx B (kn:=1) iH FN ((w.trans W).free Hb) G (ab.iG (ab.iG (ok.cw i).1.bN S) (ok.cw i).2.bN) ((T.same W).same P) ?_ (by show 1<_;lia) z.dh;rw[<-G];refine Av (n:=bj s) (ok.cw i).1 (ok.cw i).2 S λy I=>?_;rw[BV z.wf]at I;exact Oc z.wf i ns y I
  .refine ⟨cN _,λia G4=>?_⟩;have s7:=bg (o:=.bh []) G4;have g:dF K (aM H6 ia (.bh [])) ia (if s.doc.tracking=ah then[dH s.doc]else[]):=by rw[FY];exact aY.of aJ
   generalize Fu:aM H6 ia (.bh [])=H7 at s7 g⊢;clear Fu;have u:=vY.trans s7;refine⟨sl,_,U,.inl ⟨aL.of (u _ _ M),λsg Hc=>?_⟩⟩;have s8:=bg (o:=.bh (ns.map NI)) Hc;refine⟨D2,_,U,.inl ⟨aL.of ((s7.trans s8) _ _ yg),λlk G7=>?_⟩⟩;have s9:=bg (o:=.bh (ns.map λc=>V.ref (if c=10 then ek else sk))) G7;refine⟨cN _,λd1 G0=>⟨cN _,λp1 tH=>λx dx nx nd ne=>?_⟩⟩;have J:=bg (o:=.bh []) G0;have R:=bg (o:=.bh []) tH;have Y:=s8.trans (s9.trans (J.trans R));have s1b:=u.trans Y;have L:aF H5 _:=IG.trans (s7.trans Y);refine GV (K:=K) (r:=lU s i ns) ⟨?_,?_,g.up (Y.le 0),aY.of (R _ _ aJ),⟨[],U,aY.of aJ,λz hz=>by simp at hz⟩⟩ nx nd ne λb m iq=>?_
   .rw [(s9.trans (J.trans R)) _ _ aJ];show _=aa (HO.bh (((ns.map λc=>(c,if c=10 then jW i s.doc.row else jX i s.doc.row)).map (·.1)).map NI));rw[show(ns.map λc=>(c,if c=10 then jW i s.doc.row else jX i s.doc.row)).map (·.1)=ns from by rw[bR];exact kx ns]
   .refine ⟨ns.map λc=>(if c=10 then ek else sk,if c=10 then jW i s.doc.row else jX i s.doc.row),?_,aY.of ?_,λy I=>?_⟩
    .show _=(ns.map λc=>(c,if c=10 then jW i s.doc.row else jX i s.doc.row)).map (·.2);rw[bR,bR];rfl
    .rw [(J.trans R) _ _ aJ,bR];rfl
    .obtain ⟨c,_,rfl⟩:=bA.mp I
     try dsimp only
     by_cases hc:c=10
     .rw [aA hc,aA hc];exact Fs.up (L.le 0)
     .rw [ay hc,ay hc];exact FW.up ((s5.trans L).le 0)
   refine⟨by show 1<=aS;decide,λml yz=>?_⟩;have O:=bg (o:=.aC [.ref x]) yz;have T:bF K A.cr (aM b ml (.aC [.ref x])) ml [lU s i ns]:=⟨[(x,lU s i ns)],U,aJ,λy I=>by rw[bx]at I;subst I;exact m.up (O.le _)⟩;have X:aF H3 (aM b ml (.aC [.ref x])):=(s4.trans s5).trans (L.trans (iq.trans O));have w:=iM.trans X;have Bc:=m2 rs i;refine⟨ht,_,0,_,U,U,aY.of (X _ _ C),bt (j:=0) U,iF (r1.same X) T (by show _+1<=_;lia) λq1 RE nq1 FL W=>?_⟩;refine⟨ht,_,1,_,U,U,aY.of (W _ _ (X _ _ C)),bt (j:=1) U,iF FL ((r2.same X).same W) (by rw[bb];show _+1+_<=_;lia) λq2 RF Hb FN P=>?_⟩;have B:=w.trans (W.trans P);obtain⟨AU,mW⟩:=(tx.same B).tx;refine⟨t,AU,_,U,mW,by show 5<1000;decide,?_⟩;rw[tN];refine ?_;have S:ab.bP [lU s i ns]:=λr F=>by rw[bx]at F;subst F;intro q;have:ns=[]:=zG.mp q;rw[k]at this;exact iU (zG.mp this)
   have G:=ab.Pw (p:=i) (new:=[lU s i ns]) h.bN;rw[BV z.wf,h.ao]at G;refine AY (E:=E0) Z.togB d tx B (kn:=1) iH FN ((w.trans W).free Hb) G (ab.iG (ab.iG (ok.cw i).1.bN S) (ok.cw i).2.bN) ((T.same W).same P) ?_ (by show 1<_;lia) z.dh;rw[<-G];refine Av (n:=bj s) (ok.cw i).1 (ok.cw i).2 S λy I=>?_;rw[BV z.wf]at I;exact Oc z.wf i ns y I
 .refine d.refuse h (bad ?_) (aF.refl _);unfold lF;rw[show decide (0<=p)=_ from h1,dj]
noncomputable def fK(g:Bool)(i d p st:ae):List (Str×V):=[("gone",.bl g),("insertions",.ref i),("deletions",.ref d),("pending",.ref p),("settled",.ref st)]
def h_(C:ae)(H:Hp)(a:ae)(g:Bool)(i d p st:ae):Prop:=∃dx,H a=aa (.ins C dx (fK g i d p st))
section
variable{C:ae}{H H':Hp}{a i d p st:ae}{g:Bool}
theorem h_.di(h:h_ C H a g i d p st):fL C H a "gone" (.bl g):=let⟨dx,e⟩:=h;⟨dx,_,e,fS⟩
def h_.ins(h:h_ C H a g i d p st):fL C H a "insertions" (.ref i):=let⟨dx,e⟩:=h;⟨dx,_,e,dz ‹_› fS⟩
def h_.del(h:h_ C H a g i d p st):fL C H a "deletions" (.ref d):=let⟨dx,e⟩:=h;⟨dx,_,e,dz ‹_› (dz ‹_› fS)⟩
def h_.pend(h:h_ C H a g i d p st):fL C H a "pending" (.ref p):=let⟨dx,e⟩:=h;⟨dx,_,e,dz ‹_› (dz ‹_› (dz ‹_› fS))⟩
theorem h_.settled(h:h_ C H a g i d p st):fL C H a "settled" (.ref st):=let⟨dx,e⟩:=h;⟨dx,_,e,dz ‹_› (dz ‹_› (dz ‹_› (dz ‹_› fS)))⟩
def h_.same(h:h_ C H a g i d p st)(s:aF H H'):h_ C H' a g i d p st:=let⟨dx,e⟩:=h;⟨dx,s _ _ e⟩
def OV{b:Bool}:dJ "gone" (.bl b) (fK g i d p st)=fK b i d p st:=by unfold fK;rw[jD]
def ab_{j:ae}:dJ "insertions" (.ref j) (fK g i d p st)=fK g j d p st:=by unfold fK;rw[dQ ‹_›,jD]
def ab9{j:ae}:dJ "deletions" (.ref j) (fK g i d p st)=fK g i j p st:=by unfold fK;rw[dQ ‹_›,dQ ‹_›,jD]
def OW{j:ae}:dJ "pending" (.ref j) (fK g i d p st)=fK g i d j st:=by unfold fK;rw[dQ ‹_›,dQ ‹_›,dQ ‹_›,jD]
end
structure gx (K:aw) (C:ae) (H:Hp) (a st:ae) (o:ab.fT):Prop where
 ex:∃i d p ps,h_ C H a o.di i d p st/\dF K H i o.aT.ins/\dF K H d o.aT.del/\rR K H p o.aT.pend/\H st=aa (.dK (dv NI ps))/\o.settled=ab.bU ps/\(ps.map (·.1)).Nodup/\∀x∈ps,x.1<=3
theorem gx.same{K:aw}{C:ae}{H Z:Hp}{a st:ae}{o:ab.fT}(h:gx K C H a st o)(s:aF H Z):gx K C Z a st o:=by obtain⟨i,d,p,ps,Q,R,S,T,V,X,Y,h8⟩:=h.ex;exact⟨i,d,p,ps,Q.same s,R.up (s.le 0),S.up (s.le 0),T.up (s.le 0),s _ _ V,X,Y,h8⟩
def ZR{ps:List (Nat×Nat)}(W:(ps.map (·.1)).Nodup)(X:∀x∈ps,x.1<=3):ps.length<=4:=by
 have:=j8 (n:=4) W λc Y=>by obtain⟨x,Z,rfl⟩:=bA.mp Y;have:=X x Z;lia
 rwa[aP]at this
def adP:kq ["self","marks"] ["self","marks"] (cF (n8 (bo 63) 0)):=by walk_at"s"
inductive afl(K:aw)(C:ae)(vs:List V)(H:Hp)(Q:VK)(_:XK):Prop|mk(a dx b:ae)(m:ab.b7)(_:vs=[.ref a,.ref b])(_:mr K H b m)(_:H a=aa (.ins C dx []))(_:∀st H',gx K C H' a st (ab.iL m)->H st=aj->(∀b o,H b=aa o->b≠a->H' b=aa o)->Q .bW H')
def Ow(Z:Zd P w K mg base A zc Pt):qa P w K mg base "Outcome" A.co ["self","marks"] 1 (afl K A.co):=by
 refine Z.Zn.ok adP λf G C outer s H F Q E D h=>?_;obtain⟨a,dx,b,m,rfl,⟨i,d,p,O,I,hd,J⟩,M,k⟩:=h;refine⟨_,(aH (cY Z.fb Z.vA (pv 0) oe) (aH (cY Z.fb Z.vB (pv 0) (qT K (pv 1) aU)) (aH (cY Z.fb Z.vz (pv 0) (qT K (pv 1) aU)) (aH (cY Z.fb Z.pM (pv 0) (qT K (pv 1) aU)) (aO (cY Z.fb Z.He (pv 0) (tL))))))),?_⟩;have up:∀fs,Le A.cr H (aM H a (.ins A.co dx fs)):=λfs b o e f=>by
  have:b≠a:=λq=>by rw[q,M]at e;cases e;have:=Z.apart;simp[i6]at this;exact this.1.2.2.1 f.symm
  rw[a_ this];exact e
 refine⟨a,dx,[],U,M,by decide,?_⟩;refine⟨b,_,0,_,U,U,dS (up _) O,bt (j:=0) U,a,dx,_,U,aJ,by show 1<1000;decide,?_⟩;rw[fO];refine⟨b,_,1,_,U,U,dS (up _) O,bt (j:=1) U,a,dx,_,U,aJ,by show 2<1000;decide,?_⟩;rw[fO];refine⟨b,_,2,_,U,U,dS (up _) O,bt (j:=2) U,a,dx,_,U,aJ,by show 3<1000;decide,?_⟩;rw[fO];refineλst Y=>?_;have W:a≠st:=λq=>by rw[<-q,aJ]at Y;cases Y
 refine⟨a,dx,_,U,by rw[a_ W,aJ],by show 4<1000;decide,?_⟩;show Q .bW _
 repeat(first|rw[tM]|rw[dQ ‹_›])
 have X:H st=aj:=by rw[a_ (cU W)]at Y;exact Y
 generalize V:aM (aM (aM H a _) st _) a _=S;have N:S a=aa (.ins A.co dx (fK aB i d p st)):=by rw[<-V,aJ];rfl
 have R:S st=aa (.dK []):=by rw[<-V,a_ (cU W),aJ]
 have T:∀b o,H b=aa o->b≠a->S b=aa o:=λb o e L=>by
  have:b≠st:=λq=>by rw[q,X]at e;cases e
  rw[<-V,a_ L,a_ this,a_ L];exact e
 have le:Le A.cr H S:=λb o e f=>T b o e λq=>by rw[q,M]at e;cases e;have:=Z.apart;simp[i6]at this;exact this.1.2.2.1 f.symm
 exact k st S ⟨i,d,p,[],⟨dx,N⟩,I.up le,hd.up le,J.up le,R,U,oK,by simp⟩ X T
def ad_:Sc ["v"] 1 64:=by walk_at"s"
inductive afU(vs:List V)(H:Hp)(Q:VK)(_:XK):Prop|mk(v:Int)(_:vs=[.int v])(_:Q (.bl (fH v)) H)
def vE:Cz Z "is_verdict" ["v"] 1 afU:=by
 refine Z.Ve.ok ad_ λf W S outer s H V Q E T h=>?_;obtain⟨v,rfl,k⟩:=h;refine⟨_,(aO (bc (Hx d3 d3 aU (pv 0) aU))),?_⟩;have e:fH v=(decide (0<=v)&&decide (v<=1)):=by
  unfold fH;by_cases h0:v=0
  .subst h0;rfl
  .by_cases X:v=1
   .subst X;rfl
   .rw [fX.mpr h0,fX.mpr X];symm;rw[Bool.or_self,Bool.and_eq_false_iff];by_cases q:0<=v
    .exact .inr (cE (by lia))
    .exact .inl (cE q)
 rw[e]at k;refine(aZ (λY=>?_) λY=>?_)
 .rw [show decide (0<=v)=_ from Y,gg]at k;exact k
 .rw [show decide (0<=v)=_ from Y,dj]at k;exact k
def Im:Sc ["changes","c"] 1 65:=by walk_at"s"
def sI(ks:List Nat)(l:List Nat):List Nat:=l.foldl mM ks
theorem GN:∀(l ks:List Nat) (c:Nat),c∈sI ks l↔c∈ks\/c∈l
 |[],ks,c=>by simp[sI]
 |a::l,ks,c=>by
  show c∈sI (mM ks a) l↔_;rw[GN l,GO,bJ];constructor
  .rintro ((h|h)|h)
   .exact .inl h
   .exact .inr (.inl h)
   .exact .inr (.inr h)
  .rintro (h|h|h)
   .exact .inl (.inl h)
   .exact .inl (.inr h)
   .exact .inr h
theorem G8:∀(l:List Nat) {ks:List Nat},ks.Nodup->(sI ks l).Nodup
 |[],_,h=>h
 |a::l,_,h=>G8 l (G9 h)
theorem GR:∀(l ks:List Nat),jB (dZ ks) (l.map λc:Nat=>((.inl (c:Int):bE),V.bl ah))=dZ (sI ks l)
 |[],ks=>rfl
 |a::l,ks=>by show jB (eY (dZ ks) (.inl (a:Int)) (.bl ah)) (l.map _)=_;rw[Gm,GR l];rfl
inductive afc(K:aw)(vs:List V)(H:Hp)(Q:VK)(_:XK):Prop|mk(l:_)(ns:List Nat)(_:vs=[.ref l])(_:H l=aa (.aC (ns.map NI)))(_:ns.length<aS)(_:∀d ks H',H' d=aa (.dK (dZ ks))->ks.Nodup->(∀c,c∈ks↔c∈ns)->H d=aj->aF H H'->Q (.ref d) H')
def yH:Cz Z "keyed" ["changes"] 1 (afc K):=by
 refine Z.Vm.ok Im λf w Ar outer s H r Q E m h=>?_;obtain⟨l,ns,rfl,M,hz,k⟩:=h;refine⟨_,(aO (bc (kZ (Ua U) U Z.aaI PyProof.Rows.boot_dict (ai (hU U Im.nd (qI K (pv 0)) (fw (N:=["changes","c"]) (sc:=cF (bo 65)) (own:=[("c",1)]) ‹_›) (λ_ _ _ _ _=>(qG 1 Im.nd)) (λ_ _ _ _ _=>jE) (λ_ _ _ _ _=>(fB (ai (pv 1) (ai oe aq))))) aq)))),?_⟩;refine⟨l,U,⟨_,aL.of M⟩,λD F=>Gp ns (λ_=>ah) (λc y H=>∃t,y=.ref t/\aY K H t [NI c,.bl ah]) (ff (v:=NI)) (λW Y=>aL.of (Y _ _ M)) F (by lia) (λz y b g ⟨t,A,B⟩ o ⟨_,R⟩ kp=>⟨t,A,dS (jz (C:=0) R kp) B⟩) ?_ λW ys Y X pr=>?_⟩
 .rintro n z x W j i hz Y ⟨u,S,rfl⟩ _ J _
  cases hz.symm.trans S;exact⟨U,by show 2<=aS;decide,λt L=>J U _ _ (bg L) ⟨t,U,aY.of aJ⟩⟩
 .rw [lK]at pr;have key:∀(l:List Nat) (ys:List V),Paired (λc y=>∃t,y=V.ref t/\aY K W t [NI c,.bl ah]) l ys->∃ps:List ae,ys=ps.map V.ref/\Paired (λ(p:ae) (O:bE×V)=>aY K W p [kV O.1,O.2]) ps (l.map λc:Nat=>((.inl (c:Int):bE),V.bl ah)):=by
   intro l
   induction l with
   |nil=>intro ys p;cases p;exact⟨[],U,.nil⟩
   |cons c l I=>
    intro ys p;cases p with
    |cons h t=>
     obtain⟨a,rfl,G⟩:=h;obtain⟨ps,e,q⟩:=I _ t;exact⟨a::ps,by rw[e];rfl,.cons G q⟩
  obtain⟨ps,P,T⟩:=key ns ys pr;rw[P]at X;refine⟨D,ps,_,U,aL.of X,T,λd nd=>?_⟩;refine k d (sI [] ns) _ ?_ (G8 ns oK) (λc=>by rw[GN];simp) (Y.free nd) (Y.trans (bg nd));rw[aJ,show([]:List (bE×V))=dZ []from U,GR]
def Iz:Sc ["changes","c","d"] 2 66:=by walk_at"s"
inductive afY(K:aw)(vs:List V)(H:Hp)(Q:VK)(_:XK):Prop|mk(a ns:_)(c:Nat)(_:vs=[.ref a,.int c])(_:dF K H a ns)(_:ns.length<aS)(_:∀t H',dF K H' t (fu c ns)->aF H H'->Q (.ref t) H')
def OI:Cz Z "without" ["changes","c"] 1 (afY K):=by
 refine Z.V3.ok Iz λf I y outer s H F Q E C h=>?_;obtain⟨l,ns,c,rfl,S,hz,k⟩:=h;refine⟨_,(aO (bc (kZ (r:=pP K) qv U Z.qR rT (ai (hU U Iz.nd (qJ K (pv 0)) (fw (N:=["changes","c","d"]) (sc:=cF (bo 66)) (own:=[("d",2)]) ‹_›) (λ_ _ _ _ _=>(qG 2 Iz.nd)) (λ_ _ _ _ _=>(k0 (cK qZ (pv 2) (pv 1) (cB _)))) (λ_ _ _ _ _=>(pv 2))) aq)))),?_⟩;refine⟨l,U,⟨_,S⟩,λD L=>fJ ns (λd=>!(d==c)) NI (ki (v:=NI)) (λR X=>S.up (X.le 0)) L (by omega) ?_ λR X T=>?_⟩
 .rintro n z x R B A hz X M O J ⟨G,W,rfl⟩
  cases hz.symm.trans W;refine J ?_;refine⟨U,U,aZ (λY=>?_) λY=>?_⟩
  .rw [show(!decide (NI z=V.int (c:Nat)))=_ from b_ not (eR z c)]at Y;exact(M Y _ (aF.refl _))
  .rw [show(!decide (NI z=V.int (c:Nat)))=_ from b_ not (eR z c)]at Y;exact O Y _ (aF.refl _)
 .exact ⟨D,_,U,.inl ⟨aL.of T,λt P=>k t _ (aY.of aJ) (X.trans (bg P))⟩⟩
def vq{fs:List (Str×V)}{o:HO}(h:H a=aa (.ins D dx fs))(Z:D≠C):Le C H (aM H a o):=λb u e f=>by
 have:b≠a:=λq=>by rw[q,h]at e;cases e;exact Z f
 rw[a_ this];exact e
def gB.vx{K:aw}{mg:Str->Option af}{A:br}(T:gB K mg A):A.co≠A.cr:=λe=>by have:=T.apart;simp[i6]at this;exact this.1.2.2.1 e.symm
def gB.aaS{K:aw}{mg:Str->Option af}{A:br}(T:gB K mg A):A.co≠A.cc:=λe=>by have:=T.apart;simp[i6]at this;exact this.2.1.2.1 e.symm
def sT(l:List Nat)(c:Nat):mC l c=l.contains c:=by
 unfold mC
 induction l with
 |nil=>rfl
 |cons a l Z=>
  rw[mj,JO,Z];congr 1;by_cases e:a=c
  .rw [e]
  .rw [fX.mpr e,fX.mpr (λz=>e z.symm)]
def adZ:Sc ["outcome"] 1 70:=by walk_at"s"
inductive afd(K:aw)(C:ae)(vs:List V)(H:Hp)(Q:VK)(_:XK):Prop|mk(a st o:_)(_:vs=[.ref a])(_:gx K C H a st o)(_:o.aT.aI.length<aS)(_:∀l H',H' l=aa (.aC ((ab.left o).map NI))->H l=aj->aF H H'->Q (.ref l) H')
def Hg:Cz Z "changes_left" ["outcome"] 3 (afd K A.co):=by
 refine Z.UO.ok adZ λf L C outer s H I Q E S h=>?_;obtain⟨a,st,o,rfl,R,hz,k⟩:=h;obtain⟨i,d,p,ps,X,M,N,O,D,F,G,h8⟩:=R.ex;refine⟨_,(aH (bO (d_ (aX Z.fb Z.vA (pv 0))) (aO (bc (b9 aq))) bX) (aO (bc (qF (yD Z:) S (ai (fB (ai (aX Z.fb Z.vB (pv 0)) (ai (aX Z.fb Z.vz (pv 0)) (ai (aX Z.fb Z.pM (pv 0)) aq)))) aq))))),?_⟩;unfold ab.left at k;refine⟨a,_,U,X.di,aZ (λW=>?_) λW=>?_⟩
 .rw [aA W]at k;exact⟨cN _,λl nl=>k l _ aJ nl (bg nl)⟩
 .rw [ay (by rw[W];exact cg)]at k;refine⟨a,_,U,X.ins,a,_,U,X.del,a,_,U,X.pend,by show 3<=aS;decide,λt T=>?_⟩;have Y:=bg (o:=.bh [.ref i,.ref d,.ref p]) T;exact⟨t,o.aT,U,⟨i,d,p,aY.of aJ,M.up (Y.le 0),N.up (Y.le 0),O.up (Y.le 0)⟩,hz,λl J P nl V=>k l J P (Y.free nl) (Y.trans V)⟩
def Iq:Sc ["outcome","c","entry"] 2 68:=by walk_at"s"
inductive afx(K:aw)(C:ae)(vs:List V)(H:Hp)(Q:VK)(_:XK):Prop|mk(a st o:_)(c:Nat)(_:vs=[.ref a,.int c])(_:gx K C H a st o)(_:o.aT.aI.length<aS)(_:∀H',gx K C H' a st (ab.yw c o)->bZ [a,st] H H'->Q .bW H')
def OS{st i d:ae}{g:Bool}{kvs:List (bE×V)}(h:h_ C H a g i d p st)(hs:H st=aa (.dK kvs)):st≠a:=λe=>by obtain⟨dx,q⟩:=h;rw[<-e,hs]at q;cases q
def abJ:Cz Z "reject" ["outcome","c"] 2 (afx K A.co):=by
 refine Z.VE.ok Iq λf eA Ar outer s H vs Q E hr h=>?_;obtain⟨a,st,o,c,rfl,ho,hz,k⟩:=h;obtain⟨i,d,p,ps,O,e,h3,h4,g,h6,h7,h8⟩:=ho.ex;have T:=OS O g;have Zb:o.aT.ins.length+(o.aT.del.length+o.aT.pend.length)<aS:=by unfold ab.b7.aI at hz;rw[bb,bb,aP]at hz;exact hz
 have sub:∀b∈[a],b∈[a,st]:=λb Y=>by rw[bx]at Y;subst Y;simp
 refine⟨_,(aH (bO (cK (r:=rh K aB) tK (pv 1) (aX Z.fb Z.vB (pv 0)) U) (aH (cY Z.fb Z.vA (pv 0) oe) (aO Pq)) bX) (aH (cY Z.fb Z.pM (pv 0) (kZ (r:=pP K) qv U Z.qR rT (ai (hU U Iq.nd (qJ K (aX Z.fb Z.pM (pv 0))) (fw (N:=["outcome","c","entry"]) (sc:=cF (bo 68)) (own:=[("entry",2)]) ‹_›) (λ_ _ _ _ _=>(qG 2 Iq.nd)) (λ_ _ _ _ _=>(k0 (cK qZ (qT K (pv 2) aU) (pv 1) (cB _)))) (λ_ _ _ _ _=>(pv 2))) aq))) (aO (cY Z.fb Z.vz (pv 0) (qF (OI Z:) hr (ai (aX Z.fb Z.vz (pv 0)) (ai (pv 1) aq))))))),?_⟩;unfold ab.yw at k;rw[sT,<-vm]at k;refine⟨a,_,U,O.ins,i,_,U,.inr e,U,qz _,aZ (λY=>?_) λY=>?_⟩
 .have S:iW (.int (c:Nat)) (o.aT.ins.map NI)=ah:=Y;rw[aA S]at k;obtain⟨dx,I⟩:=id O;refine⟨a,dx,_,U,I,by show 5<1000;decide,?_⟩;rw[OV];have le:=vq (C:=A.cr) (o:=.ins A.co dx (fK ah i d p st)) I Z.vx;exact k _ ⟨i,d,p,ps,⟨dx,aJ⟩,e.up le,h3.up le,h4.up le,by rw[a_ T];exact g,h6,h7,h8⟩ (ir.mono sub)
 .have S:¬iW (.int (c:Nat)) (o.aT.ins.map NI)=ah:=by
   have:iW (.int (c:Nat)) (o.aT.ins.map NI)=aB:=Y;rw[this];exact cg
  rw[ay S]at k;obtain⟨zs,e0,q1,q2⟩:=id h4;have el:zs.length=o.aT.pend.length:=by have:=b_ fo e0;simpa using this
  refine⟨a,_,U,O.pend,p,U,⟨_,q1⟩,λD hD=>fJ zs (λz=>!(z.2.getD 0 0==c)) rf ki (λH' F=>dS (F.le 0) q1) hD (by omega) ?_ λH3 L hl=>?_⟩
  .rintro n z x H' Qx Qn hz F k1 k2 gz ⟨z',v,rfl⟩
   cases hz.symm.trans v;obtain⟨y,_,hy⟩:∃y,o.aT.pend[n]?=aa y/\eX y=z.2:=iJ (by rw[<-e0,cf,hz];rfl);refine gz ?_;have ht:=(q2 z (ck hz)).up (F.le 0);rw[<-hy]at ht k1 k2;refine⟨U,z.1,_,0,_,U,U,ht,bt (j:=0) U,U,aZ (λY=>?_) λY=>?_⟩
   .rw [show(!decide (NI y.change=V.int (c:Nat)))=_ from b_ not (eR y.change c)]at Y;exact(k1 Y _ (aF.refl _))
   .rw [show(!decide (NI y.change=V.int (c:Nat)))=_ from b_ not (eR y.change c)]at Y;exact k2 Y _ (aF.refl _)
  .refine ⟨D,_,U,.inl ⟨aL.of hl,λt B=>?_⟩⟩;have s4:=bg (o:=.bh ((zs.filter λz=>!(z.2.getD 0 0==c)).map rf)) B;have G:=L.trans s4;obtain⟨dx,I⟩:=O.same G;refine⟨a,dx,_,U,I,by show 5<1000;decide,?_⟩;rw[OW];generalize X:aM (aM H3 t _) a _=M;have R:M a=aa (.ins A.co dx (fK o.di i d t st)):=by rw[<-X,aJ]
   have W:Le A.cr H M:=by have l1:=vq (C:=A.cr) (o:=.ins A.co dx (fK o.di i d t st)) I Z.vx;rw[X]at l1;exact(G.le _).trans l1
   have x5:bZ [a] H M:=by rw[<-X];exact G.wj ir
   have J:M st=aa (.dK (dv NI ps)):=x5 _ _ g (by simpa using T);have m:rR K M t (o.aT.pend.filter λy=>!(y.change==c)):=by
    refine⟨_,Jx e0 (λx=>!(x.getD 0 0==c)),aY.of ?_,λz hz=>(q2 z (d4.mp hz).1).up W⟩;have u:t≠a:=λq=>by obtain⟨Wc,e3⟩:=O;rw[q,L _ _ e3]at B;cases B
    rw[<-X,a_ u,aJ]
   refine⟨a,_,U,(show h_ A.co M a o.di i d t st from⟨dx,R⟩).del,d,_,c,U,h3.up W,by omega,λd2 H6 l P=>?_⟩;refine⟨a,dx,_,U,P _ _ R,by show 5<1000;decide,?_⟩;rw[ab9];have w:=vq (C:=A.cr) (o:=.ins A.co dx (fK o.di i d2 t st)) (P _ _ R) Z.vx;refine k _ ⟨i,d2,t,ps,⟨dx,aJ⟩,((e.up W).up (P.le A.cr)).up w,l.up w,(m.up (P.le A.cr)).up w,by rw[a_ T];exact P _ _ J,h6,h7,h8⟩ (((x5.to P).trans ir).mono sub)
def ab5{c:Nat}{pend:List cW}(T:(pend.map (·.change)).Pairwise (·<·)):∃j,j<=pend.length/\∀(i:Nat) e,pend[i]?=aa e->(e.change=c↔i=j):=by
 by_cases h:∃(i:Nat) (e:cW),pend[i]?=aa e/\e.change=c
 .obtain ⟨j,e,he,W⟩:=h;refine⟨j,jO (gE he),λi S X=>⟨λV=>?_,λq=>by subst q;cases he.symm.trans X;exact W⟩⟩;have Y:(pend.map (·.change))[i]?=aa c:=by rw[cf,X];exact b_ aa V
  have Z:(pend.map (·.change))[j]?=aa c:=by rw[cf,he];exact b_ aa W
  rcases Nat.lt_trichotomy i j with q|q|q
  .have:=(zI.mp T) i j (gE Y) (gE Z) q;rw[dC (gE Y)]at Y;rw[dC (gE Z)]at Z;injection Y with Y;injection Z with Z;lia
  .exact q
  .have:=(zI.mp T) j i (gE Z) (gE Y) q;rw[dC (gE Y)]at Y;rw[dC (gE Z)]at Z;injection Y with Y;injection Z with Z;lia
 .refine ⟨pend.length,bp _,λi e he=>⟨λW=>bq ⟨i,e,he,W⟩ h,λq=>?_⟩⟩;have:=gE he;lia
def jI(k:Option Nat)(j:Nat):Nat×(ae×List Nat)->Bool:=λq=>match k with
 |none=>ah
 |some k=>if q.2.2.getD 1 0=k then decide (j<q.1)else ah
def Tq{c:Nat}{pend:List cW}(h:∀(i:Nat) e,pend[i]?=aa e->(e.change=c↔i=j))(X:pend.length<=j):ab.mL c pend=aj:=
 ab.Aq λy Y q=>by obtain⟨i,Z⟩:=DD Y;have:=(h i y Z).mp q;have:=gE Z;lia
theorem K_{c:Nat}:∀{pend:List cW} {j:Nat} {y:cW},(∀(i:Nat) e,pend[i]?=aa e->(e.change=c↔i=j))->pend[j]?=aa y->ab.mL c pend=aa (y.prop,y.value,(pend.take j).filter (λe=>!(e.prop==y.prop))++pend.drop (j+1))
 |[],j,y,_,h=>by simp at h
 |e::r,0,y,Z,h=>by cases h;unfold ab.mL;rw[aA ((Z 0 e U).mpr U)];rfl
 |e::r,j+1,y,Z,h=>by
  have Y:¬e.change=c:=λq=>by have:=(Z 0 e U).mp q;lia
  have W:=K_ (pend:=r) (j:=j) (y:=y) (λi V X=>by have:=Z (i+1) V X;rw[this];lia) h
  unfold ab.mL;rw[ay Y,W]
  try dsimp only
  rw[List.take_succ_cons,gv,List.drop_succ_cons];by_cases q:e.prop=y.prop
  .rw [aA q,ay (by simp[q])]
  .rw [ay q,aA ‹q›];rfl
def fy(zs:List (ae×List Nat)):List (Nat×(ae×List Nat)):=zs.mapIdx λi z=>(i,z)
def tw(zs:List (ae×List Nat))(i:Nat):(fy zs)[i]?=(zs[i]?).map λz=>(i,z):=by unfold fy;rw[RW]
def vk(zs:List (ae×List Nat)):(fy zs).length=zs.length:=by unfold fy;simp
def Bx(zs:List (ae×List Nat)):(fy zs).map (·.2)=zs:=by apply rG;intro i;rw[cf,tw];cases zs[i]?<;>rfl
def Nr(a b:List (ae×List Nat)):fy (a++b)=fy a++(fy b).map λq=>(q.1+a.length,q.2):=by
 apply rG;intro i;rcases qb i a.length with h|h
 .rw [tw,wU h,wU (by rw[vk];exact h),tw]
 .rw [tw,p_ h,p_ (by rw[vk];exact h),cf,vk,tw];cases b[i-a.length]? with
  |none=>rfl
  |some z=>
   show aa (i,z)=aa (i-a.length+a.length,z);rw[J6 h]
def af8{pend:List cW}(Z:zs.map (·.2)=pend.map eX){y:cW}(T:pend[j]?=aa y):(((fy zs).filter (jI (aa y.prop) j)).map (·.2)).map (·.2)=((pend.take j).filter (λe=>!(e.prop==y.prop))++pend.drop (j+1)).map eX:=by
 have K:zs.length=pend.length:=by have:=b_ fo Z;simpa using this
 have J:=gE T;have M:zs=zs.take j++(zs.drop j):=(rL j zs).symm;have L:zs.drop j=zs[j]::zs.drop (j+1):=JP (by lia);have Y:(zs[j]'(by lia)).2=eX y:=by
  have:(zs.map (·.2))[j]?=aa (eX y):=by rw[Z,cf,T];rfl
  rw[cf,dC (by lia)]at this;exact dX this
 have lt:(zs.take j).length=j:=by rw[iz];lia
 have N:(fy (zs.take j)).filter (jI (aa y.prop) j)=(fy (zs.take j)).filter λq=>!(q.2.2.getD 1 0==y.prop):=by
  apply RR;intro q X;obtain⟨i,V⟩:=DD X;have W:=gE V;rw[vk,lt]at W;rw[tw]at V;obtain⟨z,_,rfl⟩:=rQ.mp V;show(if z.2.getD 1 0=y.prop then decide (j<i)else ah)=!(z.2.getD 1 0==y.prop);by_cases e:z.2.getD 1 0=y.prop
  .rw [aA e,e,cE (by lia)];simp
  .rw [ay e,fX.mpr e];rfl
 have O:((fy (zs.drop j)).map λq=>(q.1+(zs.take j).length,q.2)).filter (jI (aa y.prop) j)=(fy (zs.drop (j+1))).map λq=>(q.1+1+j,q.2):=by
  rw[lt,L,show zs[j]::zs.drop (j+1)=[zs[j]]++zs.drop (j+1)from U,Nr,cG,ku];have P:((fy [zs[j]]).map λq=>(q.1+j,q.2)).filter (jI (aa y.prop) j)=[]:=by
   show[(0+j,zs[j])].filter (jI (aa y.prop) j)=[];rw[gv,ay]
   .rfl
   .show¬(if(zs[j]).2.getD 1 0=y.prop then decide (j<0+j)else ah)=ah;rw[Y,aA (show(eX y).getD 1 0=y.prop from U),cE (by lia)];exact cg
  rw[P,DH,bR];have Q:∀q∈(fy (zs.drop (j+1))).map ((λq:Nat×(ae×List Nat)=>(q.1+j,q.2))∘λq=>(q.1+[zs[j]].length,q.2)),jI (aa y.prop) j q=ah:=λq X=>by
   obtain⟨u,_,rfl⟩:=bA.mp X;show(if _=y.prop then decide (j<u.1+1+j)else ah)=ah;split
   .exact dg (by lia)
   .rfl
  rw[t9.mpr Q];rfl
 rw[M,Nr,ku,N,O,cG,cG,cG];congr 1
 .have R:((fy (zs.take j)).filter λq=>!(q.2.2.getD 1 0==y.prop)).map (·.2)=(zs.take j).filter λz=>!(z.2.getD 1 0==y.prop):=by
   conv=>rhs;rw[<-Bx (zs.take j),nk]
   rfl
  rw[R];exact Jx (by rw[ly,Z,ly]) (λx=>!(x.getD 1 0==y.prop))
 .rw [bR,bR];have S:(fy (zs.drop (j+1))).map (((λx:ae×List Nat=>x.2)∘(λx:Nat×(ae×List Nat)=>x.2))∘λq=>(q.1+1+j,q.2))=((fy (zs.drop (j+1))).map (·.2)).map (·.2):=by
   rw[bR];rfl
  rw[S,Bx,lx,Z,lx]
def NU(Z:Option Nat)(j q:Nat):Int:=match Z with|some k=>if q=k then(j:Int)else-1|none=>-1
def ri:Sc ["outcome","c","last","index","entry","k","pending"] 2 67:=by walk_at"s"
inductive aeN(K:aw)(C:ae)(vs:List V)(H:Hp)(Q:VK)(_:XK):Prop|mk(a st o n:_)(c:Nat)(_:vs=[.ref a,.int c])(_:gx K C H a st o)(_:o.aT.Ok n)(_:o.aT.aI.length<aS)(_:∀H',gx K C H' a st (ab.yt c o)->bZ [a,st] H H'->Q .bW H')
def abf:Cz Z "accept" ["outcome","c"] 2 (aeN K A.co):=by
 refine Z.UE.ok ri λf eA Ar outer s H vs Q E hr h=>?_;obtain⟨a,st,o,n,c,rfl,ho,aW,hz,k⟩:=h;obtain⟨i,d,p,ps,h1,h2,h3,h4,h5,h6,h7,h8⟩:=ho.ex;have F:=OS h1 h5;have Zb:o.aT.ins.length+(o.aT.del.length+o.aT.pend.length)<aS:=by unfold ab.b7.aI at hz;rw[bb,bb,aP]at hz;exact hz
 have sub:∀b∈[a],b∈[a,st]:=λb S=>by rw[bx]at S;subst S;simp
 refine⟨_,(aH (bO (cK (r:=rh K aB) tK (pv 1) (aX Z.fb Z.vz (pv 0)) U) (aH (cY Z.fb Z.vA (pv 0) oe) (aO Pq)) bX) (aH (qS 2 ri.nd (tL)) (aH (eU eK U (Pd U Z.BQ (ai (aX Z.fb Z.pM (pv 0)) aq)) (vN U (lX (qG 3 ri.nd) (lX (qG 4 ri.nd) vO))) (aO (bO (cK dI (qT K (pv 4) aU) (pv 1) (cB _)) (aO (yO (il hr) (pv 2) (qT K (pv 4) aU) (pv 3) U)) bX))) (aH (eU eK U (B_ (pv 2)) (qG 5 ri.nd) (aO (yO (il hr) (aX Z.fb Z.He (pv 0)) (pv 5) (qT K (qT K (aX Z.fb Z.pM (pv 0)) (yL (il hr) (pv 2) (pv 5) (λ_ _=>rfl))) aU) U))) (aH (rg U ri.nd (i:=6) U rfl (rm U rfl rfl rfl) (Pd U Z.BQ (ai (aX Z.fb Z.pM (pv 0)) aq)) (fw (N:=["outcome","c","last","index","entry","k","pending"]) (sc:=cF (bo 67)) (own:=[("index",3),("entry",4)]) ‹_›) (λ_ _ _ _ _=>(acK K (n:=2) U (lX (qG 3 ri.nd) (lX (qG 4 ri.nd) vO)))) (λ_ _ _ _ _=>(k0 (cK ON (pv 3) (Hy (il hr) (pv 2) (qT K (pv 4) aU) (q0 ro aU) ⟨U,U,U,U⟩) (cB _)))) (λ_ _ _ _ _=>(pv 4))) (aH (cY Z.fb Z.pM (pv 0) (kZ (r:=pP K) qv U Z.qR rT (ai (pv 6) aq))) (aO (cY Z.fb Z.vB (pv 0) (qF (OI Z:) hr (ai (aX Z.fb Z.vB (pv 0)) (ai (pv 1) aq))))))))))),?_⟩;unfold ab.yt at k;rw[sT,<-vm]at k;refine⟨a,_,U,h1.del,d,_,U,.inr h3,U,qz _,aZ (λS=>?_) λS=>?_⟩
 .have px:iW (.int (c:Nat)) (o.aT.del.map NI)=ah:=S;rw[aA px]at k;obtain⟨dx,e1⟩:=id h1;refine⟨a,dx,_,U,e1,by show 5<1000;decide,?_⟩;rw[OV];have le:=vq (C:=A.cr) (o:=.ins A.co dx (fK ah i d p st)) e1 Z.vx;exact k _ ⟨i,d,p,ps,⟨dx,aJ⟩,h2.up le,h3.up le,h4.up le,by rw[a_ F];exact h5,h6,h7,h8⟩ (ir.mono sub)
 have px:¬iW (.int (c:Nat)) (o.aT.del.map NI)=ah:=by have:iW (.int (c:Nat)) (o.aT.del.map NI)=aB:=S;rw[this];exact cg
 rw[ay px]at k;obtain⟨zs,e0,q1,q2⟩:=id h4;have el:zs.length=o.aT.pend.length:=by have:=b_ fo e0;simpa using this
 obtain⟨j,hjl,hj⟩:=ab5 (c:=c) aW.gq;obtain⟨aC,X⟩:∃aC:List (Nat×Nat),aC=match o.aT.pend[j]? with|some y=>[(y.prop,j)]|none=>[]:=⟨_,U⟩
 have Fv:∀(m:Nat) (z:ae×List Nat),zs[m]?=aa z->∃y,o.aT.pend[m]?=aa y/\eX y=z.2:=λm z hz=>iJ (by rw[<-e0,cf,hz];rfl);refineλld G=>?_;have s1:=bg (o:=.dK []) G;have W:=ahi (K:=K) (a:=p) (xs:=zs.map rf);rw[aP]at W;refine⟨a,_,U,(h1.same s1).pend,p,_,U,dS (s1.le 0) q1,?_⟩;refine eP W (λm σ H'=>(∃x3 x4,σ=[aa (.ref a),aa (.int c),aa (.ref ld),x3,x4,aj,aj])/\aF H H'/\H' ld=aa (.dK (dv NI (if j<m then aC else[])))) ⟨⟨aj,aj,U⟩,s1,by rw[ay (by lia),aJ];rfl⟩ (λm σ H' j0=>dS (j0.2.1.le 0) q1) ?_ ?_
 .rintro m x σ H2 H3 hm s3 N B kn kb gz ⟨⟨x3,x4,rfl⟩,sm,w⟩ ⟨T1,y0,rfl,F7,hT⟩
  obtain⟨z,R,rfl⟩:=iJ F7;obtain⟨y,hy,J⟩:=Fv m z R;refine gz ?_;have l_:=sm.trans s3;have ht:=(q2 z (ck R)).up (l_.le 0);rw[<-J]at ht;refine⟨T1,_,U,aY.of hT,U,_,_,U,_,_,U,U,?_⟩;refine⟨z.1,_,0,_,U,U,ht,bt (j:=0) U,U,aZ (λhe=>?_) λhe=>?_⟩
  .rw [show decide (NI y.change=V.int (c:Nat))=_ from eR y.change c]at he;have MV:m=j:=(hj m y hy).mp ‹he›;subst MV;rw[ay (jP _)]at w;refine⟨z.1,_,1,_,U,U,ht,bt (j:=1) U,ld,_,U,lp.k (k:=.inl (y.prop:Int)) (s3 _ _ w) (by show 0<aS;decide),kn _ _ ⟨⟨_,_,U⟩,tT l_ G,?_⟩⟩;rw[aJ,aA (qc _),X,hy];exact b_ (λz=>aa (HO.dK z)) (xT NI [] y.prop m)
  .rw [show decide (NI y.change=V.int (c:Nat))=_ from eR y.change c]at he;have MV:¬m=j:=λq=>by
    have:=(hj m y hy).mpr q;simp[this]at he
   refine kn _ _ ⟨⟨_,_,U⟩,l_,?_⟩;rw[s3 _ _ w];by_cases q:j<m
   .rw [aA q,aA (by lia)]
   .rw [ay q,ay (by lia)]
 .rintro σ H2 gz ⟨⟨x3,x4,rfl⟩,sm,w⟩
  refine gz ?_;have MQ:H2 ld=aa (.dK (dv NI aC)):=by
   rw[w];by_cases q:j<zs.length
   .rw [aA q]
   .rw [ay q,X,zE (by lia)]
  obtain⟨P,Y⟩:∃P:List (Nat×Nat),P=match o.aT.pend[j]? with|some y=>ab.f_ ps y.prop y.value|none=>ps:=⟨_,U⟩
  have Fy:H st≠aj:=by rw[h5];simp
  have Fz:ld≠st:=λq=>Fy (by rw[<-q];exact G);have hla:ld≠a:=λq=>by obtain⟨dx,e⟩:=h1;rw[<-q,G]at e;cases e
  refine⟨ld,_,U,.inl MQ,(λob e=>by rw[MQ]at e;cases e),λ_ ob=>?_⟩;refine eP (zt (g:=NI) (d:=ld) (o:=ob) (ps:=aC)) (λm σ H'=>(∃x5,σ=[aa (.ref a),aa (.int c),aa (.ref ld),x3,x4,x5,aj])/\bZ [st] H H'/\H' ld=aa (.cJ ob (.dK (dv NI aC)))/\H' st=aa (.dK (dv NI (if m=0 then ps else P)))) ⟨⟨aj,U⟩,?_,aJ,by rw[aA U,a_ (cU Fz)];exact sm _ _ h5⟩ (λm σ H' j0=>j0.2.2.1) ?_ ?_
  .intro b u e S;have:b≠ld:=λq=>by rw[q,G]at e;cases e
   rw[a_ this];exact sm _ _ e
  .rintro m x σ H3 H4 hm I N B kn kb gz ⟨⟨x5,rfl⟩,sX,O,iH⟩ ⟨q,hq,rfl⟩
   refine gz ?_;cases T:o.aT.pend[j]? with
   |none=>
    rw[T]at X;rw[X]at hm;exact bq hm (J5 _)
   |some y=>
    rw[T]at X Y;dsimp only at X Y;have Yi:m=0:=by rw[X]at hm;simpa using hm
    subst Yi;have YE:q=(y.prop,j):=by rw[X]at hq;cases hq;rfl
    subst YE;have vZ:bZ [st] H H4:=sX.to I;have BE:Le A.cr H H4:=vZ.le λb S u e f=>by rw[bx]at S;subst S;rw[h5]at e;cases e;exact f
    have Mp:h_ A.co H4 a o.di i d p st:=by obtain⟨dx,e⟩:=h1;exact⟨dx,vZ _ _ e ‹cU F›⟩
    obtain⟨z,R⟩:∃z,zs[j]?=aa z:=⟨_,dC (by rw[el];exact gE T)⟩;obtain⟨y',F6,J⟩:=Fv j z R;cases T.symm.trans F6;have ht:=(q2 z (ck R)).up BE;rw[<-J]at ht;have pA:jo H4 ld (.int (y.prop:Nat)) (aa (NI j)):=by
     have:=DN.get (g:=NI) (H:=H4) (a:=ld) (ps:=aC) (.inr ⟨ob,I _ _ O⟩) y.prop;rw[X]at this;have e:(ab.bU [(y.prop,j)] y.prop).map NI=aa (NI j):=by unfold ab.bU;simp
     rw[e]at this;exact this
    refine⟨a,_,U,Mp.pend,ld,_,U,pA,p,_,_,_,U,U,dS BE q1,bt (j:=j) (by rw[cf,R];rfl),z.1,_,2,_,U,U,ht,bt (j:=2) U,a,_,U,Mp.settled,st,_,U,lp.k (k:=.inl (y.prop:Int)) (I _ _ iH) (by rw[aA U,qw];have:=ZR h7 h8;exact mv this (by decide)),kn _ _ ⟨⟨_,U⟩,?_,?_,?_⟩⟩
    .intro b u e S;rw[a_ ‹S›];exact vZ _ _ e S
    .rw [a_ Fz];exact I _ _ O
    .rw [aJ,aA (show(0:Nat)=0 from U),ay (show¬(0+1=0) by lia),Y];exact b_ (λz=>aa (HO.dK z)) (xT NI ps y.prop y.value)
  .rintro σ H3 gz ⟨⟨x5,rfl⟩,sX,O,iH⟩
   refine gz ?_;have YS:H3 st=aa (.dK (dv NI P)):=by
    rw[iH];by_cases q:aC.length=0
    .rw [aA q];have:o.aT.pend[j]?=aj:=by
      cases e:o.aT.pend[j]? with
      |none=>rfl
      |some y=>rw[X,e]at q;simp at q
     rw[Y,this]
    .rw [ay q]
   have M:Le A.cr H H3:=sX.le λb S u e f=>by rw[bx]at S;subst S;rw[h5]at e;cases e;exact f
   have Fj:h_ A.co H3 a o.di i d p st:=by obtain⟨dx,e⟩:=h1;exact⟨dx,sX _ _ e ‹cU F›⟩
   have Px:=dS M q1;obtain⟨L,l⟩:∃L,L=(o.aT.pend[j]?).map (·.prop):=⟨_,U⟩;have tq:∀q:Nat,((ab.bU aC q).map NI).getD (.int (-1))=.int (NU L j q):=λq=>by
    rw[X,l];cases o.aT.pend[j]? with
    |none=>rfl
    |some y=>
     show((ab.bU [(y.prop,j)] q).map NI).getD (.int (-1))=.int (if q=y.prop then(j:Int)else-1);unfold ab.bU;rw[iO];by_cases e:q=y.prop
     .subst e;simp[NI]
     .rw [ay e,cE (λz=>e z.symm)];rfl
   have W2:Wk (zx K p) (λH=>aY K H p (zs.map rf)) (fy zs).length (λi v H=>∃T0 x,v=.ref T0/\(zs.map rf)[i]?=aa x/\H T0=aa (.bh [.int (i:Nat),x])):=by rw[vk];exact W
   refine⟨a,_,U,Fj.pend,p,_,U,Px,λD hD=>fJ (fy zs) (jI L j) (λq=>rf q.2) W2 (λH' I=>dS (I.le 0) Px) hD (by rw[vk];lia) ?_ λH4 I hl=>?_⟩
   .rintro m q x H' Qx Qn hq I k1 k2 gz ⟨T1,y0,rfl,F7,hT⟩
    refine gz ?_;rw[tw]at hq;obtain⟨z,R,rfl⟩:=rQ.mp hq;obtain⟨z2,Zc,rfl⟩:=iJ F7;cases R.symm.trans Zc;obtain⟨y,hy,J⟩:=Fv m z R;have ht:=((q2 z (ck R)).up M).up (I.le A.cr);rw[<-J]at ht;have Mx:DN NI H' ld aC:=.inr ⟨ob,I _ _ O⟩;have j2:jI L j (m,z)=decide (NU L j y.prop<(m:Int)):=by
     unfold jI;have ep:z.2.getD 1 0=y.prop:=by rw[<-J];rfl
     cases L with
     |none=>exact(dg (show(-1:Int)<(m:Int) by lia)).symm
     |some k=>
      show(if z.2.getD 1 0=k then decide (j<m)else ah)=decide ((if y.prop=k then(j:Int)else-1)<(m:Int));rw[ep];by_cases e:y.prop=k
      .rw [aA e,aA e];by_cases u:j<m
       .rw [dg u,dg (by lia)]
       .rw [cE u,cE (by lia)]
      .rw [ay e,ay e];exact(dg (by lia)).symm
    refine⟨T1,_,U,aY.of hT,U,_,_,U,_,_,U,U,U,?_⟩;refine⟨ld,U,Mx.Gd,z.1,_,1,_,U,U,ht,bt (j:=1) U,_,Mx.get y.prop,HN U (tq y.prop) (aZ (λS=>?_) λS=>?_)⟩
    .exact (k1 (by rw[j2];exact S) _ (aF.refl _))
    .exact k2 (by rw[j2];exact S) _ (aF.refl _)
   .refine ⟨D,_,U,.inl ⟨aL.of hl,λt nt=>?_⟩⟩;have s5:=bg (o:=.bh (((fy zs).filter (jI L j)).map λq=>rf q.2)) nt;have HZ:=I.trans s5;obtain⟨dx,e1⟩:=Fj.same HZ;refine⟨a,dx,_,U,e1,by show 5<1000;decide,?_⟩;rw[OW];generalize A7:aM (aM H4 t _) a _=H6;have Fm:H6 a=aa (.ins A.co dx (fK o.di i d t st)):=by rw[<-A7,aJ]
    have NJ:Le A.cr H3 H6:=by have l1:=vq (C:=A.cr) (o:=.ins A.co dx (fK o.di i d t st)) e1 Z.vx;rw[A7]at l1;exact(HZ.le _).trans l1
    have Rx:bZ [a] H3 H6:=by rw[<-A7];exact HZ.wj ir
    have Ng:t≠a:=λq=>by obtain⟨Wc,e3⟩:=Fj;rw[q,I _ _ e3]at nt;cases nt
    have YW:H6 t=aa (.bh (((fy zs).filter (jI L j)).map λq=>rf q.2)):=by rw[<-A7,a_ Ng,aJ]
    have YT:H6 st=aa (.dK (dv NI P)):=Rx _ _ YS (by simpa using F);have mY:=M.trans NJ;refine⟨a,_,U,(show h_ A.co H6 a o.di i d t st from⟨dx,Fm⟩).ins,i,_,c,U,h2.up mY,by lia,λi2 H7 MH s7=>?_⟩;refine⟨a,dx,_,U,s7 _ _ Fm,by show 5<1000;decide,?_⟩;rw[ab_];have l8:=vq (C:=A.cr) (o:=.ins A.co dx (fK o.di i2 d t st)) (s7 _ _ Fm) Z.vx;have fx:bZ [a,st] H (aM H7 a (.ins A.co dx (fK o.di i2 d t st))):=by
     have x1:bZ [a,st] H H3:=sX.mono λb S=>by rw[bx]at S;subst S;simp
     exact(x1.trans (Rx.mono sub)).trans ((s7.wj ir).mono sub)
    have Gq:Le A.cr H3 (aM H7 a (.ins A.co dx (fK o.di i2 d t st))):=(NJ.trans (s7.le _)).trans l8;have FO:∀z∈((fy zs).filter (jI L j)).map (·.2),dF K (aM H7 a (.ins A.co dx (fK o.di i2 d t st))) z.1 z.2:=λz hz=>by obtain⟨q,hq,rfl⟩:=bA.mp hz;have:q.2∈(fy zs).map (·.2):=bA.mpr ⟨q,(d4.mp hq).1,U⟩;rw[Bx]at this;exact((q2 _ this).up M).up Gq
    have vj:aY K (aM H7 a (.ins A.co dx (fK o.di i2 d t st))) t ((((fy zs).filter (jI L j)).map (·.2)).map rf):=by refine aY.of ?_;rw[a_ Ng,s7 _ _ YW,bR];rfl
    have Nf:(aM H7 a (.ins A.co dx (fK o.di i2 d t st))) st=aa (.dK (dv NI P)):=by rw[a_ F];exact s7 _ _ YT
    refine k _ ?_ fx;cases T:o.aT.pend[j]? with
    |none=>
     rw[T]at l Y;have X8:o.aT.pend.length<=j:=List.getElem?_eq_none_iff.mp T;rw[Tq hj X8]
     try dsimp only
     have jx:((fy zs).filter (jI L j)).map (·.2)=zs:=by rw[l];have:(fy zs).filter (jI (Option.map (·.prop) (aj:Option cW)) j)=fy zs:=t9.mpr λq _=>rfl;rw[this,Bx]
     rw[jx]at vj FO;exact⟨i2,d,t,ps,⟨dx,aJ⟩,MH.up l8,(h3.up M).up Gq,⟨zs,e0,vj,FO⟩,by rw[Nf,Y],h6,h7,h8⟩
    |some y=>
     rw[T]at l Y;rw[K_ hj T];dsimp only at Y⊢;have Yc:L=aa y.prop:=l;have Bq:y.prop<=3:=(aW.pend y (ck T)).2;refine⟨i2,d,t,P,⟨dx,aJ⟩,MH.up l8,(h3.up M).up Gq,⟨_,?_,vj,FO⟩,Nf,?_,?_,λx hx=>?_⟩
     .rw [Yc];exact af8 e0 T
     .rw [Y,h6];funext q;rw[ab.Rh];rfl
     .rw [Y];exact ab.Ol h7
     .rw [Y]at hx;have:x.1∈(ab.f_ ps y.prop y.value).map (·.1):=bA.mpr ⟨x,hx,U⟩;rcases ab.N1.mp this with u|u
      .obtain ⟨v,hv,e⟩:=bA.mp u;rw[<-e];exact h8 v hv
      .rw [u];exact Bq
def ad4:Sc ["outcome","v","c"] 3 69:=by walk_at"s"
inductive ae7(K:aw)(C:ae)(vs:List V)(H:Hp)(Q:VK)(_:XK):Prop|mk(a st o n:_)(v:Int)(c:Nat)(_:vs=[.ref a,.int v,.int c])(_:gx K C H a st o)(_:o.aT.Ok n)(_:o.aT.aI.length<aS)(_:∀H',gx K C H' a st (ab.jh (v==1) c o)->bZ [a,st] H H'->Q .bW H')
def Bz(v:Int):decide (V.int v=V.int 1)=(v==1):=by
 by_cases q:v=1
 .subst q;rfl
 .have Z:¬V.int v=V.int 1:=λz=>by injection z with z;exact q z
  rw[cE Z];exact(fX.mpr q).symm
def OB:Cz Z "give_verdict" ["outcome","v","c"] 3 (ae7 K A.co):=by
 refine Z.U7.ok ad4 λf V S outer s H T Q E X h=>?_;obtain⟨a,st,o,n,v,c,rfl,W,aW,hz,k⟩:=h;refine⟨_,(aO (bO (cK dI (pv 1) (cx U Z.Mb) (cB _)) (aO (eT (qF (abf Z:) X (ai (pv 0) (ai (pv 2) aq))))) (aO (eT (qF (abJ Z:) X (ai (pv 0) (ai (pv 2) aq))))))),?_⟩;refine⟨U,aZ (λY=>?_) λY=>?_⟩
 .rw [Bz]at Y;rw[Y]at k;exact⟨a,st,o,n,c,U,W,aW,hz,k⟩
 .rw [Bz]at Y;rw[Y]at k;exact⟨a,st,o,c,U,W,hz,k⟩
def ea.set{aI:List ab.cT}(h:ea C H cl ca aI){ch:ab.cT}(Y:ca[j]?=aa a)(V:aI[j]?=aa ch)(f:ab.cT->ab.cT):ea C (aM H a (.ins C dx (kM (f ch)))) cl ca (aI.modify j f):=by
 obtain⟨O,S⟩:=h.at_ j a ch Y V;refine⟨h.nd,?_,by rw[R4];exact h.bG,λi b c X Z=>?_⟩
 .rw [a_ (λq=>by rw[<-q,h.aC]at S;cases S)];exact h.aC
 .rw [RX]at Z;by_cases q:j=i
  .subst q;cases Y.symm.trans X;rw[V]at Z;simp at Z;subst Z;exact⟨dx,aJ⟩
  .have R:b≠a:=λz=>by
    subst z;exact q ((List.getElem?_inj (gE Y) h.nd).mp (Y.trans X.symm))
   have P:aI[i]?=aa c:=by
    cases e:aI[i]? with
    |none=>rw[e]at Z;cases Z
    |some u=>
     rw[e]at Z;have T:aa (if j=i then f u else u)=aa c:=Z;rw[ay q]at T;exact T
   obtain⟨W,Q⟩:=h.at_ i b c X P;exact⟨W,by rw[a_ R];exact Q⟩
def acg{c:ab.cT}{n:Int}:dJ "accepted" (.int (c.t.a+n)) (kM c)=kM (c.eS ⟨n,0,0⟩):=by
 unfold kM ab.cT.eS ab.T3.add
 try dsimp only
 rw[dQ ‹_›,dQ ‹_›,dQ ‹_›,jD,jL,jL]
def acm{c:ab.cT}{n:Int}:dJ "rejected" (.int (c.t.r+n)) (kM c)=kM (c.eS ⟨0,n,0⟩):=by
 unfold kM ab.cT.eS ab.T3.add
 try dsimp only
 rw[dQ ‹_›,dQ ‹_›,dQ ‹_›,dQ ‹_›,jD,jL,jL]
def aci{c:ab.cT}{n:Int}:dJ "fallen" (.int (c.t.f+n)) (kM c)=kM (c.eS ⟨0,0,n⟩):=by
 unfold kM ab.cT.eS ab.T3.add
 try dsimp only
 rw[dQ ‹_›,dQ ‹_›,dQ ‹_›,dQ ‹_›,dQ ‹_›,jD,jL,jL]
def Ir:Sc ["changes","v","c","lost","weight","d","change"] 5 71:=by walk_at"s"
inductive afJ(A:br)(vs:List V)(H:Hp)(Q:VK)(_:XK):Prop|mk(cl ca aI ll:_)(Gz:List Nat)(v wt:Int)(c:Nat)(_:vs=[.ref cl,.int v,.int c,.ref ll,.int wt])(_:ea A.cc H cl ca aI)(_:H ll=aa (.aC (Gz.map NI)))(_:(∀d∈Gz,1<=d/\d<=aI.length))(_:∀H',ea A.cc H' cl ca (ab.kh (v==1) c wt Gz aI)->bZ ca H H'->Q .bW H')
def OG:Cz Z "tally" ["changes","v","c","lost","weight"] 1 (afJ A):=by
 refine Z.VO.ok Ir λf eA Ar outer s H vs Q E hr h=>?_;obtain⟨cl,C,aI,p,Y,v,J,c,rfl,F,P,m,k⟩:=h;refine⟨_,(aO (eU eK U (qI K (pv 3)) (qG 5 Ir.nd) (aH (qS 6 Ir.nd (qL K (pv 0) (b6 iK (pv 5) aU))) (aO (bO (cK qZ (pv 5) (pv 2) (cB _)) (aO (cY Z.fI Z.AD (pv 6) (b6 f9 (aX Z.fI Z.AD (pv 6)) (pv 4)))) (aO (bO (cK dI (pv 1) (cx U Z.Mb) (cB _)) (aO (cY Z.fI Z.AB (pv 6) (b6 f9 (aX Z.fI Z.AB (pv 6)) (pv 4)))) (aO (cY Z.fI Z.AF (pv 6) (b6 f9 (aX Z.fI Z.AF (pv 6)) (pv 4))))))))))),?_⟩;have n:∀a∈C,a≠p:=λa ha e=>by obtain⟨x,dx,q⟩:=F.mem ha;rw[e,P]at q;cases q
 refine⟨p,U,⟨_,aL.of P⟩,eP (ff (zs:=Y) (v:=NI)) (λi y z=>(∃u w,y=[aa (.ref cl),aa (.int v),aa (.int c),aa (.ref p),aa (.int J),u,w])/\bZ C H z/\ea A.cc z cl C (ab.kh (v==1) c J (Y.take i) aI)) ⟨⟨aj,aj,U⟩,(aF.refl _).x _,F⟩ (λi y z j0=>aL.of (j0.2.1 _ _ P λq=>n _ q U)) ?_ ?_⟩
 .rintro i x y H1 H2 hi s2 N B kn kb g ⟨⟨u,w,rfl⟩,r,W⟩ ⟨d,hd,rfl⟩
  refine g ?_;have t:=r.to s2;have O:=W.same s2;obtain⟨d1,d2⟩:=m d (ck hd);have j3:(ab.kh (v==1) c J (Y.take i) aI).length=aI.length:=ab.I0 ..;obtain⟨ch,S⟩:∃ch,(ab.kh (v==1) c J (Y.take i) aI)[d-1]?=aa ch:=⟨_,dC (by omega)⟩;obtain⟨a,D,T,j⟩:=O.get S;obtain⟨dx,M⟩:=id T;have ed:(d:Int)-1=((d-1:Nat):Int):=by omega
  have l:=ck D;have L:∀I,ab.tl (v==1) c d J=I->bZ C H (aM H2 a (.ins A.cc dx (kM (ch.eS I))))/\ea A.cc (aM H2 a (.ins A.cc dx (kM (ch.eS I)))) cl C (ab.kh (v==1) c J (Y.take (i+1)) aI):=λI e3=>by
   refine⟨λb o e R=>?_,?_⟩
   .rw [a_ (λq=>R (by rw[q];exact l))];exact t _ _ e R
   .rw [dU hd,ab.agL,e3];exact O.set (dx:=dx) D S λch=>ch.eS I
  refine⟨cl,_,_,_,U,U,aL.of O.aC,by rw[ed];exact bt j,?_⟩;refine⟨U,aZ (λR=>?_) λR=>?_⟩
  .rw [show(!decide (NI d=V.int (c:Nat)))=_ from b_ not (eR d c)]at R;have X:¬d=c:=‹R›
   refine⟨a,_,U,T.L5,a,dx,_,U,M,by show 6<1000;decide,?_⟩;rw[aci];exact kn _ _ ⟨⟨_,_,U⟩,L _ (by unfold ab.tl;rw[ay X])⟩
  .rw [show(!decide (NI d=V.int (c:Nat)))=_ from b_ not (eR d c)]at R;have X:d=c:=‹R›
   refine⟨U,aZ (λG=>?_) λG=>?_⟩
   .rw [Bz]at G;refine⟨a,_,U,T.acc,a,dx,_,U,M,by show 6<1000;decide,?_⟩;rw[acg];exact kn _ _ ⟨⟨_,_,U⟩,L _ (by unfold ab.tl;rw[aA X,aA G])⟩
   .rw [Bz]at G;refine⟨a,_,U,T.PX,a,dx,_,U,M,by show 6<1000;decide,?_⟩;rw[acm];exact kn _ _ ⟨⟨_,_,U⟩,L _ (by unfold ab.tl;rw[aA X,ay (by rw[G];exact cg)])⟩
 .rintro y z g ⟨⟨u,w,rfl⟩,r,W⟩
  refine g ?_;rw[eJ]at W;exact k z W r
def Qb:Sc ["run","outcome","looks"] 2 73:=by walk_at"s"
inductive aeO(K:aw)(A:br)(vs:List V)(H:Hp)(Q:VK)(_:XK):Prop|mk(a r b st o:_)(_:vs=[.ref a,.ref b])(_:eD K A.cr H a r)(_:gx K A.co H b st o)(_:(∀c∈r.cells,c.2.length=4))(_:r.cells.length<aS)(_:∀a' H',eD K A.cr H' a' (ab.vW o r)->aF H H'->Q (.ref a') H')
def abL:Cz Z "run_after" ["run","outcome"] 3 (aeO K A):=by
 refine Z.VG.ok Qb λf y Ar outer s H t Q E T h=>?_;obtain⟨a,r,b,st,o,rfl,⟨q,l,i,d,p,S,V⟩,J,I,hz,k⟩:=h;obtain⟨m,e,n,ps,R,z,B,C,D,F,g,j⟩:=J.ex;refine⟨_,(aH (qS 2 Qb.nd (qF (Hk Z:) T (ai (aX Z.bS Z.m7 (pv 0)) (ai (aX Z.fb Z.He (pv 1)) aq)))) (aO (bc (m6 (qW Z:) (T.mono (by decide)) U (ai (aX Z.bS Z.gr (pv 0)) (ai (pv 2) (ai (aX Z.fb Z.vB (pv 1)) (ai (aX Z.fb Z.vz (pv 1)) (ai (aX Z.fb Z.pM (pv 1)) aq))))))))),?_⟩;refine⟨a,_,U,S.gF,b,_,U,R.settled,l,st,r.cells.map (·.2),ps,U,V.gF,λx M=>?_,by rw[aP];exact hz,D,λN u G Y=>?_⟩
 .obtain ⟨c,L,rfl⟩:=bA.mp M;exact I c L
 have W:=S.up (Y.le _);have X:=R.same Y;refine⟨a,_,U,W.signs,b,_,U,X.ins,b,_,U,X.del,b,_,U,X.pend,λx dx nx nd ne=>vv (r:=ab.vW o r) ⟨?_,?_,z.up (Y.le 0),B.up (Y.le 0),C.up (Y.le 0)⟩ nx nd ne λw v O P=>k w v O (Y.trans P)⟩
 .rw [Y _ _ V.signs];show _=aa (HO.bh (((r.cells.map λc=>(c.1,ab.d7 o.settled c.2)).map (·.1)).map NI));rw[show(r.cells.map λc=>(c.1,ab.d7 o.settled c.2)).map (·.1)=r.cells.map (·.1)from by rw[bR];rfl]
 .show kG K u N ((r.cells.map λc=>(c.1,ab.d7 o.settled c.2)).map (·.2));rw[show(r.cells.map λc=>(c.1,ab.d7 o.settled c.2)).map (·.2)=(r.cells.map (·.2)).map (ab.d7 (ab.bU ps))from by rw[bR,bR,F];rfl];exact G
def gx.x{K:aw}{N:ae}{st:ae}{o:ab.fT}(h:gx K C H a st o)(s:bZ S H H')(Z:a∉S)(hs:st∉S)(Y:∀b∈S,∀u,H b=aa u->¬ni N u):gx K C H' a st o:=by obtain⟨i,d,p,ps,⟨dx,O⟩,P,Q,R,T,V,X,h8⟩:=h.ex;have le:=s.le Y;exact⟨i,d,p,ps,⟨dx,s _ _ O Z⟩,P.up le,Q.up le,R.up le,s _ _ T hs,V,X,h8⟩
def gx.ne{K:aw}{mg:Str->Option af}{A:br}(T:gB K mg A){st:ae}{o:ab.fT}{aI:List ab.cT}(h:gx K A.co H a st o)(Y:ea A.cc H cl ca aI):(cl∉[a,st])/\(∀x∈ca,x∉[a,st])/\a∉ca/\st∉ca:=by
 obtain⟨i,d,p,ps,⟨dx,V⟩,J,L,M,X,N,O,h8⟩:=h.ex;have n1:cl≠a:=λe=>by rw[<-e,Y.aC]at V;cases V
 have P:cl≠st:=λe=>by rw[<-e,Y.aC]at X;cases X
 have Q:∀x∈ca,x≠a:=λx Z e=>by obtain⟨c,S,q⟩:=Y.mem Z;rw[e,V]at q;injection q with q;injection q with q;exact T.aaS q
 have R:∀x∈ca,x≠st:=λx Z e=>by obtain⟨c,S,q⟩:=Y.mem Z;rw[e,X]at q;cases q
 refine⟨by simp[n1,P],λx Z=>by simp[Q x Z,R x Z],λq=>Q a q U,λq=>R st q U⟩
def ea.kW{K:aw}{mg:Str->Option af}{A:br}(T:gB K mg A){aI:List ab.cT}(Z:ea A.cc H cl ca aI):∀b∈ca,∀u,H b=aa u->¬ni A.cr u:=λb Y u e f=>by obtain⟨c,dx,q⟩:=Z.mem Y;rw[e]at q;cases q;exact T.aaR f
def v7:Sc ["changes","marks","pieces","v","selected","outcome","judged","c","before"] 5 72:=by walk_at"s"
def gI(H:Hp)(d:ae)(ks:List Nat):Prop:=Rd H d (.dK (dZ ks))
def gI.dn{d:ae}(h:gI H d ks):DN (λ_:Unit=>V.bl ah) H d (ks.map λk=>(k,())):=h
def gI.same{d:ae}(h:gI H d ks)(s:aF H H'):gI H' d ks:=DN.up h.dn s
def lT(ks:List Nat)(c:Nat):((ab.bU (ks.map λk=>(k,())) c).map λ_:Unit=>V.bl ah).isSome=decide (c∈ks):=by
 rw[Rg];by_cases h:c∈ks
 .rw [aA h,dg h];rfl
 .rw [ay h,cE h];rfl
inductive afm(K:aw)(A:br)(vs:List V)(H:Hp)(Q:VK)(_:XK):Prop|mk(cl ca aI ma m sd ks cs:_)(w:Nat)(v:Int)(_:vs=[.ref cl,.ref ma,.int w,.int v,.ref sd])(_:ea A.cc H cl ca aI)(_:mr K H ma m)(_:m.Ok aI.length)(_:aI.length<=500)(_:gI H sd ks)(_:cs.Pairwise (·<·))(_:(∀c,c∈cs↔c∈ks))(_:∀b st H',gx K A.co H' b st (ab.j9 (v==1) cs m)->ea A.cc H' cl ca (ab.dN aI λd=>ab.T3.mul w (ab.kP (v==1) cs m d))->H b=aj->H st=aj->bZ ca H H'->Q (.ref b) H')
def abC:Cz Z "outcome_of" ["changes","marks","pieces","v","selected"] 4 (afm K A):=by
 refine Z.Vw.ok v7 λf eA Ar outer s H vs Q E p h=>?_;obtain⟨cl,ca,aI,ma,m,sd,ks,cs,y,v,rfl,sW,MU,aW,nX,mV,sY,u_,k⟩:=h;have gT:=eF;have nW:m.aI.length<=1001:=by have:=aW.bG;lia
 refine⟨_,(aH (qS 5 v7.nd (m6 (Ow Z:) (p.mono (by decide)) U (ai (pv 1) aq))) (aH (rg U v7.nd (i:=6) U rfl (rm U rfl rfl rfl) (qI K (qF (yD Z:) p (ai (pv 1) aq))) (fw (N:=["changes","marks","pieces","v","selected","outcome","judged","c","before"]) (sc:=cF (bo 72)) (own:=[("c",7)]) ‹_›) (λ_ _ _ _ _=>(qG 7 v7.nd)) (λ_ _ _ _ _=>(k0 (yP (yK (il p) (pv 7) (pv 4))))) (λ_ _ _ _ _=>(pv 7))) (aH (eU eK U (qI K (acD U Z.BR U Z.aaL (pv 6))) (qG 7 v7.nd) (aO (bO (eH (d_ (aX Z.fb Z.vA (pv 5)))) (aH (qS 8 v7.nd (qF (Hg Z:) p (ai (pv 5) aq))) (aH (eT (qF (OB Z:) p (ai (pv 5) (ai (pv 3) (ai (pv 7) aq))))) (aH (eT (qF (OG Z:) p (ai (pv 0) (ai (pv 3) (ai (pv 7) (ai (pv 8) (ai (pv 2) aq))))))) (aO (eT (qF (OG Z:) p (ai (pv 0) (ai (pv 3) (ai (pv 7) (ai (qF (Hg Z:) p (ai (pv 5) aq)) (ai (b6 iK aU (pv 2)) aq))))))))))) bX))) (aO (bc (pv 5)))))),?_⟩;refine(λb dx nb nd ne=>⟨b,dx,ma,m,U,?_,aJ,λst H1 yi iH X_=>⟨U,?_⟩⟩)
 .have a:aF H (aM (aM H dx (.own b)) b (.ins A.co dx [])):=(bg nd).trans (bg (by rw[a_ (cU ne)];exact nb));exact MU.up (a.le 0)
 have s1:aF H H1:=aF.made nb nd X_;have r:H st=aj:=by have a:aF H (aM (aM H dx (.own b)) b (.ins A.co dx [])):=(bg nd).trans (bg (by rw[a_ (cU ne)];exact nb));exact a.free iH
 refine⟨ma,m,U,MU.up (s1.le 0),by lia,λql H2 hq nq s2=>⟨ql,U,⟨_,aL.of hq⟩,λD hD=>fJ m.aI (λc=>decide (c∈ks)) NI (ff (v:=NI)) (λH' a=>aL.of (a _ _ hq)) hD (by lia) ?_ λH3 s3 hl=>?_⟩⟩
 .rintro n z x H' Qx Qn hz a k1 k2 gz ⟨z',pH,rfl⟩
  cases hz.symm.trans pH;refine gz ?_;have hd:=(mV.same (s1.trans (s2.trans a))).dn.get z;refine⟨U,sd,_,U,hd,aZ (λhb=>?_) λhb=>?_⟩
  .rw [lT]at hb;exact(k1 hb _ (aF.refl _))
  .rw [lT]at hb;exact k2 hb _ (aF.refl _)
 .have iM:=s1.trans (s2.trans s3);have s23:=s2.trans s3;refine(aeL hl (mv (oJ _ _) (by lia)) λL t H4 eL s4 Yp FD=>?_);have LY:t=ab.CD cs m:=by
   refine ab.yX Yp (sY.filter _) λc=>?_;rw[FD,ab.CD,d4,d4,u_];simp only[decide_eq_true_eq];exact And.comm
  have P7:=iM.trans s4;have V:∀{o:ab.fT},o.aT.Ok aI.length->∀d∈ab.left o,1<=d/\d<=aI.length:=λ{o} w d hd=>by
   unfold ab.left at hd;split at hd
   .simp at hd
   .exact w.aI d hd
  refine⟨L,U,⟨_,aL.of eL⟩,eP (ff (zs:=t) (v:=NI)) (λi σ H'=>(∃x7 x8,σ=[aa (.ref cl),aa (.ref ma),aa (.int y),aa (.int v),aa (.ref sd),aa (.ref b),aa (.ref D),x7,x8])/\bZ ca H H'/\H' L=aa (.aC (t.map NI))/\∃o W,gx K A.co H' b st o/\o.aT.Ok aI.length/\ab.tF (v==1) (t.drop i) o=ab.j9 (v==1) cs m/\ea A.cc H' cl ca W/\W.length=aI.length/\ab.dN W (λd=>ab.T3.mul y (ab.qQ (v==1) (t.drop i) o d))=ab.dN aI λd=>ab.T3.mul y (ab.kP (v==1) cs m d)) ⟨⟨aj,aj,U⟩,P7.x _,eL,ab.iL m,aI,yi.same (s23.trans s4),aW,by rw[p8,LY];rfl,sW.same P7,U,by rw[p8,LY];rfl⟩ (λi σ H' j0=>aL.of j0.2.2.1) ?_ ?_⟩
  .rintro i x σ H5 H6 hi s6 N B kn kb gz ⟨⟨x7,x8,rfl⟩,sX,hL,o,W,ho,S,X,u5,T,Y⟩ ⟨c,hc,rfl⟩
   refine gz ?_;have Cu:=sX.to s6;have R:=ho.same s6;have ya:=u5.same s6;have G:=s6 _ _ hL;have g:L∉ca:=λq=>by obtain⟨c',qx,e⟩:=ya.mem q;rw[G]at e;cases e
   have XQ:t.drop i=c::t.drop (i+1):=by have:=gE hc;rw[JP this];congr 1;rw[dC this]at hc;exact dX hc
   rw[XQ]at X Y;unfold ab.tF at X;unfold ab.qQ at Y;obtain⟨i1,d1,p1,Po,g1,_⟩:=R.ex;have Nm:o.aT.aI.length<aS:=by have:=S.bG;lia
   refine⟨b,_,U,g1.di,aZ (λhg=>?_) λhg=>?_⟩
   .have P:o.di=aB:=by cases q:o.di<;>simp_all
    rw[ay (by rw[P];exact cg)]at X;refine⟨b,st,o,U,R,Nm,λbl H7 A_ nbl s7=>?_⟩;have O:=ab.BH (v==1) c o S;have Ze:(ab.jh (v==1) c o).aT.aI.length<aS:=by have:=O.bG;lia
    refine⟨b,st,o,_,v,c,U,R.same s7,S,Nm,λH8 yh s8=>?_⟩;have Mv:=ya.same s7;have iU:=(R.same s7).ne Z.togB Mv;have Fq:=Mv.x s8 iU.1 iU.2.1;have Xz:H8 bl=aa (.aC ((ab.left o).map NI)):=s8 _ _ A_ (by
     intro q;simp only[bJ,oM,or_false]at q;obtain⟨i9,d9,p9,ps9,⟨Wd,e9⟩,_,_,_,F,_⟩:=(R.same s7).ex;rcases q with q|q
     .rw [<-q,A_]at e9;cases e9
     .rw [<-q,A_]at F;cases F)
    refine⟨cl,ca,W,bl,ab.left o,v,y,c,U,Fq,Xz,λd hd=>by rw[T];exact V S d hd,λH9 XD s9=>?_⟩;have l:=yh.ne Z.togB Fq;have FH:=yh.x s9 l.2.2.1 l.2.2.2 (Fq.kW Z.togB);refine⟨b,st,_,U,FH,Ze,λT2 rC Xy ahY M=>?_⟩;have I:=XD.same M;refine⟨cl,ca,_,T2,ab.left (ab.jh (v==1) c o),v,0-y,c,U,I,Xy,λd hd=>by rw[ab.I0,T];exact V O d hd,λzw j hW=>?_⟩;rw[ab.agM (v==1) c y _ _ W (λd hd=>(V S d hd).1) λd hd=>(V O d hd).1]at j;have Xp:bZ ca H H8:=λb' u e sU=>by refine s8 _ _ (s7 _ _ (Cu _ _ e sU)) ?_;simp only[bJ,oM,or_false,not_or];exact⟨λq=>(by rw[q,nb]at e;cases e),λq=>(by rw[q,r]at e;cases e)⟩
    have J:=(FH.same M).ne Z.togB I;refine kn _ _ ⟨⟨_,_,U⟩,(Xp.trans ((s9.to M).trans hW)),?_,ab.jh (v==1) c o,_,(FH.same M).x hW J.2.2.1 J.2.2.2 (I.kW Z.togB),O,X,j,by rw[ab.Ez];exact T,?_⟩
    .have Xh:H8 L=aa (.aC (t.map NI)):=s8 _ _ (s7 _ _ G) (by
      intro q;simp only[bJ,oM,or_false]at q;obtain⟨i9,d9,p9,ps9,⟨Wd,e9⟩,_,_,_,F,_⟩:=R.ex;rcases q with q|q
      .rw [<-q,G]at e9;cases e9
      .rw [<-q,G]at F;cases F)
     exact hW _ _ (M _ _ (s9 _ _ Xh g)) g
    .rw [ab.As,<-Y];congr 1;funext d;rw[ay (by rw[P];exact cg),ay (by rw[P];exact cg),ab.T3.mul_add]
   .have P:o.di=ah:=by cases q:o.di<;>simp_all
    rw[aA P]at X;refine kn _ _ ⟨⟨_,_,U⟩,Cu,G,o,W,R,S,X,ya,T,?_⟩;rw[<-Y];congr 1;funext d;rw[aA P,aA P,ab.T3.zero_add]
  .rintro σ H5 gz ⟨⟨x7,x8,rfl⟩,sX,hL,o,W,ho,S,X,u5,T,Y⟩
   refine gz ?_;rw[zD]at X Y;have YJ:o=ab.j9 (v==1) cs m:=X;have C:W=ab.dN aI λd=>ab.T3.mul y (ab.kP (v==1) cs m d):=by
    rw[<-Y];have:(λd=>ab.T3.mul (y:Int) (ab.qQ (v==1) [] o d))=λ_=>ab.T3.zero:=by funext d;exact ab.T3.mul_zero _
    rw[this,ab.Au]
   refine(k b st H5 (by rw[<-YJ];exact ho) (by rw[<-C];exact u5) nb r sX)
def MD.ex{Z:Type}[DecidableEq Z]{kd:KD P w K Z}{d:ae}{l:List (Z×V)}(h:MD kd H d l):∃od,H d=aa (fR d od):=let⟨od,_,_,_,_,Y,_⟩:=h;⟨od,Y⟩
def tU:Sc ["changes","runs","v","selected","pieces","outcomes","marks","left","run","outcome"] 4 74:=by walk_at"s"
inductive ae8(K:aw)(A:br)(vs:List V)(H:Hp)(Q:VK)(_:XK):Prop|mk(cl ca aI rl rs sd ks cs:_)(v:Int)(_:vs=[.ref cl,.ref rl,.int v,.ref sd])(_:ea A.cc H cl ca aI)(_:bF K A.cr H rl rs)(_:cM aI.length rs)(_:gI H sd ks)(_:cs.Pairwise (·<·))(_:(∀c,c∈cs↔c∈ks))(_:∀l H',bF K A.cr H' l (ab.iZ (v==1) cs rs)->ea A.cc H' cl ca (ab.dN aI λd=>ab.c_ (v==1) cs (ab.ao rs) d)->H l=aj->bZ ca H H'->Q (.ref l) H')
def abp:Cz Z "give_verdicts" ["changes","runs","v","selected"] 5 (ae8 K A):=by
 refine Z.U8.ok tU λf eA Ar outer s H vs Q E hr h=>?_;obtain⟨cl,j,aI,rl,rs,sd,ks,cs,v,rfl,M,G,ok,mV,sY,u_,k⟩:=h;have gT:=eF;have j3:=ok.bG;refine⟨_,(aH (qS 4 tU.nd (qF (Hi Z:) hr (ai (pv 1) aq))) (aH (qS 5 tU.nd (Hz (hJ P w K))) (aH (eU eK U (HG (hJ P w K) (pv 4)) (qG 6 tU.nd) (aO (HH (hJ P w K) hr.units (pv 5) (pv 6) (qF (abC Z:) hr (ai (pv 0) (ai (pv 6) (ai (vM (hJ P w K) hr.units (pv 4) (pv 6) (λ_ _=>rfl)) (ai (pv 2) (ai (pv 3) aq)))))) U))) (aH (qS 7 tU.nd (b9 aq)) (aH (eU eK U (qI K (pv 1)) (qG 8 tU.nd) (aH (qS 9 tU.nd (vM (hJ P w K) hr.units (pv 5) (qF (yI Z:) hr (ai (pv 8) aq)) (λ_ _=>rfl))) (aO (bO (eH (d_ (aX Z.fb Z.vA (pv 9)))) (aO (eT (fA fQ jQ kz j6 (pv 7) (ai (qF (abL Z:) hr (ai (pv 8) (ai (pv 9) aq))) aq)))) bX)))) (aO (bc (pv 7)))))))),?_⟩;refine⟨rl,rs,U,G,by lia,λpd H1 vg npd s1=>?_⟩;refineλou H2 G' FI s2=>?_;have iq:=s1.trans s2;obtain⟨Y,L⟩:∃Y,Y=ab.c6 rs:=⟨_,U⟩;rw[<-L]at vg;have XF:(Y.map (·.1)).Nodup:=by rw[L];exact ab.ER rs
 have ahv:Y.length<=rs.length:=by rw[L];exact ab.LC rs
 refine⟨pd,_,U,vg.same s2,λod kvs ve ye x_=>?_⟩;have s_:kvs.length=Y.length:=by have:=b_ fo ye;unfold dR gR at this;rwa[aP,aP]at this
 have Bm:∀p∈Y,p.1.Ok aI.length:=λp hp=>by have:p.1∈Y.map (·.1):=bA.mpr ⟨p,hp,U⟩;rw[L]at this;obtain⟨r,FQ,e⟩:=(ab.uR rs p.1).mp this;rw[<-e];exact ok.aT FQ
 have M6:pd∉j:=λq=>by obtain⟨c,dx,e⟩:=M.mem q;rw[npd]at e;cases e
 have M4:ou∉j:=λq=>by obtain⟨c,dx,e⟩:=(M.same s1).mem q;rw[G']at e;cases e
 have mU:pd≠ou:=λe=>by obtain⟨od',h'⟩:=vg.ex;rw[e,G']at h';cases h'
 have YH:∀{X:Hp},bZ j H X->bF K A.cr X rl rs:=λg=>G.x g (λq=>by obtain⟨c,dx,e⟩:=M.mem q;exact m8 G e U) (M.kW Z.togB)
 have YO:∀{X:Hp},bZ j H X->gI X sd ks:=λ{X} g=>by
  have hn:sd∉j:=λq=>by
   obtain⟨c,dx,e⟩:=M.mem q;rcases mV with h|⟨o,h⟩
   .rw [h]at e;cases e
   .rw [h]at e;cases e
  rcases mV with h|⟨o,h⟩
  .exact .inl (g _ _ h hn)
  .exact .inr ⟨o,g _ _ h hn⟩
 refine eP (Jw (d:=pd) (od:=od) (kvs:=kvs)) (λi σ X=>(∃x6,σ=[aa (.ref cl),aa (.ref rl),aa (.int v),aa (.ref sd),aa (.ref pd),aa (.ref ou),x6,aj,aj,aj])/\bZ j H X/\X pd=aa (fR pd od)/\MD (hJ P w K) X pd (gR Y)/\ea A.cc X cl j (ab.dN aI λd=>ab.ez (λm=>ab.kP (v==1) cs m d) (Y.take i))/\(∀p∈kvs,mr K X p.2.1 p.1)/\∃l,MD (hJ P w K) X ou l/\l.length<=i/\(∀p∈Y.take i,(df l p.1).isSome=ah)/\∀m u,df l m=aa u->∃b st,u=.ref b/\gx K A.co X b st (ab.j9 (v==1) cs m))
  ⟨⟨aj,U⟩,iq.x _,ve,vg.same s2,by rw[mq];show ea A.cc H2 cl j (ab.dN aI λ_=>ab.T3.zero);rw[ab.Au];exact M.same iq,x_,[],FI,bp _,by simp,λm u e=>by cases e⟩ (λi σ X j0=>j0.2.2.1) ?_ ?_
 .rintro i x σ H3 H4 hi O N B kn kb gz ⟨⟨x6,rfl⟩,g,Bs,lR,W,n,l,hl,mT,Bg,nZ⟩ ⟨p,hp,rfl⟩
  refine gz ?_;have vZ:=g.to O;have M7:Y[i]?=aa (p.1,((Y[i]?).map (·.2)).getD 0)/\p.2.2=NI (((Y[i]?).map (·.2)).getD 0):=by
   have e:(dR kvs)[i]?=(gR Y)[i]?:=by rw[ye]
   unfold dR gR at e;rw[cf,cf,hp]at e;cases q:Y[i]? with
   |none=>rw[q]at e;cases e
   |some u=>
    rw[q]at e;have e2:=dX e;have e3:p.1=u.1:=b_ Prod.fst e2;have e4:p.2.2=NI u.2:=b_ Prod.snd e2;refine⟨?_,e4⟩;rw[e3];rfl
  obtain⟨wt,F4⟩:∃wt,wt=((Y[i]?).map (·.2)).getD 0:=⟨_,U⟩;rw[<-F4]at M7;obtain⟨C,ahN⟩:=M7;have M5:(p.1,wt)∈Y:=ck C;have iT:=(n p (ck hp)).up (O.le 0);have tq:df (gR Y) p.1=aa (NI wt):=by rw[ES,ab.zo XF M5];rfl
  have t:(ab.dN aI λd=>ab.ez (λm=>ab.kP (v==1) cs m d) (Y.take i)).length=aI.length:=ab.Ez ..;refine⟨pd,p.2.1,_,p.1,_,U,U,lR.same O,iT,tq,cl,j,_,p.2.1,p.1,sd,ks,cs,wt,v,U,W.same O,iT,by rw[t];exact Bm _ M5,by rw[t];exact ok.dh,YO vZ,sY,u_,λb st H5 vb u5 nb m5 s5=>?_⟩;have Ba:=W.same O;have nf:=Ba.kW Z.togB;have qO:Le A.cr H4 H5:=s5.le nf;have MN:MD (hJ P w K) H5 ou l:=(hl.same O).up qO λo e=>s5 _ _ e M4;refine⟨ou,p.2.1,l,p.1,U,U,MN,iT.up qO,by lia,λH6 yg k6=>?_⟩;obtain⟨odo,S⟩:=MN.ex;have R:bZ [ou] H5 H6:=λb o e hb=>k6 b o e ‹hb›;have Oe:∀b∈[ou],∀u,H5 b=aa u->¬ni A.cr u:=λb hb u e f=>by rw[bx]at hb;subst hb;rw[S]at e;cases e;exact f
  have mY:=R.le Oe;have Cu:bZ j H H6:=λb o e hb=>R _ _ (s5 _ _ (vZ _ _ e hb) hb) (by intro q;rw[bx]at q;rw[q,s1.free G']at e;cases e)
  have V:∀{b st:ae} {o:ab.fT},gx K A.co H5 b st o->gx K A.co H6 b st o:=λ{b st o} ho=>by obtain⟨i1,d1,p1,Po,⟨dx1,g1⟩,_,_,_,g5,_⟩:=ho.ex;refine ho.x R (by simp;intro q;rw[q,S]at g1;cases g1) (by simp;intro q;rw[q,S]at g5;cases g5) Oe
  refine kn _ _ ⟨⟨_,U⟩,Cu,R _ _ (s5 _ _ (O _ _ Bs) M6) ‹mU›,((lR.same O).up qO λo e=>s5 _ _ e M6).up mY λo e=>R _ _ e ‹mU›,?_,λq D=>((n q D).up ((O.le A.cr).trans qO)).up mY,_,yg,c7 (qP _ _ _) (J7 mT),λq D=>?_,λm u e=>?_⟩
  .have e1:(ab.dN aI λd=>ab.ez (λm=>ab.kP (v==1) cs m d) (Y.take (i+1)))=ab.dN (ab.dN aI λd=>ab.ez (λm=>ab.kP (v==1) cs m d) (Y.take i)) λd=>ab.T3.mul wt (ab.kP (v==1) cs p.1 d):=by
    rw[ab.As];congr 1;funext d;rw[dU C,ab.Jf];congr 1;show(ab.T3.mul wt (ab.kP (v==1) cs p.1 d)).add ab.T3.zero=_;rw[ab.T3.add_zero]
   rw[e1];refine u5.x R ?_ λa ha=>?_
   .simp;intro q;have:=u5.aC;rw[q,S]at this;cases this
   .simp;intro q;exact M4 (q▸ha)
  .rw [Dd];split
   .rfl
   .rename_i iU;rw[dU C]at D;rcases cZ.mp D with D|D
    .exact Bg q D
    .rw [bx]at D;subst D;exact bq U iU
  .rw [Dd]at e;by_cases q:m=p.1
   .rw [aA q]at e;cases e;exact⟨b,st,U,by rw[q];exact V vb⟩
   .rw [ay q]at e;obtain⟨b',st',e1,e2⟩:=nZ m u e;have e3:=e2.same O;have iU:=e3.ne Z.togB Ba;exact⟨b',st',e1,V (e3.x s5 iU.2.2.1 iU.2.2.2 nf)⟩
 .rintro σ H3 gz ⟨⟨x6,rfl⟩,g,Bs,lR,W,n,l,hl,mT,Bg,nZ⟩
  refine gz ?_;rw[s_,eJ]at Bg W;refine⟨cN _,λlf I=>?_⟩;have O:=bg (o:=.aC []) I;have XX:(ab.dN aI λd=>ab.ez (λm=>ab.kP (v==1) cs m d) Y)=ab.dN aI λd=>ab.c_ (v==1) cs (ab.ao rs) d:=by congr 1;funext d;rw[L,<-ab.W6 (v==1) cs d rs ok.wf]
  obtain⟨zs,e0,q1,q2⟩:=YH g;have el:zs.length=rs.length:=by rw[<-e0,aP]
  have lP:∀l:List ab.ak,(ab.iZ (v==1) cs l).length<=l.length:=λl=>by
   induction l with
   |nil=>exact bp _
   |cons r l ih=>
    unfold ab.iZ at ih⊢;rw[dW,bb,bY];split
    .simp only[nv];lia
    .simp only[DG];lia
  refine⟨rl,U,⟨_,aL.of (O _ _ q1)⟩,eP (ff (zs:=zs) (v:=rf)) (λi σ X=>(∃x8 x9,σ=[aa (.ref cl),aa (.ref rl),aa (.int v),aa (.ref sd),aa (.ref pd),aa (.ref ou),x6,aa (.ref lf),x8,x9])/\aF H3 X/\bF K A.cr X lf (ab.iZ (v==1) cs (rs.take i))) ⟨⟨aj,aj,U⟩,O,⟨[],by rw[mq];rfl,aJ,λy hy=>by simp at hy⟩⟩ (λi σ X j0=>aL.of (j0.2.1 _ _ q1)) ?_ ?_⟩
  .rintro i x σ H4 H5 hi s5 N B kn kb gz ⟨⟨x8,x9,rfl⟩,sm,Bu⟩ ⟨z,fZ,rfl⟩
   refine gz ?_;have J:=sm.trans s5;have gS:=ck fZ;have je:z.2∈rs:=by rw[<-e0];exact bA.mpr ⟨z,gS,U⟩
   have iV:=(q2 z gS).up (J.le A.cr);have FT:rs[i]?=aa z.2:=by rw[<-e0,cf,fZ];rfl
   obtain⟨u,hu⟩:∃u,df l z.2.aT=aa u:=by
    have:z.2.aT∈Y.map (·.1):=by rw[L];exact(ab.uR rs _).mpr ⟨z.2,je,U⟩
    obtain⟨q,D,e⟩:=bA.mp this;have:=Bg q D;rw[e]at this;exact rP.mp this
   obtain⟨b,st,rfl,ho⟩:=nZ _ _ hu;refine⟨z.1,z.2,U,iV,λmp H6 Yo R=>⟨ou,mp,l,z.2.aT,_,U,U,hl.same (J.trans R),Yo,hu,?_⟩⟩;have vc:=ho.same (J.trans R);obtain⟨i1,d1,p1,Po,g1,_⟩:=vc.ex;have T:=Bu.same (s5.trans R);obtain⟨xs,pG⟩:=l0 T;have sQ:ab.iZ (v==1) cs (rs.take (i+1))=ab.iZ (v==1) cs (rs.take i)++(if(ab.j9 (v==1) cs z.2.aT).di=ah then[]else[ab.vW (ab.j9 (v==1) cs z.2.aT) z.2]):=by unfold ab.iZ;rw[dU FT,gw,dW,mm,ee]
   refine⟨b,_,U,g1.di,aZ (λhg=>?_) λhg=>?_⟩
   .have Ft:¬(ab.j9 (v==1) cs z.2.aT).di=ah:=by cases q:(ab.j9 (v==1) cs z.2.aT).di<;>simp_all
    rw[ay Ft]at sQ;refine⟨.inl ⟨U,_,aL.of pG⟩,z.1,z.2,b,st,_,U,iV.up (R.le _),vc,ok.look je,by have:=ok.cells je;lia,λa' H7 Xq s7=>⟨lf,xs,_,U,U,s7 _ _ pG,by rw[oj T pG];have:=lP (rs.take i);have:=ub i rs;lia,kn _ _ ⟨⟨_,_,U⟩,λc o e=>?_,?_⟩⟩⟩
    .have:c≠lf:=λq=>by rw[q,I]at e;cases e
     rw[a_ this];exact s7 _ _ ((J.trans R) _ _ e)
    .rw [sQ];exact vV T s7 (s7 _ _ pG) Xq
   .have Ft:(ab.j9 (v==1) cs z.2.aT).di=ah:=by cases q:(ab.j9 (v==1) cs z.2.aT).di<;>simp_all
    rw[aA Ft,ee]at sQ;exact kn _ _ ⟨⟨_,_,U⟩,J.trans R,by rw[sQ];exact T⟩
  .rintro σ H4 gz ⟨⟨x8,x9,rfl⟩,sm,Bu⟩
   refine gz ?_;rw[el,eJ]at Bu;rw[XX]at W;refine(k lf H4 Bu (W.same sm) ?_ (g.to sm));cases q:H lf with
   |none=>rfl
   |some o=>
    have hn:lf∉j:=λu=>by obtain⟨c,dx,e⟩:=W.mem u;rw[I]at e;cases e
    rw[g _ _ q hn]at I;cases I
structure Sh where
 rl:ae
 sd:ae
 rs:List ab.ak
 ks:List Nat
 cs:List Nat
structure Af (K:aw) (A:br) (n:Nat) (H:Hp) (x:ae×Sh):Prop where
 bh:H x.1=aa (.bh [.ref x.2.rl,.ref x.2.sd])
 row:bF K A.cr H x.2.rl x.2.rs
 ok:cM n x.2.rs
 f6:gI H x.2.sd x.2.ks
 cs:x.2.cs.Pairwise (·<·)
 mem:∀c,c∈x.2.cs↔c∈x.2.ks
def e6(acc:Bool)(l:List Sh):List ab.ak:=l.flatMap λx=>ab.iZ acc x.cs x.rs
def jH(acc:Bool):List Sh->Nat->ab.T3
 |[],_=>ab.T3.zero
 |x::l,d=>(ab.c_ acc x.cs (ab.ao x.rs) d).add (jH acc l d)
theorem Qo(acc:Bool):∀(l:List Sh) (x:Sh) (d:Nat),jH acc (l++[x]) d=(jH acc l d).add (ab.c_ acc x.cs (ab.ao x.rs) d)
 |[],x,d=>by show(ab.c_ acc x.cs (ab.ao x.rs) d).add ab.T3.zero=ab.T3.zero.add _;rw[ab.T3.add_zero,ab.T3.zero_add]
 |y::l,x,d=>by show(ab.c_ acc y.cs (ab.ao y.rs) d).add (jH acc (l++[x]) d)=((ab.c_ acc y.cs (ab.ao y.rs) d).add (jH acc l d)).add _;rw[Qo acc l x d,ab.T3.add_assoc]
theorem Af.x{K:aw}{mg:Str->Option af}{A:br}(T:gB K mg A){n:Nat}{H V:Hp}{x:ae×Sh}{cl:ae}{Y:List ae}{aI:List ab.cT}(h:Af K A n H x)(X:ea A.cc H cl Y aI)(s:bZ Y H V):Af K A n V x:=by
 have Z:∀{b:ae} {o:HO},H b=aa o->(∀C dx fs,o≠.ins C dx fs)->b∉Y:=λ{b o} e R q=>by obtain⟨c,dx,Q⟩:=X.mem q;rw[Q]at e;cases e;exact R _ _ _ U
 refine⟨s _ _ h.bh (Z h.bh (by intros;simp)),?_,h.ok,?_,h.cs,h.mem⟩
 .obtain ⟨xs,S⟩:=l0 h.row;exact h.row.x s (Z S (by intros;simp)) (X.kW T)
 .rcases h.f6 with e|⟨o,e⟩
  .exact .inl (s _ _ e (Z e (by intros;simp)))
  .exact .inr ⟨o,s _ _ e (Z e (by intros;simp))⟩
def pS:Sc ["text","v","selected","shares","before","left","share","borne","stood","c","gone"] 4 76:=by walk_at"s"
noncomputable def stood(rs:List ab.ak)(ks:List Nat):Nat:=(ks.filter λc=>decide (∃r∈rs,c∈r.aT.aI)).length
inductive afC(K:aw)(A:br)(vs:List V)(H:Hp)(Q:VK)(_:XK):Prop|mk(t cl rl ca s rs sd ks sh:_)(v:Int)(tV:List (ae×Sh))(_:vs=[.ref t,.int v,.ref sd,.ref sh])(_:Tx A H t cl rl ca s)(_:bF K A.cr H rl rs)(_:cM (bj s) rs)(_:gI H sd ks)(_:ks.Nodup)(_:ks.length<2^20)(_:H sh=aa (.aC (tV.map rf)))(_:(∀x∈tV,Af K A (bj s) H x))(_:cM (bj s) (e6 (v==1) (tV.map (·.2))))(_:∀l nl H',g9 A.ct H' t s.doc.author s.doc.time s.doc.tracking cl nl->ea A.cc H' cl ca (ab.dN (ab.eB s) (jH (v==1) (tV.map (·.2))))->bF K A.cr H' nl (e6 (v==1) (tV.map (·.2)))->H' l=aa (.aC [.int (stood rs ks:Nat),.int (((ab.ao rs).length:Int)-((ab.ao (e6 (v==1) (tV.map (·.2)))).length:Int)),.int ((gM (ab.ao rs):Int)-(gM (ab.ao (e6 (v==1) (tV.map (·.2)))):Int))])->H l=aj->bZ (sd::t::ca) H H'->Q (.ref l) H')
def OD:Cz Z "judge_shares" ["text","v","selected","shares"] 6 (afC K A):=by
 refine Z.Vh.ok pS λf eA Ar outer s H vs Q E hr h=>?_;obtain⟨t,cl,rl,ca,s,rs,sd,ks,sh,v,Y,rfl,tx,Bv,ok,yd,hnd,s_,pE,YR,yJ,k⟩:=h;have gT:=eF;refine⟨_,(aH (qS 4 pS.nd (aX Z.cA Z.eI (pv 0))) (aH (qS 5 pS.nd (b9 aq)) (aH (eU eK U (qI K (pv 3)) (qG 6 pS.nd) (aO (eT (fA fQ lz nB m3 (pv 5) (ai (qF (abp Z:) hr (ai (aX Z.cA Z.kg (pv 0)) (ai (qT K (pv 6) aU) (ai (pv 1) (ai (qT K (pv 6) aU) aq))))) aq))))) (aH (cY Z.cA Z.eI (pv 0) (pv 5)) (aH (qS 7 pS.nd (qF (vC Z:) hr (ai (pv 4) aq))) (aH (qS 8 pS.nd (qN K Z.eQ (ai (hU U pS.nd (B_ (pv 2)) (fw (N:=["text","v","selected","shares","before","left","share","borne","stood","c","gone"]) (sc:=cF (bo 76)) (own:=[("c",9)]) ‹_›) (λ_ _ _ _ _=>(qG 9 pS.nd)) (λ_ _ _ _ _=>(k0 (yP (yK (il hr) (pv 9) (pv 7))))) (λ_ _ _ _ _=>(pv 9))) aq))) (aH (qS 10 pS.nd (b6 iK (qF (qX Z:) hr (ai (pv 4) aq)) (qF (qX Z:) hr (ai (pv 5) aq)))) (aO (bc (b9 (ai (pv 8) (ai (pv 10) (ai (b6 iK (qF (Ox Z:) hr (ai (pv 4) aq)) (qF (Ox Z:) hr (ai (pv 5) aq))) aq))))))))))))),?_⟩;refine⟨t,_,U,tx.tx.row,cN _,λlf BW=>?_⟩;have s1:=bg (o:=.aC []) BW;have en:(ab.eB s).length=bj s:=ab.Ly tx.hZ;have Bh:lf∉ca:=λq=>by obtain⟨c,dx,e⟩:=tx.aI.mem q;rw[BW]at e;cases e
 refine⟨sh,U,⟨_,aL.of (s1 _ _ pE)⟩,eP (ff (zs:=Y) (v:=rf)) (λi σ H'=>(∃x6,σ=[aa (.ref t),aa (.int v),aa (.ref sd),aa (.ref sh),aa (.ref rl),aa (.ref lf),x6,aj,aj,aj,aj])/\bZ ca H H'/\bF K A.cr H' lf (e6 (v==1) ((Y.take i).map (·.2)))/\ea A.cc H' cl ca (ab.dN (ab.eB s) (jH (v==1) ((Y.take i).map (·.2))))) ⟨⟨aj,U⟩,s1.x _,⟨[],U,aJ,λy hy=>by simp at hy⟩,?_⟩ (λi σ H' ⟨_,sX,_⟩=>aL.of (sX _ _ pE ?_)) ?_ ?_⟩
 .rw [mq];show ea A.cc _ cl ca (ab.dN (ab.eB s) λ_=>ab.T3.zero);rw[ab.Au];exact tx.aI.same s1
 .intro q;obtain⟨c,dx,e⟩:=tx.aI.mem q;rw[pE]at e;cases e
 .rintro i x σ H2 H3 hi s3 N B kn kb gz ⟨⟨x6,rfl⟩,sX,tf,A'⟩ ⟨z,fZ,rfl⟩
  refine gz ?_;have L:=sX.to s3;have C:=A'.same s3;have gS:=ck fZ;have tu:=(YR z gS).x Z.togB tx.aI L;have I:g9 A.ct H3 t s.doc.author s.doc.time s.doc.tracking cl rl:=by obtain⟨dx,e⟩:=tx.tx;exact⟨dx,L _ _ e λq=>(tx.xN Z.togB q).1 U⟩
  have XI:(ab.dN (ab.eB s) (jH (v==1) ((Y.take i).map (·.2)))).length=bj s:=by rw[ab.Ez,en]
  have M:=tf.same s3;obtain⟨xs,pG⟩:=l0 M;refine⟨.inl ⟨U,_,aL.of pG⟩,t,_,U,I.changes,z.1,_,0,_,U,U,aY.of tu.bh,bt (j:=0) U,z.1,_,1,_,U,U,aY.of tu.bh,bt (j:=1) U,cl,ca,_,z.2.rl,z.2.rs,z.2.sd,z.2.ks,z.2.cs,v,U,C,tu.row,by rw[XI];exact tu.ok,tu.f6,tu.cs,tu.mem,λl J yf Ba nl4 R=>?_⟩;have MR:bF K A.cr J lf (e6 (v==1) ((Y.take i).map (·.2))):=M.x R Bh (C.kW Z.togB);obtain⟨ys,j4⟩:=l0 yf;have F5:J lf=aa (.aC xs):=R _ _ pG Bh;have sQ:e6 (v==1) ((Y.take (i+1)).map (·.2))=e6 (v==1) ((Y.take i).map (·.2))++ab.iZ (v==1) z.2.cs z.2.rs:=by rw[dU fZ,cG];unfold e6;rw[gw,uc,dW,mm,ee]
  have hsz:xs.length+ys.length<=aS:=by
   rw[oj MR F5,oj yf j4,<-bb,<-sQ];have h1:Y=Y.take (i+1)++Y.drop (i+1):=(rL (i+1) Y).symm;have h2:(e6 (v==1) ((Y.take (i+1)).map (·.2))).length<=(e6 (v==1) (Y.map (·.2))).length:=by
    conv=>rhs;rw[h1,cG]
    unfold e6;rw[gw,bb];lia
   have:=yJ.bG;lia
  refine⟨lf,l,xs,ys,U,U,F5,.inl j4,hsz,kn _ _ ⟨⟨_,U⟩,λb o e T=>?_,?_,?_⟩⟩
  .have:b≠lf:=λq=>by rw[q,BW]at e;cases e
   rw[a_ this];exact R _ _ (L _ _ e T) T
  .rw [sQ];exact P0 MR (aF.refl _) F5 yf j4
  .have e1:(ab.dN (ab.eB s) (jH (v==1) ((Y.take (i+1)).map (·.2))))=ab.dN (ab.dN (ab.eB s) (jH (v==1) ((Y.take i).map (·.2)))) λd=>ab.c_ (v==1) z.2.cs (ab.ao z.2.rs) d:=by
    rw[ab.As];congr 1;funext d;rw[dU fZ,cG,uc,Qo]
   rw[e1];refine Ba.x (S:=[lf]) ir ?_ λa ha=>?_
   .simp;intro q;have:=tx.aI.aC;rw[q,BW]at this;cases this
   .simp;intro q;exact Bh (q▸ha)
 .rintro σ H2 gz ⟨⟨x6,rfl⟩,sX,tf,A'⟩
  refine gz ?_;rw[eJ]at tf A';have YX:g9 A.ct H2 t s.doc.author s.doc.time s.doc.tracking cl rl:=by obtain⟨dx,e⟩:=tx.tx;exact⟨dx,sX _ _ e λq=>(tx.xN Z.togB q).1 U⟩
  obtain⟨dx,e2⟩:=id YX;refine⟨t,dx,_,U,e2,by show 5<1000;decide,?_⟩;rw[tN];obtain⟨H3,pw⟩:∃H3,H3=aM H2 t (.ins A.ct dx (gu s.doc.author s.doc.time s.doc.tracking cl lf)):=⟨_,U⟩;rw[<-pw];have L:bZ [t] H2 H3:=by rw[pw];exact ir
  have Og:∀b∈[t],∀o,H2 b=aa o->¬ni A.cr o:=λb T o e f=>by rw[bx]at T;subst T;rw[e2]at e;cases e;exact Z.Ob f
  have Nc:bF K A.cr H2 rl rs:=Bv.x sX (λq=>by obtain⟨c,qx,e⟩:=tx.aI.mem q;exact m8 Bv e U) (tx.aI.kW Z.togB)
  have FU:=Nc.x L ‹m8 Nc e2› Og;have M:=tf.x L ‹m8 tf e2› Og;have C:ea A.cc H3 cl ca (ab.dN (ab.eB s) (jH (v==1) (Y.map (·.2)))):=A'.x L ‹cU tx.IY› λa ha=>by simpa using(tx.xN Z.togB ha).1
  have I:g9 A.ct H3 t s.doc.author s.doc.time s.doc.tracking cl lf:=⟨dx,by rw[pw,aJ]⟩;have X:sd≠t/\sd∉ca:=by
   refine⟨λq=>?_,λq=>?_⟩
   .obtain ⟨qx,e⟩:=tx.tx;rcases yd with h|⟨o,h⟩
    .rw [q,e]at h;cases h
    .rw [q,e]at h;cases h
   .obtain ⟨c,qx,e⟩:=tx.aI.mem q;rcases yd with h|⟨o,h⟩
    .rw [h]at e;cases e
    .rw [h]at e;cases e
  have P:gI H3 sd ks:=by
   rcases yd with h|⟨o,h⟩
   .exact .inl (L _ _ (sX _ _ h X.2) ‹X.1›)
   .exact .inr ⟨o,L _ _ (sX _ _ h X.2) ‹X.1›⟩
  have X3:bZ (t::ca) H H3:=λb o e T=>L _ _ (sX _ _ e λq=>T (cj _ q)) λq=>T (by rw[bx]at q;rw[q];exact cy);refine⟨rl,rs,_,U,FU,ok,λbd Lr J pz Fo lO pL R=>?_⟩;refine⟨sd,_,U,P.same R,λo5 f5=>?_,λe5 o5=>?_⟩
  .have k5:bZ [sd] J J:=λ_ _ e _=>e;have kf:∀o u,J sd=aa (.cJ o u)->J sd=aa (.cJ o u):=λ_ _ e=>e;have Fp:bd≠sd:=λq=>by
    rcases P with h|⟨o,h⟩
    .rw [<-q,pL]at h;cases h
    .rw [<-q,pL]at h;cases h
   have W:Wk (p7 sd o5 (dZ ks)) (λH=>H sd=aa (.cJ o5 (.dK (dZ ks)))) ks.length (λi x _=>∃p,(ks.map λk=>(k,()))[i]?=aa p/\x=.int (p.1:Nat)):=by have:=zt (g:=λ_:Unit=>V.bl ah) (d:=sd) (o:=o5) (ps:=ks.map λk=>(k,()));rwa[aP]at this
   have xY:bZ (sd::t::ca) H J:=λb o e T=>k5 _ _ (R _ _ (X3 _ _ e λq=>T (cj _ q))) λq=>T (by rw[bx]at q;rw[q];exact cy);have G3:∀b∈[sd],∀o,J b=aa o->¬ni A.cr o\/J b=aa o:=λb T o e=>by
    rw[bx]at T;subst T;rcases P with h|⟨o',h⟩
    .rw [R _ _ h]at e;cases e;exact .inl λf=>f
    .rw [R _ _ h]at e;cases e;exact .inr (kf _ _ (R _ _ h))
   have qO:Le A.cr J J:=λb o e f=>by
    by_cases q:b=sd
    .rcases G3 b (by rw[q];simp) o e with h|h
     .exact bq f h
     .exact h
    .exact k5 _ _ e ‹q›
   have O:∀{l:ae} {rr:List ab.ak},bF K A.cr J l rr->bF K A.cr J l rr:=λ{l rr} ⟨zs,e0,G,q2⟩=>⟨zs,e0,k5 _ _ G (by
    simp;intro q;rcases P with h|⟨o',h⟩
    .rw [<-q]at h;rw[R _ _ h]at G;cases G
    .rw [<-q]at h;rw[R _ _ h]at G;cases G),vX q2 qO⟩
   have kQ:sd≠cl:=λq=>by
    have:=C.aC;rcases P with h|⟨o',h⟩
    .rw [q,this]at h;cases h
    .rw [q,this]at h;cases h
   refineλD hD=>fJ ks (λc=>decide (∃r∈rs,c∈r.aT.aI)) NI W (λH' sm=>sm _ _ f5) hD (by lia) ?_ λH6 s6 hl=>?_
   .rintro n z x H' Qx Qn hz sm k1 k2 gz ⟨p,hp,rfl⟩
    refine gz ?_;have FK:p=(z,()):=by rw[cf,hz]at hp;exact(dX hp).symm
    subst FK;have Fn:gI H' bd Lr:=.inl (sm _ _ (k5 _ _ pz ‹Fp›));refine⟨U,bd,_,U,Fn.dn.get z,aZ (λT=>?_) λT=>?_⟩
    .rw [lT]at T;exact(k1 (by rw[decide_eq_true_eq]at T⊢;exact(lO z).mp T) _ (aF.refl _))
    .rw [lT]at T;exact k2 (by rw[decide_eq_false_iff_not]at T⊢;exactλq=>T ((lO z).mpr q)) _ (aF.refl _)
   .have w:=(O (FU.same R)).same s6;have yr:=(O (M.same R)).same s6;refine⟨D,_,U,dB.ls hl,rl,rs,U,w,by have:=ok.bG;lia,λH7 s7=>⟨lf,_,U,yr.same s7,by have:=yJ.bG;lia,λH8 s8=>?_⟩⟩;refine⟨rl,rs,_,U,(w.same s7).same s8,ok,λH9 s9=>⟨lf,_,_,U,((yr.same s7).same s8).same s9,yJ,λrC Cs=>⟨by show 3<=aS;decide,λl nl=>?_⟩⟩⟩;have y_:=s6.trans (s7.trans (s8.trans (s9.trans Cs)));have hW:=bg (o:=.aC [.int (((ks.filter λc=>decide (∃r∈rs,c∈r.aT.aI)).map NI).length:Int),.int (((ab.ao rs).length:Int)-((ab.ao (e6 (v==1) (Y.map (·.2)))).length:Int)),.int ((gM (ab.ao rs):Int)-(gM (ab.ao (e6 (v==1) (Y.map (·.2)))):Int))]) nl;have sb:=y_.trans hW;obtain⟨EY,E5⟩:=id I;have F0:=sb _ _ (k5 _ _ (R _ _ E5) ‹cU X.1›);have yb:=(((C.same R).x k5 ‹cU kQ› λa ha=>by simp;intro q;exact X.2 (q▸ha))).same sb;refine k l lf _ ⟨EY,F0⟩ yb ((O (M.same R)).same sb) ?_ ?_ (xY.to sb)
    .rw [aJ,aP];rfl
    .have m:J l=aj:=y_.free nl;cases q:H l with
     |none=>rfl
     |some o=>
      exfalso;by_cases hm:l∈sd::t::ca
      .rcases bJ.mp hm with G|G
       .rw [G,f5]at m;cases m
       .rcases bJ.mp G with q2|q2
        .obtain ⟨qx,e⟩:=I;rw[q2,k5 _ _ (R _ _ e) ‹cU X.1›]at m;cases m
        .obtain ⟨c,qx,e⟩:=yb.mem q2;obtain⟨c',Wb,e'⟩:=(C.same R).mem q2;rw[k5 _ _ e' (by simp;intro q3;exact X.2 (q3▸q2))]at m;cases m
      .rw [xY _ _ q hm]at m;cases m
  .generalize hg:aM J sd (.cJ o5 (.dK (dZ ks)))=H5;have f5:H5 sd=aa (.cJ o5 (.dK (dZ ks))):=by rw[<-hg,aJ]
   have k5:bZ [sd] J H5:=by rw[<-hg];exact ir
   have kf:∀o u,J sd=aa (.cJ o u)->H5 sd=aa (.cJ o u):=λo u e=>by rw[e5]at e;cases e
   have Fp:bd≠sd:=λq=>by
    rcases P with h|⟨o,h⟩
    .rw [<-q,pL]at h;cases h
    .rw [<-q,pL]at h;cases h
   have W:Wk (p7 sd o5 (dZ ks)) (λH=>H sd=aa (.cJ o5 (.dK (dZ ks)))) ks.length (λi x _=>∃p,(ks.map λk=>(k,()))[i]?=aa p/\x=.int (p.1:Nat)):=by have:=zt (g:=λ_:Unit=>V.bl ah) (d:=sd) (o:=o5) (ps:=ks.map λk=>(k,()));rwa[aP]at this
   have xY:bZ (sd::t::ca) H H5:=λb o e T=>k5 _ _ (R _ _ (X3 _ _ e λq=>T (cj _ q))) λq=>T (by rw[bx]at q;rw[q];exact cy);have G3:∀b∈[sd],∀o,J b=aa o->¬ni A.cr o\/H5 b=aa o:=λb T o e=>by
    rw[bx]at T;subst T;rcases P with h|⟨o',h⟩
    .rw [R _ _ h]at e;cases e;exact .inl λf=>f
    .rw [R _ _ h]at e;cases e;exact .inr (kf _ _ (R _ _ h))
   have qO:Le A.cr J H5:=λb o e f=>by
    by_cases q:b=sd
    .rcases G3 b (by rw[q];simp) o e with h|h
     .exact bq f h
     .exact h
    .exact k5 _ _ e ‹q›
   have O:∀{l:ae} {rr:List ab.ak},bF K A.cr J l rr->bF K A.cr H5 l rr:=λ{l rr} ⟨zs,e0,G,q2⟩=>⟨zs,e0,k5 _ _ G (by
    simp;intro q;rcases P with h|⟨o',h⟩
    .rw [<-q]at h;rw[R _ _ h]at G;cases G
    .rw [<-q]at h;rw[R _ _ h]at G;cases G),vX q2 qO⟩
   have kQ:sd≠cl:=λq=>by
    have:=C.aC;rcases P with h|⟨o',h⟩
    .rw [q,this]at h;cases h
    .rw [q,this]at h;cases h
   refineλD hD=>fJ ks (λc=>decide (∃r∈rs,c∈r.aT.aI)) NI W (λH' sm=>sm _ _ f5) hD (by lia) ?_ λH6 s6 hl=>?_
   .rintro n z x H' Qx Qn hz sm k1 k2 gz ⟨p,hp,rfl⟩
    refine gz ?_;have FK:p=(z,()):=by rw[cf,hz]at hp;exact(dX hp).symm
    subst FK;have Fn:gI H' bd Lr:=.inl (sm _ _ (k5 _ _ pz ‹Fp›));refine⟨U,bd,_,U,Fn.dn.get z,aZ (λT=>?_) λT=>?_⟩
    .rw [lT]at T;exact(k1 (by rw[decide_eq_true_eq]at T⊢;exact(lO z).mp T) _ (aF.refl _))
    .rw [lT]at T;exact k2 (by rw[decide_eq_false_iff_not]at T⊢;exactλq=>T ((lO z).mpr q)) _ (aF.refl _)
   .have w:=(O (FU.same R)).same s6;have yr:=(O (M.same R)).same s6;refine⟨D,_,U,dB.ls hl,rl,rs,U,w,by have:=ok.bG;lia,λH7 s7=>⟨lf,_,U,yr.same s7,by have:=yJ.bG;lia,λH8 s8=>?_⟩⟩;refine⟨rl,rs,_,U,(w.same s7).same s8,ok,λH9 s9=>⟨lf,_,_,U,((yr.same s7).same s8).same s9,yJ,λrC Cs=>⟨by show 3<=aS;decide,λl nl=>?_⟩⟩⟩;have y_:=s6.trans (s7.trans (s8.trans (s9.trans Cs)));have hW:=bg (o:=.aC [.int (((ks.filter λc=>decide (∃r∈rs,c∈r.aT.aI)).map NI).length:Int),.int (((ab.ao rs).length:Int)-((ab.ao (e6 (v==1) (Y.map (·.2)))).length:Int)),.int ((gM (ab.ao rs):Int)-(gM (ab.ao (e6 (v==1) (Y.map (·.2)))):Int))]) nl;have sb:=y_.trans hW;obtain⟨EY,E5⟩:=id I;have F0:=sb _ _ (k5 _ _ (R _ _ E5) ‹cU X.1›);have yb:=(((C.same R).x k5 ‹cU kQ› λa ha=>by simp;intro q;exact X.2 (q▸ha))).same sb;refine k l lf _ ⟨EY,F0⟩ yb ((O (M.same R)).same sb) ?_ ?_ (xY.to sb)
    .rw [aJ,aP];rfl
    .have m:H5 l=aj:=y_.free nl;cases q:H l with
     |none=>rfl
     |some o=>
      exfalso;by_cases hm:l∈sd::t::ca
      .rcases bJ.mp hm with G|G
       .rw [G,f5]at m;cases m
       .rcases bJ.mp G with q2|q2
        .obtain ⟨qx,e⟩:=I;rw[q2,k5 _ _ (R _ _ e) ‹cU X.1›]at m;cases m
        .obtain ⟨c,qx,e⟩:=yb.mem q2;obtain⟨c',Wb,e'⟩:=(C.same R).mem q2;rw[k5 _ _ e' (by simp;intro q3;exact X.2 (q3▸q2))]at m;cases m
      .rw [xY _ _ q hm]at m;cases m
def sJ(e:ab.ao rs=s.doc.row)(V:ab.bP rs)(c:Nat):(∃r∈rs,c∈r.aT.aI)↔∃x∈s.doc.row,c∈ab.dO x:=by
 rw[<-e];constructor
 .rintro ⟨r,Y,X⟩
  obtain⟨cell,Z⟩:=wN _ (V r Y);exact⟨r.bz cell,ab.oa.mpr ⟨r,Y,cell,Z,U⟩,X⟩
 .rintro ⟨x,W,X⟩
  obtain⟨r,Y,cell,Z,rfl⟩:=ab.oa.mp W;exact⟨r,Y,X⟩
def af_(e:ab.ao rs=s.doc.row)(Y:ab.bP rs)(W:ks.Nodup)(T:cs.Pairwise (·<·))(V:∀c,c∈cs↔c∈ks):stood rs ks=(cs.filter (jZ s)).length:=by
 unfold stood;have Z:cs.Nodup:=T.imp λh=>c8 h;have X:kr ks cs:=(J1 W Z).mpr λc=>(V c).symm;have S:(λc=>decide (∃r∈rs,c∈r.aT.aI))=jZ s:=by
  funext c;by_cases h:∃r∈rs,c∈r.aT.aI
  .rw [dg h];exact(ab.pX.mpr ((sJ e Y c).mp h)).symm
  .rw [cE h];cases q:jZ s c with
   |false=>rfl
   |true=>exact bq ((sJ e Y c).mpr (ab.pX.mp q)) h
 rw[S];exact(X.filter _).length_eq
def aez(s:bf)(acc partly:Bool){i:Nat}(Z:i<=j)(cs:List Nat):(jv s acc partly i j cs).doc.row.length<=s.doc.row.length:=by show(Vatrkc.giveAll s acc partly cs _).1.row.length<=_;refine c7 (ab.Fi s acc partly cs _) ?_;rw[ab.Hw _ _ _ Z];exact bp _
def L6{t:ae}{v:Int}{partly:Bool}{i:Nat}{Z:List Sh}{l:ae}(R:i<=j)(z:Sz s)(e:ab.ao rs=s.doc.row)(J:ab.bP rs)(O:ks.Nodup)(I:cs.Pairwise (·<·))(N:∀c,c∈cs↔c∈ks)(X:ab.bP (e6 (v==1) Z))(Y:ab.ao (e6 (v==1) Z)=(jv s (v==1) partly i j cs).doc.row)(L:ab.dN (ab.eB s) (jH (v==1) Z)=ab.eB (jv s (v==1) partly i j cs))(S:g9 A.ct H' t s.doc.author s.doc.time s.doc.tracking cl nl)(P:ea A.cc H' cl ca (ab.dN (ab.eB s) (jH (v==1) Z)))(W:bF K A.cr H' nl (e6 (v==1) Z))(M:H' l=aa (.aC [.int (stood rs ks:Nat),.int (((ab.ao rs).length:Int)-((ab.ao (e6 (v==1) Z)).length:Int)),.int ((gM (ab.ao rs):Int)-(gM (ab.ao (e6 (v==1) Z)):Int))]))(k:∀T,cV K A H' t cl ca (xE s v partly i j cs).1 T->H' l=aa (.aC ((gO (xE s v partly i j cs).2).map V.int))->Q (.ref l) H'):Q (.ref l) H':=by
 refine k (e6 (v==1) Z) ⟨⟨nl,⟨S,?_,?_⟩,W⟩,Y,X⟩ ?_
 .rw [<-show ab.eB (jv s (v==1) partly i j cs)=ab.eB (xE s v partly i j cs).1 from U,<-L];exact P
 .exact (z.wf.settled (acc:=v==1) (partly:=partly) (cs:=cs) R).hZ
 .rw [M,af_ e J O I N,Y,e];rfl
def La(z:Sz s){v:Int}{partly:Bool}{i:Nat}(W:i<=j){Y:List Sh}(X:ab.bP (e6 (v==1) Y))(Z:ab.ao (e6 (v==1) Y)=(jv s (v==1) partly i j cs).doc.row):cM (bj s) (e6 (v==1) Y):=by
 refine⟨X,λx V=>?_,?_,jO z.dh⟩
 .rw [Z]at V;exact(z.wf.settled (acc:=v==1) (partly:=partly) (cs:=cs) W).all x V
 .rw [Z];exact mv (aez s (v==1) partly W cs) z.pW
def aea:Sc ["text","v","selected"] 3 77:=by walk_at"s"
inductive QB(K:aw)(A:br)(vs:List V)(H:Hp)(Q:VK)(_:XK):Prop|mk(t cl ca s rs sd ks cs:_)(v:Int)(_:vs=[.ref t,.int v,.ref sd])(_:cV K A H t cl ca s rs)(_:Sz s)(_:gI H sd ks)(_:ks.Nodup)(_:ks.length<2^20)(_:cs.Pairwise (·<·))(_:(∀c,c∈cs↔c∈ks))(_:∀l HX H',cV K A H' t cl ca (uK s v cs).1 HX->H' l=aa (.aC ((gO (uK s v cs).2).map V.int))->H l=aj->bZ (sd::t::ca) H H'->Q (.ref l) H')
def B2:Cz Z "judge_everywhere" ["text","v","selected"] 7 (QB K A):=by
 refine Z.Vg.ok aea λf e Ar outer s H a Q E B h=>?_;obtain⟨t,cl,c,s,rs,sd,ks,cs,v,rfl,h,z,T,J,N,S,V,k⟩:=h;obtain⟨rl,tx,row⟩:=h.ex;have ok:=z.ok h.ao h.bN;refine⟨_,(aO (bc (qF (OD Z:) B (ai (pv 0) (ai (pv 1) (ai (pv 2) (ai (b9 (ai (fB (ai (aX Z.cA Z.eI (pv 0)) (ai (pv 2) aq))) aq)) aq))))))),?_⟩;refine⟨t,_,U,tx.tx.row,by show 2<=aS;decide,λp C=>⟨by show 1<=aS;decide,λI O=>?_⟩⟩;have G:=bg (o:=.bh [.ref rl,.ref sd]) C;have M:=bg (o:=.aC [.ref p]) O;have Y:=G.trans M;have g:[(⟨rl,sd,rs,ks,cs⟩:Sh)]=[((p,⟨rl,sd,rs,ks,cs⟩):ae×Sh)].map (·.2):=rfl;have R:ab.ao (e6 (v==1) [(⟨rl,sd,rs,ks,cs⟩:Sh)])=ab.fM (v==1) cs s.doc.row:=by show ab.ao ([_].flatMap _)=_;rw[dW,mm,ee,ab.yZ (v==1) cs rs ok.wf,h.ao]
 obtain⟨i,j⟩:=ab.IF z.wf (v==1) aB (cN s.doc.row.length) cs;have X:(jv s (v==1) aB 0 s.doc.row.length cs).doc.row=ab.fM (v==1) cs s.doc.row:=by rw[i,mq,eJ,p8,zD,ab.xG,DH,ee]
 have y:ab.dN (ab.eB s) (jH (v==1) [(⟨rl,sd,rs,ks,cs⟩:Sh)])=ab.eB (jv s (v==1) aB 0 s.doc.row.length cs):=by rw[j];congr 1;funext d;rw[mq,eJ,p8,zD,ab.u0,ab.T3.zero_add];show(ab.c_ (v==1) cs (ab.ao rs) d).add ab.T3.zero=_;rw[h.ao]
 have W:ab.bP (e6 (v==1) [(⟨rl,sd,rs,ks,cs⟩:Sh)]):=by unfold e6;rw[dW,mm,ee];exact ab.Cr (v==1) cs h.bN
 refine⟨t,cl,rl,c,s,rs,sd,ks,I,v,[(p,⟨rl,sd,rs,ks,cs⟩)],U,tx.same Y,row.same Y,ok,T.same Y,J,N,aJ,λx L=>?_,La z (cN _) W (R.trans X.symm),λl nl b m n q r u w=>?_⟩
 .rw [bx]at L;subst L;exact⟨M _ _ aJ,row.same Y,ok,T.same Y,S,V⟩
 .exact L6 (cN s.doc.row.length) z h.ao h.bN J S V W (R.trans X.symm) y m n q r λP D F=>k l P b D F (Y.free u) (Y.wj w)
def e8.E4{Z:List ae}{t:ae}{sd:ae}{v:Int}(d:e8 K A Z H t cl ca s c Q)(h:cV K A H t cl ca s rs)(z:Sz s)(X:aF H H1)(V:H sd=aj)(T:gI H1 sd ks)(I:ks.Nodup)(S:ks.length<2^20)(R:cs.Pairwise (·<·))(Y:∀c,c∈cs↔c∈ks)(e:cP s c=uK s v cs):QB K A [.ref t,.int v,.ref sd] H1 Q E:=by
 obtain⟨rl,tx,row⟩:=h.ex;refine⟨t,cl,ca,s,rs,sd,ks,cs,v,U,⟨⟨rl,tx.same X,row.same X⟩,h.ao,h.bN⟩,z,T,I,S,R,Y,λl W F J L M N=>?_⟩;refine d l ca W F (by rw[e];exact J) (by rw[e];exact L) (X.free M) (λb o P O=>N _ _ (X _ _ P) λq=>?_) λa G=>.inl G;rcases bJ.mp q with q|q
 .rw [q,V]at P;cases P
 .rcases bJ.mp q with q|q
  .exact O (by rw[q];simp)
  .exact O (by simp[q])
def ad':Sc ["text","v","c"] 3 78:=by walk_at"s"
inductive ae'(K:aw)(A:br)(vs:List V)(H:Hp)(Q:VK)(_:XK):Prop|mk(t cl ca s rs:_)(v c:Int)(_:vs=[.ref t,.int v,.int c])(_:cV K A H t cl ca s rs)(_:Sz s)(_:e8 K A [] H t cl ca s (.judge v c) Q)
def abu:Cz Z "judge" ["text","v","c"] 8 (ae' K A):=by
 refine Z.Vf.ok ad' λf J B outer s H G Q E Y h=>?_;obtain⟨t,cl,I,s,rs,v,c,rfl,h,z,d⟩:=h;obtain⟨rl,tx,row⟩:=h.ex;refine⟨_,(aH (bO (eH (d_ (qF (vE Z:) Y (ai (pv 1) aq)))) (aO (bc (b9 (ai (cx U Z.lN) aq)))) bX) (aH (bO (eH (d_ (qF (vD Z:) Y (ai (pv 0) (ai (pv 2) aq))))) (aO (bc (b9 (ai (cx U Z.uY) aq)))) bX) (aO (bc (qF (B2 Z:) Y (ai (pv 0) (ai (pv 1) (ai (qF (yH Z:) Y (ai (b9 (ai (pv 2) aq)) aq)) aq)))))))),?_⟩;refine⟨v,U,aZ (λL=>?_) λL=>?_⟩
 .have W:fH v=aB:=by cases q:fH v<;>simp_all
  exact d.refuse h (n:=-2) (by show nJ s v c=_;unfold nJ;rw[W];rfl) (aF.refl _)
 have W:fH v=ah:=by cases q:fH v<;>simp_all
 refine⟨t,cl,rl,I,s,c,U,tx,aZ (λM=>?_) λM=>?_⟩
 .have X:dD s c=aB:=by cases q:dD s c<;>simp_all
  exact d.refuse h (n:=-4) (by show nJ s v c=_;unfold nJ;rw[W,X];rfl) (aF.refl _)
 have X:dD s c=ah:=by cases q:dD s c<;>simp_all
 obtain⟨D,F⟩:=ab.vn.mp X;obtain⟨n,rfl⟩:=i5 (show 0<=c by lia);refine⟨by show 1<=aS;decide,λl nl=>?_⟩;have S:=bg (o:=.aC [.int (n:Nat)]) nl;refine⟨l,[n],U,aJ,by show 1<aS;decide,λsd ks C T R P V O=>?_⟩;refine d.E4 (E:=E0) h z (S.trans O) (S.free V) (.inl T) R ?_ (cs:=[n]) (R7 _ _) (λc=>(P c).symm) ?_
 .have:=j8 (n:=n+1) R λc N=>by
   have:=(P c).mp N;simp at this;lia
  have:=z.dh;lia
 .show nJ s v n=_;unfold nJ;rw[W,X];rfl
def yC(s:bf)(p:Nat->Bool):((ie s).filter p).Pairwise (·<·):=(ab.BY s).filter p
def Il:Sc ["text","v","changes","c"] 3 80:=by walk_at"s"
inductive afb(K:aw)(A:br)(vs:List V)(H:Hp)(Q:VK)(_:XK):Prop|mk(t cl ca s rs ll:_)(v:Int)(zs:List Int)(_:vs=[.ref t,.int v,.ref ll])(_:cV K A H t cl ca s rs)(_:Sz s)(_:H ll=aa (.aC (zs.map V.int)))(_:zs.length<=16000)(_:e8 K A [] H t cl ca s (.judgelist v zs) Q)
def N_{zs:List Int}(h:zs.all (dD s)=ah):zs.map V.int=(zs.map oD).map NI/\∀z∈zs,1<=z.toNat/\z.toNat<=bj s/\(z.toNat:Int)=z:=by
 have hz:∀z∈zs,1<=z.toNat/\z.toNat<=bj s/\(z.toNat:Int)=z:=λz hz=>by have:=ab.vn.mp (rE.mp h z hz);lia
 refine⟨?_,hz⟩;rw[bR];apply gY;intro z Z;show V.int z=V.int ((z.toNat:Nat):Int);rw[(hz z Z).2.2]
def abw:Cz Z "judgelist" ["text","v","changes"] 8 (afb K A):=by
 refine Z.Vj.ok Il λf eA Ar outer s H vs Q E S h=>?_;obtain⟨t,cl,ca,s,rs,I,v,zs,rfl,h,z,Y,o,d⟩:=h;obtain⟨rl,tx,row⟩:=h.ex;have u:=eF;refine⟨_,(aH (bO (eH (d_ (qF (vE Z:) S (ai (pv 1) aq)))) (aO (bc (b9 (ai (cx U Z.lN) aq)))) bX) (aH (bO (eH (d_ (lV (r:=yV K) (AM U) U Z.BP DU (ai (hU U Il.nd (qI K (pv 2)) (fw (N:=["text","v","changes","c"]) (sc:=cF (bo 80)) (own:=[("c",3)]) ‹_›) (λ_ _ _ _ _=>(qG 3 Il.nd)) (λ_ _ _ _ _=>jE) (λ_ _ _ _ _=>(qF (vD Z:) S (ai (pv 0) (ai (pv 3) aq))))) aq)))) (aO (bc (b9 (ai (cx U Z.uY) aq)))) bX) (aO (bc (qF (B2 Z:) S (ai (pv 0) (ai (pv 1) (ai (qF (yH Z:) S (ai (pv 2) aq)) aq)))))))),?_⟩;refine⟨v,U,aZ (λg=>?_) λg=>?_⟩
 .have P:fH v=aB:=by cases q:fH v<;>simp_all
  exact d.refuse h (n:=-2) (by show nN s v zs=_;unfold nN;rw[P];rfl) (aF.refl _)
 have P:fH v=ah:=by cases q:fH v<;>simp_all
 refine⟨I,U,⟨_,aL.of Y⟩,λD k=>fJ zs (λ_=>ah) (λz=>.bl (dD s z)) (ff (v:=V.int)) (λB O=>aL.of (O _ _ Y)) k (by lia) ?_ λH1 W C=>?_⟩
 .rintro n z x B Qx Qn hz O p _ b ⟨z',L,rfl⟩
  cases hz.symm.trans L;refine b ?_;exact⟨U,t,cl,rl,ca,s,z,U,tx.same O,p U B (aF.refl _)⟩
 rw[lK]at C;refine⟨D,zs.map (dD s),U,aL.of (by rw[C,bR];rfl),?_⟩;have X:(zs.map (dD s)).all id=zs.all (dD s):=by rw[wL];rfl
 rw[X];refine aZ (λi=>?_) λi=>?_
 .have R:zs.all (dD s)=aB:=by cases q:zs.all (dD s)<;>simp_all
  exact d.refuse h (n:=-4) (by show nN s v zs=_;unfold nN;rw[P,R];rfl) W
 have R:zs.all (dD s)=ah:=by cases q:zs.all (dD s)<;>simp_all
 obtain⟨a,hz⟩:=N_ R;refine⟨I,zs.map oD,U,by rw[W _ _ Y,a],by rw[aP];lia,λsd ks H2 J G F M w=>?_⟩;refine d.E4 (E:=E0) h z (W.trans w) (W.free M) (.inl J) G ?_ (cs:=Ti s zs) (yC s _) (λc=>?_) ?_
 .have:=j8 (n:=bj s+1) G λc l=>by
   obtain⟨y,T,e⟩:=bA.mp ((F c).mp l);have:=hz y T;lia
  have:=z.dh;lia
 .rw [F,Ti,d4,ab.pK,bA];constructor
  .rintro ⟨_,j⟩
   have:(c:Int)∈zs:=‹j›
   exact⟨_,this,by lia⟩
  .rintro ⟨y,T,e⟩
   have m:=hz y T;refine⟨by lia,?_⟩;have:(c:Int)=y:=by lia
   rw[this];simpa using T
 .show nN s v zs=_;unfold nN;rw[P,R];rfl
def ad7:Sc ["text","i","j"] 3 81:=by walk_at"s"
inductive aft(K:aw)(A:br)(vs:List V)(H:Hp)(Q:VK)(_:XK):Prop|mk(t cl ca s rs:_)(i j:Int)(_:vs=[.ref t,.int i,.int j])(_:cV K A H t cl ca s rs)(_:Sz s)(_:∀H',aF H H'->Q (.bl (mJ s i j)) H')
def OC:Cz Z "is_part" ["text","i","j"] 2 (aft K A):=by
 refine Z.Vb.ok ad7 λf S N outer s H P Q E T h=>?_;obtain⟨t,cl,O,s,rs,i,j,rfl,h,z,k⟩:=h;obtain⟨rl,tx,row⟩:=h.ex;have ok:=z.ok h.ao h.bN;have V:=eF;refine⟨_,(aO (bc (acs d3 pN d3 aU (pv 1) (pv 2) (qF (qX Z:) T (ai (aX Z.cA Z.eI (pv 0)) aq))))),?_⟩;unfold mJ gC at k;refine(aZ (λX=>(aZ (λY=>⟨t,_,U,tx.tx.row,rl,rs,U,row,by have:=ok.bG;lia,λR W=>?_⟩) λY=>?_)) λX=>?_)
 .rw [show decide (0<=i)=_ from X,show decide (i<j)=_ from Y,gg,gg]at k;have:=k R W;rw[<-h.ao]at this;exact this
 .rw [show decide (i<j)=_ from Y,dj,dy]at k;exact k H (aF.refl _)
 .rw [show decide (0<=i)=_ from X,dj]at k;exact k H (aF.refl _)
noncomputable def gV(a k Z Y:Int)(ch:iD):Bool:=(decide (V.int a=V.int 0)||decide (NI ch.author=V.int a))&&((decide (V.int k=V.int 0)||decide (NI ch.kind=V.int k))&&(decide (Z<=(ch.time:Int))&&decide ((ch.time:Int)<=Y)))
def Qe{a k:Nat}{Z Y:Int}(ch:iD):gV a k Z Y ch=((a==0||ch.author==a)&&((k==0||ch.kind==k)&&(decide (Z<=(ch.time:Int))&&decide ((ch.time:Int)<=Y)))):=by unfold gV;rw[show decide (V.int (a:Int)=V.int 0)=_ from eR a 0,show decide (NI ch.author=V.int (a:Int))=_ from eR ch.author a,show decide (V.int (k:Int)=V.int 0)=_ from eR k 0,show decide (NI ch.kind=V.int (k:Int))=_ from eR ch.kind k]
def v3:Sc ["text","v","a","k","from_time","to_time","selected","index","change","by_author","of_kind"] 6 79:=by walk_at"s"
inductive afa(K:aw)(A:br)(vs:List V)(H:Hp)(Q:VK)(_:XK):Prop|mk(t cl ca s rs:_)(v a k lo hi:Int)(_:vs=[.ref t,.int v,.int a,.int k,.int lo,.int hi])(_:cV K A H t cl ca s rs)(_:Sz s)(_:e8 K A [] H t cl ca s (.judgeby v a k lo hi) Q)
def abv:Cz Z "judgeby" ["text","v","a","k","from_time","to_time"] 8 (afa K A):=by
 refine Z.Vi.ok v3 λf eA Ar outer s H vs Q E hr h=>?_;obtain⟨t,cl,ca,s,rs,v,a,k,j,i,rfl,h,z,d⟩:=h;obtain⟨rl,tx,row⟩:=h.ex;have gT:=eF;have nX:=z.dh;refine⟨_,(aH (bO (eH (d_ (qF (vE Z:) hr (ai (pv 1) aq)))) (aO (bc (b9 (ai (cx U Z.lN) aq)))) bX) (aH (bO (PW.pt (vQ (eH (oi d3 d3 aU (pv 2) aU)) (vR (eH (oi d3 d3 aU (pv 3) aU))))) (aO (bc (b9 (ai (cx U Z.lN) aq)))) bX) (aH (qS 6 v3.nd (tL)) (aH (eU eK U (Pc U Z.BQ (ai (aX Z.cA Z.kg (pv 0)) aq)) (vN U (lX (qG 7 v3.nd) (lX (qG 8 v3.nd) vO))) (aH (qS 9 v3.nd (B9 (lW dI (pv 2) aU (cB _)) (yM (lW dI (aX Z.fI Z.qu (pv 8)) (pv 2) (cB _))))) (aH (qS 10 v3.nd (B9 (lW dI (pv 3) aU (cB _)) (yM (lW dI (aX Z.fI Z.AE (pv 8)) (pv 3) (cB _))))) (aO (bO (PW.pt (yU (d_ (pv 9)) (yU (d_ (pv 10)) (Cf (oi d3 d3 (pv 4) (aX Z.fI Z.EI (pv 8)) (pv 5)))))) (aO (yO (il hr) (pv 6) (b6 f9 (pv 7) aU) oe U)) bX))))) (aO (bc (qF (B2 Z:) hr (ai (pv 0) (ai (pv 1) (ai (pv 6) aq)))))))))),?_⟩;refine⟨v,U,aZ (λP=>?_) λP=>?_⟩
 .have h2:fH v=aB:=by cases q:fH v<;>simp_all
  exact d.refuse h (n:=-2) (by show nM s v a k j i=_;unfold nM;rw[h2];rfl) (aF.refl _)
 have h2:fH v=ah:=by cases q:fH v<;>simp_all
 have X:(dY a 0 99&&dY k 0 4)=aB->[V.int (-2)].length<=aS/\∀p,H p=aj->Q (.ref p) (aM H p (.aC [.int (-2)])):=λe=>d.refuse h (by show nM s v a k j i=_;unfold nM;rw[h2,e];rfl) (aF.refl _);refine(aZ (λL=>(aZ (λF=>?_) λF=>(aZ (λb1=>(aZ (λb2=>?_) λb2=>?_)) λb1=>?_))) λL=>?_)
 .refine X ?_;have:¬a<=99:=‹F›
  unfold dY;rw[cE (show¬a<=((99:Nat):Int)from this),dy,dj]
 .refine X ?_;have:¬k<=4:=‹b2›
  unfold dY;rw[cE (show¬k<=((4:Nat):Int)from this),dy,dy]
 .have T:a<=99:=‹F›
  have b3:k<=4:=‹b2›
  have a0:0<=a:=cQ L;have b0:0<=k:=cQ b1;have yl:(dY a 0 99&&dY k 0 4)=ah:=by unfold dY;rw[dg (show a<=((99:Nat):Int)from T),dg (show k<=((4:Nat):Int)from b3),dg (show((0:Nat):Int)<=a from a0),dg (show((0:Nat):Int)<=k from b0)];rfl
  refineλsd tI=>?_;have s1:=bg (o:=.dK []) tI;have W:=Rv (K:=K) (a:=cl) (xs:=ca.map V.ref);rw[aP]at W;refine⟨t,_,U,(tx.same s1).tx.changes,cl,_,U,aL.of (s1 _ _ tx.aI.aC),?_⟩;obtain⟨I,hI⟩:∃I:Nat->Hp->Prop,I=λn H'=>aF H H'/\∃ks,H' sd=aa (.dK (dZ ks))/\ks.Nodup/\∀c,c∈ks↔1<=c/\c<=n/\∃ch,s.doc.changes[c-1]?=aa ch/\gV a k j i ch=ah:=⟨_,U⟩;refine eP W (λn σ H'=>(∃x7 x8 x9 b,σ=[aa (.ref t),aa (.int v),aa (.int a),aa (.int k),aa (.int j),aa (.int i),aa (.ref sd),x7,x8,x9,b])/\I n H') ⟨⟨aj,aj,aj,aj,U⟩,?_⟩ ?_ ?_ ?_
  .rw [hI];refine⟨s1,[],aJ,oK,λc=>⟨λq=>by simp at q,λ⟨u,l,_⟩=>by lia⟩⟩
  .rintro n σ H' ⟨_,MG⟩
   rw[hI]at MG;exact aL.of (MG.1 _ _ tx.aI.aC)
  .rintro n x σ H2 H3 hn s3 N B kn kb gz ⟨⟨x7,x8,x9,b,rfl⟩,m⟩ ⟨T1,y,rfl,hy,hT⟩
   refine gz ?_;rw[hI]at m;obtain⟨sm,ks,r,w,S⟩:=m;have l_:=sm.trans s3;have M:=s3 _ _ r;obtain⟨g,Mq,rfl⟩:=iJ hy;have qC:n<s.doc.changes.length:=by have:=gE Mq;have:=tx.n;unfold bj at this;lia
   obtain⟨ch,sW⟩:∃ch,s.doc.changes[n]?=aa ch:=⟨_,dC qC⟩;have hg:(ab.eB s)[n]?=aa ⟨ch.author,ch.time,ch.kind,ab.iu s.tallies (n+1)⟩:=by rw[ab.uQ tx.hZ,sW];rfl
   have J:=(tx.aI.same l_).at_ n g _ Mq hg;have ahG:ks.length<=600:=by
    have:=j8 (n:=n+1) w λc hc=>by have:=((S c).mp hc).2.1;lia
    have:=z.dh;unfold bj at this;lia
   have C:(dZ ks).length<aS:=by rw[BC];lia
   have Y:gV a k j i ch=aB->I (n+1) H3:=λe=>by
    rw[hI];refine⟨l_,ks,M,w,λc=>?_⟩;rw[S];constructor
    .rintro ⟨u,l,O⟩
     exact⟨u,by lia,O⟩
    .rintro ⟨u,l,Uo,O,q4⟩
     refine⟨u,?_,Uo,O,q4⟩;by_cases q:c=n+1
     .subst q;rw[DL,sW]at O;cases O;rw[e]at q4;cases q4
     .lia
   have D:gV a k j i ch=ah->I (n+1) (aM H3 sd (.dK (eY (dZ ks) (.inl ((n+1:Nat):Int)) (.bl ah)))):=λe=>by
    rw[hI];refine⟨tT l_ tI,mM ks (n+1),by rw[aJ,Gm],G9 w,λc=>?_⟩;rw[GO,S];constructor
    .rintro (⟨u,l,O⟩|q)
     .exact ⟨u,by lia,O⟩
     .subst q;exact⟨by lia,bp _,ch,by rw[DL];exact sW,e⟩
    .rintro ⟨u,l,O⟩
     by_cases q:c=n+1
     .exact .inr q
     .exact .inl ⟨u,by lia,O⟩
   refine⟨T1,_,U,aY.of hT,U,_,_,U,_,_,U,U,?_⟩;exact⟨U,aZ (λP=>⟨U,aZ (λR=>((⟨g,_,U,J.time,aZ (λT=>(aZ (λG=>⟨sd,_,U,lp.k (k:=.inl ((n+1:Nat):Int)) M C,kn _ _ ⟨⟨_,_,_,_,U⟩,D (by simp only[gV,P,R,T,G,gW,gf,gg,jn,dj,dy])⟩⟩) λG=>kn _ _ ⟨⟨_,_,_,_,U⟩,Y (by simp only[gV,P,R,T,G,gW,gf,gg,jn,dj,dy])⟩)) λT=>(kn _ _ ⟨⟨_,_,_,_,U⟩,Y (by simp only[gV,P,R,T,gW,gf,gg,jn,dj,dy])⟩)⟩))) λR=>⟨g,_,U,J.kind,U,((aZ (λF=>⟨g,_,U,J.time,aZ (λT=>(aZ (λG=>⟨sd,_,U,lp.k (k:=.inl ((n+1:Nat):Int)) M C,kn _ _ ⟨⟨_,_,_,_,U⟩,D (by simp only[gV,P,R,F,T,G,gW,gf,gg,jn,dj,dy])⟩⟩) λG=>kn _ _ ⟨⟨_,_,_,_,U⟩,Y (by simp only[gV,P,R,F,T,G,gW,gf,gg,jn,dj,dy])⟩)) λT=>(kn _ _ ⟨⟨_,_,_,_,U⟩,Y (by simp only[gV,P,R,F,T,gW,gf,gg,jn,dj,dy])⟩)⟩) λF=>kn _ _ ⟨⟨_,_,_,_,U⟩,Y (by simp only[gV,P,R,F,gW,gf,gg,jn,dj,dy])⟩))⟩⟩) λP=>⟨g,_,U,J.author,U,⟨U,aZ (λR=>(aZ (λL=>(⟨g,_,U,J.time,aZ (λT=>(aZ (λG=>⟨sd,_,U,lp.k (k:=.inl ((n+1:Nat):Int)) M C,kn _ _ ⟨⟨_,_,_,_,U⟩,D (by simp only[gV,P,R,L,T,G,gW,gf,gg,jn,dj,dy])⟩⟩) λG=>kn _ _ ⟨⟨_,_,_,_,U⟩,Y (by simp only[gV,P,R,L,T,G,gW,gf,gg,jn,dj,dy])⟩)) λT=>(kn _ _ ⟨⟨_,_,_,_,U⟩,Y (by simp only[gV,P,R,L,T,gW,gf,gg,jn,dj,dy])⟩)⟩)) λL=>kn _ _ ⟨⟨_,_,_,_,U⟩,Y (by simp only[gV,P,R,L,gW,gf,gg,jn,dj,dy])⟩)) λR=>⟨g,_,U,J.kind,U,(aZ (λL=>(aZ (λF=>⟨g,_,U,J.time,aZ (λT=>(aZ (λG=>⟨sd,_,U,lp.k (k:=.inl ((n+1:Nat):Int)) M C,kn _ _ ⟨⟨_,_,_,_,U⟩,D (by simp only[gV,P,R,L,F,T,G,gW,gf,gg,jn,dj,dy])⟩⟩) λG=>kn _ _ ⟨⟨_,_,_,_,U⟩,Y (by simp only[gV,P,R,L,F,T,G,gW,gf,gg,jn,dj,dy])⟩)) λT=>(kn _ _ ⟨⟨_,_,_,_,U⟩,Y (by simp only[gV,P,R,L,F,T,gW,gf,gg,jn,dj,dy])⟩)⟩) λF=>kn _ _ ⟨⟨_,_,_,_,U⟩,Y (by simp only[gV,P,R,L,F,gW,gf,gg,jn,dj,dy])⟩)) λL=>kn _ _ ⟨⟨_,_,_,_,U⟩,Y (by simp only[gV,P,R,L,gW,gf,gg,jn,dj,dy])⟩)⟩⟩⟩⟩
  .rintro σ H2 gz ⟨⟨x7,x8,x9,b,rfl⟩,m⟩
   refine gz ?_;rw[hI]at m;obtain⟨sm,ks,r,w,S⟩:=m;obtain⟨a,rfl⟩:=i5 a0;obtain⟨k,rfl⟩:=i5 b0;refine(d.E4 (E:=E0) h z sm tI (.inl r) w ?_ (cs:=Th s a k j i) (yC s _) (λc=>?_) ?_)
   .have:=j8 (n:=ca.length+1) w λc hc=>by have:=((S c).mp hc).2.1;lia
    have:=tx.n;lia
   .rw [S,Th,d4,ab.pK,tx.n];constructor
    .rintro ⟨⟨u,l⟩,O⟩
     refine⟨u,l,?_⟩;unfold ju at O;rw[ay (by lia)]at O;cases e:s.doc.changes[c-1]? with
     |none=>rw[e]at O;cases O
     |some ch=>
      rw[e]at O;exact⟨ch,U,by rw[Qe];exact O⟩
    .rintro ⟨u,l,ch,O,q4⟩
     refine⟨⟨u,l⟩,?_⟩;unfold ju;rw[ay (by lia),O];rw[Qe]at q4;exact q4
   .show nM s v a k j i=_;unfold nM;rw[h2,yl];rfl
 .refine X ?_;unfold dY;rw[show decide (((0:Nat):Int)<=k)=_ from b1,dj,dy]
 .refine X ?_;unfold dY;rw[show decide (((0:Nat):Int)<=a)=_ from L,dj,dj]
theorem L8{q:ab.ak->Bool}{p:aE->Bool}(h:∀r c,p (ab.ak.bz r c)=q r):∀rs:List ab.ak,(ab.ao rs).filter p=ab.ao (rs.filter q)
 |[]=>rfl
 |r::rs=>by
  rw[ab.d5,ku,L8 h rs,gv];have key:r.ao.filter p=if q r=ah then r.ao else[]:=by
   split
   .rename_i Y;exact t9.mpr λx Z=>by obtain⟨c,_,rfl⟩:=bA.mp Z;rw[h];exact Y
   .rename_i Y;exact DB.mpr λx Z=>by obtain⟨c,_,rfl⟩:=bA.mp Z;rw[h];exact Y
  rw[key];split
  .rw [ab.d5]
  .rfl
def NQ(s:bf)(c:Int):lJ s (.fate c)=(if dD s c=aB then .refused (-4)else match ju s c.toNat with|some x=>.told (gN (Vatrkc.fateOf s c.toNat x))|none=>.refused (-4)):=rfl
def Iw:Sc ["text","without_insertions","run"] 1 97:=by walk_at"s"
inductive QC(K:aw)(A:br)(c:bV)(vs:List V)(H:Hp)(Q:VK)(_:XK):Prop|mk(t cl ca s rs:_)(_:vs=[.ref t])(_:cV K A H t cl ca s rs)(_:Sz s)(_:e8 K A [] H t cl ca s c Q)
def abW:Cz Z "tell_size" ["text"] 3 (QC K A .size):=by
 refine Z.VU.ok Iw λf e Ar outer s H vs Q E P h=>?_;obtain⟨t,cl,ca,s,rs,rfl,h,z,d⟩:=h;obtain⟨rl,tx,row⟩:=h.ex;have ok:=z.ok h.ao h.bN;have M:=ok.bG;have C:=eF;obtain⟨zs,G,J,L⟩:=id row;have el:zs.length=rs.length:=by rw[<-G,aP]
 refine⟨_,(aH (rg U Iw.nd (i:=1) U rfl (rm U rfl rfl rfl) (qI K (aX Z.cA Z.eI (pv 0))) (fw (N:=["text","without_insertions","run"]) (sc:=cF (bo 97)) (own:=[("run",2)]) ‹_›) (λ_ _ _ _ _=>(qG 2 Iw.nd)) (λ_ _ _ _ _=>(k0 (cK dI (qN K Z.eQ (ai (aX Z.bS Z.jF (pv 2)) aq)) aU (cB _)))) (λ_ _ _ _ _=>(pv 2))) (aO (bc (b9 (ai (qF (yF Z:) P (ai (aX Z.cA Z.eI (pv 0)) aq)) (ai (qF (qX Z:) P (ai (aX Z.cA Z.eI (pv 0)) aq)) (ai (qF (qX Z:) P (ai (pv 1) aq)) (ai (qN K Z.eQ (ai (aX Z.cA Z.kg (pv 0)) aq)) aq)))))))),?_⟩;refine⟨t,_,U,tx.tx.row,rl,U,⟨_,aL.of J⟩,λD k=>fJ zs (λz=>z.2.ins.isEmpty) rf ff (λH' S=>aL.of (S _ _ J)) k (by omega) ?_ λb X m=>?_⟩
 .rintro n z x H' Qx Qn hz S w B j ⟨z',R,rfl⟩
  cases hz.symm.trans R;obtain⟨X,l1,i,d1,p,o,u⟩:=(L z (ck hz)).up (S.le A.cr);refine j ?_;have I:decide (V.int (z.2.ins.length:Int)=V.int 0)=z.2.ins.isEmpty:=by
   cases z.2.ins with
   |nil=>rfl
   |cons a l=>exact cE λq=>by injection q with q;simp at q;omega
  refine⟨U,z.1,_,U,o.ins,i,_,U,dB.tn u.ins,U,aZ (λW=>?_) λW=>?_⟩
  .rw [I]at W;exact(w W _ (aF.refl _))
  .rw [I]at W;exact B W _ (aF.refl _)
 .have hw:bF K A.cr b D ((zs.filter λz=>z.2.ins.isEmpty).map (·.2)):=⟨_,U,m,λy v=>(L y (d4.mp v).1).up (X.le _)⟩;refine⟨t,_,U,(tx.same X).tx.row,rl,rs,U,row.same X,by omega,λH2 T=>⟨t,_,U,(tx.same (X.trans T)).tx.row,rl,rs,U,row.same (X.trans T),by omega,λH3 O=>⟨D,_,U,(hw.same T).same O,by rw[aP];exact mv (oJ _ _) (by omega),λH4 F=>?_⟩⟩⟩;have Y:=X.trans (T.trans (O.trans F));refine⟨t,_,U,(tx.same Y).tx.changes,cl,_,U,dB.ls (tx.same Y).aI.aC,by show 4<=aS;decide,λl nl=>?_⟩;refine d.same h U (xs:=gO (cP s .size).2) U (Y.trans (bg nl)) (Y.free nl) ?_;have g:ab.ao ((zs.filter λz=>z.2.ins.isEmpty).map (·.2))=s.doc.row.filter Vatrka.stood:=by
   rw[<-h.ao,L8 (q:=λr=>r.ins.isEmpty) (λr c=>rfl),<-G,nk];rfl
  rw[aJ,g,aP,tx.n,h.ao];rfl
def Iu:Sc ["text","c","change","marks"] 2 89:=by walk_at"s"
inductive afK(K:aw)(A:br)(f:Int->bV)(vs:List V)(H:Hp)(Q:VK)(_:XK):Prop|mk(t cl ca s rs:_)(c:Int)(_:vs=[.ref t,.int c])(_:cV K A H t cl ca s rs)(_:Sz s)(_:e8 K A [] H t cl ca s (f c) Q)
def abS:Cz Z "tell_fate" ["text","c"] 4 (afK K A .fate):=by
 refine Z.VQ.ok Iu λf I y outer s H C Q E P h=>?_;obtain⟨t,cl,G,s,rs,c,rfl,h,z,d⟩:=h;obtain⟨rl,tx,row⟩:=h.ex;have ok:=z.ok h.ao h.bN;refine⟨_,(aH (bO (eH (d_ (qF (vD Z:) P (ai (pv 0) (ai (pv 1) aq))))) (aO (bc (b9 (ai (cx U Z.uY) aq)))) bX) (aH (qS 2 Iu.nd (qL K (aX Z.cA Z.kg (pv 0)) (b6 iK (pv 1) aU))) (aH (qS 3 Iu.nd (qF (abn Z:) P (ai (aX Z.cA Z.eI (pv 0)) (ai (pv 1) aq)))) (aO (bc (b9 (ai (aX Z.fI Z.qu (pv 2)) (ai (aX Z.fI Z.EI (pv 2)) (ai (aX Z.fI Z.AE (pv 2)) (ai (pv 3) (ai (aX Z.fI Z.AB (pv 2)) (ai (aX Z.fI Z.AF (pv 2)) (ai (aX Z.fI Z.AD (pv 2)) aq))))))))))))),?_⟩;refine⟨t,cl,rl,G,s,c,U,tx,aZ (λM=>?_) λM=>?_⟩
 .have W:dD s c=aB:=by cases q:dD s c<;>simp_all
  exact d.refuse h (n:=-4) (by show(s,lJ s (.fate c))=_;rw[NQ,W];rfl) (aF.refl _)
 have W:dD s c=ah:=by cases q:dD s c<;>simp_all
 obtain⟨B,F⟩:=ab.vn.mp W;obtain⟨n,rfl⟩:=i5 (show 0<=c by lia);have T:n-1<s.doc.changes.length:=by unfold bj at F;lia
 obtain⟨ch,X⟩:∃ch,s.doc.changes[n-1]?=aa ch:=⟨_,dC T⟩;have O:(ab.eB s)[n-1]?=aa ⟨ch.author,ch.time,ch.kind,ab.iu s.tallies (n-1+1)⟩:=by rw[ab.uQ tx.hZ,X];rfl
 obtain⟨b,N,R,S⟩:=tx.aI.get O;have L:(n:Int)-1=((n-1:Nat):Int):=by lia
 refine⟨t,_,U,tx.tx.changes,cl,_,_,_,U,U,aL.of tx.aI.aC,by rw[L];exact bt S,?_⟩;refine⟨t,_,U,tx.tx.row,rl,rs,_,n,U,row,ok,λD V=>?_⟩;have Y:gX A.cc D b _:=let⟨dx,e⟩:=R;⟨dx,V _ _ e⟩;refine⟨b,_,U,Y.author,b,_,U,Y.time,b,_,U,Y.kind,b,_,U,Y.acc,b,_,U,Y.PX,b,_,U,Y.L5,by show 7<=aS;decide,λl nl=>?_⟩;refine d.same h U (xs:=gO (cP s (.fate n)).2) U (V.trans (bg nl)) (V.free nl) ?_;have en:n-1+1=n:=by lia
 have J:cP s (.fate n)=(s,.told (gN (Vatrkc.fateOf s n ch))):=by
  show(s,lJ s (.fate n))=_;have:ju s (n:Int).toNat=aa ch:=by unfold ju;rw[ay (by lia),rD,X]
  rw[NQ,W,this];rfl
 rw[aJ,J,en,h.ao];rfl
def Qc:Sc ["text","standing"] 1 88:=by walk_at"s"
def abY:Cz Z "tell_standing" ["text"] 4 (QC K A .standing):=by
 refine Z.VX.ok Qc λf y n outer s H v Q E F h=>?_;obtain⟨t,cl,u,s,rs,rfl,h,z,d⟩:=h;obtain⟨rl,tx,row⟩:=h.ex;have ok:=z.ok h.ao h.bN;have G:=eF;have M:=z.dh;refine⟨_,(aH (qS 1 Qc.nd (HE U Z.BR (qF (vC Z:) F (ai (aX Z.cA Z.eI (pv 0)) aq)))) (aO (bc (b6 gU (b9 (ai (qN K Z.eQ (ai (pv 1) aq)) aq)) (pv 1))))),?_⟩;refine⟨t,_,U,tx.tx.row,rl,rs,_,U,row,ok,λw ks r P D B I N=>⟨w,Unit,_,ks.map λk=>(k,()),U,P,by rw[bR];rw[show(ks.map ((λx:Nat×Unit=>x.1)∘λk=>(k,())))=ks from kx ks];exact D,λp Y J S R=>?_⟩⟩;have O:=bg (o:=.aC (Y.map NI)) J;have X:∀c,c∈Y↔∃x∈s.doc.row,c∈ab.dO x:=λc=>by rw[R,bR,show(ks.map ((λx:Nat×Unit=>x.1)∘λk=>(k,())))=ks from kx ks,B,sJ h.ao h.bN]
 have W:=ab.af7 z.wf S X;have C:Y.length<=500:=by rw[W];refine c7 (oJ _ _) ?_;rw[ab.Hd];lia
 refine⟨p,_,U,dB.ls aJ,by show 1<=aS;decide,λq L=>?_⟩;have T:=bg (o:=.aC [.int ((Y.map NI).length:Int)]) L;refine⟨q,p,_,_,U,U,aJ,T _ _ aJ,by rw[aP];show 1+_<=_;lia,λl nl=>?_⟩;have sa:=N.trans (O.trans (T.trans (bg (o:=.aC ([.int ((Y.map NI).length:Int)]++Y.map NI)) nl)));refine d.same h U (xs:=gO (cP s .standing).2) U sa ((N.trans (O.trans T)).free nl) ?_;rw[aJ,aP,W];show _=aa (HO.aC ((xD ((ie s).filter (jZ s))).map V.int));unfold xD gN;rw[bM,bR];rfl
def adC(c:Nat)(r:ab.ak):yY c r=ab.eZ c r:=by
 unfold yY ab.eZ Vatrkc.role;show _=(if mC r.ins c=ah then 1 else 0)+((if mC r.del c=ah then 2 else 0)+(if(r.pend.any λy=>y.change==c)=ah then 4 else 0));have e:(r.pend.any λy=>y.change==c)=(r.pend.map (·.change)).contains c:=by rw[<-sT];unfold mC;rw[rF];rfl
 rw[sT,sT,e,nA]
def f'(l:List (Nat×Nat×Nat)):List Nat:=l.flatMap λx=>[x.1,x.2.1,x.2.2]
def IL(l:List (Nat×Nat×Nat)):(f' l).length=3*l.length:=by
 unfold f'
 induction l with
 |nil=>rfl
 |cons a l Z=>rw[dW,bb,Z,bY];simp only[bY,nv];lia
def IJ(a b:List (Nat×Nat×Nat)):f' (a++b)=f' a++f' b:=by unfold f';rw[gw]
def afI(st:ab.lD)(L b:Nat):st.acc.length<=(ab.gG st L b).acc.length:=by
 unfold ab.gG
 try dsimp only
 split
 .unfold ab.AA;rcases oG st.acc with e|⟨l,a,e⟩
  .rw [e];exact cN _
  .rw [oE]at e;rw[e];simp
 .split
  .rw [bb];lia
  .exact bp _
theorem L'(c:Nat):∀(rs:List ab.ak) (st:ab.lD),st.acc.length<=(rs.foldl (λst r=>ab.gG st r.cells.length (ab.eZ c r)) st).acc.length
 |[],st=>bp _
 |r::rs,st=>c7 (afI st _ _) (L' c rs _)
def adD(st:ab.lD)(h:st.role≠0->st.acc≠[])(L b:Nat):(ab.gG st L b).role≠0->(ab.gG st L b).acc≠[]:=by
 unfold ab.gG
 try dsimp only
 intro Z;split
 .rename_i q;have:=h (by rw[<-q.2];exact q.1);rcases oG st.acc with e|⟨l,a,e⟩
  .exact bq e this
  .rw [oE]at e;rw[e,ab.sL];simp
 .simp
def TQ{Z:Type}(pre:List Z)(a b c:Z):j1 (pre++[a,b,c]) (-2)=aa b:=by
 unfold j1 kR;have Y:(pre++[a,b,c]).length=pre.length+3:=by rw[bb];rfl
 rw[ay (by decide),aA (by rw[Y];lia),Y];show(pre++[a,b,c])[_]?=_;have:((-2:Int)+((pre.length+3:Nat):Int)).toNat=pre.length+1:=by lia
 rw[this,p_ (by lia),show pre.length+1-pre.length=1 by lia];rfl
def ZC{Z:Type}(pre:List Z)(a b c:Z):kR (pre++[a,b,c]).length (-2)=aa (pre.length+1):=by
 unfold kR;have Y:(pre++[a,b,c]).length=pre.length+3:=by rw[bb];rfl
 rw[ay (by decide),aA (by rw[Y];omega),Y];congr 1;omega
def aer{Z:Type}(pre:List Z)(a b c v:Z):(pre++[a,b,c]).set (pre.length+1) v=pre++[a,v,c]:=by rw[List.set_append_right _ _ (by lia),show pre.length+1-pre.length=1 by lia];rfl
def NR(s:bf)(c:Int):lJ s (.spots c)=(if dD s c=aB then .refused (-4)else .told (((kJ c.toNat 0 s.doc.row).length:Int)::gN ((kJ c.toNat 0 s.doc.row).flatMap λx=>[x.1,x.2.1,x.2.2]))):=rfl
def rk:Sc ["text","c","told","place","role_before","run","role"] 2 87:=by walk_at"s"
inductive afP(K:aw)(A:br)(vs:List V)(H:Hp)(Q:VK)(_:XK):Prop|mk(t cl ca s rs:_)(c:Int)(_:vs=[.ref t,.int c])(_:cV K A H t cl ca s rs)(_:Sz s)(_:(gO (cP s (.spots c)).2).length<=10000000)(_:e8 K A [] H t cl ca s (.spots c) Q)
def abX:Cz Z "tell_spots" ["text","c"] 3 (afP K A):=by
 refine Z.VW.ok rk λf eA Ar outer s H vs Q E hr h=>?_;obtain⟨t,cl,ca,s,rs,c,rfl,h,z,T,d⟩:=h;obtain⟨rl,tx,row⟩:=h.ex;have ok:=z.ok h.ao h.bN;have gT:=eF;refine⟨_,(aH (bO (eH (d_ (qF (vD Z:) hr (ai (pv 0) (ai (pv 1) aq))))) (aO (bc (b9 (ai (cx U Z.uY) aq)))) bX) (aH (qS 2 rk.nd (b9 (ai aU aq))) (aH (qS 3 rk.nd aU) (aH (qS 4 rk.nd aU) (aH (eU eK U (qI K (aX Z.cA Z.eI (pv 0))) (qG 5 rk.nd) (aH (qS 6 rk.nd (qF (abK Z:) hr (ai (pv 5) (ai (pv 1) aq)))) (aH (bO (PW.pt (yU (cK qZ (pv 6) aU (cB _)) (Cf (cK dI (pv 6) (pv 4) (cB _))))) (aO (Pp (b6 f9 (qL K (pv 2) (q0 ro aU)) (qN K Z.eQ (ai (aX Z.bS Z.gr (pv 5)) aq))) (Pb (pv 2) (q0 ro aU) Qg))) (aO (bO (cK qZ (pv 6) aU (cB _)) (aH (Pp (b6 f9 (qL K (pv 2) aU) aU) (Pb (pv 2) aU Qg)) (aO (eT (fA fQ lz nB m3 (pv 2) (ai (b9 (ai (pv 3) (ai (qN K Z.eQ (ai (aX Z.bS Z.gr (pv 5)) aq)) (ai (pv 6) aq)))) aq))))) bX))) (aH (qS 3 rk.nd (b6 f9 (pv 3) (qN K Z.eQ (ai (aX Z.bS Z.gr (pv 5)) aq)))) (aO (qS 4 rk.nd (pv 6))))))) (aO (bc (pv 2)))))))),?_⟩;refine⟨t,cl,rl,ca,s,c,U,tx,aZ (λh3=>?_) λh3=>?_⟩
 .have h4:dD s c=aB:=by cases q:dD s c<;>simp_all
  exact d.refuse h (n:=-4) (by show(s,lJ s (.spots c))=_;rw[NR,h4];rfl) (aF.refl _)
 have h4:dD s c=ah:=by cases q:dD s c<;>simp_all
 obtain⟨c1,c2⟩:=ab.vn.mp h4;obtain⟨n,rfl⟩:=i5 (show 0<=c by lia);have M:cP s (.spots n)=(s,.told (((kJ n 0 s.doc.row).length:Int)::gN (f' (kJ n 0 s.doc.row)))):=by show(s,lJ s (.spots n))=_;rw[NR,h4];rfl
 have C:=ab.af2 (c:=n) h.bN;rw[h.ao]at C;rw[M]at T;have ahx:3*(kJ n 0 s.doc.row).length+1<=10000000:=by
  have:(gO (.told (((kJ n 0 s.doc.row).length:Int)::gN (f' (kJ n 0 s.doc.row))))).length=3*(kJ n 0 s.doc.row).length+1:=by show(_::gN _).length=_;unfold gN;rw[bY,aP,IL]
  rw[this]at T;exact T
 obtain⟨zs,e0,q1,q2⟩:=id row;have el:zs.length=rs.length:=by rw[<-e0,aP]
 obtain⟨S,hS⟩:∃S:Nat->ab.lD,S=λi=>(rs.take i).foldl (λst r=>ab.gG st r.cells.length (ab.eZ n r)) ⟨[],0,0⟩:=⟨_,U⟩;have Xm:∀i,(S i).acc.length<=(kJ n 0 s.doc.row).length:=λi=>by
  rw[<-C,hS]
  conv=>rhs;rw[<-rL i rs,wQ]
  exact L' n _ _
 have Xn:∀(i:Nat) r,rs[i]?=aa r->S (i+1)=ab.gG (S i) r.cells.length (ab.eZ n r):=λi r hr=>by
  rw[hS]
  try dsimp only
  rw[dU hr,wQ];rfl
 refine⟨by show 1<=aS;decide,λtl p=>?_⟩;have s1:=bg (o:=.aC [.int 0]) p;have ah_:∀st:ab.lD,((NI st.acc.length)::(f' st.acc).map NI).length=1+3*st.acc.length:=λst=>by rw[bY,aP,IL];lia
 refine⟨t,_,U,(tx.same s1).tx.row,rl,U,⟨_,aL.of (s1 _ _ q1)⟩,eP (ff (zs:=zs) (v:=rf)) (λi σ H'=>(∃x5 x6,σ=[aa (.ref t),aa (.int n),aa (.ref tl),aa (NI (S i).place),aa (NI (S i).role),x5,x6])/\aF H H'/\H' tl=aa (.aC (NI (S i).acc.length::(f' (S i).acc).map NI))/\((S i).role≠0->(S i).acc≠[])) ⟨⟨aj,aj,by rw[hS];rfl⟩,s1,by rw[hS,aJ];rfl,by rw[hS];intro q;exact bq U q⟩ (λi σ H' j0=>aL.of (j0.2.1 _ _ q1)) ?_ ?_⟩
 .rintro i x σ H2 H3 hi s3 N B kn kb gz ⟨⟨x5,x6,rfl⟩,sm,G,vi⟩ ⟨Y,fZ,rfl⟩
  refine gz ?_;have l_:=sm.trans s3;have gS:=ck fZ;have je:Y.2∈rs:=by rw[<-e0];exact bA.mpr ⟨Y,gS,U⟩
  have FT:rs[i]?=aa Y.2:=by rw[<-e0,cf,fZ];rfl
  have iV:=(q2 Y gS).up (l_.le A.cr);have I:=Xn i Y.2 FT;have L:=adD (S i) vi Y.2.cells.length (ab.eZ n Y.2);rw[<-I]at L;refine⟨Y.1,Y.2,n,U,iV,by have:=ok.pend je;lia,λH4 s4=>?_⟩;rw[adC];obtain⟨O,l1,ii,d1,p1,ho,hv⟩:=iV.up (s4.le _);have X:=s4 _ _ (s3 _ _ G);have tW:=l_.trans s4;have W:(S (i+1)).role=ab.eZ n Y.2:=by rw[I];rfl
  have g:(S (i+1)).place=(S i).place+Y.2.cells.length:=by rw[I];rfl
  have fin:∀(xs:List V),xs=NI (S (i+1)).acc.length::(f' (S (i+1)).acc).map NI->∀x5 x6,(∃y5 y6,[aa (V.ref t),aa (.int n),aa (.ref tl),aa (NI (S (i+1)).place),aa (NI (S (i+1)).role),x5,x6]=[aa (V.ref t),aa (.int n),aa (.ref tl),aa (NI (S (i+1)).place),aa (NI (S (i+1)).role),y5,y6])/\aF H (aM H4 tl (.aC xs))/\(aM H4 tl (.aC xs)) tl=aa (.aC (NI (S (i+1)).acc.length::(f' (S (i+1)).acc).map NI))/\((S (i+1)).role≠0->(S (i+1)).acc≠[]):=λxs pG x5 x6=>⟨⟨_,_,U⟩,tT tW p,by rw[aJ,pG],L⟩;have Wr:∀x:V,x=NI (S (i+1)).place↔x=.int (((S i).place:Int)+((Y.2.cells.map (·.1)).length:Nat)):=λx=>by rw[g,aP];show x=.int (((S i).place+Y.2.cells.length:Nat):Int)↔_;rw[Dq]
  have R:NI (S (i+1)).place=V.int (((S i).place:Int)+((Y.2.cells.map (·.1)).length:Nat)):=(Wr _).mp U;have w:∀xs:List V,Le A.cr H4 (aM H4 tl (.aC xs)):=λxs=>jz X λb o e hb=>by rw[a_ hb];exact e
  have skip:ab.eZ n Y.2=0->(S (i+1)).acc=(S i).acc:=λe=>by
   rw[I];unfold ab.gG
   try dsimp only
   rw[ay (λq=>q.1 e),ay (λq=>q e)]
  have ELSE:ab.eZ n Y.2≠0->¬ab.eZ n Y.2=(S i).role->(S (i+1)).acc=(S i).acc++[((S i).place,Y.2.cells.length,ab.eZ n Y.2)]:=λe1 e2=>by
   rw[I];unfold ab.gG
   try dsimp only
   rw[ay (λq=>e2 q.2),aA e1]
  refine⟨U,aZ (λh1=>⟨U,aZ (λh2=>?_) λh2=>⟨U,aZ (λy=>?_) λy=>?_⟩⟩) λh1=>⟨U,aZ (λy=>?_) λy=>?_⟩⟩
  .rw [show(!decide (NI (ab.eZ n Y.2)=V.int 0))=_ from b_ not (eR _ 0)]at h1;rw[show decide (NI (ab.eZ n Y.2)=NI (S i).role)=_ from eR _ _]at h2;have r1:ab.eZ n Y.2≠0:=‹h1›
   have r2:ab.eZ n Y.2=(S i).role:=‹h2›
   have iU:=vi (by rw[<-r2];exact r1);obtain⟨l,tt,lQ⟩:∃l tt,(S i).acc=l++[tt]:=by
    rcases oG (S i).acc with e|⟨l,a,e⟩
    .exact bq e iU
    .exact ⟨l,a,by rw[e,oE]⟩
   have XA:(S (i+1)).acc=l++[(tt.1,tt.2.1+Y.2.cells.length,tt.2.2)]:=by
    rw[I];unfold ab.gG
    try dsimp only
    rw[aA ⟨r1,r2⟩,lQ,ab.sL]
   have Y6:(NI (S i).acc.length::(f' (S i).acc).map NI)=(NI (l.length+1)::(f' l).map NI)++[NI tt.1,NI tt.2.1,NI tt.2.2]:=by rw[lQ,IJ,cG,bb];rfl
   have m:(NI (S (i+1)).acc.length::(f' (S (i+1)).acc).map NI)=(NI (l.length+1)::(f' l).map NI)++[NI tt.1,NI (tt.2.1+Y.2.cells.length),NI tt.2.2]:=by rw[XA,IJ,cG,bb];rfl
   rw[Y6]at X;have J:=fin _ m.symm;rw[W]at J;refine⟨tl,_,_,_,U,U,aL.of X,TQ _ _ _ _,Y.1,_,U,ho.signs,O,_,U,dB.tn hv.sg,tl,_,_,_,U,U,X,ZC _ _ _ _,?_⟩;rw[aer]
   try dsimp only
   have ev:V.int ((tt.2.1:Int)+((Y.2.cells.map (·.1)).length:Nat))=NI (tt.2.1+Y.2.cells.length):=by rw[aP];unfold NI;rw[Dq]
   rw[ev];have vb:=ho.up (w ((NI (l.length+1)::(f' l).map NI)++[NI tt.1,NI (tt.2.1+Y.2.cells.length),NI tt.2.2]));have k:=hv.up (w ((NI (l.length+1)::(f' l).map NI)++[NI tt.1,NI (tt.2.1+Y.2.cells.length),NI tt.2.2]));refine⟨Y.1,_,U,vb.signs,O,_,U,dB.tn k.sg,kn _ _ ?_⟩
   try dsimp only
   rw[<-R,W];exact J _ _
  .rw [show(!decide (NI (ab.eZ n Y.2)=V.int 0))=_ from b_ not (eR _ 0)]at h1;rw[show decide (NI (ab.eZ n Y.2)=NI (S i).role)=_ from eR _ _]at h2;have r1:ab.eZ n Y.2≠0:=‹h1›
   have r2:¬ab.eZ n Y.2=(S i).role:=‹h2›
   have xZ:=ELSE r1 r2;have m:(NI (S (i+1)).acc.length::(f' (S (i+1)).acc).map NI)=(NI ((S i).acc.length+1)::(f' (S i).acc).map NI)++[NI (S i).place,NI Y.2.cells.length,NI (ab.eZ n Y.2)]:=by rw[xZ,IJ,cG,bb];rfl
   have J:=fin _ m.symm;rw[W]at J;refine⟨tl,_,0,_,U,U,aL.of X,bt (j:=0) U,tl,_,0,0,U,U,X,by unfold kR;rw[aA (by decide),aA (by rw[bY];lia)];rfl,?_⟩;rw[List.set_cons_zero]
   try dsimp only
   rw[show V.int (((S i).acc.length:Int)+1)=NI ((S i).acc.length+1)from by unfold NI;rw[Dq];rfl];generalize Bf:aM H4 tl (.aC (NI ((S i).acc.length+1)::(f' (S i).acc).map NI))=H5;have vb:iQ A.cr H5 Y.1 O l1 ii d1 p1:=by rw[<-Bf];exact ho.up (w _)
   have k:oX K H5 O l1 ii d1 p1 Y.2:=by rw[<-Bf];exact hv.up (w _)
   have P:H5 tl=aa (.aC (NI ((S i).acc.length+1)::(f' (S i).acc).map NI)):=by rw[<-Bf,aJ]
   refine⟨.inl ⟨U,_,aL.of P⟩,Y.1,_,U,vb.signs,O,_,U,dB.tn k.sg,by show 3<=aS;decide,λq nq=>?_⟩;have hqt:tl≠q:=λe=>by rw[e,nq]at P;cases P
   have s6:=bg (o:=.aC [NI (S i).place,.int ((Y.2.cells.map (·.1)).length:Nat),NI (ab.eZ n Y.2)]) nq;have D:(S (i+1)).acc.length<=(kJ n 0 s.doc.row).length:=Xm (i+1);rw[xZ,bb]at D;have ahI:(S i).acc.length+1<=(kJ n 0 s.doc.row).length:=D;refine⟨tl,q,_,_,U,U,s6 _ _ P,.inl aJ,by rw[bY,aP,IL];show _+3<=_;lia,?_⟩;have mY:Le A.cr H5 (aM (aM H5 q (.aC [NI (S i).place,.int ((Y.2.cells.map (·.1)).length:Nat),NI (ab.eZ n Y.2)])) tl (.aC (NI ((S i).acc.length+1)::(f' (S i).acc).map NI++[NI (S i).place,.int ((Y.2.cells.map (·.1)).length:Nat),NI (ab.eZ n Y.2)]))):=(s6.le _).trans (jz (s6 _ _ P) λb o e hb=>by rw[a_ hb];exact e);have vc:=vb.up mY;have Y2:=k.up mY;refine⟨Y.1,_,U,vc.signs,O,_,U,dB.tn Y2.sg,?_⟩;refine kn _ _ ⟨⟨_,_,by rw[R,W];rfl⟩,λb o e=>?_,?_,L⟩
   .have hb:b≠tl:=λu=>by rw[u,p]at e;cases e
    rw[a_ hb];refine s6 _ _ ?_;rw[<-Bf,a_ hb];exact tW _ _ e
   .rw [aJ,m,aP];rfl
  .exfalso;rw[show(!decide (NI (ab.eZ n Y.2)=V.int 0))=_ from b_ not (eR _ 0)]at h1 y;rw[h1]at y;cases y
  .exfalso;rw[show(!decide (NI (ab.eZ n Y.2)=V.int 0))=_ from b_ not (eR _ 0)]at h1 y;rw[h1]at y;cases y
  .rw [show(!decide (NI (ab.eZ n Y.2)=V.int 0))=_ from b_ not (eR _ 0)]at y;have r0:ab.eZ n Y.2=0:=‹y›
   refine⟨Y.1,_,U,ho.signs,O,_,U,dB.tn hv.sg,?_⟩;exact kn _ _ ⟨⟨_,_,by rw[R,W];rfl⟩,tW,by rw[skip r0];exact X,L⟩
 .rintro σ H2 gz ⟨⟨x5,x6,rfl⟩,sm,G,vi⟩
  refine gz ?_;rw[el]at G;have e2:(S rs.length).acc=kJ n 0 s.doc.row:=by rw[<-C,hS];dsimp only;rw[eJ]
  rw[e2]at G;refine(d.same h (by rw[M]) (xs:=((kJ n 0 s.doc.row).length:Int)::gN (f' (kJ n 0 s.doc.row))) (by rw[M];rfl) sm p ?_);rw[G,bM];unfold gN;rw[bR];rfl
def kT(r:ab.ak):List Nat:=r.ins.length::r.ins++(r.del.length::r.del++Tn r.pend)
def Iv:Sc ["run","told","entry"] 1 92:=by walk_at"s"
inductive afM(K:aw)(C:ae)(vs:List V)(H:Hp)(Q:VK)(_:XK):Prop|mk(a r n:_)(_:vs=[.ref a])(_:eD K C H a r)(_:cM n [r])(_:∀l H',H' l=aa (.aC ((kT r).map NI))->H l=aj->aF H H'->Q (.ref l) H')
def abT:Cz Z "tell_marks" ["run"] 1 (afM K A.cr):=by
 refine Z.VR.ok Iv λf eA Ar outer s H vs Q E hr h=>?_;obtain⟨a,r,n,rfl,⟨c,l1,i,d,p,o,T⟩,ok,k⟩:=h;have W:r∈[r]:=bx.mpr U;have vh:=ok.pend W;have hil:=ok.ins W;have hdl:r.del.length<=1:=(ok.aT W).dl;have gT:=eF;refine⟨_,(aH (qS 1 Iv.nd (b9 (ai (qN K Z.eQ (ai (aX Z.bS Z.jF (pv 0)) aq)) aq))) (aH (eT (fA fQ lz nB m3 (pv 1) (ai (aX Z.bS Z.jF (pv 0)) aq))) (aH (eT (fA fQ jQ kz j6 (pv 1) (ai (qN K Z.eQ (ai (aX Z.bS Z.lZ (pv 0)) aq)) aq))) (aH (eT (fA fQ lz nB m3 (pv 1) (ai (aX Z.bS Z.lZ (pv 0)) aq))) (aH (eT (fA fQ jQ kz j6 (pv 1) (ai (qN K Z.eQ (ai (aX Z.bS Z.jG (pv 0)) aq)) aq))) (aH (eU eK U (qJ K (aX Z.bS Z.jG (pv 0))) (qG 2 Iv.nd) (aO (eT (fA fQ lz nB m3 (pv 1) (ai (pv 2) aq))))) (aO (bc (pv 1))))))))),?_⟩;refine⟨a,_,U,o.ins,i,_,U,dB.tn T.ins,by show 1<=aS;decide,λl nl=>?_⟩;have up:∀xs:List V,Le A.cr H (aM H l (.aC xs)):=λxs=>(bg nl).le _;have g:∀xs:List V,aF H (aM H l (.aC xs)):=λxs=>bg nl;have X:∀xs:List V,iQ A.cr (aM H l (.aC xs)) a c l1 i d p:=λxs=>o.up (up xs);refine⟨.inl ⟨U,_,aL.of aJ⟩,a,_,U,(X _).ins,l,i,_,_,U,U,aJ,.inr (T.ins.up (up _)),by rw[aP];show 1+_<=_;lia,?_⟩;rw[fO];refine⟨.inl ⟨U,_,aL.of aJ⟩,a,_,U,(X _).del,d,_,U,dB.tn (T.del.up (up _)),l,_,_,U,U,aJ,by rw[bb,aP];show 1+_<_;lia,?_⟩;rw[fO];refine⟨.inl ⟨U,_,aL.of aJ⟩,a,_,U,(X _).del,l,d,_,_,U,U,aJ,.inr (T.del.up (up _)),by rw[bb,bb,aP,aP];show 1+_+1+_<=_;lia,?_⟩;rw[fO];refine⟨.inl ⟨U,_,aL.of aJ⟩,a,_,U,(X _).pend,p,_,U,dB.tt (T.pend.up (up _)),l,_,_,U,U,aJ,by rw[bb,bb,bb,aP,aP];show 1+_+1+_<_;lia,?_⟩;rw[fO,aP];obtain⟨zs,j,t,b⟩:=id T.pend;have el:zs.length=r.pend.length:=by have:=b_ fo j;simpa using this
 obtain⟨pre,Y⟩:∃pre:List Nat,pre=r.ins.length::r.ins++(r.del.length::r.del++[r.pend.length]):=⟨_,U⟩;have O:([V.int (r.ins.length:Int)]++r.ins.map NI++[V.int (r.del.length:Int)]++r.del.map NI++[V.int (r.pend.length:Int)])=pre.map NI:=by rw[Y];simp[cG,NI]
 rw[O];have I:pre.length<=600:=by rw[Y];simp only[bb,bY,nv,oF];lia
 have G:∀m:Nat,((r.pend.take m).flatMap eX).length<=3*m:=λm=>by
  have:∀l:List cW,(l.flatMap eX).length=3*l.length:=λl=>by
   induction l with
   |nil=>rfl
   |cons y l ih=>rw[dW,bb,ih,bY];show 3+_=_;lia
  rw[this];have:=ub m r.pend;lia
 refine⟨a,_,U,(X _).pend,p,U,⟨_,dS (up _) t⟩,eP (ki (zs:=zs) (v:=rf)) (λm M w=>(∃x,M=[aa (.ref a),aa (.ref l),x])/\aF H w/\w l=aa (.aC ((pre++(r.pend.take m).flatMap eX).map NI))) ⟨⟨aj,U⟩,g _,by rw[mq,mm,ee,aJ]⟩ (λm M w j0=>dS (j0.2.1.le 0) t) ?_ ?_⟩
 .rintro m x M H1 H2 hm u N B kn kb C ⟨⟨y,rfl⟩,J,L⟩ ⟨z,R,rfl⟩
  obtain⟨e,he,D⟩:∃y,r.pend[m]?=aa y/\eX y=z.2:=iJ (by rw[<-j,cf,R];rfl);refine C ?_;have S:=J.trans u;have q:=(b z (ck R)).up (S.le 0);rw[<-D]at q;have P:=u _ _ L;refine⟨.inl ⟨U,_,aL.of P⟩,l,z.1,_,_,U,U,P,.inr q,by rw[aP,aP,bb];have:=G m;show _+3<=_;lia,kn _ _ ⟨⟨_,U⟩,tT S nl,?_⟩⟩;have ef:[e].flatMap eX=eX e:=by rw[dW,mm,ee]
  rw[aJ,dU he,gw,ef];simp only[cG,fm]
 .rintro M H1 C ⟨⟨y,rfl⟩,J,L⟩
  refine C ?_;rw[el,eJ]at L;refine(k l _ ?_ nl J);rw[L,Y];unfold kT Tn;congr 3;simp only[oF,fm];rfl
def zg:Sc ["run","listed","c"] 2 90:=by walk_at"s"
def IS(ls:List Nat)(r:ab.ak)(c:Nat×List Nat):sG ls (r.bz c)=(!(r.del.any λd=>decide (d∈ls))&&r.ins.all λd=>decide (d∈ls)):=by
 unfold sG;have Z:∀d,mC ls d=decide (d∈ls):=λd=>by
  rw[sT];by_cases q:d∈ls
  .rw [dg q];simpa using q
  .rw [cE q];simpa using q
 show(r.ins.all (mC ls)&&r.del.all λd=>!mC ls d)=_;rw[Bool.and_comm];congr 1
 .rw [List.not_any_eq_all_not];congr 1;funext d;rw[Z]
 .congr 1;funext d;rw[Z]
inductive afG(K:aw)(C:ae)(vs:List V)(H:Hp)(Q:VK)(_:XK):Prop|mk(a r ld ks n:_)(_:vs=[.ref a,.ref ld])(_:eD K C H a r)(_:cM n [r])(_:gI H ld ks)(_:∀H',aF H H'->Q (.bl (sG ks (r.bz (0,[])))) H')
def abQ:Cz Z "stands_with" ["run","listed"] 1 (afG K A.cr):=by
 refine Z.VN.ok zg λf o Ar outer s H b Q E G h=>?_;obtain⟨a,r,ld,ks,n,rfl,⟨X,l1,i,d,p,F,P⟩,ok,S,k⟩:=h;have V:r∈[r]:=bx.mpr U;have u:=ok.ins V;have t:r.del.length<=1:=(ok.aT V).dl;have w:=eF;rw[IS]at k;refine⟨_,(aH (bO (d_ (lV (r:=HJ K) (LI U) U Z.N7 Se (ai (hU U zg.nd (qJ K (aX Z.bS Z.lZ (pv 0))) (fw (N:=["run","listed","c"]) (sc:=cF (bo 90)) (own:=[("c",2)]) ‹_›) (λ_ _ _ _ _=>(qG 2 zg.nd)) (λ_ _ _ _ _=>jE) (λ_ _ _ _ _=>(O7 (yK (il G) (pv 2) (pv 1))))) aq))) (aO (bc oe)) bX) (aO (bc (lV (r:=yV K) (AM U) U Z.BP DU (ai (hU U zg.nd (qJ K (aX Z.bS Z.jF (pv 0))) (fw (N:=["run","listed","c"]) (sc:=cF (bo 90)) (own:=[("c",2)]) ‹_›) (λ_ _ _ _ _=>(qG 2 zg.nd)) (λ_ _ _ _ _=>jE) (λ_ _ _ _ _=>(O7 (yK (il G) (pv 2) (pv 1))))) aq))))),?_⟩;refine⟨a,_,U,F.del,d,U,⟨_,P.del⟩,λD q=>fJ r.del (λ_=>ah) (λc=>.bl (decide (c∈ks))) (ki (v:=NI)) (λR Y=>P.del.up (Y.le 0)) q (by lia) ?_ λg X C=>?_⟩
 .rintro n z x R m l hz Y O _ I ⟨B,W,rfl⟩
  cases hz.symm.trans W;refine I ?_;refine⟨U,ld,_,U,(S.same Y).dn.get z,?_⟩;rw[lT];exact O U R (aF.refl _)
 .rw [lK]at C;refine⟨D,r.del.map λc=>decide (c∈ks),U,aL.of (by rw[C,bR];rfl),?_⟩;rw[rF];refine aZ (λL=>?_) λL=>?_
  .rw [show(r.del.any λc=>decide (c∈ks))=ah from L]at k;exact k g X
  .rw [show(r.del.any λc=>decide (c∈ks))=aB from L]at k;have M:=F.up (X.le _);refine⟨a,_,U,M.ins,i,U,⟨_,P.ins.up (X.le 0)⟩,λe J=>fJ r.ins (λ_=>ah) (λc=>.bl (decide (c∈ks))) (ki (v:=NI)) (λR Y=>P.ins.up ((X.trans Y).le 0)) J (by lia) ?_ λj y T=>?_⟩
   .rintro n z x R m l hz Y O _ I ⟨B,W,rfl⟩
    cases hz.symm.trans W;refine I ?_;refine⟨U,ld,_,U,(S.same (X.trans Y)).dn.get z,?_⟩;rw[lT];exact O U R (aF.refl _)
   .rw [lK]at T;refine⟨e,r.ins.map λc=>decide (c∈ks),U,aL.of (by rw[T,bR];rfl),?_⟩;rw[wL];exact k j (X.trans y)
def ZQ(ks:List Nat):dZ ks=ks.map λc:Nat=>((.inl (c:Int):bE),V.bl ah):=by unfold dZ dv;rw[bR];rfl
def CB:Sc ["row","v","c","left","marks","outcome"] 3 85:=by walk_at"s"
inductive afF(K:aw)(C:ae)(vs:List V)(H:Hp)(Q:VK)(_:XK):Prop|mk(rl rs n:_)(v:Int)(c:Nat)(_:vs=[.ref rl,.int v,.int c])(_:bF K C H rl rs)(_:cM n rs)(_:∀d ks H',H' d=aa (.dK (dZ ks))->ks.Nodup->(∀x,x∈ks↔∃r∈rs,x∈ab.pJ (v==1) c r.aT)->H d=aj->aF H H'->Q (.ref d) H')
def abP:Cz Z "standing_after" ["row","v","c"] 4 (afF K A.cr):=by
 refine Z.VM.ok CB λf eA Ar outer s H vs Q E l h=>?_;obtain⟨rl,rs,n,v,c,rfl,m,ok,k⟩:=h;have gT:=eF;have j3:=ok.bG;have nX:=ok.dh;refine⟨_,(aH (qS 3 CB.nd (tL)) (aH (eU eK U (HG (hJ P w K) (qF (Hi Z:) l (ai (pv 0) aq))) (qG 4 CB.nd) (aH (qS 5 CB.nd (m6 (Ow Z:) (l.mono (by decide)) U (ai (pv 4) aq))) (aH (eT (qF (OB Z:) l (ai (pv 5) (ai (pv 1) (ai (pv 2) aq))))) (aO (eT (fA DY SJ PySem.F.type_dict_update aaE (pv 3) (ai (qF (yH Z:) l (ai (qF (Hg Z:) l (ai (pv 5) aq)) aq)) aq))))))) (aO (bc (pv 3))))),?_⟩;refineλld J=>?_;have s1:=bg (o:=.dK []) J;refine⟨rl,rs,U,m.same s1,by lia,λpd H2 vg C s2=>⟨pd,_,U,vg,λod kvs ve I x_=>?_⟩⟩;obtain⟨X,R⟩:∃X,X=ab.c6 rs:=⟨_,U⟩;rw[<-R]at I;have s_:kvs.length=X.length:=by have:=b_ fo I;unfold dR gR at this;rwa[aP,aP]at this
 have M:H2 ld=aa (.dK []):=s2 _ _ aJ;have vh:pd≠ld:=λq=>by rw[q,aJ]at C;cases C
 have Bm:∀p∈X,p.1.Ok n:=λp O=>by have:p.1∈X.map (·.1):=bA.mpr ⟨p,O,U⟩;rw[R]at this;obtain⟨r,V,e⟩:=(ab.uR rs p.1).mp this;rw[<-e];exact ok.aT V
 have MP:∀p∈X,∀x∈ab.pJ (v==1) c p.1,1<=x/\x<=n:=λp O x Y=>by
  have w:=ab.BH (v==1) c (ab.iL p.1) (Bm p O);unfold ab.pJ ab.left at Y;split at Y
  .simp at Y
  .exact w.aI x Y
 refine eP (Jw (d:=pd) (od:=od) (kvs:=kvs)) (λi σ H'=>(∃x4 x5,σ=[aa (.ref rl),aa (.int v),aa (.int c),aa (.ref ld),x4,x5])/\bZ [ld] H2 H'/\∃ks,H' ld=aa (.dK (dZ ks))/\ks.Nodup/\∀x,x∈ks↔∃p∈X.take i,x∈ab.pJ (v==1) c p.1)
  ⟨⟨aj,aj,U⟩,(aF.refl _).x _,[],M,oK,by simp⟩ (λi σ H' j0=>j0.2.1 _ _ ve ‹vh›) ?_ ?_
 .rintro i x σ H3 L hi s4 N B kn kb gz ⟨⟨x4,x5,rfl⟩,sX,ks,G,hn,hm⟩ ⟨p,O,rfl⟩
  refine gz ?_;have D:=sX.to s4;obtain⟨wt,j⟩:∃wt,X[i]?=aa (p.1,wt):=by
   have e:(dR kvs)[i]?=(gR X)[i]?:=by rw[I]
   unfold dR gR at e;rw[cf,cf,O]at e;cases q:X[i]? with
   |none=>rw[q]at e;cases e
   |some u=>
    rw[q]at e;have e3:p.1=u.1:=b_ Prod.fst (dX e);exact⟨u.2,by rw[e3]⟩
  have g:(p.1,wt)∈X:=ck j;have aW:=Bm _ g;have BE:Le A.cr H2 L:=D.le λb hb u e f=>by rw[bx]at hb;subst hb;rw[M]at e;cases e;exact f
  have iT:=(x_ p (ck O)).up BE;have T:=s4 _ _ G;refine(λb dx nb nd ne=>⟨b,dx,p.2.1,p.1,U,?_,aJ,λst H5 a iH X'=>⟨U,?_⟩⟩)
  .have sm:aF L (aM (aM L dx (.own b)) b (.ins A.co dx [])):=(bg nd).trans (bg (by rw[a_ (cU ne)];exact nb));exact iT.up (sm.le 0)
  have s5:aF L H5:=aF.made nb nd X';have m5:L st=aj:=by have sm:aF L (aM (aM L dx (.own b)) b (.ins A.co dx [])):=(bg nd).trans (bg (by rw[a_ (cU ne)];exact nb));exact sm.free iH
  have F8:(ab.iL p.1).aT.aI.length<aS:=by have:p.1.aI.length<=2*n+1:=aW.bG;show p.1.aI.length<_;lia
  have Yx:=ab.BH (v==1) c (ab.iL p.1) aW;have t:(ab.jh (v==1) c (ab.iL p.1)).aT.aI.length<aS:=by have:=Yx.bG;lia
  refine⟨b,st,ab.iL p.1,n,v,c,U,a,aW,F8,λH6 vc s6=>?_⟩;have k6:aF L H6:=λy o e=>s6 _ _ (s5 _ _ e) (by simp only[bJ,oM,or_false,not_or];exact⟨λq=>(by rw[q,nb]at e;cases e),λq=>(by rw[q,m5]at e;cases e)⟩)
  refine⟨.inr (.inr (.inl ⟨U,.inl ⟨_,k6 _ _ T⟩⟩)),b,st,_,U,vc,t,λll H7 mT nll s7=>?_⟩;have Fw:(ab.left (ab.jh (v==1) c (ab.iL p.1))).length<aS:=by
   unfold ab.left;split
   .show 0<aS;decide
   .exact t
  refine⟨ll,_,U,mT,Fw,λkd S H8 Ya Yb MK z s8=>?_⟩;have k8:=k6.trans (s7.trans s8);have Yf:=k8 _ _ T;have iU:ld≠kd:=λq=>by rw[<-q,(k6.trans s7) _ _ T]at z;cases z
  have b1:ks.length<=n+1:=j8 hn λx Y=>by obtain⟨q,W,Y7⟩:=(hm x).mp Y;have:=MP q (nz W) x Y7;lia
  have b2:S.length<=n+1:=j8 Yb λx Y=>by have:=MP _ g x ((MK x).mp Y);lia
  refine⟨ld,kd,_,_,U,U,Yf,.inl Ya,iU,by rw[BC,BC];lia,kn _ _ ⟨⟨_,_,U⟩,?_,sI ks S,?_,G8 S hn,λx=>?_⟩⟩
  .intro y o e hy;rw[a_ ‹hy›];exact k8 _ _ (D _ _ e hy)
  .rw [aJ,ZQ S,GR]
  .rw [GN,hm,MK,dU j];constructor
   .rintro (⟨q,W,Y⟩|Y)
    .exact ⟨q,jq _ W,Y⟩
    .exact ⟨_,gZ _ (bx.mpr U),Y⟩
   .rintro ⟨q,W,Y⟩
    rcases cZ.mp W with W|W
    .exact .inl ⟨q,W,Y⟩
    .rw [bx]at W;subst W;exact .inr Y
 .rintro σ H3 gz ⟨⟨x4,x5,rfl⟩,sX,ks,G,hn,hm⟩
  refine gz ?_;rw[s_,eJ]at hm;refine(k ld ks H3 G hn (λx=>?_) J λb o e=>sX _ _ ((s1.trans s2) _ _ e) (by simp;intro q;rw[q,J]at e;cases e));rw[hm];constructor
  .rintro ⟨p,O,Y⟩
   have:p.1∈X.map (·.1):=bA.mpr ⟨p,O,U⟩;rw[R]at this;obtain⟨r,V,e⟩:=(ab.uR rs p.1).mp this;exact⟨r,V,by rw[e];exact Y⟩
  .rintro ⟨r,V,Y⟩
   have:r.aT∈X.map (·.1):=by rw[R];exact(ab.uR rs _).mpr ⟨r,V,U⟩
   obtain⟨q,W,e⟩:=bA.mp this;exact⟨q,W,by rw[e];exact Y⟩
def Gx(s:bf)(v c:Int):lJ s (.falls v c)=(if fH v=aB then .refused (-2)else if dD s c=aB then .refused (-4)else .told (xD (o9 s (v==1) c.toNat))):=rfl
def CC:Sc ["text","v","c","left","falling","d"] 3 86:=by walk_at"s"
inductive afL(K:aw)(A:br)(vs:List V)(H:Hp)(Q:VK)(_:XK):Prop|mk(t cl ca s rs:_)(v c:Int)(_:vs=[.ref t,.int v,.int c])(_:cV K A H t cl ca s rs)(_:Sz s)(_:e8 K A [] H t cl ca s (.falls v c) Q)
def abR:Cz Z "tell_falls" ["text","v","c"] 5 (afL K A):=by
 refine Z.VP.ok CC λf eA Ar outer s H vs Q E L h=>?_;obtain⟨t,cl,ca,s,rs,v,c,rfl,h,z,d⟩:=h;obtain⟨rl,tx,row⟩:=h.ex;have ok:=z.ok h.ao h.bN;have gT:=eF;have nX:=z.dh;refine⟨_,(aH (bO (eH (d_ (qF (vE Z:) L (ai (pv 1) aq)))) (aO (bc (b9 (ai (cx U Z.lN) aq)))) bX) (aH (bO (eH (d_ (qF (vD Z:) L (ai (pv 0) (ai (pv 2) aq))))) (aO (bc (b9 (ai (cx U Z.uY) aq)))) bX) (aH (qS 3 CC.nd (qF (abP Z:) L (ai (aX Z.cA Z.eI (pv 0)) (ai (pv 1) (ai (pv 2) aq))))) (aH (rg U CC.nd (i:=4) U rfl (rm U rfl rfl rfl) (qI K (HE U Z.BR (qF (vC Z:) L (ai (aX Z.cA Z.eI (pv 0)) aq)))) (fw (N:=["text","v","c","left","falling","d"]) (sc:=cF (bo 86)) (own:=[("d",5)]) ‹_›) (λ_ _ _ _ _=>(qG 5 CC.nd)) (λ_ _ _ _ _=>(k0 (PW.pt (yU (cK qZ (pv 5) (pv 2) (cB _)) (Cf (yP (ach (il L) (pv 5) (pv 3)))))))) (λ_ _ _ _ _=>(pv 5))) (aO (bc (b6 gU (b9 (ai (qN K Z.eQ (ai (pv 4) aq)) aq)) (pv 4)))))))),?_⟩;refine⟨v,U,aZ (λh1=>?_) λh1=>?_⟩
 .have B:fH v=aB:=by cases q:fH v<;>simp_all
  exact d.refuse h (n:=-2) (by show(s,lJ s (.falls v c))=_;rw[Gx,B];rfl) (aF.refl _)
 have B:fH v=ah:=by cases q:fH v<;>simp_all
 refine⟨t,cl,rl,ca,s,c,U,tx,aZ (λh3=>?_) λh3=>?_⟩
 .have C:dD s c=aB:=by cases q:dD s c<;>simp_all
  exact d.refuse h (n:=-4) (by show(s,lJ s (.falls v c))=_;rw[Gx,B,C];rfl) (aF.refl _)
 have C:dD s c=ah:=by cases q:dD s c<;>simp_all
 obtain⟨c1,c2⟩:=ab.vn.mp C;obtain⟨n,rfl⟩:=i5 (show 0<=c by lia);have W:cP s (.falls v n)=(s,.told (xD (o9 s (v==1) n))):=by show(s,lJ s (.falls v n))=_;rw[Gx,B,C];rfl
 refine⟨t,_,U,tx.tx.row,rl,rs,_,v,n,U,row,ok,λld F H1 Ye Fy a nld m=>?_⟩;refine⟨t,_,U,(tx.same m).tx.row,rl,rs,_,U,row.same m,ok,λbd ks H2 pz hn hm pL s2=>⟨bd,Unit,_,ks.map λk=>(k,()),U,pz,by rw[bR];rw[show(ks.map ((λx:Nat×Unit=>x.1)∘λk=>(k,())))=ks from kx ks];exact hn,λp O np J b=>?_⟩⟩;have T:∀c,c∈O↔∃r∈rs,c∈r.aT.aI:=λc=>by rw[b,bR,show(ks.map ((λx:Nat×Unit=>x.1)∘λk=>(k,())))=ks from kx ks,hm]
 have pB:O.length<=bj s+1:=j8 (J.imp λh=>c8 h) λx M=>by obtain⟨r,Y,e⟩:=(T x).mp M;have:=(ok.aT Y).aI x e;lia
 have s3:=bg (o:=.aC (O.map NI)) np;have R:=m.trans (s2.trans s3);refine⟨p,U,⟨_,aL.of aJ⟩,λD hD=>fJ O (λx=>!(x==n)&&!decide (x∈F)) NI (ff (v:=NI)) (λH' w=>aL.of (w _ _ aJ)) hD (by lia) ?_ λH4 s4 hl=>?_⟩
 .rintro i z x H' Qx Qn hz w k1 k2 gz ⟨z',g,rfl⟩
  cases hz.symm.trans g;refine gz ?_;have XO:gI H' ld F:=.inl (w _ _ ((s2.trans s3) _ _ Ye));refine⟨U,U,aZ (λS=>?_) λS=>?_⟩
  .rw [show(!decide (NI z=V.int (n:Nat)))=_ from b_ not (eR z n)]at S;refine⟨ld,_,U,XO.dn.get z,aZ (λI=>?_) λI=>?_⟩
   .rw [lT]at I;exact(k1 (by rw[S,I];rfl) _ (aF.refl _))
   .rw [lT]at I;exact k2 (by rw[S,I];rfl) _ (aF.refl _)
  .rw [show(!decide (NI z=V.int (n:Nat)))=_ from b_ not (eR z n)]at S;exact k2 (by rw[S];rfl) _ (aF.refl _)
 .have G:O.filter (λx=>!(x==n)&&!decide (x∈F))=o9 s (v==1) n:=by
   refine ab.Wu z.wf (v==1) n (J.filter _) λx=>?_;rw[d4,T,sJ h.ao h.bN];have Bj:x∈F↔∃y∈s.doc.row,x∈ab.pJ (v==1) n (ab.jC y):=by
    rw[a,<-h.ao];constructor
    .rintro ⟨r,Y,M⟩
     obtain⟨cell,X⟩:=wN _ (h.bN r Y);exact⟨r.bz cell,ab.oa.mpr ⟨r,Y,cell,X,U⟩,M⟩
    .rintro ⟨y,hy,M⟩
     obtain⟨r,Y,cell,X,rfl⟩:=ab.oa.mp hy;exact⟨r,Y,M⟩
   rw[<-Bj];constructor
   .rintro ⟨j,P⟩
    rw[fk]at P;exact⟨‹P.1›,j,‹P.2›⟩
   .rintro ⟨j,P,q3⟩
    exact⟨P,by simp[j,q3]⟩
  rw[G]at hl;have lP:(o9 s (v==1) n).length<=600:=by rw[<-G];exact c7 (oJ _ _) (by lia)
  refine⟨D,_,U,dB.ls hl,by show 1<=aS;decide,λq nq=>?_⟩;have u:=bg (o:=.aC [.int (((o9 s (v==1) n).map NI).length:Int)]) nq;refine⟨q,D,_,_,U,U,aJ,u _ _ hl,by rw[aP];show 1+_<=_;lia,λl nl=>?_⟩;have sa:=(R.trans s4).trans (u.trans (bg (o:=.aC ([.int (((o9 s (v==1) n).map NI).length:Int)]++(o9 s (v==1) n).map NI)) nl));refine d.same h (by rw[W]) (xs:=xD (o9 s (v==1) n)) (by rw[W];rfl) sa (((R.trans s4).trans u).free nl) ?_;rw[aJ,aP];unfold xD gN;rw[bM,bR];rfl
def hH(a b:Int):decide (V.int a=V.int b)=decide (a=b):=by
 by_cases q:a=b
 .subst q;simp
 .have Z:¬V.int a=V.int b:=λz=>by injection z with z;exact q z
  rw[cE Z,cE q]
def ad5:Sc ["call"] 1 119:=by walk_at"s"
inductive ae9(vs:List V)(H:Hp)(Q:VK)(_:XK):Prop|mk(p:Int)(_:vs=[.int p])(_:∀H',aF H H'->Q (.bl (decide (p=3\/p=9\/p=16))) H')
def abq:Cz Z "has_list" ["call"] 1 ae9:=by
 refine Z.U9.ok ad5 λf T P outer s H S Q E R h=>?_;obtain⟨p,rfl,k⟩:=h;refine⟨_,(aO (bc (lW (r:=rh K aB) tK (pv 0) (fB (ai (cx U Z.Mf) (ai (cx U Z.Md) (ai (cx U Z.Mg) aq)))) U))),?_⟩;refine⟨by show 3<=aS;decide,λt V=>⟨t,_,U,.inr (aY.of aJ),U,U,?_⟩⟩;have:=k _ (bg (o:=.bh [.int 3,.int 9,.int 16]) V);have e:iW (.int p) [.int 3,.int 9,.int 16]=decide (p=3\/p=9\/p=16):=by
  show(((3:Int)==p)||(((9:Int)==p)||(((16:Int)==p)||false)))=_;by_cases W:p=3
  .subst W;rfl
  .by_cases X:p=9
   .subst X;rfl
   .by_cases Y:p=16
    .subst Y;rfl
    .rw [fX.mpr (cU W),fX.mpr (cU X),fX.mpr (cU Y),cE (by lia)];rfl
 rw[<-e]at this;exact this
def adW:Sc ["text","call","number"] 3 120:=by walk_at"s"
def CH(p x:Int)(c:bV):Prop:=(p=0/\c=.author x)\/(p=1/\c=.clock x)\/(p=2/\c=.track x)
inductive aeQ(K:aw)(A:br)(vs:List V)(H:Hp)(Q:VK)(_:XK):Prop|mk(t cl ca s rs c:_)(p x:Int)(_:vs=[.ref t,.int p,.int x])(_:cV K A H t cl ca s rs)(_:CH p x c)(_:e8 K A [] H t cl ca s c Q)
def abj:Cz Z "answer_setting" ["text","call","number"] 2 (aeQ K A):=by
 refine Z.UJ.ok adW λf S P outer s H R Q E W h=>?_;obtain⟨t,cl,T,s,rs,c,p,x,rfl,h,V,d⟩:=h;refine⟨_,(aH (bO (cK dI (pv 1) (cx U Z.WI) (cB _)) (aO (bc (qF (abM Z:) W (ai (pv 0) (ai (pv 2) aq))))) bX) (aH (bO (cK dI (pv 1) (cx U Z.WJ) (cB _)) (aO (bc (qF (abN Z:) W (ai (pv 0) (ai (pv 2) aq))))) bX) (aO (bc (qF (abO Z:) W (ai (pv 0) (ai (pv 2) aq))))))),?_⟩;refine⟨U,aZ (λY=>?_) λY=>⟨U,aZ (λX=>?_) λX=>?_⟩⟩
 .rw [hH]at Y;have Y:=cQ Y;rcases V with⟨e,rfl⟩|⟨e,rfl⟩|⟨e,rfl⟩
  .exact ⟨t,cl,T,s,rs,x,U,h,d⟩
  .lia
  .lia
 .rw [hH]at Y X;have Y:=fh Y;have X:=cQ X;rcases V with⟨e,rfl⟩|⟨e,rfl⟩|⟨e,rfl⟩
  .lia
  .exact ⟨t,cl,T,s,rs,x,U,h,d⟩
  .lia
 .rw [hH]at Y X;have Y:=fh Y;have X:=fh X;rcases V with⟨e,rfl⟩|⟨e,rfl⟩|⟨e,rfl⟩
  .lia
  .lia
  .exact ⟨t,cl,T,s,rs,x,U,h,d⟩
def adU:Sc ["text","call","numbers","signs"] 4 121:=by walk_at"s"
def AK(p:Int)(ns ls:List Int)(c:bV):Prop:=(p=3/\∃x,ns=[x]/\c=.put x ls)\/(p=4/\∃x y,ns=[x,y]/\c=.cut x y)\/(p=5/\∃x y k v,ns=[x,y,k,v]/\c=.paint x y k v)\/(p=6/\∃x y r,ns=[x,y,r]/\c=.move x y r)
inductive aeP(K:aw)(A:br)(vs:List V)(H:Hp)(Q:VK)(_:XK):Prop|mk(t cl ca s rs c nl ll:_)(p:Int)(ns ls:List Int)(_:vs=[.ref t,.int p,.ref nl,.ref ll])(_:cV K A H t cl ca s rs)(_:Sz s)(_:H nl=aa (.aC (ns.map V.int)))(_:H ll=aa (.aC (ls.map V.int)))(_:ls.length<=16000)(_:AK p ns ls c)(_:e8 K A [] H t cl ca s c Q)
def abh:Cz Z "answer_command" ["text","call","numbers","signs"] 8 (aeP K A):=by
 refine Z.UH.ok adU λf M J outer s H L Q E T h=>?_;obtain⟨t,cl,R,s,rs,c,nl,N,p,ns,ls,rfl,h,z,Y,O,P,S,d⟩:=h;refine⟨_,(aH (bO (cK dI (pv 1) (cx U Z.Mf) (cB _)) (aO (bc (qF (abI Z:) T (ai (pv 0) (ai (qL K (pv 2) aU) (ai (pv 3) aq)))))) bX) (aH (bO (cK dI (pv 1) (cx U Z.WK) (cB _)) (aO (bc (qF (abo Z:) T (ai (pv 0) (ai (qL K (pv 2) aU) (ai (qL K (pv 2) aU) aq)))))) bX) (aH (bO (cK dI (pv 1) (cx U Z.WX) (cB _)) (aO (bc (qF (abD Z:) T (ai (pv 0) (ai (qL K (pv 2) aU) (ai (qL K (pv 2) aU) (ai (qL K (pv 2) aU) (ai (qL K (pv 2) aU) aq)))))))) bX) (aO (bc (qF (abB Z:) T (ai (pv 0) (ai (qL K (pv 2) aU) (ai (qL K (pv 2) aU) (ai (qL K (pv 2) aU) aq)))))))))),?_⟩;refine⟨U,aZ (λV=>?_) λV=>⟨U,aZ (λW=>?_) λW=>⟨U,aZ (λX=>?_) λX=>?_⟩⟩⟩
 .rw [hH]at V;have V:=cQ V;rcases S with⟨e,x,rfl,rfl⟩|⟨e,_⟩|⟨e,_⟩|⟨e,_⟩
  .exact ⟨nl,_,0,_,U,U,aL.of Y,bt (j:=0) U,t,cl,R,s,rs,x,N,ls,U,h,z,O,P,d⟩
  .lia
  .lia
  .lia
 .rw [hH]at W;have W:=cQ W;rcases S with⟨e,_⟩|⟨e,x,y,rfl,rfl⟩|⟨e,_⟩|⟨e,_⟩
  .lia
  .exact ⟨nl,_,0,_,U,U,aL.of Y,bt (j:=0) U,nl,_,1,_,U,U,aL.of Y,bt (j:=1) U,t,cl,R,s,rs,x,y,U,h,z,d⟩
  .lia
  .lia
 .rw [hH]at X;have X:=cQ X;rcases S with⟨e,_⟩|⟨e,_⟩|⟨e,x,y,k,v,rfl,rfl⟩|⟨e,_⟩
  .lia
  .lia
  .exact ⟨nl,_,0,_,U,U,aL.of Y,bt (j:=0) U,nl,_,1,_,U,U,aL.of Y,bt (j:=1) U,nl,_,2,_,U,U,aL.of Y,bt (j:=2) U,nl,_,3,_,U,U,aL.of Y,bt (j:=3) U,t,cl,R,s,rs,x,y,k,v,U,h,z,d⟩
  .lia
 .rw [hH]at V W X;have V:=fh V;have W:=fh W;have X:=fh X;rcases S with⟨e,_⟩|⟨e,_⟩|⟨e,_⟩|⟨e,x,y,r,rfl,rfl⟩
  .lia
  .lia
  .lia
  .exact ⟨nl,_,0,_,U,U,aL.of Y,bt (j:=0) U,nl,_,1,_,U,U,aL.of Y,bt (j:=1) U,nl,_,2,_,U,U,aL.of Y,bt (j:=2) U,t,cl,R,s,rs,x,y,r,U,h,z,d⟩
def NF:Str:=("divide_at_row_place":Str)++".<locals>."++"<lambda>"
def ZT:Pos:=⟨111,39,111,55⟩
abbrev gA(Pt:ae)(H:Hp):Prop:=oZ Pt ZT NF H
def gA.ne{Pt:ae}(h:gA Pt H){o:HO}(e:H b=aa o)(Z:∀ps,o≠.h9 ps):b≠Pt:=λz=>by obtain⟨ps,Y,_⟩:=h;rw[z,Y]at e;exact Z ps (dX e).symm
def zS:HO->Prop
 |.h9 _=>True
 |.dK _=>True
 |.ext _=>True
 |_=>False
def bF.kX{K:aw}{l:ae}(r:bF K C H l rs)(s:bZ S H H')(Z:∀b∈S,∀o,H b=aa o->zS o):bF K C H' l rs:=by
 obtain⟨xs,Y⟩:=l0 r;exact r.x s (λq=>Z _ q _ Y) λb X o e f=>by have:=Z b X o e;cases o<;>first|exact this|exact f
theorem cV.kX{K:aw}{A:br}{H T:Hp}{t cl:ae}{V:List ae}{s:bf}{rs:List ab.ak}{S:List ae}(x:cV K A H t cl V s rs)(Y:bZ S H T)(Z:∀b∈S,∀o,H b=aa o->zS o):cV K A T t cl V s rs:=by obtain⟨rl,⟨⟨dx,e⟩,X,R⟩,row⟩:=x.ex;refine⟨⟨rl,⟨⟨dx,Y _ _ e λq=>Z _ q _ e⟩,X.x Y (λq=>Z _ q _ X.aC) λa Q q=>?_,R⟩,row.kX Y Z⟩,x.ao,x.bN⟩;obtain⟨c,O,P⟩:=X.mem Q;exact Z _ q _ P
def gA.Gf{Pt:ae}(h:gA Pt H):∀b∈[Pt],∀o,H b=aa o->zS o:=λb Z o e=>by rw[bx]at Z;subst Z;obtain⟨ps,Y,_⟩:=h;rw[Y]at e;cases e;trivial
def gA.row{Pt l:ae}{K:aw}(h:gA Pt H)(r:bF K C H l rs)(s:bZ [Pt] H H'):bF K C H' l rs:=r.kX s h.Gf
def gA.free{Pt:ae}(h:gA Pt H)(h':gA Pt H')(s:bZ [Pt] H H'){l:ae}(n:H' l=aj):H l=aj:=by
 cases q:H l with
 |none=>rfl
 |some o=>
  by_cases e:l=Pt
  .obtain ⟨ps,Z,_⟩:=h';rw[e,Z]at n;cases n
  .rw [s _ _ q ‹e›]at n;cases n
def Jb{K:aw}{A:br}{t:ae}(x:cV K A H t cl ca s rs):∀b∈t::cl::ca,∀o,H b=aa o->(∀ps,o≠.h9 ps)/\∀Y,o≠.ext Y:=λb Z o e=>by
 obtain⟨rl,tx,row⟩:=x.ex;rcases bJ.mp Z with q|Z
 .obtain ⟨dx,X⟩:=tx.tx;rw[q,X]at e;cases e;exact⟨by intros;simp,by intros;simp⟩
 .rcases bJ.mp Z with q|Z
  .rw [q,tx.aI.aC]at e;cases e;exact⟨by intros;simp,by intros;simp⟩
  .obtain ⟨S,T,V⟩:=tx.aI.mem Z;rw[V]at e;cases e;exact⟨by intros;simp,by intros;simp⟩
def wJ(K:aw)(A:br)(Pt:ae)(H:Hp)(t cl:ae)(ca:List ae)(s:bf)(c:bV)(Q:VK):Prop:=
 ∀l Z Y H',cV K A H' t cl Z (cP s c).1 Y->H' l=aa (.aC ((gO (cP s c).2).map V.int))->H l=aj->bZ (Pt::t::cl::ca) H H'->gA Pt H'->(∀a∈Z,a∈ca\/H a=aj)->Q (.ref l) H'
def wJ.nS{K:aw}{A:br}{Pt:ae}{t:ae}(d:wJ K A Pt H t cl ca s c Q)(h:cV K A H t cl ca s rs)(V:gA Pt H):e8 K A [] H t cl ca s c Q:=λl Y Z N P R S X T=>by obtain⟨rl,tx,row⟩:=h.ex;exact d l Y Z N P R S (X.mono λb O=>cj _ O) (V.x X (Jb h)) T
def aac(g:ab.ak->Bool)(rs:List ab.ak)(p:Nat):(ab.d8 g rs p).1.length+(ab.d8 g rs p).2.length<=rs.length+1:=by
 induction rs generalizing p with
 |nil=>simp[ab.d8]
 |cons r rs Z=>
  unfold ab.d8;split
  .split
   .simp
   .split
    .simp;lia
    .have:=Z (p-r.cells.length);simp only[bY];lia
  .have:=Z p;simp only[bY];lia
section
variable{c:ae}
noncomputable def zv.ok{x:Str}{st:c5}{ps:List Str}{k:Nat}(D:zv K mg x st ps c)(S:kq N ps (cF st))(Y:∀(f:ae) (A:b8) (outer:List Env) (s:aD) (H:Hp) (Z:List V) (Q:VK) (E:XK),eN k (A.deeper (mx x (cF st) s.heap.objs.size f (.ref c)))->sp Z H Q E->∃t,i7 (ph lh P w K mg base N x (cF st) f (.ref c) A outer s H E).qU (jw st) t/\t {nx:=λ_ H'=>Q .bW H',rt:=Q} (start N Z) H)(bG:∀Z H Q E,sp Z H Q E->Z.length=ps.length:=by walk_at"l"):ry P w K mg base x ps (k+1) sp:=by obtain⟨f,I,J,od,kV,doc,pm,G,ct,T,rfl,R,W,hk,M,L⟩:=D.ex;refine⟨f,_,L_ R W S bG λA outer s H Z Q E O X=>?_,M,hk,L⟩;obtain⟨t,h,q⟩:=Y f A outer s H Z Q E O X;exact⟨t,h.qU,q⟩
def ad3:Sc ["row","place"] 2 33:=by walk_at"s"
inductive QA(K:aw)(C Pt:ae)(vs:List V)(H:Hp)(Q:VK)(_:XK):Prop|mk(l rs:_)(j:Nat)(_:vs=[.ref l,.int j])(_:bF K C H l rs)(_:rs.length<2^24)(_:gA Pt H)(_:∀t l1 l2 H',H' t=aa (.bh [.ref l1,.ref l2])->bF K C H' l1 (ab.d8 (λ_=>ah) rs j).1->bF K C H' l2 (ab.d8 (λ_=>ah) rs j).2->H l1=aj->H l2=aj->bZ [Pt] H H'->gA Pt H'->Q (.ref t) H')
def Oy:Cz Z "divide_at_row_place" ["row","place"] 5 (QA K A.cr Pt):=by refine Z.U0.ok ad3 λf i outer s H p Q E D h=>?_;obtain⟨l,rs,j,rfl,C,hz,X,k⟩:=h;refine⟨_,(aO (bc (qF (Oz Z:) D (ai (pv 0) (ai (pv 1) (ai (acw (Pt:=Pt) (qual:=NF) Z.hB Z.hC U rfl) aq)))))),?_⟩;refine⟨X,λg m o V Y W=>?_⟩;have O:=X.row C W;obtain⟨sp,fv,T⟩:=ZU (P:=P) (w:=w) (K:=K) (mg:=mg) (base:=base) (N:=["run"]) (x:="run") ⟨U,U,U,‹_›,U,‹_›,‹_›⟩ V (λpm z n u=>rfl);refine⟨l,rs,g,λ_=>ah,j,U,O,hz,⟨sp,fv,λa r q y _ R F=>T a q y R F⟩,λt G I v B L M n1 J S=>?_⟩;exact k t G I v B L M (X.free Y W n1) (X.free Y W J) (W.to S) (Y.same S)
def Ij:Sc ["row","i","j","front","back"] 3 35:=by walk_at"s"
inductive ae4(K:aw)(C Pt:ae)(vs:List V)(H:Hp)(Q:VK)(_:XK):Prop|mk(l rs:_)(i j:Nat)(_:vs=[.ref l,.int i,.int j])(_:i<=j)(_:bF K C H l rs)(_:ab.bP rs)(_:rs.length+1<2^24)(_:gA Pt H)(_:∀t l1 l2 l3 r1 r2 r3 H',H' t=aa (.bh [.ref l1,.ref l2,.ref l3])->bF K C H' l1 r1->bF K C H' l2 r2->bF K C H' l3 r3->ab.bP r1->ab.bP r2->ab.bP r3->ab.ao r1=(ab.ao rs).take i->ab.ao r2=((ab.ao rs).take j).drop i->ab.ao r3=(ab.ao rs).drop j->H t=aj->bZ [Pt] H H'->gA Pt H'->Q (.ref t) H')
def OA:Cz Z "divide_part" ["row","i","j"] 6 (ae4 K A.cr Pt):=by
 refine Z.U2.ok Ij λf b Ar outer s H vs Q E D h=>?_;obtain⟨l,rs,i,j,rfl,v,r,u,hz,M,k⟩:=h;refine⟨_,(aH (qS 3 Ij.nd (qF (Oy Z:) D (ai (pv 0) (ai (pv 1) aq)))) (aH (qS 4 Ij.nd (qF (Oy Z:) D (ai (qT K (pv 3) aU) (ai (b6 iK (pv 2) (pv 1)) aq)))) (aO (bc (fB (ai (qT K (pv 3) aU) (ai (qT K (pv 4) aU) (ai (qT K (pv 4) aU) aq)))))))),?_⟩;refine⟨l,rs,i,U,r,by lia,M,λt P R H1 N w x n1 n2 J Y=>?_⟩;have c:(j:Int)-(i:Int)=((j-i:Nat):Int):=by lia
 refine⟨t,_,1,_,U,U,aY.of N,bt (j:=1) U,?_⟩;show QA K A.cr Pt [V.ref R,V.int ((j:Int)-(i:Int))] H1 _ _;rw[c];have:=aac (λ_=>ah) rs i;refine⟨R,_,j-i,U,x,by lia,Y,λL F G a T y z n3 n4 S X=>?_⟩;have O:a t=aa (.bh [.ref P,.ref R]):=S _ _ N ‹Y.ne N (by intros;simp)›;refine⟨t,_,0,_,U,U,aY.of O,bt (j:=0) U,L,_,0,_,U,U,aY.of T,bt (j:=0) U,L,_,1,_,U,U,aY.of T,bt (j:=1) U,by show 3<=aS;decide,λB I=>?_⟩;have W:=bg (o:=.bh [.ref P,.ref F,.ref G]) I;obtain⟨d,C,e,g⟩:=ab.GF rs i u;obtain⟨m,n,p,q⟩:=ab.GF _ (j-i) g;refine k B P F G _ _ _ _ aJ ((Y.row w S).same W) (y.same W) (z.same W) e p q d ?_ ?_ (M.free Y J (Y.free X S I)) ((J.trans S).to W) (X.same W)
 .rw [m,C,List.drop_take]
 .rw [n,C,List.drop_drop];congr 1;lia
end
def O5{i j:Int}(h:mJ s i j=ah):∃a b:Nat,i=a/\j=b/\a<b/\b<=s.doc.row.length:=by unfold mJ gC at h;rw[fk,fk]at h;obtain⟨X,Y,Z⟩:=h;have X:=cQ X;have Y:=cQ Y;have Z:=cQ Z;exact⟨i.toNat,j.toNat,by omega,by omega,by omega,by omega⟩
def Sz.part{r:List ab.ak}(z:Sz s)(f:ab.bP r)(h:∀x∈ab.ao r,x∈s.doc.row)(Y:(ab.ao r).length<=s.doc.row.length):cM (bj s) r:=⟨f,λx Z=>z.wf.all x (h x Z),mv Y z.pW,jO z.dh⟩
def Lu{r:List ab.ak}{i:Nat}(z:Sz s)(f:ab.bP r)(e:ab.ao r=(s.doc.row.take j).drop i)(c:Nat):c∈qr s i j↔∃x∈r,c∈x.aT.aI:=by
 unfold qr;rw[d4,ab.pK,<-e,jM];constructor
 .rintro ⟨_,x,Y,T⟩
  obtain⟨q,X,cell,Z,rfl⟩:=ab.oa.mp Y;exact⟨q,X,ab.Lk.mp T⟩
 .rintro ⟨q,X,V⟩
  obtain⟨cell,Z⟩:=wN _ (f q X);have Y:q.bz cell∈ab.ao r:=ab.oa.mpr ⟨q,X,cell,Z,U⟩;have W:q.bz cell∈s.doc.row:=by rw[e]at Y;exact nz (rK Y)
  exact⟨(z.wf.all _ W).aT.aI c V,_,Y,ab.Lk.mpr V⟩
def xP{A:br}{t:ae}(tx:Tx A H t cl rl ca s){c:Nat}(h:1<=c/\c<=bj s):∃Y ch,j1 (ca.map V.ref) ((c:Int)-1)=aa (.ref Y)/\s.doc.changes[c-1]?=aa ch/\gX A.cc H Y ⟨ch.author,ch.time,ch.kind,ab.iu s.tallies c⟩:=by
 have X:c-1<s.doc.changes.length:=by unfold bj at h;lia
 obtain⟨ch,Z⟩:∃ch,s.doc.changes[c-1]?=aa ch:=⟨_,dC X⟩;have W:(ab.eB s)[c-1]?=aa ⟨ch.author,ch.time,ch.kind,ab.iu s.tallies c⟩:=by rw[ab.uQ tx.hZ,Z,J6 h.1];rfl
 obtain⟨Y,R,S,T⟩:=tx.aI.get W;exact⟨Y,ch,TR (by lia) T,Z,S⟩
def N6{c:Nat}{ch:iD}(h:1<=c)(e:s.doc.changes[c-1]?=aa ch):fW s c=(ch.kind==4):=by unfold fW ju;rw[ay (by lia),e];rfl
def P':Sc ["text","v","i","j","parts"] 4 82:=by walk_at"s"
inductive afR(K:aw)(A:br)(Pt:ae)(vs:List V)(H:Hp)(Q:VK)(_:XK):Prop|mk(t cl ca s rs:_)(v i j:Int)(_:vs=[.ref t,.int v,.int i,.int j])(_:cV K A H t cl ca s rs)(_:Sz s)(_:gA Pt H)(_:wJ K A Pt H t cl ca s (.judgetouching v i j) Q)
def aby:Cz Z "judgetouching" ["text","v","i","j"] 8 (afR K A Pt):=by
 refine Z.Vl.ok P' λf eA Ar outer s H vs Q E N h=>?_;obtain⟨t,cl,R,s,rs,v,i,j,rfl,h,z,B,d⟩:=h;refine⟨_,(aH (bO (eH (d_ (qF (vE Z:) N (ai (pv 1) aq)))) (aO (bc (b9 (ai (cx U Z.lN) aq)))) bX) (aH (bO (eH (d_ (qF (OC Z:) N (ai (pv 0) (ai (pv 2) (ai (pv 3) aq)))))) (aO (bc (b9 (ai (cx U Z.uX) aq)))) bX) (aH (qS 4 P'.nd (qF (OA Z:) N (ai (aX Z.cA Z.eI (pv 0)) (ai (pv 2) (ai (pv 3) aq))))) (aO (bc (qF (B2 Z:) N (ai (pv 0) (ai (pv 1) (ai (qF (vC Z:) N (ai (qT K (pv 4) aU) aq)) aq))))))))),?_⟩;refine⟨v,U,aZ (λh1=>?_) λh1=>?_⟩
 .have D:fH v=aB:=by cases q:fH v<;>simp_all
  exact(d.nS h B).refuse h (n:=-2) (by show nP s v i j=_;unfold nP;rw[D];rfl) (aF.refl _)
 have D:fH v=ah:=by cases q:fH v<;>simp_all
 refine⟨t,cl,R,s,rs,i,j,U,h,z,λH1 T=>(aZ (λh3=>?_) λh3=>?_)⟩
 .have F:mJ s i j=aB:=by cases q:mJ s i j<;>simp_all
  exact(d.nS h B).refuse h (n:=-1) (by show nP s v i j=_;unfold nP;rw[D,F];rfl) T
 have F:mJ s i j=ah:=by cases q:mJ s i j<;>simp_all
 obtain⟨a,b,rfl,rfl,m,hb⟩:=O5 F;have L:cV K A H1 t cl R s rs:=h.kX (S:=[]) (T.x _) (by simp);have Y:gA Pt H1:=B.same T;obtain⟨rl,tx,row⟩:=L.ex;have ok:=z.ok h.ao h.bN;have j3:=ok.bG;refine⟨t,_,U,tx.tx.row,rl,rs,a,b,U,jO m,row,h.bN,by lia,Y,λp l1 l2 l3 r1 r2 r3 H2 hp q1 q2 q3 f1 f2 f3 e1 C e3 np G W=>?_⟩;rw[h.ao]at e1 C e3;have r:cV K A H2 t cl R s rs:=L.kX G Y.Gf;have w:=z.part f2 (λx k=>by rw[C]at k;exact nz (rK k)) (by rw[C,jN,iz];lia);refine⟨p,_,1,_,U,U,aY.of hp,bt (j:=1) U,l2,r2,_,U,q2,w,λsd ks H3 O g hm u I=>?_⟩;have M:cV K A H3 t cl R s rs:=r.kX (S:=[]) (I.x _) (by simp);have X:∀c,c∈qr s a b↔c∈ks:=λc=>(Lu z f2 C c).trans (hm c).symm;refine⟨t,cl,R,s,rs,sd,ks,qr s a b,v,U,M,z,.inl O,g,?_,yC s _,X,λl y H' g1 g2 g3 g4=>?_⟩
 .have:=j8 (n:=bj s+1) g λc V=>by
   have:=(X c).mpr V;unfold qr at this;have:=ab.pK.mp (d4.mp this).1;lia
  have:=z.dh;lia
 .have J:cP s (.judgetouching v a b)=uK s v (qr s a b):=by
   show nP s v a b=_;unfold nP;rw[D,F];rfl
  have P:H sd=aj:=T.free (Y.free W G u);refine d l R y H' (by rw[J];exact g1) (by rw[J];exact g2) (T.free (Y.free W G (I.free g3))) (λc o e V=>g4 _ _ (I _ _ (G _ _ (T _ _ e) λq=>V (by rw[bx.mp q];simp))) λq=>?_) ((W.same I).x g4 λc V o e=>?_) λa ha=>.inl ha
  .rcases bJ.mp q with q|q
   .rw [q,P]at e;cases e
   .rcases bJ.mp q with q|q
    .exact V (by rw[q];simp)
    .exact V (by simp[q])
  .rcases bJ.mp V with q|q
   .rw [q,O]at e;cases e;exact⟨by intros;simp,by intros;simp⟩
   .exact Jb M c (by
     rcases bJ.mp q with q|q
     .rw [q];simp
     .simp [q]) o e
def v5:Sc ["text","v","i","j","parts","selected","moves","c"] 4 83:=by walk_at"s"
inductive ae_(K:aw)(A:br)(Pt:ae)(vs:List V)(H:Hp)(Q:VK)(_:XK):Prop|mk(t cl ca s rs:_)(v i j:Int)(_:vs=[.ref t,.int v,.int i,.int j])(_:cV K A H t cl ca s rs)(_:Sz s)(_:gA Pt H)(_:wJ K A Pt H t cl ca s (.judgepart v i j) Q)
def abx:Cz Z "judgepart" ["text","v","i","j"] 7 (ae_ K A Pt):=by
 refine Z.Vk.ok v5 λf eA Ar outer s H vs Q E P h=>?_;obtain⟨t,cl,ca,s,rs,v,i,j,rfl,h,z,tb,d⟩:=h;refine⟨_,(aH (bO (eH (d_ (qF (vE Z:) P (ai (pv 1) aq)))) (aO (bc (b9 (ai (cx U Z.lN) aq)))) bX) (aH (bO (eH (d_ (qF (OC Z:) P (ai (pv 0) (ai (pv 2) (ai (pv 3) aq)))))) (aO (bc (b9 (ai (cx U Z.uX) aq)))) bX) (aH (qS 4 v5.nd (qF (OA Z:) P (ai (aX Z.cA Z.eI (pv 0)) (ai (pv 2) (ai (pv 3) aq))))) (aH (qS 5 v5.nd (qF (vC Z:) P (ai (qT K (pv 4) aU) aq))) (aH (qS 6 v5.nd (qF (yH Z:) P (ai (hU U v5.nd (B_ (pv 5)) (fw (N:=["text","v","i","j","parts","selected","moves","c"]) (sc:=cF (bo 83)) (own:=[("c",7)]) ‹_›) (λ_ _ _ _ _=>(qG 7 v5.nd)) (λ_ _ _ _ _=>(k0 (cK dI (aX Z.fI Z.AE (qL K (aX Z.cA Z.kg (pv 0)) (b6 iK (pv 7) aU))) (cx U Z.Me) (cB _)))) (λ_ _ _ _ _=>(pv 7))) aq))) (aO (bc (qF (OD Z:) P (ai (pv 0) (ai (pv 1) (ai (pv 5) (ai (b9 (ai (fB (ai (qT K (pv 4) aU) (ai (pv 6) aq))) (ai (fB (ai (qT K (pv 4) aU) (ai (pv 5) aq))) (ai (fB (ai (qT K (pv 4) aU) (ai (pv 6) aq))) aq)))) aq)))))))))))),?_⟩;refine⟨v,U,aZ (λh1=>?_) λh1=>?_⟩
 .have h2:fH v=aB:=by cases q:fH v<;>simp_all
  exact(d.nS h tb).refuse h (n:=-2) (by show nO s v i j=_;unfold nO;rw[h2];rfl) (aF.refl _)
 have h2:fH v=ah:=by cases q:fH v<;>simp_all
 refine⟨t,cl,ca,s,rs,i,j,U,h,z,λH1 s1=>(aZ (λh3=>?_) λh3=>?_)⟩
 .have h4:mJ s i j=aB:=by cases q:mJ s i j<;>simp_all
  exact(d.nS h tb).refuse h (n:=-1) (by show nO s v i j=_;unfold nO;rw[h2,h4];rfl) s1
 have h4:mJ s i j=ah:=by cases q:mJ s i j<;>simp_all
 obtain⟨a,b,rfl,rfl,A8,hb⟩:=O5 h4;have MC:cV K A H1 t cl ca s rs:=h.kX (S:=[]) (s1.x _) (by simp);have y:gA Pt H1:=tb.same s1;obtain⟨rl,tx,row⟩:=MC.ex;have ok:=z.ok h.ao h.bN;have j3:=ok.bG;have gT:=eF;have nX:=z.dh;refine⟨t,_,U,tx.tx.row,rl,rs,a,b,U,jO A8,row,h.bN,by lia,y,λp l1 l2 l3 r1 r2 r3 H2 hp q1 q2 q3 f1 f2 f3 e1 e2 e3 np s2 I_=>?_⟩;rw[h.ao]at e1 e2 e3;have XZ:cV K A H2 t cl ca s rs:=MC.kX s2 y.Gf;have B0:=z.part f1 (λx J=>by rw[e1]at J;exact nz J) (by rw[e1,iz];lia);have Hf:=z.part f2 (λx J=>by rw[e2]at J;exact nz (rK J)) (by rw[e2,jN,iz];lia);have Ov:=z.part f3 (λx J=>by rw[e3]at J;exact rK J) (by rw[e3,jN];lia);refine⟨p,_,1,_,U,U,aY.of hp,bt (j:=1) U,l2,r2,_,U,q2,Hf,λsd ks H3 mV hn hm tI s3=>?_⟩;have u_:∀c,c∈qr s a b↔c∈ks:=λc=>(Lu z f2 e2 c).trans (hm c).symm;have sZ:∀c∈ks,1<=c/\c<=bj s:=λc m=>by have:=(u_ c).mpr m;unfold qr at this;exact ab.pK.mp (d4.mp this).1
 have s_:ks.length<600:=by
  have:=j8 (n:=bj s+1) hn λc m=>by have:=sZ c m;lia
  lia
 refine⟨sd,_,U,.inl mV,λo e=>(by rw[mV]at e;cases e),λ_ o=>λD hD=>?_⟩;obtain⟨H4,Fl⟩:∃H4,H4=aM H3 sd (.cJ o (.dK (dZ ks))):=⟨_,U⟩;rw[<-Fl]at hD⊢;have s4:bZ [sd] H3 H4:=by rw[Fl];exact ir
 have aa_:∀b∈[sd],∀o,H3 b=aa o->zS o:=λb hb o e=>by rw[bx.mp hb,mV]at e;cases e;trivial
 have F:H4 sd=aa (.cJ o (.dK (dZ ks))):=by rw[Fl,aJ]
 have X0:cV K A H3 t cl ca s rs:=XZ.kX (S:=[]) (s3.x _) (by simp);have ME:cV K A H4 t cl ca s rs:=X0.kX s4 aa_;obtain⟨rl4,zk,ah8⟩:=ME.ex;have W:Wk (p7 sd o (dZ ks)) (λH=>H sd=aa (.cJ o (.dK (dZ ks)))) ks.length (λi x _=>∃p,(ks.map λk=>(k,()))[i]?=aa p/\x=.int (p.1:Nat)):=by have:=zt (g:=λ_:Unit=>V.bl ah) (d:=sd) (o:=o) (ps:=ks.map λk=>(k,()));rwa[aP]at this
 refine fJ ks (λc=>fW s c) NI W (λH' sm=>sm _ _ F) hD (by lia) ?_ λH5 s5 hl=>?_
 .rintro n c x H' Qx Qn hz sm k1 k2 gz ⟨p',yj,J⟩
  refine gz ?_;rw[cf,hz]at yj;cases yj;subst J;have u6:=sZ c (ck hz);obtain⟨ad,ch,g1,g2,g3⟩:=xP (zk.same sm) u6;refine⟨U,t,_,U,(zk.same sm).tx.changes,cl,_,_,_,U,U,aL.of (zk.same sm).aI.aC,g1,ad,_,U,g3.kind,U,aZ (λsU=>(k1 ?_ _ (aF.refl _))) λsU=>k2 ?_ _ (aF.refl _)⟩
  .rw [N6 u6.1 g2,<-eR ch.kind 4];exact sU
  .rw [N6 u6.1 g2,<-eR ch.kind 4];exact sU
 .refine ⟨D,_,U,hl,mv (oJ _ _) (by lia),λmd mk H6 Bk Bl FD Oh s6=>?_⟩;have w:=s5.trans s6;have kp:∀b o,H2 b=aa o->H6 b=aa o:=λb o e=>w _ _ (s4 _ _ (s3 _ _ e) λq=>by
   rw[bx.mp q,tI]at e;cases e)
  have FJ:H6 p=aa (.bh [.ref l1,.ref l2,.ref l3]):=kp _ _ hp;have ZH:aF H2 H6:=kp;refine⟨p,_,0,_,U,U,aY.of FJ,bt (j:=0) U,by show 2<=aS;decide,λu1 n1=>?_⟩;have s7:=bg (o:=.bh [.ref l1,.ref md]) n1;refine⟨p,_,1,_,U,U,aY.of (s7 _ _ FJ),bt (j:=1) U,by show 2<=aS;decide,λu2 n2=>?_⟩;have s8:=bg (o:=.bh [.ref l2,.ref sd]) n2;refine⟨p,_,2,_,U,U,aY.of (s8 _ _ (s7 _ _ FJ)),bt (j:=2) U,by show 2<=aS;decide,λu3 n3=>⟨by show 3<=aS;decide,λsh nsh=>?_⟩⟩;have s9:=bg (o:=.bh [.ref l3,.ref md]) n3;have u:=bg (o:=.aC [.ref u1,.ref u2,.ref u3]) nsh;have R:=s7.trans (s8.trans (s9.trans u));have X:=ZH.trans R;have ah9:=yC s λc=>((s.doc.row.take b).drop a).any (eo c);obtain⟨Y,G⟩:∃Y,Y=qr s a b:=⟨_,U⟩;obtain⟨L,FE⟩:∃L,L=ab.outer s ah Y:=⟨_,U⟩;have O:Y.Pairwise (·<·):=by rw[G];exact yC s _
  have PM:L.Pairwise (·<·):=by rw[FE];exact O.filter _
  have M:∀c,c∈Y↔c∈ks:=by rw[G];exact u_
  have NX:∀c,c∈L↔c∈mk:=λc=>by rw[FE,ab.outer,d4,M,FD,d4];simp
  obtain⟨T,I⟩:∃T:List (ae×Sh),T=[(u1,⟨l1,md,r1,mk,L⟩),(u2,⟨l2,sd,r2,ks,Y⟩),(u3,⟨l3,md,r3,mk,L⟩)]:=⟨_,U⟩;obtain⟨c1,c2⟩:=ab.IF z.wf (v==1) ah (jO A8) Y;rw[<-FE]at c1 c2;have er:e6 (v==1) (T.map (·.2))=ab.iZ (v==1) L r1++(ab.iZ (v==1) Y r2++ab.iZ (v==1) L r3):=by rw[I];show[_,_,_].flatMap _=_;rw[dW,dW,dW,mm,ee]
  have C:ab.bP (e6 (v==1) (T.map (·.2))):=by
   rw[er];intro r P;rcases cZ.mp P with P|P
   .exact ab.Cr (v==1) L f1 r P
   .rcases cZ.mp P with P|P
    .exact ab.Cr (v==1) Y f2 r P
    .exact ab.Cr (v==1) L f3 r P
  have B:ab.ao (e6 (v==1) (T.map (·.2)))=(jv s (v==1) ah a b Y).doc.row:=by rw[er,ab.ik,ab.ik,ab.yZ (v==1) L r1 B0.wf,ab.yZ (v==1) Y r2 Hf.wf,ab.yZ (v==1) L r3 Ov.wf,e1,e2,e3,c1]
  have hg:ab.dN (ab.eB s) (jH (v==1) (T.map (·.2)))=ab.eB (jv s (v==1) ah a b Y):=by rw[c2];congr 1;funext dd;rw[I];show(ab.c_ (v==1) L (ab.ao r1) dd).add ((ab.c_ (v==1) Y (ab.ao r2) dd).add ((ab.c_ (v==1) L (ab.ao r3) dd).add ab.T3.zero))=_;rw[ab.T3.add_zero,e1,e2,e3]
  have MF:cV K A _ t cl ca s rs:=ME.kX (S:=[]) ((w.trans R).x _) (by simp);obtain⟨rl6,tx6,adE⟩:=MF.ex;have ML:gI _ sd ks:=.inr ⟨o,(w.trans R) _ _ F⟩;have MX:gI _ md mk:=.inl (R _ _ Bk);have pE:[V.ref u1,V.ref u2,V.ref u3]=T.map rf:=by rw[I];rfl
  have aa7:H sd=aj:=s1.free (y.free I_ s2 tI);refine⟨t,cl,rl6,ca,s,rs,sd,ks,sh,v,T,U,tx6,adE,ok,ML,hn,by lia,by rw[aJ,pE],λx J=>?_,La z (jO A8) C B,λl nl H' g1 g2 g3 g4 g5 g6=>?_⟩
  .rw [I]at J;simp only[bJ,oM,or_false]at J;rcases J with rfl|rfl|rfl
   .exact ⟨(s8.trans (s9.trans u)) _ _ aJ,q1.same X,B0,MX,PM,NX⟩
   .exact ⟨(s9.trans u) _ _ aJ,q2.same X,Hf,ML,O,M⟩
   .exact ⟨u _ _ aJ,q3.same X,Ov,MX,PM,NX⟩
  .have j2:cP s (.judgepart v a b)=xE s v ah a b Y:=by
    show nO s v a b=_;unfold nO;rw[h2,h4,G];rfl
   have tbG:=I_.same X;have G6:H l=aj:=s1.free (y.free I_ s2 (X.free g5));refine L6 (jO A8) z h.ao h.bN hn O M C B hg g1 g2 g3 g4 λHX w1 w2=>?_;refine d l ca HX H' (by rw[j2];exact w1) (by rw[j2];exact w2) G6 (λc o e m=>g6 _ _ (X _ _ (s2 _ _ (s1 _ _ e) λq=>m (by rw[bx.mp q];simp))) λq=>?_) (tbG.x g6 λc m o e=>?_) λa ha=>.inl ha
   .rcases bJ.mp q with q|q
    .rw [q,aa7]at e;cases e
    .rcases bJ.mp q with q|q
     .exact m (by rw[q];simp)
     .exact m (by simp[q])
   .rcases bJ.mp m with q|q
    .rw [q,(w.trans R) _ _ F]at e;cases e;exact⟨by intros;simp,by intros;simp⟩
    .exact Jb MF c (by
      rcases bJ.mp q with q|q
      .rw [q];simp
      .simp [q]) o e
theorem Ry:∀(cells:List (Nat×List Nat)) (zs:List (ae×List Nat)),zs.map (·.2)=cells.map (·.2)->∃Z:List ((Nat×List Nat)×ae),Z.map (·.1)=cells/\(Z.map λw=>V.ref w.2)=zs.map rf/\∀w∈Z,(w.2,w.1.2)∈zs
 |[],[],_=>⟨[],U,U,by simp⟩
 |[],_::_,h=>by simp at h
 |_::_,[],h=>by simp at h
 |c::cells,z::zs,h=>by
  rw[bM,bM]at h;injection h with X Y;obtain⟨Z,S,T,W⟩:=Ry cells zs Y;refine⟨(c,z.1)::Z,by rw[bM,S],by rw[bM,bM,T];rfl,λw hw=>?_⟩;rcases bJ.mp hw with rfl|hw
  .rw [<-X];exact cy
  .exact cj _ (W w hw)
def Lx{K:aw}{s l:ae}{cells:List (Nat×List Nat)}(R:dF K H s (cells.map (·.1)))(S:kG K H l (cells.map (·.2))):∃Z:List ((Nat×List Nat)×ae),Z.map (·.1)=cells/\aY K H s (Z.map λw=>NI w.1.1)/\aY K H l (Z.map λw=>V.ref w.2)/\∀w∈Z,dF K H w.2 w.1.2:=by
 obtain⟨zs,O,T,X⟩:=S;obtain⟨Z,Y,P,Q⟩:=Ry cells zs O;refine⟨Z,Y,?_,by rw[P];exact T,λw hw=>X _ (Q w hw)⟩;have:(Z.map λw=>NI w.1.1)=(cells.map (·.1)).map NI:=by rw[<-Y,bR,bR];rfl
 rw[this];exact R
def A1{Z Y:Type}(f:Z->List Y)(l:List Z)(i:Nat):((l.take i).flatMap f).length<=(l.flatMap f).length:=by
 conv=>rhs;rw[<-rL i l,gw,bb]
 lia
def sR{Z Y:Type}(f:Z->List Y){l:List Z}{i:Nat}{x:Z}(h:l[i]?=aa x):(l.take (i+1)).flatMap f=(l.take i).flatMap f++f x:=by rw[dU h,gw,dW,mm,ee]
def cM.jj{n:Nat}(h:cM n rs)(Z:r∈rs):cM n [r]:=by
 refine⟨λq Y=>by rw[bx.mp Y];exact h.bN r Z,λx W=>?_,?_,h.dh⟩
 .obtain ⟨q,Y,c,X,rfl⟩:=ab.oa.mp W;rw[bx.mp Y]at X⊢;exact h.bz Z c X
 .have:=h.cells Z;show(r.ao++[]).length<_;rw[ee];unfold ab.ak.ao;rw[aP];exact this
def mN(m:List Nat)(c:Nat×List Nat):List Nat:=c.1::(c.2++m)
noncomputable def pR(r:ab.ak):List Nat:=r.cells.flatMap (mN (kT r))
theorem P1:∀rs:List ab.ak,(ab.ao rs).flatMap To=rs.flatMap pR
 |[]=>rfl
 |r::rs=>by rw[ab.d5,gw,dW,P1 rs];congr 1;unfold ab.ak.ao pR;rw[JS];rfl
def v8:Sc ["text","told","run","marks","sign","look"] 1 93:=by walk_at"s"
inductive afO(K:aw)(A:br)(vs:List V)(H:Hp)(Q:VK)(_:XK):Prop|mk(t cl ca s rs:_)(_:vs=[.ref t])(_:cV K A H t cl ca s rs)(_:Sz s)(_:(gO (cP s .row).2).length<=10000000)(_:e8 K A [] H t cl ca s .row Q)
def abV:Cz Z "tell_row" ["text"] 2 (afO K A):=by
 refine Z.VT.ok v8 λf eA Ar outer s H vs Q E hr h=>?_;obtain⟨t,cl,ca,s,rs,rfl,h,z,a,d⟩:=h;obtain⟨rl,tx,row⟩:=h.ex;have ok:=z.ok h.ao h.bN;have j3:=ok.bG;have gT:=eF;have j2:gO (cP s .row).2=(((ab.ao rs).length::rs.flatMap pR).map λn:Nat=>(n:Int)):=by show((s.doc.row.length:Int)::gN (s.doc.row.flatMap To))=_;rw[<-h.ao,P1];rfl
 rw[j2,aP,bY]at a;refine⟨_,(aH (qS 1 v8.nd (b9 (ai (qF (qX Z:) hr (ai (aX Z.cA Z.eI (pv 0)) aq)) aq))) (aH (eU eK U (qI K (aX Z.cA Z.eI (pv 0))) (qG 2 v8.nd) (aH (qS 3 v8.nd (qF (abT Z:) hr (ai (pv 2) aq))) (aO (eU eK U (Pe U Z.N8 (ai (aX Z.bS Z.gr (pv 2)) (ai (aX Z.bS Z.m7 (pv 2)) aq))) (vN U (lX (qG 4 v8.nd) (lX (qG 5 v8.nd) vO))) (aH (eT (fA fQ jQ kz j6 (pv 1) (ai (pv 4) aq))) (aH (eT (fA fQ lz nB m3 (pv 1) (ai (pv 5) aq))) (aO (eT (fA fQ lz nB m3 (pv 1) (ai (pv 3) aq)))))))))) (aO (bc (pv 1))))),?_⟩;refine⟨t,_,U,tx.tx.row,rl,rs,U,row,by lia,λH1 s1=>⟨by show 1<=aS;decide,λl nl=>?_⟩⟩;have s2:=s1.trans (bg (o:=.aC [NI (ab.ao rs).length]) nl);have u:=s1.free nl;obtain⟨zs,e0,h1,h2⟩:=id row;have el:zs.length=rs.length:=by rw[<-e0,aP]
 refine⟨t,_,U,(tx.same s2).tx.row,rl,U,⟨_,aL.of (s2 _ _ h1)⟩,eP (ff (zs:=zs) (v:=rf)) (λi Y J=>(∃x2 x3 R S,Y=[aa (.ref t),aa (.ref l),x2,x3,R,S])/\aF H J/\J l=aa (.aC (((ab.ao rs).length::(rs.take i).flatMap pR).map NI))) ⟨⟨aj,aj,aj,aj,U⟩,s2,by rw[aJ];rfl⟩ (λi Y J j0=>aL.of (j0.2.1 _ _ h1)) ?_ ?_⟩
 .rintro i x Y H2 H3 hi s3 N B kn kb L ⟨⟨x2,x3,R,S,rfl⟩,sH,hl⟩ ⟨z',m,rfl⟩
  refine L ?_;have p:=ck m;obtain⟨za,r⟩:=z';have M:rs[i]?=aa r:=by rw[<-e0,cf,m];rfl
  have je:r∈rs:=ck M;have okr:cM (bj s) [r]:=ok.jj je;have D:=sH.trans s3;refine⟨za,r,_,U,(h2 _ p).up (D.le _),okr,λml H4 pB y s4=>?_⟩;have G:=D.trans s4;obtain⟨sa,la,ia,da,pa,ho,hv⟩:=(h2 _ p).up (G.le _);obtain⟨ws,e1,w1,w2,w3⟩:=Lx hv.sg hv.gF;have T:=s4 _ _ (s3 _ _ hl);have c:l≠ml:=λq=>by rw[<-q,s3 _ _ hl]at y;cases y
  refine⟨za,_,U,ho.signs,za,_,U,ho.gF,sa,la,_,_,U,w1,w2,eP (Rw (zs:=ws) (f:=λw=>NI w.1.1) (g:=λw=>V.ref w.2)) (λj Y J=>(∃R S,Y=[aa (.ref t),aa (.ref l),aa (.ref za),aa (.ref ml),R,S])/\(∀b o,H4 b=aa o->b≠l->J b=aa o)/\J l=aa (.aC (((ab.ao rs).length::((rs.take i).flatMap pR++(r.cells.take j).flatMap (mN (kT r)))).map NI))) ⟨⟨R,S,U⟩,λ_ _ e _=>e,by rw[T,mq,mm,ee]⟩ ?_ ?_ ?_⟩
  .rintro j Y J ⟨_,e,_⟩
   exact⟨dS (jz (C:=0) T e) w1,dS (jz (C:=0) T e) w2⟩
  .rintro j x Y H5 H6 hj s6 N B kn kb L ⟨⟨R,S,rfl⟩,I,W⟩ ⟨T1,O,rfl,hw,hT⟩
   refine L ?_;have nV:r.cells[j]?=aa O.1:=by rw[<-e1,cf,hw];rfl
   have F3:=ck hw;have X:=s6 _ _ W;obtain⟨acc,P⟩:∃acc,acc=(ab.ao rs).length::((rs.take i).flatMap pR++(r.cells.take j).flatMap (mN (kT r))):=⟨_,U⟩;rw[<-P]at X;have xU:(ab.ao rs).length::((rs.take i).flatMap pR++(r.cells.take (j+1)).flatMap (mN (kT r)))=acc++mN (kT r) O.1:=by rw[sR _ nV,P,oF,fm]
   have hb:(acc++mN (kT r) O.1).length<=10000000:=by rw[<-xU,bY,bb];have a1:=A1 (mN (kT r)) r.cells (j+1);have a2:=A1 pR rs (i+1);rw[sR _ M,bb]at a2;have a3:(pR r).length=(r.cells.flatMap (mN (kT r))).length:=rfl;lia
   rw[bb]at hb;have nW:(mN (kT r) O.1).length=1+(O.1.2.length+(kT r).length):=by unfold mN;rw[bY,bb];lia
   have k:H6 ml=aa (.aC ((kT r).map NI)):=s6 _ _ (I _ _ pB (cU c));have mY:Le 0 H4 H6:=(jz (C:=0) T I).trans (s6.le 0);have Jk:∀xs:List V,Le 0 H6 (aM H6 l (.aC xs)):=λxs b o e f=>by rw[a_ (λq=>by rw[q,X]at e;cases e;exact f)];exact e
   refine⟨T1,_,U,aY.of hT,U,_,_,U,_,_,U,U,?_⟩;refine⟨.inl ⟨U,_,aL.of X⟩,l,_,_,U,U,X,by rw[aP];lia,?_⟩;refine⟨.inl ⟨U,_,aL.of aJ⟩,l,O.2,_,_,U,U,aJ,.inr (((w3 O F3).up mY).up (Jk _)),by rw[bb,aP,aP];show _+1+_<=_;lia,?_⟩;rw[fO];refine⟨.inl ⟨U,_,aL.of aJ⟩,l,ml,_,_,U,U,aJ,.inl (by rw[a_ (cU c)];exact k),by rw[bb,bb,aP,aP,aP];show _+1+_+_<=_;lia,?_⟩;rw[fO];refine kn _ _ ⟨⟨_,_,U⟩,λb o e hb=>by rw[a_ hb];exact s6 _ _ (I _ _ e hb),?_⟩;rw[aJ,xU];unfold mN;simp only[cG,bM,fm,oF,DH]
  .rintro Y H5 L ⟨⟨R,S,rfl⟩,I,W⟩
   refine L ?_;have ew:ws.length=r.cells.length:=by rw[<-e1,aP]
   rw[ew,eJ]at W;refine kn _ _ ⟨⟨_,_,_,_,U⟩,λb o e=>I _ _ (G _ _ e) (λq=>by rw[q,u]at e;cases e),?_⟩;rw[W,sR _ M];rfl
 .rintro Y H2 L ⟨⟨x2,x3,R,S,rfl⟩,sH,hl⟩
  refine L ?_;rw[el,eJ]at hl;exact(d.same h U j2 sH u (by rw[hl,bR];rfl))
def acG{K:aw}{ps:List cW}(h:rR K H a ps):∃ys:List (ae×cW),ys.map (·.2)=ps/\aY K H a (ys.map rf)/\∀y∈ys,dF K H y.1 (eX y.2):=by
 obtain⟨zs,O,S,T⟩:=h;have key:∀(ps:List cW) (zs:List (ae×List Nat)),zs.map (·.2)=ps.map eX->∃ys:List (ae×cW),ys.map (·.2)=ps/\ys.map rf=zs.map rf/\∀y∈ys,(y.1,eX y.2)∈zs:=by
  intro ps
  induction ps with
  |nil=>intro zs h;cases zs with
   |nil=>exact⟨[],U,U,by simp⟩
   |cons _ _=>simp at h
  |cons p ps R=>
   intro zs h;cases zs with
   |nil=>simp at h
   |cons z zs=>
    rw[bM,bM]at h;injection h with P Q;obtain⟨ys,V,X,Y⟩:=R zs Q;refine⟨(z.1,p)::ys,by rw[bM,V],by rw[bM,bM,X];rfl,λy Z=>?_⟩;rcases bJ.mp Z with rfl|Z
    .rw [<-P];exact cy
    .exact cj _ (Y y Z)
 obtain⟨ys,V,X,Y⟩:=key ps zs O;exact⟨ys,V,by rw[X];exact S,λy Z=>T _ (Y y Z)⟩
noncomputable def pV(ks:List Nat)(r:ab.ak):List cW:=r.pend.filter λy=>decide (y.change∈ks)
def qB{l:List Nat}{c:Nat}:mC l c=decide (c∈l):=by
 rw[sT];by_cases q:c∈l
 .rw [dg q];simpa using q
 .rw [cE q];simpa using q
def ahh{ls:List Nat}(Z:∀c,c∈ks↔c∈ls)(r:ab.ak)(c:Nat×List Nat):ab.d7 (ab.bU (gd (pV ks r))) c.2=o6.map (Ap ls (r.bz c)):=by
 have e:∀k,(ab.bU (gd (pV ks r)) k).getD (c.2.getD k 0)=Ap ls (r.bz c) k:=λk=>by
  rw[Jn];unfold Ap pV;rw[RS];have Y:(λa:cW=>(a.prop==k)&&decide (a.change∈ks))=λy=>y.prop==k&&mC ls y.change:=by funext y;rw[qB,decide_eq_decide.mpr (Z y.change)]
  rw[Y];show _=match(r.pend.filter λy=>y.prop==k&&mC ls y.change).getLast? with|some y=>y.value|none=>c.2.getD k 0
  cases(r.pend.filter λy=>y.prop==k&&mC ls y.change).getLast?<;>rfl
 show[_,_,_,_]=[_,_,_,_];rw[<-e 0,<-e 1,<-e 2,<-e 3]
noncomputable def p0(ks:List Nat)(r:ab.ak):List Nat:=r.cells.flatMap λc=>c.1::ab.d7 (ab.bU (gd (pV ks r))) c.2
def jm(ks:List Nat)(r:ab.ak):Bool:=sG ks (r.bz (0,[]))
theorem Rt{ks ls:List Nat}(Z:∀c,c∈ks↔c∈ls):∀rs:List ab.ak,(uL ls (ab.ao rs)).length=(ab.ao (rs.filter (jm ks))).length/\((uL ls (ab.ao rs)).flatMap λx=>x.1::x.2)=(rs.filter (jm ks)).flatMap (p0 ks)
 |[]=>⟨U,U⟩
 |r::rs=>by
  obtain⟨X,Y⟩:=Rt Z rs;have es:∀c,sG ls (r.bz c)=jm ks r:=λc=>by
   unfold jm;rw[IS,IS];congr 1
   .congr 2;funext d;exact decide_eq_decide.mpr (Z d).symm
   .congr 1;funext d;exact decide_eq_decide.mpr (Z d).symm
  have V:(ab.ak.ao r).filter (sG ls)=if jm ks r=ah then ab.ak.ao r else[]:=by
   unfold ab.ak.ao;rw[nk];have:(sG ls∘r.bz)=λ_=>jm ks r:=by funext c;exact es c
   rw[this];cases jm ks r
   .simp
   .rw [lK,aA U]
  have W:uL ls (ab.ao (r::rs))=(((ab.ak.ao r).filter (sG ls)).map λx=>(x.sign,o6.map (Ap ls x)))++uL ls (ab.ao rs):=by unfold uL;rw[ab.d5,ku,cG]
  rw[W,V,gv];by_cases q:jm ks r=ah
  .rw [aA q,aA q,bb,X,ab.d5,bb,aP,gw,Y,dW];refine⟨U,?_⟩;congr 1;unfold ab.ak.ao p0;rw[bR,JS];congr 1;funext c;show c.1::o6.map (Ap ls (r.bz c))=_;rw[ahh Z]
  .rw [ay q,ay q];exact⟨X,Y⟩
def NS(s:bf)(l:List Int):lJ s (.what l)=(if l.all (dD s)=aB then .refused (-4)else .told (((uL (l.map λ(c:Int)=>c.toNat) s.doc.row).length:Int)::gN ((uL (l.map λ(c:Int)=>c.toNat) s.doc.row).flatMap λx=>x.1::x.2))):=rfl
def k9:Sc ["text","changes","c","listed","runs","run","told","values","entry","sign","look"] 2 91:=by walk_at"s"
inductive afQ(K:aw)(A:br)(vs:List V)(H:Hp)(Q:VK)(_:XK):Prop|mk(t cl ca s rs ll:_)(zs:List Int)(_:vs=[.ref t,.ref ll])(_:cV K A H t cl ca s rs)(_:Sz s)(_:H ll=aa (.aC (zs.map V.int)))(_:zs.length<=16000)(_:(gO (cP s (.what zs)).2).length<=10000000)(_:e8 K A [] H t cl ca s (.what zs) Q)
def abZ:Cz Z "tell_what" ["text","changes"] 3 (afQ K A):=by
 refine Z.VY.ok k9 λf eA Ar outer s H vs Q E hr h=>?_;obtain⟨t,cl,ca,s,rs,ll,zs,rfl,h,z,mT,yo,MS,d⟩:=h;obtain⟨rl,tx,row⟩:=h.ex;have ok:=z.ok h.ao h.bN;have j3:=ok.bG;have gT:=eF;refine⟨_,(aH (bO (eH (d_ (lV (r:=yV K) (AM U) U Z.BP DU (ai (hU U k9.nd (qI K (pv 1)) (fw (N:=["text","changes","c","listed","runs","run","told","values","entry","sign","look"]) (sc:=cF (bo 91)) (own:=[("c",2)]) ‹_›) (λ_ _ _ _ _=>(qG 2 k9.nd)) (λ_ _ _ _ _=>jE) (λ_ _ _ _ _=>(qF (vD Z:) hr (ai (pv 0) (ai (pv 2) aq))))) aq)))) (aO (bc (b9 (ai (cx U Z.uY) aq)))) bX) (aH (qS 3 k9.nd (qF (yH Z:) hr (ai (pv 1) aq))) (aH (rg U k9.nd (i:=4) U rfl (rm U rfl rfl rfl) (qI K (aX Z.cA Z.eI (pv 0))) (fw (N:=["text","changes","c","listed","runs","run","told","values","entry","sign","look"]) (sc:=cF (bo 91)) (own:=[("run",5)]) ‹_›) (λ_ _ _ _ _=>(qG 5 k9.nd)) (λ_ _ _ _ _=>(k0 (d_ (qF (abQ Z:) hr (ai (pv 5) (ai (pv 3) aq)))))) (λ_ _ _ _ _=>(pv 5))) (aH (qS 6 k9.nd (b9 (ai (qF (qX Z:) hr (ai (pv 4) aq)) aq))) (aH (eU eK U (qI K (pv 4)) (qG 5 k9.nd) (aH (qS 7 k9.nd (qF (Hm Z:) hr (ai (hU U k9.nd (qJ K (aX Z.bS Z.jG (pv 5))) (fw (N:=["text","changes","c","listed","runs","run","told","values","entry","sign","look"]) (sc:=cF (bo 91)) (own:=[("entry",8)]) ‹_›) (λ_ _ _ _ _=>(qG 8 k9.nd)) (λ_ _ _ _ _=>(k0 (yP (yK (il hr) (qT K (pv 8) aU) (pv 3))))) (λ_ _ _ _ _=>(pv 8))) aq))) (aO (eU eK U (Pe U Z.N8 (ai (aX Z.bS Z.gr (pv 5)) (ai (qF (Hk Z:) hr (ai (aX Z.bS Z.m7 (pv 5)) (ai (pv 7) aq))) aq))) (vN U (lX (qG 9 k9.nd) (lX (qG 10 k9.nd) vO))) (aH (eT (fA fQ jQ kz j6 (pv 6) (ai (pv 9) aq))) (aO (eT (fA fQ lz nB m3 (pv 6) (ai (pv 10) aq))))))))) (aO (bc (pv 6)))))))),?_⟩;refine⟨ll,U,⟨_,aL.of mT⟩,λD hD=>fJ zs (λ_=>ah) (λz=>.bl (dD s z)) (ff (v:=V.int)) (λW P=>aL.of (P _ _ mT)) hD (by lia) ?_ λH1 s1 hl=>?_⟩
 .rintro n z x W Qx Qn hz P k1 _ O ⟨z',p,rfl⟩
  cases hz.symm.trans p;refine O ?_;exact⟨U,t,cl,rl,ca,s,z,U,tx.same P,k1 U W (aF.refl _)⟩
 rw[lK]at hl;refine⟨D,zs.map (dD s),U,aL.of (by rw[hl,bR];rfl),?_⟩;have EZ:(zs.map (dD s)).all id=zs.all (dD s):=by rw[wL];rfl
 rw[EZ];refine aZ (λh3=>?_) λh3=>?_
 .have h4:zs.all (dD s)=aB:=by cases q:zs.all (dD s)<;>simp_all
  exact d.refuse h (n:=-4) (by show(s,lJ s (.what zs))=_;rw[NS,h4];rfl) s1
 have h4:zs.all (dD s)=ah:=by cases q:zs.all (dD s)<;>simp_all
 obtain⟨ev,hz⟩:=N_ h4;refine⟨ll,zs.map oD,U,by rw[s1 _ _ mT,ev],by rw[aP];lia,λsd ks H2 mV hn hm tI s2=>?_⟩;have j2:gO (cP s (.what zs)).2=(((ab.ao (rs.filter (jm ks))).length::(rs.filter (jm ks)).flatMap (p0 ks)).map λn:Nat=>(n:Int)):=by show gO (lJ s (.what zs))=_;obtain⟨g1,g2⟩:=Rt hm rs;rw[NS,h4,<-h.ao,ay kl];show(_::gN _)=_;rw[show(zs.map λ(c:Int)=>c.toNat)=zs.map oD from U,g1,g2];rfl
 rw[j2,aP,bY]at MS;have L:=s1.trans s2;have YN:gI H2 sd ks:=.inl mV;obtain⟨G,e0,h1,h2⟩:=id row;have el:G.length=rs.length:=by rw[<-e0,aP]
 refine⟨t,_,U,(tx.same L).tx.row,rl,U,⟨_,aL.of (L _ _ h1)⟩,λD2 xX=>fJ G (λz=>jm ks z.2) rf (ff (v:=rf)) (λW P=>aL.of (P _ _ (L _ _ h1))) xX (by lia) ?_ λH3 s3 a=>?_⟩
 .rintro n z' x W Qx Qn p P k1 k2 O ⟨z'',Y',rfl⟩
  cases p.symm.trans Y';refine O ?_;have gS:=ck p;have J:z'.2∈rs:=by rw[<-e0];exact bA.mpr ⟨z',gS,U⟩
  refine⟨U,z'.1,z'.2,sd,ks,_,U,(h2 _ gS).up ((L.trans P).le _),ok.jj J,YN.same P,λH4 s4=>(aZ (λR=>(k1 R H4 s4)) λR=>k2 R H4 s4)⟩
 obtain⟨us,F2⟩:∃us,us=G.filter λz=>jm ks z.2:=⟨_,U⟩;have M:=L.trans s3;have AW:us.map (·.2)=rs.filter (jm ks):=by rw[F2,<-e0,nk];rfl
 have Nh:∀u∈us,u∈G:=λu hu=>by rw[F2]at hu;exact(d4.mp hu).1
 rw[<-F2]at a;have PZ:bF K A.cr H3 D2 (rs.filter (jm ks)):=⟨us,AW,a,λu hu=>(h2 u (Nh u hu)).up (M.le _)⟩;have lP:(rs.filter (jm ks)).length<=rs.length:=oJ _ _;obtain⟨X,Na⟩:∃X,X=rs.filter (jm ks):=⟨_,U⟩;rw[<-Na]at AW PZ j2 MS lP;refine⟨D2,X,U,PZ,by lia,λH4 s4=>⟨by show 1<=aS;decide,λl nl=>?_⟩⟩;have s5:=s4.trans (bg (o:=.aC [NI (ab.ao X).length]) nl);have om:=M.trans s5;have G6:H l=aj:=M.free (s4.free nl);have Wh:us.length=X.length:=by rw[<-AW,aP]
 have YM:H3 sd=aa (.dK (dZ ks)):=s3 _ _ mV;refine⟨D2,U,⟨_,aL.of (s5 _ _ a)⟩,eP (ff (zs:=us) (v:=rf)) (λi I W=>(∃x2 x5 x7 x8 x9 Y,I=[aa (.ref t),aa (.ref ll),x2,aa (.ref sd),aa (.ref D2),x5,aa (.ref l),x7,x8,x9,Y])/\aF H3 W/\W l=aa (.aC (((ab.ao X).length::(X.take i).flatMap (p0 ks)).map NI))) ⟨⟨_,_,_,_,_,_,U⟩,s5,by rw[aJ];rfl⟩ (λi I W j0=>aL.of (j0.2.1 _ _ a)) ?_ ?_⟩
 .rintro i x I H5 H6 hi s6 N B kn kb O ⟨⟨x2,x5,x7,x8,x9,Y,rfl⟩,sH,k⟩ ⟨z',fZ,rfl⟩
  obtain⟨za,r⟩:=z';refine O ?_;have Y0:=ck fZ;have FP:X[i]?=aa r:=by rw[<-AW,cf,fZ];rfl
  have J:r∈rs:=by have:=ck FP;rw[Na]at this;exact(d4.mp this).1
  have vh:=ok.pend J;have nW:=ok.cells J;have Ia:=sH.trans s6;obtain⟨sa,la,ia,da,pa,ho,hv⟩:=(h2 _ (Nh _ Y0)).up ((M.trans Ia).le _);obtain⟨ys,y1,y2,y3⟩:=acG hv.pend;have ely:ys.length=r.pend.length:=by rw[<-y1,aP]
  refine⟨za,_,U,ho.pend,pa,U,⟨_,y2⟩,λD3 Xf=>fJ ys (λy=>decide (y.2.change∈ks)) rf (ki (v:=rf)) (λW P=>dS (P.le 0) y2) Xf (by lia) ?_ λH7 s7 Fw=>?_⟩
  .rintro n y x W Qx Qn hy P k1 k2 O ⟨y',F6,rfl⟩
   cases hy.symm.trans F6;refine O ?_;have Y_:=ck hy;have Yd:gI W sd ks:=.inl (P _ _ (Ia _ _ YM));refine⟨U,y.1,_,0,_,U,U,dS (P.le 0) (y3 y Y_),bt (j:=0) U,sd,_,U,Yd.dn.get y.2.change,aZ (λR=>(k1 ?_ _ (aF.refl _))) λR=>k2 ?_ _ (aF.refl _)⟩
   .rw [lT]at R;exact R
   .rw [lT]at R;exact R
  have XT:t7 K H7 D3 (pV ks r):=by
   refine⟨(ys.filter λy=>decide (y.2.change∈ks)).map λy=>(y.1,eX y.2),?_,.inl (aL.of ?_),λz hz=>?_⟩
   .unfold pV;rw[<-y1,nk,bR,bR];rfl
   .rw [Fw,bR];rfl
   .obtain ⟨y,hy,rfl⟩:=bA.mp hz;exact(y3 y (d4.mp hy).1).up (s7.le 0)
  have YQ:(pV ks r).length<=r.pend.length:=oJ _ _;refine⟨D3,pV ks r,U,XT,by lia,λvd H8 Y5 nvd s8=>?_⟩;have H_:=s7.trans s8;have yh:=ho.up (H_.le _);have Ni:=hv.up (H_.le A.cr);refine⟨za,_,U,yh.signs,za,_,U,yh.gF,la,vd,_,_,U,Ni.gF,λx hx=>?_,by rw[aP];exact wY nW (by lia),Y5,λtt H9 FZ s9=>?_⟩
  .obtain ⟨c,hc,rfl⟩:=bA.mp hx;exact ok.look J c hc
  obtain⟨F,hF⟩:∃F,F=ab.bU (gd (pV ks r)):=⟨_,U⟩;rw[<-hF]at FZ;have Y3:=Ni.up (s9.le A.cr);obtain⟨ws,e1,w1,w2,w3⟩:=Lx (cells:=r.cells.map λc=>(c.1,ab.d7 F c.2)) (s:=sa) (l:=tt) (by rw[bR];exact Y3.sg) (by rw[bR]at FZ⊢;exact FZ)
  have P8:=H_.trans s9;have m:=P8 _ _ (s6 _ _ k);have sH9:=Ia.trans P8;refine⟨sa,tt,_,_,U,w1,w2,eP (Rw (zs:=ws) (f:=λw=>NI w.1.1) (g:=λw=>V.ref w.2)) (λj I W=>(∃x8 x9 Y,I=[aa (.ref t),aa (.ref ll),x2,aa (.ref sd),aa (.ref D2),aa (.ref za),aa (.ref l),aa (.ref vd),x8,x9,Y])/\(∀b o,H9 b=aa o->b≠l->W b=aa o)/\W l=aa (.aC (((ab.ao X).length::((X.take i).flatMap (p0 ks)++(r.cells.take j).flatMap λc=>c.1::ab.d7 F c.2)).map NI))) ⟨⟨_,_,_,U⟩,λ_ _ e _=>e,by rw[m,mq,mm,ee]⟩ ?_ ?_ ?_⟩
  .rintro j I W ⟨_,e,_⟩
   exact⟨dS (jz (C:=0) m e) w1,dS (jz (C:=0) m e) w2⟩
  .rintro j x I rC zw hj hW N B kn kb O ⟨⟨x8,x9,Y,rfl⟩,sX,S⟩ ⟨T1,wz,rfl,hw,hT⟩
   obtain⟨c,nV,XM⟩:∃c,r.cells[j]?=aa c/\(c.1,ab.d7 F c.2)=wz.1:=iJ (by rw[<-e1,cf,hw];rfl);refine O ?_;have F3:=ck hw;have T:=hW _ _ S;obtain⟨acc,xZ⟩:∃acc,acc=(ab.ao X).length::((X.take i).flatMap (p0 ks)++(r.cells.take j).flatMap λc=>c.1::ab.d7 F c.2):=⟨_,U⟩;rw[<-xZ]at T;have xU:(ab.ao X).length::((X.take i).flatMap (p0 ks)++(r.cells.take (j+1)).flatMap λc=>c.1::ab.d7 F c.2)=acc++(c.1::ab.d7 F c.2):=by rw[sR _ nV,xZ,oF,fm]
   have R:(acc++(c.1::ab.d7 F c.2)).length<=10000000:=by
    rw[<-xU,bY,bb];have a1:=A1 (λc:Nat×List Nat=>c.1::ab.d7 F c.2) r.cells (j+1);have a2:=A1 (p0 ks) X (i+1);rw[sR _ FP,bb]at a2;have a3:(p0 ks r).length=(r.cells.flatMap λc:Nat×List Nat=>c.1::ab.d7 F c.2).length:=by rw[hF];rfl
    lia
   rw[bb,bY]at R;have ZX:Le 0 H9 zw:=(jz (C:=0) m sX).trans (hW.le 0);have Jk:∀xs:List V,Le 0 zw (aM zw l (.aC xs)):=λxs b o e f=>by rw[a_ (λq=>by rw[q,T]at e;cases e;exact f)];exact e
   have Bj:=(w3 wz F3).up ZX;rw[<-XM]at hT Bj;refine⟨T1,_,U,aY.of hT,U,_,_,U,_,_,U,U,?_⟩;refine⟨.inl ⟨U,_,aL.of T⟩,l,_,_,U,U,T,by rw[aP];lia,?_⟩;refine⟨.inl ⟨U,_,aL.of aJ⟩,l,wz.2,_,_,U,U,aJ,.inr (Bj.up (Jk _)),by rw[bb,aP,aP];show acc.length+1+(ab.d7 F c.2).length<=_;lia,?_⟩;rw[fO];refine kn _ _ ⟨⟨_,_,_,U⟩,λb o e R=>by rw[a_ R];exact hW _ _ (sX _ _ e R),?_⟩;rw[aJ,xU];simp only[cG,bM,fm,oF,DH]
  .rintro I rC O ⟨⟨x8,x9,Y,rfl⟩,sX,S⟩
   refine O ?_;have ew:ws.length=r.cells.length:=by have:=b_ fo e1;rw[aP,aP]at this;exact this
   rw[ew,eJ]at S;refine kn _ _ ⟨⟨_,_,_,_,_,_,U⟩,λb o e=>sX _ _ (sH9 _ _ e) (λq=>by rw[q,s4.free nl]at e;cases e),?_⟩;rw[S,sR _ FP,hF];rfl
 .rintro I H5 O ⟨⟨x2,x5,x7,x8,x9,Y,rfl⟩,sH,k⟩
  refine O ?_;rw[Wh,eJ]at k;exact(d.same h U j2 (M.trans sH) G6 (by rw[k,bR];rfl))
noncomputable def pF(p:ab.P4):List (Str×V):=[("standing",NI p.st),("inserting",NI p.i),("deleting",NI p.d),("painting",NI p.p)]
def PO(C:ae)(H:Hp)(a:ae)(p:ab.P4):Prop:=∃dx,H a=aa (.ins C dx (pF p))
section
variable{C:ae}{H:Hp}{a:ae}{p:ab.P4}
theorem PO.st(h:PO C H a p):fL C H a "standing" (NI p.st):=let⟨dx,e⟩:=h;⟨dx,_,e,fS⟩
theorem PO.i(h:PO C H a p):fL C H a "inserting" (NI p.i):=let⟨dx,e⟩:=h;⟨dx,_,e,dz ‹_› fS⟩
theorem PO.d(h:PO C H a p):fL C H a "deleting" (NI p.d):=let⟨dx,e⟩:=h;⟨dx,_,e,dz ‹_› (dz ‹_› fS)⟩
def PO.pt(h:PO C H a p):fL C H a "painting" (NI p.p):=let⟨dx,e⟩:=h;⟨dx,_,e,dz ‹_› (dz ‹_› (dz ‹_› fS))⟩
end
def Pu{p:ab.P4}{n:Nat}:dJ "standing" (NI n) (pF p)=pF {p with st:=n}:=by unfold pF;rw[jD]
def ac'{p:ab.P4}{n:Nat}:dJ "inserting" (NI n) (pF p)=pF {p with i:=n}:=by unfold pF;rw[dQ ‹_›,jD]
def ac_{p:ab.P4}{n:Nat}:dJ "deleting" (NI n) (pF p)=pF {p with d:=n}:=by unfold pF;rw[dQ ‹_›,dQ ‹_›,jD]
def ada{p:ab.P4}{n:Nat}:dJ "painting" (NI n) (pF p)=pF {p with p:=n}:=by unfold pF;rw[dQ ‹_›,dQ ‹_›,dQ ‹_›,jD]
structure fP (C:ae) (H0 H:Hp) (d:ae) (ps:List (Nat×ae)) (f:Nat->ab.P4):Prop where
 dict:H d=aa (.dK (dv V.ref ps))
 f6:(ps.map (·.1)).Nodup
 uN:(ps.map (·.2)).Nodup
 jk:∀q∈ps,PO C H q.2 (f q.1)
 new:∀q∈ps,H0 q.2=aj
 yy:H0 d=aj
section
variable{C d:ae}{H0 H H':Hp}{ps:List (Nat×ae)}{f:Nat->ab.P4}
def fP.same(h:fP C H0 H d ps f)(s:aF H H'):fP C H0 H' d ps f:=⟨s _ _ h.dict,h.f6,h.uN,λq Z=>let⟨dx,e⟩:=h.jk q Z;⟨dx,s _ _ e⟩,h.new,h.yy⟩
def Jl{ps:List (Nat×ae)}(Y:(ps.map (·.1)).Nodup){a:Nat}(h:a∈ps.map (·.1)):∃p,(a,p)∈ps/\ab.bU ps a=aa p:=by obtain⟨q,Z,rfl⟩:=bA.mp h;exact⟨q.2,Z,ab.zo Y Z⟩
theorem fP.get(h:fP C H0 H d ps f){a:Nat}(Y:a∈ps.map (·.1)):∃p,(a,p)∈ps/\jo H d (NI a) (aa (.ref p))/\PO C H p (f a):=by obtain⟨p,Z,e⟩:=Jl h.f6 Y;have:=DN.get (g:=V.ref) (.inl h.dict:DN V.ref H d ps) a;rw[e]at this;exact⟨p,Z,this,h.jk _ Z⟩
def fP.set(h:fP C H0 H d ps f){a:Nat}(X:(a,p)∈ps)(q:ab.P4):fP C H0 (aM H p (.ins C dx (pF q))) d ps λb=>if b=a then q else f b:=by
 have hd:d≠p:=λe=>by obtain⟨Z,V⟩:=h.jk _ X;have:=h.dict;rw[e,V]at this;cases this
 refine⟨by rw[a_ hd];exact h.dict,h.f6,h.uN,λr Y=>?_,h.new,h.yy⟩;by_cases e:r.1=a
 .have V:r=(a,p):=by
   have T:=ab.zo h.f6 Y;have P:=ab.zo h.f6 X;rw[e,P]at T;exact qe e (dX T).symm
  rw[V]
  try dsimp only
  rw[aA U];exact⟨dx,aJ⟩
 .rw [ay e];obtain⟨Z,O⟩:=h.jk r Y;have ne:r.2≠p:=λz=>by
   obtain⟨i,Q,S⟩:=JV Y;obtain⟨j,R,W⟩:=JV X;have:i=j:=(List.getElem_inj (xs:=ps.map (·.2)) (h₀:=by rw[aP];exact Q) (h₁:=by rw[aP];exact R) h.uN).mp (by rw[List.getElem_map,List.getElem_map,S,W];exact z);subst this;rw[S]at W;exact e (by rw[W])
  exact⟨Z,by rw[a_ ne];exact O⟩
def fP.congr{g:Nat->ab.P4}(h:fP C H0 H d ps f)(e:∀a∈ps.map (·.1),f a=g a):fP C H0 H d ps g:=⟨h.dict,h.f6,h.uN,λq Z=>by rw[<-e q.1 (bA.mpr ⟨q,Z,U⟩)];exact h.jk q Z,h.new,h.yy⟩
def fP.add(h:fP C H0 H d ps f){a:Nat}(P:¬a∈ps.map (·.1))(S:H p=aa (.ins C dx (pF (f a))))(Q:H0 p=aj)(R:¬p∈ps.map (·.2)):fP C H0 (aM H d (.dK (dv V.ref (ps++[(a,p)])))) d (ps++[(a,p)]) f:=by
 have ne:∀q,(∃Y fs,H q=aa (.ins C Y fs))->q≠d:=λq ⟨Y,fs,e⟩ z=>by rw[z,h.dict]at e;cases e
 refine⟨aJ,?_,?_,λq Z=>?_,λq Z=>?_,h.yy⟩
 .rw [cG];exact wW.mpr ⟨h.f6,by simp,λx T y W z=>P (by rw[uc,bx]at W;subst z;have X:x=_:=W;rw[X]at T;exact T)⟩
 .rw [cG];exact wW.mpr ⟨h.uN,by simp,λx T y W z=>R (by rw[uc,bx]at W;subst z;have X:x=_:=W;rw[X]at T;exact T)⟩
 .rcases cZ.mp Z with Z|Z
  .obtain ⟨Y,e⟩:=h.jk q Z;exact⟨Y,by rw[a_ (ne _ ⟨_,_,e⟩)];exact e⟩
  .rw [bx]at Z;subst Z;exact⟨dx,by rw[a_ (ne _ ⟨_,_,S⟩)];exact S⟩
 .rcases cZ.mp Z with Z|Z
  .exact h.new q Z
  .rw [bx]at Z;subst Z;exact Q
end
def adQ:kq ["self"] ["self"] (cF (n8 (bo 94) 0)):=by walk_at"s"
inductive afv(C:ae)(vs:List V)(H:Hp)(Q:VK)(_:XK):Prop|mk(a dx:ae)(_:vs=[.ref a])(_:H a=aa (.ins C dx []))(_:∀H',PO C H' a ⟨0,0,0,0⟩->(∀b o,H b=aa o->b≠a->H' b=aa o)->Q .bW H')
def abd(Z:Zd P w K mg base A zc Pt):qa P w K mg base "Person" A.cp ["self"] 1 (afv A.cp):=by
 refine Z.Zo.ok adQ λf W S outer s H V Q E T h=>?_;obtain⟨a,dx,rfl,X,k⟩:=h;refine⟨_,(aH (cY Z.jc Z.B7 (pv 0) aU) (aH (cY Z.jc Z.B5 (pv 0) aU) (aH (cY Z.jc Z.B4 (pv 0) aU) (aO (cY Z.jc Z.B6 (pv 0) aU))))),?_⟩;refine⟨a,dx,[],U,X,by decide,?_⟩;refine⟨a,dx,_,U,aJ,by show 1<1000;decide,?_⟩;refine⟨a,dx,_,U,aJ,by show 2<1000;decide,?_⟩;refine⟨a,dx,_,U,aJ,by show 3<1000;decide,?_⟩;show Q .bW _;rw[fO,fO,fO]
 repeat(first|rw[tM]|rw[dQ ‹_›])
 exact k _ ⟨dx,aJ⟩ λb o e Y=>by rw[a_ Y];exact e
def xI{c:Nat}{ch:iD}(h:1<=c)(e:s.doc.changes[c-1]?=aa ch):ab.kL s c=ch.author:=by unfold ab.kL ju;rw[ay (by lia),e];rfl
def xK(s:bf)(a c:Nat)(l:List Nat):ab.dw s a (l++[c])=ab.dw s a l+if ab.kL s c=a then 1 else 0:=by
 unfold ab.dw;rw[ku,bb,gv];by_cases e:ab.kL s c=a
 .rw [aA ‹e›,aA e];rfl
 .rw [ay ‹e›,ay e];rfl
def T8{a:Nat}{l:List Nat}(h:¬∃c∈l,ab.kL s c=a):ab.dw s a l=0:=by unfold ab.dw;rw[gh,DB];intro c Z e;exact h ⟨c,Z,‹e›⟩
def ac6{a:Nat}{x:ae}(h:¬a∈ps.map (·.1)):ab.f_ ps a x=ps++[(a,x)]:=by unfold ab.f_;rw[ay];intro z;obtain⟨q,Z,e⟩:=jM.mp z;exact h (bA.mpr ⟨q,Z,cQ e⟩)
def iw(H5:Hp)(ps:List (Nat×ae))(H':Hp):Prop:=∀b o,H5 b=aa o->b∉ps.map (·.2)->H' b=aa o
def iw.same{Z:Hp}(h:iw H5 ps H')(s:aF H' Z):iw H5 ps Z:=λb o e n=>s _ _ (h b o e n)
def iw.set{a:Nat}{o:HO}(h:iw H5 ps H')(Z:(a,p)∈ps):iw H5 ps (aM H' p o):=λb u e n=>by rw[a_ (λq=>n (by rw[q];exact bA.mpr ⟨_,Z,U⟩))];exact h b u e n
def iw.le{Y d:ae}{f:Nat->ab.P4}(W:Y≠C)(V:fP Y H0 H5 d ps f)(h:iw H5 ps H'):Le C H5 H':=λb o e x=>h b o e λq=>by obtain⟨r,X,T⟩:=bA.mp q;obtain⟨dx,Z⟩:=V.jk r X;rw[T,e]at Z;cases Z;exact W x
def iw.ji{d:ae}{f:Nat->ab.P4}(Y:fP C H0 H5 d ps f)(s:aF H0 H5)(h:iw H5 ps H'):aF H0 H':=λb o e=>h b o (s _ _ e) λq=>by obtain⟨r,Z,X⟩:=bA.mp q;have:=Y.new r Z;rw[X,e]at this;cases this
def T7(z:Sz s)(e:ab.ao rs=s.doc.row)(S:ab.bP rs){Z:List Nat}(V:Z.Nodup)(T:∀c,c∈Z↔∃r∈rs,c∈r.aT.aI)(a:Nat):ab.dw s a Z=(ab.fY s a).length:=by
 unfold ab.dw;refine((J1 (V.filter _) (ab.LJ s a)).mpr λc=>?_).length_eq;rw[d4,T,ab.tG,sJ e S,ab.pX];constructor
 .rintro ⟨⟨x,X,W⟩,Y⟩
  exact⟨ab.AH z.wf X W,⟨x,X,W⟩,‹Y›⟩
 .rintro ⟨_,R,Y⟩
  exact⟨R,‹Y›⟩
def Jd(g:ab.b7->Nat)(l:List (ab.b7×Nat))(m:ab.b7)(n:Nat):ab.jJ g (l++[(m,n)])=ab.jJ g l+n*g m:=by unfold ab.jJ;rw[cG,List.sum_append];simp
def l9:Sc ["text","people","c","person","pieces","marks"] 1 95:=by walk_at"s"
inductive afu(K:aw)(A:br)(vs:List V)(H:Hp)(Q:VK)(_:XK):Prop|mk(t cl ca s rs:_)(_:vs=[.ref t])(_:cV K A H t cl ca s rs)(_:Sz s)(_:∀d ps H',fP A.cp H H' d ps (ab.kY s rs)->(∀a,a∈ps.map (·.1)↔∃c,c∈ab.fY s a)->aF H H'->Q (.ref d) H')
def abH:Cz Z "people_of" ["text"] 4 (afu K A):=by
 refine Z.VC.ok l9 λf eA Ar outer s H vs Q E hr h=>?_;obtain⟨t,cl,ca,s,rs,rfl,h,z,k⟩:=h;obtain⟨rl,tx,row⟩:=h.ex;have ok:=z.ok h.ao h.bN;have j3:=ok.bG;have gT:=eF;have nX:=z.dh;refine⟨_,(aH (qS 1 l9.nd (tL)) (aH (eU eK U (B_ (qF (vC Z:) hr (ai (aX Z.cA Z.eI (pv 0)) aq))) (qG 2 l9.nd) (aH (qS 3 l9.nd (fA DY SI PySem.F.type_dict_setdefault aaG (pv 1) (ai (aX Z.fI Z.qu (qL K (aX Z.cA Z.kg (pv 0)) (b6 iK (pv 2) aU))) (ai (O_ (abd Z:) (hr.mono (by decide)) U) aq)))) (aO (cY Z.jc Z.B7 (pv 3) (b6 f9 (aX Z.jc Z.B7 (pv 3)) aU))))) (aH (qS 4 l9.nd (qF (Hi Z:) hr (ai (aX Z.cA Z.eI (pv 0)) aq))) (aH (eU eK U (HG (hJ P w K) (pv 4)) (qG 5 l9.nd) (aH (eU eK U (qJ K (qT K (pv 5) aU)) (qG 2 l9.nd) (aH (qS 3 l9.nd (yL (il hr) (pv 1) (aX Z.fI Z.qu (qL K (aX Z.cA Z.kg (pv 0)) (b6 iK (pv 2) aU))) (λ_ _=>rfl))) (aO (cY Z.jc Z.B5 (pv 3) (b6 f9 (aX Z.jc Z.B5 (pv 3)) (vM (hJ P w K) hr.units (pv 4) (pv 5) (λ_ _=>rfl))))))) (aH (eU eK U (qJ K (qT K (pv 5) aU)) (qG 2 l9.nd) (aH (qS 3 l9.nd (yL (il hr) (pv 1) (aX Z.fI Z.qu (qL K (aX Z.cA Z.kg (pv 0)) (b6 iK (pv 2) aU))) (λ_ _=>rfl))) (aO (cY Z.jc Z.B4 (pv 3) (b6 f9 (aX Z.jc Z.B4 (pv 3)) (vM (hJ P w K) hr.units (pv 4) (pv 5) (λ_ _=>rfl))))))) (aO (eU eK U (qI K (qF (Hh Z:) hr (ai (qT K (pv 5) aU) aq))) (qG 2 l9.nd) (aH (qS 3 l9.nd (yL (il hr) (pv 1) (aX Z.fI Z.qu (qL K (aX Z.cA Z.kg (pv 0)) (b6 iK (pv 2) aU))) (λ_ _=>rfl))) (aO (cY Z.jc Z.B6 (pv 3) (b6 f9 (aX Z.jc Z.B6 (pv 3)) (vM (hJ P w K) hr.units (pv 4) (pv 5) (λ_ _=>rfl))))))))))) (aO (bc (pv 1))))))),?_⟩;refineλd nd=>?_;have s1:=bg (o:=.dK []) nd;refine⟨t,_,U,(tx.same s1).tx.row,rl,rs,_,U,row.same s1,ok,λbd Y H2 pz Fo lO pL s2=>?_⟩;have sZ:∀c∈Y,1<=c/\c<=bj s:=λc hc=>by obtain⟨r,hr,x'⟩:=(lO c).mp hc;exact(ok.aT hr).aI c x'
 have A_:Y.length<=bj s+1:=j8 Fo λc hc=>by have:=sZ c hc;lia
 refine⟨bd,_,U,.inl pz,λo e=>(by rw[pz]at e;cases e),λ_ o=>?_⟩;obtain⟨H3,pw⟩:∃H3,H3=aM H2 bd (.cJ o (.dK (dZ Y))):=⟨_,U⟩;rw[<-pw];have aaO:H bd=aj:=s1.free pL;have s3:aF H H3:=λb o e=>by rw[pw,a_ (λq=>by rw[q,aaO]at e;cases e)];exact s2 _ _ (s1 _ _ e)
 have Mw:d≠bd:=λq=>by rw[<-q,aJ]at pL;cases pL
 have Be:H3 d=aa (.dK []):=by rw[pw,a_ Mw];exact s2 _ _ aJ
 have Xx:H3 bd=aa (.cJ o (.dK (dZ Y))):=by rw[pw,aJ]
 have W:Wk (p7 bd o (dZ Y)) (λH=>H bd=aa (.cJ o (.dK (dZ Y)))) Y.length (λi x _=>∃p,(Y.map λk=>(k,()))[i]?=aa p/\x=.int (p.1:Nat)):=by have:=zt (g:=λ_:Unit=>V.bl ah) (d:=bd) (o:=o) (ps:=Y.map λk=>(k,()));rwa[aP]at this
 refine eP W (λi M X=>(∃l y,M=[aa (.ref t),aa (.ref d),l,y,aj,aj])/\aF H X/\X bd=aa (.cJ o (.dK (dZ Y)))/\∃ps,fP A.cp H X d ps (λa=>⟨ab.dw s a (Y.take i),0,0,0⟩)/\ps.length<=i/\∀a,a∈ps.map (·.1)↔∃c∈Y.take i,ab.kL s c=a)
  ⟨⟨aj,aj,U⟩,s3,Xx,[],⟨Be,oK,oK,λq hq=>by simp at hq,λq hq=>by simp at hq,nd⟩,cN _,by simp⟩ (λi M X j0=>j0.2.2.1) ?_ ?_
 .rintro i x M H4 H5 hi s5 N B ko _ gz ⟨⟨l,y,rfl⟩,sH,A9,ps,yk,vh,lR⟩ ⟨p',yj,rfl⟩
  obtain⟨c,nV⟩:∃c,Y[i]?=aa c:=⟨_,dC hi⟩;refine gz ?_;rw[cf,nV]at yj;cases yj;have u6:=sZ c (ck nV);have tS:=sH.trans s5;have Ji:=tx.same tS;obtain⟨ad,ch,g1,g2,g3⟩:=xP Ji u6;have S:=xI u6.1 g2;have T:=yk.same s5;have sV:=s5 _ _ A9;refine⟨.inr (.inr (.inl ⟨U,.inl ⟨_,T.dict⟩⟩)),t,_,U,Ji.tx.changes,cl,_,_,_,U,U,aL.of Ji.aI.aC,g1,ad,_,U,g3.author,λx dx nx yx ne=>⟨x,dx,U,aJ,λH6 Xj k6=>⟨U,d,dv V.ref ps,.inl (ch.author:Int),.ref x,U,U,?_,?_,λu hu=>?_,λFG=>?_⟩⟩⟩
  .exact (aF.made nx yx k6) _ _ T.dict
  .rw [qw];lia
  .have s6:aF H5 H6:=aF.made nx yx k6;have O:=T.same s6;rw[EX]at hu;obtain⟨p,M',rfl⟩:=rQ.mp hu;have I:ch.author∈ps.map (·.1):=ab.Dc.mp (by rw[M'];rfl);obtain⟨p2,Bp,Bq⟩:=Jl O.f6 I;rw[M']at Bq;cases Bq;obtain⟨dp,ep⟩:=id (O.jk _ Bp);refine⟨p,_,U,(O.jk _ Bp).st,p,dp,_,U,ep,by show 4<1000;decide,ko _ _ ⟨⟨_,_,U⟩,λb o e=>?_,?_,ps,?_,by lia,λa=>?_⟩⟩
   .rw [a_ (λq=>by rw[q,O.new _ Bp]at e;cases e)];exact s6 _ _ (tS _ _ e)
   .rw [a_ (λq=>by rw[q]at sV;rw[s6 _ _ sV]at ep;cases ep)];exact s6 _ _ sV
   .have e1:V.int (((ab.dw s ch.author (Y.take i):Nat):Int)+1)=NI (ab.dw s ch.author (Y.take i)+1):=rfl;show fP A.cp H (aM H6 p (.ins A.cp dp (dJ "standing" (V.int (((ab.dw s ch.author (Y.take i):Nat):Int)+1)) (pF _)))) d ps _;rw[e1,Pu];refine(O.set Bp _).congr λa ha=>?_;rw[dU nV,xK,S];by_cases q:a=ch.author
    .subst q;rw[aA U,aA U]
    .rw [ay q,ay (cU q)];rfl
   .rw [lR,dU nV];constructor
    .rintro ⟨c',h1,h2⟩
     exact⟨c',jq _ h1,h2⟩
    .rintro ⟨c',h1,h2⟩
     rcases cZ.mp h1 with h1|h1
     .exact ⟨c',h1,h2⟩
     .rw [bx.mp h1,S]at h2;exact(lR a).mp (h2▸I)
  .have s6:aF H5 H6:=aF.made nx yx k6;have O:=T.same s6;rw[EX]at FG;have yi:¬ch.author∈ps.map (·.1):=λq=>by
    obtain⟨p,_,e⟩:=Jl O.f6 q;rw[e]at FG;cases FG
   have F8:ab.dw s ch.author (Y.take i)=0:=T8 λq=>yi ((lR _).mpr q);rw[xT,ac6 yi];obtain⟨dp,ep⟩:=id Xj;have Oq:H x=aj:=tS.free nx;have Y8:¬x∈ps.map (·.2):=λq=>by obtain⟨q',YB,e⟩:=bA.mp q;obtain⟨qx,e'⟩:=T.jk q' YB;rw[e,nx]at e';cases e'
   have vf:=O.add (a:=ch.author) (p:=x) (dx:=dp) yi (by rw[F8];exact ep) Oq Y8;have FC:(ch.author,x)∈ps++[(ch.author,x)]:=by simp
   have hxd:x≠d:=λq=>by rw[q,T.dict]at nx;cases nx
   have XB:bd≠x:=λq=>by rw[<-q,sV]at nx;cases nx
   obtain⟨dq,eq⟩:=id (vf.jk _ FC);refine⟨x,_,U,(vf.jk _ FC).st,x,dq,_,U,eq,by show 4<1000;decide,ko _ _ ⟨⟨_,_,U⟩,λb o e=>?_,?_,ps++[(ch.author,x)],?_,by rw[bb];show _+1<=_;lia,λa=>?_⟩⟩
   .rw [a_ (λq=>by rw[q,Oq]at e;cases e),a_ (λq=>by rw[q,nd]at e;cases e)];exact s6 _ _ (tS _ _ e)
   .rw [a_ XB,a_ (cU Mw)];exact s6 _ _ sV
   .have e1:V.int (((ab.dw s ch.author (Y.take i):Nat):Int)+1)=NI (ab.dw s ch.author (Y.take i)+1):=rfl;show fP A.cp H (aM _ x (.ins A.cp dq (dJ "standing" (V.int (((ab.dw s ch.author (Y.take i):Nat):Int)+1)) (pF _)))) d _ _;rw[e1,Pu];refine(vf.set FC _).congr λa ha=>?_;rw[dU nV,xK,S];by_cases q:a=ch.author
    .subst q;rw[aA U,aA U]
    .rw [ay q,ay (cU q)];rfl
   .rw [cG,cZ,lR,dU nV];constructor
    .rintro (⟨c',h1,h2⟩|h1)
     .exact ⟨c',jq _ h1,h2⟩
     .have:a=ch.author:=‹h1›
      exact⟨c,by simp,by rw[S,this]⟩
    .rintro ⟨c',h1,h2⟩
     rcases cZ.mp h1 with h1|h1
     .exact .inl ⟨c',h1,h2⟩
     .rw [bx.mp h1,S]at h2;exact .inr (by simp[h2])
 .rintro M H4 gz ⟨⟨l,y,rfl⟩,sH,A9,ps,yk,vh,lR⟩
  refine gz ?_;rw[eJ]at yk lR;have zk:=tx.same sH;refine⟨t,_,U,zk.tx.row,rl,rs,U,row.same sH,by lia,λmd H5 Bk Oh s5=>?_⟩;have tS:=sH.trans s5;have T:=yk.same s5;have BU:A.cp≠A.cr:=λe=>by have:=Z.apart;simp[i6]at this;exact this.1.2.2.2 e.symm
  have GX:∀{X},iw H5 ps X->MD (hJ P w K) X md (gR (ab.c6 rs)):=λ{X} fr=>Bk.up (fr.le BU T) λo e=>fr _ _ e λq=>by obtain⟨r,hr,e2⟩:=bA.mp q;obtain⟨dx,e3⟩:=yk.jk r hr;rw[e2,Oh]at e3;cases e3
  have Jt:∀{r:ab.b7} {c:Nat} {X:Hp},(∃q∈rs,q.aT=r)->c∈r.aI->iw H5 ps X->(1<=c/\c<=bj s)/\ab.kL s c∈ps.map (·.1)/\Tx A X t cl rl ca s:=λ{r c X} ⟨q,hq,e⟩ hc fr=>by have hb:c∈Y:=(lO c).mpr ⟨q,hq,by rw[e];exact hc⟩;exact⟨sZ c hb,(lR _).mpr ⟨c,hb,U⟩,tx.same (fr.ji T tS)⟩
  refine⟨md,_,U,Bk,λod kvs ve M9 x_=>?_⟩;have s_:kvs.length=(ab.c6 rs).length:=by have:=b_ fo M9;unfold dR gR at this;rw[aP,aP]at this;exact this
  refine eP Jw (λi M X=>(∃l y x5,M=[aa (.ref t),aa (.ref d),l,y,aa (.ref md),x5])/\iw H5 ps X/\fP A.cp H X d ps λa=>⟨ab.dw s a Y,ab.jJ (λm=>ab.dw s a m.ins) ((ab.c6 rs).take i),ab.jJ (λm=>ab.dw s a m.del) ((ab.c6 rs).take i),ab.jJ (λm=>ab.dw s a (m.pend.map (·.change))) ((ab.c6 rs).take i)⟩)
   ⟨⟨_,_,_,U⟩,λ_ _ e _=>e,T⟩ ?_ ?_ ?_
  .rintro i M X ⟨_,fr,_⟩
   exact fr _ _ ve λq=>by obtain⟨r,hr,e2⟩:=bA.mp q;obtain⟨dx,e3⟩:=T.jk r hr;rw[e2,ve]at e3;cases e3
  .rintro i x M H6 H7 hi s7 N B km _ gz ⟨⟨l,y,x5,rfl⟩,Fc,O⟩ ⟨kv,ye,rfl⟩
   obtain⟨m,mb,ND⟩:=kv;refine gz ?_;obtain⟨⟨D,n⟩,Bl,Ym⟩:∃x,(ab.c6 rs)[i]?=aa x/\(x.1,NI x.2)=(m,ND):=iJ (f:=λp:ab.b7×Nat=>(p.1,NI p.2)) (by
    have:(dR kvs)[i]?=aa (m,ND):=by unfold dR;rw[cf,ye];rfl
    rw[M9]at this;exact this)
   injection Ym with q1 q2;subst q1 q2;have tj:∃q∈rs,q.aT=D:=(ab.uR rs D).mp (bA.mpr ⟨_,ck Bl,U⟩);have Yl:=(let⟨q,hq,e⟩:=tj;e▸ok.aT hq:D.Ok (bj s));have tq:df (gR (ab.c6 rs)) D=aa (NI n):=by rw[ES,ab.zo (ab.ER rs) (ck Bl)];rfl
   have MW:mr K H5 mb D:=x_ _ (ck ye);have Fd:=Fc.same s7;have vf:=O.same s7;have GW:∀{X},iw H5 ps X->mr K X mb D:=λ{X} fr=>MW.up (fr.le BU T);obtain⟨ia,da,pa,k1,k2,k3,k4⟩:=id MW;have tX:∀{X} {b:ae} {xs:List V},iw H5 ps X->aY K H5 b xs->aY K X b xs:=λ{X b xs} fr q=>dS (fr.le BU T) q;have nps:∀{b:ae} {o:HO},H5 b=aa o->(∀C dx fs,o≠.ins C dx fs)->b∉ps.map (·.2):=λ{b o} e hn q=>by obtain⟨r,hr,e2⟩:=bA.mp q;obtain⟨dx,e3⟩:=T.jk r hr;rw[e2,e]at e3;exact hn _ _ _ (dX e3)
   obtain⟨f0,My⟩:∃f0:Nat->ab.P4,f0=λa=>⟨ab.dw s a Y,ab.jJ (λm=>ab.dw s a m.ins) ((ab.c6 rs).take i),ab.jJ (λm=>ab.dw s a m.del) ((ab.c6 rs).take i),ab.jJ (λm=>ab.dw s a (m.pend.map (·.change))) ((ab.c6 rs).take i)⟩:=⟨_,U⟩;rw[<-My]at vf;refine⟨mb,_,0,_,U,U,tX Fd k1,bt (j:=0) U,ia,U,⟨_,tX Fd k2⟩,eP (ki (zs:=D.ins) (v:=NI)) (λj M X=>(∃l y,M=[aa (.ref t),aa (.ref d),l,y,aa (.ref md),aa (.ref mb)])/\iw H5 ps X/\fP A.cp H X d ps λa=>⟨(f0 a).st,(f0 a).i+n*ab.dw s a (D.ins.take j),(f0 a).d,(f0 a).p⟩) ⟨⟨_,_,U⟩,Fd,vf.congr λa _=>rfl⟩ (λj M X j0=>tX j0.2.1 k2) ?_ ?_⟩
   .rintro j x M H8 H9 hj s9 N B kn _ gz ⟨⟨l,y,rfl⟩,G,J⟩ ⟨c,hc,rfl⟩
    refine gz ?_;have R:=G.same s9;have qD:=J.same s9;obtain⟨cb,I,L⟩:=Jt tj (c:=c) (jq _ (ck hc)) R;obtain⟨ad,ch,g1,g2,g3⟩:=xP L cb;have S:=xI cb.1 g2;rw[S]at I;obtain⟨p,pC,pA,mU⟩:=qD.get I;obtain⟨dp,ep⟩:=id mU;refine⟨t,_,U,L.tx.changes,cl,_,_,_,U,U,aL.of L.aI.aC,g1,ad,_,U,g3.author,d,_,U,pA,?_⟩;refine⟨p,_,U,mU.i,md,mb,_,D,_,U,U,GX R,GW R,tq,p,dp,_,U,ep,by show 4<1000;decide,kn _ _ ⟨⟨_,_,U⟩,R.set pC,?_⟩⟩;have e1:∀u:Nat,V.int ((u:Int)+(n:Int))=NI (u+n):=λu=>rfl
    try dsimp only
    rw[e1,ac'];refine(qD.set pC _).congr λa _=>?_;rw[dU hc,xK,S];by_cases q:a=ch.author
    .subst q;rw[aA U,aA U,zO,zP,nA]
    .rw [ay q,ay (cU q),mu]
   rintro M H8 gz ⟨⟨l,y,rfl⟩,G,J⟩
   refine gz ?_;rw[eJ]at J;obtain⟨f1,Mz⟩:∃f1:Nat->ab.P4,f1=λa=>⟨(f0 a).st,(f0 a).i+n*ab.dw s a D.ins,(f0 a).d,(f0 a).p⟩:=⟨_,U⟩;rw[<-Mz]at J;refine⟨mb,_,1,_,U,U,tX G k1,bt (j:=1) U,da,U,⟨_,tX G k3⟩,eP (ki (zs:=D.del) (v:=NI)) (λj M X=>(∃l y,M=[aa (.ref t),aa (.ref d),l,y,aa (.ref md),aa (.ref mb)])/\iw H5 ps X/\fP A.cp H X d ps λa=>⟨(f1 a).st,(f1 a).i,(f1 a).d+n*ab.dw s a (D.del.take j),(f1 a).p⟩) ⟨⟨_,_,U⟩,G,J.congr λa _=>rfl⟩ (λj M X j0=>tX j0.2.1 k3) ?_ ?_⟩
   .rintro j x M H8 H9 hj s9 N B kn _ gz ⟨⟨l,y,rfl⟩,G,J⟩ ⟨c,hc,rfl⟩
    refine gz ?_;have R:=G.same s9;have qD:=J.same s9;obtain⟨cb,I,L⟩:=Jt tj (c:=c) (gZ _ (jq _ (ck hc))) R;obtain⟨ad,ch,g1,g2,g3⟩:=xP L cb;have S:=xI cb.1 g2;rw[S]at I;obtain⟨p,pC,pA,mU⟩:=qD.get I;obtain⟨dp,ep⟩:=id mU;refine⟨t,_,U,L.tx.changes,cl,_,_,_,U,U,aL.of L.aI.aC,g1,ad,_,U,g3.author,d,_,U,pA,?_⟩;refine⟨p,_,U,mU.d,md,mb,_,D,_,U,U,GX R,GW R,tq,p,dp,_,U,ep,by show 4<1000;decide,kn _ _ ⟨⟨_,_,U⟩,R.set pC,?_⟩⟩;have e1:∀u:Nat,V.int ((u:Int)+(n:Int))=NI (u+n):=λu=>rfl
    try dsimp only
    rw[e1,ac_];refine(qD.set pC _).congr λa _=>?_;rw[dU hc,xK,S];by_cases q:a=ch.author
    .subst q;rw[aA U,aA U,zO,zP,nA]
    .rw [ay q,ay (cU q),mu]
   rintro M H8 gz ⟨⟨l,y,rfl⟩,G,J⟩
   refine gz ?_;rw[eJ]at J;obtain⟨f2,MA⟩:∃f2:Nat->ab.P4,f2=λa=>⟨(f1 a).st,(f1 a).i,(f1 a).d+n*ab.dw s a D.del,(f1 a).p⟩:=⟨_,U⟩;rw[<-MA]at J;have Yz:D.pend.length<aS:=by
    have h1:=Yl.bG;have h2:D.pend.length<=D.aI.length:=by unfold ab.b7.aI;rw[bb,bb,aP];lia
    lia
   refine⟨mb,_,2,_,U,U,tX G k1,bt (j:=2) U,pa,D.pend,U,k4.up (G.le BU T),Yz,λll HA mT sA=>⟨ll,U,⟨_,aL.of mT⟩,?_⟩⟩;refine eP (ff (zs:=D.pend.map (·.change)) (v:=NI)) (λj M X=>(∃l y,M=[aa (.ref t),aa (.ref d),l,y,aa (.ref md),aa (.ref mb)])/\iw H5 ps X/\X ll=aa (.aC ((D.pend.map (·.change)).map NI))/\fP A.cp H X d ps λa=>⟨(f2 a).st,(f2 a).i,(f2 a).d,(f2 a).p+n*ab.dw s a ((D.pend.map (·.change)).take j)⟩)
    ⟨⟨_,_,U⟩,G.same sA,mT,(J.same sA).congr λa _=>rfl⟩ (λj M X j0=>aL.of j0.2.2.1) ?_ ?_
   .rintro j x M HB HC hj sC N B kn _ gz ⟨⟨l,y,rfl⟩,Fe,MO,Br⟩ ⟨c,hc,rfl⟩
    refine gz ?_;have R:=Fe.same sC;have qD:=Br.same sC;obtain⟨cb,I,L⟩:=Jt tj (c:=c) (gZ _ (gZ _ (ck hc))) R;obtain⟨ad,ch,g1,g2,g3⟩:=xP L cb;have S:=xI cb.1 g2;rw[S]at I;obtain⟨p,pC,pA,mU⟩:=qD.get I;obtain⟨dp,ep⟩:=id mU;have Fx:=sC _ _ MO;refine⟨t,_,U,L.tx.changes,cl,_,_,_,U,U,aL.of L.aI.aC,g1,ad,_,U,g3.author,d,_,U,pA,?_⟩;refine⟨p,_,U,mU.pt,md,mb,_,D,_,U,U,GX R,GW R,tq,p,dp,_,U,ep,by show 4<1000;decide,kn _ _ ⟨⟨_,_,U⟩,R.set pC,by rw[a_ (λq=>by rw[q,ep]at Fx;cases Fx)];exact Fx,?_⟩⟩;have e1:∀u:Nat,V.int ((u:Int)+(n:Int))=NI (u+n):=λu=>rfl
    try dsimp only
    rw[e1,ada];refine(qD.set pC _).congr λa _=>?_;rw[dU hc,xK,S];by_cases q:a=ch.author
    .subst q;rw[aA U,aA U,zO,zP,nA]
    .rw [ay q,ay (cU q),mu]
   rintro M HB gz ⟨⟨l,y,rfl⟩,Fe,MO,Br⟩
   refine gz ?_;rw[eJ]at Br;refine km _ _ ⟨⟨_,_,_,U⟩,Fe,Br.congr λa _=>?_⟩;rw[dU Bl,Jd,Jd,Jd,MA,Mz,My]
  .rintro M H6 gz ⟨⟨l,y,x5,rfl⟩,Fc,O⟩
   refine gz ?_;rw[s_,eJ]at O;refine(k d ps H6 (O.congr λa _=>?_) (λa=>?_) (Fc.ji T tS))
   .rw [T7 z h.ao h.bN Fo lO];rfl
   .rw [lR];constructor
    .rintro ⟨c,hc,e⟩
     have:=sZ c hc;obtain⟨x,hx,x'⟩:=(sJ h.ao h.bN c).mp ((lO c).mp hc);exact⟨c,ab.tG.mpr ⟨this,ab.pX.mpr ⟨x,hx,x'⟩,e⟩⟩
    .rintro ⟨c,hc⟩
     obtain⟨_,h2,h3⟩:=ab.tG.mp hc;exact⟨c,(lO c).mpr ((sJ h.ao h.bN c).mpr (ab.pX.mp h2)),h3⟩
def HF(f:Nat->ab.P4)(a:Nat):List Nat:=[a,(f a).st,(f a).i,(f a).d,(f a).p]
def zh:Sc ["text","people","told","author","person"] 1 96:=by walk_at"s"
inductive afN(K:aw)(A:br)(vs:List V)(H:Hp)(Q:VK)(_:XK):Prop|mk(t cl ca s rs:_)(_:vs=[.ref t])(_:cV K A H t cl ca s rs)(_:Sz s)(_:e8 K A [] H t cl ca s .people Q)
def abU:Cz Z "tell_people" ["text"] 5 (afN K A):=by
 refine Z.VS.ok zh λf eA Ar outer s H vs Q E hr h=>?_;obtain⟨t,cl,ca,s,rs,rfl,h,z,dd⟩:=h;have gT:=eF;have nX:=z.dh;refine⟨_,(aH (qS 1 zh.nd (qF (abH Z:) hr (ai (pv 0) aq))) (aH (qS 2 zh.nd (b9 (ai (qN K Z.eQ (ai (pv 1) aq)) aq))) (aH (eU eK U (qI K (HE U Z.BR (pv 1))) (qG 3 zh.nd) (aH (qS 4 zh.nd (yL (il hr) (pv 1) (pv 3) (λ_ _=>rfl))) (aO (eT (fA fQ lz nB m3 (pv 2) (ai (b9 (ai (pv 3) (ai (aX Z.jc Z.B7 (pv 4)) (ai (aX Z.jc Z.B5 (pv 4)) (ai (aX Z.jc Z.B4 (pv 4)) (ai (aX Z.jc Z.B6 (pv 4)) aq)))))) aq)))))) (aO (bc (pv 2)))))),?_⟩;refine⟨t,cl,ca,s,rs,U,h,z,λd ps H1 hp hm s1=>?_⟩;refine⟨d,_,U,DN.bG hp.dict,by show 1<=aS;decide,λl nl=>?_⟩;have s2:=bg (o:=.aC [V.int (ps.length:Nat)]) nl;have S:=hp.same s2;refine⟨d,ae,V.ref,ps,U,S.dict,S.f6,λL X nL G R=>?_⟩;have s3:=bg (o:=.aC (X.map NI)) nL;have Y:=S.same s3;have J:H l=aj:=s1.free nl;have P:l≠L:=λq=>by rw[<-q,aJ]at nL;cases nL
 have D:X.Nodup:=G.imp λh=>c8 h;have pB:X.length=ps.length:=by have Bs:kr X (ps.map (·.1)):=(J1 D hp.f6).mpr R;rw[Bs.length_eq,aP]
 have C:∀a,a∈X↔∃c,c∈ab.fY s a:=λa=>(R a).trans (hm a);have ahK:X.length<=100:=j8 D λa k=>by
  obtain⟨c,hc⟩:=(C a).mp k;obtain⟨q1,q2,q3⟩:=ab.tG.mp hc;have w:c-1<s.doc.changes.length:=by have:=q1.2;unfold bj at this;lia
  have:=(z.wf.aI _ (DE w)).1;rw[xI q1.1 (dC w)]at q3;lia
 have j2:gO (cP s .people).2=((X.length::X.flatMap (HF (ab.kY s rs))).map λn:Nat=>(n:Int)):=by show(((uJ.filterMap (An s)).length:Int)::gN (uJ.filterMap (An s)).flatten)=_;rw[ab.acH z.wf h.ao G C,aP,<-List.flatMap_def];rfl
 refine⟨L,U,⟨_,aL.of aJ⟩,eP (ff (zs:=X) (v:=NI)) (λi r H'=>(∃g j,r=[aa (.ref t),aa (.ref d),aa (.ref l),g,j])/\(∀b o,(aM (aM H1 l (.aC [V.int (ps.length:Nat)])) L (.aC (X.map NI))) b=aa o->b≠l->H' b=aa o)/\H' l=aa (.aC ((X.length::(X.take i).flatMap (HF (ab.kY s rs))).map NI))) ⟨⟨aj,aj,U⟩,λ_ _ e _=>e,by rw[a_ P,aJ,pB];rfl⟩ (λi r H' j0=>aL.of (j0.2.1 _ _ aJ (cU P))) ?_ ?_⟩
 .rintro i x r H4 H5 hi m N B kn kb gz ⟨⟨g,j,rfl⟩,M,T⟩ ⟨a,k,rfl⟩
  refine gz ?_;have Yy:fP A.cp H H5 d ps (ab.kY s rs):=by
   have I:∀{b:ae} {o:HO},(aM (aM H1 l (.aC [V.int (ps.length:Nat)])) L (.aC (X.map NI))) b=aa o->(∀xs,o≠.aC xs)->b≠l:=λ{b o} e hn q=>by rw[q,a_ P,aJ]at e;exact hn _ (dX e).symm
   refine⟨m _ _ (M _ _ Y.dict (I Y.dict (by intros;simp))),Y.f6,Y.uN,λq hq=>?_,Y.new,Y.yy⟩;obtain⟨dx,e⟩:=Y.jk q hq;exact⟨dx,m _ _ (M _ _ e (I e (by intros;simp)))⟩
  obtain⟨p,pC,pA,W⟩:=Yy.get ((R a).mp (ck k));have O:=m _ _ T;refine⟨d,_,U,pA,?_⟩;refine⟨.inl ⟨U,_,aL.of O⟩,p,_,U,W.st,p,_,U,W.i,p,_,U,W.d,p,_,U,W.pt,by show 5<=aS;decide,λu nu=>?_⟩;have Yh:l≠u:=λq=>by rw[<-q,O]at nu;cases nu
  have lP:∀(l:List Nat),(l.flatMap (HF (ab.kY s rs))).length=5*l.length:=λl=>by
   induction l with
   |nil=>rfl
   |cons y l ih=>rw[dW,bb,ih,bY];show 5+_=_;lia
  refine⟨l,u,_,_,U,U,by rw[a_ Yh];exact O,.inl aJ,?_,kn _ _ ⟨⟨_,_,U⟩,λb o e hb=>?_,?_⟩⟩
  .rw [aP,bY,lP,iz];show _+5<=_;lia
  .have e5:=m _ _ (M _ _ e hb);rw[a_ hb,a_ (f7 e5 nu)];exact e5
  .rw [aJ,sR _ k,<-oF,cG];rfl
 .rintro r H4 gz ⟨⟨g,j,rfl⟩,M,T⟩
  refine gz ?_;rw[eJ]at T;refine(dd.same h U j2 (λb o e=>?_) J (by rw[T,bR];rfl));have e1:=s1 _ _ e;exact M _ _ (s3 _ _ (s2 _ _ e1)) (f7 e J)
def BB(p:Int)(ns ls:List Int)(c:bV):Prop:=(p=7/\∃v x,ns=[v,x]/\c=.judge v x)\/(p=8/\∃v a k Z Y,ns=[v,a,k,Z,Y]/\c=.judgeby v a k Z Y)\/(p=9/\∃v,ns=[v]/\c=.judgelist v ls)\/(p=10/\∃v i j,ns=[v,i,j]/\c=.judgetouching v i j)\/(p=11/\∃v i j,ns=[v,i,j]/\c=.judgepart v i j)
def C6(p:Int)(ns ls:List Int)(c:bV):Prop:=(p=12/\∃v x,ns=[v,x]/\c=.falls v x)\/(p=13/\∃x,ns=[x]/\c=.spots x)\/(p=14/\c=.standing)\/(p=15/\∃x,ns=[x]/\c=.fate x)\/(p=16/\c=.what ls)\/(p=17/\c=.row)\/(p=18/\c=.people)\/(p=19/\c=.size)
def uO(p:Int)(ns ls:List Int)(c:bV):Prop:=(∃x,ns=[x]/\CH p x c)\/AK p ns ls c\/BB p ns ls c\/C6 p ns ls c
inductive CQ(R:Int->List Int->List Int->bV->Prop)(K:aw)(A:br)(Pt:ae)(vs:List V)(H:Hp)(Q:VK)(_:XK):Prop|mk(t cl ca s rs c nl ll:_)(p:Int)(ns ls:List Int)(_:vs=[.ref t,.int p,.ref nl,.ref ll])(_:cV K A H t cl ca s rs)(_:Sz s)(_:H nl=aa (.aC (ns.map V.int)))(_:H ll=aa (.aC (ls.map V.int)))(_:ls.length<=16000)(_:(gO (cP s c).2).length<=10000000)(_:gA Pt H)(_:R p ns ls c)(_:wJ K A Pt H t cl ca s c Q)
def adV:Sc ["text","call","numbers","changes"] 4 122:=by walk_at"s"
def abi:Cz Z "answer_judging" ["text","call","numbers","changes"] 9 (CQ BB K A Pt):=by
 refine Z.UI.ok adV λf F C outer s H D Q E R h=>?_;obtain⟨t,cl,O,s,rs,c,nl,I,p,ns,ls,rfl,h,z,Y,M,N,L,S,P,d⟩:=h;refine⟨_,(aH (bO (cK dI (pv 1) (cx U Z.WN) (cB _)) (aO (bc (qF (abu Z:) R (ai (pv 0) (ai (qL K (pv 2) aU) (ai (qL K (pv 2) aU) aq)))))) bX) (aH (bO (cK dI (pv 1) (cx U Z.WO) (cB _)) (aO (bc (qF (abv Z:) R (ai (pv 0) (ai (qL K (pv 2) aU) (ai (qL K (pv 2) aU) (ai (qL K (pv 2) aU) (ai (qL K (pv 2) aU) (ai (qL K (pv 2) aU) aq))))))))) bX) (aH (bO (cK dI (pv 1) (cx U Z.Md) (cB _)) (aO (bc (qF (abw Z:) R (ai (pv 0) (ai (qL K (pv 2) aU) (ai (pv 3) aq)))))) bX) (aH (bO (cK dI (pv 1) (cx U Z.WR) (cB _)) (aO (bc (qF (aby Z:) R (ai (pv 0) (ai (qL K (pv 2) aU) (ai (qL K (pv 2) aU) (ai (qL K (pv 2) aU) aq))))))) bX) (aO (bc (qF (abx Z:) R (ai (pv 0) (ai (qL K (pv 2) aU) (ai (qL K (pv 2) aU) (ai (qL K (pv 2) aU) aq))))))))))),?_⟩;refine⟨U,aZ (λT=>?_) λT=>⟨U,aZ (λV=>?_) λV=>⟨U,aZ (λW=>?_) λW=>⟨U,aZ (λX=>?_) λX=>?_⟩⟩⟩⟩
 .rw [hH]at T;have T:=cQ T;rcases P with⟨e,v,x,rfl,rfl⟩|⟨e,_⟩|⟨e,_⟩|⟨e,_⟩|⟨e,_⟩<;>first|omega|exact⟨nl,_,0,_,U,U,aL.of Y,bt (j:=0) U,nl,_,1,_,U,U,aL.of Y,bt (j:=1) U,t,cl,O,s,rs,v,x,U,h,z,d.nS h S⟩
 .rw [hH]at V;have V:=cQ V;rcases P with⟨e,_⟩|⟨e,v,a,k,J,G,rfl,rfl⟩|⟨e,_⟩|⟨e,_⟩|⟨e,_⟩<;>first|omega|exact⟨nl,_,0,_,U,U,aL.of Y,bt (j:=0) U,nl,_,1,_,U,U,aL.of Y,bt (j:=1) U,nl,_,2,_,U,U,aL.of Y,bt (j:=2) U,nl,_,3,_,U,U,aL.of Y,bt (j:=3) U,nl,_,4,_,U,U,aL.of Y,bt (j:=4) U,t,cl,O,s,rs,v,a,k,J,G,U,h,z,d.nS h S⟩
 .rw [hH]at W;have W:=cQ W;rcases P with⟨e,_⟩|⟨e,_⟩|⟨e,v,rfl,rfl⟩|⟨e,_⟩|⟨e,_⟩<;>first|omega|exact⟨nl,_,0,_,U,U,aL.of Y,bt (j:=0) U,t,cl,O,s,rs,I,v,ls,U,h,z,M,N,d.nS h S⟩
 .rw [hH]at X;have X:=cQ X;rcases P with⟨e,_⟩|⟨e,_⟩|⟨e,_⟩|⟨e,v,i,j,rfl,rfl⟩|⟨e,_⟩<;>first|omega|exact⟨nl,_,0,_,U,U,aL.of Y,bt (j:=0) U,nl,_,1,_,U,U,aL.of Y,bt (j:=1) U,nl,_,2,_,U,U,aL.of Y,bt (j:=2) U,t,cl,O,s,rs,v,i,j,U,h,z,S,d⟩
 .rw [hH]at T V W X;have T:=fh T;have V:=fh V;have W:=fh W;have X:=fh X;rcases P with⟨e,_⟩|⟨e,_⟩|⟨e,_⟩|⟨e,_⟩|⟨e,v,i,j,rfl,rfl⟩<;>first|omega|exact⟨nl,_,0,_,U,U,aL.of Y,bt (j:=0) U,nl,_,1,_,U,U,aL.of Y,bt (j:=1) U,nl,_,2,_,U,U,aL.of Y,bt (j:=2) U,t,cl,O,s,rs,v,i,j,U,h,z,S,d⟩
def adX:Sc ["text","call","numbers","changes"] 4 123:=by walk_at"s"
def abk:Cz Z "answer_telling" ["text","call","numbers","changes"] 9 (CQ C6 K A Pt):=by
 refine Z.UK.ok adX λf C y outer s H B Q E W h=>?_;obtain⟨t,cl,S,s,rs,c,nl,D,p,ns,ls,rfl,h,z,X,G,I,Y,F,V,d⟩:=h;refine⟨_,(aH (bO (cK dI (pv 1) (cx U Z.WL) (cB _)) (aO (bc (qF (abR Z:) W (ai (pv 0) (ai (qL K (pv 2) aU) (ai (qL K (pv 2) aU) aq)))))) bX) (aH (bO (cK dI (pv 1) (cx U Z.W3) (cB _)) (aO (bc (qF (abX Z:) W (ai (pv 0) (ai (qL K (pv 2) aU) aq))))) bX) (aH (bO (cK dI (pv 1) (cx U Z.W4) (cB _)) (aO (bc (qF (abY Z:) W (ai (pv 0) aq)))) bX) (aH (bO (cK dI (pv 1) (cx U Z.WM) (cB _)) (aO (bc (qF (abS Z:) W (ai (pv 0) (ai (qL K (pv 2) aU) aq))))) bX) (aH (bO (cK dI (pv 1) (cx U Z.Mg) (cB _)) (aO (bc (qF (abZ Z:) W (ai (pv 0) (ai (pv 3) aq))))) bX) (aH (bO (cK dI (pv 1) (cx U Z.W0) (cB _)) (aO (bc (qF (abV Z:) W (ai (pv 0) aq)))) bX) (aH (bO (cK dI (pv 1) (cx U Z.WY) (cB _)) (aO (bc (qF (abU Z:) W (ai (pv 0) aq)))) bX) (aO (bc (qF (abW Z:) W (ai (pv 0) aq))))))))))),?_⟩;have T:=d.nS h F;refine⟨U,aZ (λJ=>?_) λJ=>⟨U,aZ (λL=>?_) λL=>⟨U,aZ (λM=>?_) λM=>⟨U,aZ (λN=>?_) λN=>⟨U,aZ (λO=>?_) λO=>⟨U,aZ (λP=>?_) λP=>⟨U,aZ (λR=>?_) λR=>?_⟩⟩⟩⟩⟩⟩⟩
 .rw [hH]at J;have J:=cQ J;rcases V with⟨e,v,x,rfl,rfl⟩|⟨e,_⟩|⟨e,_⟩|⟨e,_⟩|⟨e,_⟩|⟨e,_⟩|⟨e,_⟩|⟨e,_⟩<;>first|omega|exact⟨nl,_,0,_,U,U,aL.of X,bt (j:=0) U,nl,_,1,_,U,U,aL.of X,bt (j:=1) U,t,cl,S,s,rs,v,x,U,h,z,T⟩
 .rw [hH]at L;have L:=cQ L;rcases V with⟨e,_⟩|⟨e,x,rfl,rfl⟩|⟨e,_⟩|⟨e,_⟩|⟨e,_⟩|⟨e,_⟩|⟨e,_⟩|⟨e,_⟩<;>first|omega|exact⟨nl,_,0,_,U,U,aL.of X,bt (j:=0) U,t,cl,S,s,rs,x,U,h,z,Y,T⟩
 .rw [hH]at M;have M:=cQ M;rcases V with⟨e,_⟩|⟨e,_⟩|⟨e,rfl⟩|⟨e,_⟩|⟨e,_⟩|⟨e,_⟩|⟨e,_⟩|⟨e,_⟩<;>first|omega|exact⟨t,cl,S,s,rs,U,h,z,T⟩
 .rw [hH]at N;have N:=cQ N;rcases V with⟨e,_⟩|⟨e,_⟩|⟨e,_⟩|⟨e,x,rfl,rfl⟩|⟨e,_⟩|⟨e,_⟩|⟨e,_⟩|⟨e,_⟩<;>first|omega|exact⟨nl,_,0,_,U,U,aL.of X,bt (j:=0) U,t,cl,S,s,rs,x,U,h,z,T⟩
 .rw [hH]at O;have O:=cQ O;rcases V with⟨e,_⟩|⟨e,_⟩|⟨e,_⟩|⟨e,_⟩|⟨e,rfl⟩|⟨e,_⟩|⟨e,_⟩|⟨e,_⟩<;>first|omega|exact⟨t,cl,S,s,rs,D,ls,U,h,z,G,I,Y,T⟩
 .rw [hH]at P;have P:=cQ P;rcases V with⟨e,_⟩|⟨e,_⟩|⟨e,_⟩|⟨e,_⟩|⟨e,_⟩|⟨e,rfl⟩|⟨e,_⟩|⟨e,_⟩<;>first|omega|exact⟨t,cl,S,s,rs,U,h,z,Y,T⟩
 .rw [hH]at R;have R:=cQ R;rcases V with⟨e,_⟩|⟨e,_⟩|⟨e,_⟩|⟨e,_⟩|⟨e,_⟩|⟨e,_⟩|⟨e,rfl⟩|⟨e,_⟩<;>first|omega|exact⟨t,cl,S,s,rs,U,h,z,T⟩
 .rw [hH]at J L M N O P R;have J:=fh J;have L:=fh L;have M:=fh M;have N:=fh N;have O:=fh O;have P:=fh P;have R:=fh R;rcases V with⟨e,_⟩|⟨e,_⟩|⟨e,_⟩|⟨e,_⟩|⟨e,_⟩|⟨e,_⟩|⟨e,_⟩|⟨e,rfl⟩<;>first|omega|exact⟨t,cl,S,s,rs,U,h,z,T⟩
def adT:Sc ["text","call","numbers","listed"] 4 124:=by walk_at"s"
def IB{p x:Int}(h:CH p x c):0<=p/\p<=2:=by rcases h with⟨e,_⟩|⟨e,_⟩|⟨e,_⟩<;>omega
def EO{p:Int}{ls:List Int}(h:AK p ns ls c):3<=p/\p<=6:=by rcases h with⟨e,_⟩|⟨e,_⟩|⟨e,_⟩|⟨e,_⟩<;>omega
def Gk{p:Int}{ls:List Int}(h:BB p ns ls c):7<=p/\p<=11:=by rcases h with⟨e,_⟩|⟨e,_⟩|⟨e,_⟩|⟨e,_⟩|⟨e,_⟩<;>omega
def Ja{p:Int}{ls:List Int}(h:C6 p ns ls c):12<=p:=by rcases h with⟨e,_⟩|⟨e,_⟩|⟨e,_⟩|⟨e,_⟩|⟨e,_⟩|⟨e,_⟩|⟨e,_⟩|⟨e,_⟩<;>omega
def abg:Cz Z "answer_call" ["text","call","numbers","listed"] 10 (CQ uO K A Pt):=by
 refine Z.UG.ok adT λf J G outer s H I Q E N h=>?_;obtain⟨t,cl,M,s,rs,c,nl,L,p,ns,ls,rfl,h,z,X,T,V,W,O,Y,d⟩:=h;refine⟨_,(aH (bO (cK d3 (pv 1) (cx U Z.W5) (cB _)) (aO (bc (qF (abj Z:) N (ai (pv 0) (ai (pv 1) (ai (qL K (pv 2) aU) aq)))))) bX) (aH (bO (cK d3 (pv 1) (cx U Z.WV) (cB _)) (aO (bc (qF (abh Z:) N (ai (pv 0) (ai (pv 1) (ai (pv 2) (ai (pv 3) aq))))))) bX) (aH (bO (cK d3 (pv 1) (cx U Z.WQ) (cB _)) (aO (bc (qF (abi Z:) N (ai (pv 0) (ai (pv 1) (ai (pv 2) (ai (pv 3) aq))))))) bX) (aO (bc (qF (abk Z:) N (ai (pv 0) (ai (pv 1) (ai (pv 2) (ai (pv 3) aq)))))))))),?_⟩;refine(aZ (λP=>?_) λP=>(aZ (λR=>?_) λR=>(aZ (λS=>?_) λS=>?_)))
 .have P:p<=2:=cQ P;rcases Y with⟨x,rfl,Y⟩|Y|Y|Y
  .exact ⟨nl,_,0,_,U,U,aL.of X,bt (j:=0) U,t,cl,M,s,rs,c,p,x,U,h,Y,d.nS h O⟩
  .have:=EO Y;omega
  .have:=Gk Y;omega
  .have:=Ja Y;omega
 .have P:¬p<=2:=fh P;have R:p<=6:=cQ R;rcases Y with⟨x,rfl,Y⟩|Y|Y|Y
  .have:=IB Y;omega
  .exact ⟨t,cl,M,s,rs,c,nl,L,p,ns,ls,U,h,z,X,T,V,Y,d.nS h O⟩
  .have:=Gk Y;omega
  .have:=Ja Y;omega
 .have R:¬p<=6:=fh R;have S:p<=11:=cQ S;rcases Y with⟨x,rfl,Y⟩|Y|Y|Y
  .have:=IB Y;omega
  .have:=EO Y;omega
  .exact ⟨t,cl,M,s,rs,c,nl,L,p,ns,ls,U,h,z,X,T,V,W,O,Y,d⟩
  .have:=Ja Y;omega
 .have S:¬p<=11:=fh S;rcases Y with⟨x,rfl,Y⟩|Y|Y|Y
  .have:=IB Y;omega
  .have:=EO Y;omega
  .have:=Gk Y;omega
  .exact ⟨t,cl,M,s,rs,c,nl,L,p,ns,ls,U,h,z,X,T,V,W,O,Y,d⟩
noncomputable def LG:List Nat:=[1,1,1,1,2,4,3,2,5,1,3,3,2,1,0,1,0,0,0,0]
def yq{l:List Int}(h:l.length=0):l=[]:=gh.mp h
def n_{Z:Type}{l:List Z}(h:l.length=1):∃x,l=[x]:=by
 match l,h with
 |[x],_=>exact⟨x,U⟩
def Gr{l:List Int}(h:l.length=2):∃x y,l=[x,y]:=by
 match l,h with
 |[x,y],_=>exact⟨x,y,U⟩
def Gs{l:List Int}(h:l.length=3):∃x y z,l=[x,y,z]:=by
 match l,h with
 |[x,y,z],_=>exact⟨x,y,z,U⟩
def ZY{l:List Int}(h:l.length=4):∃x y z u,l=[x,y,z,u]:=by
 match l,h with
 |[x,y,z,u],_=>exact⟨x,y,z,u,U⟩
def ZZ{l:List Int}(h:l.length=5):∃x y z u v,l=[x,y,z,u,v]:=by
 match l,h with
 |[x,y,z,u,v],_=>exact⟨x,y,z,u,v,U⟩
def GB(p:Int):Prop:=p=3\/p=9\/p=16
local macro_rules|`(tactic|walk_at"p")=>`(tactic|simp[uO,CH,AK,BB,C6,GB])
def ab'(p:Int)(ns:List Int)(xs:List (List Int)):Prop:=(∃q:Nat,p=q/\LG[q]?=aa ns.length)/\K6 ((p::ns)::xs)=(p::ns)::xs/\∃c ls,K8 ((p::ns)::xs)=aa c/\uO p ns ls c/\((xs=[ls]/\GB p)\/(xs=[]/\ls=[]/\¬GB p))
def O3{p:Int}{xs:List (List Int)}(h:uG p=aa (ns.length,xs.length)):ab' p ns xs:=by
 have Y:0<=p/\p<=19:=by refine Decidable.by_contra λq=>?_;unfold uG at h;simp only[show¬p=0 by lia,show¬p=1 by lia,show¬p=2 by lia,show¬p=3 by lia,show¬p=4 by lia,show¬p=5 by lia,show¬p=6 by lia,show¬p=7 by lia,show¬p=8 by lia,show¬p=9 by lia,show¬p=10 by lia,show¬p=11 by lia,show¬p=12 by lia,show¬p=13 by lia,show¬p=14 by lia,show¬p=15 by lia,show¬p=16 by lia,show¬p=17 by lia,show¬p=18 by lia,show¬p=19 by lia,if_false]at h;cases h
 obtain⟨q,rfl⟩:=i5 Y.1;have Z:q<20:=by lia
 have key:∀n k,aa (n,k)=aa (ns.length,xs.length)->ns.length=n/\xs.length=k:=λn k e=>by cases e;exact⟨U,U⟩
 match q,Z with
 |0,_=>
  obtain⟨a,b⟩:=key 1 0 h;obtain⟨x,rfl⟩:=n_ a;cases gh.mp b;exact⟨⟨_,U,U⟩,U,_,[],U,by walk_at"p",by walk_at"p"⟩
 |1,_=>
  obtain⟨a,b⟩:=key 1 0 h;obtain⟨x,rfl⟩:=n_ a;cases gh.mp b;exact⟨⟨_,U,U⟩,U,_,[],U,by walk_at"p",by walk_at"p"⟩
 |2,_=>
  obtain⟨a,b⟩:=key 1 0 h;obtain⟨x,rfl⟩:=n_ a;cases gh.mp b;exact⟨⟨_,U,U⟩,U,_,[],U,by walk_at"p",by walk_at"p"⟩
 |3,_=>
  obtain⟨a,b⟩:=key 1 1 h;obtain⟨x,rfl⟩:=n_ a;obtain⟨l,rfl⟩:=n_ b;exact⟨⟨_,U,U⟩,U,_,l,U,by walk_at"p",by walk_at"p"⟩
 |4,_=>
  obtain⟨a,b⟩:=key 2 0 h;obtain⟨x,y,rfl⟩:=Gr a;cases gh.mp b;exact⟨⟨_,U,U⟩,U,_,[],U,by walk_at"p",by walk_at"p"⟩
 |5,_=>
  obtain⟨a,b⟩:=key 4 0 h;obtain⟨x,y,z,u,rfl⟩:=ZY a;cases gh.mp b;exact⟨⟨_,U,U⟩,U,_,[],U,by walk_at"p",by walk_at"p"⟩
 |6,_=>
  obtain⟨a,b⟩:=key 3 0 h;obtain⟨x,y,z,rfl⟩:=Gs a;cases gh.mp b;exact⟨⟨_,U,U⟩,U,_,[],U,by walk_at"p",by walk_at"p"⟩
 |7,_=>
  obtain⟨a,b⟩:=key 2 0 h;obtain⟨x,y,rfl⟩:=Gr a;cases gh.mp b;exact⟨⟨_,U,U⟩,U,_,[],U,by walk_at"p",by walk_at"p"⟩
 |8,_=>
  obtain⟨a,b⟩:=key 5 0 h;obtain⟨x,y,z,u,v,rfl⟩:=ZZ a;cases gh.mp b;exact⟨⟨_,U,U⟩,U,_,[],U,by walk_at"p",by walk_at"p"⟩
 |9,_=>
  obtain⟨a,b⟩:=key 1 1 h;obtain⟨x,rfl⟩:=n_ a;obtain⟨l,rfl⟩:=n_ b;exact⟨⟨_,U,U⟩,U,_,l,U,by walk_at"p",by walk_at"p"⟩
 |10,_=>
  obtain⟨a,b⟩:=key 3 0 h;obtain⟨x,y,z,rfl⟩:=Gs a;cases gh.mp b;exact⟨⟨_,U,U⟩,U,_,[],U,by walk_at"p",by walk_at"p"⟩
 |11,_=>
  obtain⟨a,b⟩:=key 3 0 h;obtain⟨x,y,z,rfl⟩:=Gs a;cases gh.mp b;exact⟨⟨_,U,U⟩,U,_,[],U,by walk_at"p",by walk_at"p"⟩
 |12,_=>
  obtain⟨a,b⟩:=key 2 0 h;obtain⟨x,y,rfl⟩:=Gr a;cases gh.mp b;exact⟨⟨_,U,U⟩,U,_,[],U,by walk_at"p",by walk_at"p"⟩
 |13,_=>
  obtain⟨a,b⟩:=key 1 0 h;obtain⟨x,rfl⟩:=n_ a;cases gh.mp b;exact⟨⟨_,U,U⟩,U,_,[],U,by walk_at"p",by walk_at"p"⟩
 |14,_=>
  obtain⟨a,b⟩:=key 0 0 h;cases yq a;cases gh.mp b;exact⟨⟨_,U,U⟩,U,_,[],U,by walk_at"p",by walk_at"p"⟩
 |15,_=>
  obtain⟨a,b⟩:=key 1 0 h;obtain⟨x,rfl⟩:=n_ a;cases gh.mp b;exact⟨⟨_,U,U⟩,U,_,[],U,by walk_at"p",by walk_at"p"⟩
 |16,_=>
  obtain⟨a,b⟩:=key 0 1 h;cases yq a;obtain⟨l,rfl⟩:=n_ b;exact⟨⟨_,U,U⟩,U,_,l,U,by walk_at"p",by walk_at"p"⟩
 |17,_=>
  obtain⟨a,b⟩:=key 0 0 h;cases yq a;cases gh.mp b;exact⟨⟨_,U,U⟩,U,_,[],U,by walk_at"p",by walk_at"p"⟩
 |18,_=>
  obtain⟨a,b⟩:=key 0 0 h;cases yq a;cases gh.mp b;exact⟨⟨_,U,U⟩,U,_,[],U,by walk_at"p",by walk_at"p"⟩
 |19,_=>
  obtain⟨a,b⟩:=key 0 0 h;cases yq a;cases gh.mp b;exact⟨⟨_,U,U⟩,U,_,[],U,by walk_at"p",by walk_at"p"⟩
def AZ(s:fV)(k:Nat)(row:List aE):(ic s k row).1.changes.length<=s.changes.length+1:=by
 unfold ic;split
 .show (s.changes++[_]).length<=_;rw[bb];exact bp _
 .exact cS _
def ahe(s:fV)(c:Ag):(lH s c).1.changes.length<=s.changes.length+1:=by
 cases c with
 |author a=>unfold lH;dsimp only;split<;>exact cS _
 |clock a=>unfold lH;dsimp only;split;exact cS _;split<;>exact cS _
 |track a=>unfold lH;dsimp only;split<;>exact cS _
 |put p l=>show(mG s p l).1.changes.length<=_;unfold mG;split;exact cS _;split;exact cS _;exact AZ _ _ _
 |cut p q=>show(o7 s p q).1.changes.length<=_;unfold o7;split;exact cS _;exact AZ _ _ _
 |paint p q k v=>show(mF s p q k v).1.changes.length<=_;unfold mF;split;exact cS _;split;exact cS _;exact AZ _ _ _
 |move p q r=>show(mE s p q r).1.changes.length<=_;unfold mE;split;exact cS _;split;exact cS _;exact AZ _ _ _
 |tag p q k v=>show(Vatrka.stepTag s p q k v).1.changes.length<=_;unfold Vatrka.stepTag;split;exact cS _;split;exact cS _;exact cS _
 |_=>exact cS _
def sM(s:bf)(c:Ag):bj (qp s c).1<=bj s+1:=by
 have:=ahe s.doc c;unfold qp
 try dsimp only
 split
 .exact this
 .exact cS _
def Wm(s:bf)(c:bV):bj (cP s c).1<=bj s+1:=by
 cases c with
 |author a=>exact sM s _
 |clock a=>exact sM s _
 |track a=>exact sM s _
 |put p l=>exact sM s _
 |cut p q=>exact sM s _
 |paint p q k v=>exact sM s _
 |move p q r=>exact sM s _
 |judge v c=>show bj (nJ s v c).1<=_;unfold nJ;split;exact cS _;split<;>exact cS _
 |judgeby v a k Z Y=>show bj (nM s v a k Z Y).1<=_;unfold nM;split;exact cS _;split<;>exact cS _
 |judgelist v l=>show bj (nN s v l).1<=_;unfold nN;split;exact cS _;split<;>exact cS _
 |judgetouching v i j=>show bj (nP s v i j).1<=_;unfold nP;split;exact cS _;split<;>exact cS _
 |judgepart v i j=>show bj (nO s v i j).1<=_;unfold nO;split;exact cS _;split<;>exact cS _
 |_=>exact cS _
def agc{p t:Nat}(h:ab.WF s)(b:ab.dE s p t)(Z:p<=16001)(Y:t<=400)(he:bj s<=t):Sz s:=by refine⟨h,?_,by lia⟩;have W:=b.bG;have X:p*(t+1)<=16001*401:=Nat.mul_le_mul Z (by lia);lia
def aeF{p:Int}{ls:List Int}(h:uO p ns ls c):ab.Qu c<=ls.length:=by
 rcases h with⟨x,_,h⟩|h|h|h
 .rcases h with⟨_,rfl⟩|⟨_,rfl⟩|⟨_,rfl⟩<;>exact cN _
 .rcases h with⟨_,x,_,rfl⟩|⟨_,x,y,_,rfl⟩|⟨_,x,y,z,u,_,rfl⟩|⟨_,x,y,z,_,rfl⟩<;>first|exact bp _|exact cN _
 .rcases h with⟨_,x,y,_,rfl⟩|⟨_,x,y,z,u,v,_,rfl⟩|⟨_,x,_,rfl⟩|⟨_,x,y,z,_,rfl⟩|⟨_,x,y,z,_,rfl⟩<;>exact cN _
 .rcases h with⟨_,x,y,_,rfl⟩|⟨_,x,_,rfl⟩|⟨_,rfl⟩|⟨_,x,_,rfl⟩|⟨_,rfl⟩|⟨_,rfl⟩|⟨_,rfl⟩|⟨_,rfl⟩<;>exact cN _
def pl(s:bf)(cs:List (List (List Int))):List Int:=J' (J_ Ex s cs)
def acT{x:List (List Int)}(h:K8 x=aa c)(r:List (List (List Int))):pl s (x::r)=((gO (cP s c).2).length:Int)::(gO (cP s c).2++pl (cP s c).1 r):=by
 unfold pl J';rw[J_];have e:Ex s x=((cP s c).1,gO (cP s c).2):=by unfold Ex;rw[h]
 rw[e,dW,oF]
def NY{Z:Type}(l a b c:List Z)(e:l=a++(b++c)):(l.drop a.length).take b.length=b:=by rw[e,List.drop_left,List.take_left]
def JF(H H':Hp):Prop:=∀b o u,H b=aa (.cJ o u)->H' b=aa (.cJ o u)
def Uq(h:H cl=aa (.aC [])):ea C H cl [] []:=⟨oK,h,U,λi a c e=>by simp at e⟩
theorem Ce(x:List (List Int)):∀done:List (List (List Int)),cH (done++[x])=cH done++rS x
 |[]=>by show rS x++[]=_;rw[ee];rfl
 |y::done=>by show rS y++cH (done++[x])=(rS y++cH done)++_;rw[Ce x done,fm]
structure AI (K:aw) (A:br) (Pt t cl tl:ae) (zs ez:List Int) (H0 H':Hp) (done rest:List (List (List Int))) (st:bf) (ns:List Int):Prop where
 put:zs=cH done++cH rest
 ok:∀c∈rest,DT uG c
 dh:done.length+rest.length<=400
 text:∃ca rs,cV K A H' t cl ca st rs
 wf:ab.WF st
 qt:ab.dE st (1+(cH done).length) done.length
 E1:bj st<=done.length
 tab:gA Pt H'
 told:H' tl=aa (.aC (ns.map V.int))
 sum:ns++pl st rest=ez
 cJ:JF H0 H'
 ne:tl≠cl
theorem AI.same{t cl tl:ae}{zs ez:List Int}{Y X Z:Hp}{done rest:List (List (List Int))}{st:bf}{ns:List Int}(h:AI K A Pt t cl tl zs ez Y X done rest st ns)(s:aF X Z):AI K A Pt t cl tl zs ez Y Z done rest st ns:=
 ⟨h.put,h.ok,h.dh,(let⟨ca,rs,x⟩:=h.text;⟨ca,rs,x.kX (S:=[]) (s.x _) (by simp)⟩),h.wf,h.qt,h.E1,h.tab.same s,s _ _ h.told,h.sum,λb o u e=>s _ _ (h.cJ b o u e),h.ne⟩
def Tw(K:aw)(A:br)(Pt:ae):TS:=C2 (wc (CZ (CQ uO K A Pt) [] E0 (m_ (ng 1) (m_ (ng 4) (m_ (ng 6) (m_ (ng 7) oy))))) (qA 9)) (C2 (IV (CY K "list" Pz (ng 2) (m_ (tZ (HK K) (m_ (ng 9) oy)) oy))) (C2 (IV (CY K "list" (PF K) (ng 2) (m_ (ng 9) oy))) (wc (ng 5) (qA 3))))
def Q3{t tl D:ae}{zs ez:List Int}{done rest:List (List (List Int))}{st:bf}{x:List (List Int)}{p:Int}{bs ls:List Int}{xs:List (List Int)}{e3:Int}{x8 B:Option V}{dn db dc:L2.St->Hp->Prop}{dr:VK}{e:Nat}(h:AI K A Pt t cl tl zs ez H0 H done (x::rest) st ns)(hz:zs.length<=16000)(hT:ez.length<=10000000)(hx:x=(p::bs)::xs)(hc:K8 x=aa c)(C:uO p bs ls c)(Fz:ls.length<=(rS x).length)(j:H nl=aa (.aC (bs.map V.int)))(g:H D=aa (.aC (ls.map V.int)))(he:e=(cH (done++[x])).length)(k:∀B v H',AI K A Pt t cl tl zs ez H0 H' (done++[x]) rest (cP st c).1 v->dn [aa (.ref a),aa (.ref t),aa (.ref tl),aa (.int (e:Nat)),aa (.int p),aa (.int (e:Nat)),aa (.ref nl),aa (.ref D),x8,B] H'):Tw K A Pt ⟨dn,dr,db,dc⟩ [aa (.ref a),aa (.ref t),aa (.ref tl),aa (.int e3),aa (.int p),aa (.int (e:Nat)),aa (.ref nl),aa (.ref D),x8,B] H:=by
 obtain⟨ca,rs,tx⟩:=h.text;have gT:=eF;have G:=h.dh;rw[bY]at G;have vh:zs.length=(cH done).length+((rS x).length+(cH rest).length):=by rw[h.put,bb];show _+(rS x++cH rest).length=_;rw[bb]
 have z:=agc h.wf h.qt (by lia) (by lia) h.E1;have X:=h.sum;rw[acT hc]at X;have I:=b_ fo X;rw[bb,bY,bb]at I;have O:=ab.af9 h.wf h.qt c;refine⟨t,cl,ca,st,rs,c,nl,D,p,bs,ls,U,tx,z,j,g,by lia,by lia,h.tab,C,λl T9 L H' E q2 q3 q4 q5 q6=>?_⟩;have w:tl∉Pt::t::cl::ca:=λq=>by
  rcases bJ.mp q with q|q
  .exact h.tab.ne h.told (by intros;simp) q
  .obtain ⟨rl,Z,_⟩:=tx.ex;rcases bJ.mp q with q|q
   .obtain ⟨dx,T⟩:=Z.tx;have:=h.told;rw[q,T]at this;cases this
   .rcases bJ.mp q with q|q
    .exact h.ne q
    .obtain ⟨c',F,M⟩:=Z.aI.mem q;have:=h.told;rw[M]at this;cases this
 have Y:H' tl=aa (.aC (ns.map V.int)):=q4 _ _ h.told w;have J:l≠tl:=λq=>by rw[q,h.told]at q3;cases q3
 refine⟨.inl ⟨U,_,aL.of Y⟩,l,_,U,dB.ls q2,tl,_,_,U,U,Y,by rw[aP];lia,?_⟩;refine⟨.inl ⟨U,_,aL.of aJ⟩,tl,l,_,_,U,U,aJ,.inl (by rw[a_ J];exact q2),by rw[bb,aP,aP];show _+1+_<=_;lia,?_⟩;rw[fO];refine(k _ (ns++((gO (cP st c).2).length:Int)::gO (cP st c).2) _ ⟨?_,λy hy=>h.ok y (cj _ hy),by rw[bb];show _+1+_<=_;lia,?_,O.1,?_,?_,?_,?_,?_,λb o u N=>?_,h.ne⟩)
 .rw [h.put,Ce,fm];rfl
 .obtain ⟨rl,Z,P⟩:=E.ex;have i:L≠[]:=λq=>by
   obtain⟨r,y,T,_⟩:=O.1.kS;have:=E.ao;rw[q,T]at this;have:=b_ fo this;rw[bb]at this;exact bq this (c8 (J8 _))
  have m:rl≠tl:=λq=>by
   obtain⟨ys,y0,W,_⟩:=P;rw[q,Y]at W;cases ys with
   |nil=>exact i (by rw[<-y0];rfl)
   |cons y ys=>
    injection W with W;injection W with W;cases ns with
    |nil=>cases W
    |cons n ns=>
     rw[bM,bM]at W;injection W with W;cases W
  have s:t≠tl:=λq=>by obtain⟨dx,T⟩:=Z.tx;rw[q,Y]at T;cases T
  obtain⟨dx,T⟩:=id Z.tx;refine⟨T9,L,⟨rl,⟨⟨dx,by rw[a_ s];exact T⟩,Z.aI.x ir ‹cU h.ne› λa C=>?_,Z.hZ⟩,P.x ir ‹m› λb d o N f=>?_⟩,E.ao,E.bN⟩
  .obtain ⟨c',F,M⟩:=Z.aI.mem C;simp;intro q;rw[q,Y]at M;cases M
  .rw [bx.mp d,Y]at N;cases N;exact f
 .have hsg:=aeF C;have:=O.2.mono (Q:=1+(cH (done++[x])).length) (u:=(done++[x]).length) (by rw[Ce,bb];lia) (by rw[bb];exact bp _);exact this
 .have:=Wm st c;have:=h.E1;rw[bb];show _<=_+1;lia
 .exact q5.x (S:=[tl]) ir λb d o N=>by rw[bx.mp d,Y]at N;cases N;exact⟨by intros;simp,by intros;simp⟩
 .rw [aJ,cG,bM,aP,fm];rfl
 .rw [<-X,fm];rfl
 .have R:=h.cJ b o u N;rw[a_ (λq=>by rw[q,h.told]at R;cases R)];refine q4 _ _ R λq=>?_;rcases bJ.mp q with q|q
  .exact h.tab.ne R (by intros;simp) q
  .obtain ⟨rl,Z,_⟩:=tx.ex;rcases bJ.mp q with q|q
   .obtain ⟨dx,T⟩:=Z.tx;rw[q,T]at R;cases R
   .rcases bJ.mp q with q|q
    .rw [q,Z.aI.aC]at R;cases R
    .obtain ⟨c',F,M⟩:=Z.aI.mem q;rw[M]at R;cases R
def k7:Sc ["calls","text","told","at","call","behind","numbers","listed","start","answer"] 1 125:=by walk_at"s"
inductive IH(K:aw)(Pt:ae)(vs:List V)(H:Hp)(Q:VK)(_:XK):Prop|mk(a cs:_)(zs:List Int)(_:vs=[.ref a])(_:(∀H',JF H H'->aL K H' a (zs.map V.int)))(_:zs.length<=16000)(_:zs=cH cs)(_:(∀c∈cs,DT uG c))(_:cs.length<=400)(_:(pl kK cs).length<=10000000)(_:gA Pt H)(_:∀l H',H' l=aa (.aC ((pl kK cs).map V.int))->Q (.ref l) H')
def abl:Cz Z "answers" ["calls"] 11 (IH K Pt):=by
 refine Z.UL.ok k7 λf eA Ar outer s H vs Q E hr h=>?_;obtain⟨a,cs,zs,rfl,vj,yo,YA,aW,nW,M,tb,k⟩:=h;have gT:=eF;refine⟨_,(aH (qS 1 k7.nd (O_ (abe Z:) (hr.mono (by decide)) U)) (aH (qS 2 k7.nd (b9 aq)) (aH (qS 3 k7.nd aU) (aH (ac4 eK (cK pN (pv 3) (qN K Z.eQ (ai (pv 0) aq)) (cB _)) (aH (qS 4 k7.nd (qL K (pv 0) (pv 3))) (aH (qS 5 k7.nd (b6 f9 (b6 f9 (pv 3) aU) (qT K (vL U Z.WW) (pv 4)))) (aH (qS 6 k7.nd (oh (r:=tQ K) v_ (pv 0) (kc (b6 f9 (pv 3) aU)) (kc (pv 5)))) (aH (qS 7 k7.nd (b9 aq)) (aH (bO (d_ (qF (abq Z:) hr (ai (pv 4) aq))) (aH (qS 8 k7.nd (b6 f9 (pv 5) aU)) (aH (qS 5 k7.nd (b6 f9 (pv 8) (qL K (pv 0) (pv 5)))) (aO (qS 7 k7.nd (oh (r:=tQ K) v_ (pv 0) (kc (pv 8)) (kc (pv 5))))))) bX) (aH (qS 9 k7.nd (qF (abg Z:) hr (ai (pv 1) (ai (pv 4) (ai (pv 6) (ai (pv 7) aq)))))) (aH (eT (fA fQ jQ kz j6 (pv 2) (ai (qN K Z.eQ (ai (pv 9) aq)) aq))) (aH (eT (fA fQ lz nB m3 (pv 2) (ai (pv 9) aq))) (aO (qS 3 k7.nd (pv 5)))))))))))) (aO (bc (pv 2))))))),?_⟩;refineλt dx nt yx ne=>⟨t,dx,U,aJ,λcl rl H1 mW L Bv ncl ZI=>⟨U,?_⟩⟩;have s1:aF H H1:=aF.made nt yx ZI;refine⟨cN _,λtl C=>?_⟩;have s2:=bg (o:=.aC []) C;have iq:=s1.trans s2;have tx0:cV K A H1 t cl [] kK [Cq]:=⟨⟨rl,⟨mW,Uq L,U⟩,Bv⟩,U,λr hr=>by rw[bx.mp hr];exact List.cons_ne_nil _ _⟩;have Tt:AI K A Pt t cl tl zs (pl kK cs) H (aM H1 tl (.aC [])) [] cs kK []:=by refine⟨YA,aW,‹nW›,⟨_,_,tx0.kX (S:=[]) (s2.x _) (by simp)⟩,ab.QK.1,ab.QK.2,bp _,tb.same iq,aJ,U,λb o u e=>iq _ _ e,λq=>by rw[q,L]at C;cases C⟩
 refine⟨λm σ g=>∃done rest st ns x4 x5 x6 x7 x8 l,m=rest.length/\σ=[aa (.ref a),aa (.ref t),aa (.ref tl),aa (.int ((cH done).length:Nat)),x4,x5,x6,x7,x8,l]/\AI K A Pt t cl tl zs (pl kK cs) H g done rest st ns,⟨_,[],cs,_,_,aj,aj,aj,aj,aj,aj,U,U,Tt⟩,?_⟩
 rintro m σ H2 ⟨done,rest,st,ns,x4,x5,x6,x7,x8,l,rfl,rfl,I⟩
 have R:=vj H2 I.cJ;have z:zs.length=(cH done).length+(cH rest).length:=by rw[I.put,bb]
 refine⟨a,_,U,.inl ⟨_,.inl R,U⟩,?_⟩;rw[aP];cases rest with
 |nil=>
  refine aZ (λN=>?_) λ_=>k tl H2 ?_
  .have N:decide (((cH done).length:Int)<(zs.length:Int))=ah:=N;rw[z]at N;have N:decide (((cH done).length:Int)<(((cH done).length+0:Nat):Int))=ah:=N;simp at N
  rw[I.told,<-I.sum];show _=aa (HO.aC ((ns++[]).map V.int));rw[ee]
 |cons x rest=>
  obtain⟨p,bs,xs,i,pE⟩:=I.ok x cy;obtain⟨⟨q,rfl,Bb⟩,_,c,ls,w,J,P⟩:=O3 pE;rw[<-i]at w;have X:zs=cH done++(((q:Int)::bs++qf xs)++cH rest):=by rw[I.put,i];rfl
  have nZ:zs.length=(cH done).length+(1+bs.length+(qf xs).length+(cH rest).length):=by rw[X];simp only[bb,bY];lia
  refine aZ (λ_=>?_) λN=>bq (show decide (((cH done).length:Int)<(zs.length:Int))=aB from N) (by rw[dg (by lia)];decide);refine⟨λd g=>∃W Y G T x4 x5 x6 x7 x8 l,Y.length=rest.length/\d=[aa (.ref a),aa (.ref t),aa (.ref tl),aa (.int ((cH W).length:Nat)),x4,x5,x6,x7,x8,l]/\AI K A Pt t cl tl zs (pl kK cs) H g W Y G T,λd g ⟨W,Y,G,T,y4,y5,y6,y7,y8,y9,e1,e2,e3⟩=>⟨Y.length,by rw[e1];exact qc _,W,Y,G,T,y4,y5,y6,y7,y8,y9,U,e2,e3⟩,?_⟩;have g0:zs[(cH done).length]?=aa (q:Int):=by rw[X,p_ (bp _),DP];rfl
  have gc:(LG.map NI)[q]?=aa (NI bs.length):=by rw[cf,Bb];rfl
  have c1:fi (zs.map V.int) (aa (((cH done).length:Int)+1)) (aa (((cH done).length:Int)+1+(bs.length:Int)))=bs.map V.int:=by have:=AO (xs:=zs.map V.int) (m:=(cH done).length+1) (n:=(cH done).length+1+bs.length) (by lia) (by rw[aP];lia);refine Eq.trans this ?_;rw[<-lx,<-ly,Sa];congr 1;have:=NY zs (cH done++[(q:Int)]) bs (qf xs++cH rest) (by rw[X];simp);rw[bb]at this;exact this
  refine⟨a,_,_,_,U,U,R,bt (by rw[cf,g0];rfl),?_⟩;refine⟨A.xR,_,_,_,U,U,Z.xR H2,bt gc,?_⟩;refine⟨a,_,U,R,λnl Oi=>?_⟩;rw[show fi (zs.map V.int) _ _=bs.map V.int from c1];have s3:=bg (o:=.aC (bs.map V.int)) Oi;refine⟨cN _,λll B=>?_⟩;have s4:=bg (o:=.aC []) B;have Fy:nl≠ll:=λq=>by rw[<-q,aJ]at B;cases B
  have y:(cH (done++[x])).length=(cH done).length+(1+bs.length+(qf xs).length):=by rw[Ce,bb,i];show _+((q:Int)::bs++qf xs).length=_;rw[bb,bY];lia
  have hp1:(rS x).length=1+bs.length+(qf xs).length:=by rw[i];show((q:Int)::bs++qf xs).length=_;rw[bb,bY];lia
  refine⟨(q:Int),U,λH5 s5=>(aZ (λhb=>?_) λhb=>?_)⟩
  .have hl:=cQ hb;rcases P with⟨rfl,_⟩|⟨_,_,FF⟩
   .have D:=s3.trans (s4.trans s5);have Lb:=I.same D;have O:=vj H5 Lb.cJ;have YK:(qf [ls]).length=1+ls.length:=by show((ls.length:Int)::ls++[]).length=_;rw[ee,bY];lia
    have g1:zs[(cH done).length+1+bs.length]?=aa (ls.length:Int):=by
     have e1:zs=(cH done++((q:Int)::bs))++((ls.length:Int)::(ls++cH rest)):=by rw[X];show _++(((q:Int)::bs++((ls.length:Int)::ls++[]))++_)=_;simp
     rw[e1,p_ (by rw[bb,bY];lia)];rw[show(cH done).length+1+bs.length-(cH done++((q:Int)::bs)).length=0 by rw[bb,bY];lia];rfl
    have c2:fi (zs.map V.int) (aa (((cH done).length:Int)+1+(bs.length:Int)+1)) (aa (((cH done).length:Int)+1+(bs.length:Int)+1+(ls.length:Int)))=ls.map V.int:=by
     have:=AO (xs:=zs.map V.int) (m:=(cH done).length+1+bs.length+1) (n:=(cH done).length+1+bs.length+1+ls.length) (by lia) (by rw[aP];lia);refine Eq.trans this ?_;rw[<-lx,<-ly,Sa];congr 1;have:=NY zs (cH done++((q:Int)::bs)++[(ls.length:Int)]) ls (cH rest) (by rw[X];show _++(((q:Int)::bs++((ls.length:Int)::ls++[]))++_)=_;simp)
     rw[bb,bb,bY]at this;rw[show(cH done).length+1+bs.length+1=(cH done).length+(bs.length+1)+[(ls.length:Int)].length by show _=_+1;lia];exact this
    refine ?_;refine⟨a,_,_,_,U,U,O,bt (j:=(cH done).length+1+bs.length) (by rw[cf,g1];rfl),?_⟩;refine⟨a,_,U,O,λl2 nl2=>?_⟩;rw[show fi (zs.map V.int) _ _=ls.map V.int from c2];have s6:=bg (o:=.aC (ls.map V.int)) nl2;exact Q3 (e:=(cH done).length+1+bs.length+1+ls.length) (Lb.same s6) yo M i w J (by lia) (s6 _ _ (s5 _ _ (s4 _ _ aJ))) aJ (by lia) λl T g v=>⟨done++[x],rest,_,T,_,_,_,_,_,_,U,(by rw[y,YK,show(cH done).length+(1+bs.length+(1+ls.length))=(cH done).length+1+bs.length+1+ls.length by lia]),v⟩
   .exact bq hl FF
  .have hl:=fh hb;rcases P with⟨_,Y9⟩|⟨rfl,rfl,_⟩
   .exact bq Y9 hl
   .have D:=s3.trans (s4.trans s5);exact Q3 (e:=(cH done).length+1+bs.length) (I.same D) yo M i w J (cN _) (s5 _ _ (s4 _ _ aJ)) (s5 _ _ aJ) (by rw[y];show _=_+(1+_+0);lia) λl T g v=>⟨done++[x],rest,_,T,_,_,_,_,_,_,U,(by rw[y,show(cH done).length+(1+bs.length+(qf []).length)=(cH done).length+1+bs.length by show _+(_+0)=_;lia]),v⟩
def aap(cs:List (List (List Int)))(h:∀c∈cs,DT uG c):cs.map K6=cs:=by
 conv=>rhs;rw[<-kx cs]
 refine gY λc m=>?_;obtain⟨p,bs,xs,Y,Z⟩:=h c m;rw[Y];exact(O3 Z).2.1
def TN{l:List Int}(h:K5 l=ah):∃cs,l=cH cs/\(∀c∈cs,DT uG c)/\cs.length<=400/\(pl kK cs).length<=10000000/\Ad l=pl kK cs:=by
 unfold K5 at h;have Z:Ad l=match Ae l with|none=>[]|some cs=>J' (J_ Ex VatrkcNeutral.start cs):=rfl
 cases e:PyFlat.calls uG l.length l with
 |none=>
  have Y:Ae l=aj:=by unfold Ae;rw[e]
  rw[Y]at h;cases h
 |some cs=>
  obtain⟨W,X⟩:=PyFlat.put_calls _ _ _ e;have Y:Ae l=aa cs:=by unfold Ae;rw[e];show aa (cs.map K6)=_;rw[aap cs X]
  rw[Y]at h Z;have h:(PyFlat.atMost 400 cs&&VatrkcNeutral.asked cs&&PyFlat.short 10000000 (Ad l))=ah:=h;rw[fk,fk]at h;have Z:Ad l=pl kK cs:=Z;refine⟨cs,W,X,cQ h.1.1,?_,Z⟩;rw[<-Z];exact cQ h.2
def Wx:SS IH:=λ{K Pt p H l E d} T X hs W V hd=>by
 obtain⟨cs,O,P,Q,R,S⟩:=TN V;refine⟨p,cs,l,U,λZ fr=>?_,W,O,P,Q,R,⟨#[],aJ,trivial,.inl U⟩,λq Z Y=>hd Z q (by rw[S];exact Y)⟩;rcases hs with(hs|⟨o,hs⟩)|hs
 .rcases T p with z|⟨o,u,z⟩
  .rw [z]at hs;cases hs
  .rw [z]at hs;cases hs
 .exact .inl (.inr ⟨o,fr _ _ _ (by rw[a_ (f7 hs X)];exact hs)⟩)
 .exact .inr hs
def Wv:SF IH:=λ{P w K mg V c Pt A} Z T S hC base _ _ hB=>by obtain⟨f,W,F,Y,hk,X⟩:=(abl (show Zd P w K mg base A c Pt from⟨S,T,hB,hC⟩)).ex;cases Y.symm.trans Z;exact⟨W,X,F⟩
end TV
theorem PySem.Challenge.cw_trackverdict_s01_answers_holds : PySem.Challenge.rw_trackverdict_s01_answers.Holds := by
 exact PySem.Challenge.cw_x TV.Wv TV.Wx
