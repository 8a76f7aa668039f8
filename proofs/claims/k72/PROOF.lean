import PyProof.Rows.All
import Wide.All
import OpenK.AllK
import Wide.FinOn
import Lean
import PyProof.EqAt
import PyProof.EqKinds
import PyProof.TupleCall
import PyProof.DictItems
import KE.KPairComp
import KE.KDictList
import PyProof.ListRange
import KE.KUnpack
import KE.KEqDict
import PyProof.DictFindH
import KE.KDictSum
import PyProof.AutoListH
import PyProof.SumAny
import PyProof.Rows.Range3
import KE.KStateDown
import KE.KSortTup
import KE.KLam
import KE.KNestM
import KE.KDictOf
import PyProof.AttrMissHeap
import KE.KRevSl
import PyProof.RaisesMany
import PyProof.ExcInit
import PyProof.ExcClass2
import PyProof.RulesTry
import PyProof.PassesOwn
import OpenK.KOwn
import PyProof.RulesDel
import KE.KIsAll
import PyProof.EnumMake
import PyProof.LayNew
import PyProof.ZipIter
import PyProof.Rows.ZipGen
import KE.KIntText
import KE.KMinKey
import PyProof.SetKind
import PyProof.TupleKey
import PyProof.IsRules
import PyProof.Rows.SetFrom
import PyProof.SetRoads
import PyProof.FactsAll.set
import PySem.Challenge.RW_skewread_k72_least_and_all
set_option Elab.async false
set_option linter.all false
set_option genSizeOf false
set_option genInjectivity false
set_option maxRecDepth 100000
def qp:Nat->Lean.TSyntax `term->Lean.MacroM (Lean.TSyntax `rcasesPat)
 |0,_=>Lean.Macro.throwUnsupported
 |n+1,t=>do
  let s:=(t.raw.getArgs.find? (·.isOfKind ``«term{_}»)).getD t.raw
  if s.isOfKind ``«term{_}»||s.isOfKind ``Lean.Parser.Term.anonymousCtor then
   let ps<-s[1].getSepArgs.mapM fun t=>do
    let p<-qp n ⟨t⟩
    `(Lean.Parser.Tactic.rcasesPatLo|$p:rcasesPat)
   `(rcasesPat|⟨$ps,*⟩)
  else match t with
  |`(_)=>`(rcasesPat|_)
  |`($i:ident)=>`(rcasesPat|$i:ident)
  |_=>Lean.Macro.throwUnsupported
theorem rd{α:Sort u}{a p:α->Prop}{w:α}(h:a w)(k:p w):∃x,a x/\p x:=⟨w,h,k⟩
theorem rd2{α:Sort u}{β:Sort v}{a:α->Prop}{b p:α->β->Prop}{w:α}{y:β}(h:a w)(i:b w y)(k:p w y):∃x,a x/\∃z,b x z/\p x z:=⟨w,h,y,i,k⟩
theorem rd3{α:Sort u}{β:Sort v}{B:Sort t}{a:α->Prop}{b:α->β->Prop}{c p:α->β->B->Prop}{w:α}{y:β}{v:B}(h:a w)(i:b w y)(j:c w y v)(k:p w y v):∃x,a x/\∃z,b x z/\∃q,c x z q/\p x z q:=⟨w,h,y,i,v,j,k⟩
def rdw(t:Lean.TSyntax `term):Nat->Lean.MacroM (Lean.TSyntax `term)
 |0=>pure t
 |1=>`(rd rfl $t)
 |2=>`(rd2 rfl rfl $t)
 |n+3=>do
  let r<-rdw t n
  `(rd3 rfl rfl rfl $r)
def rdb(r:Array (Lean.TSyntax `term)):Lean.MacroM (Lean.TSyntax `term):=if h:r.size=1 then pure r[0] else `(⟨$r,*⟩)
theorem W{α:Sort u}{a:α}:a=a:=Eq.refl a
def exs(es:Array (Lean.TSyntax `term)):Lean.MacroM (Lean.TSyntax `tactic):=do
 let mut a:Array (Lean.TSyntax `term):=#[]
 for e in es do
  if e.raw.isOfKind ``Lean.Parser.Term.cdot then a:=a++#[<-`(_),<-`(rfl)] else a:=a.push e
 let mut r:Array (Lean.TSyntax `term):=#[]
 let mut c:=0
 for e in es.reverse do
  if e.raw.isOfKind ``Lean.Parser.Term.cdot then
   if r.isEmpty then r:=#[<-`(_),<-`(rfl)] else c:=c+1
  else if c=0 then r:=#[e]++r
  else
   r:=#[e,<-rdw (<-rdb r) c]
   c:=0
 let t<-rdw (<-rdb r) c
 `(tactic| first | refine $t | refine ⟨$a,*⟩)
local macro_rules(kind:=«term{_}»)|`({$x:term,*})=>`(⟨$x,*⟩)
local macro_rules(kind:=choice)|s=>match s.getArgs.find? (·.isOfKind ``«term{_}») with|some t=>pure t|_=>if s.getArgs.any (·.isOfKind ``«term{}») then `(by first|kernel_rfl|exact λ_ _=>rfl|rfl) else Lean.Macro.throwUnsupported
local macro_rules | `(def $n:declId $s:optDeclSig $v:declVal)=>Lean.MonadRef.withRef .missing `(noncomputable def $n:declId $s:optDeclSig $v:declVal)
local macro_rules | `(abbrev $n:declId $s:optDeclSig $v:declVal)=>Lean.MonadRef.withRef .missing `(noncomputable abbrev $n:declId $s:optDeclSig $v:declVal)
open List renaming length_map->Ja,getElem?_eq_getElem->Jb,length_append->Jc,getElem?_eq_some_iff->Jd,mem_cons_self->Je,append_assoc->Jf,mem_cons_of_mem->Jg,take_succ_eq_append_getElem->Jh,map_append->Ji,mem_singleton->Jj,map_cons->Jm,prefix_refl->Jn,getElem?_append_left->Jo,size_toArray->Jp,mem_map->Jq,mem_append_right->Jr,length_cons->Ju,getElem_mem->Jv,mem_append->Jw,append_nil->Jx,map_map->Jy,pairwise_map->Jz,getElem?_append_right->J0,take_append_drop->J8,length_take->Ga,take_length->Gc,mem_cons->Gd,getElem_of_mem->Ge,length_drop->Gf,length_pos_iff->Gh,getElem?_map->Gi,prefix_append->Gj,mem_filter->Gm,getD_eq_getElem?_getD->Go,mem_append_left->Gs,find?_cons->Gu,mem_of_mem_take->Gv,getElem?_set_self->Gw,take_of_length_le->Gx,pairwise_iff_getElem->Gy,length_set->Gz,length_singleton->G0,mem_range->G1,getElem?_set_ne->G2,mem_of_getElem?->G3,mem_of_mem_drop->G7,perm_append_comm->G8,lookup_cons->Ba,length_eq_zero_iff->Bb,getElem_map->Bc,drop_eq_getElem_cons->Bd,take_left->Be,getElem_inj->Bf,replicate_succ->Bh,mem_map_of_mem->Bi,map_congr_left->Bj,getElem?_eq_none->Bk,flatten_cons->Bl,nodup_append->Bn,pairwise_cons->Bo,getElem_take->Br,length_range->Bt,take_append_of_le_length->Bu,set_append_right->Bv,length_nil->By,mem_flatMap->B3,any_cons->B5,sum_cons->B6,take_sublist->B7,length_filterMap_le->Fa,pairwise_singleton->Fd,nodup_cons->Fe,length_flatMap->Ff,length_pos_of_mem->Fh,filter_cons->Fj,nodup_nil->Fk,filter_append->Fl,length_filter_le->Fm,mem_of_find?_eq_some->Fo,drop_sublist->Fs,getElem_drop->Fu,drop_drop->Fy,prefix_iff_eq_take->Fz,mem_filterMap->F0,drop_of_length_le->F2,flatten_singleton->F3,zip_cons_cons->F5,find?_eq_none->F7,nil_append->F8,map_take->Dd,reverse_cons->Df,pairwise_append->Dg,map_nil->Dj,any_eq_true->Dl,take_prefix->Dm,set_set->Dn,map_eq_nil_iff->Dp,range_succ->Dt,getElem?_take->Du,drop_take->Dv,drop_zero->Dw,replicate->Co,range->C2,take->El,length->Hf,filterMap_cons->Hq,lookup->Kz,getElem?_take_of_lt->K2,prefix_or_prefix_of_prefix->Lv,pairwise_flatMap->Ly,map_reverse->L8,filter_nil->Mr,ext_getElem?->ME,reverse_perm->LL,getElem?_replicate->RD,map_snd_zip->LF,of_mem_zip->LO,toList_toArray->O1,push_toArray->aM,cons_append->WP,countP_cons->YD,forIn_cons->Ob,foldl->KH
open Nat renaming le_refl->Jk,le_trans->Js,zero_le->J9,ne_of_lt->Gk,lt_of_lt_of_le->Gn,lt_of_le_of_lt->Gr,not_lt_zero->G9,le_succ->Bg,lt_irrefl->Bw,sub_self->Bz,lt_succ_self->B1,lt_succ_of_lt->B8,add_sub_cancel_left->Fc,le_of_lt->Fg,le_of_not_lt->Fi,lt_or_ge->Fq,zero_add->Fv,add_assoc->Fx,le_of_eq->F1,pow_le_pow_right->Di,mod_eq_of_lt->Do,pow_le_pow_left->Dq,min_eq_left->Ds,not_lt->Dy,mul_le_mul_right->Mc,succ_mul->JM,add_comm->JO,min_eq_right->aZ,add_mul->VU
open Array renaming length_toList->Jl,getElem?_toList->Jt,toList_append->Gp,perm_iff_toList_perm->G4,getElem?_eq_getElem->G5,getElem?_eq_some_iff->B9,getElem?_setIfInBounds_self->Fn,toList_extract->Ft,forIn_toList->F6,toList_push->De,toList_reverse->Dh,find?_toList->Mw,getD->EY,toList->LJ
open Bool renaming false_ne_true->Gb,false_eq_true->Gg,not_true->Bx,and_eq_true->B2,not_eq_true->B4,eq_iff_iff->Fp,beq_eq_decide_eq->VG,false_or->LI,not_eq_true'->QG,false_and->WO,and_false->cS
open Option renaming map_eq_some_iff->Gq,isSome_iff_exists->Fw,map_some->F9,isSome_map->JS,getD_some->OT,isNone_none->bR,getD_none->TF,map->WS
open Int renaming toNat_natCast->G6,emod_lt_of_pos->Bp,emod_nonneg->Bq,eq_ofNat_of_zero_le->Fb,natCast_add->Db,zero_add->Dx,mul_le_mul_of_nonneg_left->L7,le_refl->GC,le_of_lt->YU,le_trans->SX,mul_one->WD,mul_sub->ZR
open PySem renaming wpAny_bind->D3,wpAny_pure->D4,boot_len->BI,wpAny_mono->BJ,Value->Ca,sizeLine->Cb,Shared->Cc,wpAny->Cg,model->Cj,starEach->Cr,mainGlobals->Cw,wpAny_holding->Cz,sizeLine_eq->C3,wpAny_loadPart'->C6,wpAny_call_entry->Ea,wpAny_loadPart_at->Ec,wpAny_Call_Name_kw->Ee,wpAny_truthy_bool->Eh,wpAny_newObj_type->Ei,compareOp->Eu,sysModules->Ey,wpAny_rule->Ez,Program->E4,wpAny_standAt->E5,cLine->E8,NameKind->Ha,rawInt->Hh,wpAny_passesOwn->Hj,behindInMarks->Hr,binaryOp->Hs,attributeBase->Ht,mem_of_lookup->Hv,wpAny_callSpecial?_slot->Hw,wpAny_getItem_str_slice->Hx,wpAny_attempt->Hy,World->H9,wpAny_call->Ka,wpAny_tupleItemsOf->Kd,Within->Ke,wpAny_execs_nil->Kf,codeAny_mono->Kg,keywordEach->Kh,call_meets->Kl,Around->Kr,backTo->Ks,codeAny_call_builtin->Kv,bootBuiltins->K1,wpAny_typeOf->K5,isInstance->K6,codeAny->K7,tupleKind_room_in1->Lc,Fin->Ld,getattributeRaised->Lg,wpAny_pyIter_list->Ln,plainObj_wpAny_Assign_Attribute->Lp,wpAny_field->Lq,sliceBounds->Lr,builtinLookup_eq_fast->Lw,wpAny_eqBool_int->L5,getItem->L6,unbindBehindTheSuite->Mb,wpAny_newList->Me,swapsWith->Mh,letOwnedTupleGo->Mi,post_val_or_str->Mn,codeAny_builtin->Mo,wpAny_isSubtype_exc->Mp,getAttrByItsOwn->Mq,wpAny_newFunctionEnv_cells->Mt,FuncData->Mx,backToKw->Mz,holding->M8,tupleKind->EB,assignEach->FF,foldedSetIterable->KL,typeLookup->FG,wpAny_getItem_list_slice->aQ,noteFrame->EG,wpAny_comprehension_free->TM,wpAny_pyNext_tuple_item->QA,subscripted->GK,ExceptHandler->Ip,wpAny_execs_cons->KF,wpAny_lookBehind->LD,pastItsLine_dict->OR,noFill_tuple_add->OM,wpAny_pyNext_list_item->Of,wpAny_pyNext_tuple_end->YW,wpAny_isTrue_Compare1->Oz,wpAny_pyNext_list_end->PH,getMethod->FJ,typeLookup_type->NF,setFlight->FA,codeAny_of_tree->LP,builtinsNs->GD,wpAny_loadName_local->XX,wpAny_setFlight_none->bJ,pyNext->DI,wpAny_loadName_cell->SE,standAt->DY,Keyword->DZ,wpAny_pyIter_tuple->UT,bindArgs->FP,IsPart->DM,evalPart_none->LZ,atKey->DB,getAttr?->FN,sub_AttributeError->PL,Addr->IV,Model->DC,wpAny_assign_Name->UE,wpAny_load->HF,BindsTo->ES,wpAny_sequenceKey->SG,valueAt->EO,callerA->ED,assign->DP,wpAny_nsSet1->MQ,seqIndex_neg->NN,wpAny_Dict_empty->ZZ,Str->Ih,seqIndex_of->KR,theTreesLotGoes->WK,codeAmong->HN,getAttrBy->HZ,wpAny_Name->NR,typeIs_str->OL,typeIs_int->JU,call->JN,closureFor->JV,setItem->GJ,getAttr->GN,callWith->HR,storeName->LV,Result->EZ,cellsFrom->NP,setAttr->HG,bindL->DT,bindC->DU,leaving->HY,operate->HH,relabel->HV,Stmt->RY,Expr->RA,Obj->SK
open PySem.Heap renaming get?_push_of_some->D5,get?_push_size->D6,lt_size->D7,get?_update_other->Cv,get?_update_self->Ew,SameBut->Hm,get?_push_ne->Ko,size_push->Kw,get?_none_of_le->L9,MadeExcOf->KO,NewExcOf->VL
open Option.some renaming inj->BG,injEq->JQ
open PySem.Value renaming ref->Cd,builtin->Kp,bool->K0,int->Mf,type->FO,str->FD,isInt->HA,float->Ix,isStrOf->UF,bytes->Os
open PyProof.Rows renaming wpS_bind->Ch,wpS_pure->Ck,Keyed->Cm,SortSt->Cn,boot_isinstance->Cs,arrOf->C0,pendingOf->C1,wpS_forRange->C9,slot_tuple_getitem->Eb,boot_sorted->Ek,seqObj->Ep,failedOf->E6,IntsAre->E9,boot_dict->Hb,boot_list->Hc,envOfC->Ho,boot_tuple->H8,wpS_mono->Kc,get?_update_seq->Le,listUpdate_at->Lf,boot_max->Lz,callWith_type1->Ml,AllBare->DN,subscriptTail->I8,subscriptTail_builtinR->ZO,boot_min->QU,size_push'->GR,entry_tuple_getitem->bB,Constant_none->NG,args_tuple_getitem->aR,Subscript_->HJ,callWith_builtin1->oC,entry_list_sort->QT,boot_bool->gQ,boot_abs->lJ,boot_int->yU,lt_int->iY
open Or renaming inl->Ci,inr->C4
open PySem.PassesOwn renaming never->Cp,leaving->UV
open PySem.W renaming Frag->Cq,findIn->C5,kitOne->Hu,kia_one->Kx,instObj->Mg,mroIn->Mm,callWith_K->My,looks_findIn->M7,keepIn->DW,looks_mroIn->GF,fnOf->DE,codeIn->EH,plainGet_of->KS,plainGet->Ia,codeHdIn->IZ,cellsFrom_some->S2,methodObj->JE,hasDictIn->NC,set_plain->NJ,methodCall_KW->RL,isNs_of_in->MN,nsIn->EM,lookIn->ID,callWith_K0->VH,codeHd_of_K->ZG,takerIn->MW,OpenLaw->ON,tabObj->NX,typeIn->GS
open PySem.F renaming plainAttrs_list->Ct,slot_list_append->Em,type_list_append->Eo,slot_list_extend->Es,slot_dict_get->Hd,type_list_extend->Hl,args_tuple_add_2->K4,entry_tuple_add->K9,slot_tuple_add->Lj,entry_dict_get->Ll,args_dict_get_2->RZ,args_list_extend_2->PN,entry_list_extend->QD,slot_int_rmul->cL,slot_tuple_lt->Om
open PySem.Obj renaming mapSeq->Cu,isFreed_of_fields->Kj,data_mapFields->Lh,mapFields->Li
open False renaming elim->Cy
open PySem.Builtin.Tuple renaming tupleHashOf->C7,tupleExact->Hk,tupleItemsOf->Kt,tupleCompareSizes->uL,tupleIsExact->Jgr
open PySem.NameKind renaming free->C8,cell->Md
open Sum renaming inl->Ed,inr->EJ
open True renaming intro->Ef
open PySem.Heap.SameBut renaming update->Eg
open PySem.Builtin.List renaming listTooLong->Ej
open ForInStep renaming yield->Er
open Ne renaming symm->Et
open PySem.Str renaming ofString->E7,empty->FY
open PySem.Code renaming quiet_builtin->He,isFrame->MY,frames->UL
open PySem.Builtin.Slice renaming slicePlaces->Hg,sliceAdjust->Ky,sliceApplied->Mu,slicePartIndex->sN,sliceFields->zD
open PySem.PyData renaming eqvAll->Hz,eqv->Km,canLay0->M9,canLayAll0->NY,depthAll->KJ,depth->Iv,list->QV
open PySem.Calls renaming callWith_builtin->Kb,spliced_cons->K8,evalArgs_plain->Ma,Name_function_global->Ms,spliced_nil->JY
open PySem.SeqAt renaming shaped->Ki,EqAt->Jhr
open PySem.Around renaming under_plainId->Ku,under->LU
open Sum.inl renaming inj->Lm
open List.Pairwise renaming nil->Lu,sublist->Lx
open PyProof.Rows.LSm renaming kept_iter->Mv
open PySem.Within renaming cons->MU
open PySem.AutoSeq1 renaming wpAny_loadPart'->YS,sub_list_list->Oa
open PySem.Builtin.Dict renaming updateFrom->ZY,addKeywords->Jho,selfAndRest->Jhp,pairItems->vZ
open PySem.EntryCells renaming newEntry->O6
open PySem.Heap.IsSliceOf renaming new->VP
open List.Sublist renaming refl->SU
open List.IsPrefix renaming eq_of_length->mU
open PySem.EqNone renaming eq_none_none->zN,eq_none_bool->sJ,eq_bool_none->kB,ne_none_none->gS,ne_none_bool->rL,ne_bool_none->Jg1,eq_none_int->oO,eq_none_str->Jg8,eq_int_none->wR,eq_str_none->uU,ne_none_int->jR,ne_none_str->xV,ne_int_none->Jhf,ne_str_none->uK
open PySem.EqMixed renaming eq_bool_str->lK,eq_str_bool->jH,ne_bool_str->sK,ne_str_bool->rV,eq_int_str->rZ,eq_str_int->Jhc,ne_int_str->tT,ne_str_int->oK
open PySem.Builtin.Range renaming rangeSize->Jhv
open PySem.Shared renaming TypeIs->Ox
open PySem.CmpOp renaming NotIn->WZ
open PySem.W.WShape renaming has->VE
open PySem.Heap.DictOf renaming new->mQ
open PySem.W.WData renaming int->YI
theorem Dz:type_of% @of_decide_eq_true:=@of_decide_eq_true
def D0:type_of% @absurd:=@absurd
theorem D1:type_of% @of_decide_eq_false:=@of_decide_eq_false
theorem D2:type_of% @decide_eq_true_iff:=@decide_eq_true_iff
theorem D8:type_of% @if_neg:=@if_neg
theorem D9:type_of% @if_pos:=@if_pos
theorem Ab:type_of% @decide_eq_true:=@decide_eq_true
theorem BB:type_of% @decide_eq_false:=@decide_eq_false
local macro_rules | `(tactic| rfl')=>`(tactic| refine ⟨rfl,rfl,rfl,?_,rfl,?_,?_⟩<;>decide +kernel)
local macro_rules | `(nofun)=>`(term| by decide)
local macro_rules|`(tactic|exists $es,*)=>exs es.getElems
local macro_rules |`(tactic|let $d:letDecl)=>match d with
 |`(Lean.Parser.Term.letDecl|$p:term:=$e:term)=>do
  let q<-qp 9 p
  `(tactic|obtain $q:rcasesPat:=$e:term)
 |_=>`(tactic|have $d:letDecl)
local macro_rules |`(())=>`(by lia)
variable{s:Cc}{C f ea Pt it l fI dx c Zl Zr Z0 Zk:IV}{α α' fp:List IV}{w:PySem.World}{A:PySem.Around}{fd:PySem.FuncData}{E:Ca->Cc->Prop}{K K':PySem.W.Frag}{pq:List (IV×SK)}{dF pos' eA dY:PySem.Pos}{P prog:PySem.Program}{τ κ β υ:Type}{h h':PySem.Heap}{mg mA:Ih->Option Ca}{ps N T:List Ih}{ns r sw ms:List Int}{na nb j ia ib ac bc t' pl ep n0 dL:Nat}{us its dG:List Ca}{kn:List (Option Int)}{st:RY}{dH name:Ih}{es:List RA}{oe ox:SK}{tg value:RA}{left:Bool}{ws:List (List Int)}{dR:List RY}{kw:List (Ih×Ca)}{pm cd doc cdv ct oc:Ca}{lo hi:Option Int}{an od T0:Option IV}{cs:List Nat}
section
local macro_rules|`(tactic|show $e)=>let s:=if e.raw.isOfKind `choice then (e.raw.getArgs.find? (·.isOfKind ``«term{_}»)).getD e.raw else e.raw;if s.isOfKind ``«term{_}» then exs (s[1].getSepArgs.map (⟨·⟩)) else `(tactic|first|refine $e|change $e)
local macro_rules|`(#[$n:num,$_:num])=>`($(Lean.mkIdent `L2.Zo) (i:=$n) ($(Lean.mkIdent `L2.Y7) (by kernel_rfl)) rfl (Or.inl rfl) (Or.inr rfl))
local macro_rules|`(#[$n:num])=>`($(Lean.mkIdent `L2.pv) $n)
namespace L2
open PySem PySem.Spec PyProof.Rows
abbrev AI:=Sum Int Str
def Pe:AI->Ca->Bool
 |.inl k,v=>HA k v
 |.inr x,v=>UF x v
def keyH(w:H9):AI->Int
 |.inl k=>hashInt k
 |.inr x=>hashStr w x
theorem Yc:∀{k:AI}{v:Ca},Pe k v=true->(∃i t,k=Ed i/\v=Mf i t)\/(∃x t,k=EJ x/\v=FD x t)
 |.inl i,v,h=>by
  let{t,e}:=Ca.isInt_shape (k:=i) (v:=v) h;show .inl {i,t,W,e}
 |.inr x,v,h=>by
  let{t,e}:=Ca.isStrOf_shape (x:=x) (v:=v) h;show .inr {x,t,W,e}
def YQ(i:Int)(t:Tok):Pe (.inl i) (.int i t)=true:=by simp[Pe,HA]
def wY(x:Str)(t:Tok):Pe (.inr x) (.str x t)=true:=by simp[Pe,UF]
def kR(a b:Int):decide ((Ed a:AI)=Ed b)=(a==b):=by
 by_cases e:a=b
 .subst e;simp
 .let h:¬ (Ed a:AI)=Ed b:=λq=>e (Lm q);rw[BB h];show(beq_eq_false_iff_ne.mpr e).symm
def yQ(a b:Str):decide ((EJ a:AI)=EJ b)=decide (a=b):=by
 by_cases e:a=b
 .subst e;simp
 .let h:¬ (EJ a:AI)=EJ b:=λq=>e (Sum.inr.inj q);rw[BB h,BB e]
def pM(a:Int)(b:Str):decide ((Ed a:AI)=EJ b)=false:=BB (λq=>nomatch q)
def kJ(a:Str)(b:Int):decide ((EJ a:AI)=Ed b)=false:=BB (λq=>nomatch q)
def Yo(prog:E4)(w:H9):PySem.KeyKind prog w AI where
 is:=Pe
 hash:=keyH w
 inj:=λv a b O G=>by
  rcases Yc O with⟨i,t,rfl,rfl⟩|⟨x,t,rfl,rfl⟩
  .rcases Yc G with⟨j,u,rfl,e⟩|⟨y,u,rfl,e⟩
   .injection e with e1 _;rw[e1]
   .show nomatch e
  .rcases Yc G with⟨j,u,rfl,e⟩|⟨y,u,rfl,e⟩
   .show nomatch e
   .injection e with e1 _;rw[e1]
 byValue:=λk v h=>by
  rcases Yc h with⟨i,t,rfl,rfl⟩|⟨x,t,rfl,rfl⟩<;>rfl
 pyHash:=λB h=>by
  rcases Yc B with⟨i,t,rfl,rfl⟩|⟨x,t,rfl,rfl⟩
  .show wpAny_pyHash_int h
  .show wpAny_pyHash_str h
 eqBool:=λJ B h=>by
  rcases Yc J with⟨i,t,rfl,rfl⟩|⟨x,t,rfl,rfl⟩
  .rcases Yc B with⟨j,u,rfl,rfl⟩|⟨y,u,rfl,rfl⟩
   .rw[kR]at h;show L5 h
   .rw[pM]at h;show SeqAt.EqAt.int_str i t y u _ _ _ _ h
  .rcases Yc B with⟨j,u,rfl,rfl⟩|⟨y,u,rfl,rfl⟩
   .rw[kJ]at h;show SeqAt.EqAt.str_int x t j u _ _ _ _ h
   .rw[yQ]at h;show wpAny_eqBool_str h
 «strs»:=λk x t v h=>by
  rcases Yc h with⟨i,u,rfl,e⟩|⟨y,u,rfl,e⟩
  .show nomatch e
  .injection e with e1 _
   subst e1;cases v<;>rfl
def qZ(prog:E4)(w:H9)(i:Int)(t:Tok):(Yo prog w).is (.inl i) (.int i t)=true:=YQ i t
def pK(prog:E4)(w:H9)(x:Str)(t:Tok):(Yo prog w).is (.inr x) (.str x t)=true:=wY x t
set_option genInjectivity true in
inductive V where
 |non|bl (b:Bool)|int (i:Int)|str (x:Str)|byt (b:Array UInt8)|flt (b:UInt64)|ref (a:Addr)|ty (n:String)
 deriving DecidableEq
variable{vs ys:List L2.V}{y:L2.V}{kvs:List (List L2.AI×L2.V)}
def AJ:V->Ca->Prop
 |.non,u=>u=Ca.none
 |.bl b,u=>u=K0 b
 |.int i,u=>∃t,u=Mf i t
 |.str x,u=>∃t,u=FD x t
 |.byt b,u=>∃t,u=Os b t
 |.flt b,u=>∃t,u=Ix b t
 |.ref a,u=>u=Cd a
 |.ty n,u=>u=FO n
abbrev AF:List V->List Ca->Prop:=Paired AJ
def AF.length(r:AF xs us):xs.length=us.length:=Paired.length r
theorem AF.get:∀{xs:List V}{us:List Ca}{i:Nat}{x:V},AF xs us->xs[i]?=some x->∃u,us[i]?=some u/\AJ x u
 |_,_,_,_,.nil,e=>by simp at e
 |_,_,0,_,.cons r _,e=>by simp at e;subst e;show{·,r}
 |_,_,i+1,x,.cons _ t,e=>by
  let{u,h1,h2}:=AF.get (i:=i) (x:=x) t (by simpa using e);exists u,by simpa using h1,h2
theorem AF.set(r:AJ x u):∀{xs:List V}{us:List Ca}(i:Nat),AF xs us->AF (xs.set i x) (us.set i u)
 |_,_,_,.nil=>.nil
 |_,_,0,.cons _ t=>.cons r t
 |_,_,i+1,.cons q t=>.cons q (AF.set r i t)
theorem AF.append:∀{xs ys:List V}{us ws:List Ca},AF xs us->AF ys ws->AF (xs++ys) (us++ws):=by
 intro _ _ _ _ h s;cases h with
 |nil=>
  show s
 |cons r t=>
  show .cons r (AF.append t s)
theorem AF.take:∀{xs:List V}{us:List Ca}(n:Nat),AF xs us->AF (xs.take n) (us.take n)
 |_,_,0,_=>.nil
 |_,_,_+1,.nil=>.nil
 |_,_,n+1,.cons r t=>.cons r (AF.take n t)
theorem AF.drop:∀{xs:List V}{us:List Ca}(n:Nat),AF xs us->AF (xs.drop n) (us.drop n)
 |_,_,0,r=>r
 |_,_,_+1,.nil=>.nil
 |_,_,n+1,.cons _ t=>AF.drop n t
def An:Option V->Option Ca->Prop
 |some v,some u=>AJ v u
 |none,none=>True
 |_,_=>False
def KV :List (κ×V)->List (κ×Ca)->Prop:=Paired λ(p:κ×V)(q:κ×Ca)=>p.1=q.1/\AJ p.2 q.2
def kV:AI->V
 |.inl i=>.int i
 |.inr x=>.str x
def Tp(h:Heap)(a:Addr)(B:Array Ca):Prop:=∃o,h.get? a=some o/\o.cls=.type "tuple"/\∃n,o.data=.seq B n/\o.dict=none
def Tp.tup{B:Array Ca}(x:Tp h a B):IsTup h a B:=let{o,e,c,n,d,_}:=x;{o,e,c,n,d}
def Tp.new(h:Heap)(B:Array Ca):Tp (h.push {cls:=.type "tuple",data:=.seq B}) h.objs.size B:={_,D6 _ W,W,_,W,W}
def Tp.lt{B:Array Ca}(x:Tp h a B):a<h.objs.size:=let{_,e,_}:=x;D7 e
set_option genInjectivity true in
inductive HO where
 |lst (xs:List V)
 |tup (xs:List V)
 |dK (kvs:List (AI×V))|dT (kvs:List (List AI×V))
 |set (S:Int->Bool) (n:Nat)
 |ins (C dx:Addr) (fs:List (Str×V))
 |own (x:Addr)
 |xd (fs:List (Str×V))
 |met (f x:Addr)
 |rng (lo hi:Int)
 |frz (o:Obj) (u:HO)
 |tbl (ps:Array Ca)
 |ext (φ:Heap->Prop)
abbrev Hp:=Addr->Option HO
variable{H I H' I':L2.Hp}
def upd(H:Hp)(a:Addr)(o:HO):Hp:=λb=>if b=a then some o else H b
def Zw  :upd H a o a=some o:=by unfold upd;rw[if_pos W]
def Zq(h:b≠a):upd H a o b=H b:=by unfold upd;rw[if_neg h]
def Oe  :upd (upd H a o) a u=upd H a u:=by
 funext b;unfold upd;split<;>rfl
def FC(h:H a=some o)(h':H b=some u)(d:o≠u):a≠b:=by
 intro e;subst e;rw[h]at h';show d (BG h')
def Z8(h:H a=some o)(h':H b=none):a≠b:=by
 intro e;subst e;rw[h]at h';cases h'
section
variable(P:E4)(w:H9)
def Y9(H:Hp)(h:Heap)(a:Addr):HO->Prop
 |.lst xs=>xs.length<=Cb/\∃(its:List Ca)(n:Nat),AF xs its/\h.get? a=some {cls:=.type "list",data:=.seq its.toArray n}
 |.tup xs=>xs.length<=Cb/\∃its:List Ca,AF xs its/\Tp h a its.toArray
 |.dK kvs=>kvs.length<=Cb/\(a==Ey)=false/\∃vs,KV kvs vs/\h.DictOf (Yo P w) a vs
 |.dT kvs=>kvs.length<=Cb/\(a==Ey)=false/\∃xs:List (List AI×Addr×Ca),
   Paired (λ(p:List AI×V)(q:List AI×Addr×Ca)=>p.1=q.1/\H q.2.1=some (.tup (p.1.map kV))/\AJ p.2 q.2.2) kvs xs /\
   ∃o es ep,h.get? a=some o/\o.ExactDict/\o.data=.dict es ep/\es.toList=xs.map (entryOfKey (EB (Yo P w)))/\(xs.map (·.1)).Nodup
 |.set S n=>h.SetOf (intKind P w) a S n
 |.ins C dx fs=>H dx=some (.own a)/\fs.length<=1000/\dx≠a/\h.get? a=some (Mg C dx) /\
   ∃mA,h.Ns1 dx mA/\(∀f,An (fs.lookup f) (mA f))/\Ke mA (fs.map (·.1))
 |.own _=>∃o,h.get? a=some o
 |.xd fs=>∃mA,h.Ns1 a mA/\∀f,An (fs.lookup f) (mA f)
 |.rng lo hi=>∃t u v,h.get? a=some {cls:=.type "range",data:=.fields #[.int lo t,.int hi u,.int 1 v]}
 |.frz o u=>h.get? a=some o/\Y9 H h a u
 |.tbl ps=>h.get? a=some {cls:=.none,data:=.fields ps}
 |.met f x=>h.get? a=some (JE (.ref f) (.ref x))
 |.ext B=>B h/\(∃o,h.get? a=some o)/\∀h1 h2:Heap,B h1->(∀o,h1.get? a=some o->h2.get? a=some o)->B h2
def BN(H:Hp)(h:Heap):Prop:=∀a o,H a=some o->Y9 P w H h a o
end
section
variable{a:Addr}{o:HO}
theorem Y9.lt(x:Y9 P w H h a o):a<h.objs.size:=by
 cases o with
 |lst xs=>obtain⟨_,_,_,_,e⟩:=x;show D7 e
 |tup xs=>obtain⟨_,_,_,p⟩:=x;show p.lt
 |dK kvs=>obtain⟨_,_,_,_,o,_,_,e,_⟩:=x;show D7 e
 |dT kvs=>obtain⟨_,_,_,_,o,_,_,e,_⟩:=x;show D7 e
 |set S n=>obtain⟨o,_,_,_,e,_⟩:=x;show D7 e
 |ins C dx fs=>obtain⟨_,_,_,e,_⟩:=x;show D7 e
 |own y=>obtain⟨_,e⟩:=x;show D7 e
 |xd fs=>obtain⟨_,⟨_,_,_,e,_⟩,_⟩:=x;show D7 e
 |rng lo hi=>obtain⟨_,_,_,e⟩:=x;show D7 e
 |frz G u=>obtain⟨e,_⟩:=x;show D7 e
 |tbl ps=>show D7 (show h.get? a=some _ from x)
 |met f y=>show D7 (show h.get? a=some _ from x)
 |ext B=>obtain⟨_,⟨_,e⟩,_⟩:=x;show D7 e
theorem Paired.mapP{α:Type}{F G:α->β->Prop}:∀{l₁:List α}{l₂:List β},Paired F l₁ l₂->(∀a b,F a b->G a b)->Paired G l₁ l₂
 |_,_,.nil,_=>.nil
 |_,_,.cons r t,f=>.cons (f _ _ r) (Paired.mapP t f)
theorem Y9.stay(x:Y9 P w H h a o)(k:∀b u,(b=a\/H b=some (.own a))->h.get? b=some u->h'.get? b=some u)(O:∀b,H b=some (.own a)->H' b=some (.own a))(J:∀b xs,H b=some (.tup xs)->H' b=some (.tup xs)):Y9 P w H' h' a o:=by
 induction o with
 |lst xs=>obtain⟨z,its,n,r,e⟩:=x;show{z,its,n,r,k _ _ (.inl W) e}
 |tup xs=>obtain⟨z,its,r,B,e,c⟩:=x;show{z,its,r,B,k _ _ (.inl W) e,c}
 |dK kvs=>obtain⟨z,y,vs,r,B,es,ep,e,c⟩:=x;show{z,y,vs,r,B,es,ep,k _ _ (.inl W) e,c}
 |dT kvs =>
  let{z,y,xs,r,B,es,ep,e,c}:=x;exists z,y,xs,Paired.mapP r λp q z=>{z.1,J _ _ z.2.1,z.2.2},B,es,ep,k _ _ (.inl W) e,c
 |set S n=>obtain⟨B,es,ep,t,e,c⟩:=x;show{B,es,ep,t,k _ _ (.inl W) e,c}
 |ins C dx fs =>
  let{d,z,ne,e,mA,{od,es,ep,e2,c},r}:=x;show{O _ d,z,ne,k _ _ (.inl W) e,mA,{od,es,ep,k _ _ (.inr d) e2,c},r}
 |own y=>obtain⟨B,e⟩:=x;show{B,k _ _ (.inl W) e}
 |xd fs=>obtain⟨mA,⟨od,es,ep,e,c⟩,r⟩:=x;show{mA,{od,es,ep,k _ _ (.inl W) e,c},r}
 |rng lo hi=>obtain⟨t,u,v,e⟩:=x;show{t,u,v,k _ _ (.inl W) e}
 |frz B u G=>obtain⟨e,q⟩:=x;show{k _ _ (.inl W) e,G q}
 |tbl ps =>
  let e:h.get? a=some {cls:=.none,data:=.fields ps}:=x;show h'.get? a=some {cls:=.none,data:=.fields ps};show k a _ (.inl W) e
 |met f y =>
  let e:h.get? a=some (JE (.ref f) (.ref y)):=x;show h'.get? a=some (JE (.ref f) (.ref y));show k a _ (.inl W) e
 |ext Y=>obtain⟨p,⟨o,e⟩,st⟩:=x;exists st _ _ p λo q=>k _ _ (.inl W) q,{o,k _ _ (.inl W) e},st
def BN.lt(x:BN P w H h)(e:H a=some o):a<h.objs.size:=(x a o e).lt
theorem BN.fresh(x:BN P w H h)(e:h.objs.size<=a):H a=none:=by
 cases q:H a with
 |none=>rfl
 |some u=>show D0 (Gn (x.lt q) e) (Bw _)
def BN.kept(x:BN P w H h)(k:∀b u,h.get? b=some u->h'.get? b=some u):BN P w H h':=λa o e =>
 (x a o e).stay (λb u _ q=>k b u q) (λ_ q=>q) λ_ _ q=>q
def BN.laid(x:BN P w H h)(k:∀b u,h.get? b=some u->h'.get? b=some u)(B:h.objs.size<=a)(new:Y9 P w (upd H a o) h' a o):BN P w (upd H a o) h':=λb u e=>by
 let hn:=x.fresh B
 by_cases hb:b=a
 .subst hb;rw[Zw]at e;cases e;show new
 .rw[Zq hb]at e;show(x b u e).stay (λc v _ q=>k c v q) (λc q=>by rwa[Zq (Z8 q hn)]) λc xs q=>by rwa[Zq (Z8 q hn)]
end
def Rd(H:Hp)(a:Addr)(u:HO):Prop:=H a=some u\/∃o,H a=some (.frz o u)
def Rd.ok(r:Rd H a u)(x:BN P w H h):Y9 P w H h a u:=by
 rcases r with r|⟨o,r⟩
 .show x a u r
 .let⟨_,q⟩:=x a _ r;show q
def FH:Option HO->Prop
 |some (.lst _)=>True
 |some (.dK _)=>True
 |some (.dT _)=>True
 |some (.set _ _)=>True
 |some (.ins _ _ _)=>True
 |some (.ext _)=>True
 |_=>False
section
variable{x e:Addr}{o':HO}
def BN.write(ok:BN P w H h)(mu:FH (H x))(Z:e=x\/H e=some (.own x))(k:∀b u,b≠e->h.get? b=some u->h'.get? b=some u)(O:∃u,h'.get? e=some u)(new:Y9 P w (upd H x o') h' x o'):BN P w (upd H x o') h':=λb u q=>by
 let B:∀c y,H c=some (.own y)->c≠x:=λc y r z=>by subst z;rw[r]at mu;show mu
 let G:∀c xs,H c=some (.tup xs)->c≠x:=λc xs r z=>by subst z;rw[r]at mu;show mu
 by_cases hb:b=x
 .subst hb;rw[Zw]at q;cases q;show new
 .rw[Zq hb]at q
  by_cases hbe:b=e
  .let Y:H b=some (.own x):=by
    rcases Z with z|z
    .show D0 (hbe.trans z) hb
    .rw[hbe];show z
   rw[q]at Y;cases Y;let{v,hv}:=O;show{v,by rwa[hbe]}
  .show(ok b u q).stay (λc v J r=>k c v ?_ r) (λc r=>by rwa[Zq (B c b r)]) λc xs r=>by rwa[Zq (G c xs r)]
   rcases J with rfl|J
   .show hbe
   .rintro rfl;rcases Z with z|z
    .show B c b J z
    .rw[J]at z;cases z;show hb W
end
structure Un(fs ex:List Addr)(H H':Hp)(h h':Heap):Prop where
 keep:∀b o,h.get? b=some o->H b=none->b∉fs->b∉ex->h'.get? b=some o
 slot:∀b o,h.get? b=some o->H b=none->b∈fs->b∉ex->∃sl,h'.get? b=some {o with slots:=sl}
 free:∀b o,h.get? b=some o->H b=none->b∉ex->H' b=none
 there:∀b o,h.get? b=some o->b∉ex->∃o',h'.get? b=some o'
 tups:∀b xs,H b=some (.tup xs)->H' b=some (.tup xs)
 frzs:∀b o u,H b=some (.frz o u)->H' b=some (.frz o u)
 tbls:∀b ps,H b=some (.tbl ps)->∃more,H' b=some (.tbl (ps++more))
section
variable{fs ex:List Addr}{H1:Hp}{h1:Heap}{a x e:Addr}{o:HO}
def Un.any(u:Un fs ex H H1 h h1)(q:h.get? b=some ob)(n:H b=none)(hx:b∉ex):∃sl,h1.get? b=some {ob with slots:=sl}:=by
 by_cases hb:b∈fs
 .show u.slot b ob q n hb hx
 .show{ob.slots,u.keep b ob q n hb hx}
def Un.kept(k:∀b u,h.get? b=some u->h'.get? b=some u):Un fs ex H H h h' :=
 {λb B q _ _ _=>k b B q,λb B q _ _ _=>{B.slots,k b B q},λ_ _ _ n _=>n,λb B q _=>{B,k b B q},λ_ _ q=>q,λ_ _ _ q=>q,λ_ ps q=>{#[],by rw[q];simp}}
def Un.refl:Un fs ex H H h h:=Un.kept λ_ _ q=>q
def Un.laid(k:∀b u,h.get? b=some u->h'.get? b=some u)(B:h.objs.size<=a)(hn:H a=none):Un fs ex H (upd H a o) h h' where
 keep:=λb u q _ _ _=>k b u q
 slot:=λb u q _ _ _=>{u.slots,k b u q}
 free:=λb u q n _=>by rwa[Zq (Gk (Gn (D7 q) B))]
 there:=λb u q _=>{u,k b u q}
 tups:=λb xs q=>by rwa[Zq (Z8 q hn)]
 frzs:=λb u xs q=>by rwa[Zq (Z8 q hn)]
 tbls:=λb ps q=>{#[],by rw[Zq (Z8 q hn),q];simp}
def Un.write(mu:FH (H x))(O:e=x\/H e=some (.own x))(k:∀b u,b≠e->h.get? b=some u->h'.get? b=some u)(G:∃u,h'.get? e=some u):Un fs ex H (upd H x o) h h':=by
 let hx:∀b,H b=none->b≠x:=λb n z=>by subst z;rw[n]at mu;show mu
 let J:∀b,H b=none->b≠e:=λb n z=>by
  subst z;rcases O with r|r
  .show hx b n r
  .rw[n]at r;cases r
 let B:∀b u,H b=some u->¬ FH (some u)->b≠x:=λb u q nm z=>by subst z;rw[q]at mu;show nm mu
 show{λb u q n _ _=>k b u (J b n) q,λb u q n _ _=>{u.slots,k b u (J b n) q},λb u q n _=>by rwa[Zq (hx b n)],λb u q _=>?_,
  λb xs q=>by rwa[Zq (B b _ q λz=>z)],λb u xs q=>by rwa[Zq (B b _ q λz=>z)],λb ps q=>{#[],by rw[Zq (B b _ q λz=>z),q];simp}}
 by_cases hbe:b=e
 .subst hbe;show G
 .show{u,k b u hbe q}
end
def trk(h:Heap)(H:Hp):List Addr:=(C2 h.objs.size).filter λa=>(H a).isSome
def hidT(h:Heap)(H:Hp):Heap:=W.hideAll h (trk h H)
def xZ(h:Heap)(H:Hp):(hidT h H).objs.size=h.objs.size:=W.hideAll_size _ _
def Zm9(e:h.get? b=some o)(n:H b=none):(hidT h H).get? b=some o :=
 W.hideAll_get _ e λB=>by
  let q:(H b).isSome=true:=(Gm.mp B).2;rw[n]at q;simp at q
theorem qW(e:(hidT h H).get? b=some o):h.get? b=some o/\H b=none:=by
 let B:h.get? b=some o:=W.of_hideAll (trk h H) e;show{B,?_};cases q:H b with
 |none=>rfl
 |some x =>
  let G:b∈trk h H:=Gm.mpr {G1.mpr (D7 B),by simp[q]};let z:(hidT h H).get? b=none:=W.hideAll_none (trk h H) G;rw[z]at e;cases e
structure Mod(K:Cq)(mg:Str->Option Ca)(dC:Heap):Prop where
 kin:K.In dC
 glob:dC.Ns Cw mg
 blt:∃mb,dC.Ns GD mb/\∀x:Str,x≠"__name__"->mb x=K1 x
 nolimit:dC.NoLimit
structure Cx where
 prog:E4
 w:H9
 K:Cq
 mg:Str->Option Ca
 base:Heap
 A:Kr
 N:List Str
 s₀:Cc
 H₀:Hp
 env:Env
 outer:List Env
 stack:List Env
 ex:List Addr
 fn:Str->Bool
 calm:Bool
 pn:List (Addr×Obj)
 xe:Ca->Cc->Prop
variable{X:L2.Cx}
def CK(l:List Env):List Addr:=l.filterMap (·.frame)
abbrev Cx.fs(X:Cx):List Addr:=CK X.outer
def HU(h:Scope)(x:Str):Prop:=h.names.lookup x=some .local\/h.names.lookup x=some .cell\/h.names.lookup x=some .free
def GP(h:Scope)(x:Str):Prop:=h.names.lookup x=some .local\/h.names.lookup x=some .cell
def Look(env:Env)(h:Heap)(m:Str->Option Ca)(x:Str)(u:Ca):Prop :=
 (env.kindOf x=some .local/\m x=some u)\/((env.kindOf x=some .cell\/env.kindOf x=some .free)/\∃c,env.cells.lookup x=some c/\h.IsCell c (some u))
structure Cx.Ok(X:Cx):Prop where
 mod:Mod X.K X.mg X.base
 kind:X.env.scope.kind=.function
 glob:X.env.globals=Cw
 blt:X.env.builtins=GD
 above:X.s₀.heap.objs.size<=X.env.locals
 inj:∀x y c,X.env.cells.lookup x=some c->X.env.cells.lookup y=some c->x=y
 has:∀x,(X.env.kindOf x=some .cell\/X.env.kindOf x=some .free)->∃c,X.env.cells.lookup x=some c
 cab:∀x c,X.fn x=true->X.env.cells.lookup x=some c->X.s₀.heap.objs.size<=c
 hd:X.calm=true->X.A.handled=none
 frames:X.A.frames=some X.stack
 stk:X.stack=X.outer\/(X.stack=X.env::X.outer/\X.env.frame=some X.env.locals)
 exf:∀b∈X.ex,b≠X.env.locals/\∀x c,X.env.cells.lookup x=some c->c≠b
 bs:∀b o,X.base.get? b=some o->X.s₀.heap.get? b=some o/\X.H₀ b=none
 bsz:X.base.objs.size<=X.s₀.heap.objs.size
 noex:∀b o,X.base.get? b=some o->b∉X.ex
 exfs:∀b∈X.ex,b∉X.fs
 funs:X.s₀.heap.FunFrames X.base X.outer
 frf:∀b∈X.fs,X.H₀ b=none
structure AB(X:Cx)(pq:List (Addr×Obj))(σ:List (Option V))(H:Hp)(s:Cc):Prop where
 ok:X.Ok
 os:s.os=X.s₀.os
 bare:DN s.gens
 base:Un X.fs X.ex X.H₀ H X.s₀.heap s.heap
 loc:∃m,s.heap.Ns X.env.locals m/\∀(i:Nat)(x:Str)(v:V),X.N[i]?=some x->σ[i]?=some (some v)->HU X.env.scope x->∃u,AJ v u/\Look X.env s.heap m x u
 cell:∀x c,X.env.cells.lookup x=some c->∃v,s.heap.IsCell c v
 free:H X.env.locals=none
 freeC:∀x c,X.env.cells.lookup x=some c->H c=none
 pin:∀p∈X.pn++pq,s.heap.get? p.1=some p.2/\H p.1=none/\p.1≠X.env.locals/\p.1∉X.fs/\∀v,p.2.data≠.cell v
 hok:BN X.prog X.w H s.heap
 len:σ.length=X.N.length
section
variable{σ:List (Option V)} 
def Cx.Ok.nofr(ok:X.Ok)(e:X.base.get? b=some o):b∉X.fs:=λh=>by
 let:=(ok.funs.mem h).1;rw[e]at this;cases this
def AB.bs(I:AB X pq σ H s):∀b o,X.base.get? b=some o->s.heap.get? b=some o/\H b=none:=λb o e =>
 {I.base.keep b o (I.ok.bs b o e).1 (I.ok.bs b o e).2 (I.ok.nofr e) (I.ok.noex b o e),I.base.free b o (I.ok.bs b o e).1 (I.ok.bs b o e).2 (I.ok.noex b o e)}
def AB.bk(I:AB X pq σ H s):∀b o,X.base.get? b=some o->s.heap.get? b=some o:=λb o e=>(I.bs b o e).1
def AB.mod(I:AB X pq σ H s):Mod X.K X.mg X.base:=I.ok.mod
def AB.kIn(I:AB X pq σ H s):X.K.In s.heap:=I.ok.mod.kin.keeps I.bk
def AB.lt(I:AB X pq σ H s):X.env.locals<s.heap.objs.size:=let{_,hn,_}:=I.loc;hn.lt
def AB.sz(I:AB X pq σ H s):X.s₀.heap.objs.size<=s.heap.objs.size:=Js I.ok.above (Fg I.lt)
def AB.nofs(I:AB X pq σ H s){a:Addr}(h:s.heap.objs.size<=a):a∉X.fs:=λG=>by
 let{_,o,B,_}:=I.ok.funs.mem G;show D0 (Gn (D7 B) (Js I.sz h)) (Bw _)
def AB.cne(I:AB X pq σ H s):∀x c,X.env.cells.lookup x=some c->c≠X.env.locals:=λx c e z=>by
 let{v,o,G,hd}:=I.cell x c e;let{m,{o',es,ep,h,B,_},_}:=I.loc;rw[z,h]at G;cases G;rw[B]at hd;cases hd
def AB.funs(I:AB X pq σ H s):s.heap.FunFrames X.base X.outer:=by
 let all:∀(l:List Env),(∀b∈CK l,b∈X.fs)->X.s₀.heap.FunFrames X.base l->s.heap.FunFrames X.base l:=by
  intro l
  induction l with
  |nil=>intro _ _;trivial
  |cons env r J =>
   intro hs hl;let{Z,{L,o,h,hn,Y,hd},O}:=hl;let G:L∈X.fs:=hs L (by unfold CK;rw[Hq,h];show List.mem_cons_self);let{sl,e}:=I.base.slot L o Y (I.ok.frf L G) G λz=>I.ok.exfs L z G;show{Z,{L,_,h,hn,e,hd},J (λb B=>hs b (by unfold CK;rw[Hq,h];show List.mem_cons_of_mem _ B)) O}
 show all X.outer (λ_ B=>B) I.ok.funs
def AB.stack(I:AB X pq σ H s):s.heap.FunFrames X.base X.stack:=by
 rcases I.ok.stk with e|⟨e,hf⟩
 .rw[e];show I.funs
 .rw[e];let{m,hn,_}:=I.loc;show .cons (by rw[I.ok.kind];decide) hf hn ?_ I.funs;show L9 (Js I.ok.bsz I.ok.above)
def AB.stkSub(I:AB X pq σ H s):∀b∈CK X.stack,b∈X.env.locals::X.fs:=λb h=>by
 rcases I.ok.stk with e|⟨e,hf⟩
 .rw[e]at h;show Jg _ h
 .rw[e]at h;unfold CK at h;rw[Hq,hf]at h;show h
def AB.stkFree(I:AB X pq σ H s):∀b∈CK X.stack,H b=none:=λb h=>by
 rcases Gd.mp (I.stkSub b h)with e|h
 .rw[e];show I.free
 .let⟨_,o,B,_⟩:=I.ok.funs.mem h;show I.base.free b o B (I.ok.frf b h) λz=>I.ok.exfs b z h
def AB.step{d':Drawn}{ch:List Addr}(I:AB X pq σ H s)(B:∀b∈ch,(b∈X.ex\/X.s₀.heap.objs.size<=b)/\b≠X.env.locals/\(∀x c,X.env.cells.lookup x=some c->c≠b)/\∀p∈X.pn++pq,p.1≠b)(keep:∀b o,b≠X.env.locals->b∉X.fs->b∉ch->s.heap.get? b=some o->H b=none->h'.get? b=some o)(slot:∀b o,b≠X.env.locals->b∈X.fs->b∉ch->s.heap.get? b=some o->H b=none->∃sl,h'.get? b=some {o with slots:=sl})(free:∀b o,b∉ch->s.heap.get? b=some o->H b=none->H' b=none)(there:∀b o,b∉ch->s.heap.get? b=some o->∃o',h'.get? b=some o')(tups:∀b xs,H b=some (.tup xs)->H' b=some (.tup xs))(frzs:∀b o u,H b=some (.frz o u)->H' b=some (.frz o u))(tbls:∀b ps,H b=some (.tbl ps)->∃more,H' b=some (.tbl (ps++more)))(ns:∀m,s.heap.Ns X.env.locals m->h'.Ns X.env.locals m)(a0:BN X.prog X.w H' h')(hg:DN g') :
  AB X pq σ H' {s with heap:=h',gens:=g',drawn:=d',toks:=t'}:=by
 let Y:∀b o,X.s₀.heap.get? b=some o->b≠X.env.locals:=λb o e=>Gk (Gn (D7 e) I.ok.above);let G:∀b o,X.s₀.heap.get? b=some o->b∉X.ex->b∉ch:=λb o e hx J=>by
  rcases(B b J).1 with z|z
  .show hx z
  .show D0 (Gn (D7 e) z) (Bw _)
 let cellK:∀x c,X.env.cells.lookup x=some c->∀v,s.heap.IsCell c v->h'.IsCell c v:=λx c e v⟨o,O,hd⟩=>by
  let h:c∉ch:=λz=>(B c z).2.2.1 x c e W
  by_cases hc:c∈X.fs
  .let⟨sl,q⟩:=slot c o (I.cne x c e) hc h O (I.freeC x c e);show{_,q,hd}
  .show{o,keep c o (I.cne x c e) hc h O (I.freeC x c e),hd}
 exists I.ok,I.os,hg,{λb o e n J hx=>?_,λb o e n J hx=>?_,λb o e n hx=>?_,λb o e hx=>?_,λb xs e=>tups b xs (I.base.tups b xs e),λb o xs e=>frzs b o xs (I.base.frzs b o xs e),λb ps e=>?_},?_,λx c e=>?_,?_,λx c e=>?_,λp hp=>?_,a0,I.len
 .show keep b o (Y b o e) J (G b o e hx) (I.base.keep b o e n J hx) (I.base.free b o e n hx)
 .let⟨sl,e1⟩:=I.base.slot b o e n J hx;let{Z,e2}:=slot b _ (Y b o e) J (G b o e hx) e1 (I.base.free b o e n hx);show{Z,e2}
 .let⟨o',e1⟩:=I.base.there b o e hx;show free b o' (G b o e hx) e1 (I.base.free b o e n hx)
 .let⟨o',e1⟩:=I.base.there b o e hx;show there b o' (G b o e hx) e1
 .let⟨m1,e1⟩:=I.base.tbls b ps e;let{m2,e2}:=tbls b _ e1;show{m1++m2,by rw[e2,Array.append_assoc]}
 .let⟨m,hn,hl⟩:=I.loc;exists m,ns m hn,λi x v e1 e2 e3=>?_;let{u,r,l}:=hl i x v e1 e2 e3;show{u,r,?_};rcases l with l|⟨k,c,e,z⟩
  .show .inl l
  .show .inr {k,c,e,cellK x c e _ z}
 .let⟨v,z⟩:=I.cell x c e;show{v,cellK x c e v z}
 .let⟨m,⟨o,_,_,O,_⟩,_⟩:=I.loc;show free _ o (λz=>(B _ z).2.1 W) O I.free
 .let⟨v,o,O,hd⟩:=I.cell x c e;show free c o (λz=>(B c z).2.2.1 x c e W) O (I.freeC x c e)
 .let⟨e,n,ne,nf,d⟩:=I.pin p hp;let h:p.1∉ch:=λz=>(B p.1 z).2.2.2 p hp W;show{keep p.1 p.2 ne nf h e n,free p.1 p.2 h e n,ne,nf,d}
def AB.un(I:AB X pq σ H s)(u:Un X.fs [] H H' s.heap h')(B:BN X.prog X.w H' h'):AB X pq σ H' {s with heap:=h',toks:=t'}:=by
 let{m,{o,es,ep,Y,r},_}:=id I.loc;let{sl,hL}:=u.any Y I.free (by simp);show I.step (g':=s.gens) (d':=s.drawn) (ch:=[]) (λ_ z=>nomatch z) (λb o _ G _ e n=>u.keep b o e n G (by simp)) (λb o _ G _ e n=>u.slot b o e n G (by simp)) (λb o _ e n=>u.free b o e n (by simp)) (λb o _ e=>u.there b o e (by simp)) u.tups u.frzs u.tbls (λm' hm=>by
  let{o',J,O,h,Z}:=hm;rw[Y]at h;cases h;show{_,J,O,hL,Z}) B I.bare
def AB.call(I:AB X pq σ H s)(u:Un (CK X.stack) ch H H' s.heap h')(J:BN X.prog X.w H' h')(hg:DN g')(G:∀b∈ch,(b∈X.ex\/X.s₀.heap.objs.size<=b)/\b≠X.env.locals/\(∀x c,X.env.cells.lookup x=some c->c≠b)/\∀p∈X.pn++pq,p.1≠b) :
  AB X pq σ H' {s with heap:=h',gens:=g',drawn:=d',toks:=t'}:=by
 let{m,{o,es,ep,ho,r},_}:=id I.loc;let{sl,O}:=u.any ho I.free λz=>(G _ z).2.1 W;show I.step (ch:=ch) G (λb o O hb h e n=>u.keep b o e n (λz=>(Gd.mp (I.stkSub b z)).elim O hb) h) (λb o _ _ h e n=>u.any e n h) (λb o h e n=>u.free b o e n h) (λb o h e=>u.there b o e h) u.tups u.frzs u.tbls (λm' hm=>by
  let{o',Y,Z,B,r'}:=hm;rw[ho]at B;cases B;show{_,Y,Z,O,r'}) J hg
def AB.turned(I:AB X pq σ H s)(k:∀b o,b≠it->s.heap.get? b=some o->h'.get? b=some o)(hn:H it=none)(G:it≠X.env.locals)(h1:it∈X.ex\/X.s₀.heap.objs.size<=it)(h2:∀x c,X.env.cells.lookup x=some c->c≠it)(h3:∀p∈X.pn++pq,p.1≠it):AB X pq σ H {s with heap:=h',toks:=t'}:=by
 let B:∀b u,H b=some u->b≠it:=λb u e z=>by rw[z,hn]at e;cases e
 show I.step (g':=s.gens) (d':=s.drawn) (ch:=[it]) (λb Y=>?_) (λb o _ _ h e _=>k b o (λz=>h (by simp[z])) e) (λb o _ _ h e _=>{o.slots,k b o (λz=>h (by simp[z])) e}) (λ_ _ _ _ n=>n)
  (λb o h e=>{o,k b o (λz=>h (by simp[z])) e}) (λ_ _ e=>e) (λ_ _ _ e=>e) (λb ps e=>{#[],by rw[e];simp}) (λm O=>?_) (λb u e=>?_) I.bare
 .let e:b=it:=by simpa using Y
  subst e;show{h1,G,h2,h3}
 .let⟨o,es,ep,J,r⟩:=O;show{o,es,ep,k _ o (Et G) J,r}
 .show(I.hok b u e).stay (λc v h q=>k c v ?_ q) (λ_ q=>q) λ_ _ q=>q;rcases h with z|z
  .rw[z];show B b u e
  .show B c _ z
def AB.tok(I:AB X pq σ H s)(t:Nat):AB X pq σ H {s with toks:=t}:=I.un (h':=s.heap) (t':=t) Un.refl I.hok
def AB.kept(I:AB X pq σ H s)(k:∀b u,s.heap.get? b=some u->h'.get? b=some u):AB X pq σ H {s with heap:=h',toks:=t'}:=I.un (Un.kept k) (I.hok.kept k)
def AB.laid{a:Addr}{o:HO}(I:AB X pq σ H s)(k:∀b u,s.heap.get? b=some u->h'.get? b=some u)(h:s.heap.objs.size<=a)(new:Y9 X.prog X.w (upd H a o) h' a o) :
  AB X pq σ (upd H a o) {s with heap:=h',toks:=t'}:=I.un (Un.laid k h (I.hok.fresh h)) (I.hok.laid k h new)
def AB.write(I:AB X pq σ H s)(mu:FH (H x))(B:e=x\/H e=some (.own x))(k:∀b u,b≠e->s.heap.get? b=some u->h'.get? b=some u)(h:∃u,h'.get? e=some u)(new:Y9 X.prog X.w (upd H x o) h' x o):AB X pq σ (upd H x o) {s with heap:=h',toks:=t'}:=I.un (Un.write mu B k h) (I.hok.write mu B k h new)
def AB.weak(I:AB X pq σ H s)(hl:σ'.length=σ.length)(w:∀(i:Nat)v,σ'[i]?=some (some v)->σ[i]?=some (some v)):AB X pq σ' H s :=
 {I.ok,I.os,I.bare,I.base,let{m,hn,h}:=I.loc;{m,hn,λi x v e1 e2 e3=>h i x v e1 (w i v e2) e3},I.cell,I.free,I.freeC,I.pin,I.hok,hl.trans I.len}
def AB.pins_of{pins':List (Addr×Obj)}(I:AB X pq σ H s)(h:∀p∈pins',s.heap.get? p.1=some p.2/\H p.1=none/\p.1≠X.env.locals/\p.1∉X.fs/\∀v,p.2.data≠.cell v):AB X pins' σ H s :=
 {I.ok,I.os,I.bare,I.base,I.loc,I.cell,I.free,I.freeC,λp B=>(Jw.mp B).elim (λz=>I.pin p (Gs _ z)) (h p),I.hok,I.len}
def ZS(h:N.Nodup)(a:N[i]?=some x)(b:N[j]?=some x):i=j:=by
 let{h1,e1}:=Jd.mp a;let{h2,e2}:=Jd.mp b;show(Bf h).mp (e1.trans e2.symm)
def aF{v:V}(I:AB X pq σ H s)(hN:X.N.Nodup)(hi:X.N[i]?=some x)(hx:GP X.env.scope x)(r:AJ v u)(h:∀s',AB X pq (σ.set i (some v)) H s'->(∃a,Hm a s.heap s'.heap/\(a=X.env.locals\/X.env.cells.lookup x=some a))->Q ⟨⟩ s')(hf:X.fn x=true\/X.env.scope.names.lookup x=some .local:=by first|left;rfl|right;rfl|assumption):Cg M A (LV X.env x u) Q E s:=by
 let{m,hn,hl}:=id I.loc;let a0:(X.env.scope.kind == .class ||(X.env.scope.kind == .module&&X.env.locals != X.env.globals))=false:=by rw[I.ok.kind];rfl
 let G:i < σ.length:=by rw[I.len];show(Jd.mp hi).1
 let cne:=I.cne;let tracked:∀{a:Addr}{h':Heap},(∃o,s.heap.get? a=some o/\H a=none)->Hm a s.heap h'->BN X.prog X.w H h':=λ{a h'}ha hs b ob e=>by
  let{_,_,hfree}:=ha;show(I.hok b ob e).stay (λc w' B q=>(hs.2 c ?_).trans q) (λ_ q=>q) λ_ _ q=>q;rintro rfl;rcases B with rfl|B
  .rw[hfree]at e;cases e
  .rw[hfree]at B;cases B
 rcases hx with hk|hk
 .show wpAny_storeName_local hk hn (λh' a3 hs=>?_) a0;let{oL,_,_,a2,_}:=id hn;show h _ {I.ok,I.os,I.bare,{λb o e n O hx=>?_,λb o e n O hx=>?_,I.base.free,λb o e hx=>?_,I.base.tups,I.base.frzs,I.base.tbls},{_,a3,λj y v' e1 e2 e3=>?_},λy c e=>?_,I.free,I.freeC,λp hp=>?_,tracked {oL,a2,I.free} hs,by simpa using I.len} {_,hs,.inl W}
  .show(hs.2 b (Gk (Gn (D7 e) I.ok.above))).trans (I.base.keep b o e n O hx)
  .let⟨sl,e1⟩:=I.base.slot b o e n O hx;show{sl,(hs.2 b (Gk (Gn (D7 e) I.ok.above))).trans e1}
  .let⟨o',e1⟩:=I.base.there b o e hx;show{o',(hs.2 b (Gk (Gn (D7 e) I.ok.above))).trans e1}
  .by_cases hj:j=i
   .subst hj;rw[hi]at e1;cases e1;rw[Gw G]at e2;cases e2;show{u,r,.inl {hk,by simp}}
   .rw[G2 (Et hj)]at e2;let{u',r',q}:=hl j y v' e1 e2 e3;show{u',r',?_};rcases q with⟨k,e⟩|⟨k,c,e,z⟩
    .show .inl {k,?_};let:y≠x:=λe=>hj (ZS hN e1 (e ▸ hi));simp[this,e]
    .show .inr {k,c,e,z.sameBut hs (cne y c e)}
  .let⟨w',z⟩:=I.cell y c e;show{w',z.sameBut hs (cne y c e)}
  .let⟨e,n,ne,nf,d⟩:=I.pin p hp;exists(hs.2 p.1 ne).trans e,n,ne,nf,d
 .let J:X.fn x=true:=by
   rcases hf with z|z
   .show z
   .rw[z]at hk;cases hk
  let{c,B}:=I.ok.has x (.inl hk);let{w',z}:=I.cell x c B;show wpAny_storeName_cell I.ok.kind hk B z (λh' a1 hs=>?_);let{oc,Z,Y}:=id z;show h {s with heap:=h'} {I.ok,I.os,I.bare,{λb o e n O hx=>?_,λb o e n O hx=>?_,I.base.free,λb o e hx=>?_,I.base.tups,I.base.frzs,I.base.tbls},{m,hn.sameBut hs (Et (cne x c B)),λj y v' e1 e2 e3=>?_},λy c' e=>?_,I.free,I.freeC,λp hp=>?_,tracked {oc,Z,I.freeC x c B} hs,by simpa using I.len} {c,hs,.inr B}
  .show(hs.2 b (Gk (Gn (D7 e) (I.ok.cab x c J B)))).trans (I.base.keep b o e n O hx)
  .let⟨sl,e1⟩:=I.base.slot b o e n O hx;show{sl,(hs.2 b (Gk (Gn (D7 e) (I.ok.cab x c J B)))).trans e1}
  .let⟨o',e1⟩:=I.base.there b o e hx;show{o',(hs.2 b (Gk (Gn (D7 e) (I.ok.cab x c J B)))).trans e1}
  .by_cases hj:j=i
   .subst hj;rw[hi]at e1;cases e1;rw[Gw G]at e2;cases e2;show{u,r,.inr {.inl hk,c,B,a1}}
   .rw[G2 (Et hj)]at e2;let{u',r',q}:=hl j y v' e1 e2 e3;show{u',r',?_};rcases q with q|⟨k,c',e,z'⟩
    .show .inl q
    .show .inr {k,c',e,z'.sameBut hs ?_};rintro rfl;show hj (ZS hN e1 (I.ok.inj _ _ _ e B ▸ hi))
  .by_cases hcc:c'=c
   .subst hcc;show{_,a1}
   .let⟨w2,z2⟩:=I.cell y c' e;show{w2,z2.sameBut hs hcc}
  .let⟨e,n,ne,nf,d⟩:=I.pin p hp;exists(hs.2 p.1 ?_).trans e,n,ne,nf,d;intro q;rw[q,Z]at e;let q':oc=p.2:=BG e;show d w' (by rw[<-q'];show Y)
def Sl{v:V}(I:AB X pq σ H s)(G:X.N.Nodup)(hi:X.N[i]?=some x)(hx:GP X.env.scope x)(r:AJ v u)(h:∀s',AB X pq (σ.set i (some v)) H s'->Q ⟨⟩ s')(B:X.fn x=true\/X.env.scope.names.lookup x=some .local:=by first|left;rfl|right;rfl|assumption):Cg M A (LV X.env x u) Q E s :=
 aF I G hi hx r (λs' I' _=>h s' I') B
def AB.call'(I:AB X pq σ H s)(G:s'.os=s.os)(u:Un (CK X.stack) ch H H' s.heap s'.heap)(h:BN X.prog X.w H' s'.heap)(J:DN s'.gens)(B:∀b∈ch,(b∈X.ex\/X.s₀.heap.objs.size<=b)/\b≠X.env.locals/\(∀x c,X.env.cells.lookup x=some c->c≠b)/\∀p∈X.pn++pq,p.1≠b):AB X pq σ H' s':=by
 let{h',g',d',t',o'}:=s';let e:o'=s.os:=G;subst e;show I.call (g':=g') (t':=t') (d':=d') u h J B
end
abbrev XK:=Ca->Option Addr->Hp->Prop
abbrev St:=List (Option V)
variable{σ:L2.St}
abbrev VK:=V->Hp->Prop
variable{Q:L2.VK}
abbrev TE:=St->Hp->VK->Prop
variable{te ta tb to ti:L2.TE}
abbrev TT:=St->Hp->(Bool->Hp->Prop)->Prop
abbrev TA:=St->Hp->(List V->Hp->Prop)->Prop
structure Ends where
 nx:St->Hp->Prop
 rt:VK
 bk:St->Hp->Prop:=λ_ _=>False
 ct:St->Hp->Prop:=λ_ _=>False
abbrev TS:=Ends->St->Hp->Prop
def EP(X:Cx)(pq:List (Addr×Obj))(σ:St)(Q:VK)(u:Ca)(s':Cc):Prop:=∃v H',AB X pq σ H' s'/\AJ v u/\Q v H'
def TP(X:Cx)(pq:List (Addr×Obj))(σ:St)(Q:Bool->Hp->Prop)(b:Bool)(s':Cc):Prop:=∃H',AB X pq σ H' s'/\Q b H'
def AP(X:Cx)(pq:List (Addr×Obj))(σ:St)(Q:List V->Hp->Prop)(us:List Ca)(s':Cc):Prop:=∃vs H',AB X pq σ H' s'/\AF vs us/\Q vs H'
def SP(X:Cx)(pq:List (Addr×Obj))(D:Ends)(f:Flow)(s':Cc):Prop :=
 match f with
 |.next=>∃h H',AB X pq h H' s'/\D.nx h H'
 |.brk=>∃h H',AB X pq h H' s'/\D.bk h H'
 |.cont=>∃h H',AB X pq h H' s'/\D.ct h H'
 |.ret u=>∃v h H',AB X pq h H' s'/\AJ v u/\D.rt v H'
def PE(X:Cx)(e:Expr)(t:TE):Prop :=
 ∀(pq:List (Addr×Obj))(s:Cc)(σ:St)(H:Hp)(Q:VK),AB X pq σ H s->t σ H Q->Cg (Cj X.prog X.w) X.A (eval e X.env) (EP X pq σ Q) X.xe s
def PT(X:Cx)(e:Expr)(t:TT):Prop :=
 ∀(pq:List (Addr×Obj))(s:Cc)(σ:St)(H:Hp)(Q:Bool->Hp->Prop),AB X pq σ H s->t σ H Q->Cg (Cj X.prog X.w) X.A (isTrue e X.env (eval e X.env)) (TP X pq σ Q) X.xe s
def PW(X:Cx)(e:Expr)(t:TT):Prop :=
 ∀(whole:Sem Ca)(pq:List (Addr×Obj))(s:Cc)(σ:St)(H:Hp)(Q:Bool->Hp->Prop),AB X pq σ H s->t σ H Q->Cg (Cj X.prog X.w) X.A (isTrue e X.env whole) (TP X pq σ Q) X.xe s
def PW.pt(h:PW X e t):PT X e t:=h _
def PA(X:Cx)(es:List Expr)(t:TA):Prop :=
 ∀(dF:Pos)(pq:List (Addr×Obj))(s:Cc)(σ:St)(H:Hp)(Q:List V->Hp->Prop),AB X pq σ H s->t σ H Q->Cg (Cj X.prog X.w) X.A (spliced (Ks dF (Cr es X.env))) (AP X pq σ Q) X.xe s
def PS(X:Cx)(st:Stmt)(t:TS):Prop :=
 ∀(pq:List (Addr×Obj))(s:Cc)(σ:St)(H:Hp)(D:Ends),AB X pq σ H s->t D σ H->Cg (Cj X.prog X.w) X.A (exec st X.env) (SP X pq D) X.xe s
def PSs(X:Cx)(st:List Stmt)(t:TS):Prop :=
 ∀(pq:List (Addr×Obj))(s:Cc)(σ:St)(H:Hp)(D:Ends),AB X pq σ H s->t D σ H->Cg (Cj X.prog X.w) X.A (execs st X.env) (SP X pq D) X.xe s
def AS{α:Type}{t:Sem α}{Q B:α->Cc->Prop}{M:DC}(h:Cg M A t Q E s)(G:∀a s,Q a s->B a s):Cg M A t B E s:=BJ h G λ_ _ x=>x
section
def tVar(i:Nat):TE:=λσ H Q=>∃v,σ[i]?=some (some v)/\Q v H
def tC(v:V):TE:=λ_ H Q=>Q v H
def gO(Z:X.N[i]?=some x)(O:HU X.env.scope x)(hd:(x==("__debug__":Str))=false:=by decide)(G:(x==("__classdict__":Str))=false:=by decide):PE X (.Name x dF) (tVar i):=by
 intro pq s σ H Q I h;let{v,e,h}:=h;let{m,hn,hl}:=I.loc;let{u,r,l}:=hl i x v Z e O;let fin:EP X pq σ Q u s:={v,H,I,r,h};rcases l with⟨B,Y⟩|⟨B,c,J,hcell⟩
 .show NR (XX I.ok.kind B hn Y fin) hd
 .rcases B with B|B
  .show NR (SE I.ok.kind B J hcell fin) hd
  .show NR (wpAny_loadName_free I.ok.kind B J hcell fin G) hd
def Zd{i j dF}:PE X (.Constant (.int i) j dF) (tC (.int i)):=λ_ _ _ H _ I h=>wpAny_Constant_int {.int i,H,I.tok _,{_,W},h}
def Tx{b j dF}:PE X (.Constant (.bool b) j dF) (tC (.bl b)):=λ_ _ _ H _ I h=>Constant_bool {.bl b,H,I,W,h}
def Vl{j dF}:PE X (.Constant .none j dF) (tC .non):=λ_ _ _ H _ I h=>NG {.non,H,I,W,h}
def NB{x j dF}:PE X (.Constant (.str x) j dF) (tC (.str x)):=λ_ _ _ H _ I h=>Calls.Constant_str {.str x,H,I.tok _,{_,W},h}
def Gl(X:Cx)(x:Str):Prop:=X.env.kindOf x=some .globalImplicit
def Tz{u:Ca}{Q:Ca->Cc->Prop}(I:AB X pq σ H s)(G:Gl X x)(B:X.mg x=some u)(h:Q u s)(hd:(x==("__debug__":Str))=false:=by decide):Cg (Cj X.prog X.w) X.A (eval (.Name x dF) X.env) Q E s :=
 Ms I.ok.kind G (Calls.loadGlobal_global (by rw[I.ok.glob];show I.mod.glob.keeps I.bk) B h) hd
def Nq{u:Ca}{Q:Ca->Cc->Prop}(I:AB X pq σ H s)(J:Gl X x)(G:X.mg x=none)(B:K1 x=some u)(h:Q u s)(hn:x≠"__name__":=by decide)(hd:(x==("__debug__":Str))=false:=by decide):Cg (Cj X.prog X.w) X.A (eval (.Name x dF) X.env) Q E s:=by
 let{O,h1,h2}:=I.mod.blt;show Ms I.ok.kind J (Calls.loadGlobal_builtin (by rw[I.ok.glob];show I.mod.glob.keeps I.bk) G (by rw[I.ok.blt];show h1.keeps I.bk) ((h2 x hn).trans B) h) hd
def Vv{v:V}(G:Gl X x)(B:X.mg x=some u)(r:AJ v u)(hd:(x==("__debug__":Str))=false:=by decide):PE X (.Name x dF) (tC v) :=
 λ_ _ _ H _ I h=>Tz I G B {v,H,I,r,h} hd
def Ri{v:V}(J:Gl X x)(G:X.mg x=none)(B:K1 x=some u)(r:AJ v u)(hn:x≠"__name__":=by decide)(hd:(x==("__debug__":Str))=false:=by decide):PE X (.Name x dF) (tC v) :=
 λ_ _ _ H _ I h=>Nq I J G B {v,H,I,r,h} hn hd
variable{a b:Expr} 
def PC(X:Cx)(op:CmpOp)(a b:Expr)(t:TE):Prop :=
 ∀(pq:List (Addr×Obj))(s:Cc)(σ:St)(H:Hp)(Q:VK),AB X pq σ H s->t σ H Q ->
  Cg (Cj X.prog X.w) X.A (eval a X.env) (λv B=>Cg (Cj X.prog X.w) X.A (eval b X.env) (λu h=>Cg (Cj X.prog X.w) X.A (Eu op v u) (EP X pq σ Q) X.xe h) X.xe B) X.xe s
def UU(b:Expr)(h:op≠.In)(h2:op≠.NotIn):Hr op b=false:=by
 let e1:(op==CmpOp.In)=false:=by cases op<;>first|rfl|show D0 rfl h
 let e2:(op==WZ)=false:=by cases op<;>first|rfl|show D0 rfl h2
 cases b<;>simp[Hr,e1,e2]
def tIsN(ta:TE):TE:=λσ H Q=>ta σ H λx H1=>Q (.bl (decide (x=.non))) H1
def cC(ta:TE):TE:=λσ H Q=>ta σ H λx H1=>Q (.bl (!decide (x=.non))) H1
theorem AJ.none_iff(r:AJ x v):(v==Ca.none)=decide (x=.non):=by
 cases x with
 |non=>cases r;rfl
 |bl _=>cases r;rfl
 |int _=>obtain⟨t,rfl⟩:=r;rfl
 |str _=>obtain⟨t,rfl⟩:=r;rfl
 |byt _=>obtain⟨t,rfl⟩:=r;rfl
 |flt _=>obtain⟨t,rfl⟩:=r;rfl
 |ref _=>cases r;rfl
 |ty _=>cases r;rfl
def Um{j pos'}(J:PE X a ta):PC X .Is a (.Constant .none j pos') (tIsN ta):=by
 intro pq s σ H Q I h;show AS (J pq s σ H _ I h) λv Y hz=>?_;let{x,H1,O,B,G}:=hz;show NG (is_none_gen {.bl _,H1,O,by rw[B.none_iff];rfl,G})
def IT{j pos'}(J:PE X a ta):PC X .IsNot a (.Constant .none j pos') (cC ta):=by
 intro pq s σ H Q I h;show AS (J pq s σ H _ I h) λv Y hz=>?_;let{x,H1,O,B,G}:=hz;show NG (isnot_none_gen {.bl _,H1,O,by rw[B.none_iff];rfl,G})
def tB(t:TE):TT:=λσ H Q=>t σ H λx H1=>∃c,x=.bl c/\Q c H1
def JT(h:PC X op a b t)(h1:Hr op b=false:=by first|show UU _ nofun nofun|rfl):PE X (.Compare a [op] [b] dF) t:=λpq s σ H Q I hw=>wpAny_Compare1 (h pq s σ H Q I hw) h1
def Wy(h:PC X op a b t)(h1:Hr op b=false:=by first|show UU _ nofun nofun|rfl):PT X (.Compare a [op] [b] dF) (tB t):=by
 intro pq s σ H Q I hw;show Oz (AS (h pq s σ H _ I hw) λv Z h1=>AS h1 λu Y h2=>AS h2 λc O hz=>?_) h1;let{x,H1,J,B,G}:=hz;let{d,rfl,q}:=G;cases B;show Eh {H1,J,q}
def V8(h:PE X e t)(J:∀whole,isTrue e X.env whole=(do let v <-whole;DY e.pos;M8 [v] (truthy v)):=by intro _;rfl):PT X e (tB t):=by
 intro pq s σ H Q I hw;show isTrue_plain (AS (h pq s σ H _ I hw) λv Y hz=>?_) (J _);let{x,H1,O,B,G}:=hz;let{d,rfl,q}:=G;cases B;show Eh {H1,O,q}
variable{tA tB':TT}{dG:List Expr}
def tAnd(t u:TT):TT:=λσ H Q=>t σ H λc H1=>if c=true then u σ H1 Q else Q false H1
def tOr(t u:TT):TT:=λσ H Q=>t σ H λc H1=>if c=true then Q true H1 else u σ H1 Q
def tNot(t:TT):TT:=λσ H Q=>t σ H λc H1=>Q (!c) H1
theorem ZH(B:PT X a tA):PW X (.BoolOp .And [a] dF) tA:=by
 intro G pq s σ H Q I h;show isTrue_and (AS (B pq s σ H Q I h) λc J e=>?_);cases c with
 |true=>show isTrue_and_nil e
 |false=>show e
theorem HE(B:PT X a tA):PW X (.BoolOp .Or [a] dF) tA:=by
 intro G pq s σ H Q I h;show isTrue_or (AS (B pq s σ H Q I h) λc J e=>?_);cases c with
 |false=>show isTrue_or_nil e
 |true=>show e
theorem bK(Z:PT X a tA)(Y:PW X (.BoolOp .And (b::dG) dF) tB'):PW X (.BoolOp .And (a::b::dG) dF) (tAnd tA tB'):=by
 intro J pq s σ H Q I h;show isTrue_and (AS (Z pq s σ H _ I h) λc O hz=>?_);let{H1,G,B}:=hz;cases c with
 |true=>show Y J pq O σ H1 Q G B
 |false=>show{H1,G,B}
theorem IG(Z:PT X a tA)(Y:PW X (.BoolOp .Or (b::dG) dF) tB'):PW X (.BoolOp .Or (a::b::dG) dF) (tOr tA tB'):=by
 intro J pq s σ H Q I h;show isTrue_or (AS (Z pq s σ H _ I h) λc O hz=>?_);let{H1,G,B}:=hz;cases c with
 |true=>show{H1,G,B}
 |false=>show Y J pq O σ H1 Q G B
def Q5(B:PT X a tA):PT X (.UnaryOp .Not a dF) (tNot tA):=by
 intro pq s σ H Q I h;show isTrue_not (B pq s σ H (λc H1=>Q (!c) H1) I h)
def bA(ta tb:TE):TE:=λσ H Q=>ta σ H λx H1=>∃c,x=.bl c/\if c=true then tb σ H1 Q else Q (.bl false) H1
def tOrV(ta tb:TE):TE:=λσ H Q=>ta σ H λx H1=>∃c,x=.bl c/\if c=true then Q (.bl true) H1 else tb σ H1 Q
def TY(ta:TE):TE:=λσ H Q=>ta σ H λx H1=>∃c,x=.bl c/\Q (.bl (!c)) H1
def GH{op}(h:PE X a t):PE X (.BoolOp op [a] dF) t:=λpq s σ H Q I hw=>BoolOp_one (h pq s σ H Q I hw)
theorem Nk(Z:PE X a ta)(Y:PE X (.BoolOp .And (b::dG) dF) tb):PE X (.BoolOp .And (a::b::dG) dF) (bA ta tb):=by
 intro pq s σ H Q I h;show BoolOp_and (AS (Z pq s σ H _ I h) λv J hz=>?_);let{x,H1,G,O,B}:=hz;let{c,rfl,B}:=B;cases O;show Eh ?_;cases c with
 |true=>show Y pq J σ H1 Q G B
 |false=>show{.bl false,H1,G,W,B}
theorem aS(Z:PE X a ta)(Y:PE X (.BoolOp .Or (b::dG) dF) tb):PE X (.BoolOp .Or (a::b::dG) dF) (tOrV ta tb):=by
 intro pq s σ H Q I h;show BoolOp_or (AS (Z pq s σ H _ I h) λv J hz=>?_);let{x,H1,G,O,B}:=hz;let{c,rfl,B}:=B;cases O;show Eh ?_;cases c with
 |false=>show Y pq J σ H1 Q G B
 |true=>show{.bl true,H1,G,W,B}
def ND(J:PE X a ta):PE X (.UnaryOp .Not a dF) (TY ta):=by
 intro pq s σ H Q I h;show UnaryOp_ (AS (J pq s σ H _ I h) λv Y hz=>?_);let{x,H1,O,G,B}:=hz;let{c,rfl,B}:=B;cases G;show not_of (Eh {.bl (!c),H1,O,W,B})
def tIf(t:TT)(ta tb:TE):TE:=λσ H Q=>t σ H λc H1=>if c=true then ta σ H1 Q else tb σ H1 Q
theorem Td{c:Expr}(O:PT X c tA)(Z:PE X a ta)(Y:PE X b tb):PE X (.IfExp c a b dF) (tIf tA ta tb):=by
 intro pq s σ H Q I h;show wpAny_IfExp (AS (O pq s σ H _ I h) λd B hz=>?_);let{H1,J,G}:=hz;cases d with
 |true=>show Z pq B σ H1 Q J G
 |false=>show Y pq B σ H1 Q J G
end
def Ad(K:Cq)(H:Hp)(a:Addr)(xs:List V):Prop :=
 Rd H a (.lst xs) \/
  ∃(o:Obj)(its:Array Ca)(n:Nat),K.lookup a=some o/\o.cls=.type "list"/\o.dict=none/\o.data=.seq its n/\its.size<=Cb/\AF xs its.toList
def A2(K:Cq)(H:Hp)(a:Addr)(xs:List V):Prop :=
 Rd H a (.tup xs) \/
  ∃(o:Obj)(its:Array Ca)(n:Nat),K.lookup a=some o/\o.cls=.type "tuple"/\o.data=.seq its n/\its.size<=Cb/\AF xs its.toList
def absV:Ca->Option V
 |.none=>some .non
 |.bool b=>some (.bl b)
 |.int i _=>some (.int i)
 |.str x _=>some (.str x)
 |.bytes b _=>some (.byt b)
 |.float b _=>some (.flt b)
 |.ref a=>some (.ref a)
 |.type n=>some (.ty n)
 |_=>none
theorem AJ.abs(r:AJ x u):absV u=some x:=by
 cases x with
 |non=>cases r;rfl
 |bl _=>cases r;rfl
 |int _=>obtain⟨t,rfl⟩:=r;rfl
 |str _=>obtain⟨t,rfl⟩:=r;rfl
 |byt _=>obtain⟨t,rfl⟩:=r;rfl
 |flt _=>obtain⟨t,rfl⟩:=r;rfl
 |ref _=>cases r;rfl
 |ty _=>cases r;rfl
def AJ.inj(r:AJ x u)(q:AJ y u):x=y:=BG (r.abs.symm.trans q.abs)
theorem AF.inj:∀{xs ys:List V}{us:List Ca},AF xs us->AF ys us->xs=ys:=by
 intro _ _ _ B h;cases B with
 |nil=>
  cases h with
  |nil=>
   show W
 |cons r t=>
  cases h with
  |cons G t'=>
   show by rw[r.inj G,AF.inj t t']
section
variable{a:Addr}{xs:List V}
def Ad.of(h:H a=some (.lst xs)):Ad K H a xs:=.inl (.inl h)
def A2.of(h:H a=some (.tup xs)):A2 K H a xs:=.inl (.inl h)
theorem AB.list(I:AB X pq σ H s)(h:Ad X.K H a xs):∃its:List Ca,AF xs its/\PlainL s.heap a its.toArray/\xs.length<=Cb:=by
 rcases h with h|⟨o,its,n,hk,hc,hd,hs,hz,r⟩
 .let⟨z,its,n,r,e⟩:=h.ok I.hok;show{its,r,{_,n,e,W,W,W},z}
 .show{its.toList,r,{o,n,I.kIn a o hk,hc,hd,by simpa using hs},?_};let e:=r.length;simp only[Jl]at e;lia
theorem AB.tuple(I:AB X pq σ H s)(h:A2 X.K H a xs):∃its:List Ca,AF xs its/\IsTup s.heap a its.toArray/\xs.length<=Cb:=by
 rcases h with h|⟨o,its,n,hk,hc,hs,hz,r⟩
 .let⟨z,its,r,p⟩:=h.ok I.hok;show{its,r,p.tup,z}
 .show{its.toList,r,{o,I.kIn a o hk,hc,n,by simpa using hs},?_};let e:=r.length;simp only[Jl]at e;lia
def AB.list_inj(I:AB X pq σ H s)(h:Ad X.K H a xs)(h':Ad X.K H a ys):xs=ys:=by
 let{its,r,{o,n,e,_,_,d},_}:=I.list h;let{its',G,{o',J,B,_,_,d'},_}:=I.list h';rw[e]at B;cases B;rw[d]at d';injection d' with d1 _
 let:its=its':=by simpa using congrArg LJ d1
 subst this;show r.inj G
def AB.tuple_inj(I:AB X pq σ H s)(h:A2 X.K H a xs)(h':A2 X.K H a ys):xs=ys:=by
 let{its,r,{o,e,_,n,d},_}:=I.tuple h;let{its',G,{o',B,_,J,d'},_}:=I.tuple h';rw[e]at B;cases B;rw[d]at d';injection d' with d1 _
 let:its=its':=by simpa using congrArg LJ d1
 subst this;show r.inj G
end
abbrev Cx.wish(X:Cx)(E:Ca->Cc->Prop):Cx:={X with xe:=E}
abbrev Cx.nox(X:Cx):Cx:=X.wish λ_ _=>False
def Cx.Ok.wish(ok:X.Ok)(E:Ca->Cc->Prop):(X.wish E).Ok :=
 {ok.mod,ok.kind,ok.glob,ok.blt,ok.above,ok.inj,ok.has,ok.cab,ok.hd,ok.frames,ok.stk,ok.exf,ok.bs,ok.bsz,ok.noex,ok.exfs,ok.funs,ok.frf}
def Cx.Ok.unwish(ok:(X.wish E).Ok):X.Ok :=
 {ok.mod,ok.kind,ok.glob,ok.blt,ok.above,ok.inj,ok.has,ok.cab,ok.hd,ok.frames,ok.stk,ok.exf,ok.bs,ok.bsz,ok.noex,ok.exfs,ok.funs,ok.frf}
section
def AB.wish(I:AB X pq σ H s)(E:Ca->Cc->Prop):AB (X.wish E) pq σ H s:={I.ok.wish E,I.os,I.bare,I.base,I.loc,I.cell,I.free,I.freeC,I.pin,I.hok,I.len}
def AB.unwish(I:AB (X.wish E) pq σ H s):AB X pq σ H s:={I.ok.unwish,I.os,I.bare,I.base,I.loc,I.cell,I.free,I.freeC,I.pin,I.hok,I.len}
theorem SP.unwish{D:Ends}{f:Flow}{s':Cc}(h:SP (X.wish E) pq D f s'):SP X pq D f s':=by
 cases f with
 |next=>obtain⟨B,H',I,q⟩:=h;show{B,H',I.unwish,q}
 |brk=>obtain⟨B,H',I,q⟩:=h;show{B,H',I.unwish,q}
 |cont=>obtain⟨B,H',I,q⟩:=h;show{B,H',I.unwish,q}
 |ret u=>obtain⟨v,B,H',I,r,q⟩:=h;show{v,B,H',I.unwish,r,q}
def PSs.nox{st:List Stmt}{t:TS}(h:PSs X.nox st t):PSs X st t:=λpq s σ H D I hw =>
 BJ (h pq s σ H D (I.wish _) hw) (λ_ _ q=>q.unwish) λ_ _ z=>Cy z
end
section
variable{dG:List Stmt}{t u:TS}{e:Expr} 
def VA:TS:=λD σ H=>D.nx σ H
def tSeq(t u:TS):TS:=λD σ H=>t {D with nx:=u D} σ H
def Z1:PSs X [] VA:=λ_ _ σ H _ I h=>Kf {σ,H,I,h}
theorem Zb(h1:PS X st t)(h2:PSs X dG u):PSs X (st::dG) (tSeq t u):=by
 intro pq s σ H D I h;show KF (AS (h1 pq s σ H {D with nx:=u D} I h) λf G q=>?_);cases f with
 |next =>
  let{B,H',I',q}:=q;show h2 pq G B H' D I' q
 |ret v=>show q
 |brk=>show q
 |cont=>show q
theorem Ze(h1:PS X st t):PSs X [st] t:=by
 intro pq s σ H D I h;show KF (AS (h1 pq s σ H D I h) λf B q=>?_);cases f with
 |next=>show Kf q
 |ret v=>show q
 |brk=>show q
 |cont=>show q
def AB.quiet(I:AB X pq σ H s):interactive X.env=false:=by simp[interactive,I.ok.kind]
def NM(te:TE):TS:=λD σ H=>te σ H λ_ H1=>D.nx σ H1
def Wn(G:PE X e te)(hs:Mh e none dF.line X.env=pure false:=by rfl):PS X (.Expr e dF) (NM te):=by
 intro pq s σ H D I h;show wpAny_Expr_any (AS (G pq s σ H _ I h) λv O⟨x,H1,J,Y,B⟩=>{σ,H1,J,B}) I.quiet hs
def tRet(te:TE):TS:=λD σ H=>te σ H D.rt
def Zx(J:PE X e te):PS X (.Return (some e) dF) (tRet te):=by
 intro pq s σ H D I h;show wpAny_Return_some (AS (J pq s σ H _ I h) λv Y⟨x,H1,O,B,G⟩=>{x,σ,H1,O,B,G})
def O0:TS:=λD _ H=>D.rt .non H
def Zre:PS X (.Return none dF) O0:=λ_ _ σ H _ I h=>wpAny_Return_none {.non,σ,H,I,W,h}
def tIfS(c:TT)(t u:TS):TS:=λD σ H=>c σ H λb H1=>if b=true then t D σ H1 else u D σ H1
theorem Yz{c:Expr}{a b:List Stmt}{tc:TT}(O:PT X c tc)(Z:PSs X a t)(Y:PSs X b u):PS X (.If c a b dF) (tIfS tc t u):=by
 intro pq s σ H D I h;show wpAny_If (AS (O pq s σ H _ I h) λd B hz=>?_);let{H1,J,G}:=hz;cases d with
 |true=>show Z pq B σ H1 D J G
 |false=>show Y pq B σ H1 D J G
def ZB:TS:=λ_ _ _=>False
def UA:PS X st ZB:=λ_ _ _ _ _ _ h=>h.elim
end
abbrev TG:=V->St->Hp->(St->Hp->Prop)->Prop
abbrev TGs:=List V->St->Hp->(St->Hp->Prop)->Prop
def PG(X:Cx)(target:Expr)(t:TG):Prop :=
 ∀(pq:List (Addr×Obj))(s:Cc)(σ:St)(H:Hp)(v:V)(u:Ca)(Q:St->Hp->Prop),AB X pq σ H s->AJ v u->t v σ H Q ->
  Cg (Cj X.prog X.w) X.A (DP target X.env u) (λ_ s'=>∃h H',AB X pq h H' s'/\Q h H') X.xe s
def PGs(X:Cx)(ts:List Expr)(t:TGs):Prop :=
 ∀(pq:List (Addr×Obj))(s:Cc)(σ:St)(H:Hp)(vs:List V)(us:List Ca)(Q:St->Hp->Prop),AB X pq σ H s->AF vs us->t vs σ H Q ->
  Cg (Cj X.prog X.w) X.A (assignInOrder ((FF ts X.env).map (·.2)) us) (λ_ s'=>∃h H',AB X pq h H' s'/\Q h H') X.xe s
abbrev TSet:=V->V->V->Hp->(Hp->Prop)->Prop
def PSet(X:Cx)(t:TSet):Prop :=
 ∀(pq:List (Addr×Obj))(s:Cc)(σ:St)(H:Hp)(o i v:V)(h B u:Ca)(Q:Hp->Prop),AB X pq σ H s->AJ o h->AJ i B->AJ v u->t o i v H Q ->
  Cg (Cj X.prog X.w) X.A (GJ h B u) (λ_ s'=>∃H',AB X pq σ H' s'/\Q H') X.xe s
abbrev TIp:=V->V->Hp->VK->Prop
def PIp(X:Cx)(op:Operator)(t:TIp):Prop :=
 ∀(pq:List (Addr×Obj))(s:Cc)(σ:St)(H:Hp)(x y:V)(v u:Ca)(Q:VK),AB X pq σ H s->AJ x v->AJ y u->t x y H Q ->
  Cg (Cj X.prog X.w) X.A (inplaceOp op v u) (EP X pq σ Q) X.xe s
section
def EF(i:Nat):TG:=λv σ H Q=>Q (σ.set i (some v)) H
def Zo{i:Nat}(G:X.N.Nodup)(hi:X.N[i]?=some x)(hx:GP X.env.scope x)(B:X.fn x=true\/X.env.scope.names.lookup x=some .local:=by first|left;rfl|right;rfl|assumption):PG X (.Name x dF) (EF i):=by
 intro pq s σ H v u Q I r h;show UE (Sl I G hi hx r (λs' I'=>{_,H,I',h}) B)
def gNil:TGs:=λvs σ H Q=>vs=[]/\Q σ H
def MC(t:TG)(u:TGs):TGs:=λvs σ H Q=>∃v r,vs=v::r/\t v σ H λh H'=>u r h H' Q
def Xk:PGs X [] gNil:=by
 intro pq s σ H vs us Q I r h;let{e,h}:=h;subst e;cases r;show assignInOrder_nil {σ,H,I,h}
theorem Zy(h1:PG X e t)(h2:PGs X es u)(hs:(FF (e::es) X.env).map (·.2)=DP e X.env::(FF es X.env).map (·.2):=by rfl):PGs X (e::es) (MC t u):=by
 intro pq s σ H vs us Q I r h;let{v,Z,e1,h}:=h;subst e1;cases r with
 |cons r J =>
  rw[hs];show assignInOrder_cons (AS (h1 pq s σ H _ _ _ I r h) λ_ G hz=>?_);let{B,H1,Y,O}:=hz;show h2 pq G B H1 _ _ Q Y J O
def gTup(K:Cq)(n:Nat)(t:TGs):TG:=λv σ H Q=>∃a xs,v=.ref a/\A2 K H a xs/\xs.length=n/\t xs σ H Q
def Wj{k:Nat}{t:TGs}{n:Nat}(Y:X.calm=true)(h:PGs X es t)(hn:(FF es X.env).length=n:=by rfl)(B:(FF es X.env).findIdx? (·.1)=none:=by rfl):PG X (.Tuple es k dF) (gTup X.K n t):=by
 intro pq s σ H v u Q I r hw;let{a,xs,e1,O,hl,hw}:=hw;subst e1;cases r;let{its,G,J,hz}:=I.tuple O;show assign_Tuple_tuple (I.ok.hd Y) J (by simp[hn,<-hl,G.length]) B λh' hx=>?_;let Z:AB X pq σ H {s with heap:=h'}:=I.kept (t':=s.toks) λb o e=>hx b o (Gk (D7 e)) e;show h pq _ σ H xs _ Q Z (by simpa using G) hw
def gSub(to ti:TE)(t:TSet):TG:=λv σ H Q=>to σ H λo H1=>ti σ H1 λi B=>t o i v B λh=>Q σ h
def IF(ho:PE X o to)(hi:PE X i ti)(hs:PSet X t)(ha:∀v,DP (.Subscript o i dF) X.env v=(do
   let B <-M8 [v] (eval o X.env)
   let G <-M8 [v,B] (eval i X.env)
   DY dF
   M8 [v,B,G] (GJ B G v)
   release [v,B,G] []):=by intro _;rfl):PG X (.Subscript o i dF) (gSub to ti t):=by
 intro pq s σ H v u Q I r h;rw[ha];show D3 (Cz (AS (ho pq s σ H _ I h) λB O hz=>?_));let{x,H1,I1,Z,q1}:=hz;show D3 (Cz (AS (hi pq O σ H1 _ I1 q1) λG J hz=>?_));let{y,H2,I2,Y,q2}:=hz;show D3 (E5 (D3 (Cz (AS (hs pq J σ H2 x y v B G u _ I2 Z Y r q2) λ_ s3 hz=>?_))));let{H3,I3,q3}:=hz;show wpAny_release {σ,H3,I3,q3}
def tAsg(te:TE)(g:TG):TS:=λD σ H=>te σ H λx H1=>g x σ H1 D.nx
def Nj(Y:PE X e te)(O:PG X tg g)(hs:swapsWithSole [tg] e dF.line X.env=pure false:=by rfl)(hw:swappedStores [tg] e X.env=pure none:=by rfl)(h1:(FF [tg] X.env).map (·.2)=[DP tg X.env]:=by rfl):PS X (.Assign [tg] e dF) (tAsg te g):=by
 intro pq s σ H D I h;show wpAny_Assign_stores (AS (Y pq s σ H _ I h) λv B hz=>?_) hs hw;let{x,H1,Z,G,J}:=hz;rw[h1];show AS (O pq B σ H1 x v _ Z G J) λ_ s2 q=>q
def Zp{i:Nat}(Y:X.N.Nodup)(hi:X.N[i]?=some x)(hx:GP X.env.scope x)(O:PE X e te)(hs:Mh e (some (.Name x pos')) dF.line X.env=pure false:=by rfl)(J:X.fn x=true\/X.env.scope.names.lookup x=some .local:=by first|left;rfl|right;rfl|assumption) :
  PS X (.Assign [.Name x pos'] e dF) (tAsg te (EF i)):=by
 intro pq s σ H D I h;show wpAny_Assign_Name (AS (O pq s σ H _ I h) λv s1 hz=>?_) hs;let{y,H1,I1,B,G}:=hz;show Sl I1 Y hi hx B (λs2 Z=>{_,H1,Z,G}) J
def tAug(i:Nat)(te:TE)(ti:TIp):TS:=λD σ H=>∃x,σ[i]?=some (some x)/\te σ H λy H1=>ti x y H1 λz h=>D.nx (σ.set i (some z)) h
def IH{i:Nat}{x:Str}{e:Expr}{op:Operator}{ti:TIp}(hN:X.N.Nodup)(hi:X.N[i]?=some x)(hx:GP X.env.scope x)(he:PE X e te)(ho:PIp X op ti)(hf:X.fn x=true\/X.env.scope.names.lookup x=some .local:=by first|left;rfl|right;rfl|assumption) :
  PS X (.AugAssign (.Name x pos') op e dF) (tAug i te ti):=by
 intro pq s σ H D I h;let{v,e1,h}:=h;let{m,hn,hl}:=I.loc;let O:HU X.env.scope x:=by rcases hx with k|k;show .inl k;show .inr (.inl k)
 let{u,r,l}:=hl i x v hi e1 O;show wpAny_AugAssign_Name ?_;let Y:Cg (Cj X.prog X.w) X.A (eval e X.env) (λw J=>Cg (Cj X.prog X.w) X.A (inplaceOp op u w) (λr G=>Cg (Cj X.prog X.w) X.A (LV X.env x r) (λ_=>SP X pq D .next) X.xe G) X.xe J) X.xe s:=by
  show AS (he pq s σ H _ I h) λw Z hz=>?_;let{y,H1,I1,r1,q1}:=hz;show AS (ho pq Z σ H1 v y u w _ I1 r r1 q1) λz s2 hz=>?_;let{zv,H2,I2,r2,q2}:=hz;show Sl I2 hN hi hx r2 (λs3 I3=>{_,H2,I3,q2}) hf
 rcases l with⟨B,hm⟩|⟨B,c,hc,hcell⟩
 .show XX I.ok.kind B hn hm Y
 .rcases B with B|B
  .show SE I.ok.kind B hc hcell Y
  .rcases hx with k|k
   .let:X.env.scope.names.lookup x=some .free:=B;rw[k]at this;cases this
   .let:X.env.scope.names.lookup x=some .free:=B;rw[k]at this;cases this
def RF(to ti te:TE)(B:V->V->Hp->VK->Prop)(G:TIp)(h:TSet):TS:=λD σ H=>to σ H λo H1=>ti σ H1 λi H2=>B o i H2 λx Z=>te σ Z λy Y=>G x y Y λz O=>h o i z O λJ=>D.nx σ J
def PGet(X:Cx)(t:V->V->Hp->VK->Prop):Prop :=
 ∀(pq:List (Addr×Obj))(s:Cc)(σ:St)(H:Hp)(o i:V)(h B:Ca)(Q:VK),AB X pq σ H s->AJ o h->AJ i B->t o i H Q ->
  Cg (Cj X.prog X.w) X.A (L6 h B) (EP X pq σ Q) X.xe s
def Zrg{G:V->V->Hp->VK->Prop}{B:TSet}{Y:Pos}(ho:PE X o to)(hi:PE X i ti)(hg:PGet X G)(he:PE X e te)(hp:PIp X op tip)(hs:PSet X B)(ha:∀J O new,augStore i J O new=(do M8 [new,J,O] (GJ J O new);release [new,J,O] [];pure .next):=by intros;rfl):PS X (.AugAssign (.Subscript o i Y) op e dF) (RF to ti te G tip B):=by
 intro pq s σ H D I h;show wpAny_AugAssign_SubscriptAny (AS (ho pq s σ H _ I h) λJ s1 hz=>?_) ha;let{x1,H1,I1,r1,q1}:=hz;show AS (hi pq s1 σ H1 _ I1 q1) λO s2 hz=>?_;let{Z,H2,I2,r2,q2}:=hz;show AS (hg pq s2 σ H2 x1 Z J O _ I2 r1 r2 q2) λold s3 hz=>?_;let{x3,H3,I3,r3,q3}:=hz;show AS (he pq s3 σ H3 _ I3 q3) λv s4 hz=>?_;let{x4,H4,I4,r4,q4}:=hz;show AS (hp pq s4 σ H4 x3 x4 old v _ I4 r3 r4 q4) λnew s5 hz=>?_;let{x5,H5,I5,r5,q5}:=hz;show AS (hs pq s5 σ H5 x1 Z x5 J O new _ I5 r1 r2 r5 q5) λ_ s6⟨H6,I6,q6⟩=>{σ,H6,I6,q6}
def ipI(f:Int->Int->Int):TIp:=λx y H Q=>∃i j,x=.int i/\y=.int j/\Q (.int (f i j)) H
def GQ:PIp X .Add (ipI λi j=>i+j):=by
 intro pq s σ H x y v u Q I G B h;let{i,j,e1,e2,q}:=h;subst e1;subst e2;let{t,rfl}:=G;let{t',rfl}:=B;show iadd_int {.int _,H,I.tok _,{_,W},q}
end
section
def O7(c:TT)(tb:TS):TS:=λD σ H=>∃W:Nat->St->Hp->Prop,(∃m,W m σ H)/\∀m σ H,W m σ H ->
 c σ H λb H1=>if b=true then ∃N:St->Hp->Prop,(∀h H',N h H'->∃B,B<m/\W B h H')/\tb {D with nx:=N,ct:=N,bk:=D.nx} σ H1 else D.nx σ H1
theorem Sx{c:Expr}{tc:TT}{tb:TS}(hp:PassesOwn (Cj X.prog X.w) X.A X.env X.xe)(hc:PT X c tc)(hb:PSs X dR tb):PS X (.While c dR [] dF) (O7 tc tb):=by
 intro pq s σ H D I h;let{W,{m0,w0},turn}:=h;show wpAny_While (codeAny_whileLoop (λn s'=>∃J H',AB X pq J H' s'/\W n J H') ?_ m0 {σ,H,I,w0});rintro n s1 ⟨G,H1,I1,w1⟩;show Hj hp (AS (hc pq s1 G H1 _ I1 (turn n G H1 w1)) λb s2 hz=>?_);let{H2,I2,Z}:=hz;cases b with
 |true =>
  let{N,hN,Z}:=Z;rw[D9 rfl];show Hj hp (AS (hb pq s2 G H2 _ I2 Z) λf s3 Y=>?_);cases f with
  |next =>
   let{B,O,I3,n3}:=Y;let{m',hm,w3}:=hN B O n3;show{m',hm,B,O,I3,w3}
  |cont =>
   let{B,O,I3,n3}:=Y;let{m',hm,w3}:=hN B O n3;show{m',hm,B,O,I3,w3}
  |brk=>show Y
  |ret v=>show Y
 |false =>
  rw[D8 Gb];show Kf {G,H2,I2,Z}
end
structure It where
 go:Nat->Hp->Prop
 yld:Nat->Hp->V->Hp->Prop
 stop:Nat->Hp->Prop
def A3(X:Cx)(pq:List (Addr×Obj))(H:Hp)(b:Addr):Prop :=
 H b=none/\b≠X.env.locals/\b∉X.fs/\(b∈X.ex\/X.s₀.heap.objs.size<=b)/\(∀x c,X.env.cells.lookup x=some c->c≠b)/\∀p∈X.pn++pq,p.1≠b
def AB.fpOk{b:Addr}(I:AB X pq σ H s)(h:s.heap.objs.size<=b)(hn:H' b=none):A3 X pq H' b:=by
 exists hn,Nat.ne_of_gt (Gn I.lt h),I.nofs h,.inr (Js I.sz h),λx c e z=>?_,λp B z=>?_
 .let⟨v,q⟩:=I.cell x c e;show D0 (Gn q.lt (by rwa[z])) (Bw _)
 .show D0 (Gn (D7 (I.pin p B).1) (by rwa[z])) (Bw _)
structure Turn(P:E4)(w:H9)(K:Cq)(tg:Expr)(J:It)(fp:List Addr)(it:Addr)(tn:Nat->Heap->Prop):Prop where
 mem:it∈fp
 obj:∀i h,tn i h->∀b∈fp,∃o,h.get? b=some o/\∀v,o.data≠.cell v
 keep:∀i h h',tn i h->(∀b∈fp,∀o,h.get? b=some o->h'.get? b=some o)->tn i h'
 item:∀(X:Cx),X.prog=P->X.w=w->X.K=K->X.calm=true->∀(i:Nat)(pq:List (Addr×Obj))(s:Cc)(σ:St)(H:Hp)(E:Ca->Cc->Prop),AB X pq σ H s->(∀b∈fp,A3 X pq H b)->tn i s.heap->J.go i H ->
  Cg (Cj P w) X.A (DI (.ref it)) (λr s1=>∃u,r=some u /\
   Cg (Cj P w) X.A (Mi tg (.ref it) u) (λ_ s2=>∃x H',AB X pq σ H' s2/\AJ x u/\J.yld i H x H'/\tn (i+1) s2.heap/\∀b∈fp,H' b=none) E s1) E s
 done:∀(X:Cx),X.prog=P->X.w=w->X.K=K->X.calm=true->∀(i:Nat)(pq:List (Addr×Obj))(s:Cc)(σ:St)(H:Hp)(E:Ca->Cc->Prop),AB X pq σ H s->(∀b∈fp,A3 X pq H b)->tn i s.heap->J.stop i H ->
  Cg (Cj P w) X.A (DI (.ref it)) (λr s1=>r=none/\AB X pq σ H s1) E s
 self:∀(A:Kr)(i:Nat)(s:Cc)(Q:Ca->Cc->Prop)(E:Ca->Cc->Prop),tn i s.heap->Q (.ref it) s->Cg (Cj P w) A (pyIter (.ref it)) Q E s
abbrev TI:=St->Hp->(It->Hp->Prop)->Prop
variable{wi:L2.TI}
def PIE(X:Cx)(pq:List (Addr×Obj))(σ:St)(tg:Expr)(R:It->Hp->Prop)(h:Ca)(G:Cc):Prop :=
 ∃(it:Addr)(fp:List Addr)(B:Nat->Heap->Prop)(J:It)(H':Hp),h=.ref it/\AB X pq σ H' G/\Turn X.prog X.w X.K tg J fp it B/\B 0 G.heap/\(∀b∈fp,A3 X pq H' b)/\R J H'
def PI(X:Cx)(tg iter:Expr)(wi:TI):Prop :=
 ∀(pq:List (Addr×Obj))(s:Cc)(σ:St)(H:Hp)(R:It->Hp->Prop),AB X pq σ H s->wi σ H R ->
  Cg (Cj X.prog X.w) X.A (eval iter X.env) (λv h=>Cg (Cj X.prog X.w) X.A (pyIter v) (PIE X pq σ tg R) X.xe h) X.xe s
def IU{M:DC}{u:Ca}{o:Obj}{n:String}{vs:Array Ca}{Q:Unit->Cc->Prop}(G:s.heap.get? it=some o)(J:o.cls=.type n)(hd:o.data=.fields vs)(hn:["enumerate","zip","dict_itemiterator","dict_reverseitemiterator","odict_iterator","itertools.zip_longest","itertools.pairwise"].contains n=false)(B:Q ⟨⟩ s):Cg M A (Mi tg (.ref it) u) Q E s:=by
  unfold Mi;cases tg<;>first
    |show D4 B
    | (cases u <;> first
        |show D4 B
        | (show D3 (HF G ?_)
           rw[J,hd];show Cg M A (if(["enumerate","zip","dict_itemiterator","dict_reverseitemiterator","odict_iterator","itertools.zip_longest","itertools.pairwise"].contains n&&vs[0]? == some (Hh _))=true then _ else _) Q E s;rw[D8 (by intro h;rw[hn,WO]at h;cases h)];show D4 B))
def SV(K:Cq)(a:Addr):It :=
 {λi H=>∃xs x,Ad K H a xs/\xs[i]?=some x,λi H x H'=>H'=H/\∀xs,Ad K H a xs->xs[i]?=some x,λi H=>∃xs,Ad K H a xs/\xs.length<=i}
def ZJ(K:Cq)(a:Addr):It :=
 {λi H=>∃xs x,A2 K H a xs/\xs[i]?=some x,λi H x H'=>H'=H/\∀xs,A2 K H a xs->xs[i]?=some x,λi H=>∃xs,A2 K H a xs/\xs.length<=i}
def HM(lo:Int)(n:Nat):It:={λi _=>i<n,λi H x H'=>H'=H/\x=.int (lo+i),λi _=>n<=i}
theorem iW(a it:Addr):Turn P w K tg (SV K a) [it] it (λi h=>h.IsListIter it a i) where
 mem:=by simp
 obj:=λi h st b B=>by
  let e:b=it:=by simpa using B
  subst e;let{o,e,c,d}:=st;show{o,e,λv z=>by rw[d]at z;cases z}
 keep:=λi h h' st k=>st.at λo e=>k it (by simp) o e
 item:=by
  intro X hP hw hK hc i pq s σ H E I O st Z;subst hP hw hK;let{xs,x,J,hx}:=Z;let{its,Y,p,hz}:=I.list J;let{u,hu,ru}:=Y.get hx;let{f0,f1,f2,f3,f4,f5}:=O it (by simp);show Of st p.isList (x:=u) (by simpa using hu) λh' G sb=>?_;let I1:AB X pq σ H {s with heap:=h'}:=I.turned (t':=s.toks) (λb o B e=>(sb.2 b B).trans e) f0 f1 f3 f4 f5;let{o,e,c,d}:=id G;show{u,W,IU (s:={s with heap:=h'}) e c d nofun {x,H,I1,ru,{rfl,λys hy=>by rwa[I.list_inj hy J]},G,λb B=>(O b B).1}}
 done:=by
  intro X hP hw hK hc i pq s σ H E I O st Z;subst hP hw hK;let{xs,J,hx}:=Z;let{its,Y,p,hz}:=I.list J;let{f0,f1,f2,f3,f4,f5}:=O it (by simp);let hl:=Y.length;show PH (I.ok.hd hc) st p.isList (by simp;lia) λh' eb=>{W,I.turned (t':=s.toks) (λb o B e=>eb b o B e) f0 f1 f3 f4 f5}
 self:=λ_ _ _ _ _ st h=>wpAny_pyIter_listiter st h
theorem pF(a it:Addr):Turn P w K tg (ZJ K a) [it] it (λi h=>h.IsTupleIter it a i) where
 mem:=by simp
 obj:=λi h st b B=>by
  let e:b=it:=by simpa using B
  subst e;let{o,e,c,d}:=st;show{o,e,λv z=>by rw[d]at z;cases z}
 keep:=λi h h' st k=>st.at λo e=>k it (by simp) o e
 item:=by
  intro X hP hw hK hc i pq s σ H E I O st Z;subst hP hw hK;let{xs,x,J,hx}:=Z;let{its,Y,p,hz}:=I.tuple J;let{u,hu,ru}:=Y.get hx;let{f0,f1,f2,f3,f4,f5}:=O it (by simp);show QA st (show s.heap.IsTuple a its.toArray from p) (x:=u) (by simpa using hu) λh' G sb=>?_;let I1:AB X pq σ H {s with heap:=h'}:=I.turned (t':=s.toks) (λb o B e=>(sb.2 b B).trans e) f0 f1 f3 f4 f5;let{o,e,c,d}:=id G;show{u,W,IU (s:={s with heap:=h'}) e c d nofun {x,H,I1,ru,{rfl,λys hy=>by rwa[I.tuple_inj hy J]},G,λb B=>(O b B).1}}
 done:=by
  intro X hP hw hK hc i pq s σ H E I O st Z;subst hP hw hK;let{xs,J,hx}:=Z;let{its,Y,p,hz}:=I.tuple J;let{f0,f1,f2,f3,f4,f5}:=O it (by simp);let hl:=Y.length;show YW (I.ok.hd hc) st (show s.heap.IsTuple a its.toArray from p) (by simp;lia) λh' eb=>{W,I.turned (t':=s.toks) (λb o B e=>eb b o B e) f0 f1 f3 f4 f5}
 self:=λ_ _ _ _ _ st h=>wpAny_pyIter_tupleiter st h
theorem Zf4(it:Addr)(lo:Int)(n:Nat):Turn P w K tg (HM lo n) [it] it (λi h=>IsRangeIter h it (lo+(i:Nat)*1) ((n:Int)-(i:Nat)) 1) where
 mem:=by simp
 obj:=λi h st b B=>by
  let e:b=it:=by simpa using B
  subst e;show{_,st,λv z=>by
   let z':Data.fields _=Data.cell v:=z;cases z'}
 keep:=λi h h' st k=>k it (by simp) _ st
 item:=by
  intro X Z hw hK Y i pq s σ H E I J st O;subst Z hw hK;let{f0,f1,f2,f3,f4,f5}:=J it (by simp);let W:=Walks.range (prog:=X.prog) (w:=X.w) (I.ok.hd Y) it lo 1 n;show W.item i s _ _ O st λv h' tk hv G kk=>?_;let{t,rfl}:=hv;let I1:AB X pq σ H {s with heap:=h',toks:=tk}:=I.turned (λb o B e=>kk b o (by simpa using B) e) f0 f1 f3 f4 f5;show{·,IU (s:={s with heap:=h',toks:=tk}) (n:="range_iterator") G rfl rfl nofun {.int (lo+i),H,I1,{t,?_},{rfl,rfl},G,λb B=>(J b B).1}};rw[WD]
 done:=by
  intro X Z hw hK Y i pq s σ H E I J st O;subst Z hw hK;let{f0,f1,f2,f3,f4,f5}:=J it (by simp);show wpAny_pyNext_range_end (I.ok.hd Y) st (by have:n<=i:=O;lia) λh' eb=>{rfl,I.turned (t':=s.toks) (λb o B e=>eb b o B e) f0 f1 f3 f4 f5}
 self:=λ_ _ _ _ _ st h=>wpAny_pyIter_rangeiter st h
section
def OU(K:Cq)(tl:TE):TI:=λσ H R=>tl σ H λx H1=>∃a,x=.ref a/\(∃xs,Ad K H1 a xs)/\R (SV K a) H1
def iTup(K:Cq)(tl:TE):TI:=λσ H R=>tl σ H λx H1=>∃a,x=.ref a/\(∃xs,A2 K H1 a xs)/\R (ZJ K a) H1
def Ye{l:Expr}{tl:TE}(hl:PE X l tl):PI X tg l (OU X.K tl):=by
 intro pq s σ H R I h;show AS (hl pq s σ H _ I h) λv B hz=>?_;let{x,H1,G,J,O}:=hz;let{a,e,{xs,Y},q}:=O;subst e;cases J;let{its,rv,p,hz}:=G.list Y;show Ln p.isList ?_;exists B.heap.objs.size,[B.heap.objs.size],_,_,H1,W,G.kept (t':=B.toks) λb o e=>D5 _ e,iW a _,{_,D6 _ W,W,W},λb Z=>?_,q;let e:b=B.heap.objs.size:=by simpa using Z
 subst e;show G.fpOk (Jk _) (G.hok.fresh (Jk _))
def Q7{l:Expr}{tl:TE}(hl:PE X l tl):PI X tg l (iTup X.K tl):=by
 intro pq s σ H R I h;show AS (hl pq s σ H _ I h) λv B hz=>?_;let{x,H1,G,J,O}:=hz;let{a,e,{xs,Y},q}:=O;subst e;cases J;let{its,rv,p,hz}:=G.tuple Y;show UT (show B.heap.IsTuple a its.toArray from p) ?_;exists B.heap.objs.size,[B.heap.objs.size],_,_,H1,W,G.kept (t':=B.toks) λb o e=>D5 _ e,pF a _,{_,D6 _ W,W,W},λb Z=>?_,q;let e:b=B.heap.objs.size:=by simpa using Z
 subst e;show G.fpOk (Jk _) (G.hok.fresh (Jk _))
theorem Zmf{R:It->Hp->Prop}{lo hi:Int}{t u v:Tok}{tk:Nat}(I:AB X pq σ H s)(h1:-(2 ^ 62)<=lo)(h2:lo<2 ^ 62)(h3:-(2 ^ 62)<=hi)(h4:hi<2 ^ 62)(q:R (HM lo (hi-lo).toNat) H):Cg (Cj X.prog X.w) X.A (pyIter (.ref s.heap.objs.size)) (PIE X pq σ tg R) E {s with heap:=s.heap.push {cls:=.type "range",data:=.fields #[.int lo t,.int hi u,.int 1 v]},toks:=tk}:=by
 show wpAny_pyIter_range (IsRange.new ..) (small_one h1 h2 h3 h4) ?_;let h:AB X pq σ H {s with heap:=s.heap.push {cls:=.type "range",data:=.fields #[.int lo t,.int hi u,.int 1 v]},toks:=tk}:=I.kept λb o e=>D5 _ e;show{(s.heap.push {cls:=.type "range",data:=.fields #[.int lo t,.int hi u,.int 1 v]}).objs.size,[(s.heap.push {cls:=.type "range",data:=.fields #[.int lo t,.int hi u,.int 1 v]}).objs.size],_,_,H,W,
  h.kept (t':=tk) λb o e=>D5 _ e,Zf4 _ lo (hi-lo).toNat,?_,λb B=>?_,q}
 .let e1:lo+((0:Nat):Int)*1=lo:=by simp
  let e2:(((hi-lo).toNat:Nat):Int)-((0:Nat):Int)=Jhv lo hi 1:=by rw[rangeSize_one];split<;>lia
  show IsRangeIter _ _ (lo+((0:Nat):Int)*1) ((((hi-lo).toNat:Nat):Int)-((0:Nat):Int)) 1;rw[e1,e2];show D6 _ W
 .let e:b=(s.heap.push {cls:=.type "range",data:=.fields #[.int lo t,.int hi u,.int 1 v]}).objs.size:=by simpa using B
  subst e;show h.fpOk (Jk _) (h.hok.fresh (Jk _))
def OY(ta:TA):TI:=λσ H R=>ta σ H λvs H1=>∃j:Int,vs=[.int j]/\-(2 ^ 62)<=j/\j<2 ^ 62/\R (HM 0 j.toNat) H1
theorem Y6{a:Expr}{ta:TA}{p:Pos}(Z:Gl X "range")(Y:X.mg "range"=none)(ha:PA X [a] ta)(hs:Cr [a] X.env=[(false,eval a X.env)]:=by rfl):PI X tg (.Call (.Name "range" p) [a] [] dF) (OY ta):=by
 intro pq s σ H R I h;show Call_ (Nq I Z Y boot_range (Ml (AS (ha dF pq s σ H _ I h) λus s1 hz=>?_) hs W));let{vs,H1,I1,J,B}:=hz;let{j,e,B,O,q}:=B;subst e;cases J with
 |cons r G =>
  cases G;let{t,rfl}:=r;show call_range_1 (Zmf I1 () () B O (by simpa using q))
def tFor(wi:TI)(g:TG)(tb:TS):TS:=λD σ H=>wi σ H λJ H1=>∃W:Nat->Nat->St->Hp->Prop,(∃m,W 0 m σ H1)/\∀i m σ H,W i m σ H ->
 (J.stop i H/\D.nx σ H)\/(J.go i H/\∃N:St->Hp->Prop,(∀h H',N h H'->∃G,G<m/\W (i+1) G h H')/\∀x H',J.yld i H x H'->g x σ H' λB O=>tb {D with nx:=N,ct:=N,bk:=D.nx} B O)
def GZ(fp:List Addr)(h:Heap):List (Addr×Obj):=fp.filterMap λb=>(h.get? b).map λo=>(b,o)
def Tg(B:b∈fp)(e:h.get? b=some o):(b,o)∈GZ fp h:=F0.mpr {b,B,by rw[e];rfl}
theorem vA(B:p∈GZ fp h):p.1∈fp/\h.get? p.1=some p.2:=by
 let{b,G,e}:=F0.mp B;cases q:h.get? b with
 |none=>rw[q]at e;cases e
 |some o =>
  rw[q]at e;let J:(b,o)=p:=BG e;subst J;show{G,q}
def AB.pinned(I:AB X pq σ H s)(O:∀b∈fp,A3 X pq H b)(J:∀b∈fp,∃o,s.heap.get? b=some o/\∀v,o.data≠.cell v):AB X (pq++GZ fp s.heap) σ H s :=
 I.pins_of λp G=>(Jw.mp G).elim (λz=>I.pin p (Jr _ z)) λz=>by
  let{h,e}:=vA z;let{f0,Z,Y,_}:=O p.1 h;let{o,B,d}:=J p.1 h;rw[e]at B;cases B;show{e,f0,Z,Y,d}
def AB.unpinned{pl:List (Addr×Obj)}(I:AB X (pq++pl) σ H s):AB X pq σ H s:=I.pins_of λp h=>I.pin p (Jr _ (Gs _ h))
def X2{iter:Expr}{g:TG}{tb:TS}(hp:PassesOwn (Cj X.prog X.w) X.A X.env X.xe)(hc:X.calm=true)(hi:PI X tg iter wi)(hg:PG X tg g)(Z:PSs X dR tb)(hs:∀x,KL iter X.env x=pure x:=by intro _;rfl):PS X (.For tg iter dR [] dF) (tFor wi g tb):=by
 intro pq s σ H D I h;show wpAny_For (AS (hi pq s σ H _ I h) λv s1 h1=>AS h1 λa8 s2 h2=>?_) hs;let{it,fp,tn,J,H2,e,I2,T,a5,f2,W,{m0,w0},turn}:=h2;subst e;let Y:∀{H':Hp},(∀b∈fp,H' b=none)->∀b∈fp,A3 X pq H' b:=λhn b Z=>{hn b Z,(f2 b Z).2};show codeAny_forLoop_any (λn s'=>∃i O H',AB X pq O H' s'/\tn i s'.heap/\(∀b∈fp,H' b=none)/\W i n O H') ?_ m0 {0,σ,H2,I2,a5,λb Z=>(f2 b Z).1,w0};rintro n s3 ⟨i,G,H3,I3,a2,a3,w3⟩;rcases turn i n G H3 w3 with⟨a1,qn⟩|⟨go,N,hN,step⟩
 .show Hj hp (AS (T.done X rfl rfl rfl hc i pq s3 G H3 X.xe I3 (Y a3) a2 a1) λr s4 hz=>?_);let{hr,I4}:=hz;subst hr;show Kf {G,H3,I4,qn}
 .show Hj hp (AS (T.item X rfl rfl rfl hc i pq s3 G H3 X.xe I3 (Y a3) a2 go) λr s4 hz=>?_);let{u,hr,h4}:=hz;subst hr;show Hj hp (AS h4 λ_ s5 hz=>?_);let{x,H5,I5,r5,y5,a0,a6}:=hz;let a7:=I5.pinned (Y a6) (T.obj _ _ a0);show Hj hp (AS (hg _ s5 G H5 x u _ a7 r5 (step x H5 y5)) λ_ s6 hz=>?_);let{a4,H6,I6,q6}:=hz;show Hj hp (AS (Z _ s6 a4 H6 _ I6 q6) λf s7 q7=>?_);let again:∀{B:St}{H7:Hp},AB X (pq++GZ fp s5.heap) B H7 s7->N B H7->∃m,m<n/\∃i O H',AB X pq O H' s7/\tn i s7.heap/\(∀b∈fp,H' b=none)/\W i m O H':=λ{B H7}I7 n7=>by
   let{m',hm,w7}:=hN B H7 n7;exists m',hm,i+1,B,H7,I7.unpinned,T.keep _ _ _ a0 λb Z o e=>(I7.pin (b,o) (Jr _ (Jr _ (Tg Z e)))).1,λb Z=>?_,w7;let{o,e,d}:=T.obj _ _ a0 b Z;show(I7.pin (b,o) (Jr _ (Jr _ (Tg Z e)))).2.1
  cases f with
  |next=>obtain⟨B,H7,I7,n7⟩:=q7;show again I7 n7
  |cont=>obtain⟨B,H7,I7,n7⟩:=q7;show again I7 n7
  |brk=>obtain⟨B,H7,I7,q7⟩:=q7;show{B,H7,I7.unpinned,q7}
  |ret v=>obtain⟨x7,B,H7,I7,r7,q7⟩:=q7;show{x7,B,H7,I7.unpinned,r7,q7}
end
abbrev R2:=V->V->Hp->VK->Prop
def Ay(X:Cx)(f:Ca->Ca->Sem Ca)(r:R2):Prop :=
 ∀(pq:List (Addr×Obj))(s:Cc)(σ:St)(H:Hp)(x y:V)(v u:Ca)(Q:VK),AB X pq σ H s->AJ x v->AJ y u->r x y H Q ->
  Cg (Cj X.prog X.w) X.A (f v u) (EP X pq σ Q) X.xe s
def UnR(X:Cx)(f:Ca->Sem Ca)(r:V->Hp->VK->Prop):Prop :=
 ∀(pq:List (Addr×Obj))(s:Cc)(σ:St)(H:Hp)(x:V)(v:Ca)(Q:VK),AB X pq σ H s->AJ x v->r x H Q ->
  Cg (Cj X.prog X.w) X.A (f v) (EP X pq σ Q) X.xe s
def W5(X:Cx)(f:Ca)(r:List V->Hp->VK->Prop):Prop :=
 ∀(pq:List (Addr×Obj))(s:Cc)(σ:St)(H:Hp)(xs:List V)(us:List Ca)(Q:VK),AB X pq σ H s->AF xs us->r xs H Q ->
  Cg (Cj X.prog X.w) X.A (call f us) (EP X pq σ Q) X.xe s
def tOp(r:R2)(ta tb:TE):TE:=λσ H Q=>ta σ H λx H1=>tb σ H1 λy h=>r x y h Q
def tUn(r:V->Hp->VK->Prop)(ta:TE):TE:=λσ H Q=>ta σ H λx H1=>r x H1 Q
def rI(C:Int->Int->Prop)(g:Int->Int->V):R2:=λx y H Q=>∃i j,x=.int i/\y=.int j/\C i j/\Q (g i j) H
def rI0(g:Int->Int->V):R2:=λx y H Q=>∃i j,x=.int i/\y=.int j/\Q (g i j) H
def rU(g:Int->V):V->Hp->VK->Prop:=λx H Q=>∃i,x=.int i/\Q (g i) H
section
variable{a b:Expr} 
def binT(ha:PE X a ta)(hb:PE X b tb){R:V->V->Hp->Prop}(I:AB X pq σ H s)(h:ta σ H λx H1=>tb σ H1 λy B=>R x y B){Q:Ca->Cc->Prop}{f:Ca->Ca->Sem Ca}(hf:∀v u O x y B,AB X pq σ B O->AJ x v->AJ y u->R x y B->Cg (Cj X.prog X.w) X.A (f v u) Q X.xe O) :
  Cg (Cj X.prog X.w) X.A (eval a X.env) (λv J=>Cg (Cj X.prog X.w) X.A (eval b X.env) (λu G=>Cg (Cj X.prog X.w) X.A (f v u) Q X.xe G) X.xe J) X.xe s:=by
 show AS (ha pq s σ H _ I h) λv Y hz=>?_;let{x,H1,I1,r1,q1}:=hz;show AS (hb pq Y σ H1 _ I1 q1) λu O hz=>?_;let{y,B,I2,Z,q2}:=hz;show hf v u O x y B I2 r1 Z q2
def Z3{op:Operator}{r:R2}(O:Ay X (Hs op) r)(Z:PE X a ta)(Y:PE X b tb):PE X (.BinOp a op b dF) (tOp r ta tb):=by
 intro pq s σ H Q I h;show wpAny_BinOp (binT Z Y I h λv u B x y H2 I2 J G q=>O pq B σ H2 x y v u Q I2 J G q)
def VC{op:UnaryOp}{r:V->Hp->VK->Prop}(O:UnR X (unaryOp op) r)(Y:PE X a ta):PE X (.UnaryOp op a dF) (tUn r ta):=by
 intro pq s σ H Q I h;show UnaryOp_ (AS (Y pq s σ H _ I h) λv B⟨x,H1,Z,G,J⟩=>O pq B σ H1 x v Q Z G J)
def opI{f:Ca->Ca->Sem Ca}{C:Int->Int->Prop}{g:Int->Int->Int}(rule:∀(i j:Int)(t u:Tok)(s:Cc)(Q:Ca->Cc->Prop)(E:Ca->Cc->Prop),C i j->Q (.int (g i j) s.toks) {s with toks:=s.toks+1}->Cg (Cj X.prog X.w) X.A (f (.int i t) (.int j u)) Q E s) :
  Ay X f (rI C λi j=>.int (g i j)):=by
 intro pq s σ H x y v u Q I G B h;let{i,j,rfl,rfl,J,q}:=h;let{t,rfl}:=G;let{t',rfl}:=B;show rule i j t t' s _ _ J {.int (g i j),H,I.tok _,{_,W},q}
def opI0{f:Ca->Ca->Sem Ca}{g:Int->Int->Int}(rule:∀(i j:Int)(t u:Tok)(s:Cc)(Q:Ca->Cc->Prop)(E:Ca->Cc->Prop),Q (.int (g i j) s.toks) {s with toks:=s.toks+1}->Cg (Cj X.prog X.w) X.A (f (.int i t) (.int j u)) Q E s) :
  Ay X f (rI0 λi j=>.int (g i j)):=by
 intro pq s σ H x y v u Q I G B h;let{i,j,rfl,rfl,q}:=h;let{t,rfl}:=G;let{t',rfl}:=B;show rule i j t t' s _ _ {.int (g i j),H,I.tok _,{_,W},q}
def opB0{f:Ca->Ca->Sem Ca}{g:Int->Int->Bool}(rule:∀(i j:Int)(t u:Tok)(s:Cc)(Q:Ca->Cc->Prop)(E:Ca->Cc->Prop),Q (.bool (g i j)) s->Cg (Cj X.prog X.w) X.A (f (.int i t) (.int j u)) Q E s) :
  Ay X f (rI0 λi j=>.bl (g i j)):=by
 intro pq s σ H x y v u Q I G B h;let{i,j,rfl,rfl,q}:=h;let{t,rfl}:=G;let{t',rfl}:=B;show rule i j t t' s _ _ {.bl (g i j),H,I,W,q}
def CDiv(i j:Int):Prop:=0<j/\j<1073741824
def CPow(i j:Int):Prop:=0<=j/\j<=1000000/\i.natAbs<2 ^ 64
def CMul(i j:Int):Prop:=(-(2 ^ 64)<i/\i<2 ^ 64)\/(-(2 ^ 64)<j/\j<2 ^ 64)
def CMul.ok{i j:Int}(h:CMul i j):IntMulOk i j:=by
 rcases h with⟨h1,h2⟩|⟨h1,h2⟩
 .show .of_left (intBits_le_64 h1 h2)
 .show .of_right (intBits_le_64 h1 h2)
def xY:Ay X (Hs .Add) (rI0 λi j=>.int (i+j)):=opI0 λ_ _ _ _ _ _ _ q=>add_int q
def GB:Ay X (Hs .Sub) (rI0 λi j=>.int (i-j)):=opI0 λ_ _ _ _ _ _ _ q=>sub_int q
def iA:Ay X (Hs .Mult) (rI CMul λi j=>.int (i*j)):=opI λ_ _ _ _ _ _ _ h q=>mul_int q h.ok
theorem QZ:Ay X (Hs .FloorDiv) (rI CDiv λi j=>.int (i / j)):=opI λi j _ _ _ _ _ h q=>by
 let h1:(0:Int)<j:=h.1;let h2:j<1073741824:=h.2;show floordiv_int () (by rwa[Int.fdiv_eq_ediv_of_nonneg i ()]) (.inl (PyProof.noPylong_small ()))
theorem Wz:Ay X (Hs .Mod) (rI (λ_ j=>0<j) λi j=>.int (i % j)):=opI λi j _ _ _ _ _ h q=>by
 let h1:(0:Int)<j:=h;show mod_int' () (by rwa[Int.fmod_eq_emod_of_nonneg i ()])
def JW:Ay X (Hs .Pow) (rI CPow λi j=>.int (i ^ j.toNat)):=opI λ_ _ _ _ _ _ _ h q=>pow_int_small h.1 h.2.1 h.2.2 q
def unI{f:Ca->Sem Ca}{g:Int->Int}(rule:∀(i:Int)(t:Tok)(s:Cc)(Q:Ca->Cc->Prop)(E:Ca->Cc->Prop),Q (.int (g i) s.toks) {s with toks:=s.toks+1}->Cg (Cj X.prog X.w) X.A (f (.int i t)) Q E s) :
  UnR X f (rU λi=>.int (g i)):=by
 intro pq s σ H x v Q I B h;let{i,rfl,q}:=h;let{t,rfl}:=B;show rule i t s _ _ {.int (g i),H,I.tok _,{_,W},q}
def PY:UnR X (unaryOp .USub) (rU λi=>.int (-i)):=unI λ_ _ _ _ _ q=>neg_int q
end
def scal:V->V->Bool
 |.non,.non=>true|.non,.int _=>true|.int _,.non=>true|.non,.bl _=>true|.bl _,.non=>true|.non,.str _=>true|.str _,.non=>true
 |.int _,.int _=>true|.bl _,.bl _=>true|.str _,.str _=>true|.byt _,.byt _=>true
 |.int _,.str _=>true|.str _,.int _=>true|.bl _,.str _=>true|.str _,.bl _=>true
 |_,_=>false
def rEq:R2:=λx y H Q=>scal x y=true/\Q (.bl (decide (x=y))) H
def rNe:R2:=λx y H Q=>scal x y=true/\Q (.bl (!decide (x=y))) H
def WL{i j:Int}:decide (V.int i=V.int j)=(i==j):=by
 rw[Fp];simp
def aE{i j:Bool}:decide (V.bl i=V.bl j)=(i==j):=by
 rw[Fp];simp
def WA{i j:Str}:decide (V.str i=V.str j)=(i==j):=by
 rw[Fp];simp
def VI{i j:Array UInt8}:decide (V.byt i=V.byt j)=(i.toList==j.toList):=by
 rw[Fp];cases i;cases j;simp
section
variable{a b c:Expr} 
def Yu(I:AB X pq σ H s)(q:Q (.bl k) H)(e:k=k'):EP X pq σ Q (.bool k') s:=by
 subst e;show{.bl k,H,I,W,q}
theorem xL:Ay X (Eu .Eq) rEq:=by
 intro pq s σ H x y v u Q I G B h;let{hs,q}:=h;cases x with
 |non =>
  cases G;cases y with
  |non=>cases B;show zN (Yu I q (by simp))
  |bl j=>cases B;show sJ (Yu I q (by simp))
  |int j=>obtain⟨t',rfl⟩:=B;show oO (Yu I q (by simp))
  |str j=>obtain⟨t',rfl⟩:=B;show Jg8 (Yu I q (by simp))
  |_=>show D0 (show false=true from hs) Gb
 |bl i =>
  cases G;cases y with
  |non=>cases B;show kB (Yu I q (by simp))
  |bl j=>cases B;show eq_bool (Yu I q aE)
  |str j=>obtain⟨t',rfl⟩:=B;show lK (Yu I q (by simp))
  |_=>show D0 (show false=true from hs) Gb
 |int i =>
  let{t,rfl}:=G;cases y with
  |non=>cases B;show wR (Yu I q (by simp))
  |int j=>obtain⟨t',rfl⟩:=B;show eq_int (Yu I q WL)
  |str j=>obtain⟨t',rfl⟩:=B;show rZ (Yu I q (by simp))
  |_=>show D0 (show false=true from hs) Gb
 |str i =>
  let{t,rfl}:=G;cases y with
  |non=>cases B;show uU (Yu I q (by simp))
  |bl j=>cases B;show jH (Yu I q (by simp))
  |int j=>obtain⟨t',rfl⟩:=B;show Jhc (Yu I q (by simp))
  |str j=>obtain⟨t',rfl⟩:=B;show eq_str (Yu I q WA)
  |_=>show D0 (show false=true from hs) Gb
 |byt i =>
  let{t,rfl}:=G;cases y with
  |byt j=>obtain⟨t',rfl⟩:=B;show W.eq_bytes (Yu I q VI)
  |_=>show D0 (show false=true from hs) Gb
 |_=>cases y<;>show D0 (show false=true from hs) Gb
theorem jW:Ay X (Eu .NotEq) rNe:=by
 intro pq s σ H x y v u Q I G B h;let{hs,q}:=h;cases x with
 |non =>
  cases G;cases y with
  |non=>cases B;show gS (Yu I q (by simp))
  |bl j=>cases B;show rL (Yu I q (by simp))
  |int j=>obtain⟨t',rfl⟩:=B;show jR (Yu I q (by simp))
  |str j=>obtain⟨t',rfl⟩:=B;show xV (Yu I q (by simp))
  |_=>show D0 (show false=true from hs) Gb
 |bl i =>
  cases G;cases y with
  |non=>cases B;show Jg1 (Yu I q (by simp))
  |bl j=>cases B;show ne_bool (Yu I q (congrArg not aE))
  |str j=>obtain⟨t',rfl⟩:=B;show sK (Yu I q (by simp))
  |_=>show D0 (show false=true from hs) Gb
 |int i =>
  let{t,rfl}:=G;cases y with
  |non=>cases B;show Jhf (Yu I q (by simp))
  |int j=>obtain⟨t',rfl⟩:=B;show ne_int (Yu I q (congrArg not WL))
  |str j=>obtain⟨t',rfl⟩:=B;show tT (Yu I q (by simp))
  |_=>show D0 (show false=true from hs) Gb
 |str i =>
  let{t,rfl}:=G;cases y with
  |non=>cases B;show uK (Yu I q (by simp))
  |bl j=>cases B;show rV (Yu I q (by simp))
  |int j=>obtain⟨t',rfl⟩:=B;show oK (Yu I q (by simp))
  |str j=>obtain⟨t',rfl⟩:=B;show ne_str (Yu I q (congrArg not WA))
  |_=>show D0 (show false=true from hs) Gb
 |byt i =>
  let{t,rfl}:=G;cases y with
  |byt j=>obtain⟨t',rfl⟩:=B;show W.ne_bytes (Yu I q (congrArg not VI))
  |_=>show D0 (show false=true from hs) Gb
 |_=>cases y<;>show D0 (show false=true from hs) Gb
def HQ:Ay X (Eu .Lt) (rI0 λi j=>.bl (decide (i<j))):=opB0 λ_ _ _ _ _ _ _ q=>lt_int q
def OS:Ay X (Eu .LtE) (rI0 λi j=>.bl (decide (i<=j))):=opB0 λ_ _ _ _ _ _ _ q=>le_int q
def Qd:Ay X (Eu .Gt) (rI0 λi j=>.bl (decide (j<i))):=opB0 λ_ _ _ _ _ _ _ q=>gt_int q
def vL:Ay X (Eu .GtE) (rI0 λi j=>.bl (decide (j<=i))):=opB0 λ_ _ _ _ _ _ _ q=>ge_int q
def Z6(b:Expr)(h:op≠.In:=by decide)(h2:op≠.NotIn:=by decide):Hr op b=false:=by
 let e1:(op==CmpOp.In)=false:=by cases op<;>first|rfl|show D0 rfl h
 let e2:(op==WZ)=false:=by cases op<;>first|rfl|show D0 rfl h2
 cases b<;>simp[Hr,e1,e2]
def cM{op:CmpOp}{r:R2}(O:Ay X (Eu op) r)(ha:PE X a ta)(Z:PE X b tb)(Y:Hr op b=false):PE X (.Compare a [op] [b] dF) (tOp r ta tb):=by
 intro pq s σ H Q I h;show wpAny_Compare1 (binT ha Z I h λv u B x y H2 I2 J G q=>O pq B σ H2 x y v u Q I2 J G q) Y
def XH(t:TE):TT:=λσ H Q=>t σ H λx H'=>∃k,x=.bl k/\Q k H'
def Zz{op:CmpOp}{r:R2}(ho:Ay X (Eu op) r)(ha:PE X a ta)(hb:PE X b tb)(hm:Hr op b=false):PT X (.Compare a [op] [b] dF) (XH (tOp r ta tb)):=by
 intro pq s σ H Q I h;show Oz (AS (ha pq s σ H _ I h) λv G⟨x,H1,I1,Y,q1⟩=>AS (hb pq G σ H1 _ I1 q1) λu B ⟨y,H2,I2,O,q2⟩ =>
  AS (ho pq B σ H2 x y v u _ I2 Y O q2) λc s3⟨z,H3,I3,J,k,e,Z⟩=>?_) hm
 subst e;cases J;show Eh {H3,I3,Z}
def Nn:(Cb:Nat)<2 ^ 63:=by rw[C3];decide
def oJ:Ay X (Hs .Add) (λx y H Q=>∃i j,x=.str i/\y=.str j/\i.length+j.length<=Cb/\Q (.str (i++j)) H):=by
 intro pq s σ H x y v u Q I G B h;let{i,j,rfl,rfl,hz,q}:=h;let{t,rfl}:=G;let{t',rfl}:=B;show add_str (λt' tk=>{.str (i++j),H,I.tok _,{_,W},q}) hz
theorem P3(r:AF [x] us):∃u,us=[u]/\AJ x u:=by
 cases r with
 |cons B h=>cases h;show{·,B}
theorem IN(r:AF [x,y] us):∃u h,us=[u,h]/\AJ x u/\AJ y h:=by
 cases r with
 |cons O J =>
  cases J with
  |cons G B=>cases B;show{_,·,O,G}
def gH:W5 X (.builtin "abs") (λxs H Q=>∃i,xs=[.int i]/\Q (.int (if i<0 then -i else i)) H):=by
 intro pq s σ H xs us Q I r h;let{i,rfl,q}:=h;let{u,rfl,t,rfl}:=P3 r;show call_abs_int λu tk=>{.int (if i<0 then -i else i),H,I.tok _,{_,W},q}
def Px(B:X.calm=true):W5 X (.builtin "max") (λxs H Q=>∃i j,xs=[.int i,.int j]/\Q (.int (if j > i then j else i)) H):=by
 intro pq s σ H xs us Q I r h;let{i,j,rfl,q}:=h;let{u,G,rfl,{t,rfl},{t',rfl}}:=IN r;show max_two_ints (I.ok.hd B) λh' tk k=>{_,H,I.kept k,?_,q}
 by_cases hj:j > i
 .rw[D9 hj,D9 hj];show{·}
 .rw[D8 hj,D8 hj];show{·}
def VT(B:X.calm=true):W5 X (.builtin "min") (λxs H Q=>∃i j,xs=[.int i,.int j]/\Q (.int (if j<i then j else i)) H):=by
 intro pq s σ H xs us Q I r h;let{i,j,rfl,q}:=h;let{u,G,rfl,{t,rfl},{t',rfl}}:=IN r;show min_two_ints (I.ok.hd B) λh' tk k=>{_,H,I.kept k,?_,q}
 by_cases hj:j<i
 .rw[D9 hj,D9 hj];show{·}
 .rw[D8 hj,D8 hj];show{·}
def LenV(K:Cq)(x:V)(H:Hp)(n:Nat):Prop :=
 match x with
 |.str y=>y.length<=Cb/\n=y.length
 |.byt y=>y.size<=Cb/\n=y.size
 |.ref p=>(∃xs,Ad K H p xs/\n=xs.length)\/∃xs,A2 K H p xs/\n=xs.length
 |_=>False
theorem Znl:W5 X (.builtin "len") (λxs H Q=>∃x n,xs=[x]/\LenV X.K x H n/\Q (.int n) H):=by
 intro pq s σ H xs us Q I r h;let{x,n,rfl,e,q}:=h;let{u,rfl,J}:=P3 r;let hl:=Nn;let hs:Cb=16777216:=C3;cases x with
 |str y =>
  let{t,rfl}:=J;obtain⟨Y,G⟩:y.length<=Cb/\n=y.length:=e;subst G;show len_str () {.int _,H,I.tok _,{_,rfl},q}
 |byt y =>
  let{t,rfl}:=J;obtain⟨Y,G⟩:y.size<=Cb/\n=y.size:=e;subst G;show W.len_bytes () {.int _,H,I.tok _,{_,rfl},q}
 |ref p =>
  cases J;let G:(∃xs,Ad X.K H p xs/\n=xs.length)\/∃xs,A2 X.K H p xs/\n=xs.length:=e;rcases G with⟨xs,hx,G⟩|⟨xs,hx,G⟩
  .subst G;let{its,O,pl,hz}:=I.list hx;let B:=O.length;show Calls.call_len_list pl.isList (by simp only[Jp];lia) {.int xs.length,H,I.tok _,{_,by simp only[Jp];rw[B]},q}
  .subst G;let{its,O,pl,hz}:=I.tuple hx;let B:=O.length;show len_tuple pl (by simp only[Jp];lia) {.int xs.length,H,I.tok _,{_,by simp only[Jp];rw[B]},q}
 |_=>show(show False from e).elim
end
structure ObjM(h:Heap)(x dx C:Addr)(mA:Str->Option Ca):Prop where
 obj:h.get? x=some (Mg C dx)
 ns:h.Ns1 dx mA
 ne:dx≠x
def bN(n:h.Ns1 dx mA):∃od,h.get? dx=some od/\∀name,ID name od=some (mA name):=by
 let{o,es,ep,J,hd,Y,_,O}:=n;exists o,J,λname=>?_;let e:=O name;unfold nsFind findBy at e;rw[<-Mw]at e;unfold ID;rw[hd];dsimp only
 split
 .rename_i y q
  rw[q]at e;show congrArg some e
 .rename_i q
  rw[q]at e;let a:es.toList.any (·.refKey)=false:=by
   rw[List.any_eq_false];intro y G;let{z,t,B}:=Y y (Array.mem_toList_iff.mp G);simp[DictEntry.refKey,B]
  let Z:¬ es.toList.any (·.refKey)=true:=by rw[a];show Gb
  rw[D8 Z];show congrArg some e
def ObjM.look(I:ObjM h x dx C mA):∃od,W.InstAt h x (Mg C dx) C (some od)/\∀name,ID name od=some (mA name) :=
 let{od,B,hl}:=bN I.ns
 {od,{I.obj,rfl,rfl,B},hl}
section
variable{x:Addr}{v:Ca}
def jU{B:Bool}{Q:Ca->Cc->Prop}(X:K.In s.heap)(I:ObjM s.heap x dx C mA)(Z:Ia K C name=true)(Y:NC K C=true)(ha:C5 K (.ref C) name=some none)(O:mA name=some v)(G:W.handedIn v=true)(h:Q v {s with toks:=s.toks+1}) :
  Cg (Cj prog w) A (GN (.ref x) name B) Q E s:=by
 let{od,J,hl}:=I.look;show W.get_value X J (KS Z).1 (W.findObj_own Y ha rfl (by rw[hl,O])) G h
def sM{pl:Sem Bool}{Q:Ca×List Ca->Cc->Prop}(X:K.In s.heap)(I:ObjM s.heap x dx C mA)(B:Ia K C name=true)(Y:C5 K (.ref C) name=some (some (.ref f)))(O:W.isFn K (.ref f)=true)(G:mA name=none)(h:Q (.ref f,[.ref x]) s) :
  Cg (Cj prog w) A (FJ (.ref x) name pl) Q E s:=by
 let{od,J,hl}:=I.look;show W.method_fn X J (KS B).1 (KS B).2 Y (beq_iff_eq.mp O) (by show(ID name od).map (·.isSome)=some false;rw[hl,G];rfl) h
theorem rJ{ns:List Str}{Q:Unit->Cc->Prop}(X:K.In s.heap)(I:ObjM s.heap x dx C mA)(hs:C5 K (.ref C) "__setattr__"=some (some (.builtin "object.__setattr__")))(hp:W.plainOver K C=true)(ht:MW K C name=some none)(hh:NC K C=true)(hw:Ke mA ns)(hsz:ns.length<=Cb)(h:∀h',ObjM h' x dx C (λy=>if y=name then some v else mA y)->Hm dx s.heap h'->Q ⟨⟩ {s with heap:=h',toks:=s.toks+2}) :
  Cg (Cj prog w) A (HG (.ref x) name v) Q E s:=by
 let{od,J,hl}:=I.look;show NJ X J hs (W.osa_open (s:={s with toks:=s.toks+1}) (r:=none) X J hp ht λb=>?_);let{cd,hc,Z}:=W.any_some hh;let hx:s.heap.get? x=some {.ref C,some dx,.plain,#[]}:=I.obj;show D3 (D4 (D3 (D3 (wpAny_loadPart hx (D3 (W.Looks.here (s:={s with toks:=s.toks+1}) (W.looks_clsIn X hc) ?_))))));rw[Z];show D4 (a:=some dx) (D3 (D4 (D3 ?_)));show MQ (s:={s with toks:=s.toks+1}) I.ns λh' G B=>?_;let{oD,a1,a2,O,Y,a0}:=G.count (MU name v hw);show D3 (LD O (by rw[Y];show OR (Js a0 (by rw[Ju];lia))) ?_)
 show D4 (h _ {(B.2 _ (Et I.ne)).trans I.obj,G,I.ne} B)
def Zm1{R:EZ->Cc->Prop}{vs:List Ca}(X:K.In s.heap)(B:W.makesIn K C=true)(hi:C5 K (.ref C) "__init__"=some (some (.ref f)))(G:W.typeIn K (.ref f)=some (.type "function"))(h:K7 (Cj prog w) (A.under (.builtin "type.__call__" {.ref C::vs,kw})) (.call (.ref f) {.ref (s.heap.objs.size+1)::vs,kw}) (W.InitBack (s.heap.objs.size+1) R)
   {s with heap:=(s.heap.push W.emptyDict).push (Mg C s.heap.objs.size)}) :
  K7 (Cj prog w) A (.call (.ref C) {vs,kw}) R s:=by
 let{J,g,d,t,os}:=s;show W.make_core (W.makes_of X B) (W.looks_findIn X hi) (λself=>W.bind_fn X self G) (.inl rfl) h
end
def Av(f:Str)(v:V):List (Str×V)->List (Str×V)
 |[]=>[(f,v)]
 |(g,x)::r=>if g=f then(g,v)::r else(g,x)::Av f v r
theorem Ty(f g:Str)(v:V):∀fs:List (Str×V),(Av f v fs).lookup g=if g=f then some v else fs.lookup g
 |[]=>by
  show Kz g [(f,v)]=_
  by_cases h:g=f
  .let B:(g==f)=true:=beq_iff_eq.mpr h;simp only[Kz,B,D9 h]
  .let B:(g==f)=false:=beq_eq_false_iff_ne.mpr h;simp only[Kz,B,D8 h]
 |(k,x)::r=>by
  let G:=Ty f g v r;rw[show Av f v ((k,x)::r)=(if k=f then(k,v)::r else(k,x)::Av f v r)from W]
  by_cases hk:k=f
  .rw[D9 hk]
   by_cases h:g=k
   .let B:(g==k)=true:=beq_iff_eq.mpr h;simp only[Kz,B,D9 (h.trans hk)]
   .let B:(g==k)=false:=beq_eq_false_iff_ne.mpr h;simp only[Kz,B,D8 (λe:g=f=>h (e.trans hk.symm))]
  .rw[D8 hk]
   by_cases h:g=k
   .let B:(g==k)=true:=beq_iff_eq.mpr h;simp only[Kz,B,D8 (λe:g=f=>hk (h.symm.trans e))]
   .let B:(g==k)=false:=beq_eq_false_iff_ne.mpr h;simp only[Kz,B];show G
theorem Uu(f:Str)(v:V):∀fs:List (Str×V),f∈(Av f v fs).map (·.1)/\∀g,g∈fs.map (·.1)->g∈(Av f v fs).map (·.1)
 |[]=>{by simp[Av],λg h=>by simp at h}
 |(k,x)::r=>by
  let{G,B}:=Uu f v r;rw[show Av f v ((k,x)::r)=(if k=f then(k,v)::r else(k,x)::Av f v r)from W]
  by_cases hk:k=f
  .rw[D9 hk];subst hk;show{by simp,λg h=>by simpa using h}
  .rw[D8 hk];exists ?_,λg h=>?_
   .rw[Jm];show Jg _ G
   .rw[Jm]at h⊢;rcases Gd.mp h with e|e
    .show Gd.mpr (.inl e)
    .show Jg _ (B g e)
theorem Pa(f:Str)(v:V):∀fs:List (Str×V),(Av f v fs).length<=fs.length+1
 |[]=>by simp[Av]
 |(k,x)::r=>by
  let h:=Pa f v r;rw[show Av f v ((k,x)::r)=(if k=f then(k,v)::r else(k,x)::Av f v r)from W]
  by_cases hk:k=f
  .rw[D9 hk,Ju,Ju];lia
  .rw[D8 hk,Ju,Ju];lia
theorem An.some_of{v:V}{o:Option Ca}(r:An (some v) o):∃u,o=some u/\AJ v u:=by
 cases o with
 |none=>show(show False from r).elim
 |some u=>show{u,W,r}
theorem An.none_of(r:An none o):o=none:=by
 cases o with
 |none=>rfl
 |some u=>show(show False from r).elim
theorem VO(r:AJ v u):W.handedIn u=true:=by
 cases v with
 |non=>cases(show u=Ca.none from r);rfl
 |bl b=>cases(show u=K0 b from r);rfl
 |int i=>obtain⟨t,e⟩:=(show ∃t,u=Mf i t from r);cases e;rfl
 |str x=>obtain⟨t,e⟩:=(show ∃t,u=FD x t from r);cases e;rfl
 |byt b=>obtain⟨t,e⟩:=(show ∃t,u=Os b t from r);cases e;rfl
 |flt b=>obtain⟨t,e⟩:=(show ∃t,u=Ix b t from r);cases e;rfl
 |ref a=>cases(show u=Cd a from r);rfl
 |ty n=>cases(show u=FO n from r);rfl
section
variable{a:Addr}{fs:List (Str×V)}
def Im(B:BN P w H h)(e:H a=some (.ins C dx fs)):∃mA,ObjM h a dx C mA/\(∀f,An (fs.lookup f) (mA f))/\Ke mA (fs.map (·.1))/\fs.length<=1000/\H dx=some (.own a):=by
 let{d,z,ne,G,mA,n,r,q}:=(show Y9 P w H h a (.ins C dx fs)from B a _ e);show{mA,{G,n,ne},r,q,z,d}
end
structure CQ(K:Cq)(C:Addr):Prop where
 pg:Ia K C FY=true
 hd:NC K C=true
 po:W.plainOver K C=true
 sa:C5 K (.ref C) "__setattr__"=some (some (.builtin "object.__setattr__"))
def CQ.get(c:CQ K C)(f:Str):Ia K C f=true:=c.pg
def Y2(K:Cq)(C:Addr)(f:Str):Prop:=C5 K (.ref C) f=some none
def Y2.taker{f:Str}(n:Y2 K C f):MW K C f=some none:=by
 unfold MW;rw[show C5 K (.ref C) f=some none from n];rfl
structure Meth(K:Cq)(C:Addr)(m:Str)(f:Addr):Prop where
 at_:C5 K (.ref C) m=some (some (.ref f))
 fn:W.isFn K (.ref f)=true
 kp:DW K (.ref f)=true
section
variable{a:Addr}{fs:List (Str×V)}{f:Str}{v:V} 
def sQ{b:Bool}{Q:Ca->Cc->Prop}(I:AB X pq σ H s)(e:H a=some (.ins C dx fs))(c:CQ X.K C)(n:Y2 X.K C f)(l:fs.lookup f=some v)(h:∀u s',AB X pq σ H s'->AJ v u->Q u s'):Cg (Cj X.prog X.w) A (GN (.ref a) f b) Q E s:=by
 let{mA,O,r,_,_,_}:=Im I.hok e;let{u,G,B}:=An.some_of (v:=v) (o:=mA f) (by rw[<-l];show r f);show jU I.kIn O (c.get f) c.hd n G (VO B) (h u _ (I.tok _) B)
def Nu{m:Str}{g:Addr}{pl:Sem Bool}{Q:Ca×List Ca->Cc->Prop}(I:AB X pq σ H s)(e:H a=some (.ins C dx fs))(c:CQ X.K C)(k:Meth X.K C m g)(l:fs.lookup m=none)(h:Q (.ref g,[.ref a]) s):Cg (Cj X.prog X.w) A (FJ (.ref a) m pl) Q E s:=by
 let{mA,O,r,_,_,_}:=Im I.hok e;let hn:mA m=none:=An.none_of (by rw[<-l];show r m);show sM I.kIn O (c.get m) k.at_ k.fn hn h
theorem iR{Q:Unit->Cc->Prop}(I:AB X pq σ H s)(e:H a=some (.ins C dx fs))(c:CQ X.K C)(n:Y2 X.K C f)(hl:fs.length<1000)(J:AJ y u)(h:∀s',AB X pq σ (upd H a (.ins C dx (Av f y fs))) s'->Q ⟨⟩ s'):Cg (Cj X.prog X.w) A (HG (.ref a) f u) Q E s:=by
 let{mA,O,r,wi,_,G}:=Im I.hok e;let hz:(fs.map (·.1)).length<=Cb:=by rw[Ja,C3];lia
 show rJ I.kIn O c.sa c.po n.taker c.hd wi hz λh' B sb=>h _ ?_;let hd:∃o,h'.get? dx=some o:=let{o,_,_,e',_}:=B.ns;{o,e'}
 show I.write (x:=a) (e:=dx) (by rw[e];show Ef) (.inr G) (λb q Z z=>(sb.2 b Z).trans z) hd ?_;exists by rw[Zq O.ne];show G,?_,O.ne,B.obj,_,B.ns,λg=>?_,λg Y=>?_
 .let:=Pa f y fs;lia
 .show An ((Av f y fs).lookup g) (if g=f then some u else mA g);rw[Ty]
  by_cases q:g=f
  .rw[D9 q,D9 q];show J
  .rw[D8 q,D8 q];show r g
 .by_cases q:g=f
  .rw[q];show(Uu f y fs).1
  .show(Uu f y fs).2 g (wi g λz=>Y ?_);show(if g=f then some u else mA g)=none;rwa[D8 q]
def AB.made(I:AB X pq σ H s):AB X pq σ (upd (upd H s.heap.objs.size (.own (s.heap.objs.size+1))) (s.heap.objs.size+1) (.ins C s.heap.objs.size []))
  {s with heap:=(s.heap.push W.emptyDict).push (Mg C s.heap.objs.size)}:=by
 let e1:(s.heap.push W.emptyDict).get? s.heap.objs.size=some W.emptyDict:=D6 s.heap rfl;let e2:((s.heap.push W.emptyDict).push (Mg C s.heap.objs.size)).get? (s.heap.objs.size+1)=some (Mg C s.heap.objs.size):=by
  let:=D6 (s.heap.push W.emptyDict) (o:=Mg C s.heap.objs.size) rfl;rwa [Kw]at this
 let e3:(s.heap.push W.emptyDict).Ns s.heap.objs.size (λ_=>none):={W.emptyDict,#[],_,e1,rfl,(λe B=>D0 B (by simp)),λ_=>rfl};let G:=I.laid (a:=s.heap.objs.size) (o:=.own (s.heap.objs.size+1)) (h':=s.heap.push W.emptyDict) (t':=s.toks) (λb u q=>D5 _ q) (Jk _) {_,e1};show G.laid (a:=s.heap.objs.size+1) (o:=.ins C s.heap.objs.size []) (t':=s.toks) (λb u q=>D5 _ q) (F1 (Kw _ _)) ?_;let ne:s.heap.objs.size≠s.heap.objs.size+1:=Gk (B1 _);exists by rw[Zq ne,Zw],J9 _,ne,e2,λ_=>none,(Heap.Ns1.of_empty e3).at λo q=>D5 _ q,λ_=>Ef,λy h=>D0 rfl h
def QL{env:Env}{e:Expr}{f:Str}{Q:Ca->Cc->Prop}(G:Ht e f env (eval e env)=eval e env)(h:Cg (Cj prog w) A (eval e env) (λo B=>Cg (Cj prog w) A (GN o f true) Q E B) E s):Cg (Cj prog w) A (eval (.Attribute e f dF) env) Q E s :=
 Attribute_any_ h (by rw[arm_eval_Attribute,G])
end
def tFld(K:Cq)(ta:TE)(f:Str):TE:=λσ H Q=>ta σ H λx H1=>∃a C dx fs v,x=.ref a/\H1 a=some (.ins C dx fs)/\CQ K C/\Y2 K C f/\fs.lookup f=some v/\Q v H1
def sFld(K:Cq)(ta tv:TE)(f:Str):TS:=λD σ H=>tv σ H λy H1=>ta σ H1 λx h=>∃a C dx fs,x=.ref a/\h a=some (.ins C dx fs)/\CQ K C/\Y2 K C f/\fs.length<1000 /\
 D.nx σ (upd h a (.ins C dx (Av f y fs)))
section
variable{o e:Expr}{f:Str}{tv:TE}
def Wq(J:PE X e ta)(O:Ht e f X.env (eval e X.env)=eval e X.env):PE X (.Attribute e f dF) (tFld X.K ta f):=by
 intro pq s σ H Q I h;show QL O (AS (J pq s σ H _ I h) λu s1 hz=>?_);let{x,H1,Z,B,a,C,dx,fs,v,ex,ea,c,n,l,q}:=hz;subst ex;obtain rfl:u=Cd a:=B;show sQ Z ea c n l λu' s2 Y G=>{v,H1,Y,G,q}
def Qa(ha:PE X o ta)(Z:PE X value tv)(hs:Mh value (some (.Attribute o f pos')) dF.line X.env=pure false):PS X (.Assign [.Attribute o f pos'] value dF) (sFld X.K ta tv f):=by
 intro pq s σ H D I h;show Lp (AS (Z pq s σ H _ I h) λu B⟨y,H1,I1,G,q⟩=>AS (ha pq B σ H1 _ I1 q) λY s2 hz=>?_) hs;let{x,H2,I2,J,a,C,dx,fs,ex,ea,c,n,l,O}:=hz;subst ex;obtain rfl:Y=Cd a:=J;show iR I2 ea c n l G λs3 I3=>{σ,_,I3,O}
end
section
variable{Q:Ca->Cc->Prop}{c:Ca}{b:Bool}
inductive TyOf(K:Cq)(H:Hp):V->Ca->Prop where
 |non:TyOf K H .non (.type "NoneType")
 |bl (x:Bool):TyOf K H (.bl x) (.type "bool")
 |int (i:Int):TyOf K H (.int i) (.type "int")
 |str (x:Str):TyOf K H (.str x) (.type "str")
 |flt (x:UInt64):TyOf K H (.flt x) (.type "float")
 |lst {a:Addr} {xs:List V} (e:H a=some (.lst xs)):TyOf K H (.ref a) (.type "list")
 |frz {a:Addr} {o:Obj} {xs:List V} (e:H a=some (.frz o (.lst xs))):TyOf K H (.ref a) (.type "list")
 |tup {a:Addr} {xs:List V} (e:H a=some (.tup xs)):TyOf K H (.ref a) (.type "tuple")
 |dK {a:Addr} {kvs:List (AI×V)} (e:H a=some (.dK kvs)):TyOf K H (.ref a) (.type "dict")
 |dT {a:Addr} {kvs:List (List AI×V)} (e:H a=some (.dT kvs)):TyOf K H (.ref a) (.type "dict")
 |ins {a C dx:Addr} {fs:List (Str×V)} (e:H a=some (.ins C dx fs)) (cl:CQ K C) (ha:C5 K (.ref C) "__class__"=some (some (.builtin "object.__class__")))
   (hn:W.specialIn K (.builtin "object.__class__") "__get__"=some (some (.builtin "getset_descriptor.__get__"))) (htk:W.takesIn K (.builtin "object.__class__")=some true)
   (hm:Mm K C (.type "object")=some true):TyOf K H (.ref a) (.ref C)
theorem Zjx(I:AB X pq σ H s)(B:AJ x u)(ty:TyOf X.K H x t)(e:Hu X.K t c=some b)(h:∀tk,Q (.bool b) {s with toks:=tk}) :
  Cg (Cj X.prog X.w) A (call (.builtin "isinstance") [u,c]) Q E s:=by
 cases ty with
 |non=>cases(show u=Ca.none from B);show Kx W.kitx_none I.kIn Ef e (λz=>nomatch z) h
 |bl y=>cases(show u=K0 y from B);show Kx W.kitx_bool I.kIn Ef e (λz=>nomatch z) h
 |int i=>obtain⟨t,q⟩:=(show ∃t,u=Mf i t from B);cases q;show Kx W.kitx_int I.kIn Ef e (λz=>nomatch z) h
 |str y=>obtain⟨t,q⟩:=(show ∃t,u=FD y t from B);cases q;show Kx W.kitx_str I.kIn Ef e (λz=>nomatch z) h
 |flt y=>obtain⟨t,q⟩:=(show ∃t,u=Ix y t from B);cases q;show Kx W.kitx_float I.kIn Ef e (λz=>nomatch z) h
 | @lst a xs ea =>
  cases(show u=Cd a from B);let{_,_,n,_,h1}:=(show Y9 X.prog X.w H s.heap a (.lst xs)from I.hok a _ ea);show Kx W.kitx_list I.kIn {_,h1,rfl} e (λz=>nomatch z) h
 | @frz a ob xs ea =>
  cases(show u=Cd a from B);let{_,_,_,n,_,h1}:=(show Y9 X.prog X.w H s.heap a (.frz ob (.lst xs))from I.hok a _ ea);show Kx W.kitx_list I.kIn {_,h1,rfl} e (λz=>nomatch z) h
 | @tup a xs ea =>
  cases(show u=Cd a from B);let{_,_,_,p}:=(show Y9 X.prog X.w H s.heap a (.tup xs)from I.hok a _ ea);let{o,h1,h2,_}:=p;show Kx W.kitx_tuple I.kIn {o,h1,h2} e (λz=>nomatch z) h
 | @dK a kvs ea =>
  cases(show u=Cd a from B);let{_,_,vs,_,p}:=(show Y9 X.prog X.w H s.heap a (.dK kvs)from I.hok a _ ea);let{o,es,ep,h1,h2,_}:=p;show Kx W.kitx_dict I.kIn {o,h1,h2.1} e (λz=>nomatch z) h
 | @dT a kvs ea =>
  cases(show u=Cd a from B);let{_,_,xs,_,o,es,ep,h1,h2,_}:=(show Y9 X.prog X.w H s.heap a (.dT kvs)from I.hok a _ ea);show Kx W.kitx_dict I.kIn {o,h1,h2.1} e (λz=>nomatch z) h
 | @ins a C dx fs ea cl ha hn htk hm =>
  cases(show u=Cd a from B);let{mA,O,_}:=Im I.hok ea;let{od,J,_}:=O.look;show Kx (W.kitx_own (cl.get _) cl.hd ha hn htk hm) I.kIn J e (λz=>nomatch z) h
end
structure AG(k:Nat)(A:Kr):Prop where
 hd:A.handled=none
 dp:A.depth+3*k+5<recursionLimit
 un:A.units+16*k+200<E8
theorem AG.mono(r:AG k A)(h:j<=k):AG j A:={r.hd,by have:=r.dp;lia,by have:=r.un;lia}
theorem AG.deeper(r:AG (k+1) A)(env:Env):AG k (A.deeper env) :=
 {r.hd,by have:=r.dp;show A.depth+1+3*k+5<_;lia,by have:=r.un;show A.units+3+16*k+200<_;lia}
theorem AG.in1(r:AG (k+1) A):AG k A.in1 :=
 {r.hd,by have:=r.dp;show A.depth+3*k+5<_;lia,by have:=r.un;show A.units+1+16*k+200<_;lia}
def wO :(A.under (.builtin "type.__call__" {.ref C::us,kw})).depth=A.depth+1:=by
 first|rfl|simp[LU,Code.weight,Code.isCreation,Code.isGuard,Code.isCaller,UL,MY,guardIds]
def rR :(A.under (.builtin "type.__call__" {.ref C::us,kw})).units=A.units+1:=by
 first|rfl|simp[LU,Code.cUnits,UL,MY]
theorem AG.make(r:AG (k+1) A)(C:Addr)(us:List Ca)(kw:List (Str×Ca)):AG k (A.under (.builtin "type.__call__" {.ref C::us,kw})) :=
 {r.hd,by have:=r.dp;rw[wO];lia,by have:=r.un;rw[rR];lia}
theorem AG.depth(r:AG k A):A.depth<recursionLimit:=by have:=r.dp;lia
theorem AG.units(r:AG k A):A.units+64<E8:=by have:=r.un;lia
def tNil:TA:=λ_ H Q=>Q [] H
def IE(ta:TE)(h:TA):TA:=λσ H Q=>ta σ H λx H1=>h σ H1 λxs B=>Q (x::xs) B
section
variable{e:Expr}{t:TA} 
def Zc:PA X [] tNil:=λ_ _ _ _ H Q I h=>JY {[],H,I,.nil,h}
def Za(ha:PE X e te)(Z:PA X es t)(hs:Cr (e::es) X.env=(false,eval e X.env)::Cr es X.env:=by rfl):PA X (e::es) (IE te t):=by
 intro dF pq s σ H Q I h;rw[hs];show Cg _ _ (spliced ((false,eval e X.env)::Ks dF (Cr es X.env))) _ _ s;show K8 (AS (ha pq s σ H _ I h) λu B hz=>?_);let{x,H1,I1,J,Y}:=hz;show AS (Z dF pq B σ H1 _ I1 Y) λus s2⟨xs,H2,I2,G,O⟩=>{x::xs,H2,I2,.cons J G,O}
def tTup(t:TA):TE:=λσ H Q=>t σ H λxs H1=>xs.length<=Cb/\∀p,H1 p=none->Q (.ref p) (upd H1 p (.tup xs))
def tLst(t:TA):TE:=λσ H Q=>t σ H λxs H1=>xs.length<=Cb/\∀p,H1 p=none->Q (.ref p) (upd H1 p (.lst xs))
def Y1{x1}(h:PA X es t):PE X (.Tuple es x1 dF) (tTup t):=by
 intro pq s σ H Q I J;show wpAny_Tuple_spliced (AS (h dF pq s σ H _ I J) λus B⟨xs,H1,G,r,z,q⟩=>{by rwa[<-r.length],?_});let O:H1 B.heap.objs.size=none:=G.hok.fresh (Jk _);show{.ref B.heap.objs.size,upd H1 B.heap.objs.size (.tup xs),G.laid (t':=B.toks) (λb u e=>D5 _ e) (Jk _) ?_,W,q _ O};show{z,us,r,{_,D6 _ W,W,_,W,W}}
def Yk(h:PA X es t):PE X (.List es dF) (tLst t):=by
 intro pq s σ H Q I J;show wpAny_List_spliced (AS (h dF pq s σ H _ I J) λus B⟨xs,H1,G,r,z,q⟩=>{by rwa[<-r.length],?_});let O:H1 B.heap.objs.size=none:=G.hok.fresh (Jk _);show{.ref B.heap.objs.size,upd H1 B.heap.objs.size (.lst xs),G.laid (t':=B.toks) (λb u e=>D5 _ e) (Jk _) ?_,W,q _ O};show{z,us,0,r,D6 _ W}
end
abbrev Sp:=List V->Hp->VK->XK->Prop
variable{sp':L2.Sp}
abbrev CXT:=List Env->Hp->Cc->XK->Ca->Cc->Prop
variable{CX:L2.CXT}
structure Env0(P:E4)(w:H9)(K:Cq)(mg:Str->Option Ca)(dC:Heap)(A:Kr)(dD:List Env)(s:Cc)(H:Hp):Prop where
 frames:A.frames=some dD
 mod:Mod K mg dC
 bs:∀b o,dC.get? b=some o->s.heap.get? b=some o/\H b=none
 bsz:dC.objs.size<=s.heap.objs.size
 funs:s.heap.FunFrames dC dD
 frf:∀b∈CK dD,H b=none
 hok:BN P w H s.heap
 bare:DN s.gens
def CE(dD:List Env)(P:E4)(w:H9)(H:Hp)(s:Cc)(Q:VK)(u:Ca)(s':Cc):Prop :=
 ∃v H',s'.os=s.os/\DN s'.gens/\Un (CK dD) [] H H' s.heap s'.heap/\BN P w H' s'.heap/\AJ v u/\Q v H'
def CR(CX:CXT)(dD:List Env)(P:E4)(w:H9)(H:Hp)(s:Cc)(Q:VK)(E:XK)(r:EZ)(s':Cc):Prop :=
 match r with
 |.ok (.ret u)=>CE dD P w H s Q u s'
 |.ok _=>False
 |.error e=>CX dD H s E e s'
structure AK(P:E4)(w:H9)(K:Cq)(mg:Str->Option Ca)(dC:Heap)(CX:CXT)(k:Nat)(f:Addr)(fd:Mx)(ps:List Str)(sp:Sp):Prop where
 len:∀vs H Q E,sp vs H Q E->vs.length=ps.length
 run:∀(A:Kr)(dD:List Env)(s:Cc)(H:Hp)(args:Args)(us:List Ca)(vs:List V)(Q:VK)(E:XK),AG k A->Env0 P w K mg dC A dD s H->ES s fd args (ps.zip us)->AF vs us->sp vs H Q E ->
  K7 (Cj P w) A (.call (.ref f) args) (CR CX dD P w H s Q E) s
def AK.imp{dC:Heap}(F:AK P w K mg dC CX k f fd ps sp)(h:∀vs H Q E,sp' vs H Q E->sp vs H Q E):AK P w K mg dC CX k f fd ps sp' :=
 {λvs H Q E q=>F.len vs H Q E (h _ _ _ _ q),λA dD s H args us vs Q E G J O B hs=>F.run A dD s H args us vs Q E G J O B (h _ _ _ _ hs)}
def Env0.make{dC:Heap}{dD:List Env}(e:Env0 P w K mg dC A dD s H)(C:Addr)(us:List Ca)(kw:List (Str×Ca)) :
  Env0 P w K mg dC (A.under (.builtin "type.__call__" {.ref C::us,kw})) dD s H:={by first|show e.frames|(simpa[LU,Code.envs,MY,pushEnvs]using e.frames),e.mod,e.bs,e.bsz,e.funs,e.frf,e.hok,e.bare}
def Env0.in1{dC:Heap}{dD:List Env}(e:Env0 P w K mg dC A dD s H) :
  Env0 P w K mg dC A.in1 dD s H:={e.frames,e.mod,e.bs,e.bsz,e.funs,e.frf,e.hok,e.bare}
section
variable{s':Cc}
def AB.env0(I:AB X pq σ H s):Env0 X.prog X.w X.K X.mg X.base X.A X.stack s H :=
 {I.ok.frames,I.ok.mod,I.bs,Js I.ok.bsz I.sz,I.stack,I.stkFree,I.hok,I.bare}
def AB.after(I:AB X pq σ H s)(h:CE X.stack X.prog X.w H s Q u s'):EP X pq σ Q u s':=by
 let{v,H',os,B,un,J,r,q}:=h;let{O,g,d,t,G}:=s';obtain rfl:G=s.os:=os;show{v,H',I.call (h':=O) (g':=g) (d':=d) (t':=t) (ch:=[]) un J B (λb z=>D0 z (by simp)),r,q}
end
def GV(sp:Sp)(dvs:List V)(E:XK)(t:TA):TE:=λσ H Q=>t σ H λvs H1=>sp (vs++dvs) H1 Q E
def FM(C:Addr)(m:Str)(sp:Sp)(dvs:List V)(E:XK)(ta:TE)(t:TA):TE:=λσ H Q=>ta σ H λx H1=>∃a dx fs,x=.ref a/\H1 a=some (.ins C dx fs)/\fs.lookup m=none /\
 t σ H1 λvs h=>sp (x::(vs++dvs)) h Q E
def IY(C:Addr)(sp:Sp)(dvs:List V)(E:XK)(t:TA):TE:=λσ H Q=>t σ H λvs H1=>∀x dx,H1 x=none->H1 dx=none->dx≠x ->
 sp (.ref x::(vs++dvs)) (upd (upd H1 dx (.own x)) x (.ins C dx [])) (λv h=>v=.non/\Q (.ref x) h) E
def Ud(K:Cq)(fd:Mx)(ps:List Str)(ds:List Ca):Prop :=
 ∀(s:Cc)(us:List Ca),K.In s.heap->(us++ds).length=ps.length->ES s fd {us,[]} (ps.zip (us++ds))
def Ud.all(h:∀us:List Ca,us.length=ps.length->FP fd {us,[]}=pure (ps.zip us)):Ud K fd ps []:=λs us _ hl=>by
 rw[Jx]at hl⊢;show .of_eq (h us hl)
def P0(CX:CXT)(X:Cx)(E:XK):Prop:=∀(pq:List (Addr×Obj))(σ:St)(H:Hp)(s:Cc)(e:Ca)(s':Cc),AB X pq σ H s->CX X.stack H s E e s'->X.xe e s'
section
variable{k:Nat}{sp:Sp}{dvs:List V}{ds:List Ca}{E:XK}{x m:Str}{p:Pos}{e o:Expr}{t:TA}
theorem JF(F:AK X.prog X.w X.K X.mg X.base CX k f fd ps sp)(J:AG k X.A)(O:Ud X.K fd ps ds)(hd:AF dvs ds)(hx:P0 CX X E)(I:AB X pq σ H s)(r:AF vs us)(h:sp (vs++dvs) H Q E):Cg (Cj X.prog X.w) X.A (call (.ref f) us) (EP X pq σ Q) X.xe s:=by
 let G:AF (vs++dvs) (us++ds):=r.append hd;let hl:(us++ds).length=ps.length:=by rw[<-G.length];show F.len _ _ _ _ h
 show Ka (Kg (F.run X.A X.stack s H {us,[]} (us++ds) (vs++dvs) Q E J I.env0 (O s us I.kIn hl) G h) λr s' B=>?_);cases r with
 |error e=>show hx pq σ H s e s' I B
 |ok Y =>
  cases Y with
  |ret u=>show I.after B
  |next=>show Cy B
  |brk=>show Cy B
  |cont=>show Cy B
def kM(F:AK X.prog X.w X.K X.mg X.base CX k f fd ps sp)(O:AG k X.A)(hg:Gl X x)(Y:X.mg x=some (.ref f))(Z:DW X.K (.ref f)=true)(hb:Ud X.K fd ps ds)(hd:AF dvs ds)(hx:P0 CX X E)(ha:PA X (e::es) t)(G:(x==("__debug__":Str))=false:=by decide)(he:Cr (e::es) X.env=(false,eval e X.env)::Cr es X.env:=by rfl)(B:(Ks dF (Cr es X.env)).any (·.1)=false:=by rfl) :
  PE X (.Call (.Name x p) (e::es) [] dF) (GV sp dvs E t):=by
 intro pq s σ H Q I h;show Ee (Tz I hg Y ?_ G);show My (h₀:=X.base) I.ok.mod.kin Z (AS (ha dF pq s σ H _ I h) λus s1⟨vs,H1,J,r,q⟩=>{J.kIn,?_}) he B;show JF F O hb hd hx J r q
def Zrl{pl:Sem Bool}(he:PE X o ta)(c:CQ X.K C)(O:Meth X.K C m f)(F:AK X.prog X.w X.K X.mg X.base CX k f fd ps sp)(hr:AG k X.A)(hb:Ud X.K fd ps ds)(hd:AF dvs ds)(hx:P0 CX X E)(ha:PA X (e::es) t)(B:Cr (e::es) X.env=(false,eval e X.env)::Cr es X.env:=by rfl)(G:(Ks dF (Cr es X.env)).any (·.1)=false:=by rfl)(ht:eval (.Call (.Attribute o m eA) (e::es) [] dF) X.env=(do
   let J <-eval o X.env
   DY eA.atName
   let(f,first) <-M8 [J] (FJ J m pl)
   HR dF f first (Ks dF (Cr (e::es) X.env)) (Mz dF (Kh [] X.env))):=by rfl) :
  PE X (.Call (.Attribute o m eA) (e::es) [] dF) (FM C m sp dvs E ta t):=by
 intro pq s σ H Q I h;show RL (pl:=pl) (AS (he pq s σ H _ I h) λu s1 hz=>?_) ht;let{x,H1,Z,rx,a,dx,fs,ex,ea,l,q}:=hz;subst ex;obtain rfl:u=Cd a:=rx;show Nu Z ea c O l ?_;show My (first:=[.ref a]) (h₀:=X.base) I.ok.mod.kin O.kp (AS (ha dF pq s1 σ H1 _ Z q) λus s2⟨vs,H2,Y,r,q2⟩=>{Y.kIn,?_}) B G;show JF (us:=.ref a::us) (vs:=.ref a::vs) F hr hb hd hx Y (.cons W r) q2
def qS{pl:Sem Bool}(he:PE X o ta)(c:CQ X.K C)(J:Meth X.K C m f)(F:AK X.prog X.w X.K X.mg X.base CX k f fd ps sp)(Z:AG k X.A)(hb:Ud X.K fd ps ds)(hd:AF dvs ds)(hx:P0 CX X E)(Y:eval (.Call (.Attribute o m eA) [] [] dF) X.env=(do
   let G <-eval o X.env
   DY eA.atName
   let(f,first) <-M8 [G] (FJ G m pl)
   HR dF f first (Ks dF (Cr [] X.env)) (Mz dF (Kh [] X.env))):=by rfl) :
  PE X (.Call (.Attribute o m eA) [] [] dF) (FM C m sp dvs E ta tNil):=by
 intro pq s σ H Q I h;show RL (pl:=pl) (AS (he pq s σ H _ I h) λu s1 hz=>?_) Y;let{x,H1,B,O,a,dx,fs,ex,ea,l,q}:=hz;subst ex;obtain rfl:u=Cd a:=O;show Nu B ea c J l ?_;show VH (first:=[.ref a]) B.kIn J.kp (JF (us:=[.ref a]) (vs:=[.ref a]) F Z hb hd hx B (.cons W .nil) q)
structure Mk(K:Cq)(C f:Addr):Prop where
 makes:W.makesIn K C=true
 init:C5 K (.ref C) "__init__"=some (some (.ref f))
 fn:W.isFn K (.ref f)=true
 kp:DW K (.ref C)=true
theorem nX(M:Mk X.K C f)(F:AK X.prog X.w X.K X.mg X.base CX k f fd ps sp)(hr:AG (k+1) X.A)(hb:Ud X.K fd ps ds)(hd:AF dvs ds)(hx:P0 CX X E)(I:AB X pq σ H s)(r:AF vs us)(h:∀x dx,H x=none->H dx=none->dx≠x->sp (.ref x::(vs++dvs)) (upd (upd H dx (.own x)) x (.ins C dx [])) (λv H2=>v=.non/\Q (.ref x) H2) E) :
  Cg (Cj X.prog X.w) X.A (call (.ref C) us) (EP X pq σ Q) X.xe s:=by
 let O:=h (s.heap.objs.size+1) s.heap.objs.size (I.hok.fresh (Bg _)) (I.hok.fresh (Jk _)) (Gk (B1 _));let G:=AB.made (C:=C) I;let J:AF (V.ref (s.heap.objs.size+1)::(vs++dvs)) (Cd (s.heap.objs.size+1)::(us++ds)):=.cons W (r.append hd);let hl:(Cd (s.heap.objs.size+1)::us++ds).length=ps.length:=by
  let e:=J.length;rw[F.len _ _ _ _ O]at e;show e.symm
 show Ka (Zm1 (f:=f) I.kIn M.makes M.init (beq_iff_eq.mp M.fn) (Kg (F.run _ X.stack _ _ {Cd (s.heap.objs.size+1)::us,[]} (Cd (s.heap.objs.size+1)::(us++ds)) _ _ E (hr.make C us [])
  (G.env0.make C us []) (hb _ (Cd (s.heap.objs.size+1)::us) G.kIn hl) J O) λr s' B=>?_))
 cases r with
 |error e=>show hx pq σ _ _ e s' G B
 |ok fl =>
  cases fl with
  |ret u =>
   let{v,H',I3,Y,ev,Z}:=G.after B;subst ev;show{Y,{V.ref (s.heap.objs.size+1),H',I3,W,Z}}
  |next=>show Cy B
  |brk=>show Cy B
  |cont=>show Cy B
def xF(M:Mk X.K C f)(F:AK X.prog X.w X.K X.mg X.base CX k f fd ps sp)(O:AG (k+1) X.A)(Z:Gl X x)(Y:X.mg x=some (.ref C))(hb:Ud X.K fd ps ds)(hd:AF dvs ds)(hx:P0 CX X E)(ha:PA X (e::es) t)(G:(x==("__debug__":Str))=false:=by decide)(he:Cr (e::es) X.env=(false,eval e X.env)::Cr es X.env:=by rfl)(B:(Ks dF (Cr es X.env)).any (·.1)=false:=by rfl) :
  PE X (.Call (.Name x p) (e::es) [] dF) (IY C sp dvs E t):=by
 intro pq s σ H Q I h;show Ee (Tz I Z Y ?_ G);show My (h₀:=X.base) I.ok.mod.kin M.kp (AS (ha dF pq s σ H _ I h) λus s1⟨vs,H1,J,r,q⟩=>{J.kIn,?_}) he B;show nX M F O hb hd hx J r q
end
def PK(X:Cx)(kws:List DZ)(t:TA):Prop :=
 ∀(dF:Pos)(pq:List (Addr×Obj))(s:Cc)(σ:St)(H:Hp)(Q:List V->Hp->Prop),AB X pq σ H s->t σ H Q->Cg (Cj X.prog X.w) X.A (evalAll ((Mz dF (Kh kws X.env)).map (·.2))) (AP X pq σ Q) X.xe s
section
variable{x:Str}{fG:Pos}{e:Expr}{kws:List DZ}{t:TA}{nm:Option Str}
def Zvk:PK X [] tNil:=λ_ _ _ _ H Q I h=>wpAny_evalAll_nil {[],H,I,.nil,h}
def tH(ha:PE X e te)(Z:PK X kws t):PK X ({nm,e,fG}::kws) (IE te t):=by
 intro dF pq s σ H Q I h;show Cg _ _ (evalAll ((do let v <-eval e X.env;DY dF;pure v)::(Mz dF (Kh kws X.env)).map (·.2))) _ _ s;show wpAny_evalAll_cons (D3 (AS (ha pq s σ H _ I h) λu B⟨x,H1,I1,J,Y⟩=>D3 (E5 (D4 ?_))));show AS (Z dF pq B σ H1 _ I1 Y) λus s2⟨xs,H2,I2,G,O⟩=>{x::xs,H2,I2,.cons J G,O}
end
structure AD(N P:List Str)(sc:Scope):Prop where
 kind:sc.kind=.function
 co:sc.isCoroutine=false
 gen:sc.isGenerator=false
 nd:N.Nodup
 pre:N.take P.length=P
 par:∀x∈P,sc.names.lookup x=some .local\/sc.names.lookup x=some .cell
 nofree:∀y∈sc.names,y.2≠.free
theorem ZI{kindOf:Str->Option Ha} :∀{binds:List (Str×Ca)}{m:Str->Option Ca},(∀v,(x,v)∉binds)->DT kindOf binds m x=m x
 |[],_,_=>rfl
 |(n,v)::r,m,h=>by
  unfold DT;rw[ZI λw hw=>h w (Jg _ hw)]
  split
  .let:x≠n:=by rintro rfl;show h v Je
   simp[this]
  .rfl
theorem cE{kindOf:Str->Option Ha} :∀{binds:List (Str×Ca)}{m:Str->Option Ca},(∀v,(x,v)∉binds)->DU kindOf binds m x=m x
 |[],_,_=>rfl
 |(n,v)::r,m,h=>by
  unfold DU;rw[cE λw hw=>h w (Jg _ hw)]
  split
  .rfl
  .let:x≠n:=by rintro rfl;show h v Je
   simp[this]
theorem bX{kindOf:Str->Option Ha}  :∀{P:List Str}{vs:List Ca}{i:Nat}{m:Str->Option Ca},P.Nodup->P[i]?=some x->vs[i]?=some v->kindOf x=some .local ->
  DT kindOf (P.zip vs) m x=some v
 |[],_,_,_,_,h,_,_=>by simp at h
 |_::_,[],_,_,_,_,h,_=>by simp at h
 |p::P,w::vs,0,m,nd,h1,h2,hk=>by
  simp at h1 h2;subst h1;subst h2;show DT kindOf ((p,w)::P.zip vs) m p=_;unfold DT;rw[ZI λv B=>(Fe.mp nd).1 (LO B).1,D9 hk];simp
 |p::P,w::vs,i+1,m,nd,h1,h2,hk=>by
  show DT kindOf ((p,w)::P.zip vs) m x=_;unfold DT;show bX (i:=i) (Fe.mp nd).2 (by simpa using h1) (by simpa using h2) hk
theorem XM{kindOf:Str->Option Ha}  :∀{P:List Str}{vs:List Ca}{i:Nat}{m:Str->Option Ca},P.Nodup->P[i]?=some x->vs[i]?=some v->kindOf x≠some .local ->
  DU kindOf (P.zip vs) m x=some v
 |[],_,_,_,_,h,_,_=>by simp at h
 |_::_,[],_,_,_,_,h,_=>by simp at h
 |p::P,w::vs,0,m,nd,h1,h2,hk=>by
  simp at h1 h2;subst h1;subst h2;show DU kindOf ((p,w)::P.zip vs) m p=_;unfold DU;rw[cE λv B=>(Fe.mp nd).1 (LO B).1,D8 hk];simp
 |p::P,w::vs,i+1,m,nd,h1,h2,hk=>by
  show DU kindOf ((p,w)::P.zip vs) m x=_;unfold DU;show XM (i:=i) (Fe.mp nd).2 (by simpa using h1) (by simpa using h2) hk
def start(N:List Str)(vs:List V):St:=vs.map some++Co (N.length-vs.length) none
def CI(CX:CXT)(P:E4)(w:H9)(K:Cq)(mg:Str->Option Ca)(dC:Heap)(N:List Str)(dH:Str)(dE:Scope)(f:Addr)(cd:Ca)(A:Kr)(dD:List Env)(s:Cc)(H:Hp)(E:XK):Cx where
 prog:=P
 w:=w
 K:=K
 mg:=mg
 base:=dC
 A:=A.deeper (Ho dH dE s.heap.objs.size f cd)
 N:=N
 s₀:=s
 H₀:=H
 env:=Ho dH dE s.heap.objs.size f cd
 outer:=dD
 stack:=Ho dH dE s.heap.objs.size f cd::dD
 ex:=[]
 calm:=true
 fn:=λ_=>true
 pn:=[]
 xe:=λe s'=>Cg (Cj P w) (A.deeper (Ho dH dE s.heap.objs.size f cd)) (HY (Ho dH dE s.heap.objs.size f cd) e) (λ_ h=>CX dD H s E e h) (λB h=>CX dD H s E B h) s'
def QW{B:Scope}{n:Nat}{x:Str}(h:B.names.lookup x=some .cell):∃c,(NP n B.names []).lookup x=some c:=by
 let q:=S2 B.names n [] (.inl h);show Fw.mp q
theorem WM{dC:Heap}{dE:Scope}{dD:List Env}{Z:Cc}{E:XK}(S:AD N ps dE)(hd:A.handled=none)(B:Env0 P w K mg dC A dD s H)(hl:vs.length=ps.length)(r:AF vs us)(x:InCallC s s.heap.objs.size (DT (Ho dH dE s.heap.objs.size f cd).kindOf (ps.zip us) λ_=>none) (NP (s.heap.objs.size+1) dE.names []) (DU (Ho dH dE s.heap.objs.size f cd).kindOf (ps.zip us) λ_=>none) Z) :
  AB (CI CX P w K mg dC N dH dE f cd A dD s H E) [] (start N vs) H Z:=by
 let a0:ps.length<=N.length:=by have:=congrArg Hf S.pre;rw[Ga]at this;lia
 let{h1,tk,rfl,hk}:=x.done;let G:∀b:Addr,b∉(CI CX P w K mg dC N dH dE f cd A dD s H E).ex:=λb z=>D0 (show b∈([]:List Addr)from z) (by simp);show{{B.mod,S.kind,W,W,Jk _,λy z c h1 h2=>?_,λy J=>?_,λy c _ h=>?_,λ_=>hd,Kr.frames_deeper B.frames,.inr {W,W},λb z=>D0 z (G b),B.bs,B.bsz,λb _ _=>G b,λb z=>D0 z (G b),B.funs,B.frf},
  W,B.bare,Un.kept hk,{_,x.toInCall.ns,λi y v h1 h2 h3=>?_},λy c h=>{_,x.cell y c h},B.hok.fresh (Jk _),λy c h=>?_,λp Y=>D0 (show p∈([]:List (Addr×Obj))from Y) (by simp),B.hok.kept hk,?_}
 .show name_of_addr x.apart (Hv h1) (Hv h2)
 .let J:dE.names.lookup y=some .cell\/dE.names.lookup y=some .free:=J;rcases J with J|J
  .show QW J
  .show D0 W (S.nofree _ (Hv J))
 .show Fg (x.above y c (Hv h))
 .let hi:i<vs.length:=by
   unfold start at h2
   by_cases hi:i<vs.length
   .show hi
   .rw[J0 (by simpa using hi)]at h2;rw[RD]at h2
    split at h2<;>cases h2
  let ha:vs[i]?=some v:=by
   unfold start at h2;rw[Jo (by simpa using hi),Gi]at h2;cases e:vs[i]? with
   |none=>rw[e]at h2;cases h2
   |some a=>rw[e]at h2;cases h2;rfl
  let{u,hu,rv}:=r.get ha;let Y:ps[i]?=some y:=by
   rwa[<-S.pre,K2 ()]
  let O:ps.Nodup:=by rw[<-S.pre];show S.nd.sublist (B7 _ _)
  show{u,rv,?_};rcases S.par y (G3 Y)with k|k
  .show .inl {k,bX O Y hu k}
  .let⟨c,e⟩:=QW (n:=s.heap.objs.size+1) k;show .inr {.inl k,c,e,?_};let q:=x.cell y c e;rw[XM O Y hu (by show dE.names.lookup y≠_;rw[k];decide)]at q;show q
 .show B.hok.fresh (Fg (x.above y c (Hv h)))
 .unfold start;show _=N.length;rw[Jc,Ja,List.length_replicate];lia
theorem NU{dC:Heap}{dN:Arguments}{dE:Scope}{dV kV:Ca}(lk:K.lookup f=some {oc,od,.func (DE name dH dN dR dE dV kV doc pm an cdv ct),osl})(a0:EH K cdv dH=true)(S:AD N ps dE)(len:∀vs H Q E,sp vs H Q E->vs.length=ps.length)(hbody:∀(A:Kr)(dD:List Env)(s:Cc)(H:Hp)(vs:List V)(Q:VK)(E:XK),AG k (A.deeper (Ho dH dE s.heap.objs.size f cdv))->sp vs H Q E ->
   ∃t,PSs (CI CX P w K mg dC N dH dE f cdv A dD s H E) dR t/\t {nx:=λ_ H'=>Q .non H',rt:=Q} (start N vs) H) :
  AK P w K mg dC CX (k+1) f (DE name dH dN dR dE dV kV doc pm an cdv ct) ps sp:=by
 show{len,λA dD s H args us vs Q E Z G hb r B=>?_};let hl:=len _ _ _ _ B;let KX:K.In s.heap:=G.mod.kin.keeps λb o e=>(G.bs b o e).1;let Y:s.heap.NoLimit:=G.mod.nolimit.keeps λb o e=>(G.bs b o e).1;let hkind:∀y∈ps.zip us,dE.names.lookup y.1=some .local\/(dE.names.lookup y.1=some .cell/\((NP (s.heap.objs.size+1) dE.names []).lookup y.1).isSome=true):=λ⟨n,v⟩hy=>by
  rcases S.par n (LO hy).1 with q|q
  .show .inl q
  .show .inr {q,S2 _ _ _ (.inl q)}
 show codeAny_call_function Z.depth (KX _ _ lk) rfl S.co S.gen rfl (W.codeRec_of KX a0) (hb _ _ _ _ ?_);show Mt S.kind hkind λenv he s1 x=>?_;subst he;show{Y.keeps x.toInCall.keep,codeAny_func ?_};let{t,ht,hq}:=hbody A dD s H vs Q E (Z.deeper _) B;let I:AB (CI CX P w K mg dC N dH dE f cdv A dD s H E) [] (start N vs) H s1:=WM S Z.hd G hl r x;show BJ (ht [] s1 (start N vs) H _ I hq) (λfl s' hs=>?_) λe s' hs=>hs;let fin:∀{h:St}{H':Hp}{v:V}{u:Ca},AB (CI CX P w K mg dC N dH dE f cdv A dD s H E) [] h H' s'->AJ v u->Q v H'->CE dD P w H s Q u s' :=
  λ{h H' v u}J O q=>{v,H',J.os,J.bare,J.base,J.hok,O,q}
 cases fl with
 |ret u =>
  let{v,h,H',J,O,q}:=hs;show fin J O q
 |next =>
  let{h,H',J,q}:=hs;show fin (v:=V.non) (u:=Ca.none) J rfl q
 |brk =>
  let{_,_,_,q}:=hs;show Cy q
 |cont =>
  let{_,_,_,q}:=hs;show Cy q
section
variable{x:Str}{p:Pos}{e:Expr}{t:TA}{id T:String}{r:List V->Hp->VK->Prop}
def tCB(r:List V->Hp->VK->Prop)(t:TA):TE:=λσ H Q=>t σ H λvs H1=>r vs H1 Q
def Zm(hc:W5 X (.builtin id) r)(hg:Gl X x)(hm:X.mg x=none)(Z:K1 x=some (.builtin id))(ha:PA X (e::es) t)(hn:x≠"__name__":=by decide)(G:(x==("__debug__":Str))=false:=by decide)(he:Cr (e::es) X.env=(false,eval e X.env)::Cr es X.env:=by rfl)(B:(Ks dF (Cr es X.env)).any (·.1)=false:=by rfl):PE X (.Call (.Name x p) (e::es) [] dF) (tCB r t):=by
 intro pq s σ H Q I h;show Ee (Nq I hg hm Z ?_ hn G);show oC (AS (ha dF pq s σ H _ I h) λus J⟨vs,H1,I1,O,Y⟩=>hc pq J σ H1 vs us Q I1 O Y) he B
def Xe(hc:W5 X (.type T) r)(hg:Gl X x)(hm:X.mg x=none)(Z:K1 x=some (.type T))(ha:PA X (e::es) t)(hn:x≠"__name__":=by decide)(G:(x==("__debug__":Str))=false:=by decide)(he:Cr (e::es) X.env=(false,eval e X.env)::Cr es X.env:=by rfl)(B:(Ks dF (Cr es X.env)).any (·.1)=false:=by rfl):PE X (.Call (.Name x p) (e::es) [] dF) (tCB r t):=by
 intro pq s σ H Q I h;show Ee (Nq I hg hm Z ?_ hn G);show Ml (AS (ha dF pq s σ H _ I h) λus J⟨vs,H1,I1,O,Y⟩=>hc pq J σ H1 vs us Q I1 O Y) he B
end
end L2
variable{H I H' I':L2.Hp}{X:L2.Cx}{σ:L2.St}{vs ys:List L2.V}{Q:L2.VK}{y:L2.V}{te ta tb to ti:L2.TE}{kvs:List (List L2.AI×L2.V)}{wi:L2.TI}{CX:L2.CXT}{sp':L2.Sp}
namespace HT
open PySem PyProof.Rows
def lexLt:List Int->List Int->Bool
 |[],[]=>false
 |[],_::_=>true
 |_::_,[]=>false
 |x::xs,y::ys=>if x=y then lexLt xs ys else decide (x<y)
def lexLt_cons(x y:Int)(xs ys:List Int):lexLt (x::xs) (y::ys)=if x=y then lexLt xs ys else decide (x<y):=rfl
def zQ:lexLt [] []=false:=rfl
def Tm(y:Int)(ys:List Int):lexLt [] (y::ys)=true:=rfl
def Vd(x:Int)(xs:List Int):lexLt (x::xs) []=false:=rfl
section
def cat_tup{t b:Addr}{vs ws:List Ca}{Q:Ca->Cc->Prop}(ht:IsTup s.heap t vs.toArray)(hb:IsTup s.heap b ws.toArray)(hv:vs≠[])(h1:ws=[]->Q (.ref t) s)(h2:ws≠[]->Q (.ref s.heap.objs.size) {s with heap:=s.heap.push {cls:=.type "tuple",data:=.seq (vs++ws).toArray} })(hsz:vs.length+ws.length<=Cb):Cg (Cj prog w) A (Hs .Add (.ref t) (.ref b)) Q E s:=by
 let{{cls,dd,data,sl},Y,hc,n,hd}:=id ht;let{{a0,O,data2,B},h,J,Z,G}:=id hb;simp only at hc hd J G;subst hc hd J G;let e:vs.toArray++ws.toArray=(vs++ws).toArray:=by simp
 by_cases hw:ws=[]
 .show concat_meets {_,Y,W} {_,h,W} OM seq_tuple_add Lj K9 (K4 _ _)
   (tuple_addW1 t b vs.toArray ws.toArray n Z dd O sl B (by simpa using hv) (by simp[hw])) {Y,h,h1 hw}
 .show concat_meets {_,Y,W} {_,h,W} OM seq_tuple_add Lj K9 (K4 _ _)
   (tuple_addW2 t b vs.toArray ws.toArray n Z dd O sl B (by simpa using hv) (by simpa using hw) (by rwa[Jp,Jp])) {Y,h,?_}
  rw[e];show h2 hw
def sIx(n d:Nat):Option Int->Nat
 |none=>d
 |some v=>if v<0 then(v+(n:Int)).toNat else min v.toNat n
theorem sIx_nat(n d k:Nat):sIx n d (some (k:Int))=min k n:=by
 show(if(k:Int)<0 then((k:Int)+(n:Int)).toNat else min (k:Int).toNat n)=min k n;rw[D8 (),G6]
theorem tS(n d:Nat)(hd:d<=n)(o:Option Int):sIx n d o<=n:=by
 cases o with
 |none=>show hd
 |some v =>
  show(if v<0 then(v+(n:Int)).toNat else min v.toNat n)<=n
  by_cases hv:v<0
  .rw[D9 hv];lia
  .rw[D8 hv];show Nat.min_le_right _ _
theorem PB(v:Int)(n d:Nat):(if v<0 then max (v+(n:Int)) 0 else min v (n:Int))=((sIx n d (some v):Nat):Int):=by
 show(if v<0 then max (v+(n:Int)) 0 else min v (n:Int))=(((if v<0 then(v+(n:Int)).toNat else min v.toNat n):Nat):Int)
 by_cases hv:v<0
 .simp only[D9 hv];lia
 .simp only[D8 hv];lia
theorem fV(lo hi:Option Int)(n:Nat):Ky lo hi 1 (n:Int)=(((sIx n 0 lo:Nat):Int),((sIx n n hi:Nat):Int)):=by
 let h1:¬ ((1:Int)<0):=by lia
 unfold Ky;simp only[h1,if_false];show Prod.ext ?_ ?_
 .cases lo with
  |none=>rfl
  |some v=>show PB v n 0
 .cases hi with
  |none=>rfl
  |some v=>show PB v n n
theorem xJ(i j:Nat):Hg (i:Int) (j:Int) 1=j-i:=by
 unfold Hg;let h1:(1:Int) > 0:=by lia
 simp only[h1,if_true,Int.ediv_one]
 split<;>lia
theorem Nf{Q:Option Int->Cc->Prop}(p:DM v o)(h:Q o s):Cg (Cj prog w) A (sN v) Q E s:=by
 cases p with
 |none=>show slicePart_none h
 |int i t=>show slicePart_int h
def sliceApplied_gen{n:Nat}{Q:Int×Int×Nat->Cc->Prop}(hs:s.heap.IsSliceOf sl vl vu .none)(pl:DM vl lo)(J:DM vu hi)(h:Q (((sIx n 0 lo:Nat):Int),1,sIx n n hi-sIx n 0 lo) s):Cg (Cj prog w) A (Mu (.ref sl) (pure (n:Int))) Q E s:=by
 let{os,B,O,G}:=id hs;unfold Mu zD;show D3 (D3 (Lq B G (x:=vl) W (D3 (Lq B G (x:=vu) W (D3 (Lq B G (x:=.none) W (D4 ?_)))))));show D3 (slicePart_none ?_);show Cg _ _ (if((1:Int)==0)=true then _ else _) _ _ s;rw[D8 nofun];show D3 (Nf pl (D3 (Nf J (D3 (D4 ?_)))));show Cg _ _ (match Ky lo hi 1 (n:Int)with|(lo,hi)=>pure (lo,(1:Int),Hg lo hi 1)) _ _ s;rw[fV lo hi n];show Cg _ _ (pure (((sIx n 0 lo:Nat):Int),(1:Int),Hg ((sIx n 0 lo:Nat):Int) ((sIx n n hi:Nat):Int) 1)) _ _ s
 rw[xJ];show D4 h
theorem gA(xs:Array Ca)(i k:Nat):((C2 k).filterMap λ(m:Nat)=>xs[((i:Int)+(m:Int)*1).toNat]?).toArray=((xs.toList.drop i).take k).toArray:=by
 let e:(λ(m:Nat)=>xs[((i:Int)+(m:Int)*1).toNat]?)=λm=>xs[i+m]?:=by
  funext m
  let:((i:Int)+(m:Int)*1).toNat=i+m:=by lia
  rw[this]
 rw[e];let:=pick_run xs i k;rw[List.filterMap_map]at this;let e2:((λx=>xs[x]?) ∘ λx=>i+x)=λm=>xs[i+m]?:=rfl;rw[e2]at this;rw[this]
theorem getItem_tuple_cut{t sl:Addr}{B:Array Ca}{Q:Ca->Cc->Prop}(G:IsTup s.heap t B)(hs:s.heap.IsSliceOf sl vl vu .none)(pl:DM vl lo)(pu:DM vu hi)(hw:¬ (sIx B.size 0 lo=0/\sIx B.size B.size hi=B.size))(h:Q (.ref s.heap.objs.size) {s with heap:=s.heap.push {cls:=.type "tuple",data:=.seq ((B.toList.drop (sIx B.size 0 lo)).take (sIx B.size B.size hi-sIx B.size 0 lo)).toArray} })(hsz:B.size<=Cb):Cg (Cj prog w) A (L6 (.ref t) (.ref sl)) Q E s:=by
 let htake:sizeOk (.seq ((B.toList.drop (sIx B.size 0 lo)).take (sIx B.size B.size hi-sIx B.size 0 lo)).toArray):=by
  show((B.toList.drop (sIx B.size 0 lo)).take (sIx B.size B.size hi-sIx B.size 0 lo)).toArray.size<=Cb;rw[Jp,Ga,Gf,Jl];lia
 let hj:sIx B.size B.size hi<=B.size:=tS _ _ (Jk _) hi;let{os,J,Y,a0}:=id hs;let Z:s.TypeIs (.ref sl) "slice":={os,J,Y};unfold L6
 try with_reducible show Cz ?_
 first|show D3 (D4 ?_)|skip
 show D3 (SG G.typeIs nofun ?_);show D3 (Hw (name:=E7 "__getitem__") G.typeIs Eb
  (Ea Eb G.typeIs bB ?_ (aR _ _)))
 show Cg _ _ (Kt (.ref t) >>= _) _ _ s;show D3 (tupleItemsOf_ G ?_);show D3 (K5 Z ?_);rw[D9 nofun];show D3 (sliceApplied_gen hs pl pu ?_);let O:¬ ((((sIx B.size 0 lo:Nat):Int)==0&&(1:Int)==1&&(sIx B.size B.size hi-sIx B.size 0 lo)==B.size)=true):=by
  intro q;rw[B2,B2]at q;let q1:((sIx B.size 0 lo:Nat):Int)=0:=eq_of_beq q.1.1;let q2:sIx B.size B.size hi-sIx B.size 0 lo=B.size:=eq_of_beq q.2;show hw {(),()}
 show Cg _ _ (if(((sIx B.size 0 lo:Nat):Int)==0&&(1:Int)==1&&(sIx B.size B.size hi-sIx B.size 0 lo)==B.size)=true then _ else _) _ _ s;rw[D8 O,gA]
 first
  |show D3 (m:=Hk _) (Ei (D4 {_,W,D4 h}) htake)
  |show D3 (m:=Hk _) (Ei (D3 (D4 (D4 {_,W,D4 h}))) htake)
  |show D3 (D3 (m:=Hk _) (Ei (D4 (D4 {_,W,D4 h})) htake))
  |show D3 (D3 (m:=Hk _) (Ei (D4 {_,W,D4 h}) htake))
end
end HT
namespace L2
open PySem PySem.Spec PyProof.Rows
abbrev TO:=St->Hp->(Option Int->Hp->Prop)->Prop
def PO(X:Cx)(e:Option Expr)(t:TO):Prop :=
 ∀(pq:List (Addr×Obj))(s:Cc)(σ:St)(H:Hp)(Q:Option Int->Hp->Prop),AB X pq σ H s->t σ H Q ->
  Cg (Cj X.prog X.w) X.A (evalPart e X.env) (λu s'=>∃o H',AB X pq σ H' s'/\DM u o/\Q o H') X.xe s
def cK:TO:=λ_ H Q=>Q none H
def SH(t:TE):TO:=λσ H Q=>t σ H λx H1=>∃i,x=.int i/\Q (some i) H1
section
variable{e:Expr}{lo hi:Option Expr}{tl th:TO}{p2:Pos}
def Xa:PO X none cK:=by
 intro pq s σ H Q I h;rw[LZ];show D4 {none,H,I,.none,h}
def Yr(h:PE X e te):PO X (some e) (SH te):=by
 intro pq s σ H Q I hw;rw[evalPart_some];show AS (h pq s σ H _ I hw) λu O hz=>?_;let{x,H1,J,B,G}:=hz;let{i,rfl,q}:=G;let{t,rfl}:=B;show{some i,H1,J,.int i t,q}
def SlR(X:Cx)(r:V->Option Int->Option Int->Hp->VK->Prop):Prop :=
 ∀(pq:List (Addr×Obj))(s:Cc)(σ:St)(H:Hp)(x:V)(v B h:Ca)(lo hi:Option Int)(sl:Addr)(Q:VK),AB X pq σ H s->AJ x v->s.heap.IsSliceOf sl B h .none->DM B lo->DM h hi->r x lo hi H Q ->
  ∃T id,FG (.type T) "__getitem__"=pure (some (.builtin id))/\s.TypeIs v T/\Cg (Cj X.prog X.w) X.A (L6 v (.ref sl)) (EP X pq σ Q) X.xe s
def tSl(r:V->Option Int->Option Int->Hp->VK->Prop)(te:TE)(tl th:TO):TE:=λσ H Q=>te σ H λx H1=>tl σ H1 λl B=>th σ B λu h=>r x l u h Q
def Yn{r:V->Option Int->Option Int->Hp->VK->Prop}(hr:SlR X r)(he:PE X e te)(hl:PO X lo tl)(hu:PO X hi th):PE X (.Subscript e (.Slice lo hi none p2) dF) (tSl r te tl th):=by
 intro pq s σ H Q I h;show HJ (AS (he pq s σ H _ I h) λv Z hz=>?_);let{x,H1,I1,r1,q1}:=hz;show wpAny_Slice (AS (hl pq Z σ H1 _ I1 q1) λJ Y⟨l,H2,I2,pl,q2⟩=>AS (hu pq Y σ H2 _ I2 q2) λG B hz=>?_);let{u,O,I3,pu,q3}:=hz;rw[LZ];show D4 ?_;let I4:AB X pq σ O {B with heap:=B.heap.push {cls:=.type "slice",data:=.fields #[J,G,.none]} }:=I3.kept (t':=B.toks) λb ob q=>D5 _ q;let{T,id,hT,ht,hg}:=hr pq {B with heap:=B.heap.push {cls:=.type "slice",data:=.fields #[J,G,.none]} } σ O x v J G l u B.heap.objs.size Q I4 r1 (VP ..) pl pu q3
 show Cg (Cj X.prog X.w) X.A (I8 e (.Slice lo hi none p2) v (.ref B.heap.objs.size)) (EP X pq σ Q) X.xe {B with heap:=B.heap.push {cls:=.type "slice",data:=.fields #[J,G,.none]} };show tail_any (ops:=[.ref B.heap.objs.size,v]) ht hT hg (by with_unfolding_all rfl)
def CF(xs:List V)(lo hi:Option Int):List V:=(xs.drop (HT.sIx xs.length 0 lo)).take (HT.sIx xs.length xs.length hi-HT.sIx xs.length 0 lo)
theorem Pu(xs:List V)(lo hi:Option Int):(CF xs lo hi).length<=xs.length:=by
 unfold CF;rw[Ga,Gf];lia
def LW(K:Cq):R2:=λx y H Q=>∃a b xs ys,x=.ref a/\y=.ref b/\A2 K H a xs/\A2 K H b ys/\xs≠[]/\xs.length+ys.length<=Cb /\
 (ys=[]->Q (.ref a) H)/\(ys≠[]->∀p,H p=none->Q (.ref p) (upd H p (.tup (xs++ys))))
theorem AF.nil_iff(r:AF xs us):us=[]↔xs=[]:=by
 cases r with
 |nil=>simp
 |cons _ _=>simp
def ZL:Ay X (Hs .Add) (LW X.K):=by
 intro pq s σ H x y v u Q I Y O h;let{a,b,xs,ys,rfl,rfl,ha,hb,hx,hz,q1,Z}:=h;cases Y;cases O;let{its,G,p1,_}:=I.tuple ha;let{J,B,p2,_}:=I.tuple hb;show HT.cat_tup p1 p2 (λz=>hx (G.nil_iff.mp z)) (λz=>{.ref a,H,I,W,q1 (B.nil_iff.mp z)}) (λz=>?_) (by rwa[<-G.length,<-B.length]);show{.ref s.heap.objs.size,_,I.laid (t':=s.toks) (o:=.tup (xs++ys)) (λb ob q=>D5 _ q) (Jk _) ?_,W,Z (λw=>z (B.nil_iff.mpr w)) _ (I.hok.fresh (Jk _))};exists by rwa[Jc],_,G.append B,Tp.new _ _
end
def ixN(n:Nat)(i:Int):Option Nat:=if 0<=i then(if i<n then some i.toNat else none)else if -(n:Int)<=i then some (i+n).toNat else none
def atI{α:Type}(xs:List α)(i:Int):Option α:=(ixN xs.length i).bind λj=>xs[j]?
theorem TJ(h:ixN n i=some j):seqIndex? i n=some j/\j<n/\-(n:Int)<=i/\i<n:=by
 unfold ixN at h
 by_cases h0:0<=i
 .rw[D9 h0]at h
  by_cases h1:i<n
  .rw[D9 h1]at h;let e:i.toNat=j:=BG h;exists by rw[KR h0 h1,e],(),(),h1
  .rw[D8 h1]at h;cases h
 .rw[D8 h0]at h
  by_cases h1:-(n:Int)<=i
  .rw[D9 h1]at h;let e:(i+n).toNat=j:=BG h;show{by rw[NN () h1,e],(),h1,()}
  .rw[D8 h1]at h;cases h
theorem LG{α:Type}{xs:List α}{i:Int}{v:α}(h:atI xs i=some v):∃j,seqIndex? i xs.length=some j/\xs[j]?=some v/\j<xs.length/\-(xs.length:Int)<=i/\i<xs.length:=by
 unfold atI at h;cases e:ixN xs.length i with
 |none=>rw[e]at h;cases h
 |some j =>
  rw[e]at h;let{h1,h2,h3,h4}:=TJ e;show{j,h1,h,h2,h3,h4}
theorem IS{α:Type}{xs:List α}{v:α}(h:xs[j]?=some v):atI xs (j:Int)=some v:=by
 let B:j<xs.length:=(Jd.mp h).1;let e:ixN xs.length (j:Int)=some j:=by
  unfold ixN;rw[D9 (),D9 ()];simp
 unfold atI;rwa[e]
def oM(b:Expr):Prop:=∀o i,GK b false o i=HH [o,i] (L6 o i)
def IxR(X:Cx)(r:R2):Prop :=
 ∀(value slice:Expr)(pq:List (Addr×Obj))(s:Cc)(σ:St)(H:Hp)(x y:V)(v u:Ca)(Q:VK),AB X pq σ H s->AJ x v->AJ y u->r x y H Q ->
  GK slice false v u=HH [v,u] (L6 v u)->Cg (Cj X.prog X.w) X.A (I8 value slice v u) (EP X pq σ Q) X.xe s
def MtR(X:Cx)(id:String)(r:V->List V->Hp->VK->Prop):Prop :=
 ∀(pq:List (Addr×Obj))(s:Cc)(σ:St)(H:Hp)(x:V)(xs:List V)(v:Ca)(us:List Ca)(Q:VK),AB X pq σ H s->AJ x v->AF xs us->r x xs H Q ->
  Cg (Cj X.prog X.w) X.A (call (.builtin id) (v::us)) (EP X pq σ Q) X.xe s
section
variable{a b:Expr} 
def IxR.or{r J:R2}(h:IxR X r)(h':IxR X J):IxR X (λx y H Q=>r x y H Q\/J x y H Q):=by
 intro value slice pq s σ H x y v u Q I G B q hs;rcases q with q|q
 .show h value slice pq s σ H x y v u Q I G B q hs
 .show h' value slice pq s σ H x y v u Q I G B q hs
def Z4{r:R2}(O:IxR X r)(Z:PE X a ta)(Y:PE X b tb)(hs:oM b):PE X (.Subscript a b dF) (tOp r ta tb):=by
 intro pq s σ H Q I h;show HJ (binT Z Y I h λv u B x y H2 I2 J G q=>O a b pq B σ H2 x y v u Q I2 J G q (hs _ _))
def rIxL(K:Cq):R2:=λx y H Q=>∃p xs i v,x=.ref p/\y=.int i/\Ad K H p xs/\atI xs i=some v/\Q v H
def rIxT(K:Cq):R2:=λx y H Q=>∃p xs i v,x=.ref p/\y=.int i/\A2 K H p xs/\atI xs i=some v/\Q v H
def rIxS:R2:=λx y H Q=>∃z i c,x=.str z/\y=.int i/\z.length<=Cb/\atI z.cps.toList i=some c/\Q (.str {#[c]}) H
theorem Zr7:IxR X (rIxL X.K):=by
 intro value slice pq s σ H x y v u Q I Y O h hs;let{p,xs,i,z,rfl,rfl,Z,he,q}:=h;cases Y;let{t,rfl}:=O;let{its,r,pl,hz}:=I.list Z;let{j,h1,h2,h3,h4,h5}:=LG he;let{w,J,B}:=r.get h2;let hl:=r.length;let hn:=Nn;let fin:EP X pq σ Q w s:={z,H,I,B,q}
 by_cases h0:0<=i
 .let G:i.toNat=j:=by
   rw[KR h0 h5]at h1;show BG h1
  show item_listR pl.isList h0 () (by rw[G];simpa using J) fin hs
 .let G:(i+(its.toArray.size:Int)).toNat=j:=by
   rw[NN () h4]at h1;rw[Jp,<-hl];show BG h1
  show ZO (x:=w) pl.isList.typeIs slot_list_getitem.lookup
   (wpAny_getItem_list_neg (Q:=λr s'=>r=w/\EP X pq σ Q r s') pl.isList () (by rw[Jp]<;>lia) () (by rw[G];simpa using J) {W,fin}) hs
theorem Zo3:IxR X (rIxT X.K):=by
 intro value slice pq s σ H x y v u Q I J G h hs;let{p,xs,i,z,rfl,rfl,O,Y,q}:=h;cases J;let{t,rfl}:=G;let{its,r,pl,hz}:=I.tuple O;let{j,h1,h2,h3,h4,h5}:=LG Y;let{w,Z,B}:=r.get h2;let hl:=r.length;let hn:=Nn;let fin:EP X pq σ Q w s:={z,H,I,B,q};show ZO (x:=w) pl.typeIs slot_tuple_getitem.lookup
  (getItem_tuple (j:=j) (Q:=λr s'=>r=w/\EP X pq σ Q r s') pl () () (by rwa[Jp,<-hl]) (by simpa using Z) {W,fin}) hs
theorem Zv6:IxR X rIxS:=by
 intro value slice pq s σ H x y v u Q I G B h hs;let{z,i,c,rfl,rfl,hz,J,q}:=h;let{t,rfl}:=G;let{t',rfl}:=B;let{j,h1,h2,h3,h4,h5}:=LG J;let hl:z.cps.toList.length=z.length:=by simp[Str.length]
 rw[hl]at h1 h4 h5;let hn:=Nn;show tail_any (OL s z t) slot_str_getitem.lookup (getItem_str (c:=c) (by
  let e1:decide (i < -(2 ^ 63:Int))=false:=BB ();let e2:decide (i≥2 ^ 63)=false:=BB ();rw[e1,e2,Bool.or_false]) (by rw[h1];simpa using h2) {.str {#[c]},H,I.tok _,{_,W},q}) hs
def rIx(K:Cq):R2:=λx y H Q=>rIxL K x y H Q\/rIxT K x y H Q\/rIxS x y H Q
def Zv7:IxR X (rIx X.K):=Zr7.or (Zo3.or Zv6)
def qI(its:List Ca)(n j:Nat)(u:Ca):Cu (·.setIfInBounds j u) {cls:=.type "list",data:=.seq its.toArray n}={cls:=.type "list",data:=.seq (its.set j u).toArray n}:=by
 simp[Cu]
def AB.lst(I:AB X pq σ H s)(h:H p=some (.lst xs)) :
  ∃(its:List Ca)(n:Nat),AF xs its/\s.heap.get? p=some {cls:=.type "list",data:=.seq its.toArray n}/\xs.length<=Cb:=by
 let{z,its,n,r,e}:=I.hok p _ h;show{its,n,r,e,z}
def AB.lstUpd{p:Addr}{xs:List V}{its':List Ca}{n B:Nat}{f:Obj->Obj}(I:AB X pq σ H s)(h:H p=some (.lst xs))(J:s.heap.get? p=some {cls:=.type "list",data:=.seq its.toArray n})(G:f {cls:=.type "list",data:=.seq its.toArray n}={cls:=.type "list",data:=.seq its'.toArray B})(r:AF ys its')(hz:ys.length<=Cb)(t:Nat) :
  AB X pq σ (upd H p (.lst ys)) {s with heap:=s.heap.update p f,toks:=t}:=by
 let e:(s.heap.update p f).get? p=some {cls:=.type "list",data:=.seq its'.toArray B}:=by
  rw[Ew f J (by rw[G]<;>rfl),G]
 show I.write (x:=p) (e:=p) (by rw[h];trivial) (.inl W) (λb u O q=>(Cv _ _ (Et O)).trans q) {_,e} ?_;show{hz,its',B,r,e}
def KN:V->V->V->Hp->(Hp->Prop)->Prop:=λo i v H Q=>∃p xs k j,o=.ref p/\i=.int k/\H p=some (.lst xs)/\ixN xs.length k=some j/\Q (upd H p (.lst (xs.set j v)))
theorem Sm:PSet X KN:=by
 intro pq s σ H o i v ov iv u Q I Y Z O h;let{p,xs,k,j,rfl,rfl,J,hj,q}:=h;cases Y;let{t,rfl}:=Z;let{its,n,r,B,hz}:=I.lst J;let{h1,h2,h3,h4}:=TJ hj;let hl:=r.length;let hn:=Nn;let I':AB X pq σ (upd H p (.lst (xs.set j v))) {s with heap:=s.heap.update p (Cu (·.setIfInBounds j u))} :=
  I.lstUpd J B (qI its n j u) (r.set O j) (by rw[Gz];show hz) s.toks
 by_cases h0:0<=k
 .let G:k.toNat=j:=by
   rw[KR h0 h4]at h1;show BG h1
  show W.ki_setAt B h0 () (by rw[Jp,<-hl];show h4) (by rw[G];show{_,I',q})
 .let G:(k+(its.toArray.size:Int)).toNat=j:=by
   rw[NN () h3]at h1;rw[Jp,<-hl];show BG h1
  show W.ki_setBack B () (by rw[Jp,<-hl];show h3) () (by rw[G];show{_,I',q})
theorem pG(lo hi:Option Int)(n:Nat):(Lr lo hi none n).1=((HT.sIx n 0 lo:Nat):Int)/\(Lr lo hi none n).2.1=((HT.sIx n n hi:Nat):Int)/\(Lr lo hi none n).2.2=1:=by
 show{?_,?_,W}
 .cases lo with
  |none=>simp[Lr,HT.sIx]
  |some i =>
   simp only[Lr,HT.sIx,TF,show(1:Int) > 0 by decide,if_true]
   by_cases h:i<0
   .simp only[h,if_true]<;>lia
   .simp only[h,if_false]<;>lia
 .cases hi with
  |none=>simp[Lr,HT.sIx]
  |some i =>
   simp only[Lr,HT.sIx,TF,show(1:Int) > 0 by decide,if_true]
   by_cases h:i<0
   .simp only[h,if_true]<;>lia
   .simp only[h,if_false]<;>lia
def N8(its:List Ca)(lo hi:Option Int):slicePick its.toArray lo hi none=((its.drop (HT.sIx its.length 0 lo)).take (HT.sIx its.length its.length hi-HT.sIx its.length 0 lo)).toArray:=by
 let{h1,h2,h3}:=pG lo hi its.toArray.size;unfold slicePick;rw[h1,h2,h3];simp only[sliceRange_one,pick_run,Jp]<;>rfl
def rSlL(K:Cq):V->Option Int->Option Int->Hp->VK->Prop:=λx lo hi H Q=>∃a xs,x=.ref a/\Ad K H a xs/\∀p,H p=none->Q (.ref p) (upd H p (.lst (CF xs lo hi)))
theorem mL:SlR X (rSlL X.K):=by
 intro pq s σ H x v Z Y lo hi sl Q I J hs pl O h;let{a,xs,rfl,hx,q}:=h;cases J;let{its,r,G,hz}:=I.list hx;let B:=r.length;show{"list",_,slot_list_getitem.lookup,G.isList.typeIs,?_};show aQ G.isList hs pl O .none (by simp) ?_ (by rw[Jp]<;>lia);rw[N8,<-B];show{.ref s.heap.objs.size,_,I.laid (t':=s.toks) (o:=.lst (CF xs lo hi)) (λb ob q=>D5 _ q) (Jk _) ?_,W,q _ (I.hok.fresh (Jk _))};show{Js (Pu xs lo hi) hz,_,0,(r.drop (HT.sIx xs.length 0 lo)).take (HT.sIx xs.length xs.length hi-HT.sIx xs.length 0 lo),D6 _ W}
theorem jL:W5 X (.type "list") (λxs H Q=>∃p ys,xs=[.ref p]/\(Ad X.K H p ys\/A2 X.K H p ys)/\∀l,H l=none->Q (.ref l) (upd H l (.lst ys))):=by
 intro pq s σ H xs us Q I r h;let{p,ys,rfl,O,q}:=h;let{u,rfl,rx}:=P3 r;cases rx;let fin:∀(its:List Ca),AF ys its->ys.length<=Cb->∀(h':Heap)(G:Nat),(∀b o',s.heap.get? b=some o'->h'.get? b=some o') ->
   h'.get? s.heap.objs.size=some {cls:=.type "list",dict:=none,data:=.seq its.toArray G,slots:=#[]}->EP X pq σ Q (.ref s.heap.objs.size) {s with heap:=h'}:=λits B hz h' G J e =>
  {.ref s.heap.objs.size,_,I.laid (t':=s.toks) J (Jk _) (show Y9 X.prog X.w _ h' _ (.lst ys)from{hz,its,G,B,e}),W,q _ (I.hok.fresh (Jk _))}
 rcases O with O|O
 .let⟨its,B,pl,hz⟩:=I.list O;let Y:=B.length;let{o,Z,hc,n,hd}:=pl.isList;show call_list_seq p (.inl W) Z hc hd (λh' G J e=>fin its B hz h' G J e) (by simp only[Jp]<;>lia)
 .let⟨its,B,pl,hz⟩:=I.tuple O;let Y:=B.length;let{o,Z,hc,n,hd}:=pl;show call_list_seq p (.inr W) Z hc hd (λh' G J e=>fin its B hz h' G J e) (by simp only[Jp]<;>lia)
theorem S8:W5 X (.type "tuple") (λxs H Q=>∃p ys,xs=[.ref p]/\((Ad X.K H p ys/\∀l,H l=none->Q (.ref l) (upd H l (.tup ys)))\/(A2 X.K H p ys/\Q (.ref p) H))):=by
 intro pq s σ H xs us Q I r h;let{p,ys,rfl,h}:=h;let{u,rfl,Y}:=P3 r;cases Y;rcases h with⟨G,q⟩|⟨G,q⟩
 .let⟨its,B,pl,hz⟩:=I.list G;let J:=B.length;show call_tuple_list pl.isList (λh' Z=>?_) (by simp only[Jp]<;>lia);let O:AB X pq σ H {s with heap:=h'}:=I.kept (t':=s.toks) Z;let I2:AB X pq σ (upd H h'.objs.size (.tup ys)) {s with heap:=h'.push {cls:=.type "tuple",data:=.seq its.toArray} } :=
   O.laid (t':=s.toks) (λb o e=>D5 _ e) (Jk _) (show Y9 X.prog X.w _ _ _ (.tup ys)from{hz,its,B,Tp.new _ _})
  show{.ref h'.objs.size,_,I2,W,q _ (O.hok.fresh (Jk _))}
 .let⟨its,B,pl,hz⟩:=I.tuple G;show call_tuple_same pl {.ref p,H,I,W,q}
def tyV(K:Cq)(T:String)(x:V)(H:Hp):Prop:=match x with
 |.str _=>T="str"
 |.int _=>T="int"
 |.ref p=>(T="list"/\∃xs,Ad K H p xs)\/(T="tuple"/\∃o,K.lookup p=some o/\o.cls=.type "tuple"/\o.dict=none) \/
   (T="dict"/\((∃kvs,H p=some (.dK kvs))\/∃kvs,H p=some (.dT kvs)))\/(T="set"/\∃S n,H p=some (.set S n))
 |_=>False
theorem SD{T:String}(I:AB X pq σ H s)(r:AJ x v)(ty:tyV X.K T x H) :
  s.TypeIs v T/\∀a,v=.ref a->∃B,s.heap.get? a=some B/\B.dict=none:=by
 cases x with
 |str z =>
  let{t,rfl}:=r;cases(show T="str" from ty);exists OL s z t,λ_ e=>nomatch e
 |int i =>
  let{t,rfl}:=r;cases(show T="int" from ty);exists JU s i t,λ_ e=>nomatch e
 |ref p =>
  cases r;rcases ty with⟨rfl,xs,G⟩|⟨rfl,o,h,J,hd⟩|⟨rfl,h⟩|⟨rfl,S,n,h⟩
  .let⟨its,_,pl,_⟩:=I.list G;exists pl.isList.typeIs,λa e=>?_;cases e;let{o,n,e,c,hd,_}:=pl;show{o,e,hd}
  .exists{o,I.kIn p o h,J},λa e=>?_;cases e;show{o,I.kIn _ o h,hd}
  .let z:∃o,s.heap.get? p=some o/\o.ExactDict:=by
    rcases h with⟨kvs,h⟩|⟨kvs,h⟩
    .let⟨_,_,_,_,o,_,_,e,ex,_⟩:=I.hok p _ h;show{o,e,ex}
    .let⟨_,_,_,_,o,_,_,e,ex,_⟩:=I.hok p _ h;show{o,e,ex}
   let{o,e,ex}:=z;exists{o,e,ex.1},λa e2=>?_;cases e2;show{o,e,ex.2.1}
  .let⟨o,_,_,_,e,ex,_⟩:=I.hok p _ h;exists{o,e,ex.1},λa e2=>?_;cases e2;show{o,e,ex.2.1}
 |_=>show Cy ty
def tBM0(K:Cq)(T:String)(r:V->List V->Hp->VK->Prop)(to:TE):TE:=λσ H Q=>to σ H λx H1=>tyV K T x H1/\r x [] H1 Q
def tBM(K:Cq)(T:String)(r:V->List V->Hp->VK->Prop)(to:TE)(t:TA):TE:=λσ H Q=>to σ H λx H1=>tyV K T x H1/\t σ H1 λxs h=>r x xs h Q
variable{o e:Expr}{t:TA}{T id:String}{r:V->List V->Hp->VK->Prop}
def O3(Z:PlainAttrs T)(slot:Slot T name id)(B:typeOf (.builtin id)=pure (.type "method_descriptor"))(hm:MtR X id r)(ho:PE X o to)(dS:Ht o name X.env (eval o X.env)=eval o X.env:=by rfl)(hline:(eA.endLine==dY.line)=true:=by rfl):PE X (.Call (.Attribute o name eA) [] [] dY) (tBM0 X.K T r to):=by
 intro pq s σ H Q I h;show wpAny_Call_method0_late dS hline (AS (ho pq s σ H _ I h) λv O hz=>?_);let{x,H1,J,G,ty,Y}:=hz;let{h1,h2}:=SD J G ty;show{T,id,Z,slot,B,h1,h2,Kb W (PySem.evalArgs_none (hm pq O σ H1 x [] v [] Q J G .nil Y))}
def P6(pa:PlainAttrs T)(slot:Slot T name id)(G:typeOf (.builtin id)=pure (.type "method_descriptor"))(hm:MtR X id r)(ho:PE X o to)(ha:PA X (e::es) t)(dS:Ht o name X.env (eval o X.env)=eval o X.env:=by rfl)(B:((Ks dY (Cr (e::es) X.env)).all (λx=>!x.1)&&(Mz dY (Kh [] X.env)).all (λx=>x.1.isSome)
   && decide ((e::es).length+([]:List DZ).length+(if([]:List DZ).isEmpty then 0 else 1)<30))=true:=by rfl)(hline:(eA.endLine==dY.line)=true:=by rfl)(hs:Cr (e::es) X.env=(false,eval e X.env)::Cr es X.env:=by rfl)(hplain:(Ks dY (Cr es X.env)).any (·.1)=false:=by rfl) :
  PE X (.Call (.Attribute o name eA) (e::es) [] dY) (tBM X.K T r to t):=by
 intro pq s σ H Q I h;show wpAny_Call_method_late dS B hline W (AS (ho pq s σ H _ I h) λv s1 hz=>?_);let{x,H1,Y,J,ty,q1}:=hz;let{h1,h2}:=SD Y J ty;show{T,id,pa,slot,G,h1,h2,?_};let O:=ha dY pq s1 σ H1 _ Y q1;rw[hs]at O⊢;show Kb (by show(false ||(Ks dY (Cr es X.env)).any (·.1))=false;rw[hplain]<;>rfl) (Ma ?_);show AS O λus Z⟨vs,H2,I2,r2,q2⟩=>hm pq Z σ H2 x vs v us Q I2 J r2 q2
end
def MtM(X:Cx)(id:String)(r:V->List V->Hp->VK->Prop):Prop :=
 ∀(pq:List (Addr×Obj))(s:Cc)(σ:St)(H:Hp)(x:V)(xs:List V)(v:Ca)(us:List Ca)(Q:VK),AB X pq σ H s->AJ x v->AF xs us->r x xs H Q ->
  Cg (Cj X.prog X.w) X.A (call (.builtin id) (v::us)) (EP X pq σ Q) X.xe s
theorem AF.one:∀{x:V}{us:List Ca},AF [x] us->∃u,us=[u]/\AJ x u
 |_,_,.cons r .nil=>{_,W,r}
theorem AF.zero:∀{us:List Ca},AF [] us->us=[]:=by
 intro _ h;cases h with
 |nil=>
  show W
theorem AF.dropLast(h:AF xs us):AF xs.dropLast us.dropLast:=by
 induction h with
 |nil=>show .nil
 |cons r t B =>
  cases t with
  |nil=>show .nil
  |cons q t'=>show .cons r B
theorem AF.rep(h:AF xs us):∀k:Nat,AF (Co k xs).flatten (Co k us).flatten
 |0=>.nil
 |k+1=>by
  rw[Bh,Bh,Bl,Bl];show AF.append h (AF.rep h k)
theorem Zgt{α:Type}(l:List α):l.eraseIdx (l.length-1)=l.dropLast:=by
 induction l with
 |nil=>rfl
 |cons a r h =>
  cases r with
  |nil=>rfl
  |cons b r =>
   let e:(a::b::r).length-1=((b::r).length-1)+1:=by
    let h1:(a::b::r).length=r.length+2:=rfl;let h2:(b::r).length=r.length+1:=rfl;lia
   rw[e,List.eraseIdx_cons_succ,h]
   all_goals rfl
theorem O9(its:List Ca):∀(k:Nat)(acc:List Ca),
  KH (λB h=>B++h) acc.toArray (Co k its.toArray)=(acc++(Co k its).flatten).toArray
 |0,acc=>by simp
 |k+1,acc=>by
  let e:acc.toArray++its.toArray=(acc++its).toArray:=by simp
  let e2:(acc++its)++(Co k its).flatten=acc++(Co (k+1) its).flatten:=by
   rw[Bh,Bl,Jf]
  rw[<-e2,<-O9 its k (acc++its),<-e,Bh,List.foldl_cons]
section
variable{xs:List V}
def AB.lset{its':List Ca}{n:Nat}{f:Array Ca->Array Ca}(I:AB X pq σ H s)(O:H l=some (.lst xs))(e:s.heap.get? l=some {cls:=.type "list",data:=.seq its.toArray n})(G:f its.toArray=its'.toArray)(h:AF ys its')(hz:ys.length<=Cb) :
  AB X pq σ (upd H l (.lst ys)) {s with heap:=s.heap.update l (Cu f),toks:=t'}:=by
 let q:=PySem.IsL.update e f;rw[G]at q;show I.write (x:=l) (e:=l) (by rw[O];show trivial) (.inl W) (λY u J B=>(Cv s.heap (Cu f) (Et J)).trans B) {_,q} ?_;show{hz,its',_,h,q}
def AB.lnew(I:AB X pq σ H s)(h:AF ys its)(hz:ys.length<=Cb) :
  AB X pq σ (upd H s.heap.objs.size (.lst ys)) {s with heap:=s.heap.push {cls:=.type "list",data:=.seq its.toArray},toks:=t'} :=
 I.laid (λ_ _ q=>D5 _ q) (Jk _) {hz,its,0,h,D6 _ W}
def AB.fresh(I:AB X pq σ H s):H s.heap.objs.size=none:=I.hok.fresh (Jk _)
def AB.lstM(I:AB X pq σ H s)(h:H l=some (.lst xs)):xs.length<=Cb/\∃(its:List Ca)(n:Nat),AF xs its/\xs.length=its.length/\s.heap.get? l=some {cls:=.type "list",data:=.seq its.toArray n}:=by
 let{z,its,n,r,e}:=I.hok l _ h;show{z,its,n,r,r.length,e}
theorem M0(h:n<=Cb):Ej n=false:=by
 unfold Ej;show BB ()
end
section
def NK:V->List V->Hp->VK->Prop:=λx vs H Q=>∃l xs y,x=.ref l/\vs=[y]/\H l=some (.lst xs)/\xs.length<Cb/\Q .non (upd H l (.lst (xs++[y])))
theorem Vm:MtM X "list.append" NK:=by
 intro pq s σ H x vs v us Q I G J h;let{l,xs,y,rfl,rfl,B,hz,q}:=h;cases G;let{u,rfl,O}:=J.one;let{z,its,n,r,hl,e}:=I.lstM B;show Kl F.slot_list_append {_,e,W} F.entry_list_append (F.args_list_append_2 _ _) (PySem.list_append l its.toArray n u (by rw[Jp];lia)) {e,?_};show{.non,_,I.lset (its':=its++[u]) B e (by simp) (r.append (.cons O .nil)) ?_,W,q};rw[Jc,G0];lia
def WG:V->List V->Hp->VK->Prop:=λx vs H Q=>∃l b xs h,x=.ref l/\vs=[.ref b]/\H l=some (.lst xs)/\H b=some (.lst h)/\xs.length+h.length<=Cb/\Q .non (upd H l (.lst (xs++h)))
theorem Q9:MtM X "list.extend" WG:=by
 intro pq s σ H x vs v us Q I J O h;let{l,b,xs,zs,rfl,rfl,G,hB,hz,q}:=h;cases J;let{u,rfl,Y}:=O.one;cases Y;let{z,its,n,r,hl,e}:=I.lstM G;let{z2,B,n2,Z,a0,e2}:=I.lstM hB;let hsz:its.toArray.size+B.toArray.size<=Cb:=by rw[Jp,Jp];lia
 let hlong:¬ (!its.toArray.isEmpty&&Ej (its.toArray.size+B.toArray.size))=true:=by
  rw[M0 hsz,cS];show Gb
 show Kl Es {_,e,W} QD (PN _ _)
  (AutoSeq1.list_extend_list_list_0 l its.toArray n b B.toArray n2 hlong (by rw[Jp];lia) ()) {e,e2,?_}
 show{.non,_,I.lset (its':=its++B) G e (by simp) (r.append Z) ?_,W,q};rw[Jc];lia
def rPop:V->List V->Hp->VK->Prop:=λx vs H Q=>∃l xs y,x=.ref l/\vs=[]/\H l=some (.lst xs)/\xs[xs.length-1]?=some y/\Q y (upd H l (.lst xs.dropLast))
theorem zS:MtM X "list.pop" rPop:=by
 intro pq s σ H x vs v us Q I O Y h;let{l,xs,y,rfl,rfl,J,hy,q}:=h;cases O;let G:=Y.zero;subst G;let{z,its,n,r,hl,e}:=I.lstM J;let{u,hu,Z}:=r.get hy;let B:its.toArray[its.toArray.size-1]?=some u:=by
  show its.toArray[its.length-1]?=some u;rwa[<-Jt,<-hl]
 show Kl F.slot_list_pop {_,e,W} F.entry_list_pop (F.args_list_pop_1 _) (MeetsSeq.list_pop_last l its.toArray n u B (by rw[Jp];lia)) {e,?_};show{y,_,I.lset (its':=its.dropLast) J e ?_ r.dropLast ?_,Z,q}
 .show its.toArray.eraseIdxIfInBounds (its.toArray.size-1)=its.dropLast.toArray;rw[Jp,List.eraseIdxIfInBounds_toArray,Zgt]
 .rw[List.length_dropLast];lia
def XF:V->List V->Hp->VK->Prop:=λx vs H Q=>∃l xs,x=.ref l/\vs=[]/\H l=some (.lst xs)/\Q .non (upd H l (.lst []))
theorem wW:MtM X "list.clear" XF:=by
 intro pq s σ H x vs v us Q I J O h;let{l,xs,rfl,rfl,G,q}:=h;cases J;let B:=O.zero;subst B;let{z,its,n,r,hl,e}:=I.lstM G;show Kl F.slot_list_clear {_,e,W} F.entry_list_clear (F.args_list_clear_1 _) (AutoSeq1.list_clear_list_0 l its.toArray n (by rw[Jp];lia)) {e,?_};show{.non,_,I.lset (its':=[]) (ys:=[]) G e W .nil (J9 _),W,q}
def rCat:R2:=λx y H Q=>∃l b xs h,x=.ref l/\y=.ref b/\H l=some (.lst xs)/\H b=some (.lst h)/\xs.length+h.length<=Cb/\∀p,H p=none->Q (.ref p) (upd H p (.lst (xs++h)))
theorem jD:Ay X (Hs .Add) rCat:=by
 intro pq s σ H x y v u Q I J G h;let{l,b,xs,zs,rfl,rfl,Z,hB,hz,q}:=h;cases J;cases G;let{z,its,n,r,hl,e}:=I.lstM Z;let{z2,B,n2,O,Y,e2}:=I.lstM hB;show PySem.P.add_list e e2 ?_ (by rw[Jp,Jp];lia);let ea:its.toArray++B.toArray=(its++B).toArray:=by simp
 rw[ea];show{.ref _,_,I.lnew (t':=s.toks) (r.append O) (by rw[Jc];lia),W,q _ I.fresh}
def rRep:R2:=λx y H Q=>∃l k xs,x=.ref l/\y=.int k/\H l=some (.lst xs)/\-(2 ^ 63)<=k/\k<2 ^ 63/\xs.length*k.toNat<=Cb /\
 ∀p,H p=none->Q (.ref p) (upd H p (.lst (Co k.toNat xs).flatten))
theorem iN{α:Type}(xs:List α)(k:Nat):(Co k xs).flatten.length=k*xs.length:=by
 induction k with
 |zero=>simp
 |succ k h=>rw[Bh,Bl,Jc,h,JM,JO]
theorem lH:Ay X (Hs .Mult) rRep:=by
 intro pq s σ H x y v u Q I rx ry h;let{l,k,xs,rfl,rfl,hH,h1,h2,hz,q}:=h;cases rx;let{t,rfl}:=ry;let{z,its,n,r,hl,e}:=I.lstM hH;let G:its.toArray.size*k.toNat<=Cb:=by rwa[Jp,<-hl]
 let O:¬ its.toArray.size*k.toNat > (2 ^ 63-1) / 8:=by
  let:(Cb:Nat)<=(2 ^ 63-1) / 8:=by decide
  lia
 let J:¬ (!Builtin.List.listFitsIndex k)=true:=by
  rw[fitsIndex_both h1 h2];show Gb
 let hlong:¬ Ej (its.toArray.size*k.toNat)=true:=by
  rw[M0 G];show Gb
 let B:KH (λZ Y=>Z++Y) #[] (Co (if its.toArray.isEmpty=true then 0 else k.toNat) its.toArray)=(Co k.toNat its).flatten.toArray:=by
  let f0:∀m:Nat,KH (λZ Y=>Z++Y) #[] (Co m its.toArray)=(Co m its).flatten.toArray:=λm=>by
   let:=O9 its m [];rw[F8]at this;show this
  rw[f0];cases its with
  |nil=>simp
  |cons a r'=>rw[D8 (by simp)]
 show wpAny_binaryOp_repeat_ref (T:="list") (U:="int") nofun {_,e,W} (λs'=>JU s' k t) noFill_list_mul F.fills_int_mul cL repeat_list F.slot_int_index.lookup
  (Kl cL (JU s k t) F.entry_int_rmul (F.args_int_rmul_2 _ _) (int___rmul___int_list k t l its.toArray n)
   {e,W,{_,e,W},Kl F.slot_list_mul {_,e,W} F.entry_list_mul (F.args_list_mul_2 _ _) (AutoListH.list___mul___list_int_3 l its.toArray n k t J O hlong) {e,?_}})
 rw[B];show{.ref _,_,I.lnew (t':=s.toks) (r.rep k.toNat) (by rwa[iN,Nat.mul_comm]),W,q _ I.fresh}
end
section
variable[DecidableEq κ]
def AX(kvs:List (κ×V))(k:κ):Option V:=(kvs.find? λh=>decide (h.1=k)).map (·.2)
def A4(kvs:List (κ×V))(k:κ)(v:V):List (κ×V) :=
 if(kvs.any λh=>decide (h.1=k))=true then kvs.map (λh=>if h.1=k then(h.1,v)else h)else kvs++[(k,v)]
def zI :AX ([]:List (κ×V)) k=none:=rfl
def Xw{p:κ×V}{r:List (κ×V)}{k:κ}(e:p.1=k):AX (p::r) k=some p.2:=by simp[AX,Gu,e]
def Xx{p:κ×V}{r:List (κ×V)}{k:κ}(e:¬ p.1=k):AX (p::r) k=AX r k:=by simp[AX,Gu,e]
theorem Qf(k:κ):∀kvs:List (κ×V),(kvs.any λh=>decide (h.1=k))=(AX kvs k).isSome
 |[]=>rfl
 |p::r=>by
  rw[B5]
  by_cases e:p.1=k
  .simp only[Xw e,Ab e,Bool.true_or,Option.isSome_some]
  .rw[Xx e,BB e,LI];show Qf k r
theorem WC(k j:κ)(y:V):∀kvs:List (κ×V),AX (kvs.map λB=>if B.1=k then(B.1,y)else B) j=(AX kvs j).map λx=>if j=k then y else x
 |[]=>rfl
 |p::r=>by
  let G:=WC k j y r;rw[Jm]
  by_cases h:p.1=k
  .rw[D9 h]
   by_cases e:p.1=j
   .rw[Xw (p:=(p.1,y)) e,Xw e,F9,D9 (e.symm.trans h)]
   .rw[Xx (p:=(p.1,y)) e,Xx e,G]
  .rw[D8 h]
   by_cases e:p.1=j
   .rw[Xw (p:=p) e,Xw e,F9,D8 (λz=>h (e.trans z))]
   .rw[Xx (p:=p) e,Xx e,G]
theorem WI(k j:κ)(y:V):∀kvs:List (κ×V),AX kvs k=none->AX (kvs++[(k,y)]) j=if j=k then some y else AX kvs j
 |[],_=>by
  by_cases e:k=j
  .rw[D9 e.symm];show Xw (p:=(k,y)) e
  .rw[D8 (λz=>e z.symm)];show Xx (p:=(k,y)) e
 |p::r,hn=>by
  rw[WP];let h:¬ p.1=k:=λz=>by rw[Xw z]at hn;cases hn
  rw[Xx h]at hn;let B:=WI k j y r hn
  by_cases e:p.1=j
  .rw[Xw e,Xw e,D8 (λz=>h (e.trans z))]
  .rw[Xx e,Xx e,B]
def N4(kvs:List (κ×V))(k j:κ)(y:V):AX (A4 kvs k y) j=if j=k then some y else AX kvs j:=by
 unfold A4
 by_cases a:(kvs.any λh=>decide (h.1=k))=true
 .rw[D9 a,WC];rw[Qf]at a
  by_cases e:j=k
  .let⟨x,hx⟩:=Fw.mp a;rw[D9 e,e,hx,F9,D9 W]
  .rw[D8 e];cases AX kvs j with
   |none=>rfl
   |some x=>rw[F9,D8 e]
 .rw[D8 a];show WI k j y kvs ?_;rw[Qf]at a;cases q:AX kvs k with
  |none=>rfl
  |some x=>rw[q]at a;show(a W).elim
theorem X8(kvs:List (κ×V))(k:κ)(v:V):(A4 kvs k v).length<=kvs.length+1:=by
 unfold A4
 split
 .rw[Ja];lia
 .rw[Jc,Ju,By];lia
theorem An.isSome_eq(r:An o u):o.isSome=u.isSome:=by
 cases o with
 |none=>cases u with
  |none=>rfl
  |some _=>show(show False from r).elim
 |some _=>cases u with
  |none=>show(show False from r).elim
  |some _=>rfl
theorem An.getD(r:An o u)(rd:AJ d d'):AJ (o.getD d) (u.getD d'):=by
 cases o with
 |none=>cases u with
  |none=>show rd
  |some _=>show(show False from r).elim
 |some _=>cases u with
  |none=>show(show False from r).elim
  |some _=>show r
theorem KV.val{kvs:List (κ×V)}{vs:List (κ×Ca)}(r:KV kvs vs)(k:κ):An (AX kvs k) (EO vs k):=by
 unfold KV at r
 induction r with
 |nil=>show Ef
 | @cons p q ps qs h t ih =>
  let{h1,h2}:=h
  by_cases e:p.1=k
  .let B:q.1=k:=h1.symm.trans e;let b:EO (q::qs) k=some q.2:=by simp[EO,Gu,B]
   rwa[Xw e,b]
  .let B:¬ q.1=k:=λz=>e (h1.trans z);let b:EO (q::qs) k=EO qs k:=by simp[EO,Gu,B]
   rwa[Xx e,b]
theorem KV.any{kvs:List (κ×V)}{vs:List (κ×Ca)}(r:KV kvs vs)(k:κ):(kvs.any λB=>decide (B.1=k))=vs.any λB=>decide (B.1=k):=by
 unfold KV at r
 induction r with
 |nil=>rfl
 |cons h t G=>rw[B5,B5,G,h.1]
theorem KV.repl{kvs:List (κ×V)}{vs:List (κ×Ca)}(r:KV kvs vs)(k:κ){u:Ca}(G:AJ y u) :
  KV (kvs.map λB=>if B.1=k then(B.1,y)else B) (vs.map λB=>if B.1=k then(B.1,u)else B):=by
 unfold KV at r⊢
 induction r with
 |nil=>show .nil
 | @cons p q ps qs h t ih =>
  rw[Jm,Jm];show .cons ?_ ih;let{h1,h2}:=h
  by_cases e:p.1=k
  .rw[D9 e,D9 (h1.symm.trans e)];show{h1,G}
  .rw[D8 e,D8 (λz=>e (h1.trans z))];show{h1,h2}
def KV.put{kvs:List (κ×V)}{vs:List (κ×Ca)}(r:KV kvs vs)(k:κ){u:Ca}(h:AJ y u):KV (A4 kvs k y) (stored vs k u):=by
 unfold A4 stored;rw[r.any k]
 by_cases e:(vs.any λB=>decide (B.1=k))=true
 .rw[D9 e,D9 e];show r.repl k h
 .rw[D8 e,D8 e];show Paired.snoc r {W,h}
def KV.length{kvs:List (κ×V)}{vs:List (κ×Ca)}(r:KV kvs vs):kvs.length=vs.length:=Paired.length r
end
theorem FL(r:AJ (kV k) u):(Yo P w).is k u=true:=by
 cases k with
 |inl i=>obtain⟨t,e⟩:=(show ∃t,u=Mf i t from r);subst e;show qZ P w i t
 |inr x=>obtain⟨t,e⟩:=(show ∃t,u=FD x t from r);subst e;show pK P w x t
theorem Pf :∀{ks:List AI}{us:List Ca},AF (ks.map kV) us->ItemsAre (Yo P w) ks us
 |[],_,r=>by rw[Dj]at r;cases r;show .nil
 |k::ks,_,r=>by
  rw[Jm]at r;cases r with
  |cons h t=>show .cons (FL h) (Pf t)
abbrev KT(H:Hp):List (List AI×V)->List (List AI×Addr×Ca)->Prop:=Paired λp q=>p.1=q.1/\H q.2.1=some (.tup (p.1.map kV))/\AJ p.2 q.2.2
theorem KT.val(r:KT H kvs xs)(k:List AI):An (AX kvs k) ((DB xs k).map (·.2)):=by
 induction r with
 |nil=>show Ef
 | @cons p q ps qs h t ih =>
  let{h1,_,h2}:=h
  by_cases e:p.1=k
  .let B:q.1=k:=h1.symm.trans e;let b:DB (q::qs) k=some q.2:=by simp[DB,Gu,B]
   rwa[Xw e,b]
  .let B:¬ q.1=k:=λz=>e (h1.trans z);let b:DB (q::qs) k=DB qs k:=by simp[DB,Gu,B]
   rwa[Xx e,b]
theorem KT.repl(r:KT H kvs xs)(k:List AI)(G:AJ y u) :
  KT H (kvs.map λB=>if B.1=k then(B.1,y)else B) (xs.map (putAt k u)):=by
 induction r with
 |nil=>show .nil
 | @cons p q ps qs h t ih =>
  rw[Jm,Jm];show .cons ?_ ih;let{h1,h2,h3}:=h;unfold putAt
  by_cases e:p.1=k
  .rw[D9 e,D9 (h1.symm.trans e)];show{h1,h2,G}
  .rw[D8 e,D8 (λz=>e (h1.trans z))];show{h1,h2,h3}
def KT.put(r:KT H kvs xs)(k:List AI)(G:H b=some (.tup (k.map kV)))(h:AJ y u) :
  KT H (A4 kvs k y) (storedH xs k b u):=by
 let e:(kvs.any λB=>decide (B.1=k))=(DB xs k).isSome:=by
  rw[Qf,(r.val k).isSome_eq,JS]
 unfold A4 storedH;rw[e]
 by_cases q:(DB xs k).isSome=true
 .rw[D9 q,D9 q];show r.repl k h
 .rw[D8 q,D8 q];show Paired.snoc r {W,G,h}
def KT.keeps(r:KT H kvs xs)(h:∀b ys,H b=some (.tup ys)->H' b=some (.tup ys)):KT H' kvs xs :=
 Paired.mapP r λ_ _ z=>{z.1,h _ _ z.2.1,z.2.2}
section
variable{a:Addr}
def TB(ok:BN P w H h)(e:Rd H a u):Y9 P w H h a u:=e.ok ok
def EW{kvs:List (AI×V)}(ok:BN P w H h)(e:Rd H a (.dK kvs)):kvs.length<=Cb/\(a==Ey)=false/\∃vs,KV kvs vs/\h.DictOf (Yo P w) a vs :=
 show Y9 P w H h a (.dK kvs)from TB ok e
def MD{kvs:List (AI×V)}(ok:BN P w H h)(e:H a=some (.dK kvs)):kvs.length<=Cb/\(a==Ey)=false/\∃vs,KV kvs vs/\h.DictOf (Yo P w) a vs:=EW ok (.inl e)
def Nr(ok:BN P w H h)(e:H a=some (.tup (ks.map kV))):(EB (Yo P w)).is h ks a:=by
 let{_,its,r,o,h1,h2,n,h3,_}:=(show Y9 P w H h a (.tup (ks.map kV))from ok a _ e);show{o,its.toArray,n,h1,h2,h3,by simpa using Pf r}
def FR(ok:BN P w H h)(e:Rd H a (.dT kvs)):kvs.length<=Cb/\(a==Ey)=false /\
  ∃xs,KT H kvs xs/\h.DictOfH (EB (Yo P w)) a xs:=by
 let{z,y,xs,r,o,es,ep,h1,h2,h3,h4,h5}:=(show Y9 P w H h a (.dT kvs)from TB ok e);show{z,y,xs,r,o,es,ep,h1,h2,h3,h4,λx hx=>?_,h5};let all:∀{l:List (List AI×V)}{m:List (List AI×Addr×Ca)},KT H l m->∀x∈m,(EB (Yo P w)).is h x.1 x.2.1:=by
  intro l m q
  induction q with
  |nil=>intro x hx;show nomatch hx
  | @cons p q ps qs hq t ih =>
   intro x hx;rcases Gd.mp hx with e|hx
   .subst e;show Nr ok (by rw[<-hq.1];show hq.2.1)
   .show ih x hx
 show all r x hx
def SM(ok:BN P w H h)(e:H a=some (.dT kvs)):kvs.length<=Cb/\(a==Ey)=false /\
  ∃xs,KT H kvs xs/\h.DictOfH (EB (Yo P w)) a xs:=FR ok (.inl e)
end
def DGet(H:Hp)(a:Addr)(y:V)(r:Option V):Prop :=
 (∃kvs k,Rd H a (.dK kvs)/\y=kV k/\r=AX kvs k)\/∃kvs k b,Rd H a (.dT kvs)/\y=.ref b/\H b=some (.tup (k.map kV))/\r=AX kvs k
def DPut(H:Hp)(a:Addr)(y v:V)(H':Hp):Prop :=
 (∃kvs k,H a=some (.dK kvs)/\y=kV k/\kvs.length<Cb/\H'=upd H a (.dK (A4 kvs k v))) \/
 ∃kvs k b,H a=some (.dT kvs)/\y=.ref b/\H b=some (.tup (k.map kV))/\kvs.length<Cb/\H'=upd H a (.dT (A4 kvs k v))
theorem DGet.k{a:Addr}{kvs:List (AI×V)}{k:AI}(e:H a=some (.dK kvs)):DGet H a (kV k) (AX kvs k):=.inl {kvs,k,.inl e,W,W}
def DGet.t{a b:Addr}{k:List AI}(e:H a=some (.dT kvs))(h:H b=some (.tup (k.map kV))):DGet H a (.ref b) (AX kvs k):=.inr {kvs,k,b,.inl e,W,h,W}
theorem DPut.k{a:Addr}{kvs:List (AI×V)}{k:AI}{v:V}(e:H a=some (.dK kvs))(hl:kvs.length<Cb):DPut H a (kV k) v (upd H a (.dK (A4 kvs k v))):=.inl {kvs,k,e,W,hl,W}
def DPut.t{a b:Addr}{k:List AI}{v:V}(e:H a=some (.dT kvs))(h:H b=some (.tup (k.map kV)))(hl:kvs.length<Cb) :
  DPut H a (.ref b) v (upd H a (.dT (A4 kvs k v))):=.inr {kvs,k,b,e,W,h,hl,W}
section
variable{a:Addr}{v:V}{u r:Ca}{o:Option V} 
def AB.big(I:AB X pq σ H s):Ey<s.heap.objs.size:=by
 let h:Cw<s.heap.objs.size:=(I.mod.glob.keeps I.bk).lt;show Nat.lt_trans nofun h
def pT{Q:Ca->Cc->Prop}(hu:A.units+1<E8)(I:AB X pq σ H s)(g:DGet H a y (some v))(ry:AJ y u)(h:∀J s',AB X pq σ H s'->AJ v J->Q J s') :
  Cg (Cj X.prog X.w) A (L6 (.ref a) u) Q E s:=by
 rcases g with⟨kvs,k,e,Y,l⟩|⟨kvs,k,b,e,Y,eb,l⟩
 .subst Y;let{z,hd,vs,G,Z}:=EW I.hok e;let{J,hw,B}:=An.some_of (v:=v) (o:=EO vs k) (by rw[l];show G.val k);show wpAny_getItem_of (FL ry) Z.mapOf hw (h J _ (I.tok _) B)
 .subst Y;cases(show u=Cd b from ry);let{z,hd,xs,G,Z}:=FR I.hok e;let{J,hw,B}:=An.some_of (v:=v) (o:=(DB xs k).map (·.2)) (by rw[l];show G.val k);let{p,hp,O}:=Gq.mp hw;show wpAny_getItem_heap (Lc hu) (Nr I.hok eb) Z hp ?_;rw[O];show h J _ (I.tok _) B
def d_in{Q:Ca->Cc->Prop}(Y:A.units+1<E8)(I:AB X pq σ H s)(g:DGet H a y o)(O:AJ y u)(h:∀s',AB X pq σ H s'->Q (.bool o.isSome) s') :
  Cg (Cj X.prog X.w) A (Eu .In u (.ref a)) Q E s:=by
 rcases g with⟨kvs,k,e,G,l⟩|⟨kvs,k,b,e,G,Z,l⟩
 .subst G;let{z,hd,vs,B,J}:=EW I.hok e;show wpAny_in_of (FL O) hd J.mapOf ?_;rw[<-(B.val k).isSome_eq,<-l];show h _ (I.tok _)
 .subst G;cases(show u=Cd b from O);let{z,hd,xs,B,J}:=FR I.hok e;show wpAny_in_heap (Lc Y) (Nr I.hok Z) hd J ?_;let q:=(B.val k).isSome_eq;rw[JS]at q;rw[<-q,<-l];show h _ (I.tok _)
def Ps(I:AB X pq σ H s)(mu:FH (H a))(hs:Hm a s.heap h')(h:∃q,h'.get? a=some q)(new:Y9 X.prog X.w (upd H a ob) h' a ob) :
  AB X pq σ (upd H a ob) {s with heap:=h',toks:=t'} :=
 I.write (x:=a) (e:=a) mu (.inl W) (λb q B z=>(hs.2 b B).trans z) h new
def bM{kvs:List (AI×V)}{vs:List (AI×Ca)}(z:kvs.length<=Cb)(hd:(a==Ey)=false)(h:KV kvs vs)(B:h'.DictOf (Yo P w) a vs) :
  Y9 P w H' h' a (.dK kvs):={z,hd,vs,h,B}
theorem kI{Q:Unit->Cc->Prop}(hu:A.units+1<E8)(I:AB X pq σ H s)(g:DPut H a y v H')(ry:AJ y u)(rv:AJ v r)(h:∀s',AB X pq σ H' s'->Q ⟨⟩ s') :
  Cg (Cj X.prog X.w) A (GJ (.ref a) u r) Q E s:=by
 rcases g with⟨kvs,k,e,O,l,Y⟩|⟨kvs,k,b,e,O,eb,l,Y⟩
 .subst O Y;let{z,hd,vs,B,Z}:=MD I.hok e;let hz:vs.length<=Cb:=by rwa[<-B.length]
  let hl:(A4 kvs k v).length<=Cb:=by have:=X8 kvs k v;lia
  show wpAny_setItem_pairs (hsz:=hz) (FL ry) Z λh' G hs=>h _ ?_;let he:∃q,h'.get? a=some q:=let{q,_,_,J,_}:=G;{q,J}
  show Ps I (by rw[e];show Ef) hs he (bM hl hd (B.put k rv) G)
 .subst O Y;cases(show u=Cd b from ry);let{z,hd,xs,B,Z}:=SM I.hok e;let hz:xs.length<=Cb:=by rwa[<-Paired.length B]
  let hl:(A4 kvs k v).length<=Cb:=by have:=X8 kvs k v;lia
  show wpAny_setItem_heap (hsz:=hz) (Lc hu) (Nr I.hok eb) Z λh' G hs=>h _ ?_;let{q,es,ep,J,h2,h3,h4,_,h5}:=G;show Ps I (by rw[e];show Ef) hs {q,J} {hl,hd,_,(B.put k eb rv).keeps λc ys ec=>?_,q,es,ep,J,h2,h3,h4,h5};rwa[Zq (FC ec e (λz=>nomatch z))]
end
def NoSl(i:Expr):Prop:=∀h B,GK i false h B=HH [h,B] (L6 h B)
def WU{env:Env}{slice:Expr}{T id:String}{Q:Ca->Cc->Prop}(hl:FG (.type T) "__getitem__"=pure (some (.builtin id)))(hs:NoSl slice)(h:Cg (Cj prog w) A (eval value env) (λo O=>Cg (Cj prog w) A (eval slice env) (λi B=>B.TypeIs o T/\Cg (Cj prog w) A (L6 o i) Q E B) E O) E s) :
  Cg (Cj prog w) A (eval (.Subscript value slice dF) env) Q E s:=by
 show HJ (BJ h (λo O h₁=>BJ h₁ (λi B G=>?_) λ_ _ x=>x) λ_ _ x=>x);let{Z,G}:=G;unfold I8;show D3 ?_;rw[getitemInPython_of_ne Z.not_modules];show D3 (wpAny_specialOf Z hl ?_);let fin:Cg (Cj prog w) A (GK slice false o i) (λr J=>Cg (Cj prog w) A (letTemporaryGo value o r >>= λ_=>pure r) Q E J) E B:=by
  rw[hs o i];show wpAny_operating (BJ G (λr J Y=>D3 (wpAny_letTemporaryGo (D4 Y))) λ_ _ x=>x)
 first
  |show D4 (D3 fin)
  |show D3 (D4 (D3 fin))
  |show D3 fin
def kH(I:AB X pq σ H s)(g:DGet H a y o):s.TypeIs (.ref a) "dict":=by
 rcases g with⟨kvs,k,e,_,_⟩|⟨kvs,k,b,e,_,_,_⟩
 .let⟨_,_,vs,_,h⟩:=EW I.hok e;show h.typeIs
 .let⟨_,_,xs,_,h⟩:=FR I.hok e;show h.typeIs
def TK(td ty:TE):TE:=λσ H Q=>td σ H λx H1=>ty σ H1 λy h=>∃a v,x=.ref a/\DGet h a y (some v)/\Q v h
def tDIn(ty td:TE):TE:=λσ H Q=>ty σ H λy H1=>td σ H1 λx h=>∃a o,x=.ref a/\DGet h a y o/\Q (.bl o.isSome) h
def YM(td ty tv:TE):TS:=λD σ H=>tv σ H λv H1=>td σ H1 λx G=>ty σ G λy B=>∃a h,x=.ref a/\DPut B a y v h/\D.nx σ h
section
variable{o i:Expr}{td ty tv:TE}
def UJ(hu:X.A.units+1<E8)(ho:PE X o td)(hi:PE X i ty)(hs:NoSl i):PE X (.Subscript o i dF) (TK td ty):=by
 intro pq s σ H Q I h;show WU PySem.F.slot_dict_getitem.lookup hs (AS (ho pq s σ H _ I h) λu J⟨x,H1,I1,Y,q1⟩=>AS (hi pq J σ H1 _ I1 q1) λiv s2 hz=>?_);let{y,H2,G,O,a,v,ex,g,Z}:=hz;subst ex;obtain rfl:u=Cd a:=Y;exists kH G g,pT hu G g O λw' s3 I3 B=>{v,H2,I3,B,Z}
def cF(hu:X.A.units+1<E8)(hi:PE X i ty)(ho:PE X o td):PC X .In i o (tDIn ty td):=by
 intro pq s σ H Q I h;show AS (hi pq s σ H _ I h) λiv B⟨y,H1,I1,G,Y⟩=>AS (ho pq B σ H1 _ I1 Y) λu s2 hz=>?_;let{x,H2,I2,J,a,Z,ex,g,O}:=hz;subst ex;obtain rfl:u=Cd a:=J;show d_in hu I2 g G λs3 I3=>{.bl Z.isSome,H2,I3,W,O}
def tN(hu:X.A.units+1<E8)(ho:PE X o td)(hi:PE X i ty)(hv:PE X value tv)(hs:Mh value (some (.Subscript o i pos')) dF.line X.env=pure false) :
  PS X (.Assign [.Subscript o i pos'] value dF) (YM td ty tv):=by
 intro pq s σ H D I h;show wpAny_Assign_Subscript (AS (hv pq s σ H _ I h) λr G⟨v,H1,I1,Y,q1⟩=>AS (ho pq G σ H1 _ I1 q1) λu B⟨x,H2,I2,O,q2⟩=>AS (hi pq B σ H2 _ I2 q2) λiv s3 hz=>?_) hs;let{y,H3,I3,J,a,H4,ex,g,Z}:=hz;subst ex;obtain rfl:u=Cd a:=O;show kI hu I3 g J Y λs4 I4=>{σ,H4,I4,Z}
end
def nA(h:Heap)(B:Ey<h.objs.size):Y9 P w H (h.push {cls:=.type "dict",data:=.dict #[]}) h.objs.size (.dK []) :=
 {J9 _,beq_eq_false_iff_ne.mpr (Et (Gk B)),[],.nil,mQ h}
def ZT(h:Heap)(B:Ey<h.objs.size):Y9 P w H (h.push {cls:=.type "dict",data:=.dict #[]}) h.objs.size (.dT []) :=
 {J9 _,beq_eq_false_iff_ne.mpr (Et (Gk B)),[],.nil,_,#[],0,D6 _ W,{W,W,W},W,W,Fk}
def bV:TE:=λ_ H Q=>∀p,H p=none->Q (.ref p) (upd H p (.dT []))
section
def tP:PE X (.Dict [] [] dF) bV:=λpq s σ H Q I h =>
 ZZ {.ref s.heap.objs.size,_,I.laid (a:=s.heap.objs.size) (o:=.dT []) (t':=s.toks) (λ_ _ q=>D5 _ q) (Jk _) (ZT s.heap I.big),W,h _ (I.hok.fresh (Jk _))}
end
structure M1(X:Cx)(o:Expr)(m:Str)(eA:Pos)(e:Expr)(dY:Pos):Prop where
 base:Ht o m X.env (eval o X.env)=eval o X.env
 few:((Ks dY (Cr [e] X.env)).all (λx=>!x.1)&&(Mz dY (Kh [] X.env)).all (λx=>x.1.isSome)
  && decide (([e]:List Expr).length+([]:List DZ).length+(if([]:List DZ).isEmpty then 0 else 1)<30))=true
 line:(eA.endLine==dY.line)=true
 trees:Ks dY (Cr [e] X.env)=[(false,eval e X.env)]
structure M2(X:Cx)(o:Expr)(m:Str)(eA:Pos)(e f:Expr)(dY:Pos):Prop where
 base:Ht o m X.env (eval o X.env)=eval o X.env
 few:((Ks dY (Cr [e,f] X.env)).all (λx=>!x.1)&&(Mz dY (Kh [] X.env)).all (λx=>x.1.isSome)
  && decide (([e,f]:List Expr).length+([]:List DZ).length+(if([]:List DZ).isEmpty then 0 else 1)<30))=true
 line:(eA.endLine==dY.line)=true
 trees:Ks dY (Cr [e,f] X.env)=[(false,eval e X.env),(false,eval f X.env)]
def IsD(H:Hp)(a:Addr):Prop:=(∃kvs,Rd H a (.dK kvs))\/∃kvs,Rd H a (.dT kvs)
def jB(I:AB X pq σ H s)(d:IsD H a) :
  s.TypeIs (.ref a) "dict"/\(∀b,Cd a=.ref b->∃h,s.heap.get? b=some h/\h.dict=none)/\(a==Ey)=false:=by
 rcases d with⟨kvs,e⟩|⟨kvs,e⟩
 .let⟨_,hd,vs,_,B⟩:=EW I.hok e;exists B.typeIs,λb q=>?_,hd;cases q;let{h,_,_,h1,h2,_}:=B;show{h,h1,h2.2.1}
 .let⟨_,hd,xs,_,B⟩:=FR I.hok e;exists B.typeIs,λb q=>?_,hd;cases q;let{h,_,_,h1,h2,_}:=B;show{h,h1,h2.2.1}
section
variable{a:Addr}{u:Ca}{o:Option V} 
def xU{Q:Ca->Cc->Prop}(Z:A.units+1<E8)(I:AB X pq σ H s)(g:DGet H a y o)(Y:AJ y u)(h:∀O s',AB X pq σ H s'->AJ (o.getD .non) O->Q O s') :
  Cg (Cj X.prog X.w) A (call (.builtin "dict.get") [.ref a,u]) Q E s:=by
 rcases g with⟨kvs,k,e,J,l⟩|⟨kvs,k,b,e,J,eb,l⟩
 .subst J;let{z,hd,vs,B,G}:=EW I.hok e;show call_meetsIn Hd G.typeIs Ll (RZ _ _) (meets_dict_get (Yo X.prog X.w) a (FL Y) hd) {_,G.mapOf,h _ _ (I.tok _) ?_};rw[l];show(B.val k).getD W
 .subst J;cases(show u=Cd b from Y);let{z,hd,xs,B,G}:=FR I.hok e;show call_meetsIn Hd G.typeIs Ll (RZ _ _) (meetsH_dict_get (EB (Yo X.prog X.w)) a b hd) {Lc Z,k,xs,Nr I.hok eb,G,h _ _ (I.tok _) ?_};rw[l];show(B.val k).getD W
end
def pO(td ty:TE):TE:=λσ H Q=>td σ H λx H1=>∃a,x=.ref a/\IsD H1 a/\ty σ H1 λy h=>∃o,DGet h a y o/\Q (o.getD .non) h
section
variable{o e:Expr}{td ty:TE}
def WQ(hu:X.A.units+1<E8)(ho:PE X o td)(he:PE X e ty)(m:M1 X o "get" eA e dY):PE X (.Call (.Attribute o "get" eA) [e] [] dY) (pO td ty):=by
 intro pq s σ H Q I h;show wpAny_Call_method m.base m.few m.line PySem.F.plainAttrs_dict Hd PySem.F.type_dict_get (AS (ho pq s σ H _ I h) λu Y hz=>?_);let{x,H1,G,rx,a,ex,d,q1}:=hz;subst ex;obtain rfl:u=Cd a:=rx;let{O,J,_}:=jB G d;show{O,J,?_};rw[m.trees];show Kb W (Ma (K8 (AS (he pq Y σ H1 _ G q1) λiv s2⟨y,H2,I2,Z,ov,g,q2⟩=>JY ?_)));show xU hu I2 g Z λw' s3 I3 B=>{_,H2,I3,B,q2}
end
end L2
namespace Att
open PySem PySem.W PySem.Calls PyProof.Rows
theorem Pi{P:Params} :∀(ns:List Int)(vs:List Ca),WellAll P h vs (ns.map YI)->E9 vs ns:=by
 intro ns
 induction ns with
 |nil =>
  intro vs w;rw[Dj]at w;cases w;show .nil
 |cons n ns B =>
  intro vs w;rw[Jm]at w;cases w with
  |cons a b =>
   cases a;show .cons _ _ (B _ b)
theorem jA{l:OpenLaw}{n:Nat}(hn:l.most=some n){P:Params}{args:List WData}{B:List Ca}(G:l.row.toRowW.claim.pre args=true)(Y:WellAll P h B args) :
  ∃a vs ns,B=[Cd a]/\args=[WData.list (ns.map YI)]/\h.get? a=some {cls:=.type "list",data:=.seq vs.toArray}/\E9 vs ns/\ns.length<=n:=by
 let Z:WShape.hasAll [] args [.list .int]=true:=(pre_splitW G).1;let hc:l.pre.holds [] {args:=args}=true:=(pre_splitW G).2;let{d,r,rfl,h1,h2}:=hasAllW_cons Z;obtain rfl:=hasAllW_nil h2;let{xs,rfl,h3}:=hasW_list h1;let{ns,rfl}:=items_int h3;let J:ns.length<=n:=by
  unfold OpenLaw.pre at hc;let h4:(WTm.not (.lt (.lit (.int (n:Int))) (.len (.arg 0)))).holds [] {args:=[.list (ns.map .int)]}=true:=by
   let h4:=(holds_andW hc).1;rw[hn]at h4;show h4
  let h5:=condW_of h4 (w_not (w_lt w_lit (w_len_list (w_arg W))));rw[Ja]at h5;show Fi λq=>?_;let q':(n:Int)<((ns.length:Nat):Int):=by lia
  first
   |(rw[Ab q']at h5;show D0 h5 nofun)
   |(simp at h5;lia)
 cases Y with
 |cons w1 w2 =>
  cases w2;cases w1 with
  |list ho O=>show{_,_,ns,W,W,ho,Pi ns _ O,J}
def Ziz(l:OpenLaw)(args:List WData):l.row.toRowW.claim.post args (.bool true) args=true :=
 postW_of (r:=l.row.toRowW) (X:=(true==true))
  (show VE [] (.bool true) .bool=true by first|rfl|decide|simp[VE,WShape.arms,WShape.armsAll])
  (show(WTm.eq .res (.lit (.bool true))).value [] {args:=args,res:=some (.bool true),after:=args}=some (.bool (true==true))from w_eq_bool (w_res W) w_lit) W
def attach_call{l:OpenLaw}{n:Nat}{q:E4}{loose:List Str}{XP:(Str->Option Ca)->Heap->Prop}{YP:H9->Heap->Prop}{d:DefRec}(hn:l.most=some n)(a2:d.params.defaults=[])(call:∀(w:H9)(s₀ h:Cc)(mg mb:Str->Option Ca)(Z:Addr)(o:Obj)(pm cd doc:Ca)(a:Addr)(vs:List Ca)(ns:List Int),
   Ground q loose [] XP w s₀ mg mb h.heap->YP w h.heap ->
   h.heap.get? Z=some o->o.data=.func (docDef d.name d.params d.body d.scope pm cd doc)->h.heap.CodeRec cd d.name->mg d.name=some (.ref Z) ->
   h.heap.get? a=some {cls:=.type "list",data:=.seq vs.toArray}->E9 vs ns->ns.length<=n->h.gens=#[] ->
   K7 (Cj l.prog w) ED (.call (.ref Z) {[.ref a],[]}) (λr s'=>r=.ok (.ret (.bool true))/\OldK h.heap s'.heap/\s'.os=h.os/\DN s'.gens) h) :
  WalkO q loose XP YP l.row.toRowW d [] (λf vs=>JN f vs):=by
 intro w s₀ h mg mb G Y Z o pm cd doc dV kV ho hd a3 hD a1 hg args a4 as B a5 a6 a0 a7;obtain rfl:dV=.none:=Dflts.none hD a2;obtain rfl:kV=.none:=Dflts.noKw hD;let{a,vs,ns,rfl,rfl,J,hints,O}:=jA hn B a0;show enter_call (Kg (call w s₀ h mg mb Z o pm cd doc a vs ns G Y ho (fd_plain hd) a3 a1 J hints O hg) λr s' hq=>?_);let{rfl,h2,h3,h4}:=hq;show{.inl {.bool true,.bool true,[],W,λ_=>rfl,.bool true,Ziz l _,λ_=>{Lu,λ_ hm=>(nomatch hm)}},h2,h3,h4}
end Att
namespace L2
open PySem PySem.Spec PyProof.Rows
theorem RS:∀{vs:List Ca}{ns:List Int},E9 vs ns->AF (ns.map V.int) vs:=by
 intro _ _ B;cases B with
 |nil=>
  show .nil
 |cons n t h=>
  show .cons {t,W} (RS h)
def Uv(s:Stmt)(j:Nat):Stmt:=match s with
 |.ClassDef _ _ _ dR _ _ _ _ _ _ _=>dR.getD j (.Pass {0,0,0,0})
 |_=>.Pass {0,0,0,0}
def X9(s:Stmt):Arguments:=match s with
 |.FunctionDef _ a _ _ _ _ _ _ _ _=>a
 |_=>{posonlyargs:=[],args:=[],vararg:=none,kwonlyargs:=[],kw_defaults:=[],kwarg:=none,defaults:=[]}
def Xc(s:Stmt):List Stmt:=match s with
 |.FunctionDef _ _ b _ _ _ _ _ _ _=>b
 |_=>[]
def Zf(s:Stmt):Scope:=match s with
 |.FunctionDef _ _ _ _ _ _ h _ _ _=>h
 |_=>{kind:=.function,names:=[],isGenerator:=false,isCoroutine:=false}
abbrev A7:CXT:=λ_ _ _ _ _ _=>False
abbrev E0:XK:=λ_ _ _=>False
def Io :P0 A7 X E0:=λ_ _ _ _ _ _ _ h=>h.elim
structure AY(K:Cq)(x dH:Str)(st:Stmt)(f:Addr)(fd:Mx):Prop where
 ex:∃(oc:Ca)(od:Option Addr)(kV doc pm:Ca)(an:Option Addr)(cdv ct:Ca)(osl:Array (Option Ca)),
  fd=DE x dH (X9 st) (Xc st) (Zf st) .none kV doc pm an cdv ct/\K.lookup f=some {oc,od,.func fd,osl}/\EH K cdv dH=true
 kp:DW K (.ref f)=true
section
variable{dC:Heap}
def AY.ok(F:AY K x dH st f fd)(S:AD N ps (Zf st))(len:∀vs H Q E,sp vs H Q E->vs.length=ps.length)(hbody:∀(cdv:Ca)(A:Kr)(dD:List Env)(s:Cc)(H:Hp)(vs:List V)(Q:VK)(E:XK),AG k (A.deeper (Ho dH (Zf st) s.heap.objs.size f cdv))->sp vs H Q E ->
   ∃t,PSs (CI A7 P w K mg dC N dH (Zf st) f cdv A dD s H E).nox (Xc st) t/\t {nx:=λ_ H'=>Q .non H',rt:=Q} (start N vs) H):AK P w K mg dC A7 (k+1) f fd ps sp:=by
 let{oc,od,kV,doc,pm,an,cdv,ct,J,rfl,lk,G}:=F.ex;show NU lk G S len λA dD s H vs Q E O B=>?_;let{t,h,q}:=hbody cdv A dD s H vs Q E O B;show{t,h.nox,q}
def AY.binds(F:AY K x dH st f fd)(h:∀(kV doc pm:Ca)(an:Option Addr)(cdv ct:Ca)(us:List Ca),us.length=ps.length->FP (DE x dH (X9 st) (Xc st) (Zf st) .none kV doc pm an cdv ct) {us,[]}=pure (ps.zip us)):Ud K fd ps []:=by
 let{oc,od,kV,doc,pm,an,cdv,ct,B,rfl,lk,G}:=F.ex;show .all (h kV doc pm an cdv ct)
def Zj5{kV:Ca}(l:K.lookup f=some {oc,od,.func (DE x dH (X9 st) (Xc st) (Zf st) .none kV doc pm an cdv ct),osl})(c:EH K cdv dH=true)(k:DW K (.ref f)=true):AY K x dH st f (DE x dH (X9 st) (Xc st) (Zf st) .none kV doc pm an cdv ct):={{oc,od,kV,doc,pm,an,cdv,ct,osl,W,l,c},k}
end
def Xf(h:AG k A):A.units+1<E8:=Gr (Nat.add_le_add_left (by decide:1<=64) _) h.units
section
def pv(i:Nat)(G:X.N[i]?=some x:=by rfl)(B:HU X.env.scope x:=by first|left;rfl|right;left;rfl|right;right;rfl)(hd:(x==("__debug__":Str))=false:=by decide)(h:(x==("__classdict__":Str))=false:=by decide):PE X (.Name x dF) (tVar i):=gO G B hd h
end
def AZ{A B:Prop}(h:B):if false=true then A else B:=by
 rwa[D8 Gb]
def Aa{A B:Prop}(h:A):if true=true then A else B:=by
 rwa[D9 W]
def A5{c A B:Prop}[Decidable c](h1:c->A)(h2:¬ c->B):if c then A else B:=by
 by_cases h:c
 .rw[D9 h];show h1 h
 .rw[D8 h];show h2 h
def AL(H H':Hp):Prop:=∀b o,H b=some o->H' b=some o
def AL.refl(H:Hp):AL H H:=λ_ _ h=>h
def AL.trans(a:AL H H1)(b:AL H1 H2):AL H H2:=λc o h=>b c o (a c o h)
theorem AL.free(e:AL H H')(h:H' l=Option.none):H l=Option.none:=by
 cases q:H l with
 |none=>rfl
 |some o =>
  rw[e l o q]at h;cases h
def AL.seq(e:AL H H')(h:Ad K H a xs):Ad K H' a xs:=by
 rcases h with(h|⟨o,h⟩)|h
 .show .inl (.inl (e _ _ h))
 .show .inl (.inr {o,e _ _ h})
 .show .inr h
end L2
namespace L2
open PySem
def W3(cells:List (Str×Addr)):List (Str×Ha)->List (Str×Addr)->List (Str×Addr)
 |[],acc=>acc
 |(n,k)::r,acc=>if k == .free then W3 cells r ((n,(cells.lookup n).getD 0)::acc)else W3 cells r acc
def RJ(env:Env)(l:List (Str×Ha))(acc:List (Str×Addr)):Sem (List (Str×Addr)):=do
 let mut cs:=acc
 for (name,kind) in l do
  if kind == .free then cs:=(name,<-cellOf env name)::cs
 return cs
theorem Nz :∀(l:List (Str×Ha))(acc:List (Str×Addr)),(∀y∈l,y.2=.free->∃c,env.cells.lookup y.1=some c) ->
  RJ env l acc=pure (W3 env.cells l acc)
 |[],acc,_=>rfl
 |(n,k)::r,acc,h=>by
  let B:=λacc=>Nz r acc λy J=>h y (Jg _ J);unfold RJ at B⊢;rw[W3];cases hk:(k==C8)with
  |false =>
   simp only[Ob,hk,Gg,if_false,pure_bind]at B⊢;show B acc
  |true =>
   let{c,O}:=h (n,k) Je (by simpa using hk);let G:env.cells.lookup n=some c:=O;simp only[Ob,hk,if_true,cellOf,G,pure_bind,OT]at B⊢;show B _
def Ny{dE:Scope}(h:∀y∈dE.names,y.2=.free->∃c,env.cells.lookup y.1=some c):JV dE env=pure (W3 env.cells dE.names []) :=
 Nz dE.names [] h
theorem Sd{cells:List (Str×Addr)}  :∀{l:List (Str×Ha)}{acc:List (Str×Addr)},(∀y∈l,y.2=.free->∃c,cells.lookup y.1=some c) ->
  (W3 cells l acc).lookup x=some c->acc.lookup x=some c\/cells.lookup x=some c
 |[],acc,_,h=>.inl h
 |(n,k)::r,acc,hl,h=>by
  rw[W3]at h
  by_cases hk:(k==C8)=true
  .rw[D9 hk]at h;let{J,Y}:=hl (n,k) Je (by simpa using hk);let B:cells.lookup n=some J:=Y;rcases Sd (λy G=>hl y (Jg _ G)) h with z|z
   .rw[Ba,B]at z;cases hx:(x==n)with
    |true =>
     rw[hx]at z;let e:x=n:=by simpa using hx
     subst e;let O:J=c:=by simpa using z
     subst O;show .inr B
    |false=>rw[hx]at z;show .inl z
   .show .inr z
  .rw[D8 hk]at h;show Sd (λy G=>hl y (Jg _ G)) h
theorem U0{cells:List (Str×Addr)} :∀{l:List (Str×Ha)}{acc:List (Str×Addr)},(∃c,acc.lookup x=some c)->∃c,(W3 cells l acc).lookup x=some c
 |[],acc,h=>h
 |(n,k)::r,acc,h=>by
  rw[W3]
  by_cases hk:(k==C8)=true
  .rw[D9 hk];show U0 ?_;rw[Ba];cases hx:(x==n)with
   |true=>show{_,W}
   |false=>show h
  .rw[D8 hk];show U0 h
theorem Th{cells:List (Str×Addr)} :∀{l:List (Str×Ha)}{acc:List (Str×Addr)},(x,C8)∈l->∃c,(W3 cells l acc).lookup x=some c
 |[],acc,h=>nomatch h
 |(n,k)::r,acc,h=>by
  rw[W3];rcases Gd.mp h with e|h
  .cases e;rw[D9 {}];show U0 ?_;rw[Ba,beq_self_eq_true];show{·}
  .by_cases hk:(k==C8)=true
   .rw[D9 hk];show Th h
   .rw[D8 hk];show Th h
def Uk{dE:Scope}(B:∀y∈dE.names,y.2≠.cell)(h:(HV dE env).names.lookup x=some .cell\/(HV dE env).names.lookup x=some .free):(x,C8)∈dE.names:=by
  let go:∀(l:List (Str×Ha)),(∀y∈l,y.2≠.cell) ->
      ((l.map λ(n,k)=>if(k==C8&&env.scope.kind == .function&&env.kindOf n==some .cell)then(n,Md)else(n,k)).lookup x=some .cell \/
       (l.map λ(n,k)=>if(k==C8&&env.scope.kind == .function&&env.kindOf n==some .cell)then(n,Md)else(n,k)).lookup x=some .free)->(x,C8)∈l:=by
    intro l
    induction l with
    |nil=>intro _ h;rcases h with h|h<;>cases h
    |cons a r O =>
      let{n,k}:=a;intro B h;let G:k≠.cell:=B (n,k) Je;simp only[Jm]at h
      by_cases hx:(x==n)=true
      · let e:x=n:=by simpa using hx
        subst e
        by_cases hk:k=.free
        · subst hk;show Je
        · let Z:(k==C8)=false:=by simpa using hk
          simp only[Z,WO,Gg,if_false,Ba,beq_self_eq_true]at h;rcases h with h|h
          · show D0 (BG h) G
          · show D0 (BG h) hk
      · let J:(x==n)=false:=by simpa using hx
        show Jg _ (O (λy Y=>B y (Jg _ Y)) ?_);let el:∀(p:Str×Ha)(t:List (Str×Ha)),p.1=n->(p::t).lookup x=t.lookup x:=by
          intro p t e;let{a,b}:=p;let e':a=n:=e;subst e';rw[Ba,J]
        rw[el _ _ (by split<;>rfl)]at h;show h
  show go dE.names B h
def Sw{dE:Scope}(h:(HV dE env).names.lookup x=some .local):dE.names.lookup x=some .local:=by
 let O:∀(l:List (Str×Ha)),
   (l.map λ(n,k)=>if(k==C8&&env.scope.kind == .function&&env.kindOf n==some .cell)then(n,Md)else(n,k)).lookup x=some .local->l.lookup x=some .local:=by
  intro l
  induction l with
  |nil=>intro h;cases h
  |cons a r J =>
   let{n,k}:=a;intro h;simp only[Jm]at h
   by_cases hx:(x==n)=true
   .let e:x=n:=by simpa using hx
    subst e
    by_cases hc:(k==C8&&env.scope.kind == .function&&env.kindOf x==some .cell)=true
    .rw[D9 hc,Ba,beq_self_eq_true]at h;cases h
    .rw[D8 hc,Ba,beq_self_eq_true]at h;rwa[Ba,beq_self_eq_true]
   .let B:(x==n)=false:=by simpa using hx
    let G:∀(p:Str×Ha)(t:List (Str×Ha)),p.1=n->(p::t).lookup x=t.lookup x:=by
     intro p t e;let{a,b}:=p;let Y:a=n:=e;subst Y;rw[Ba,B]
    rw[G _ _ (by split<;>rfl)]at h;rw[G _ _ W];show J h
 show O dE.names h
end L2
namespace L2
open PySem PySem.Spec PyProof.Rows
def nbOf(N T:List Str)(cs:List Nat):List Str:=T++cs.map λi=>N.getD i FY
def CD(σ:St)(T:List Str)(cs:List Nat):St:=T.map (λ_=>none)++cs.map λi=>σ.getD i none
structure CScope(dD dE:Scope)(N T:List Str)(cs:List Nat):Prop where
 kind:dE.kind=.function
 nocell:∀y∈dE.names,y.2≠.cell
 names:∀y∈dE.names,y.2=.local->dE.names.lookup y.1=some .local
 free:∀y∈dE.names,y.2=.free->dD.names.lookup y.1=some .cell\/dD.names.lookup y.1=some .free
 cap:∀i∈cs,dE.names.lookup (N.getD i FY)≠some .local
def ZP(dD dE:Scope)(N:List Str)(cs:List Nat):Bool :=
 decide (dE.kind=.function)&&(dE.names.all (λy=>!decide (y.2=Md))&&(dE.names.all (λy=>!decide (y.2=Ha.local) ||decide (dE.names.lookup y.1=some Ha.local)) &&
  (dE.names.all (λy=>!decide (y.2=C8) ||(decide (dD.names.lookup y.1=some Md) ||decide (dD.names.lookup y.1=some C8)))&&cs.all (λi=>!decide (dE.names.lookup (N.getD i FY)=some Ha.local)))))
def CScope.ok{dD dE:Scope}(h:ZP dD dE N cs=true):CScope dD dE N T cs:=by
 unfold ZP at h;simp only[B2,List.all_eq_true,Bool.or_eq_true,decide_eq_true_eq,QG,decide_eq_false_iff_not]at h;let{h1,h2,h3,h4,h5}:=h;exists h1,h2,λy B e=>(h3 y B).resolve_left (λq=>q e),λy B e=>(h4 y B).resolve_left (λq=>q e),h5
def Y7{l:List Str}(h:decide l.Nodup=true):l.Nodup:=Dz h
def blk(X:Cx)(T:List Str)(cs:List Nat)(dE:Scope)(C:Addr)(s₀:Cc)(H₀:Hp)(ex:List Addr):Cx where
 prog:=X.prog
 w:=X.w
 K:=X.K
 mg:=X.mg
 base:=X.base
 A:=X.A
 N:=nbOf X.N T cs
 s₀:=s₀
 H₀:=H₀
 env:=compEnvC dE (W3 X.env.cells dE.names []) C X.env
 outer:=X.stack
 stack:=X.stack
 ex:=ex
 fn:=λ_=>false
 calm:=X.calm
 pn:=[]
 xe:=λ_ _=>False
section
variable{dE:Scope} 
def AB.hl(I:AB X pq σ H s)(S:CScope X.env.scope dE X.N T cs):∀y∈dE.names,y.2=.free->∃c,X.env.cells.lookup y.1=some c :=
 λy h e=>I.ok.has y.1 (S.free y h e)
def AB.clo(I:AB X pq σ H s)(S:CScope X.env.scope dE X.N T cs)(h:(W3 X.env.cells dE.names []).lookup x=some c):X.env.cells.lookup x=some c :=
 (Sd (I.hl S) h).resolve_left (by simp)
theorem oS(I:AB X pq σ H s)(S:CScope X.env.scope dE X.N T cs)(hf:∀b∈fp,A3 X pq H b)(a3:∀b∈fp,∃o,s.heap.get? b=some o)(hC:s.heap.objs.size<=C)(ns:h1.Ns C m)(k:∀b o,s.heap.get? b=some o->h1.get? b=some o) :
  AB (blk X T cs dE C s H fp) [] (CD σ T cs) H {s with heap:=h1,toks:=tk}:=by
 let fr:H C=none:=I.hok.fresh hC;let cellS:∀{c:Addr}{v:Option Ca},s.heap.IsCell c v->h1.IsCell c v:=λ⟨o,e,d⟩=>{o,k _ o e,d};show{{I.ok.mod,S.kind,I.ok.glob,I.ok.blt,hC,λx y c e1 e2=>I.ok.inj x y c (I.clo S e1) (I.clo S e2),λx hx=>Th (Uk S.nocell hx),λx c h _=>D0 (show false=true from h) Gb,
  I.ok.hd,I.ok.frames,.inl W,λb J=>{?_,λx c e=>(hf b J).2.2.2.2.1 x c (I.clo S e)},I.bs,Js I.ok.bsz I.sz,λb o e J=>?_,λb J z=>?_,I.stack,I.stkFree},
  W,I.bare,Un.kept k,{m,ns,λi x v a5 a4 Z=>?_},λx c e=>?_,fr,λx c e=>I.freeC x c (I.clo S e),λp hp=>D0 (show p∈([]:List (Addr×Obj))from hp) (by simp),I.hok.kept k,?_}
 .let⟨o,e⟩:=a3 b J;show Gk (Gn (D7 e) hC)
 .rcases(hf b J).2.2.2.1 with z|z
  .show I.ok.noex b o e z
  .show D0 (Gn (Gn (D7 e) I.ok.bsz) z) (Bw _)
 .rcases Gd.mp (I.stkSub b z)with e|e
  .show(hf b J).2.1 e
  .show(hf b J).2.2.1 e
 .let h2:(CD σ T cs)[i]?=some (some v):=a4;let B:(nbOf X.N T cs)[i]?=some x:=a5;unfold CD at h2;unfold nbOf at B
  by_cases hi:i<T.length
  .rw[Jo (by simpa using hi),Gi]at h2;cases e:T[i]? with
   |none=>rw[e]at h2;cases h2
   |some a=>rw[e]at h2;cases h2
  .rw[J0 (by simpa using hi),Gi,Ja]at h2;rw[J0 (),Gi]at B;cases e:cs[i-T.length]? with
   |none=>rw[e]at h2;cases h2
   |some G =>
    rw[e]at h2 B;let ex:X.N.getD G FY=x:=BG B;let ev:σ.getD G none=some v:=BG h2;let a0:σ[G]?=some (some v):=by
     rw[Go]at ev;cases q:σ[G]? with
     |none=>rw[q]at ev;cases ev
     |some z=>rw[q]at ev;show congrArg some ev
    let Y:G<X.N.length:=by
     let:=(Jd.mp a0).1;rw[I.len]at this;show this
    let eN:X.N[G]?=some x:=by
     rw[Go,Jb Y]at ex;rw[Jb Y];show congrArg some ex
    let hfree:(x,C8)∈dE.names:=by
     rcases Z with z|z|z
     .show D0 (Sw z) (by rw[<-ex];show S.cap G (G3 e))
     .show Uk S.nocell (.inl z)
     .show Uk S.nocell (.inr z)
    let ok:=S.free _ hfree W;let{m',a6,a2}:=I.loc;let{u,r,l}:=a2 G x v eN a0 (.inr ok);show{u,r,?_};rcases l with⟨kd,_⟩|⟨_,c,ec,z⟩
    .let O:X.env.scope.names.lookup x=some .local:=kd;rcases ok with q|q<;>(rw[show X.env.scope.names.lookup x=_ from q]at O;cases O)
    .let⟨c',a1⟩:=Th (cells:=X.env.cells) (acc:=[]) hfree;let:c'=c:=by
      let q:=I.clo S a1;rw[ec]at q;show(BG q).symm
     subst this;show .inr {?_,c',a1,cellS z};rcases Z with q|q|q
     .show D0 (Sw q) (by rw[<-ex];show S.cap G (G3 e))
     .show .inl q
     .show .inr q
 .let⟨v,z⟩:=I.cell x c (I.clo S e);show{v,cellS z}
 .show(CD σ T cs).length=(nbOf X.N T cs).length;simp[CD,nbOf]
def AB.track{D:Addr}(I:AB X pq σ H s)(Z:s.heap.get? D=some {cls:=.type "list",data:=.seq its.toArray n})(f:A3 X pq H D)(O:AF ys its)(hz:ys.length<=Cb) :
  AB X pq σ (upd H D (.lst ys)) s:=by
 let{B,f1,f2,f3,f4,f5}:=f;let J:BN X.prog X.w (upd H D (.lst ys)) s.heap:=λb u e=>by
  by_cases G:b=D
  .subst G;rw[Zw]at e;cases e;show{hz,its,n,O,Z}
  .rw[Zq G]at e;show(I.hok b u e).stay (λ_ _ _ q=>q) (λc q=>by rwa[Zq (Z8 q B)]) λc xs q=>by rwa[Zq (Z8 q B)]
 let st:=I.step (H':=upd H D (.lst ys)) (h':=s.heap) (g':=s.gens) (t':=s.toks) (d':=s.drawn) (ch:=[D])
  (λb G=>by
   let e:b=D:=by simpa using G
   subst e;show{f3,f1,f4,f5})
  (λb o _ _ _ e _=>e) (λb o _ _ _ e _=>{o.slots,e}) (λb o Y e n=>by rw[Zq (λz=>Y (by simp[z]))];show n) (λb o _ e=>{o,e})
  (λb xs e=>by rwa[Zq (Z8 e B)]) (λb o u e=>by rwa[Zq (Z8 e B)]) (λb ps e=>{#[],by rw[Zq (Z8 e B),e];simp}) (λm h=>h) J I.bare
 show st
end
section
variable{R:EZ->Cc->Prop} 
abbrev VB(ifs:List Expr)(env:Env):Sem Bool:=forIn ifs true λc r=>if r=true then do let ok <-isTrue c env (eval c env);pure (Er ok)else pure (Er r)
theorem tY{elt target iter:Expr}{ifs:List Expr}{dE:Scope}{it acc:Ca}{env:Env}(I:Nat->Cc->Prop)(turn:∀n s,I n s->Cg (Cj prog w) A (DI it) (λr G=>match r with
   |none=>R (.ok .next) G
   |some v=>Cg (Cj prog w) A (Mi target it v) (λ_ Z=>Cg (Cj prog w) A (DP target env v) (λ_ Y =>
     Cg (Cj prog w) A (VB ifs env) (λok B =>
      if ok=true then Cg (Cj prog w) A (eval elt env) (λx O =>
       Cg (Cj prog w) A (call (.builtin "list.append") [acc,x]) (λ_ J=>∃m,m<n/\I m J) (λ_ _=>False) O) (λ_ _=>False) B
      else ∃m,m<n/\I m B) (λ_ _=>False) Y) (λ_ _=>False) Z) (λ_ _=>False) G) (λ_ _=>False) s)(n:Nat)(h:I n s) :
  K7 (Cj prog w) A (.compLoop (.ListComp elt [{target,iter,ifs,0}] dE dF) 0 it acc env) R s:=by
 show codeAny_loop W I (λn s hI=>?_) n h;show Cg _ A ((compTurn (.ListComp elt [{target,iter,ifs,0}] dE dF) 0 it acc env).onRaise (λx=>do EG x env;WK x)) _ _ s;show wpAny_noted ?_;rw[compTurn_list];show D3 (E5 (D3 (BJ (turn n s hI) (λr G h₁=>?_) λ_ _ h'=>Cy h')));cases r with
 |none=>show D4 h₁
 |some v =>
  show D3 (BJ h₁ (λ_ Z a4=>?_) λ_ _ h'=>Cy h');show D3 (BJ a4 (λ_ Y a3=>D3 (BJ a3 (λok B a0=>?_) λ_ _ h'=>Cy h')) λ_ _ h'=>Cy h');cases ok with
  |false=>show D4 {W,a0}
  |true =>
   show D3 (D3 (BJ a0 (λx O a2=>D3 (BJ a2 (λ_ J a1=>D4 (D4 {W,a1})) λ_ _ h'=>Cy h')) λ_ _ h'=>Cy h'))
end
def PTs(X:Cx)(ifs:List Expr)(t:TT):Prop :=
 ∀(pq:List (Addr×Obj))(s:Cc)(σ:St)(H:Hp)(Q:Bool->Hp->Prop),AB X pq σ H s->t σ H Q->Cg (Cj X.prog X.w) X.A (VB ifs X.env) (TP X pq σ Q) X.xe s
def ZU:TT:=λ_ H Q=>Q true H
def Y5 :PTs X [] ZU:=λpq s σ H Q I h=>wpAny_tests_nil {H,I,h}
def Vb{c:Expr}{t:TT}(B:PT X c t):PTs X [c] t:=λpq s σ H Q I h=>wpAny_tests_one (B pq s σ H Q I h)
def Ag(n:Nat)(σ h:St):Prop:=σ.length=h.length/\∀i,n<=i->σ[i]?=h[i]?
def FW(g:TG)(n:Nat):Prop:=∀B x σ H R,Ag n σ B->g x σ H R->g x σ H λh G=>R h G/\Ag n h B
def IW(g:TGs)(n:Nat):Prop:=∀B xs σ H R,Ag n σ B->g xs σ H R->g xs σ H λh G=>R h G/\Ag n h B
theorem Ag.set(a:Ag n σ σ0)(h:i<n)(v:Option V):Ag n (σ.set i v) σ0 :=
 {by rw[Gz];show a.1,λj B=>(G2 ()).trans (a.2 j B)}
def Xb(h:i<n):FW (EF i) n:=λB x σ H R a q=>{q,a.set h _}
def W1 :IW gNil n:=λh xs σ H R a q=>{q.1,q.2,a}
def Yf(h:i<n)(h2:IW u n):IW (MC (EF i) u) n:=λB xs σ H R a q=>by
 let{v,r,e,q}:=q;show{v,r,e,h2 B r _ _ _ (a.set h _) q}
def Uy(h:IW t n):FW (gTup K m t) n:=λB x σ H R J q=>by
 let{a,xs,e,G,hl,q}:=q;show{a,xs,e,G,hl,h B xs σ H R J q}
section
variable{dE:Scope}{elt iter:Expr}{ifs:List Expr}{g:TG}{tt:TT} 
theorem XA{RR:Ca->Addr->EZ->Cc->Prop}{Fin:List V->Hp->Prop}(I:AB X pq σ H s)(hc:X.calm=true)(S:CScope X.env.scope dE X.N T cs)(Tn:Turn X.prog X.w X.K tg J fp it tn)(st:tn 0 s.heap)(hf:∀b∈fp,A3 X pq H b)(hg:∀C s₀ H₀ ex,PG (blk X T cs dE C s₀ H₀ ex) tg g)(ht:∀C s₀ H₀ ex,PTs (blk X T cs dE C s₀ H₀ ex) ifs tt)(he:∀C s₀ H₀ ex,PE (blk X T cs dE C s₀ H₀ ex) elt te)(hk:FW g T.length)(W:Nat->Nat->List V->Hp->Prop)(w0:∃m,W 0 m [] H)(turn:∀i m ys H,W i m ys H->(J.stop i H/\ys.length<=Cb/\Fin ys H)\/(J.go i H/\ys.length<Cb/\∃N:List V->Hp->Prop,(∀b3 H',N b3 H'->∃m',m'<m/\W (i+1) m' b3 H') /\
   ∀x H',J.yld i H x H'->g x (CD σ T cs) H' λb2 H2=>tt b2 H2 λb H3=>if b=true then te b2 H3 λy H4=>N (ys++[y]) H4 else N ys H3))(fin:∀(D C:Addr)(s':Cc)(m:Str->Option Ca)(ys:List V)(H':Hp),Fin ys H'->H' D=none->s'.heap.Ns C m->A3 X pq H' C->C≠D->AB X pq σ (upd H' D (.lst ys)) s'->RR (.ref D) C (.ok .next) s') :
  Cg (Cj X.prog X.w) X.A (newList []) (λacc b6=>Cg (Cj X.prog X.w) X.A (newFunctionEnv dE X.env.globals (W3 X.env.cells dE.names []) [] X.env.qual none .none (some X.env)) (λa6 b5 =>
   K7 (Cj X.prog X.w) X.A (.compStart (.ListComp elt [{tg,iter,ifs,0}] dE dF) 0 (.ref it) acc {a6 with scope:=HV dE X.env}) (RR acc a6.locals) b5) E b6) E s:=by
 show Ei (wpAny_newFunctionEnv S.nocell (by intro y hy;simp at hy) (λh₁ G h=>?_) S.kind);dsimp only at G h⊢;generalize a9:s.heap.push {cls:=.type "list",dict:=none,data:=.seq ([]:List Ca).toArray}=H2 at G h⊢;let b1:H2.objs.size=s.heap.objs.size+1:=by rw[<-a9,Kw]
 let a3:s.heap.objs.size≠H2.objs.size:=by rw[b1];show Gk (B1 _)
 let a2:s.heap.objs.size<=H2.objs.size:=by rw[b1];show Bg _
 let old:∀b o,s.heap.get? b=some o->h₁.get? b=some o:=λb o e =>
  h.extBut b o (by rw[b1];show Gk (B8 (D7 e))) (D5 _ (a9 ▸ D5 _ e))
 let c0:h₁.get? s.heap.objs.size=some {cls:=.type "list",data:=.seq ([]:List Ca).toArray 0}:=h.extBut _ _ a3 (D5 _ (a9 ▸ D6 _ rfl));let b9:∀b∈fp,∃o,s.heap.get? b=some o:=λb B=>let{o,e,_}:=Tn.obj _ _ st b B;{o,e}
 let a8:∀b∈fp,b<s.heap.objs.size:=λb B=>let{o,e}:=b9 b B;D7 e
 let a0:tn 0 h₁:=Tn.keep _ _ _ st λb _ o e=>old b o e;generalize O:s.heap.objs.size=D at *
 generalize c8:H2.objs.size=C at *
 let c2:H D=none:=I.hok.fresh (F1 O);let a1:∀{H':Hp}{its:List Ca}{n:Nat},(∀b∈fp,H' b=none)->∀b∈fp,A3 (blk X T cs dE C s H fp) [(D,({cls:=.type "list",data:=.seq its.toArray n}:Obj))] H' b:=λhn b B=>by
  let{f0,f1,f2,f3,f4,f5}:=hf b B;exists hn b B,Gk (Gn (a8 b B) a2),λz=>?_,.inl B,λx c e=>f4 x c (I.clo S e),λp hp z=>?_
  .rcases Gd.mp (I.stkSub b z)with e|e
   .show f1 e
   .show f2 e
  .let e:p.1=D:=by
    rcases Jw.mp hp with q|q
    .show D0 (show p∈([]:List (Addr×Obj))from q) (by simp)
    .rw[Jj.mp q]
   show D0 (a8 b B) (by rw[<-z,e];show Bw _)
 let a5:∀tk:Nat,K7 (Cj X.prog X.w) X.A (.compLoop (.ListComp elt [{tg,iter,ifs,0}] dE dF) 0 (.ref it) (.ref D) (compEnvC dE (W3 X.env.cells dE.names []) C X.env)) (RR (.ref D) C) {s with heap:=h₁,toks:=tk}:=by
  intro tk;let I1:AB (blk X T cs dE C s H fp) [] (CD σ T cs) H {s with heap:=h₁,toks:=tk}:=oS I S hf b9 (by rwa[O]) G old;let{m0,w0}:=w0;let a4:∀{Y:St}{H':Hp}{s':Cc}{its:List Ca}{n:Nat}{pl:List (Addr×Obj)},AB (blk X T cs dE C s H fp) pl Y H' s'->s'.heap.get? D=some {cls:=.type "list",data:=.seq its.toArray n}->H' D=none ->
    AB (blk X T cs dE C s H fp) [(D,({cls:=.type "list",data:=.seq its.toArray n}:Obj))] Y H' s':=λ{Y H' s' its n pl}J e hn=>J.pins_of λp hp=>by
   obtain rfl:=Jj.mp hp;show{e,hn,a3,λz=>?_,λv q=>by cases q};let z':D∈CK X.stack:=z;let{_,o,ho,_}:=I.stack.mem z';show D0 (D7 ho) (by rw[O];show Bw _)
  show tY (λn s'=>∃(i:Nat)(ys:List V)(its:List Ca)(k:Nat)(H':Hp),AB (blk X T cs dE C s H fp) [(D,({cls:=.type "list",data:=.seq its.toArray k}:Obj))] (CD σ T cs) H' s'/\AF ys its/\tn i s'.heap/\(∀b∈fp,H' b=none)/\W i n ys H') ?_ m0
   {0,[],[],0,H,a4 I1 c0 c2,.nil,a0,λb B=>(hf b B).1,w0}
  rintro n s1 ⟨i,ys,its,k,H1,J1,rv,b8,fr1,w1⟩;rcases turn i n ys H1 w1 with⟨b7,hz,fq⟩|⟨go,hz,N,hN,step⟩
  .show BJ (Tn.done (blk X T cs dE C s H fp) rfl rfl rfl hc i _ s1 _ H1 (λ_ _=>False) J1 (a1 fr1) b8 b7) (λr s2 hz=>?_) λ_ _ z=>z;let{hr,J2}:=hz;subst hr;let{eD,nD,_}:=J2.pin (D,({cls:=.type "list",data:=.seq its.toArray k}:Obj)) (Jr _ (Jj.mpr rfl));let J3:AB X pq σ H1 s2:=I.call' (ch:=fp) J2.os J2.base J2.hok J2.bare λb B=>by
    let{f0,f1,f2,f3,f4,f5}:=hf b B;show{f3,f1,f4,f5}
   let{mC,c3,_}:=J2.loc;let fC:A3 X pq H1 C:=I.fpOk (by rwa[O]) J2.free;let fD:A3 X pq H1 D:=I.fpOk (F1 O) nD;show fin D C s2 mC ys H1 fq nD c3 fC (Et a3) (J3.track eD fD rv hz)
  .show BJ (Tn.item (blk X T cs dE C s H fp) rfl rfl rfl hc i _ s1 _ H1 (λ_ _=>False) J1 (a1 fr1) b8 go) (λr s2 hz=>?_) λ_ _ z=>z;let{u,hr,h2}:=hz;subst hr;show BJ h2 (λ_ s3 hz=>?_) λ_ _ z=>z;let{x,H3,J3,r3,y3,a7,c5}:=hz;let c7:=J3.pinned (a1 c5) (Tn.obj _ _ a7);show BJ (hg C s H fp _ s3 _ H3 x u _ c7 r3 (hk (CD σ T cs) x _ H3 _ {rfl,λ_ _=>rfl} (step x H3 y3))) (λ_ s4 hz=>?_) λ_ _ z=>z;let{Z,H4,J4,q4,l4,k4}:=hz;show BJ (ht C s H fp _ s4 Z H4 _ J4 q4) (λb s5 hz=>?_) λ_ _ z=>z;let{H5,J5,q5}:=hz;let wk:∀{pl:List (Addr×Obj)}{H':Hp}{s':Cc},AB (blk X T cs dE C s H fp) pl Z H' s'->AB (blk X T cs dE C s H fp) pl (CD σ T cs) H' s':=λJ=>J.weak l4.symm λj v e=>by
    by_cases hj:T.length<=j
    .rw[k4 j hj];show e
    .exfalso
     unfold CD at e;rw[Jo (by simp;lia),Gi]at e;cases q:T[j]? with
     |none=>rw[q]at e;cases e
     |some a=>rw[q]at e;cases e
   let b4:∀{H':Hp}{s':Cc}{Y:St},AB (blk X T cs dE C s H fp) ([(D,({cls:=.type "list",data:=.seq its.toArray k}:Obj))]++GZ fp s3.heap) Y H' s'->tn (i+1) s'.heap/\∀b∈fp,H' b=none:=λ{H' s' Y}J=>by
    exists Tn.keep _ _ _ a7 λb B o e=>(J.pin (b,o) (Jr _ (Jr _ (Tg B e)))).1,λb B=>?_;let{o,e,d}:=Tn.obj _ _ a7 b B;show(J.pin (b,o) (Jr _ (Jr _ (Tg B e)))).2.1
   cases b with
   |false =>
    rw[D8 Gb]at q5⊢;let{m',hm,w5}:=hN _ _ q5;let{t5,f5}:=b4 J5;show{m',hm,i+1,ys,its,k,H5,wk J5.unpinned,rv,t5,f5,w5}
   |true =>
    rw[D9 rfl]at q5⊢;show BJ (he C s H fp _ s5 Z H5 _ J5 q5) (λuy s6 hz=>?_) λ_ _ z=>z;let{y,H6,J6,ry,n6}:=hz;let{m',hm,w6}:=hN _ _ n6;let{t6,f6}:=b4 J6;let{eD,nD,_}:=J6.pin (D,({cls:=.type "list",data:=.seq its.toArray k}:Obj)) (Jr _ (Gs _ (Jj.mpr rfl)));let hsz:its.toArray.size<=Cb:=by rw[Jp,<-rv.length];lia
    show append_at (hsz:=hsz) eD λh7 sb c4=>?_;let c6:AB (blk X T cs dE C s H fp) [] Z H6 s6:=J6.pins_of λp hp=>D0 hp (by simp);let J7:AB (blk X T cs dE C s H fp) [] Z H6 {s6 with heap:=h7}:=c6.turned (t':=s6.toks) (it:=D) (λb o B e=>(sb.2 b B).trans e) nD a3 (.inr (F1 O))
     (λx c e z=>by
      let{v,q}:=I.cell x c (I.clo S e);show D0 q.lt (by rw[z,O];show Bw _))
     (λp hp=>D0 hp (by simp[blk]))
    let c1:h7.get? D=some {cls:=.type "list",data:=.seq (its++[uy]).toArray (k+1)}:=by
     rw[c4,aM]
    exists m',hm,i+1,ys++[y],its++[uy],k+1,H6,wk (a4 J7 c1 nD),rv.append (.cons ry .nil),Tn.keep _ _ _ t6 λb B o e=>(sb.2 b (Gk (a8 b B))).trans e,f6,w6
 show codeAny_compStart_list (a5 _) (Tn.self _ 0 _ _ _ a0 (a5 _))
def GY(wi:TI)(g:TG)(tt:TT)(te:TE)(T:List Str)(cs:List Nat):TE:=λσ H Q=>wi σ H λJ H1=>∃W:Nat->Nat->List V->Hp->Prop,(∃m,W 0 m [] H1) /\
 ∀i m ys H,W i m ys H->(J.stop i H/\ys.length<=Cb/\∀p,H p=none->Q (.ref p) (upd H p (.lst ys)))\/(J.go i H/\ys.length<Cb/\∃N:List V->Hp->Prop,(∀B H',N B H'->∃G,G<m/\W (i+1) G B H') /\
  ∀x H',J.yld i H x H'->g x (CD σ T cs) H' λh Z=>tt h Z λb O=>if b=true then te h O λy Y=>N (ys++[y]) Y else N ys O)
def Yw(hc:X.calm=true)(S:CScope X.env.scope dE X.N T cs)(hi:PI X tg iter wi)(hg:∀C s₀ H₀ ex,PG (blk X T cs dE C s₀ H₀ ex) tg g)(ht:∀C s₀ H₀ ex,PTs (blk X T cs dE C s₀ H₀ ex) ifs tt)(he:∀C s₀ H₀ ex,PE (blk X T cs dE C s₀ H₀ ex) elt te)(hk:FW g T.length)(hs:∀x,KL iter X.env x=pure x:=by intro _;rfl):PE X (.ListComp elt [{tg,iter,ifs,0}] dE dF) (GY wi g tt te T cs):=by
 intro pq s σ H Q I h;rw[eval_ListComp];show TM (use:=none) rfl hs (Ny (I.hl S)) S.kind S.names (AS (hi pq s σ H _ I h) λv s1 h1=>AS h1 λZ s2 h2=>?_);let{it,fp,tn,J,H2,e,I2,Tn,st,hf,W,O,turn}:=h2;subst e;show XA (RR:=λacc C=>compPost (Cj X.prog X.w) X.A X.xe none (EP X pq σ Q) acc C) (Fin:=λys H=>∀p,H p=none->Q (.ref p) (upd H p (.lst ys))) I2 hc S Tn st hf hg ht he hk W O turn ?_;intro D C s' m ys H' q Y hn B G I';exists m,hn,λh' sb=>{.ref D,_,I'.turned (t':=s'.toks) (it:=C) (λb o hb e=>(sb.2 b hb).trans e) ?_ B.2.1 B.2.2.2.1 B.2.2.2.2.1 B.2.2.2.2.2,rfl,q D Y}
 rw[Zq G];show B.1
def Ul{i:Nat}{y:Str}{Y G:Pos}(hN:X.N.Nodup)(hy:X.N[i]?=some y)(hl:X.env.scope.names.lookup y=some .local)(hc:X.calm=true)(S:CScope X.env.scope dE X.N T cs)(hi:PI X tg iter wi)(hg:∀C s₀ H₀ ex,PG (blk X T cs dE C s₀ H₀ ex) tg g)(ht:∀C s₀ H₀ ex,PTs (blk X T cs dE C s₀ H₀ ex) ifs tt)(he:∀C s₀ H₀ ex,PE (blk X T cs dE C s₀ H₀ ex) elt te)(hk:FW g T.length)(hs:∀x,KL iter X.env x=pure x:=by intro _;rfl)(a1:Mh (.ListComp elt [{tg,iter,ifs,0}] dE dF) (some (.Name y Y)) G.line X.env=pure true:=by rfl):PS X (.Assign [.Name y Y] (.ListComp elt [{tg,iter,ifs,0}] dE dF) G) (tAsg (GY wi g tt te T cs) (EF i)):=by
 intro pq s σ H D I h;rw[exec_Assign_Name_used _ _ _ _ a1];show D3 (E5 (D3 ?_));show Cg _ X.A (do let _ <-comprehension (.ListComp elt [{tg,iter,ifs,0}] dE dF) dE X.env _ (newList []) false (eval iter X.env) (some (DP (.Name y Y) X.env))) _ _ s;show D3 (BJ (TM (use:=some (DP (.Name y Y) X.env)) (Q:=λ_ s'=>SP X pq D .next s') rfl hs (Ny (I.hl S)) S.kind S.names
  (AS (hi pq s σ H _ I h) λv s1 h1=>AS h1 λa4 s2 h2=>?_)) (λ_ s' hq=>D4 (D4 hq)) λ_ _ e=>e)
 let{it,fp,tn,J,H2,e,I2,Tn,st,hf,W,w0,turn}:=h2;subst e;show XA (RR:=λacc C=>compPost (Cj X.prog X.w) X.A X.xe (some (DP (.Name y Y) X.env)) (λ_ s'=>SP X pq D .next s') acc C) (Fin:=λys H=>∀p,H p=none->EF i (.ref p) σ (upd H p (.lst ys)) D.nx) I2 hc S Tn st hf hg ht he hk W w0 turn ?_;intro B C s' m ys H' q nB hn O a2 I';show Cg _ X.A (DP (.Name y Y) X.env (.ref B)) _ _ s';show UE (aF (v:=.ref B) I' hN hy (.inl hl) rfl (λa0 a3 hz=>?_) (.inr hl));let{a,sb,ha}:=hz;let nC:C≠a:=by
  rcases ha with z|z
  .rw[z];show O.2.1
  .show Et (O.2.2.2.2.1 y a z)
 exists m,hn.sameBut sb nC,λh' Z=>{_,_,a3.turned (t':=a0.toks) (it:=C) (λb o hb e=>(Z.2 b hb).trans e) ?_ O.2.1 O.2.2.2.1 O.2.2.2.2.1 O.2.2.2.2.2,q B nB};rw[Zq a2];show O.1
end
theorem yO{J:It}{n:Nat}{g:TG}{tt:TT}{O:St}{H1:Hp}{F:List V->Hp->Prop}(B:Nat->List V->Hp->Prop)(h0:B 0 [] H1)(hn:∀i ys H,B i ys H->ys.length<=i)(hz:n<=Cb)(Z:∀i ys H,i<n->B i ys H->J.go i H)(hstop:∀ys H,B n ys H->J.stop n H)(hs:∀i ys H,i<n->B i ys H->∀x H',J.yld i H x H'->g x O H' λh H2=>tt h H2 λb Y=>if b=true then te h Y λy H4=>B (i+1) (ys++[y]) H4 else B (i+1) ys Y)(hd:∀ys H,B n ys H->F ys H) :
  ∃W:Nat->Nat->List V->Hp->Prop,(∃m,W 0 m [] H1)/\∀i m ys H,W i m ys H->(J.stop i H/\ys.length<=Cb/\F ys H)\/(J.go i H/\ys.length<Cb/\∃N:List V->Hp->Prop,(∀G H',N G H'->∃m',m'<m/\W (i+1) m' G H') /\
   ∀x H',J.yld i H x H'->g x O H' λh H2=>tt h H2 λb Y=>if b=true then te h Y λy H4=>N (ys++[y]) H4 else N ys Y):=by
 exists λi m ys H=>m=n-i/\i<=n/\B i ys H,{n,rfl,J9 _,h0},?_;rintro i m ys H ⟨rfl,hi,p⟩;let hl:=hn i ys H p
 by_cases hlt:i<n
 .show .inr {Z i ys H hlt p,(),B (i+1),λG H' q=>{n-(i+1),(),rfl,hlt,q},hs i ys H hlt p}
 .let e:i=n:=by lia
  subst e;show .inl {hstop ys H p,(),hd ys H p}
section
def QX(K:Cq):V->V->Hp->VK->Prop:=λo i H Q=>∃p xs k v,o=.ref p/\i=.int ((k:Nat):Int)/\Ad K H p xs/\xs[k]?=some v/\Q v H
theorem zP:PGet X (QX X.K):=by
 intro pq s σ H o i ov iv Q I J O h;let{p,xs,k,v,rfl,rfl,Z,hx,q}:=h;cases J;let{t,rfl}:=O;let{its,B,pl,hz}:=I.list Z;let{u,Y,G}:=B.get hx;let hk:k<xs.length:=(Jd.mp hx).1;let hn:=Nn;show wpAny_getItem_list pl.isList () () (by simpa using Y) {v,H,I,G,q}
theorem AF.bl_get{bs:List Bool}(r:AF (bs.map V.bl) us){i:Nat}{v:Ca}(e:us[i]?=some v):∃b,bs[i]?=some b/\v=.bool b:=by
 let hi:i<us.length:=(Jd.mp e).1;let hl:=r.length;rw[Ja]at hl;let B:i<bs.length:=by lia
 let J:(bs.map V.bl)[i]?=some (V.bl bs[i]):=by rw[Gi,Jb B];rfl
 let{u,h,G}:=r.get J;rw[e]at h;cases h;show{bs[i],Jb B,G}
def iD(bs:List Bool):((C2 bs.length).any λi=>(bs[i]?).getD false)=bs.any id:=by
 rw[Fp];simp only[Dl,G1,id]
 constructor
 .rintro⟨i,hi,e⟩;rw[Jb hi]at e;show{_,Jv hi,e}
 .rintro⟨b,h,e⟩;let{i,hi,B}:=List.mem_iff_getElem.mp h;show{i,hi,?_};rwa[Jb hi,B]
def Zno(hc:X.calm=true):W5 X (.builtin "any") (λxs H Q=>∃(p:Addr)(bs:List Bool),xs=[.ref p]/\Ad X.K H p (bs.map V.bl)/\Q (.bl (bs.any id)) H):=by
 intro pq s σ H xs us Q I r h;let{p,bs,rfl,Z,q}:=h;let{u,rfl,Y}:=P3 r;cases Y;let{its,J,pl,hz}:=I.list Z;let B:=J.length;rw[Ja]at B;let G:p<s.heap.objs.size:=by let{_,e,_}:=pl.isList;show D7 e
 show call_any_walk (Ln pl.isList ?_);show{s.heap.objs.size,[s.heap.objs.size,p],[s.heap.objs.size],its.toArray.size,_,_,λi=>(bs[i]?).getD false,W,Walks.list (A:=X.A.in1) (I.ok.hd hc) _ p (Gk G) its.toArray,
  {{_,D6 _ W,W,W},pl.isList.push _},λi v s' Q' E' hP O=>?_,λh' tk hk=>?_}
 .let⟨b,e,rfl⟩:=J.bl_get (by simpa using hP);simp only[e,OT]at O;show Eh O
 .rw[Jp,<-B,iD];show{.bl (bs.any id),H,I.kept (t':=tk) (Mv hk),W,q}
def xT:W5 X (.builtin "isinstance") (λxs H Q=>∃x T t b,xs=[x,.ty T]/\TyOf X.K H x t/\Hu X.K t (.type T)=some b/\Q (.bl b) H):=by
 intro pq s σ H xs us Q I r h;let{x,T,t,b,rfl,ty,e,q}:=h;let{u,J,rfl,G,B}:=IN r;cases B;show Zjx I G ty e λtk=>{.bl b,H,I.tok tk,W,q}
def rSlS:V->Option Int->Option Int->Hp->VK->Prop:=λx lo hi H Q=>∃z,x=.str z/\z.length<=Cb/\Q (.str (Txt.slice z lo hi)) H
theorem mH:SlR X rSlS:=by
 intro pq s σ H x v Y O lo hi sl Q I J hs pl G h;let{z,rfl,hz,q}:=h;let{t,rfl}:=J;show{"str",_,F.slot_str_getitem.lookup,OL _ _ _,?_};cases pl with
 |none =>
  cases G with
  |none=>show Hx (l:=none) (u:=none) (st:=none) hs W (Mn {Js (Txt.slice_le z _ _) hz,λt' k=>{.str _,H,I.tok _,{_,W},q}})
  |int j B=>show Hx (l:=none) (u:=some (j,B)) (st:=none) hs W (Mn {Js (Txt.slice_le z _ _) hz,λt' k=>{.str _,H,I.tok _,{_,W},q}})
 |int i ti =>
  cases G with
  |none=>show Hx (l:=some (i,ti)) (u:=none) (st:=none) hs W (Mn {Js (Txt.slice_le z _ _) hz,λt' k=>{.str _,H,I.tok _,{_,W},q}})
  |int j B=>show Hx (l:=some (i,ti)) (u:=some (j,B)) (st:=none) hs W (Mn {Js (Txt.slice_le z _ _) hz,λt' k=>{.str _,H,I.tok _,{_,W},q}})
end
mutual
inductive DV(K:Cq)(H:Hp):V->PyData->Prop
 |non:DV K H .non .none
 |bl (b:Bool):DV K H (.bl b) (.bool b)
 |int (i:Int):DV K H (.int i) (.int i)
 |str (x:Str):DV K H (.str x) (.str x)
 |lst {a:Addr} {xs:List V} {ds:List PyData} (h:Ad K H a xs) (r:DVs K H xs ds):DV K H (.ref a) (.list ds)
 |tup {a:Addr} {xs:List V} {ds:List PyData} (h:A2 K H a xs) (r:DVs K H xs ds):DV K H (.ref a) (.tuple ds)
inductive DVs(K:Cq)(H:Hp):List V->List PyData->Prop
 |nil:DVs K H [] []
 |cons {x:V} {d:PyData} {xs:List V} {ds:List PyData} (h:DV K H x d) (r:DVs K H xs ds):DVs K H (x::xs) (d::ds)
end
section
mutual
theorem S7(I:AB X pq σ H s):∀{x:V}{d:PyData}{u:Ca},DV X.K H x d->AJ x u->∃as,Reads s.heap u d as
 |_,_,u,.non,r=>by obtain rfl:u=Ca.none:=r;show{_,Reads.none}
 |_,_,u,.bl b,r=>by obtain rfl:u=K0 b:=r;show{_,Reads.bool b}
 |_,_,u,.int i,r=>by let{t,rfl}:=(show ∃t,u=Mf i t from r);show{_,Reads.int i t}
 |_,_,u,.str x,r=>by let{t,rfl}:=(show ∃t,u=FD x t from r);show{_,Reads.str x t}
 |_,_,u,.lst (a:=a) h q,r=>by
  obtain rfl:u=Cd a:=r;let{its,B,{o,n,e,c,d,J},_}:=I.list h;let{as,G}:=dvs_reads I q B;show{_,reads_list_at e c J (by simpa using G)}
 |_,_,u,.tup (a:=a) h q,r=>by
  obtain rfl:u=Cd a:=r;let{its,B,{o,e,c,n,J},_}:=I.tuple h;let{as,G}:=dvs_reads I q B;show{_,reads_tuple_at e c J (by simpa using G)}
theorem dvs_reads(I:AB X pq σ H s):∀{xs:List V}{ds:List PyData}{us:List Ca},DVs X.K H xs ds->AF xs us->∃as,ReadsAll s.heap us ds as:=by
 intro _ _ _ G B;cases G with
 |nil=>
  cases B with
  |nil=>
   show{_,ReadsAll.nil}
 |cons h q=>
  cases B with
  |cons r J=>
   show by
     let{as,O}:=S7 I h r;let{bs,rb}:=dvs_reads I q J;show{_,ReadsAll.cons O rb}
end
def rEqD(K:Cq):R2:=λx y H Q=>∃dx h,DV K H x dx/\DV K H y h/\Ki dx=true/\Ki h=true/\Q (.bl (Km dx h)) H
def rNeD(K:Cq):R2:=λx y H Q=>∃dx h,DV K H x dx/\DV K H y h/\Ki dx=true/\Ki h=true/\Q (.bl (!PyData.eqv dx h)) H
def fY(hu:X.A.units+64<E8):Ay X (Eu .Eq) (rEqD X.K):=by
 intro pq s σ H x y v u Q I O J h;let{dx,dy,hx,Z,G,B,q}:=h;let{as,Y}:=S7 I hx O;let{bs,rb}:=S7 I Z J;show eq_dataH Y rb G B hu {.bl _,H,I,W,q}
def pZ(hu:X.A.units+64<E8):Ay X (Eu .NotEq) (rNeD X.K):=by
 intro pq s σ H x y v u Q I O J h;let{dx,dy,hx,Z,G,B,q}:=h;let{as,Y}:=S7 I hx O;let{bs,rb}:=S7 I Z J;show ne_dataH Y rb G B hu {.bl _,H,I,W,q}
end
def Aq(P:E4)(w:H9)(K:Cq)(mg:Str->Option Ca)(dC:Heap)(x:Str)(k:Nat)(ps:List Str)(sp:Sp):Prop :=
 ∃(f:Addr)(fd:Mx),AK P w K mg dC A7 k f fd ps sp/\mg x=some (.ref f)/\DW K (.ref f)=true/\Ud K fd ps []
section
variable{x:Str}{k:Nat}{sp:Sp}{e:Expr}{t:TA}{p:Pos}
def Zv(C:Aq X.prog X.w X.K X.mg X.base x k ps sp)(G:AG k X.A)(Y:Gl X x)(ha:PA X (e::es) t)(B:(x==("__debug__":Str))=false:=by decide)(Z:Cr (e::es) X.env=(false,eval e X.env)::Cr es X.env:=by rfl)(h:(Ks dF (Cr es X.env)).any (·.1)=false:=by rfl):PE X (.Call (.Name x p) (e::es) [] dF) (GV sp [] E0 t):=by
 let{f,fd,F,J,O,hb}:=C;show kM F G Y J O hb .nil Io ha B Z h
end
def Wc{o:HO}(h:H p=none):AL H (upd H p o):=λb u e=>by rwa[Zq (Z8 e h)]
def DJ(n:Nat)(d:PyData):Prop:=d.canLay0=true/\d.depth<=n
def DJ.shaped(h:DJ n d)(hn:n<=64):Ki d=true:=by
 unfold Ki;rw[h.1,Bool.true_and];show Ab (Js h.2 hn)
theorem KY{n:Nat}:∀{ds:List PyData},(∀d∈ds,DJ n d)->NY ds=true/\KJ ds<=n
 |[],_=>{by simp only[NY],by simp only[KJ];show J9 _}
 |d::r,h=>by
  let{h1,h2}:=h d Je;let{h3,h4}:=KY (n:=n) λx hx=>h x (Jg _ hx);exists by simp only[NY,h1,h3,Bool.and_self],?_;simp only[KJ];lia
theorem Zlv(h:∀d∈ds,DJ n d):DJ (n+1) (.list ds):=by
 let{h1,h2}:=KY h;show{by simp only[M9,h1],by simp only[Iv];lia}
theorem OW(h:∀d∈ds,DJ n d):DJ (n+1) (.tuple ds):=by
 let{h1,h2}:=KY h;show{by simp only[M9,h1],by simp only[Iv];lia}
def VF(i:Int):DJ 0 (.int i):={by simp only[M9],by simp only[Iv];show Jk _}
def Zn(h:n<=100000):n<=Cb:=Js h nofun
theorem jM{α:Type}{xs:List α}{r:Int}(h0:0<=r)(h1:r<xs.length):∃v,v∈xs/\atI xs r=some v:=by
 let h:r.toNat<xs.length:=by lia
 let{k,rfl}:=Fb h0;let h:k<xs.length:=h;show{xs[k],Jv h,IS (Jb h)}
def nY{dC:Heap}(F:AY K x x st f fd)(G:AK P w K mg dC A7 k f fd ps sp)(m:mg x=some (.ref f))(b:Ud K fd ps []) :
  Aq P w K mg dC x k ps sp:={f,fd,G,m,F.kp,b}
end L2
namespace L2
open PySem
def mE{n:Nat}{k:Int}(h0:0<=k)(h1:k<n):ixN n k=some k.toNat:=by
 unfold ixN;rw[D9 h0,D9 h1]
end L2
set_option maxHeartbeats 4000000
namespace L2
open PySem PyProof.Rows
def W2:Bool->Cm->Array Cm->Nat->Nat->Nat->StateT Cn Sem (Option Nat):=sortPriv% PySem.Builtin.gallop
def V1(left:Bool)(h:Cm)(B:Array Cm)(dC i:Nat):StateT Cn Sem (Option Bool):=do
 let x <-elem' B (dC+i)
 if left then lt' x h else return(<-lt' h x).map (!·)
def gJ(left:Bool)(h:Cm)(B:Array Cm)(dC n dL:Nat):W2 left h B dC n dL=(do
 let mut lastofs:=0
 let mut ofs:=1
 let mut lo:=0
 let mut hi:=0
 let some right <-V1 left h B dC dL|return none
 if right then
  let maxofs:=n-dL
  for _ in [0:n] do
   if ofs≥maxofs then break
   let some more <-V1 left h B dC (dL+ofs)|return none
   if !more then break
   lastofs:=ofs
   ofs:=2*ofs+1
  lo:=dL+lastofs+1
  hi:=dL+min ofs maxofs
 else
  let maxofs:=dL+1
  for _ in [0:n] do
   if ofs≥maxofs then break
   let some found <-V1 left h B dC (dL-ofs)|return none
   if found then break
   lastofs:=ofs
   ofs:=2*ofs+1
  lo:=dL+1-min ofs maxofs
  hi:=dL-lastofs
 for _ in [0:n] do
  if lo≥hi then break
  let m:=lo+(hi-lo) / 2
  let some more <-V1 left h B dC m|return none
  if more then lo:=m+1 else hi:=m
 return some hi):=rfl
section
variable{M:DC}{κ:SortKind}{S:Cm->Prop}{R:Cm->Int}
def CN(M:DC)(A:Kr)(E:Ca->Cc->Prop)(s:Cc)(κ:SortKind)(S:Cm->Prop)(R:Cm->Int):Prop:=∀(x y:Cm)(st:Cn)(Q:Option Bool->Cn->Prop),S x->S y->kindOf st=κ->Q (some (decide (R x<R y))) st->wpS M A E s (lt' x y) Q st
def Yb{Q:Cm->Cn->Prop}{st:Cn}(h:arr[i]?=some p)(B:Q p st):wpS M A E s (elem' arr i) Q st:=by
 rw[elem'_eq,h];show Ck B
theorem jT(O:CN M A E s κ S R){dC i:Nat}{st:Cn}{Q:Option Bool->Cn->Prop}(J:S key)(B:kindOf st=κ)(hx:arr[dC+i]?=some x)(G:S x)(ne:R x≠R key)(h:Q (some (decide (R x<R key))) st):wpS M A E s (V1 left key arr dC i) Q st:=by
 unfold V1;show Ch (Yb hx ?_);cases left with
 |true=>show O _ _ _ _ G J B h
 |false =>
  show Ch (O _ _ _ _ J G B (Ck ?_));show Q (some (!decide (R key<R x))) st;rw[show(!decide (R key<R x))=decide (R x<R key)from ?_]
  .show h
  .by_cases z:R x<R key
   .rw[Ab z,BB ()];rfl
   .rw[BB z,Ab ()];rfl
theorem SB{Y:Cm}{Z:Array Cm}{dC n:Nat}{st:Cn}{Q:Option Nat->Cn->Prop}{B:Nat->Bool}(mono:∀i j,i<=j->j<n->B j=true->B i=true)(ask:∀{i:Nat}{Q:Option Bool->Cn->Prop},i<n->Q (some (B i)) st->wpS M A E s (V1 left Y Z dC i) Q st)(fin:∀k,k<=n->(∀i,i<k->B i=true)->(∀i,k<=i->i<n->B i=false)->Q (some k) st){lo hi:Nat}(h1:lo<=hi)(h2:hi<=n)(h3:∀i,i<lo->B i=true)(h4:∀i,hi<=i->i<n->B i=false):wpS M A E s (do
   let mut lo:=lo
   let mut hi:=hi
   for _ in [0:n] do
    if lo≥hi then break
    let m:=lo+(hi-lo) / 2
    let some more <-V1 left Y Z dC m|return none
    if more then lo:=m+1 else hi:=m
   return some hi) Q st:=by
 show Ch (Kc (C9 (I:=λx c h=>h=st/\∃l r,c=(none,l,r)/\l<=r/\r<=n/\r-l<=n-x/\(∀i,i<l->B i=true)/\∀i,r<=i->i<n->B i=false) (Q:=λc h=>h=st/\∃r,c=(none,r,r)/\r<=n/\(∀i,i<r->B i=true)/\∀i,r<=i->i<n->B i=false) ?step ?fin ?init) ?post)
 case init=>show{W,lo,hi,W,h1,h2,(),h3,h4}
 case fin =>
  rintro c h ⟨rfl,l,r,rfl,a1,O,a3,J,G⟩;let:l=r:=by lia
  subst this;show{W,l,W,O,J,G}
 case step =>
  rintro x c h _ hx ⟨rfl,l,r,rfl,a1,O,a3,J,G⟩;dsimp only
  by_cases hge:l≥r
  .rw[D9 hge];let:l=r:=by lia
   subst this;show Ck {W,l,W,O,J,G}
  .rw[D8 hge];show Ch (ask () ?_);cases hb:B (l+(r-l) / 2)with
   |true =>
    simp only[if_true];show Ck {W,_,_,W,(),O,(),λi hi=>mono i _ () () hb,G}
   |false =>
    simp only[Gg,if_false];show Ck {W,_,_,W,(),(),(),J,λi hi hi2=>?_};cases hq:B i with
    |false=>rfl
    |true=>rw[mono _ i hi hi2 hq]at hb;cases hb
 case post =>
  rintro c h ⟨rfl,r,rfl,O,J,G⟩;show Ck (fin r O J G)
theorem Rf(HL:CN M A E s κ S R){dC n:Nat}{st:Cn}{Q:Option Nat->Cn->Prop}(hk:S key)(a0:kindOf st=κ)(hn:dL<n)(he:∀i,i<n->∃x,arr[dC+i]?=some x/\S x/\R x≠R key)(hs:∀i j x y,i<j->j<n->arr[dC+i]?=some x->arr[dC+j]?=some y->R x<R y)(h:∀k,k<=n->(∀i x,i<k->arr[dC+i]?=some x->R x<R key)->(∀i x,k<=i->i<n->arr[dC+i]?=some x->R key<R x)->Q (some k) st):wpS M A E s (W2 left key arr dC n dL) Q st:=by
 let' B:Nat->Bool:=λi=>match arr[dC+i]? with|some x=>decide (R x<R key)|none=>false
 let mono:∀i j,i<=j->j<n->B j=true->B i=true:=λi j a7 hj Z=>by
  rcases Fq i j with z|z
  .let⟨x,ex,_,_⟩:=he i ();let{y,ey,_,_}:=he j hj;let:=hs i j x y z hj ex ey;simp only[B,ey,ex,decide_eq_true_eq]at Z⊢;lia
  .let:i=j:=by lia
   rw[this];show Z
 let ask:∀{i:Nat}{Q:Option Bool->Cn->Prop},i<n->Q (some (B i)) st->wpS M A E s (V1 left key arr dC i) Q st:=λ{i Q}hi hq=>by
  let{x,ex,sx,nx}:=he i hi;show jT HL hk a0 ex sx nx ?_;simpa only[B,ex]using hq
 let fin:∀k,k<=n->(∀i,i<k->B i=true)->(∀i,k<=i->i<n->B i=false)->Q (some k) st:=λk a6 h1 h2=>h k a6 (λi x hi ex=>by
  let:=h1 i hi;simpa only[B,ex,decide_eq_true_eq]using this) λi x hi hi2 ex=>by
  let:=h2 i hi hi2;let{y,ey,_,ny}:=he i hi2;rw[ex]at ey;cases ey;simp only[B,ex,decide_eq_false_iff_not]at this;lia
 clear_value B;rw[gJ];show Ch (ask hn ?_);dsimp only;cases hB:B dL with
 |true =>
  simp only[if_true];show Ch (Kc (C9 (I:=λx c G=>G=st/\∃l o,c=(none,l,o)/\l<o/\x+1<=o/\dL+l<n/\B (dL+l)=true) (Q:=λc G=>G=st/\∃l o,c=(none,l,o)/\l<o/\dL+l<n/\B (dL+l)=true/\(n-dL<=o\/(dL+o<n/\B (dL+o)=false))) ?step ?fin ?init) ?post)
  case init=>show{W,0,1,W,nofun,nofun,hn,hB}
  case fin =>
   rintro c G ⟨rfl,l,o,rfl,Y,a2,O,J⟩;show{W,l,o,W,Y,O,J,.inl ()}
  case step =>
   rintro x c G _ hx ⟨rfl,l,o,rfl,Y,a2,O,J⟩;dsimp only
   by_cases hge:o≥n-dL
   .rw[D9 hge];show Ck {W,l,o,W,Y,O,J,.inl hge}
   .rw[D8 hge];show Ch (ask () ?_);cases Z:B (dL+o)with
    |true =>
     simp only[Bx,Gg,if_false];show Ck {W,_,_,W,(),(),(),Z}
    |false =>
     simp only[Bool.not_false,if_true];show Ck {W,l,o,W,Y,O,J,.inr {(),Z}}
  case post =>
   rintro c G ⟨rfl,l,o,rfl,Y,O,J,a5⟩;show SB mono ask fin ?_ ?_ (λi hi=>mono i (dL+l) (by have hi:i<dL+l+1:=hi;lia) O J) λi hi hi2=>?_
   .show dL+l+1<=dL+min o (n-dL);lia
   .show dL+min o (n-dL)<=n;lia
   .let hi:dL+min o (n-dL)<=i:=hi;rcases a5 with z|⟨z1,z2⟩
    .lia
    .cases hq:B i with
     |false=>rfl
     |true=>rw[mono (dL+o) i () hi2 hq]at z2;cases z2
 |false =>
  simp only[Gg,if_false];show Ch (Kc (C9 (I:=λx c G=>G=st/\∃l o,c=(none,l,o)/\l<o/\x+1<=o/\l<=dL/\B (dL-l)=false) (Q:=λc G=>G=st/\∃l o,c=(none,l,o)/\l<o/\l<=dL/\B (dL-l)=false/\(dL+1<=o\/(o<=dL/\B (dL-o)=true))) ?step2 ?fin2 ?init2) ?post2)
  case init2=>show{W,0,1,W,nofun,nofun,J9 _,hB}
  case fin2 =>
   rintro c G ⟨rfl,l,o,rfl,Y,a2,O,J⟩;show{W,l,o,W,Y,O,J,.inl ()}
  case step2 =>
   rintro x c G _ hx ⟨rfl,l,o,rfl,Y,a2,O,J⟩;dsimp only
   by_cases hge:o≥dL+1
   .rw[D9 hge];show Ck {W,l,o,W,Y,O,J,.inl hge}
   .rw[D8 hge];show Ch (ask () ?_);cases Z:B (dL-o)with
    |true =>
     simp only[if_true];show Ck {W,l,o,W,Y,O,J,.inr {(),Z}}
    |false =>
     simp only[Gg,if_false];show Ck {W,_,_,W,(),(),(),Z}
  case post2 =>
   rintro c G ⟨rfl,l,o,rfl,Y,O,J,a5⟩;show SB mono ask fin ?_ ?_ (λi hi=>?_) λi hi hi2=>?_
   .show dL+1-min o (dL+1)<=dL-l;lia
   .show dL-l<=n;lia
   .let hi:i<dL+1-min o (dL+1):=hi;rcases a5 with z|⟨z1,z2⟩
    .lia
    .show mono i (dL-o) () () z2
   .let hi:dL-l<=i:=hi;cases hq:B i with
    |false=>rfl
    |true=>rw[mono (dL-l) i hi hi2 hq]at J;cases J
end
def Xz:Nat->StateT Cn Sem Unit:=sortPriv% PySem.Builtin.setMinGallop
abbrev Sn(st:Cn)(g:Nat):Cn:=Cn.mk' (kindOf st) (C0 st) (C1 st) g (E6 st)
def Xq(g:Nat):Xz g=modify λst=>Sn st g:=rfl
def KM:Array Cm->Array Cm->StateT Cn Sem (Array Cm):=sortPriv% PySem.Builtin.mergeLo
abbrev CM:=Option (Array Cm)×Array Cm×Nat×Nat×Nat×Nat×Nat
abbrev V9(a b out:Array Cm)(ia ib:Nat):Array Cm:=out++a.extract ia a.size++b.extract ib b.size
abbrev Nm(a b out:Array Cm)(ia ib:Nat):Array Cm:=out++b.extract ib b.size++a.extract ia a.size
def lo4(a b:Array Cm)(mg ac bc:Nat)(out:Array Cm)(ia ib:Nat):StateT Cn Sem (ForInStep CM):=do
 let y <-elem' a ia
 if ia+1+1==a.size then pure (.done (some (Nm a b (out.push y) (ia+1) ib),out.push y,ia+1,ib,mg,ac,bc))
 else if decide (ac<7)&&decide (bc<7)then pure (.done (none,out.push y,ia+1,ib,mg,ac,bc))else pure (.yield (none,out.push y,ia+1,ib,mg,ac,bc))
def lo3(a b:Array Cm)(mg ac h:Nat)(out:Array Cm)(ia ib:Nat):StateT Cn Sem (ForInStep CM):=do
 let y <-elem' a ia
 let x <-W2 true y b ib (b.size-ib) 0
 match x with
 |some k =>
  if k > 0 then
   if ib+k==b.size then pure (.done (some (V9 a b (out++b.extract ib (ib+k)) ia (ib+k)),out++b.extract ib (ib+k),ia,ib+k,mg,ac,k))
   else lo4 a b mg ac k (out++b.extract ib (ib+k)) ia (ib+k)
  else lo4 a b mg ac k out ia ib
 |_=>pure (.done (some (V9 a b out ia ib),out,ia,ib,mg,ac,h))
def lo2(a b:Array Cm)(mg ac h:Nat)(out:Array Cm)(ia ib:Nat):StateT Cn Sem (ForInStep CM):=do
 let y <-elem' b ib
 if ib+1==b.size then pure (.done (some (V9 a b (out.push y) ia (ib+1)),out.push y,ia,ib+1,mg,ac,h))
 else lo3 a b mg ac h (out.push y) ia (ib+1)
def lo1(a b:Array Cm)(mg B h:Nat)(out:Array Cm)(ia ib:Nat):StateT Cn Sem (ForInStep CM):=do
 Xz mg
 let y <-elem' b ib
 let x <-W2 false y a ia (a.size-ia) 0
 match x with
 |some k =>
  if k > 0 then
   if ia+k+1==a.size then pure (.done (some (Nm a b (out++a.extract ia (ia+k)) (ia+k) ib),out++a.extract ia (ia+k),ia+k,ib,mg,k,h))
   else if ia+k==a.size then pure (.done (some (V9 a b (out++a.extract ia (ia+k)) (ia+k) ib),out++a.extract ia (ia+k),ia+k,ib,mg,k,h))
   else lo2 a b mg k h (out++a.extract ia (ia+k)) (ia+k) ib
  else lo2 a b mg k h out ia ib
 |_=>pure (.done (some (V9 a b out ia ib),out,ia,ib,mg,B,h))
def loF(a b:Array Cm):Nat->CM->StateT Cn Sem (ForInStep CM):=λ_ c=>if c.2.2.2.2.1 > 1 then lo1 a b (c.2.2.2.2.1-1) c.2.2.2.2.2.1 c.2.2.2.2.2.2 c.2.1 c.2.2.1 c.2.2.2.1 else lo1 a b c.2.2.2.2.1 c.2.2.2.2.2.1 c.2.2.2.2.2.2 c.2.1 c.2.2.1 c.2.2.2.1
abbrev LoS1:=Option (Array Cm)×Array Cm×Nat×Nat×Nat×Nat
def loG(a b:Array Cm)(mg:Nat):Nat->LoS1->StateT Cn Sem (ForInStep LoS1):=λ_ c=>do
 let x <-elem' b c.2.2.2.1
 let y <-elem' a c.2.2.1
 let z <-lt' x y
 match z with
 |some bWins =>
  if bWins=true then do
   let x <-elem' b c.2.2.2.1
   if c.2.2.2.1+1==b.size then pure (.done (some (V9 a b (c.2.1.push x) c.2.2.1 (c.2.2.2.1+1)),c.2.1.push x,c.2.2.1,c.2.2.2.1+1,0,c.2.2.2.2.2+1))
   else if c.2.2.2.2.2+1≥mg then pure (.done (none,c.2.1.push x,c.2.2.1,c.2.2.2.1+1,0,c.2.2.2.2.2+1))else pure (.yield (none,c.2.1.push x,c.2.2.1,c.2.2.2.1+1,0,c.2.2.2.2.2+1))
  else do
   let y <-elem' a c.2.2.1
   if c.2.2.1+1+1==a.size then pure (.done (some (Nm a b (c.2.1.push y) (c.2.2.1+1) c.2.2.2.1),c.2.1.push y,c.2.2.1+1,c.2.2.2.1,c.2.2.2.2.1+1,0))
   else if c.2.2.2.2.1+1≥mg then pure (.done (none,c.2.1.push y,c.2.2.1+1,c.2.2.2.1,c.2.2.2.2.1+1,0))else pure (.yield (none,c.2.1.push y,c.2.2.1+1,c.2.2.2.1,c.2.2.2.2.1+1,0))
 |_=>pure (.done (some (V9 a b c.2.1 c.2.2.1 c.2.2.2.1),c.2.1,c.2.2.1,c.2.2.2.1,c.2.2.2.2.1,c.2.2.2.2.2))
abbrev LoS0:=Option (Array Cm)×Array Cm×Nat×Nat×Nat
def loH(a b:Array Cm):Nat->LoS0->StateT Cn Sem (ForInStep LoS0):=λ_ c=>do
 let d <-forIn [0:a.size+b.size] ((none,c.2.1,c.2.2.1,c.2.2.2.1,0,0):LoS1) (loG a b c.2.2.2.2)
 match d.1 with
 |some r=>pure (.done (some r,d.2.1,d.2.2.1,d.2.2.2.1,c.2.2.2.2))
 |none=>do
  liftM (rule "list.sort.gallop")
  let e <-forIn [0:a.size+b.size] ((none,d.2.1,d.2.2.1,d.2.2.2.1,c.2.2.2.2+1,d.2.2.2.2.1,d.2.2.2.2.2):CM) (loF a b)
  match e.1 with
  |some r=>pure (.done (some r,e.2.1,e.2.2.1,e.2.2.2.1,e.2.2.2.2.1))
  |none=>do
   Xz (e.2.2.2.2.1+1)
   pure (.yield (none,e.2.1,e.2.2.1,e.2.2.2.1,e.2.2.2.2.1+1))
def Zby(a b:Array Cm):KM a b=(do
 liftM (rule "list.sort.merge-lo")
 let x <-elem' b 0
 if 1==b.size then pure (V9 a b #[x] 0 1)
 else if 0+1==a.size then pure (Nm a b #[x] 0 1)
 else do
  let st <-get
  let c <-forIn [0:a.size+b.size] ((none,#[x],0,1,gallopOf st):LoS0) (loH a b)
  match c.1 with
  |some r=>pure r
  |none=>liftM (unsupported "internal:list.sort.merge-bound")):=by
 kernel_rfl
section
variable{R:Cm->Int}{la lb:List Cm}
abbrev Up(R:Cm->Int)(l:List Cm):Prop:=l.Pairwise λx y=>R x<R y
structure MI(R:Cm->Int)(la lb:List Cm)(ia ib:Nat)(out:List Cm):Prop where
 al:ia<=la.length
 bl:ib<=lb.length
 pm:out.Perm (la.take ia++lb.take ib)
 pa:Up R (out++la.drop ia)
 pb:Up R (out++lb.drop ib)
def BD(R:Cm->Int)(la lb r:List Cm):Prop:=r.Perm (la++lb)/\Up R r
def Xi{l m:List Cm}:Up R (l++m)↔Up R l/\Up R m/\∀x∈l,∀y∈m,R x<R y:=Dg
def MI.a(h:MI R la lb ia ib out)(hk:ia+k<=la.length)(hx:∀x∈(la.drop ia).take k,∀y∈lb.drop ib,R x<R y):MI R la lb (ia+k) ib (out++(la.drop ia).take k):=by
 let e:(la.drop ia).take k++la.drop (ia+k)=la.drop ia:=by rw[<-Fy,J8]
 let{Z,p2,Y}:=Xi.mp h.pa;let{q1,O,J}:=Xi.mp h.pb;exists hk,h.bl,?_,by rw[Jf,e];show h.pa,?_
 .rw[List.take_add];show(h.pm.append_right _).trans ?_;rw[Jf,Jf];show List.Perm.append_left _ G8
 .show Xi.mpr {Xi.mpr {Z,p2.sublist (B7 _ _),λx hx y B=>Y x hx y (Gv B)},O,λx G y B=>?_};rcases Jw.mp G with z|z
  .show J x z y B
  .show hx x z y B
def MI.b(h:MI R la lb ia ib out)(hk:ib+k<=lb.length)(hx:∀y∈(lb.drop ib).take k,∀x∈la.drop ia,R y<R x):MI R la lb ia (ib+k) (out++(lb.drop ib).take k):=by
 let e:(lb.drop ib).take k++lb.drop (ib+k)=lb.drop ib:=by rw[<-Fy,J8]
 let{Z,p2,Y}:=Xi.mp h.pa;let{q1,O,J}:=Xi.mp h.pb;show{h.al,hk,?_,?_,by rw[Jf,e];show h.pb}
 .rw[List.take_add];show(h.pm.append_right _).trans ?_;rw[Jf]
 .show Xi.mpr {Xi.mpr {Z,O.sublist (B7 _ _),λx hx y B=>J x hx y (Gv B)},p2,λx G y B=>?_};rcases Jw.mp G with z|z
  .show Y x z y B
  .show hx x z y B
def MI.doneB(h:MI R la lb ia ib out)(e:ib=lb.length):BD R la lb (out++la.drop ia++lb.drop ib):=by
 subst e;rw[List.drop_length,Jx];exists(h.pm.append_right _).trans ?_,h.pa;rw[Gc,Jf];show(List.Perm.append_left _ G8).trans ?_;rw[<-Jf,J8]
def MI.doneA(h:MI R la lb ia ib out)(e:ia=la.length):BD R la lb (out++la.drop ia++lb.drop ib):=by
 subst e;rw[List.drop_length,Jx];exists(h.pm.append_right _).trans ?_,h.pb;rw[Gc,Jf,J8]
def MI.last(h:MI R la lb ia ib out)(hl:∀x∈la.drop ia,∀y∈lb.drop ib,R y<R x):BD R la lb (out++lb.drop ib++la.drop ia):=by
 let{J,p2,G}:=Xi.mp h.pa;show{?_,Xi.mpr {h.pb,p2,λx hx y B=>?_}}
 .show((h.pm.append_right _).append_right _).trans ?_;rw[Jf (la.take ia),J8,Jf];show(List.Perm.append_left _ G8).trans ?_;rw[<-Jf,J8]
 .rcases Jw.mp hx with z|z
  .show G x z y B
  .show hl y B x z
def Sz{l:List Cm}{i:Nat}{x:Cm}(h:l[i]?=some x):(l.drop i).take 1=[x]:=by
 let{hi,e}:=Jd.mp h;rw[Bd hi,e];rfl
def Qw{l:List Cm}{i:Nat}{x:Cm}(u:Up R l)(h:l[i]?=some x):∀y∈l.drop i,R x<=R y:=λy G=>by
 let{hi,e}:=Jd.mp h;let B:=u.sublist (Fs i l);rw[Bd hi]at B G;rcases Gd.mp G with z|z
 .rw[z,e];show GC _
 .rw[e]at B;show YU ((Bo.mp B).1 y z)
end
section
variable{S:Cm->Prop}{R:Cm->Int}{a b:Array Cm}
def Keep(st h:Cn):Prop:=kindOf h=kindOf st/\C0 h=C0 st/\C1 h=C1 st/\E6 h=E6 st
def Keep.refl(st:Cn):Keep st st:={W,W,W,W}
def Keep.trans{x y z:Cn}(h:Keep x y)(k:Keep y z):Keep x z:={k.1.trans h.1,k.2.1.trans h.2.1,k.2.2.1.trans h.2.2.1,k.2.2.2.trans h.2.2.2}
def Keep.gal(st:Cn)(g:Nat):Keep st (Sn st g):={W,W,W,W}
structure Lo(S:Cm->Prop)(R:Cm->Int)(a b:Array Cm):Prop where
 sa:∀x∈a.toList,S x
 sb:∀x∈b.toList,S x
 ua:Up R a.toList
 ub:Up R b.toList
 dj:∀x∈a.toList,∀y∈b.toList,R x≠R y
 ends:∀x,a.toList[a.size-1]?=some x->∀y∈b.toList,R y<R x
def Nb(R:Cm->Int)(a b:Array Cm)(dC:Nat)(r:Option (Array Cm))(out:Array Cm)(ia ib:Nat):Prop:=(∃z,r=some z/\BD R a.toList b.toList z.toList)\/(r=none/\MI R a.toList b.toList ia ib out.toList/\ia+1<a.size/\ib<b.size/\dC<=ia+ib)
def Nx(xs:Array Cm)(i:Nat):(xs.extract i xs.size).toList=xs.toList.drop i:=by
 rw[Ft];show((xs.toList.drop i).take (xs.size-i))=_;show Gx (by rw[Gf,Jl];show Jk _)
def YG(xs:Array Cm)(i k:Nat):(xs.extract i (i+k)).toList=(xs.toList.drop i).take k:=by
 rw[Ft];show((xs.toList.drop i).take (i+k-i))=_;rw[Fc]
theorem Hn(L:Lo S R a b)(h:MI R a.toList b.toList ia ib out.toList)(e:ia+1=a.size):BD R a.toList b.toList (Nm a b out ia ib).toList:=by
 unfold Nm;rw[Gp,Gp,Nx,Nx];show h.last λx hx y B=>?_;let hl:ia<a.toList.length:=by rw[Jl];lia
 rw[Bd hl,F2 (by rw[Jl];lia)]at hx;rw[Jj.mp hx];show L.ends _ ?_ y (G7 B);rw[show a.size-1=ia by lia];show Jb hl
def Qq(h:MI R a.toList b.toList ia ib out.toList)(e:ib=b.size):BD R a.toList b.toList (V9 a b out ia ib).toList:=by
 unfold V9;rw[Gp,Gp,Nx,Nx];show h.doneB (by rwa[Jl])
def gW(h:MI R a.toList b.toList ia ib out.toList)(e:ia=a.size):BD R a.toList b.toList (V9 a b out ia ib).toList:=by
 unfold V9;rw[Gp,Gp,Nx,Nx];show h.doneA (by rwa[Jl])
theorem MI.pushA{out:Array Cm}{x:Cm}(h:MI R a.toList b.toList ia ib out.toList)(hx:a[ia]?=some x)(hl:∀y∈b.toList.drop ib,R x<R y):MI R a.toList b.toList (ia+1) ib (out.push x).toList:=by
 let B:a.toList[ia]?=some x:=by rwa[Jt]
 let:=h.a (k:=1) (by have:=(Jd.mp B).1;lia) (by rw[Sz B];intro z hz;rwa[Jj.mp hz]);rw[Sz B]at this;rw[De];show this
theorem MI.pushB{out:Array Cm}{x:Cm}(h:MI R a.toList b.toList ia ib out.toList)(hx:b[ib]?=some x)(hl:∀y∈a.toList.drop ia,R x<R y):MI R a.toList b.toList ia (ib+1) (out.push x).toList:=by
 let B:b.toList[ib]?=some x:=by rwa[Jt]
 let:=h.b (k:=1) (by have:=(Jd.mp B).1;lia) (by rw[Sz B];intro z hz;rwa[Jj.mp hz]);rw[Sz B]at this;rw[De];show this
end
section
variable{M:DC}{κ:SortKind}{S:Cm->Prop}{R:Cm->Int}{a b:Array Cm}
def ZA{xs:Array Cm}(u:Up R xs.toList){i:Nat}{x y:Cm}(h:i<j)(hx:xs[i]?=some x)(B:xs[j]?=some y):R x<R y:=by
 rw[<-Jt]at hx B;let{h1,e1}:=Jd.mp hx;let{h2,e2}:=Jd.mp B;let:=(Gy.mp u) i j h1 h2 h;rwa [e1,e2]at this
theorem PP(HL:CN M A E s κ S R){dC:Nat}{st:Cn}{Q:Option Nat->Cn->Prop}(Y:S key)(B:kindOf st=κ)(G:∀x∈xs.toList,S x)(u:Up R xs.toList)(dj:∀x∈xs.toList,R x≠R key)(hh:dL<xs.size-dC)(h:∀k,dC+k<=xs.size->(∀x∈(xs.toList.drop dC).take k,R x<R key)->(∀x∈xs.toList.drop (dC+k),R key<R x)->Q (some k) st):wpS M A E s (W2 left key xs dC (xs.size-dC) dL) Q st:=by
 show Rf HL Y B hh (λi hi=>?_) (λi j x y Z hj hx J=>ZA u () hx J) λk O h1 h2=>h k () (λx hx=>?_) λx hx=>?_
 .let hl:dC+i<xs.size:=by lia
  show{xs[dC+i],G5 hl,G _ ?_,dj _ ?_}<;>simp
 .let⟨i,hi,e⟩:=Ge hx;rw[Ga,Gf,Jl]at hi;show h1 i x () ?_;rw[Br,Fu]at e;rw[<-Jt,Jb (by rw[Jl];lia),e]
 .let⟨i,hi,e⟩:=Ge hx;rw[Gf,Jl]at hi;rw[Fu]at e;show h2 (k+i) x () () ?_;rw[<-Jt,Jb (by rw[Jl];lia)];rw[<-e]
  congr 2
  lia
def To{xs:Array Cm}{i:Nat}(h:i<xs.size):∃x,xs[i]?=some x/\x∈xs.toList:={xs[i],G5 h,by simp}
theorem UW(L:Lo S R a b){mg dC:Nat}{out:Array Cm}{st:Cn}{Q:ForInStep CM->Cn->Prop}{y:Cm}(h:MI R a.toList b.toList ia ib out.toList)(Z:ia+1<a.size)(Y:ib<b.size)(dS:dC<=ia+ib)(O:a[ia]?=some y)(lt:∀x∈b.toList.drop ib,R y<R x)(q:∀r o i j B J G,Nb R a b dC r o i j->Q (.done (r,o,i,j,B,J,G)) st/\(r=none->Q (.yield (r,o,i,j,B,J,G)) st)):wpS M A E s (lo4 a b mg ac bc out ia ib) Q st:=by
 unfold lo4;show Ch (Yb O ?_);let h2:=h.pushA O lt
 by_cases e:(ia+1+1==a.size)=true
 .rw[D9 e];show Ck (q _ _ _ _ _ _ _ (.inl {_,W,Hn L h2 (by simpa using e)})).1
 .rw[D8 e];let g:Nb R a b dC none (out.push y) (ia+1) ib:=.inr {W,h2,by have:¬ ia+1+1=a.size:=(by simpa using e);lia,Y,()}
  split
  .show Ck (q _ _ _ _ _ _ _ g).1
  .show Ck ((q _ _ _ _ _ _ _ g).2 W)
theorem wU(HL:CN M A E s κ S R)(L:Lo S R a b){mg dC:Nat}{st:Cn}{Q:ForInStep CM->Cn->Prop}(Y:kindOf st=κ)(h:MI R a.toList b.toList ia ib out.toList)(ha:ia+1<a.size)(hb:ib<b.size)(dS:dC<=ia+ib)(q:∀r o i j B J G,Nb R a b dC r o i j->Q (.done (r,o,i,j,B,J,G)) st/\(r=none->Q (.yield (r,o,i,j,B,J,G)) st)):wpS M A E s (lo3 a b mg ac bc out ia ib) Q st:=by
 unfold lo3;let{y,O,Z}:=To (xs:=a) (i:=ia) ();show Ch (Yb O (Ch (PP HL (L.sa _ Z) Y L.sb L.ub (λx hx e=>L.dj y Z x hx e.symm) () λk hk h1 h2=>?_)));dsimp only
 by_cases k0:k > 0
 .rw[D9 k0];let h3:=h.b (k:=k) (by rwa[Jl]) λx hx z hz=>by
   let l1:=h1 x hx;let l2:=Qw L.ua (by rw[Jt];show O) z hz;lia
  rw[<-YG,<-Gp]at h3
  by_cases e:(ib+k==b.size)=true
  .rw[D9 e];show Ck (q _ _ _ _ _ _ _ (.inl {_,W,Qq h3 (by simpa using e)})).1
  .rw[D8 e];show UW L h3 ha (by have:¬ ib+k=b.size:=(by simpa using e);lia) () O h2 q
 .rw[D8 k0];let:k=0:=by lia
  subst this;show UW L h ha hb dS O h2 q
theorem ZV(HL:CN M A E s κ S R)(L:Lo S R a b){mg dC:Nat}{out:Array Cm}{st:Cn}{Q:ForInStep CM->Cn->Prop}{y:Cm}(O:kindOf st=κ)(h:MI R a.toList b.toList ia ib out.toList)(Z:ia+1<a.size)(hb:ib<b.size)(dS:dC<=ia+ib)(Y:b[ib]?=some y)(lt:∀x∈a.toList.drop ia,R y<R x)(q:∀r o i j B J G,Nb R a b dC r o i j->Q (.done (r,o,i,j,B,J,G)) st/\(r=none->Q (.yield (r,o,i,j,B,J,G)) st)):wpS M A E s (lo2 a b mg ac bc out ia ib) Q st:=by
 unfold lo2;show Ch (Yb Y ?_);let h2:=h.pushB Y lt
 by_cases e:(ib+1==b.size)=true
 .rw[D9 e];show Ck (q _ _ _ _ _ _ _ (.inl {_,W,Qq h2 (by simpa using e)})).1
 .rw[D8 e];show wU HL L O h2 Z (by have:¬ ib+1=b.size:=(by simpa using e);lia) () q
theorem aD(HL:CN M A E s κ S R)(L:Lo S R a b){mg dC:Nat}{st:Cn}{Q:ForInStep CM->Cn->Prop}(Y:kindOf st=κ)(h:MI R a.toList b.toList ia ib out.toList)(ha:ia+1<a.size)(hb:ib<b.size)(dS:dC<=ia+ib)(q:∀r o i j B J G O,Keep st O->Nb R a b dC r o i j->Q (.done (r,o,i,j,B,J,G)) O/\(r=none->Q (.yield (r,o,i,j,B,J,G)) O)):wpS M A E s (lo1 a b mg ac bc out ia ib) Q st:=by
 unfold lo1;rw[Xq];show Ch (wpS_modify ?_);let Z:=λr o i j B J G=>q r o i j B J G (Sn st mg) (Keep.gal st mg);let{y,hy,my}:=To (xs:=b) (i:=ib) hb;show Ch (Yb hy (Ch (PP HL (L.sb _ my) Y L.sa L.ua (λx hx=>L.dj x hx y my) () λk hk h1 h2=>?_)));dsimp only
 by_cases k0:k > 0
 .rw[D9 k0];let h3:=h.a (k:=k) (by rwa[Jl]) λx hx z hz=>by
   let l1:=h1 x hx;let l2:=Qw L.ub (by rwa[Jt]) z hz;lia
  rw[<-YG,<-Gp]at h3
  by_cases e:(ia+k+1==a.size)=true
  .rw[D9 e];show Ck (Z _ _ _ _ _ _ _ (.inl {_,W,Hn L h3 (by simpa using e)})).1
  .rw[D8 e]
   by_cases e2:(ia+k==a.size)=true
   .rw[D9 e2];show Ck (Z _ _ _ _ _ _ _ (.inl {_,W,gW h3 (by simpa using e2)})).1
   .rw[D8 e2];show ZV HL L Y h3 ?_ hb () hy h2 Z;let:¬ ia+k+1=a.size:=by simpa using e
    let:¬ ia+k=a.size:=by simpa using e2
    lia
 .rw[D8 k0];let:k=0:=by lia
  subst this;show ZV HL L Y h ha hb dS hy h2 Z
def yK(HL:CN M A E s κ S R)(L:Lo S R a b){mg dC:Nat}{st:Cn}{Q:CM->Cn->Prop}(a0:kindOf st=κ)(h:MI R a.toList b.toList ia ib out.toList)(ha:ia+1<a.size)(hb:ib<b.size)(dS:dC<=ia+ib)(q:∀r o i j G O J B,Keep st B->Nb R a b dC r o i j->Q (r,o,i,j,G,O,J) B):wpS M A E s (forIn [0:a.size+b.size] ((none,out,ia,ib,mg,ac,bc):CM) (loF a b)) Q st:=by
 show C9 (I:=λ_ c B=>Keep st B/\c.1=none/\Nb R a b dC c.1 c.2.1 c.2.2.1 c.2.2.2.1) ?_ ?_ {.refl _,W,.inr {W,h,ha,hb,dS}}
 .rintro i ⟨r,o,i',j',G,O,J⟩ B _ _ ⟨Y,er,g⟩;let er:r=none:=er;subst er;rcases g with⟨z,ez,_⟩|⟨_,g1,g2,g3,g4⟩
  .cases ez
  .unfold loF;dsimp only
   split
   .show aD HL L (Y.1.trans a0) g1 g2 g3 g4 λr o i j G O J Z k2 gg=>{q _ _ _ _ _ _ _ _ (Y.trans k2) gg,λe=>{Y.trans k2,e,gg}}
   .show aD HL L (Y.1.trans a0) g1 g2 g3 g4 λr o i j G O J Z k2 gg=>{q _ _ _ _ _ _ _ _ (Y.trans k2) gg,λe=>{Y.trans k2,e,gg}}
 .rintro⟨r,o,i',j',G,O,J⟩ B ⟨Y,er,g⟩;show q _ _ _ _ _ _ _ _ Y g
theorem Zpd(HL:CN M A E s κ S R)(L:Lo S R a b){mg dC:Nat}{st:Cn}{Q:LoS1->Cn->Prop}(a0:kindOf st=κ)(h:MI R a.toList b.toList ia ib out.toList)(ha:ia+1<a.size)(hb:ib<b.size)(dS:dC<=ia+ib)(q:∀r o i j O J,Nb R a b (dC+1) r o i j->Q (r,o,i,j,O,J) st):wpS M A E s (forIn [0:a.size+b.size] ((none,out,ia,ib,ac,bc):LoS1) (loG a b mg)) Q st:=by
 show C9 (I:=λx c B=>B=st/\c.1=none/\Nb R a b (dC+min x 1) c.1 c.2.1 c.2.2.1 c.2.2.2.1) ?_ ?_ {W,W,.inr {W,h,ha,hb,dS}}
 .rintro x ⟨r,o,i,j,O,J⟩ B _ _ ⟨rfl,er,g⟩;let er:r=none:=er;subst er;rcases g with⟨z,ez,_⟩|⟨_,Z,Y,G,g4⟩
  .cases ez
  .let g4:dC+min x 1<=i+j:=g4;let Z:MI R a.toList b.toList i j o.toList:=Z;let Y:i+1<a.size:=Y;let G:j<b.size:=G;let{p,hp,mp}:=To (xs:=b) (i:=j) G;let{y,hy,my}:=To (xs:=a) (i:=i) ();let pa:=Qw L.ua (i:=i) (by rwa[Jt]);let pb:=Qw L.ub (i:=j) (by rwa[Jt]);let nd:=L.dj y my p mp;unfold loG;show Ch (Yb hp (Ch (Yb hy (Ch (HL _ _ _ _ (L.sb _ mp) (L.sa _ my) a0 ?_)))));dsimp only
   by_cases lt:R p<R y
   .rw[Ab lt,D9 W];show Ch (Yb hp ?_);let h2:=Z.pushB hp λz hz=>by have:=pa z hz;lia
    by_cases e:(j+1==b.size)=true
    .rw[D9 e];show Ck (q _ _ _ _ _ _ (.inl {_,W,Qq h2 (by simpa using e)}))
    .rw[D8 e];let:¬ j+1=b.size:=by simpa using e
     split
     .show Ck (q _ _ _ _ _ _ (.inr {W,h2,Y,(),()}))
     .show Ck {W,W,.inr {W,h2,Y,by show j+1<b.size;lia,by show dC+min (x+1) 1<=i+(j+1);lia}}
   .rw[BB lt,D8 nofun];show Ch (Yb hy ?_);let h2:=Z.pushA hy λz hz=>by have:=pb z hz;lia
    by_cases e:(i+1+1==a.size)=true
    .rw[D9 e];show Ck (q _ _ _ _ _ _ (.inl {_,W,Hn L h2 (by simpa using e)}))
    .rw[D8 e];let:¬ i+1+1=a.size:=by simpa using e
     split
     .show Ck (q _ _ _ _ _ _ (.inr {W,h2,(),G,()}))
     .show Ck {W,W,.inr {W,h2,by show i+1+1<a.size;lia,G,by show dC+min (x+1) 1<=i+1+j;lia}}
 .rintro⟨r,o,i,j,O,J⟩ B ⟨rfl,er,g⟩;show q _ _ _ _ _ _ ?_;rcases g with g|⟨g0,Z,Y,G,g4⟩
  .show .inl g
  .show .inr {g0,Z,Y,G,by
    let g4:dC+min (max 0 (a.size+b.size)) 1<=i+j:=g4;lia}
theorem Zc9(HL:CN M A E s κ S R)(L:Lo S R a b){st:Cn}{Q:Array Cm->Cn->Prop}(J:kindOf st=κ)(hb:0<b.size)(ha:0<a.size)(h0:∀p,b[0]?=some p->∀x∈a.toList,R p<R x)(q:∀r h,Keep st h->BD R a.toList b.toList r.toList->Q r h):wpS M A E s (KM a b) Q st:=by
 rw[Zby];show Ch (wpS_lift (Ez {W,?_}));let{p,O,mp}:=To (xs:=b) (i:=0) hb;show Ch (Yb O ?_);let h1:MI R a.toList b.toList 0 1 #[p].toList:=by
  let a2:b.toList[0]?=some p:=by rw[Jt];show O
  let dC:MI R a.toList b.toList 0 0 (#[]:Array Cm).toList:={J9 _,J9 _,.refl _,by simpa using L.ua,by simpa using L.ub};show dC.pushB O (h0 p O)
 by_cases e:(1==b.size)=true
 .rw[D9 e];show Ck (q _ _ (.refl _) (Qq h1 (by simpa using e)))
 rw[D8 e]
 by_cases e2:(0+1==a.size)=true
 .rw[D9 e2];show Ck (q _ _ (.refl _) (Hn L h1 (by simpa using e2)))
 rw[D8 e2];let n1:¬ 1=b.size:=by simpa using e
 let n2:¬ 0+1=a.size:=by simpa using e2
 show Ch (wpS_get ?_);show Ch (Kc (C9 (I:=λx c h=>Keep st h/\c.1=none/\Nb R a b (x+1) c.1 c.2.1 c.2.2.1 c.2.2.2.1) (Q:=λc h=>Keep st h/\∃r,c.1=some r/\BD R a.toList b.toList r.toList) ?_ ?_ {.refl _,W,.inr {W,h1,by show 0+1<a.size;lia,by show 1<b.size;lia,Jk _}}) ?_)
 .rintro x ⟨r,o,i,j,mg⟩ h _ _ ⟨B,er,g⟩;let er:r=none:=er;subst er;rcases g with⟨z,G,_⟩|⟨_,g1,g2,Z,Y⟩
  .cases G
  .unfold loH;show Ch (Zpd HL L (B.1.trans J) g1 g2 Z Y λr o i j ac bc gg=>?_);rcases gg with⟨z,rfl,hz⟩|⟨rfl,f1,f2,f3,f4⟩
   .show Ck {B,z,W,hz}
   .show Ch (wpS_lift (Ez {W,?_}));show Ch (yK HL L (B.1.trans J) f1 f2 f3 f4 λr o i j a1 ac bc a0 k2 gg=>?_);rcases gg with⟨z,rfl,hz⟩|⟨rfl,d1,d2,d3,d4⟩
    .show Ck {B.trans k2,z,W,hz}
    .dsimp only;rw[Xq];show Ch (wpS_modify (Ck {(B.trans k2).trans (Keep.gal _ _),W,.inr {W,d1,d2,d3,d4}}))
 .rintro⟨r,o,i,j,mg⟩ h ⟨B,er,g⟩;rcases g with⟨z,G,hz⟩|⟨_,g1,g2,Z,Y⟩
  .show{B,z,G,hz}
  .let g2:i+1<a.size:=g2;let Z:j<b.size:=Z;let Y:max 0 (a.size+b.size)+1<=i+j:=Y;lia
 .rintro⟨r,o,i,j,mg⟩ h ⟨B,z,G,hz⟩;let G:r=some z:=G;subst G;show Ck (q _ _ B hz)
end
def KD:Array Cm->Array Cm->StateT Cn Sem (Array Cm):=sortPriv% PySem.Builtin.mergeHi
abbrev Ub(a b out:Array Cm)(na nb:Nat):Array Cm:=a.extract 0 na++b.extract 0 nb++out.reverse
abbrev Rs(a b out:Array Cm)(na nb:Nat):Array Cm:=b.extract 0 nb++a.extract 0 na++out.reverse
abbrev CG:=Option (Array Cm)×Nat×Nat×Array Cm×Nat×Nat×Nat
def hi4(a b:Array Cm)(mg ac bc:Nat)(out:Array Cm)(na nb:Nat):StateT Cn Sem (ForInStep CG):=do
 let y <-elem' a (na-1)
 if na-1==0 then pure (.done (some (Ub a b (out.push y) (na-1) nb),na-1,nb,out.push y,mg,ac,bc))
 else if decide (ac<7)&&decide (bc<7)then pure (.done (none,na-1,nb,out.push y,mg,ac,bc))else pure (.yield (none,na-1,nb,out.push y,mg,ac,bc))
def hi3(a b:Array Cm)(mg ac h:Nat)(out:Array Cm)(na nb:Nat):StateT Cn Sem (ForInStep CG):=do
 let y <-elem' a (na-1)
 let x <-W2 true y b 0 nb (nb-1)
 match x with
 |some k =>
  if nb-k > 0 then
   if k==1 then pure (.done (some (Rs a b (out++(b.extract k nb).reverse) na k),na,k,out++(b.extract k nb).reverse,mg,ac,nb-k))
   else if k==0 then pure (.done (some (Ub a b (out++(b.extract k nb).reverse) na k),na,k,out++(b.extract k nb).reverse,mg,ac,nb-k))
   else hi4 a b mg ac (nb-k) (out++(b.extract k nb).reverse) na k
  else hi4 a b mg ac (nb-k) out na nb
 |_=>pure (.done (some (Ub a b out na nb),na,nb,out,mg,ac,h))
def hi2(a b:Array Cm)(mg ac h:Nat)(out:Array Cm)(na nb:Nat):StateT Cn Sem (ForInStep CG):=do
 let y <-elem' b (nb-1)
 if nb-1==1 then pure (.done (some (Rs a b (out.push y) na (nb-1)),na,nb-1,out.push y,mg,ac,h))
 else hi3 a b mg ac h (out.push y) na (nb-1)
def hi1(a b:Array Cm)(mg B h:Nat)(out:Array Cm)(na nb:Nat):StateT Cn Sem (ForInStep CG):=do
 Xz mg
 let y <-elem' b (nb-1)
 let x <-W2 false y a 0 na (na-1)
 match x with
 |some k =>
  if na-k > 0 then
   if k==0 then pure (.done (some (Ub a b (out++(a.extract k na).reverse) k nb),k,nb,out++(a.extract k na).reverse,mg,na-k,h))
   else hi2 a b mg (na-k) h (out++(a.extract k na).reverse) k nb
  else hi2 a b mg (na-k) h out na nb
 |_=>pure (.done (some (Ub a b out na nb),na,nb,out,mg,B,h))
def hiF(a b:Array Cm):Nat->CG->StateT Cn Sem (ForInStep CG):=λ_ c=>if c.2.2.2.2.1 > 1 then hi1 a b (c.2.2.2.2.1-1) c.2.2.2.2.2.1 c.2.2.2.2.2.2 c.2.2.2.1 c.2.1 c.2.2.1 else hi1 a b c.2.2.2.2.1 c.2.2.2.2.2.1 c.2.2.2.2.2.2 c.2.2.2.1 c.2.1 c.2.2.1
abbrev HiS1:=Option (Array Cm)×Nat×Nat×Array Cm×Nat×Nat
def hiG(a b:Array Cm)(mg:Nat):Nat->HiS1->StateT Cn Sem (ForInStep HiS1):=λ_ c=>do
 let x <-elem' b (c.2.2.1-1)
 let y <-elem' a (c.2.1-1)
 let z <-lt' x y
 match z with
 |some aWins =>
  if aWins=true then do
   let x <-elem' a (c.2.1-1)
   if c.2.1-1==0 then pure (.done (some (Ub a b (c.2.2.2.1.push x) (c.2.1-1) c.2.2.1),c.2.1-1,c.2.2.1,c.2.2.2.1.push x,c.2.2.2.2.1+1,0))
   else if c.2.2.2.2.1+1≥mg then pure (.done (none,c.2.1-1,c.2.2.1,c.2.2.2.1.push x,c.2.2.2.2.1+1,0))else pure (.yield (none,c.2.1-1,c.2.2.1,c.2.2.2.1.push x,c.2.2.2.2.1+1,0))
  else do
   let y <-elem' b (c.2.2.1-1)
   if c.2.2.1-1==1 then pure (.done (some (Rs a b (c.2.2.2.1.push y) c.2.1 (c.2.2.1-1)),c.2.1,c.2.2.1-1,c.2.2.2.1.push y,0,c.2.2.2.2.2+1))
   else if c.2.2.2.2.2+1≥mg then pure (.done (none,c.2.1,c.2.2.1-1,c.2.2.2.1.push y,0,c.2.2.2.2.2+1))else pure (.yield (none,c.2.1,c.2.2.1-1,c.2.2.2.1.push y,0,c.2.2.2.2.2+1))
 |_=>pure (.done (some (Ub a b c.2.2.2.1 c.2.1 c.2.2.1),c.2.1,c.2.2.1,c.2.2.2.1,c.2.2.2.2.1,c.2.2.2.2.2))
abbrev HiS0:=Option (Array Cm)×Nat×Nat×Array Cm×Nat
def hiH(a b:Array Cm):Nat->HiS0->StateT Cn Sem (ForInStep HiS0):=λ_ c=>do
 let d <-forIn [0:a.size+b.size] ((none,c.2.1,c.2.2.1,c.2.2.2.1,0,0):HiS1) (hiG a b c.2.2.2.2)
 match d.1 with
 |some r=>pure (.done (some r,d.2.1,d.2.2.1,d.2.2.2.1,c.2.2.2.2))
 |none=>do
  liftM (rule "list.sort.gallop")
  let e <-forIn [0:a.size+b.size] ((none,d.2.1,d.2.2.1,d.2.2.2.1,c.2.2.2.2+1,d.2.2.2.2.1,d.2.2.2.2.2):CG) (hiF a b)
  match e.1 with
  |some r=>pure (.done (some r,e.2.1,e.2.2.1,e.2.2.2.1,e.2.2.2.2.1))
  |none=>do
   Xz (e.2.2.2.2.1+1)
   pure (.yield (none,e.2.1,e.2.2.1,e.2.2.2.1,e.2.2.2.2.1+1))
def zB(a b:Array Cm):KD a b=(do
 liftM (rule "list.sort.merge-hi")
 let x <-elem' a (a.size-1)
 if a.size-1==0 then pure (Ub a b #[x] (a.size-1) b.size)
 else if b.size==1 then pure (Rs a b #[x] (a.size-1) b.size)
 else do
  let st <-get
  let c <-forIn [0:a.size+b.size] ((none,a.size-1,b.size,#[x],gallopOf st):HiS0) (hiH a b)
  match c.1 with
  |some r=>pure r
  |none=>liftM (unsupported "internal:list.sort.merge-bound")):=by
 kernel_rfl
section
variable{R:Cm->Int}{la lb:List Cm}
structure MH(R:Cm->Int)(la lb:List Cm)(na nb:Nat)(o:List Cm):Prop where
 al:na<=la.length
 bl:nb<=lb.length
 pm:o.Perm (la.drop na++lb.drop nb)
 pa:Up R (la.take na++o)
 pb:Up R (lb.take nb++o)
def QP{l:List Cm}{i n:Nat}(h:i<=n):l.take i++(l.take n).drop i=l.take n:=by
 let:=J8 i (l.take n);rw[List.take_take,Ds h]at this;show this
theorem WH{l:List Cm}{i n:Nat}(h:i<=n):(l.take n).drop i++l.drop n=l.drop i:=by
 rw[Dv];let:=J8 (n-i) (l.drop i);rw[Fy,show i+(n-i)=n by lia]at this;show this
def MH.a(h:MH R la lb na nb o)(hi:i<=na)(hx:∀x∈(la.take na).drop i,∀y∈lb.take nb,R y<R x):MH R la lb i nb ((la.take na).drop i++o):=by
 let{Z,p2,Y}:=Xi.mp h.pa;let{O,q2,J}:=Xi.mp h.pb;exists Js hi h.al,h.bl,?_,by rw[<-Jf,QP hi];show h.pa,?_
 .show(h.pm.append_left _).trans ?_;rw[<-Jf,WH hi]
 .show Xi.mpr {O,Xi.mpr {Z.sublist (Fs _ _),p2,λx hx y B=>Y x (G7 hx) y B},λy B x G=>?_};rcases Jw.mp G with z|z
  .show hx x z y B
  .show J y B x z
def MH.b(h:MH R la lb na nb o)(hi:i<=nb)(hx:∀y∈(lb.take nb).drop i,∀x∈la.take na,R x<R y):MH R la lb na i ((lb.take nb).drop i++o):=by
 let{Z,p2,Y}:=Xi.mp h.pa;let{O,q2,J}:=Xi.mp h.pb;show{h.al,Js hi h.bl,?_,?_,by rw[<-Jf,QP hi];show h.pb}
 .show(h.pm.append_left _).trans ?_;rw[<-Jf];show(G8.append_right _).trans ?_;rw[Jf,WH hi]
 .show Xi.mpr {Z,Xi.mpr {O.sublist (Fs _ _),p2,λx hx y B=>J x (G7 hx) y B},λy B x G=>?_};rcases Jw.mp G with z|z
  .show hx x z y B
  .show Y y B x z
def MH.doneA(h:MH R la lb na nb o)(e:na=0):BD R la lb (la.take na++lb.take nb++o):=by
 subst e;show{?_,h.pb};show(lb.take nb++o).Perm _;show(h.pm.append_left _).trans ?_;rw[Dw,<-Jf];show(G8.append_right _).trans ?_;rw[Jf,J8]
def MH.doneB(h:MH R la lb na nb o)(e:nb=0):BD R la lb (la.take na++lb.take nb++o):=by
 subst e;rw[List.take_zero,Jx];show{?_,h.pa};show(h.pm.append_left _).trans ?_;rw[Dw,<-Jf,J8]
def MH.first(h:MH R la lb na nb o)(hl:∀y∈lb.take nb,∀x∈la.take na,R y<R x):BD R la lb (lb.take nb++la.take na++o):=by
 let{J,O,G}:=Xi.mp h.pb;show{?_,?_}
 .show(h.pm.append_left _).trans ?_;rw[Jf];show G8.trans ?_;rw[Jf,Jf];rw[<-Jf (la.take na),J8];show List.Perm.append_left _ ?_;show G8.trans ?_;rw[J8]
 .rw[Jf];show Xi.mpr {J,h.pa,λy B x hx=>?_};rcases Jw.mp hx with z|z
  .show hl y B x z
  .show G y B x z
theorem Sj{l:List Cm}{n:Nat}{x:Cm}(u:Up R l)(hn:0<n)(h:l[n-1]?=some x):∀y∈l.take n,R y<=R x:=λy B=>by
 let{hi,e}:=Jd.mp h;let{i,hi2,e2}:=Ge B;rw[Ga]at hi2;rw[Br]at e2;rcases Fq i (n-1)with z|z
 .let:=(Gy.mp u) i (n-1) () hi z;rw[e,e2]at this;lia
 .let:i=n-1:=by lia
  subst this;rw[<-e2,e];show GC _
theorem Qm{l:List Cm}{n:Nat}{x:Cm}(hn:0<n)(h:l[n-1]?=some x):(l.take n).drop (n-1)=[x]:=by
 rw[Dv,show n-(n-1)=1 by lia];show Sz h
end
section
variable{M:DC}{κ:SortKind}{S:Cm->Prop}{R:Cm->Int}{a b:Array Cm}
structure Hi(S:Cm->Prop)(R:Cm->Int)(a b:Array Cm):Prop where
 sa:∀x∈a.toList,S x
 sb:∀x∈b.toList,S x
 ua:Up R a.toList
 ub:Up R b.toList
 dj:∀x∈a.toList,∀y∈b.toList,R x≠R y
 begs:∀y,b.toList[0]?=some y->∀x∈a.toList,R y<R x
theorem aT(HL:CN M A E s κ S R){st:Cn}{Q:Option Nat->Cn->Prop}(Y:S key)(B:kindOf st=κ)(J:∀x∈xs.toList,S x)(u:Up R xs.toList)(dj:∀x∈xs.toList,R x≠R key)(hn:n<=xs.size)(hh:dL<n)(h:∀k,k<=n->(∀x∈xs.toList.take k,R x<R key)->(∀x∈(xs.toList.take n).drop k,R key<R x)->Q (some k) st):wpS M A E s (W2 left key xs 0 n dL) Q st:=by
 show Rf HL Y B hh (λi hi=>?_) (λi j x y Z hj hx O=>ZA u () hx O) λk G h1 h2=>h k G (λx hx=>?_) λx hx=>?_
 .let hl:0+i<xs.size:=by lia
  show{xs[0+i],G5 hl,J _ ?_,dj _ ?_}<;>simp
 .let⟨i,hi,e⟩:=Ge hx;rw[Ga,Jl]at hi;show h1 i x () ?_;rw[Br]at e;rw[Fv,<-Jt,Jb (by rw[Jl];lia),e]
 .let⟨i,hi,e⟩:=Ge hx;rw[Gf,Ga,Jl]at hi;rw[Fu,Br]at e;show h2 (k+i) x () () ?_;rw[Fv,<-Jt,Jb (by rw[Jl];lia),e]
def EI(R:Cm->Int)(a b:Array Cm)(dC:Nat)(r:Option (Array Cm))(out:Array Cm)(na nb:Nat):Prop:=(∃z,r=some z/\BD R a.toList b.toList z.toList)\/(r=none/\MH R a.toList b.toList na nb out.toList.reverse/\0<na/\1<nb/\na+nb+dC<=a.size+b.size)
def FQ(xs:Array Cm)(n:Nat):(xs.extract 0 n).toList=xs.toList.take n:=by
 rw[Ft];show((xs.toList.drop 0).take (n-0))=_;rfl
def Ot(xs:Array Cm)(i n:Nat):(xs.extract i n).toList=(xs.toList.take n).drop i:=by
 rw[Ft,Dv]
theorem Qr(L:Hi S R a b)(h:MH R a.toList b.toList na nb out.toList.reverse)(e:nb=1):BD R a.toList b.toList (Rs a b out na nb).toList:=by
 unfold Rs;rw[Gp,Gp,FQ,FQ,Dh];show h.first λy G x hx=>?_;subst e;let{i,hi,B}:=Ge G;rw[Ga]at hi;let:i=0:=by lia
 subst this;rw[Br]at B;show L.begs y (by rw[Jb (),B]) x (Gv hx)
def Qs(h:MH R a.toList b.toList na nb out.toList.reverse)(e:na=0):BD R a.toList b.toList (Ub a b out na nb).toList:=by
 unfold Ub;rw[Gp,Gp,FQ,FQ,Dh];show h.doneA e
def kK(h:MH R a.toList b.toList na nb out.toList.reverse)(e:nb=0):BD R a.toList b.toList (Ub a b out na nb).toList:=by
 unfold Ub;rw[Gp,Gp,FQ,FQ,Dh];show h.doneB e
theorem MH.pushA{out:Array Cm}{x:Cm}(h:MH R a.toList b.toList na nb out.toList.reverse)(hn:0<na)(hx:a[na-1]?=some x)(hl:∀y∈b.toList.take nb,R y<R x):MH R a.toList b.toList (na-1) nb (out.push x).toList.reverse:=by
 let B:a.toList[na-1]?=some x:=by rwa[Jt]
 let:=h.a (i:=na-1) () (by rw[Qm hn B];intro z hz;rwa[Jj.mp hz]);rw[Qm hn B]at this;rw[De,List.reverse_append];show this
theorem MH.pushB{out:Array Cm}{x:Cm}(h:MH R a.toList b.toList na nb out.toList.reverse)(hn:0<nb)(hx:b[nb-1]?=some x)(hl:∀y∈a.toList.take na,R y<R x):MH R a.toList b.toList na (nb-1) (out.push x).toList.reverse:=by
 let B:b.toList[nb-1]?=some x:=by rwa[Jt]
 let:=h.b (i:=nb-1) () (by rw[Qm hn B];intro z hz;rwa[Jj.mp hz]);rw[Qm hn B]at this;rw[De,List.reverse_append];show this
def bL(out xs:Array Cm):(out++xs.reverse).toList.reverse=xs.toList++out.toList.reverse:=by
 rw[Gp,Dh,List.reverse_append,List.reverse_reverse]
abbrev QH(R:Cm->Int)(a b:Array Cm)(dC:Nat)(st:Cn)(Q:ForInStep CG->Cn->Prop):Prop:=∀r o i j h G B,EI R a b dC r o i j->Q (.done (r,i,j,o,h,G,B)) st/\(r=none->Q (.yield (r,i,j,o,h,G,B)) st)
theorem TQ(L:Hi S R a b){mg dC:Nat}{out:Array Cm}{st:Cn}{Q:ForInStep CG->Cn->Prop}{y:Cm}(h:MH R a.toList b.toList na nb out.toList.reverse)(J:0<na)(G:1<nb)(dS:na+nb+dC<=a.size+b.size)(B:a[na-1]?=some y)(lt:∀x∈b.toList.take nb,R x<R y)(q:QH R a b dC st Q):wpS M A E s (hi4 a b mg ac bc out na nb) Q st:=by
 unfold hi4;show Ch (Yb B ?_);let h2:=h.pushA J B lt
 by_cases e:(na-1==0)=true
 .rw[D9 e];show Ck (q _ _ _ _ _ _ _ (.inl {_,W,Qs h2 (by simpa using e)})).1
 .rw[D8 e];let g:EI R a b dC none (out.push y) (na-1) nb:=.inr {W,h2,by have:¬ na-1=0:=(by simpa using e);lia,G,()}
  split
  .show Ck (q _ _ _ _ _ _ _ g).1
  .show Ck ((q _ _ _ _ _ _ _ g).2 W)
theorem Zpi(HL:CN M A E s κ S R)(L:Hi S R a b){mg dC:Nat}{st:Cn}{Q:ForInStep CG->Cn->Prop}(G:kindOf st=κ)(h:MH R a.toList b.toList na nb out.toList.reverse)(J:0<na)(Z:1<nb)(dS:na+nb+dC<=a.size+b.size)(q:QH R a b dC st Q):wpS M A E s (hi3 a b mg ac bc out na nb) Q st:=by
 unfold hi3;let al:na<=a.size:=by have:=h.al;rwa [Jl]at this
 let bl:nb<=b.size:=by have:=h.bl;rwa [Jl]at this
 let{y,B,O}:=To (xs:=a) (i:=na-1) ();let Y:=Sj L.ua J (by rw[Jt];show B);show Ch (Yb B (Ch (aT HL (L.sa _ O) G L.sb L.ub (λx hx e=>L.dj y O x hx e.symm) bl () λk hk h1 h2=>?_)));dsimp only
 by_cases k0:nb-k > 0
 .rw[D9 k0];let h3:=h.b (i:=k) () λx hx z hz=>by
   let l1:=h2 x hx;let l2:=Y z hz;lia
  rw[<-Ot,<-bL]at h3
  by_cases e:(k==1)=true
  .rw[D9 e];show Ck (q _ _ _ _ _ _ _ (.inl {_,W,Qr L h3 (by simpa using e)})).1
  .rw[D8 e]
   by_cases e2:(k==0)=true
   .rw[D9 e2];show Ck (q _ _ _ _ _ _ _ (.inl {_,W,kK h3 (by simpa using e2)})).1
   .rw[D8 e2];let:¬ k=1:=by simpa using e
    let:¬ k=0:=by simpa using e2
    show TQ L h3 J () () B h1 q
 .rw[D8 k0];let:k=nb:=by lia
  subst this;show TQ L h J Z dS B h1 q
theorem ZQ(O:CN M A E s κ S R)(L:Hi S R a b){mg dC:Nat}{out:Array Cm}{st:Cn}{Q:ForInStep CG->Cn->Prop}{y:Cm}(B:kindOf st=κ)(h:MH R a.toList b.toList na nb out.toList.reverse)(J:0<na)(Y:1<nb)(dS:na+nb+dC<=a.size+b.size)(G:b[nb-1]?=some y)(lt:∀x∈a.toList.take na,R x<R y)(q:QH R a b dC st Q):wpS M A E s (hi2 a b mg ac bc out na nb) Q st:=by
 unfold hi2;show Ch (Yb G ?_);let h2:=h.pushB () G lt
 by_cases e:(nb-1==1)=true
 .rw[D9 e];show Ck (q _ _ _ _ _ _ _ (.inl {_,W,Qr L h2 (by simpa using e)})).1
 .rw[D8 e];let:¬ nb-1=1:=by simpa using e
  show Zpi O L B h2 J () () q
theorem aG(Y:CN M A E s κ S R)(L:Hi S R a b){mg dC:Nat}{st:Cn}{Q:ForInStep CG->Cn->Prop}(B:kindOf st=κ)(h:MH R a.toList b.toList na nb out.toList.reverse)(ha:0<na)(hb:1<nb)(dS:na+nb+dC<=a.size+b.size)(q:∀G,Keep st G->QH R a b dC G Q):wpS M A E s (hi1 a b mg ac bc out na nb) Q st:=by
 unfold hi1;rw[Xq];show Ch (wpS_modify ?_);let O:=q (Sn st mg) (Keep.gal st mg);let al:na<=a.size:=by have:=h.al;rwa [Jl]at this
 let bl:nb<=b.size:=by have:=h.bl;rwa [Jl]at this
 let{y,J,Z}:=To (xs:=b) (i:=nb-1) ();let pb:=Sj L.ub (n:=nb) () (by rw[Jt];show J);show Ch (Yb J (Ch (aT Y (L.sb _ Z) B L.sa L.ua (λx hx=>L.dj x hx y Z) al () λk hk h1 h2=>?_)));dsimp only
 by_cases k0:na-k > 0
 .rw[D9 k0];let h3:=h.a (i:=k) () λx hx z hz=>by
   let l1:=h2 x hx;let l2:=pb z hz;lia
  rw[<-Ot,<-bL]at h3
  by_cases e:(k==0)=true
  .rw[D9 e];show Ck (O _ _ _ _ _ _ _ (.inl {_,W,Qs h3 (by simpa using e)})).1
  .rw[D8 e];let:¬ k=0:=by simpa using e
   show ZQ Y L B h3 () hb () J h1 O
 .rw[D8 k0];let:k=na:=by lia
  subst this;show ZQ Y L B h ha hb dS J h1 O
def Zph(HL:CN M A E s κ S R)(L:Hi S R a b){mg dC:Nat}{st:Cn}{Q:CG->Cn->Prop}(a0:kindOf st=κ)(h:MH R a.toList b.toList na nb out.toList.reverse)(ha:0<na)(hb:1<nb)(dS:na+nb+dC<=a.size+b.size)(q:∀r o i j G O J B,Keep st B->EI R a b dC r o i j->Q (r,i,j,o,G,O,J) B):wpS M A E s (forIn [0:a.size+b.size] ((none,na,nb,out,mg,ac,bc):CG) (hiF a b)) Q st:=by
 show C9 (I:=λ_ c B=>Keep st B/\c.1=none/\EI R a b dC c.1 c.2.2.2.1 c.2.1 c.2.2.1) ?_ ?_ {.refl _,W,.inr {W,h,ha,hb,dS}}
 .rintro i ⟨r,i',j',o,G,O,J⟩ B _ _ ⟨Y,er,g⟩;let er:r=none:=er;subst er;rcases g with⟨z,ez,_⟩|⟨_,g1,g2,g3,g4⟩
  .cases ez
  .unfold hiF;dsimp only
   split
   .show aG HL L (Y.1.trans a0) g1 g2 g3 g4 λZ k2 r o i j G O J gg=>{q _ _ _ _ _ _ _ _ (Y.trans k2) gg,λe=>{Y.trans k2,e,gg}}
   .show aG HL L (Y.1.trans a0) g1 g2 g3 g4 λZ k2 r o i j G O J gg=>{q _ _ _ _ _ _ _ _ (Y.trans k2) gg,λe=>{Y.trans k2,e,gg}}
 .rintro⟨r,i',j',o,G,O,J⟩ B ⟨Y,er,g⟩;show q _ _ _ _ _ _ _ _ Y g
theorem kE(HL:CN M A E s κ S R)(L:Hi S R a b){mg dC:Nat}{st:Cn}{Q:HiS1->Cn->Prop}(a0:kindOf st=κ)(h:MH R a.toList b.toList na nb out.toList.reverse)(ha:0<na)(hb:1<nb)(dS:na+nb+dC<=a.size+b.size)(q:∀r o i j Y O,EI R a b (dC+1) r o i j->Q (r,i,j,o,Y,O) st):wpS M A E s (forIn [0:a.size+b.size] ((none,na,nb,out,ac,bc):HiS1) (hiG a b mg)) Q st:=by
 let al:na<=a.size:=by have:=h.al;rwa [Jl]at this
 show C9 (I:=λx c J=>J=st/\c.1=none/\EI R a b (dC+min x 1) c.1 c.2.2.2.1 c.2.1 c.2.2.1) ?_ ?_ {W,W,.inr {W,h,ha,hb,dS}}
 .rintro x ⟨r,i,j,o,Y,O⟩ J _ _ ⟨rfl,er,g⟩;let er:r=none:=er;subst er;rcases g with⟨z,ez,_⟩|⟨_,G,B,Z,g4⟩
  .cases ez
  .let g4:i+j+(dC+min x 1)<=a.size+b.size:=g4;let G:MH R a.toList b.toList i j o.toList.reverse:=G;let B:0<i:=B;let Z:1<j:=Z;let al:i<=a.size:=by have:=G.al;rwa [Jl]at this
   let bl:j<=b.size:=by have:=G.bl;rwa [Jl]at this
   let{p,hp,mp}:=To (xs:=b) (i:=j-1) ();let{y,hy,my}:=To (xs:=a) (i:=i-1) ();let pa:=Sj L.ua (n:=i) B (by rwa[Jt]);let pb:=Sj L.ub (n:=j) () (by rwa[Jt]);let nd:=L.dj y my p mp;unfold hiG;show Ch (Yb hp (Ch (Yb hy (Ch (HL _ _ _ _ (L.sb _ mp) (L.sa _ my) a0 ?_)))));dsimp only
   by_cases lt:R p<R y
   .rw[Ab lt,D9 W];show Ch (Yb hy ?_);let h2:=G.pushA B hy λz hz=>by have:=pb z hz;lia
    by_cases e:(i-1==0)=true
    .rw[D9 e];show Ck (q _ _ _ _ _ _ (.inl {_,W,Qs h2 (by simpa using e)}))
    .rw[D8 e];let:¬ i-1=0:=by simpa using e
     split
     .show Ck (q _ _ _ _ _ _ (.inr {W,h2,(),Z,()}))
     .show Ck {W,W,.inr {W,h2,by show 0<i-1;lia,Z,by show i-1+j+(dC+min (x+1) 1)<=_;lia}}
   .rw[BB lt,D8 nofun];show Ch (Yb hp ?_);let h2:=G.pushB () hp λz hz=>by have:=pa z hz;lia
    by_cases e:(j-1==1)=true
    .rw[D9 e];show Ck (q _ _ _ _ _ _ (.inl {_,W,Qr L h2 (by simpa using e)}))
    .rw[D8 e];let:¬ j-1=1:=by simpa using e
     split
     .show Ck (q _ _ _ _ _ _ (.inr {W,h2,B,(),()}))
     .show Ck {W,W,.inr {W,h2,B,by show 1<j-1;lia,by show i+(j-1)+(dC+min (x+1) 1)<=_;lia}}
 .rintro⟨r,i,j,o,Y,O⟩ J ⟨rfl,er,g⟩;show q _ _ _ _ _ _ ?_;rcases g with g|⟨g0,G,B,Z,g4⟩
  .show .inl g
  .show .inr {g0,G,B,Z,by
    let g4:i+j+(dC+min (max 0 (a.size+b.size)) 1)<=a.size+b.size:=g4;lia}
theorem gL(HL:CN M A E s κ S R)(L:Hi S R a b){st:Cn}{Q:Array Cm->Cn->Prop}(J:kindOf st=κ)(hb:0<b.size)(ha:0<a.size)(h0:∀p,a[a.size-1]?=some p->∀x∈b.toList,R x<R p)(q:∀r h,Keep st h->BD R a.toList b.toList r.toList->Q r h):wpS M A E s (KD a b) Q st:=by
 rw[zB];show Ch (wpS_lift (Ez {W,?_}));let{p,hp,mp}:=To (xs:=a) (i:=a.size-1) ();show Ch (Yb hp ?_);let h1:MH R a.toList b.toList (a.size-1) b.size #[p].toList.reverse:=by
  let dC:MH R a.toList b.toList a.size b.size (#[]:Array Cm).toList.reverse:=by
   let e1:a.toList.take a.size=a.toList:=Gx (by rw[Jl];show Jk _);let e2:b.toList.take b.size=b.toList:=Gx (by rw[Jl];show Jk _);let e3:a.toList.drop a.size=[]:=F2 (by rw[Jl];show Jk _);let e4:b.toList.drop b.size=[]:=F2 (by rw[Jl];show Jk _);show{by rw[Jl];show Jk _,by rw[Jl];show Jk _,by rw[e3,e4];show .refl _,by rw[e1];simpa using L.ua,by rw[e2];simpa using L.ub}
  show dC.pushA ha hp λy hy=>h0 p hp y (Gv hy)
 by_cases e:(a.size-1==0)=true
 .rw[D9 e];show Ck (q _ _ (.refl _) (Qs h1 (by simpa using e)))
 rw[D8 e]
 by_cases e2:(b.size==1)=true
 .rw[D9 e2];show Ck (q _ _ (.refl _) (Qr L h1 (by simpa using e2)))
 rw[D8 e2];let n1:¬ a.size-1=0:=by simpa using e
 let n2:¬ b.size=1:=by simpa using e2
 show Ch (wpS_get ?_);show Ch (Kc (C9 (I:=λx c h=>Keep st h/\c.1=none/\EI R a b (x+1) c.1 c.2.2.2.1 c.2.1 c.2.2.1) (Q:=λc h=>Keep st h/\∃r,c.1=some r/\BD R a.toList b.toList r.toList) ?_ ?_ {.refl _,W,.inr {W,h1,by show 0<a.size-1;lia,by show 1<b.size;lia,by show a.size-1+b.size+(0+1)<=_;lia}}) ?_)
 .rintro x ⟨r,i,j,o,mg⟩ h _ _ ⟨B,er,g⟩;let er:r=none:=er;subst er;rcases g with⟨z,G,_⟩|⟨_,g1,Z,Y,O⟩
  .cases G
  .unfold hiH;show Ch (kE HL L (B.1.trans J) g1 Z Y O λr o i j ac bc gg=>?_);rcases gg with⟨z,rfl,hz⟩|⟨rfl,f1,f2,f3,f4⟩
   .show Ck {B,z,W,hz}
   .show Ch (wpS_lift (Ez {W,?_}));show Ch (Zph HL L (B.1.trans J) f1 f2 f3 f4 λr o i j a1 ac bc a0 k2 gg=>?_);rcases gg with⟨z,rfl,hz⟩|⟨rfl,d1,d2,d3,d4⟩
    .show Ck {B.trans k2,z,W,hz}
    .dsimp only;rw[Xq];show Ch (wpS_modify (Ck {(B.trans k2).trans (Keep.gal _ _),W,.inr {W,d1,d2,d3,d4}}))
 .rintro⟨r,i,j,o,mg⟩ h ⟨B,er,g⟩;rcases g with⟨z,G,hz⟩|⟨_,g1,Z,Y,O⟩
  .show{B,z,G,hz}
  .let Z:0<i:=Z;let Y:1<j:=Y;let O:i+j+(max 0 (a.size+b.size)+1)<=a.size+b.size:=O;lia
 .rintro⟨r,i,j,o,mg⟩ h ⟨B,z,G,hz⟩;let G:r=some z:=G;subst G;show Ck (q _ _ B hz)
end
def Zd2(i:Nat):mergeAt' i=(do
 let s <-get
 let(some (sa,na,power),some (sb,nb,_)):=((C1 s)[i]?,(C1 s)[i+1]?)|unsupported "internal:list.sort.pending"
 set (setPending s (((C1 s).setIfInBounds i (sa,na+nb,power)).eraseIdxIfInBounds (i+1)))
 let some k <-W2 false (<-elem' (C0 s) sb) (C0 s) sa na 0|return false
 let(sa,na):=(sa+k,na-k)
 if na==0 then return true
 let some nb <-W2 true (<-elem' (C0 s) (sa+na-1)) (C0 s) sb nb (nb-1)|return false
 if nb==0 then return true
 let x:=(C0 s).extract sa sb
 let y:=(C0 s).extract sb (sb+nb)
 let merged <-if na<=nb then KM x y else KD x y
 modify λs=>setArr s (merged.toList.zipIdx.foldl (λa(p,j)=>a.setIfInBounds (sa+j) p) (C0 s))
 return(E6 (<-get)).isNone):=rfl
theorem O5:∀(l:List Cm)(n o:Nat)(h:Array Cm)(P W T:List Cm),h.toList=P++W++T->P.length=o+n->W.length=l.length->((l.zipIdx n).foldl (λa(x:Cm×Nat)=>a.setIfInBounds (o+x.2) x.1) h).toList=P++l++T
 |[],n,o,h,P,W,T,e,hP,hW=>by
  let:W=[]:=Bb.mp hW;subst this;show e
 |x::l,n,o,h,P,[],T,e,hP,hW=>by cases hW
 |x::l,n,o,h,P,w::W,T,e,hP,hW=>by
  rw[List.zipIdx_cons,List.foldl_cons];let e1:(h.setIfInBounds (o+n) x).toList=(P++[x])++W++T:=by
   rw[Array.toList_setIfInBounds,e,<-hP,Jf,Bv _ _ (Jk _),Bz];simp
  let:=O5 l (n+1) o _ (P++[x]) W T e1 (by rw[Jc,hP];rfl) (Nat.succ.inj hW);rw[this];simp
section
variable{M:DC}{κ:SortKind}{S:Cm->Prop}{R:Cm->Int}
theorem Qz{h:Array Cm}{P X T:List Cm}(e:h.toList=P++X++T){i:Nat}(hi:i<X.length):h[P.length+i]?=some X[i]:=by
 rw[<-Jt,e,Jf,J0 (),Fc,Jo hi,Jb hi]
def VY{h:Array Cm}{P X T:List Cm}(e:h.toList=P++X++T){o n:Nat}(B:P.length=o)(hn:o+X.length=n):(h.extract o n).toList=X:=by
 rw[Ft,e];show((P++X++T).drop o).take (n-o)=X;rw[<-B,Jf,List.drop_left,<-hn,B,Fc,Be]
theorem QI(HL:CN M A E s κ S R){B:Array Cm}{P X T:List Cm}{o n:Nat}{st:Cn}{Q:Option Nat->Cn->Prop}(e:B.toList=P++X++T)(ho:P.length=o)(hn:X.length=n)(hk:S key)(G:kindOf st=κ)(sS:∀x∈X,S x)(u:Up R X)(dj:∀x∈X,R x≠R key)(hh:dL<n)(h:∀k,k<=n->(∀x∈X.take k,R x<R key)->(∀x∈X.drop k,R key<R x)->Q (some k) st):wpS M A E s (W2 left key B o n dL) Q st:=by
 subst ho;subst hn;show Rf HL hk G hh (λi hi=>{X[i],Qz e hi,sS _ (Jv hi),dj _ (Jv hi)}) (λi j x y O Z hx Y=>?_) λk J h1 h2=>h k J (λx hx=>?_) λx hx=>?_
 .rw[Qz e ()]at hx;rw[Qz e Z]at Y;cases hx;cases Y;show(Gy.mp u) i j () Z O
 .let⟨i,hi,ex⟩:=Ge hx;rw[Ga]at hi;rw[Br]at ex;show h1 i x () (by rw[Qz e (),ex])
 .let⟨i,hi,ex⟩:=Ge hx;rw[Gf]at hi;rw[Fu]at ex;show h2 (k+i) x () () (by rw[Qz e (),ex])
def gG{X:List Cm}(u:Up R X)(h:0<X.length):∀x∈X,R X[0]<=R x:=λx hx=>by
 let:=Qw u (i:=0) (Jb h) x (by rwa[Dw]);show this
theorem uW{X:List Cm}(u:Up R X)(h:0<X.length):∀x∈X,R x<=R (X[X.length-1]'()):=λx hx=>Sj u h (Jb ()) x (by rwa[Gc])
theorem rE(HL:CN M A E s κ S R){st:Cn}{i sa pw sb pw2:Nat}{P X Y T:List Cm}{Q:Bool->Cn->Prop}(a9:(C1 st)[i]?=some (sa,na,pw))(a8:(C1 st)[i+1]?=some (sb,nb,pw2))(e:(C0 st).toList=P++X++Y++T)(lP:P.length=sa)(lX:X.length=na)(lY:Y.length=nb)(hb:sb=sa+na)(b1:0<na)(b2:0<nb)(uX:Up R X)(uY:Up R Y)(sX:∀x∈X,S x)(sY:∀x∈Y,S x)(dj:∀x∈X,∀y∈Y,R x≠R y)(J:kindOf st=κ)(hf:E6 st=none)(q:∀B Z,kindOf B=κ->E6 B=none->C1 B=((C1 st).setIfInBounds i (sa,na+nb,pw)).eraseIdxIfInBounds (i+1)->(C0 B).toList=P++Z++T->Z.Perm (X++Y)->Up R Z->Q true B):wpS M A E s (mergeAt' i) Q st:=by
 rw[Zd2];show Ch (wpS_get ?_);rw[a9,a8];dsimp only;generalize eP:((C1 st).setIfInBounds i (sa,na+nb,pw)).eraseIdxIfInBounds (i+1)=pn at q;let a7:0<X.length:=by lia
 let a0:0<Y.length:=by lia
 let eX:(C0 st).toList=P++X++(Y++T):=by rw[e];simp
 let eY:(C0 st).toList=(P++X)++Y++T:=e;let a2:(P++X).length=sb:=by rw[Jc,lP,lX,hb]
 let aY:(C0 st)[sb]?=some Y[0]:=by
  let:=Qz eY a0;rw[a2,Nat.add_zero]at this;show this
 let aX:(C0 st)[sb-1]?=some (X[X.length-1]'()):=by
  let:=Qz eX (i:=X.length-1) ();rw[<-this]
  congr 1
  lia
 show Ch ?_;show wpS M A E s (set _) _ st;let a3:∀{a1:Cn}{Q:PUnit->Cn->Prop},Q ⟨⟩ a1->wpS M A E s (set a1:StateT Cn Sem PUnit) Q st:=λ{a1 Q}h=>by
  unfold wpS;rw[StateT.run_set];show D4 {W,h}
 show a3 ?_;let whole:Up R (X++Y)->Q true (setPending st pn):=λu=>q (setPending st pn) (X++Y) J hf W (by rw[show(C0 (setPending st pn)).toList=(C0 st).toList from W,e];simp) (.refl _) u;show Ch (Yb aY (Ch (QI HL eX lP lX (sY _ (Jv a0)) J sX uX (λx hx=>dj x hx _ (Jv a0)) b1 λk hk h1 h2=>?_)));dsimp only;let hd:=gG uY a0;let ls:=uW uX a7
 by_cases e0:(na-k==0)=true
 .rw[D9 e0];let ek:na-k=0:=by simpa using e0
  show Ck (whole (Xi.mpr {uX,uY,λx hx y G=>?_}));let:=h1 x (by rwa[Gx ()]);let:=hd y G;lia
 rw[D8 e0];let nk:¬ na-k=0:=by simpa using e0
 rw[show sa+k+(na-k)-1=sb-1 by lia];show Ch (Yb aX (Ch (QI HL eY a2 lY (sX _ (Jv _)) J sY uY (λy G z=>dj _ (Jv _) y G z.symm) () λm hm g1 g2=>?_)));dsimp only
 by_cases e1:(m==0)=true
 .rw[D9 e1];let em:m=0:=by simpa using e1
  subst em;show Ck (whole (Xi.mpr {uX,uY,λx hx y G=>?_}));let:=g2 y G;let:=ls x hx;lia
 rw[D8 e1];let nm:¬ m=0:=by simpa using e1
 let b4:X=X.take k++X.drop k:=(J8 _ _).symm;let b3:Y=Y.take m++Y.drop m:=(J8 _ _).symm;let e5:(C0 st).toList=(P++X.take k)++X.drop k++(Y++T):=by rw[eX];simp
 let a5:Y++T=Y.take m++(Y.drop m++T):=by rw[<-Jf,J8]
 let e6:(C0 st).toList=(P++X)++Y.take m++(Y.drop m++T):=by rw[eX,a5];simp only[Jf]
 let a4:(P++X.take k).length=sa+k:=by rw[Jc,Ga];lia
 let ex:((C0 st).extract (sa+k) sb).toList=X.drop k:=VY e5 a4 (by rw[Gf];lia);let O:((C0 st).extract sb (sb+m)).toList=Y.take m:=VY e6 a2 (by rw[Ga];lia);let sx:((C0 st).extract (sa+k) sb).size=X.length-k:=by rw[<-Jl,ex,Gf]
 let sy:((C0 st).extract sb (sb+m)).size=m:=by rw[<-Jl,O,Ga];lia
 let lastX:(X.drop k)[X.length-k-1]?=some (X[X.length-1]'()):=by
  rw[List.getElem?_drop,Jb ()]
  congr 2
  lia
 let firstY:(Y.take m)[0]?=some Y[0]:=by
  rw[K2 (),Jb a0]
 let fin:∀(r:Array Cm)(B:Cn),Keep (setPending st pn) B->BD R (X.drop k) (Y.take m) r.toList->wpS M A E s (do
   modify λs=>setArr s (r.toList.zipIdx.foldl (λa(p,j)=>a.setIfInBounds (sa+k+j) p) (C0 s))
   return(E6 (<-get)).isNone) Q B:=λr B kp⟨rp,ru⟩=>by
  show Ch (wpS_modify (Ch (wpS_get (Ck ?_))));rw[show E6 (setArr B _)=E6 B from W,kp.2.2.2,show E6 (setPending st pn)=E6 st from W,hf];let ea:(C0 B).toList=(P++X.take k)++(X.drop k++Y.take m)++(Y.drop m++T):=by
   rw[kp.2.1,show C0 (setPending st pn)=C0 st from W,e5,a5];simp only[Jf]
  let lb:=O5 r.toList 0 (sa+k) (C0 B) (P++X.take k) (X.drop k++Y.take m) (Y.drop m++T) ea a4 rp.length_eq.symm;show q _ (X.take k++r.toList++Y.drop m) (kp.1.trans J) (by rwa[show E6 (setArr B _)=E6 B from W,kp.2.2.2]) (by rw[show C1 (setArr B _)=C1 B from W,kp.2.2.1]) ?_ ?_ ?_
  .show Eq.trans lb ?_;simp
  .show((rp.append_left _).append_right _).trans ?_;rw[<-Jf,J8,Jf,J8]
  .let mem:∀z∈r.toList,z∈X.drop k\/z∈Y.take m:=λz hz=>Jw.mp (rp.mem_iff.mp hz);show Xi.mpr {Xi.mpr {uX.sublist (B7 _ _),ru,λx hx z hz=>?_},uY.sublist (Fs _ _),λx hx y G=>?_}
   .let l1:=h1 x hx;rcases mem z hz with q'|q'
    .let:=h2 z q';lia
    .let:=hd z (Gv q');lia
   .let l2:=g2 y G;rcases Jw.mp hx with q'|q'
    .let:=ls x (Gv q');lia
    .rcases mem x q' with q'|q'
     .let:=ls x (G7 q');lia
     .let:=g1 x q';lia
 let a6:∀x∈X.drop k,∀y∈Y.take m,R x≠R y:=λx hx y G=>dj x (G7 hx) y (Gv G)
 split
 .show Ch (Zc9 HL {λx hx=>sX x (G7 (by rwa [ex]at hx)),λx hx=>sY x (Gv (by rwa [O]at hx)),by rw[ex];show uX.sublist (Fs _ _),by rw[O];show uY.sublist (B7 _ _),by rwa[ex,O],λx hx y G=>?_} J () () (λp hp x hx=>?_) λr B kp hr=>fin r B kp (by rw[ex,O]at hr;show hr))
  .rw[ex,sx,lastX]at hx;cases hx;rw[O]at G;show g1 y G
  .rw[<-Jt,O,firstY]at hp;cases hp;rw[ex]at hx;show h2 x hx
 .show Ch (gL HL {λx hx=>sX x (G7 (by rwa [ex]at hx)),λx hx=>sY x (Gv (by rwa [O]at hx)),by rw[ex];show uX.sublist (Fs _ _),by rw[O];show uY.sublist (B7 _ _),by rwa[ex,O],λy G x hx=>?_} J () () (λp hp x hx=>?_) λr B kp hr=>fin r B kp (by rw[ex,O]at hr;show hr))
  .rw[O,firstY]at G;cases G;rw[ex]at hx;show h2 x hx
  .rw[<-Jt,ex,sx,lastX]at hp;cases hp;rw[O]at hx;show g1 x hx
end
section
variable{M:DC}{κ:SortKind}{S:Cm->Prop}{R:Cm->Int}{N:Nat}
def Ai(R:Cm->Int)(xs:Array Cm)(i:Nat):Int:=match xs[i]? with|some x=>R x|none=>0
structure B0(κ:SortKind)(S:Cm->Prop)(R:Cm->Int)(N:Nat)(st:Cn):Prop where
 kind:kindOf st=κ
 fail:E6 st=none
 size:(C0 st).size=N
 s:∀x∈(C0 st).toList,S x
 nd:((C0 st).toList.map R).Nodup
def B0.at{st:Cn}(B:B0 κ S R N st)(hi:i<N):∃x,(C0 st)[i]?=some x/\S x/\R x=Ai R (C0 st) i:=by
 let h:i<(C0 st).size:=by rwa[B.size]
 let e:(C0 st)[i]?=some (C0 st)[i]:=G5 h;exists(C0 st)[i],e,B.s _ (by simp),?_;unfold Ai;rw[e]
theorem B0.ne{st:Cn}(B:B0 κ S R N st)(hi:i<N)(hj:j<N)(h:i≠j):Ai R (C0 st) i≠Ai R (C0 st) j:=λz=>by
 let{x,ex,_,O}:=B.at hi;let{y,G,_,J}:=B.at hj;rw[<-O,<-J]at z;let sz:=B.size;let Z:i<((C0 st).toList.map R).length:=by simp;lia
 let Y:j<((C0 st).toList.map R).length:=by simp;lia
 rw[<-Jt]at ex G;let{_,e1}:=Jd.mp ex;let{_,e2}:=Jd.mp G;show h ((Bf (h₀:=Z) (h₁:=Y) B.nd).mp (by rw[Bc,Bc,e1,e2,z]))
def B0.perm{st:Cn}(B:B0 κ S R N st)(p:xs.Perm (C0 st)):B0 κ S R N (setArr st xs):=by
 let pl:=G4.mp p;exists B.kind,B.fail,by show xs.size=N;rw[<-B.size];show p.size_eq,λx hx=>B.s x (pl.mem_iff.mp hx),(pl.map R).nodup_iff.mpr B.nd
def Qv(HL:CN M A E s κ S R){st:Cn}{Q:Option Bool->Cn->Prop}(B:B0 κ S R N st)(hi:i<N)(Z:j<N)(h:Q (some (decide (Ai R (C0 st) i<Ai R (C0 st) j))) st):wpS M A E s (ltAt' i j) Q st:=by
 let{x,ex,J,Y}:=B.at hi;let{y,ey,G,O}:=B.at Z;rw[ltAt'_eq];show Ch (wpS_get (Ch (Yb ex (Ch (Yb ey (HL _ _ _ _ J G B.kind ?_))))));rwa[Y,O]
def Ti(R:Cm->Int)(xs:Array Cm)(lo n:Nat):Prop:=∀i j,lo<=i->i<j->j<lo+n->Ai R xs i<Ai R xs j
theorem Ti.more{xs:Array Cm}{lo n:Nat}(h:Ti R xs lo n)(h1:1<=n)(l:Ai R xs (lo+n-1)<Ai R xs (lo+n)):Ti R xs lo (n+1):=λi j hi B G=>by
 rcases Fq j (lo+n)with z|z
 .show h i j hi B z
 .let:j=lo+n:=by lia
  subst this;rcases Fq i (lo+n-1)with y|y
  .show Int.lt_trans (h i (lo+n-1) hi y ()) l
  .let:i=lo+n-1:=by lia
   subst this;show l
theorem VD(O:CN M A E s κ S R){st:Cn}{lo h a:Nat}{Q:Option (Option Nat)×Nat->Cn->Prop}(B:B0 κ S R N st)(Z:lo+h=N)(h1:1<=a)(Y:a<=h)(J:Ti R (C0 st) lo a)(q:∀n,a<=n->n<=h->Ti R (C0 st) lo n->(n=h\/(n<h/\Ai R (C0 st) (lo+n)<Ai R (C0 st) (lo+n-1)))->Q (none,n) st) :
  wpS M A E s (forIn [a:h] ((none,a):Option (Option Nat)×Nat) λ_ __s=>do
   let __x <-ltAt' (lo+__s.snd) (lo+__s.snd-1)
   match __x with
   |some smaller=>if smaller=true then pure (ForInStep.done (none,__s.snd))else pure (Er (none,__s.snd+1))
   |_=>pure (ForInStep.done (some none,__s.snd))) Q st:=by
 show C9 (I:=λx c G=>G=st/\∃n,c=(none,n)/\n=x/\Ti R (C0 st) lo n) ?_ ?_ {W,a,W,W,J}
 .rintro x c G hx hx2 ⟨rfl,n,rfl,rfl,J⟩;dsimp only;show Ch (Qv O B () () ?_)
  by_cases l:Ai R (C0 G) (lo+n)<Ai R (C0 G) (lo+n-1)
  .simp only[l,decide_true,if_true];show Ck (q n hx () J (.inr {hx2,l}))
  .simp only[l,decide_false,Gg,if_false];let ne:=B.ne (i:=lo+n) (j:=lo+n-1) () () ();show Ck {W,_,W,W,J.more () ()}
 .rintro c G ⟨rfl,n,rfl,e,J⟩;show q n () () J (.inl ())
def rP{xs:Array Cm}{i:Nat}(B:j<=xs.size)(k:Nat):Ai R (mirror xs i j ((j-i) / 2)) k=if i<=k/\k<j then Ai R xs (i+j-1-k)else Ai R xs k:=by
 unfold Ai;rw[getElem?_mirror_all B]
 by_cases h:i<=k/\k<j
 .rw[D9 h,D9 h]
 .rw[D8 h,D8 h]
theorem mZ(HL:CN M A E s κ S R){st:Cn}{lo G:Nat}{Q:Option Nat->Cn->Prop}(B:B0 κ S R N st)(hN:lo+G=N)(h1:1<=G)(q:∀xs n,1<=n->n<=G->xs.Perm (C0 st)->(∀k,k<lo->xs[k]?=(C0 st)[k]?)->Ti R xs lo n->Q (some n) (setArr st xs)):wpS M A E s (countRun' lo G) Q st:=by
 rw[countRun'_eq];dsimp only;let q0:∀n,1<=n->n<=G->Ti R (C0 st) lo n->Q (some n) st:=λn a1 Z Y=>q (C0 st) n a1 Z (Array.Perm.refl _) {} Y;show Ch (Kc (VD HL B hN (Jk 1) h1 (λi j hi O hj=>D0 hj ()) (Q:=λc J=>J=st/\∃n,c=(none,n)/\1<=n/\n<=G/\Ti R (C0 st) lo n/\(n=G\/(n<G/\Ai R (C0 st) (lo+n)<Ai R (C0 st) (lo+n-1)))) λn a1 Z Y a4=>{W,n,W,a1,Z,Y,a4}) ?_);rintro c J ⟨rfl,n,rfl,a1,Z,Y,a4⟩;dsimp only
 by_cases e:(n==G)=true
 .rw[D9 e];show Ck (q0 n a1 Z Y)
 rw[D8 e];let ne:¬ n=G:=by simpa using e
 let a6:=(a4.resolve_left ne).2
 by_cases n1:n > 1
 .rw[D9 n1];show Ch (Qv HL B () () ?_);rw[Ab (Y lo (lo+n-1) (Jk _) () ())];show Ck (q0 n a1 Z Y)
 rw[D8 n1];let e1:n=1:=by lia
 subst e1;show Ch (wpS_lift (Ez {W,?_}));show Ch (Kc (C9 (I:=λx c h=>h=J/\c=(none,x,0)/\∀i j,lo<=i->i<j->j<lo+x->Ai R (C0 J) j<Ai R (C0 J) i) (Q:=λc h=>h=J/\∃n,c=(none,n,0)/\2<=n/\n<=G/\∀i j,lo<=i->i<j->j<lo+n->Ai R (C0 J) j<Ai R (C0 J) i) ?step ?fin ?init) ?post)
 case init =>
  exists W,W,λi j hi O hj=>?_;let:i=lo:=by lia
  let:j=lo+1:=by lia
  subst i;subst j;show a6
 case fin =>
  rintro c h ⟨rfl,rfl,hd⟩;show{W,·,(),(),hd}
 case step =>
  rintro x c h hx hx2 ⟨rfl,rfl,hd⟩;dsimp only;show Ch (Qv HL B () () ?_)
  by_cases l:Ai R (C0 h) (lo+x)<Ai R (C0 h) (lo+x-1)
  .simp only[l,decide_true,if_true,Bw,gt_iff_lt,if_false];show Ck {W,W,λi j hi O hj=>?_};rcases Fq j (lo+x)with z|z
   .show hd i j hi O z
   .let:j=lo+x:=by lia
    subst this;rcases Fq i (lo+x-1)with y|y
    .show Int.lt_trans l (hd i (lo+x-1) hi y ())
    .let:i=lo+x-1:=by lia
     subst this;show l
  .simp only[l,decide_false,Gg,if_false];let ne:=B.ne (i:=lo+x) (j:=lo+x-1) () () ();show Ch (Qv HL B () () ?_);rw[Ab (show Ai R (C0 h) (lo+x-1)<Ai R (C0 h) (lo+x)by lia)];show Ck {W,x,W,(),(),hd}
 case post =>
  rintro c h ⟨rfl,n,rfl,b1,b2,hd⟩;dsimp only;rw[D8 nofun,reverseSlice'_eq];show Ch (wpS_modify ?_);let sz:=B.size;let Bm:=B.perm (mirror_perm (C0 h) lo (lo+n) ((lo+n-lo) / 2));let rm:=λk=>rP (R:=R) (xs:=C0 h) (i:=lo) (j:=lo+n) () k;let a5:∀k,k<lo->(mirror (C0 h) lo (lo+n) ((lo+n-lo) / 2))[k]?=(C0 h)[k]?:=λk hk=>by
   rw[getElem?_mirror_all (),D8 ()]
  let pm:=mirror_perm (C0 h) lo (lo+n) ((lo+n-lo) / 2);generalize mirror (C0 h) lo (lo+n) ((lo+n-lo) / 2)=xs at Bm rm a5 pm;let su:Ti R xs lo n:=λi j hi O hj=>by
   rw[rm,rm,D9 (),D9 ()];show hd _ _ () () ()
  show Ch (Kc (VD HL Bm hN () b2 su (Q:=λc a0=>a0=setArr h xs/\∃n,c=(none,n)/\1<=n/\n<=G/\Ti R xs lo n) λn a1 Z Y a4=>{W,n,W,(),Z,Y}) ?_);rintro c a0 ⟨rfl,n',rfl,c1,c2,c3⟩;show Ck (q xs n' c1 c2 pm a5 c3)
def qG{xs:Array Cm}{src d:Nat}(hs:src<xs.size)(hd:d<=src)(k:Nat):Ai R (bubble xs src d) k=if k=src-d then Ai R xs src else if src-d<k/\k<=src then Ai R xs (k-1)else Ai R xs k:=by
 unfold Ai;rw[getElem?_bubble hs d hd]
 by_cases h:k=src-d
 .rw[D9 h,D9 h]
 .rw[D8 h,D8 h]
  by_cases h2:src-d<k/\k<=src
  .rw[D9 h2,D9 h2]
  .rw[D8 h2,D8 h2]
theorem vY(HL:CN M A E s κ S R){st:Cn}{lo n ok:Nat}{Q:Bool->Cn->Prop}(B:B0 κ S R N st)(hN:lo+n<=N)(h1:1<=n)(a6:ok<=n)(J:Ti R (C0 st) lo ok)(q:∀xs,xs.Perm (C0 st)->(∀k,k<lo->xs[k]?=(C0 st)[k]?)->Ti R xs lo n->Q true (setArr st xs)):wpS M A E s (binarySort' lo n ok) Q st:=by
 rw[binarySort'_eq];show Ch (Kc (C9 (I:=λk c G=>c=(none,PUnit.unit)/\∃xs,G=setArr st xs/\xs.Perm (C0 st)/\(∀k,k<lo->xs[k]?=(C0 st)[k]?)/\Ti R xs lo (min k n)) (Q:=λc G=>c=(none,PUnit.unit)/\∃xs,G=setArr st xs/\xs.Perm (C0 st)/\(∀k,k<lo->xs[k]?=(C0 st)[k]?)/\Ti R xs lo n) ?step ?fin ?init) ?post)
 case init =>
  exists W,C0 st,W,Array.Perm.refl _,λ_ _=>rfl,λi j hi a0 hj=>?_
  by_cases z:ok=0
  .lia
  .show J i j hi a0 ()
 case fin =>
  rintro c G ⟨rfl,xs,rfl,p,Z,J⟩;rw[show min (max (max ok 1) n) n=n by lia]at J;show{W,xs,W,p,Z,J}
 case post =>
  rintro c G ⟨rfl,xs,rfl,p,Z,J⟩;show Ck (q xs p Z J)
 case step =>
  rintro k c G hk a7 ⟨rfl,xs,rfl,p,Z,J⟩;rw[show min k n=k by lia]at J;let B':=B.perm p;let sz:xs.size=N:=B'.size;show Ch (Kc (C9 (I:=λx c h=>h=setArr st xs/\∃l r,c=(none,l,r)/\l<=r/\r<=k/\r-l<=k-x/\(∀i,i<l->Ai R xs (lo+i)<Ai R xs (lo+k))/\∀i,r<=i->i<k->Ai R xs (lo+k)<Ai R xs (lo+i)) (Q:=λc h=>h=setArr st xs/\∃l,c=(none,l,l)/\l<=k/\(∀i,i<l->Ai R xs (lo+i)<Ai R xs (lo+k))/\∀i,l<=i->i<k->Ai R xs (lo+k)<Ai R xs (lo+i)) ?istep ?ifin ?iinit) ?ipost)
  case iinit=>show{W,0,k,W,J9 _,Jk _,Jk _,λi hi=>D0 hi (G9 _),λi a b=>by lia}
  case ifin =>
   rintro c h ⟨rfl,l,r,rfl,a1,a2,a3,Y,O⟩;let:l=r:=by lia
   subst this;show{W,l,W,a2,Y,O}
  case istep =>
   rintro x c h _ hx ⟨rfl,l,r,rfl,a1,a2,a3,Y,O⟩;dsimp only
   by_cases hge:l≥r
   .rw[D9 hge];let:l=r:=by lia
    subst this;show Ck {W,l,W,a2,Y,O}
   .rw[D8 hge];show Ch (Qv HL B' () () ?_)
    by_cases l2:Ai R xs (lo+k)<Ai R xs (lo+(l+r) / 2)
    .simp only[l2,decide_true,if_true];show Ck {W,l,(l+r) / 2,W,(),(),(),Y,λi b1 b2=>?_};rcases Fq ((l+r) / 2) i with z|z
     .show Int.lt_trans l2 (J _ _ () () ())
     .let:i=(l+r) / 2:=by lia
      subst this;show l2
    .simp only[l2,decide_false,Gg,if_false];let ne:=B'.ne (i:=lo+k) (j:=lo+(l+r) / 2) () () ();let l3:Ai R xs (lo+(l+r) / 2)<Ai R xs (lo+k):=by
      let ne:Ai R xs (lo+k)≠Ai R xs (lo+(l+r) / 2):=ne;lia
     show Ck {W,(l+r) / 2+1,r,W,(),(),(),λi b1=>?_,O};rcases Fq i ((l+r) / 2)with z|z
     .show Int.lt_trans (J _ _ () () ()) l3
     .let:i=(l+r) / 2:=by lia
      subst this;show l3
  case ipost =>
   rintro c h ⟨rfl,l,rfl,a2,Y,O⟩;show wpS _ _ _ _ (do moveDown' (lo+k) (lo+l);pure (Er (none,PUnit.unit))) _ _;rw[moveDown'_eq];let rb:=λi=>qG (R:=R) (xs:=xs) (src:=lo+k) (d:=lo+k-(lo+l)) () () i;show Ch (wpS_modify (Ck {W,bubble xs (lo+k) (lo+k-(lo+l)),W,(bubble_perm _ _ _).trans p,λi hi=>?_,?_}))
   .rw[getElem?_bubble () _ (),D8 (),D8 ()];show Z i hi
   .rw[show min (k+1) n=k+1 by lia];intro i j hi a0 hj;rw[rb,rb,show lo+k-(lo+k-(lo+l))=lo+l by lia];let s1:∀i,lo<=i->i<lo+l->Ai R xs i<Ai R xs (lo+k):=λi h1 h2=>by have:=Y (i-lo) ();rwa [show lo+(i-lo)=i by lia]at this
    let s2:∀i,lo+l<=i->i<lo+k->Ai R xs (lo+k)<Ai R xs i:=λi h1 h2=>by have:=O (i-lo) () ();rwa [show lo+(i-lo)=i by lia]at this
    repeat' split
    all_goals first
     |(exfalso;lia)
     |show s1 _ () ()
     |show s2 _ () ()
     |show J _ _ () () ()
end
section
variable{M:DC}{κ:SortKind}{S:Cm->Prop}{R:Cm->Int}{N:Nat}{a₀:Array Cm}
def Pd:Nat->List (List Cm)->List (Nat×Nat×Nat)->Prop
 |_,[],[]=>True
 |o,g::gs,p::ps=>p.1=o/\p.2.1=g.length/\Pd (o+g.length) gs ps
 |_,_,_=>False
theorem Pd.len:∀{o:Nat}{gs:List (List Cm)}{ps:List (Nat×Nat×Nat)},Pd o gs ps->ps.length=gs.length
 |_,[],[],_=>rfl
 |_,_::_,_::_,h=>congrArg (· + 1) (Pd.len h.2.2)
 |_,[],_::_,h=>h.elim
 |_,_::_,[],h=>h.elim
theorem RI:∀{o:Nat}{gs hs:List (List Cm)}{ps:List (Nat×Nat×Nat)},Pd o (gs++hs) ps->∃B p2,ps=B++p2/\Pd o gs B/\Pd (o+gs.flatten.length) hs p2
 |_,[],_,ps,h=>{[],ps,W,trivial,by simpa using h}
 |_,_::_,_,[],h=>h.elim
 |o,g::gs,hs,p::ps,h=>by
  let{B,p2,e,h1,h2}:=RI (gs:=gs) (hs:=hs) h.2.2;exists p::B,p2,by rw[e];rfl,{h.1,h.2.1,h1},?_;rwa[Bl,Jc,<-Fx]
theorem KB:∀{o:Nat}{gs hs:List (List Cm)}{B p2:List (Nat×Nat×Nat)},Pd o gs B->Pd (o+gs.flatten.length) hs p2->Pd o (gs++hs) (B++p2)
 |_,[],_,[],_,_,h=>by simpa using h
 |_,[],_,_::_,_,h,_=>h.elim
 |_,_::_,_,[],_,h,_=>h.elim
 |o,g::gs,hs,p::B,p2,h1,h2=>by
  rw[Bl,Jc,<-Fx]at h2;show{h1.1,h1.2.1,KB h1.2.2 h2}
theorem TR :∀{o i:Nat}{gs:List (List Cm)}{ps:List (Nat×Nat×Nat)},Pd o gs ps->Pd o gs (ps.modify i λx=>(x.1,x.2.1,pw))
 |_,_,[],[],h=>by simpa using h
 |_,0,g::gs,p::ps,h=>by
  rwa[List.modify_zero_cons]
 |_,i+1,g::gs,p::ps,h=>by
  rw[List.modify_succ_cons];show{h.1,h.2.1,TR h.2.2}
 |_,_,[],_::_,h=>h.elim
 |_,_,_::_,[],h=>h.elim
structure TmS(κ:SortKind)(R:Cm->Int)(a₀:Array Cm)(st:Cn)(gs:List (List Cm))(dG:List Cm):Prop where
 kind:kindOf st=κ
 fail:E6 st=none
 perm:(C0 st).toList.Perm a₀.toList
 arr:(C0 st).toList=gs.flatten++dG
 up:∀g∈gs,g≠[]/\Up R g
 pend:Pd 0 gs (C1 st).toList
variable{gs:List (List Cm)}{dG:List Cm}
def TmS.size{st:Cn}(T:TmS κ R a₀ st gs dG):(C0 st).size=a₀.size:=by
 let:=T.perm.length_eq;simpa using this
def TmS.len{st:Cn}(T:TmS κ R a₀ st gs dG):gs.flatten.length+dG.length=a₀.size:=by
 rw[<-Jc,<-T.arr,Jl,T.size]
def TmS.b0{st:Cn}(T:TmS κ R a₀ st gs dG)(h:∀x∈a₀.toList,S x)(nd:(a₀.toList.map R).Nodup):B0 κ S R a₀.size st :=
 {T.kind,T.fail,T.size,λx hx=>h x (T.perm.mem_iff.mp hx),(T.perm.map R).nodup_iff.mpr nd}
theorem QK:∀{gs:List (List Cm)},(∀g∈gs,g≠[]/\Up R g)->gs.length<=gs.flatten.length
 |[],_=>Jk _
 |g::gs,h=>by
  let:=QK λg B=>h g (Jg _ B);let:=Gh.mpr (h g Je).1;rw[Bl,Jc,Ju];lia
theorem TmS.merge(HL:CN M A E s κ S R)(hS:∀x∈a₀.toList,S x)(nd:(a₀.toList.map R).Nodup){st:Cn}{Q:Bool->Cn->Prop}(T:TmS κ R a₀ st gs dG)(hi:i+1<gs.length)(q:∀J hs,TmS κ R a₀ J hs dG->hs.length+1=gs.length->hs.flatten.length=gs.flatten.length->Q true J):wpS M A E s (mergeAt' i) Q st:=by
 let eg:gs=gs.take i++gs[i]::gs[i+1]::gs.drop (i+2):=by
  rw[<-Bd,<-Bd,J8]
 let lG:(gs.take i).length=i:=by rw[Ga];lia
 generalize gs.take i=G at eg lG;generalize gs[i]=X at eg;generalize gs[i+1]=Y at eg;generalize gs.drop (i+2)=H at eg;subst eg;let{p1,p2,ep,h1,h2}:=RI T.pend
 match p2,h2 with
 |[],h2=>show h2.elim
 |[_],h2=>show h2.2.2.elim
 |(sa,na,pw)::(sb,nb,pw2)::pH,{ea,en,eb,em,h3} =>
 let ea:sa=0+G.flatten.length:=ea;let en:na=X.length:=en;let eb:sb=0+G.flatten.length+X.length:=eb;let em:nb=Y.length:=em;let l1:p1.length=i:=h1.len.trans lG;let hX:=T.up X (by simp);let hY:=T.up Y (by simp);let B:(C0 st).toList=G.flatten++X++Y++(H.flatten++dG):=by
  rw[T.arr];simp
 let mem:∀x∈X,x∈(C0 st).toList:=λx hx=>by rw[B];simp[hx]
 let a0:∀x∈Y,x∈(C0 st).toList:=λx hx=>by rw[B];simp[hx]
 let O:((C0 st).toList.map R).Nodup:=(T.perm.map R).nodup_iff.mpr nd;let dj:∀x∈X,∀y∈Y,R x≠R y:=λx hx y hy z=>by
  rw[B,show G.flatten++X++Y++(H.flatten++dG)=G.flatten++((X++Y)++(H.flatten++dG))by simp,Ji,Ji,Ji]at O;let n3:=(Bn.mp (Bn.mp O).2.1).1;show(Bn.mp n3).2.2 _ (Bi hx) _ (Bi hy) z
 show rE HL (sa:=sa) (na:=na) (pw:=pw) (sb:=sb) (nb:=nb) (pw2:=pw2) ?_ ?_ B () en.symm em.symm () (by rw[en];show Gh.mpr hX.1) (by rw[em];show Gh.mpr hY.1) hX.2 hY.2 (λx hx=>hS x (T.perm.mem_iff.mp (mem x hx))) (λx hx=>hS x (T.perm.mem_iff.mp (a0 x hx))) dj T.kind T.fail ?_
 .rw[<-Jt,ep,J0 (),l1,Bz];rfl
 .rw[<-Jt,ep,J0 (),l1,Fc];rfl
 .intro J Z k1 k2 k3 k4 k5 k6;let zl:Z.length=X.length+Y.length:=by rw[k5.length_eq,Jc]
  show q J (G++Z::H) {k1,k2,?_,?_,?_,?_} (by simp;lia) (by simp;lia)
  .show List.Perm.trans ?_ T.perm;rw[k4,B];show List.Perm.append_right _ ?_;rw[Jf];show List.Perm.append_left _ k5
  .rw[k4];simp
  .intro g hg;rcases Jw.mp hg with z|z
   .show T.up g (Gs _ z)
   .rcases Gd.mp z with rfl|z
    .exists λe0=>hX.1 (Bb.mp (by rw[e0]at zl;simp at zl;lia)),k6
    .show T.up g (by simp[z])
  .rw[k3];let:(((C1 st).setIfInBounds i (sa,na+nb,pw)).eraseIdxIfInBounds (i+1)).toList=p1++(sa,na+nb,pw)::pH:=by
    rw[Array.toList_eraseIdxIfInBounds,Array.toList_setIfInBounds,ep,<-l1];simp[List.eraseIdx_append];intro h;lia
   rw[this];show KB h1 {ea,?_,?_}
   .show na+nb=Z.length;lia
   .rw[zl,<-Fx];show h3
def RH(h:i<xs.toList.length):Ai R xs i=R xs.toList[i]:=by
 unfold Ai;rw[<-Jt,Jb h]
theorem XU{xs:Array Cm}{lo n:Nat}(h:Ti R xs lo n):Up R ((xs.toList.drop lo).take n):=by
 show Gy.mpr λi j hi J O=>?_;let G:=hi;let B:=J;rw[Ga,Gf]at G B;let:=h (lo+i) (lo+j) () () ();rw[RH (),RH ()]at this;rw[Br,Br,Fu,Fu];show this
theorem TmS.move{st:Cn}(T:TmS κ R a₀ st gs dG)(p:xs.Perm (C0 st))(h:∀k,k<gs.flatten.length->xs[k]?=(C0 st)[k]?):TmS κ R a₀ (setArr st xs) gs (xs.toList.drop gs.flatten.length):=by
 show{T.kind,T.fail,(G4.mp p).trans T.perm,?_,T.up,T.pend};show xs.toList=_;show(J8 gs.flatten.length xs.toList).symm.trans (congrArg (·++_) ?_);show ME λk=>?_;rw[Du]
 by_cases hk:k<gs.flatten.length
 .rw[D9 hk,Jt,h k hk,<-Jt,T.arr,Jo hk]
 .rw[D8 hk,Bk ()]
def PZ(N lo n:Nat):StateT Cn Sem (ForInStep (Option Unit×Nat)):=do
 match(C1 (<-get)).back? with
 |some (s1,n1,_)=>do
  let __s <-forIn [:N] ((none,PUnit.unit):Option Unit×Unit) λ_ _=>do
   let p:=C1 (<-get)
   match(if p.size > 1 then p[p.size-2]? else none)with
   |some (_,_,older) =>
    if older<=power' N (2*s1+n1) (2*s1+n1+n1+n) N then pure (ForInStep.done (none,PUnit.unit))
    else do
     let b <-mergeAt' (p.size-2)
     if(!b)=true then pure (ForInStep.done (some ⟨⟩,⟨⟩))else pure (Er (none,PUnit.unit))
   |_=>pure (ForInStep.done (none,PUnit.unit))
  match __s.1 with
  |some r=>pure (ForInStep.done (some r,lo))
  |none=>do
   modify λs=>setPending s ((C1 s).modify ((C1 s).size-1) λx=>(x.1,x.2.1,power' N (2*s1+n1) (2*s1+n1+n1+n) N))
   modify λs=>setPending s ((C1 s).push (lo,n,0))
   pure (Er (none,lo+n))
 |_=>do
  modify λs=>setPending s ((C1 s).push (lo,n,0))
  pure (Er (none,lo+n))
theorem TmS.push{st:Cn}(T:TmS κ R a₀ st gs dG)(h1:1<=n)(hn:n<=dG.length)(u:Up R (dG.take n)):TmS κ R a₀ (setPending st ((C1 st).push (gs.flatten.length,n,0))) (gs++[dG.take n]) (dG.drop n):=by
 let h:(dG.take n).length=n:=by rw[Ga];lia
 exists T.kind,T.fail,T.perm,?_,λg B=>?_,?_
 .show T.arr.trans ?_;rw[List.flatten_append,F3,Jf,J8]
 .rcases Jw.mp B with z|z
  .show T.up g z
  .rw[Jj]at z;subst z;exists λe=>by rw[e]at h;simp at h;lia,u
 .show Pd 0 _ ((C1 st).push _).toList;rw[De];show KB T.pend {by simp,h.symm,trivial}
theorem YR(HL:CN M A E s κ S R)(hS:∀x∈a₀.toList,S x)(nd:(a₀.toList.map R).Nodup){st:Cn}{n:Nat}(T:TmS κ R a₀ st gs dG)(h1:1<=n)(hn:n<=dG.length)(u:Up R (dG.take n)) :
  wpS M A E s (PZ a₀.size gs.flatten.length n) (λr B=>∃hs rest',r=Er (none,hs.flatten.length)/\TmS κ R a₀ B hs rest'/\gs.flatten.length+1<=hs.flatten.length) st:=by
 let O:(dG.take n).length=n:=by rw[Ga];lia
 let fin:∀{B:Cn}{hs:List (List Cm)},TmS κ R a₀ B hs dG->hs.flatten.length=gs.flatten.length->wpS M A E s (do
   modify λs=>setPending s ((C1 s).push (gs.flatten.length,n,0))
   pure (Er ((none,gs.flatten.length+n):Option Unit×Nat))) (λr B=>∃hs rest',r=Er (none,hs.flatten.length)/\TmS κ R a₀ B hs rest'/\gs.flatten.length+1<=hs.flatten.length) B:=λ{B hs}G e=>by
  rw[<-e];show Ch (wpS_modify (Ck {hs++[dG.take n],dG.drop n,?_,G.push h1 hn u,?_}))
  .rw[List.flatten_append,F3,Jc,O]
  .rw[List.flatten_append,F3,Jc,O];lia
 unfold PZ;show Ch (wpS_get ?_);cases(C1 st).back? with
 |none=>show fin T W
 |some p =>
  let{s1,n1,p1}:=p;dsimp only;show Ch (Kc (C9 (I:=λ_ c B=>c=(none,PUnit.unit)/\∃hs,TmS κ R a₀ B hs dG/\hs.flatten.length=gs.flatten.length) (Q:=λc B=>c=(none,PUnit.unit)/\∃hs,TmS κ R a₀ B hs dG/\hs.flatten.length=gs.flatten.length) ?_ (λ_ _ h=>h) {W,gs,T,W}) ?_)
  .rintro x c B _ _ ⟨rfl,hs,G,e⟩;show Ch (wpS_get ?_);let pl:(C1 B).size=hs.length:=by rw[<-Jl];show G.pend.len
   by_cases h2:(C1 B).size > 1
   .rw[D9 h2];cases(C1 B)[(C1 B).size-2]? with
    |none=>show Ck {W,hs,G,e}
    |some p =>
     let{a,b,older}:=p;dsimp only
     split
     .show Ck {W,hs,G,e}
     .show Ch (G.merge HL hS nd () λY J T3 l3 Z=>?_);simp only[Bx,Gg,if_false];show Ck {W,J,T3,Z.trans e}
   .rw[D8 h2];show Ck {W,hs,G,e}
  .rintro c B ⟨rfl,hs,G,e⟩;dsimp only;show Ch (wpS_modify (fin (hs:=hs) {G.kind,G.fail,G.perm,G.arr,G.up,?_} e));show Pd 0 hs ((C1 B).modify _ _).toList;rw[Array.toList_modify];show TR G.pend
def XB{α:Type}{f g:StateT Cn Sem α}{Q:α->Cn->Prop}{st:Cn}(e:f=g)(h:wpS M A E s g Q st):wpS M A E s f Q st:=e ▸ h
theorem N3(O:CN M A E s κ S R)(Y:∀x∈a₀.toList,S x)(nd:(a₀.toList.map R).Nodup){st:Cn}{Q:Unit->Cn->Prop}(e0:C0 st=a₀)(hp:C1 st=#[])(hk:kindOf st=κ)(hf:E6 st=none)(q:∀J,(C0 J).toList.Perm a₀.toList->kindOf J=κ->E6 J=none->Up R (C0 J).toList->Q ⟨⟩ J):wpS M A E s sortRuns' Q st:=by
 rw[sortRuns'_eq];show Ch (wpS_get ?_);dsimp only;rw[e0];generalize minRun' a₀.size a₀.size 0=mr;let T0:TmS κ R a₀ st [] a₀.toList:={hk,hf,by rw[e0],by rw[e0];rfl,λg hg=>D0 hg List.not_mem_nil,by rw[hp];show trivial};show Ch (Kc (C9
  (I:=λx c J=>∃gs dG,c=(none,gs.flatten.length)/\TmS κ R a₀ J gs dG/\x<=gs.flatten.length)
  (Q:=λc J=>∃gs,c=(none,a₀.size)/\TmS κ R a₀ J gs []) ?step ?fin {[],_,W,T0,Jk _}) ?post)
 case fin =>
  rintro c J ⟨gs,dG,rfl,T,hx⟩;let l:=T.len;rw[show max 0 a₀.size=a₀.size by lia]at hx;let:dG=[]:=Bb.mp ();subst this;exists gs,by rw[show gs.flatten.length=a₀.size by simpa using l],T
 case step =>
  rintro x c J _ hx ⟨gs,dG,rfl,T,hx2⟩;let l:=T.len;dsimp only
  by_cases hlo:gs.flatten.length≥a₀.size
  .rw[D9 hlo];let:dG=[]:=Bb.mp ();subst this;show Ck {gs,by rw[show gs.flatten.length=a₀.size by simpa using l],T}
  rw[D8 hlo];let B:=T.b0 Y nd;show Ch (mZ O B () () λxs n n1 n2 p lw su=>?_);dsimp only;let T2:=T.move p lw;let xl:xs.toList.length=a₀.size:=by rw[Jl,p.size_eq,T.size]
  by_cases hm:n<mr
  .rw[D9 hm];show Ch (wpS_lift (Ez {W,?_}));show Ch (vY O (B.perm p) () () () su λys p2 a1 Z=>?_);let T3:=T2.move p2 a1;let yl:ys.toList.length=a₀.size:=by rw[Jl,p2.size_eq];rw[<-xl];rfl
   simp only[Bx,Gg,if_false];show Kc (XB ?same (YR O Y nd (n:=min (a₀.size-gs.flatten.length) mr) T3 () (by rw[Gf];lia) (XU Z))) ?_
   case same=>kernel_rfl
   rintro r a0 ⟨hs,rest',rfl,T4,l4⟩;show{hs,rest',W,T4,()}
  .rw[D8 hm];show Kc (XB ?same (YR O Y nd (n:=n) T2 () (by rw[Gf];lia) (XU su))) ?_
   case same=>kernel_rfl
   rintro r a0 ⟨hs,rest',rfl,T4,l4⟩;show{hs,rest',W,T4,()}
 case post =>
  rintro c J ⟨gs,rfl,T⟩;dsimp only;show Ch (Kc (C9 (I:=λx c G=>c=(none,PUnit.unit)/\∃hs,TmS κ R a₀ G hs []/\hs.length+x<=a₀.size) (Q:=λc G=>c=(none,PUnit.unit)/\∃hs,TmS κ R a₀ G hs []/\hs.length<=1) ?fstep ?ffin ?finit) ?fpost)
  case finit =>
   let:=QK T.up;let l:=T.len;show{W,gs,T,by rw[By]at l;lia}
  case ffin =>
   rintro c G ⟨rfl,hs,T,h⟩;show{W,hs,T,()}
  case fstep =>
   rintro x c G _ hx ⟨rfl,hs,T,h⟩;show Ch (wpS_get ?_);let pl:(C1 G).size=hs.length:=by rw[<-Jl];show T.pend.len
   rw[pl]
   by_cases h1:hs.length<=1
   .rw[D9 h1];show Ck {W,hs,T,h1}
   rw[D8 h1];show Ch (T.merge O Y nd (by split<;>split<;>lia) λa3 a2 T3 l3 _=>?_);simp only[Bx,Gg,if_false];show Ck {W,a2,T3,()}
  case fpost =>
   rintro c G ⟨rfl,hs,T,h⟩;show Ck (q G T.perm T.kind T.fail ?_);rw[T.arr,Jx]
   match hs,h with
   |[],_=>show Lu
   |[g],_ =>
    rw[F3];show(T.up g (by simp)).2
end
end L2
namespace L2
open PySem PySem.W PyProof.Rows
def Rk(rk:Nat->Int)(p:Array Nat)(i:Nat):Int:=rk (p.getD i 0)
def SrtR(rk:Nat->Int)(p:Array Nat)(k:Nat):Prop:=∀i j,i<=j->j<k->Rk rk p i<=Rk rk p j
structure GoodP(n:Nat)(p:Array Nat):Prop where
 perm:p.Perm (C2 n).toArray
def GoodP.size(g:GoodP n p):p.size=n:=by have:=g.perm.size_eq;simpa using this
def GoodP.lt(g:GoodP n p)(i:Nat)(hi:i<n):p.getD i 0<n:=by
 let h:i<p.size:=by rwa[g.size]
 let e:p.getD i 0=p[i]:=by simp[EY,h]
 rw[e];let B:p[i]∈p.toList:=by simp
 let:=(G4.mp g.perm).mem_iff.mp B;simpa using this
def GoodP.ne(g:GoodP n p)(hi:i<n)(J:j<n)(h:i≠j):p.getD i 0≠p.getD j 0:=by
 let nd:p.toList.Nodup:=(G4.mp g.perm).nodup_iff.mpr (by simpa using List.nodup_range);let G:i<p.size:=by rwa[g.size]
 let B:j<p.size:=by rw[g.size];show J
 let e:p.getD i 0=p[i]:=by simp[EY,G]
 let e2:p.getD j 0=p[j]:=by simp[EY,B]
 rw[e,e2];intro z;let:=(Bf (h₀:=by simpa using G) (h₁:=by simpa using B) nd).mp (by simpa using z);show h this
section
variable{rk:Nat->Int}{n:Nat}{cmp:Nat->Nat->(Bool->Cc->Prop)->Cc->Prop} 
def CmpR(rk:Nat->Int)(n:Nat)(cmp:Nat->Nat->(Bool->Cc->Prop)->Cc->Prop)(s:Cc):Prop :=
 ∀i j(C:Bool->Cc->Prop),i<n->j<n->C (decide (rk i<rk j)) s->cmp i j C s
end
section
variable{κ:SortKind}{vs ks:List Ca}{rk:Nat->Int}{n:Nat}
open Classical in
noncomputable def ixK(ks:List Ca)(x:Cm):Nat:=if h:∃i,i<ks.length/\ks.getD i Ca.none=x.1 then h.choose else 0
def gR(hi:i<ks.length)(e:ks.getD i Ca.none=x.1):ixK ks x<ks.length/\ks.getD (ixK ks x) Ca.none=x.1:=by
 unfold ixK;let h:∃i,i<ks.length/\ks.getD i Ca.none=x.1:={i,hi,e};rw[dif_pos h];show h.choose_spec
def MM(h:ks.Nodup)(hi:i<ks.length)(e:ks.getD i Ca.none=x.1):ixK ks x=i:=by
 let{h1,h2}:=gR hi e;rw[<-e,Go,Go,Jb h1,Jb hi]at h2;show(Bf (h₀:=h1) (h₁:=hi) h).mp h2
def rY(Z:CmpR rk n (kas_ask prog w A κ ks) s)(hn:ks.length=n)(B:ks.Nodup):CN (Cj prog w) A E s κ (λx=>∃i,i<n/\ks.getD i Ca.none=x.1) (λx=>rk (ixK ks x)):=by
 subst hn;rintro x y st Q ⟨i,hi,O⟩ ⟨j,G,J⟩ Y h;rw[lt'_eq];show Ch (wpS_get ?_);rw[Y];let h:Q (some (decide (rk (ixK ks x)<rk (ixK ks y)))) st:=h;rw[MM B hi O,MM B G J]at h;let c:=Z i j (λb s'=>s'=s/\b=decide (rk i<rk j)) hi G {W,W};unfold kas_ask at c;rw[O,J]at c;show Ch (wpS_lift (Hy (BJ c ?_ λ_ _ f=>f.elim)));rintro b s' ⟨rfl,rfl⟩;show{W,Ck h}
theorem YV(hl:ks.length=vs.length)(hn:ks.length=n)(J:ks.Nodup)(hc:CmpR rk n (kas_ask prog w A κ ks) s)(inj:∀i j,i<n->j<n->rk i=rk j->i=j) :
  Cg (Cj prog w) A ((sortRuns').run (Cn.mk' κ (ks.toArray.zip vs.toArray) #[] 7 none)) (λr s'=>∃p:Array Nat,s'=s/\GoodP n p/\SrtR rk p n/\C0 r.2=p.map (kas_item (ks.toArray.zip vs.toArray))/\E6 r.2=none) E s:=by
 let Y:=kas_range (ks.toArray.zip vs.toArray);let hz:(ks.toArray.zip vs.toArray).size=n:=by simp[hl];lia
 rw[hz]at Y;let G:(ks.toArray.zip vs.toArray).toList=(C2 n).map (kas_item (ks.toArray.zip vs.toArray)):=by
  let:=congrArg LJ Y;rw[Array.toList_map]at this;show this.symm
 let it:=λi=>kat_item hl i;let ei:∀i,i<n->ixK ks (kas_item (ks.toArray.zip vs.toArray) i)=i:=λi hi=>MM J () (by rw[it]);let hS:∀x∈(ks.toArray.zip vs.toArray).toList,∃i,i<n/\ks.getD i Ca.none=x.1:=λx hx=>by
  rw[G]at hx;let{i,hi,rfl}:=Jq.mp hx;show{i,G1.mp hi,by rw[it]}
 let Z:(ks.toArray.zip vs.toArray).toList.map (ixK ks)=C2 n:=by
  rw[G,Jy];show(Bj λi hi=>?_).trans (List.map_id _);show ei i (G1.mp hi)
 let nd:((ks.toArray.zip vs.toArray).toList.map λx=>rk (ixK ks x)).Nodup:=by
  let e:((ks.toArray.zip vs.toArray).toList.map λx=>rk (ixK ks x))=(C2 n).map rk:=by
   rw[<-Z,Jy];rfl
  rw[e];show Jz.mpr ?_;show List.Pairwise.imp_of_mem (λ{a b}ha hb h z=>h (inj a b (G1.mp ha) (G1.mp hb) z)) List.nodup_range
 let run:=N3 (E:=E) (rY (E:=E) hc hn J) hS nd (st:=Cn.mk' κ (ks.toArray.zip vs.toArray) #[] 7 none) (Q:=λ_ B=>(C0 B).toList.Perm (ks.toArray.zip vs.toArray).toList/\E6 B=none/\Up (λx=>rk (ixK ks x)) (C0 B).toList) W W W W λB a1 a2 a3 a4=>{a1,a3,a4};unfold wpS at run;show BJ run ?_ λ_ _ x=>x;rintro⟨⟨⟩,B⟩ s' ⟨rfl,pm,O,up⟩;dsimp only at pm O up⊢;let mem:∀x∈(C0 B).toList,∃i,i<n/\x=kas_item (ks.toArray.zip vs.toArray) i:=λx hx=>by
  let:=pm.mem_iff.mp hx;rw[G]at this;let{i,hi,e}:=Jq.mp this;show{i,G1.mp hi,e.symm}
 let lp:(C0 B).toList.length=n:=by rw[pm.length_eq,Jl,hz]
 exists((C0 B).toList.map (ixK ks)).toArray,W,{?_},?_,?_,O
 .show G4.mpr ?_;show((C0 B).toList.map (ixK ks)).Perm (C2 n);rw[<-Z];show pm.map _
 .intro i j a0 hj;let gd:∀k,(h:k<n)->(((C0 B).toList.map (ixK ks)).toArray).getD k 0=ixK ks ((C0 B).toList[k]'()):=λk h=>by
   let:k<(((C0 B).toList.map (ixK ks)).toArray).size:=by simp;simpa using(by lia:k<(C0 B).toList.length)
   rw[EY,dif_pos this];simp
  unfold Rk;rw[gd i (),gd j hj];rcases Fq i j with z|z
  .show YU (Gy.mp up i j () () z)
  .let:i=j:=by lia
   subst this;show GC _
 .apply Array.toList_inj.mp
  rw[Array.toList_map,Jy];show((List.map_id _).symm.trans (Bj λx hx=>?_));let{i,hi,rfl}:=mem x hx;show _=kas_item _ (ixK ks _);rw[ei i hi];rfl
end
end L2
namespace L2
open PySem PySem.W PyProof.Rows HT
theorem Ut:∀a:List Int,lexLt a a=false
 |[]=>rfl
 |x::r=>by rw[lexLt_cons,D9 W];show Ut r
theorem S3:∀{a b c:List Int},lexLt a b=true->lexLt b c=true->lexLt a c=true
 |[],[],_,h,_=>by rw[zQ]at h;cases h
 |[],_::_,[],_,h=>by rw[Vd]at h;cases h
 |[],_::_,_::_,_,_=>rfl
 |_::_,[],_,h,_=>by rw[Vd]at h;cases h
 |_::_,_::_,[],_,h=>by rw[Vd]at h;cases h
 |x::a,y::b,z::c,h1,h2=>by
  rw[lexLt_cons]at h1 h2⊢
  by_cases e1:x=y
  .subst e1;rw[D9 W]at h1
   by_cases e2:x=z
   .rw[D9 e2]at h2⊢;show S3 h1 h2
   .rw[D8 e2]at h2⊢;show h2
  .rw[D8 e1]at h1;let G:x<y:=Dz h1
   by_cases e2:y=z
   .subst e2;rw[D8 e1];show h1
   .rw[D8 e2]at h2;let B:y<z:=Dz h2;rw[D8 ()];show Ab ()
theorem MV:∀{a b:List Int},lexLt a b=false->lexLt b a=false->a=b
 |[],[],_,_=>rfl
 |[],_::_,h,_=>by rw[Tm]at h;cases h
 |_::_,[],_,h=>by rw[Tm]at h;cases h
 |x::a,y::b,h1,h2=>by
  rw[lexLt_cons]at h1 h2
  by_cases e:x=y
  .subst e;rw[D9 W]at h1 h2;rw[MV h1 h2]
  .rw[D8 e]at h1;rw[D8 (λz=>e z.symm)]at h2;let:=D1 h1;let:=D1 h2;lia
theorem SF{α:Type}{p q:α->Bool}:∀{l:List α},(∀x∈l,p x=true->q x=true)->(∃x∈l,q x=true/\p x=false)->l.countP p<l.countP q
 |[],_,{_,h,_}=>nomatch h
 |a::l,h1,{x,hx,hq,hp}=>by
  let le:l.countP p<=l.countP q:=List.countP_mono_left λy B=>h1 y (Jg _ B);rw[YD,YD];rcases Gd.mp hx with e|hx
  .subst e;rw[hq,hp];simp;lia
  .let lt:=SF (λy B=>h1 y (Jg _ B)) {x,hx,hq,hp};let:=h1 a Je;cases ha:p a<;>cases hb:q a<;>simp_all<;>lia
def Wi(ks:List (List Int))(i:Nat):Int:=((C2 ks.length).countP λj=>lexLt (ks.getD j []) (ks.getD i []):Nat)
theorem XE{ks:List (List Int)}{i:Nat}(hi:i<ks.length)(h:lexLt (ks.getD i []) (ks.getD j [])=true):Wi ks i<Wi ks j:=by
 unfold Wi;let:=SF (l:=C2 ks.length) (p:=λx=>lexLt (ks.getD x []) (ks.getD i [])) (q:=λx=>lexLt (ks.getD x []) (ks.getD j [])) (λx _ hx=>S3 hx h) {i,G1.mpr hi,h,Ut _};lia
theorem Tc(nd:ks.Nodup){i:Nat}(hi:i<ks.length)(h:j<ks.length):decide (Wi ks i<Wi ks j)=lexLt (ks.getD i []) (ks.getD j []):=by
 cases e:lexLt (ks.getD i []) (ks.getD j [])with
 |true=>show Ab (XE hi e)
 |false =>
  show BB λz=>?_;cases e2:lexLt (ks.getD j []) (ks.getD i [])with
  |true=>have:=XE h e2;lia
  |false =>
   let e3:=MV e e2;unfold Wi at z;rw[e3]at z;show D0 z (Int.lt_irrefl _)
theorem JX(nd:ks.Nodup)(hi:i<ks.length)(B:j<ks.length)(h:Wi ks i=Wi ks j):i=j:=by
 let e1:lexLt (ks.getD i []) (ks.getD j [])=false:=by rw[<-Tc nd hi B];show BB ()
 let e2:lexLt (ks.getD j []) (ks.getD i [])=false:=by rw[<-Tc nd B hi];show BB ()
 let e3:=MV e1 e2;rw[Go,Go,Jb hi,Jb B]at e3;show(Bf (h₀:=hi) (h₁:=B) nd).mp (by simpa using e3)
section
theorem PM{Q:Bool->Cc->Prop}:∀{vs ws:List Ca}{ns ms:List Int}{fin:Bool}{i:Nat},E9 vs ns->E9 ws ms->(fin=decide (ns.length<ms.length))->Q (lexLt ns ms) s->KatLex prog w A true fin Q (vs.zip ws) i s
 |_,_,_,_,fin,i,.nil,.nil,e,h=>by
  subst e;show kat_nil h
 |_,_,_,_,fin,i,.nil,.cons _ _ r,e,h=>by
  subst e;show kat_nil (by simpa[HT.lexLt]using h)
 |_,_,_,_,fin,i,.cons _ _ r,.nil,e,h=>by
  subst e;show kat_nil (by simpa[HT.lexLt]using h)
 |_,_,_,_,fin,i,.cons a t r,.cons c u r2,e,h=>by
  rw[F5];show kat_cons (L5 ?_);rw[lexLt_cons]at h
  by_cases z:a=c
  .subst z;rw[D9 W]at h;rw[beq_self_eq_true];show kat_yes (PM r r2 (by rw[e];simp) h)
  .rw[D8 z]at h;let B:(a==c)=false:=by simpa using z
   rw[B];show kat_no ?_;cases hi:(true&&i==0)with
   |true=>show oneLt_int h
   |false=>show kat_one _ _ (iY (show PySem.W.BoolBack Q (.bool (decide (a<c))) s from h))
end
abbrev BM:=V×Addr×List Int
section
def AB.pin1(I:AB X pq σ H s)(f:A3 X pq H b)(e:s.heap.get? b=some o)(hd:∀v,o.data≠.cell v):AB X (pq++[(b,o)]) σ H s :=
 I.pins_of λp h=>(Jw.mp h).elim (λz=>I.pin p (Jr _ z)) λz=>by
  rw[Jj.mp z];show{e,f.1,f.2.1,f.2.2.1,hd}
def AB.turn1(I:AB X pq σ H s)(f:A3 X pq H b)(hs:Hm b s.heap h'):AB X pq σ H {s with heap:=h'} :=
 I.turned (t':=s.toks) (λc o h e=>(hs.2 c h).trans e) f.1 f.2.1 f.2.2.2.1 f.2.2.2.2.1 f.2.2.2.2.2
def Zg(L:List BM):List Ca:=L.map λq=>Cd q.2.1
def Ys{α:Type}{f:α->β}{l:List α}{i:Nat}{d:β}(h:i<l.length):(l.map f).getD i d=f l[i]:=by
 rw[Go,Gi,Jb h];rfl
theorem wP(I:AB X pq σ H s)(hk:∀q∈L,A2 X.K H q.2.1 (q.2.2.map V.int)/\q.2.2≠[])(h2:0<L.length){Q:SortKind->Cc->Prop}(h:Q (tuples' true) s) :
  Cg (Cj X.prog X.w) A (keyKind' (Zg L).toArray) Q E s:=by
 let tk:∀L':List BM,(∀q∈L',q∈L)->∃fs:List Ca,KatTups s.heap (Zg L') fs/\fs.length=L'.length/\∀v∈fs,∃n t,v=.int n t:=by
  intro L'
  induction L' with
  |nil=>intro _;exists [],.nil,W,λv B=>nomatch B
  |cons q r ih =>
   intro O;let{fs,a,b,c}:=ih λx hx=>O x (Jg _ hx);let{Y,ne}:=hk q (O q Je);let{its,J,{o,e,hc,n,hd},_}:=I.tuple Y
   match hq:q.2.2,ne with
   |z::zs,_ =>
    rw[hq]at J;cases J with
    |cons G Z =>
     let{t,et}:=G;exists .int z t::fs,KatTups.cons e hc hd ?_ a,by simp[b],λv B=>?_
     .rw[et];simp
     .rcases Gd.mp B with e|B
      .show{z,t,e}
      .show c v B
 let{fs,a,b,c}:=tk L λ_ h=>h;show kat_kind (T:=.type "int") a () (λv B=>by let{n,t,e}:=c v B;subst e;show .now) nofun h
def gM(I:AB X pq σ H s)(hk:∀q∈L,A2 X.K H q.2.1 (q.2.2.map V.int)/\q.2.2≠[])(nd:(L.map (·.2.2)).Nodup) :
  CmpR (Wi (L.map (·.2.2))) L.length (kas_ask X.prog X.w A (tuples' true) (Zg L)) s:=by
 intro i j C hi B h;rw[Tc nd (by simpa using hi) (by simpa using B),Ys hi,Ys B]at h;unfold kas_ask;rw[show(Zg L).getD i Ca.none=Cd L[i].2.1 from Ys hi,show(Zg L).getD j Ca.none=Cd L[j].2.1 from Ys B];let{its,rv,{o,e,hc,n,hd},_}:=I.tuple (hk _ (Jv hi)).1;let{O,G,{o2,e2,a0,n2,J},_}:=I.tuple (hk _ (Jv B)).1;let ia:∀{ns:List Int}{vs:List Ca},AF (ns.map V.int) vs->E9 vs ns:=by
  intro ns
  induction ns with
  |nil=>intro vs h;cases h;show .nil
  |cons a r ih =>
   intro vs h;cases h with
   |cons h1 h2=>obtain⟨t,e⟩:=h1;subst e;show .cons a t (ih h2)
 show kat_lt e hd e2 J ?_;let Z:=ia rv;let Y:=ia G;show PM Z Y (by rw[<-Z.length,<-Y.length];simp) h
end
section
abbrev PD(D:Addr)(e1:Nat):Addr×Obj:=(D,Ep "list" #[] e1)
abbrev PKs(h:Addr)(e:Nat)(L:List BM):Addr×Obj:=(h,Ep "list" (Zg L).toArray e)
theorem AF.perm_get{L:List BM}(h:AF (L.map (·.1)) its){p:List Nat}(B:∀i∈p,i<L.length):AF (p.map λi=>(L.getD i (.non,0,[])).1) (p.map λi=>its.getD i Ca.none):=by
 let e:=h.length;simp only[Ja]at e
 induction p with
 |nil=>show .nil
 |cons i r J =>
  let hi:=B i Je;let hi2:i<its.length:=by lia
  let{u,O,G}:=AF.get h (i:=i) (x:=L[i].1) (by rw[Gi,Jb hi];rfl);show .cons ?_ (J λj Y=>B j (Jg _ Y));show AJ (L.getD i (.non,0,[])).1 (its.getD i Ca.none);rw[Go,Go,O,Jb hi];show G
theorem RO{D B:Addr}{e e1:Nat}{L L':List BM}{st:Cn}{out:List Ca}{P:Ld->Cc->Prop}(I:AB X ((pq++[PD D e1])++[PKs B e L]) σ H s)(a0:L.length<64)(fD:A3 X pq H D)(fK:A3 X (pq++[PD D e1]) H B)(G:(C0 st).map (·.2)=out.toArray)(hf:E6 st=none)(Z:AF (L'.map (·.1)) out)(hl:L'.length=L.length)(h:∀s',AB X pq σ (upd H D (.lst (L'.map (·.1)))) s'->P (.done (.ret .none)) s'):Cg (Cj X.prog X.w) A (ksk_tail D false e1 (.ref B) st) P E s:=by
 let pk:=I.pin (PKs B e L) (Jr _ (Jr _ (Jj.mpr W)));let s1:=Eg s.heap B (Cu λ_=>(#[]:Array Ca));let I1:=(I.unpinned (pl:=[PKs B e L])).turn1 fK s1;let J:=I1.pin (PD D e1) (Jr _ (Jr _ (Jj.mpr W)));let s2:=Eg (s.heap.update B (Cu λ_=>(#[]:Array Ca))) D (Cu λ_=>out.toArray);obtain⟨Y,O⟩:∃Y,((s.heap.update B (Cu λ_=>(#[]:Array Ca))).update D (Cu λ_=>out.toArray)).get? D=some (Ep "list" out.toArray Y):={_,Le J.1 λ_=>out.toArray};let lo:out.length=L.length:=by have:=Z.length;simp only[Ja]at this;lia
 let hz:L'.length<=Cb:=by rw[C3];lia
 unfold ksk_tail
 try dsimp only
 rw[G];show D3 (Lf pk.1 W ?_ (by simp only[Jp,Zg,Ja,C3];lia) (J9 _));show D3 (wpAny_letGo ?_);show D3 (seqEpoch_at J.1 W ?_);show D3 (Lf J.1 W ?_ (J9 _) (by simp only[Jp,C3,Gg,if_false];lia));rw[hf];simp only[bne_self_eq_false,Gg,if_false];show D4 (h _ ?_);let I2:=(I1.unpinned (pl:=[PD D e1])).turn1 fD s2;show I2.track (its:=out) (n:=Y) O fD Z (by rwa[Ja])
theorem We:∀{ns:List Int}{vs:List Ca},AF (ns.map V.int) vs->E9 vs ns
 |[],_,h=>by cases h;show .nil
 |a::r,_,h=>by
  cases h with
  |cons h1 h2=>obtain⟨t,e⟩:=h1;subst e;show .cons a t (We h2)
theorem Ph:∀{vs:List Ca}{ns ms:List Int},E9 vs ns->E9 vs ms->ns=ms:=by
 intro _ _ _ G B;cases G with
 |nil=>
  cases B with
  |nil=>
   show W
 |cons a t h=>
  cases B with
  |cons _ _ k=>
   show by rw[Ph h k]
def LC{L:List BM}{p:Array Nat}(nd:(L.map (·.2.2)).Nodup)(g:GoodP L.length p)(hs:SrtR (Wi (L.map (·.2.2))) p L.length):(p.toList.map λi=>L.getD i (.non,0,[])).Perm L/\(p.toList.map λi=>L.getD i (.non,0,[])).Pairwise λa b=>HT.lexLt a.2.2 b.2.2=true:=by
 constructor
 .let a0:p.toList.Perm (C2 L.length):=by have:=G4.mp g.perm;simpa using this
  let rangeL:(C2 L.length).map (λi=>L.getD i (.non,0,[]))=L:=by
   apply List.ext_getElem
   .simp
   .intro i h1 h2;simp[Go,h2]
  let:=a0.map λi=>L.getD i (.non,0,[]);rwa [rangeL]at this
 .rw[Gy];intro i j hi h G;simp only[Ja,Jl,g.size]at hi h;let Z:=g.lt i hi;let Y:=g.lt j h;let B:=hs i j (Fg G) h;let a1:=g.ne hi h (Gk G);unfold Rk at B;let a2:Wi (L.map (·.2.2)) (p.getD i 0)<Wi (L.map (·.2.2)) (p.getD j 0):=by
   rcases Int.lt_or_eq_of_le B with z|z
   .show z
   .show D0 (JX nd (by simpa using Z) (by simpa using Y) z) a1
  let hd:=Tc nd (i:=p.getD i 0) (j:=p.getD j 0) (by simpa using Z) (by simpa using Y);rw[Ab a2,Ys Z,Ys Y]at hd;let ei:p.getD i 0=p[i]'(by rwa[g.size]):=by simp[EY,g.size,hi]
  let ej:p.getD j 0=p[j]'(by rwa[g.size]):=by simp[EY,g.size,h]
  simp only[Bc,Array.getElem_toList,Go];let O:=Z;let J:=Y;rw[ei]at O;rw[ej]at J;rw[Jb O,Jb J];simp only[ei,ej]at hd;show hd.symm
theorem jI{D B:Addr}{e e1:Nat}{L:List BM}{P:Ld->Cc->Prop}(I:AB X ((pq++[PD D e1])++[PKs B e L]) σ H s)(J:L.length<64)(fD:A3 X pq H D)(fK:A3 X (pq++[PD D e1]) H B)(O:∀q∈L,A2 X.K H q.2.1 (q.2.2.map V.int)/\q.2.2≠[])(nd:(L.map (·.2.2)).Nodup)(Z:AF (L.map (·.1)) its)(h:∀(s':Cc)(L':List BM),L'.Perm L->L'.Pairwise (λa b=>HT.lexLt a.2.2 b.2.2=true)->AB X pq σ (upd H D (.lst (L'.map (·.1)))) s'->P (.done (.ret .none)) s') :
  Cg (Cj X.prog X.w) A (ksk_end D false its.toArray e1 (.ref B) (Zg L).toArray) P E s:=by
 let Y:its.length=L.length:=by have:=Z.length;simp only[Ja]at this;lia
 let ek:(Zg L).length=its.length:=by rw[Y];simp[Zg]
 unfold ksk_end
 try dsimp only
 simp only[Gg,if_false]
 by_cases h2:its.toArray.size<2
 .rw[D9 h2];show D3 (D4 ?_);rw[D9 h2];let a1:its.length<2:=by simpa using h2
  show D3 (m:=(pure ⟨⟩:StateT Cn Sem Unit).run _) (D4 ?_);show RO (L':=L) (out:=its) I J fD fK ?_ W Z W λs'=>h s' L (List.Perm.refl _) ?_
  .show(((Zg L).toArray.zip its.toArray).map (·.2))=its.toArray
   apply Array.toList_inj.mp
   rw[Array.toList_map,ksk_zip];simp only[LF (by lia:its.length<=(Zg L).length)]
  .match L,Y with
   |[],_=>show .nil
   |[q],_=>show Fd _ _
   |_::_::_,Y=>simp only[Ju]at Y;lia
 .rw[D8 h2,D8 h2];let a1:2<=its.length:=by simpa using h2
  show D3 (wP (I.unpinned (pl:=[PKs B e L])) O () ?_);let nk:(Zg L).Nodup:=Jz.mpr ((Jz.mp nd).imp_of_mem λ{a b}ha hb h z=>h (by
   let{i1,v1,{o1,g1,_,n1,d1},_}:=I.tuple (O a ha).1;let{i2,v2,{o2,g2,_,n2,d2},_}:=I.tuple (O b hb).1;rw[Cd.inj z,g2]at g1;cases g1;rw[d1]at d2;injection d2 with e1 e2
   let e:i1=i2:=by simpa using e1
   subst e;show Ph (We v1) (We v2)))
  show D3 (BJ (YV (vs:=its) (ks:=Zg L) (rk:=Wi (L.map (·.2.2))) (n:=L.length) ek (by simp[Zg]) nk (gM (I.unpinned (pl:=[PKs B e L])) O nd) λi j hi hj z=>JX nd (by simpa using hi) (by simpa using hj) z) ?_ λ_ _ x=>x);rintro⟨⟨⟩,a2⟩ s' ⟨p,rfl,g,hs,a0,hf⟩;let hp:∀i∈p.toList,i<L.length:=λi hi=>by
   let:=(G4.mp g.perm).mem_iff.mp hi;simpa using this
  let G:∀(F:BM->V),(p.toList.map λi=>F (L.getD i (.non,0,[])))=(p.toList.map λi=>L.getD i (.non,0,[])).map F:=λF=>by rw[Jy];rfl
  show RO (L':=p.toList.map λi=>L.getD i (.non,0,[])) (out:=p.toList.map λi=>its.getD i Ca.none) I J fD fK (kat_snds ek a0) hf (by rw[<-G (·.1)];show AF.perm_get Z hp) (by rw[Ja,Jl,g.size]) λs'=>h s' _ (LC nd g hs).1 (LC nd g hs).2
end
section
theorem mG{D B:Addr}{e1:Nat}{L:List BM}{P:Ld->Cc->Prop}(I:AB X ((pq++[PD D e1])++[PKs B 0 []]) σ H s)(a2:L.length<64)(fD:A3 X pq H D)(fK:A3 X (pq++[PD D e1]) H B)(hk:∀q∈L,A2 X.K H q.2.1 (q.2.2.map V.int)/\q.2.2≠[])(nd:(L.map (·.2.2)).Nodup)(Z:AF (L.map (·.1)) its)(hcall:∀(pins':List (Addr×Obj))(s':Cc)(q:BM)(u:Ca),(∀p∈pq,p∈pins')->AB X pins' σ H s'->q∈L->AJ q.1 u->Cg (Cj X.prog X.w) A (call (.ref f) [u]) (EP X pins' σ λv H'=>v=.ref q.2.1/\H'=H) (λ_ _=>False) s')(h:∀(s':Cc)(L':List BM),L'.Perm L->L'.Pairwise (λa b=>HT.lexLt a.2.2 b.2.2=true)->AB X pq σ (upd H D (.lst (L'.map (·.1)))) s'->P (.done (.ret .none)) s') :
  Cg (Cj X.prog X.w) A (ksk_rest D (.ref f) false its.toArray e1 (.ref B)) P E s:=by
 let el:its.length=L.length:=by have:=Z.length;simp only[Ja]at this;lia
 unfold ksk_rest;show D3 (Ez ?_)
 first
  |rw[List.forIn_toArray]
  |(rw[<-F6];simp only[O1])
  |rw[<-F6]
 show D3 (ksk_fold (λn s'=>∃e,AB X ((pq++[PD D e1])++[PKs B e (L.take n)]) σ H s') its 0 s {0,by simpa using I} (λj x s' hx⟨e,J⟩=>?_) λs'⟨e,J⟩=>?_)
 .simp only[Fv]at J⊢;let hj:j<its.length:=(Jd.mp hx).1;let G:j<L.length:=by lia
  let{u,hu,r1}:=AF.get Z (i:=j) (x:=L[j].1) (by rw[Gi,Jb G];rfl);rw[hx]at hu;cases hu;show D3 (Hy (BJ (hcall _ s' L[j] x (λp hp=>Gs _ (Gs _ hp)) J (Jv G) r1) (λk O a0=>?_) λ_ _ hF=>hF.elim));let{v,H',J',rk,ev,eH}:=a0;subst ev;subst eH;obtain rfl:k=Cd L[j].2.1:=rk;let Y:=J'.pin (PKs B e (L.take j)) (Jr _ (Jr _ (Jj.mpr W)));let s1:=Eg O.heap B (Cu (·.push (Cd L[j].2.1)));let ea:(Zg (L.take j)).toArray.push (Cd L[j].2.1)=(Zg (L.take (j+1))).toArray:=by
   let e2:Zg (L.take (j+1))=Zg (L.take j)++[Cd L[j].2.1]:=by
    unfold Zg;rw[Jh G,Ji];rfl
   rw[e2,aM]
  obtain⟨c2,a1⟩:∃c2,(O.heap.update B (Cu (·.push (Cd L[j].2.1)))).get? B=some (Ep "list" (Zg (L.take (j+1))).toArray c2):={_,by rw[<-ea];show Le Y.1 (·.push (Cd L[j].2.1))};let hsz:(Zg (L.take j)).toArray.size<64:=by simp only[Jp,Zg,Ja,Ga];lia
  try dsimp only
  show D3 (Lf Y.1 W ?_ (by rw[C3];show(Zg (L.take j)).toArray.size<=_;lia) (Js (F1 (Array.size_push ..)) (by rw[C3];show(Zg (L.take j)).toArray.size+1<=_;lia)));show D4 {W,c2,?_};let J1:=(J'.unpinned (pl:=[PKs B e (L.take j)])).turn1 fK s1;show J1.pin1 fK a1 (by intro v;simp)
 .simp only[Fv]at J;rw[el,Gc]at J;let Y:=J.pin (PKs B e L) (Jr _ (Jr _ (Jj.mpr W)))
  try dsimp only
  show D3 (listItems_at Y.1 W ?_);show jI J a2 fD fK hk nd Z h
theorem sV(I:AB X pq σ H s)(hl:Ad X.K H l (L.map (·.1)))(Z:L.length<64)(hk:∀q∈L,A2 X.K H q.2.1 (q.2.2.map V.int)/\q.2.2≠[])(nd:(L.map (·.2.2)).Nodup)(hcall:∀(pins':List (Addr×Obj))(s':Cc)(q:BM)(u:Ca),(∀p∈pq,p∈pins')->AB X pins' σ H s'->q∈L->AJ q.1 u->Cg (Cj X.prog X.w) X.A.in1.in1 (call (.ref f) [u]) (EP X pins' σ λv H'=>v=.ref q.2.1/\H'=H) (λ_ _=>False) s')(h:∀(D:Addr)(L':List BM),H D=none->L'.Perm L->L'.Pairwise (λa b=>HT.lexLt a.2.2 b.2.2=true)->Q (.ref D) (upd H D (.lst (L'.map (·.1))))) :
  Cg (Cj X.prog X.w) X.A (call (.builtin "sorted") [.ref l] [(E7 "key",.ref f)]) (EP X pq σ Q) E s:=by
 let{its,rv,pl,_}:=I.list hl;let el:its.length=L.length:=by have:=rv.length;simp only[Ja]at this;lia
 show call_function_entry_kw kind_sorted plain_sorted entry_sorted (ksk_s1 _ _) ?_;unfold Builtin.«sorted»;show D3 (m:=checkCount "sorted" 1 1 _) (D4 ?_);show D3 (collect_list pl.isList ?_ (by rw[C3];lia));show D3 (Me ?_ (by rw[C3];lia));let hsz:((s.heap.push (Ep "list" #[] 0)).update s.heap.objs.size (Cu (·++its.toArray))).objs.size=s.heap.objs.size+1:=by
  rw[Heap.size_update,GR]
 let B:(((s.heap.push (Ep "list" #[] 0)).update s.heap.objs.size (Cu (·++its.toArray))).push (Ep "list" its.toArray 0)).get? (s.heap.objs.size+1)=some (Ep "list" its.toArray 0):=by
  rw[<-hsz];show D6 _ W
 let keep:∀b o,s.heap.get? b=some o->(((s.heap.push (Ep "list" #[] 0)).update s.heap.objs.size (Cu (·++its.toArray))).push (Ep "list" its.toArray 0)).get? b=some o:=λb o q=>by
  let G:b<s.heap.objs.size:=D7 q;rw[Ko _ _ _ (by rw[hsz];show Gk (B8 G)),Heap.get?_update_ne _ _ _ _ (Gk G),Ko _ _ _ (Gk G)];show q
 let Y:A3 X pq H (s.heap.objs.size+1):=I.fpOk (Bg _) (I.hok.fresh (Bg _));let I1:AB X pq σ H {s with heap:=((s.heap.push (Ep "list" #[] 0)).update s.heap.objs.size (Cu (·++its.toArray))).push (Ep "list" its.toArray 0)}:=I.kept (t':=s.toks) keep;show Cg _ _ _ _ _ {s with heap:=((s.heap.push (Ep "list" #[] 0)).update s.heap.objs.size (Cu (·++its.toArray))).push (Ep "list" its.toArray 0)};rw[hsz];generalize hD:s.heap.objs.size+1=D at *
 generalize hh:((s.heap.push (Ep "list" #[] 0)).update s.heap.objs.size (Cu (·++its.toArray))).push (Ep "list" its.toArray 0)=hp at *
 show D3 (Cz (wpAny_call_entry_kw slot_list_sort {_,B,W} QT ?body (ksk_l1 _ _)))
 case body =>
  show Cg (Cj X.prog X.w) X.A.in1.in1 (Builtin.«list.sort» {[.ref D],[(E7 "key",.ref f)]}) _ _ _;rw[ksk_t1];let s1:=Eg hp D (Cu λ_=>(#[]:Array Ca));obtain⟨e1,J⟩:∃e1,(hp.update D (Cu λ_=>(#[]:Array Ca))).get? D=some (Ep "list" #[] e1):={_,Le B λ_=>#[]};let I2:=(I1.turn1 Y s1).pin1 Y J (by intro v;simp);let I3:AB X (pq++[PD D e1]) σ H {s with heap:=((hp.update D (Cu λ_=>(#[]:Array Ca))).push (Ep "tuple" its.toArray 0)).push (Ep "list" #[] 0)} :=
   I2.kept (t':=s.toks) λb o e=>D5 _ (D5 _ e)
  let O:(hp.update D (Cu λ_=>(#[]:Array Ca))).objs.size<=((hp.update D (Cu λ_=>(#[]:Array Ca))).push (Ep "tuple" its.toArray 0)).objs.size:=by rw[GR];show Bg _
  let fK:A3 X (pq++[PD D e1]) H ((hp.update D (Cu λ_=>(#[]:Array Ca))).push (Ep "tuple" its.toArray 0)).objs.size:=I2.fpOk O (I2.hok.fresh O);unfold ksk_tree;show D3 (listItems_at B W ?_);show D3 (Lf B W ?_ (by rw[Jp,C3];lia) (J9 _));show D3 (seqEpoch_at J W ?_);show D3 (wpAny_newTuple ?_ (by show its.length<=_;rw[C3];lia));show D3 (Me ?_ (J9 _));show Cz ?_;show mG (L:=L) (I3.pin1 fK (D6 _ W) (by intro v;simp)) Z Y fK hk nd rv hcall λs' L' p w I'=>?_;show{·,D4 {_,W,.ref D,_,I',W,h D L' Y.1 p w}}
end
def codeφ(c:Addr)(q:Str):HO:=.ext λh=>h.CodeRec (.ref c) q
def EA(P:Addr)(dF:Pos)(q:Str)(H:Hp):Prop :=
 ∃ps,H P=some (.tbl ps)/\TriplesOk ps.toList/\(HN dF ps.toList=none\/∃c,HN dF ps.toList=some (.ref c)/\H c=some (codeφ c q))
def DR(P:Addr)(H H':Hp):Prop:=∀b o,b≠P->H b=some o->H' b=some o
def DR.refl(P:Addr)(H:Hp):DR P H H:=λ_ _ _ h=>h
def Bm(mg:Str->Option Ca)(h:Heap):Prop:=∃G B,mg "__builtins__"=some (.ref G)/\G≠GD/\h.get? G=some B/\B.cls=.type "module"/\B.dict=some GD/\B.data=.plain
abbrev S4(q:Str)(dN:Arguments)(dR:Expr)(dE:Scope)(pm B h:Ca):Obj :=
 {cls:=.type "function",data:=.func (kla_fn "<lambda>" q dN dR dE [] pm B h)}
section
def Znj(x:h.CodeRec (.ref c) q) :Y9 P w H h c (codeφ c q) :=
 {x,let{G,o,_,_,e,B,_}:=x;{o,by cases e;show B},λ_ _ a b=>a.at λo e=>b o e}
def qU{dN:Arguments}{dR:Expr}{dE:Scope}{P:Addr}{R:Ca->Cc->Prop}(I:AB X pq σ H s)(hcode:X.env.code=.ref c)(C:CodeHd X.base c P)(B:Bm X.mg X.base)(T:EA P dF (X.env.qual++"<lambda>") H)(a3:JV dE X.env=pure [])(a2:defaultsOf dN X.env=([],[]))(h:∀(f G:Addr)(pm J:Ca)(H2:Hp)(s2:Cc),DR P H H2->EA P dF (X.env.qual++"<lambda>") H2->H2 G=some (codeφ G (X.env.qual++"<lambda>")) ->
   AB X (pq++[(f,S4 (X.env.qual++"<lambda>") dN dR dE pm (.ref G) J)]) σ H2 s2->R (.ref f) s2) :
  Cg (Cj X.prog X.w) X.A (eval (.Lambda dN dR dE dF) X.env) R E s:=by
 let{ps,Y,ht,hc}:=T;let oP:s.heap.get? P=some (tabObj ps):=I.hok P _ Y;let{bm,ob,b1,b2,b3,b4,b5,b6}:=B;let gl:s.heap.Ns Cw X.mg:=I.mod.glob.keeps I.bk;let a6:Cw≠P:=λz=>by
  let{o,es,ep,e,hd,_}:=gl;rw[z,oP]at e;cases e;cases hd
 let a7:bm≠P:=λz=>by
  let e:=I.bk _ _ b3;rw[z,oP]at e;cases e;cases b4
 let a8:bm≠Cw:=λz=>by
  let{o,es,ep,e,hd,_}:=gl;let e3:=I.bk _ _ b3;rw[z,e]at e3;cases e3;rw[hd]at b6;cases b6
 let BA:s.heap.BuiltinsAt X.mg P:={bm,ob,b1,b2,a8,a7,I.bk _ _ b3,b4,b5,b6};show kla_eval a2 ?_;rcases hc with hc|⟨G,hc,hx⟩
 .show kla_makeFunction (mg:=X.mg) a3 I.ok.glob gl hcode (C.keeps I.bk) oP ht hc a6 BA λG J h' tk hx Z a1 a0 a4=>?_;let hn:H G=none:=I.hok.fresh Z;let cP:G≠P:=λz=>by rw[z,Y]at hn;cases hn
  let cR:(h'.push (S4 (X.env.qual++"<lambda>") dN dR dE ((X.mg "__name__").getD .none) (.ref G) J)).CodeRec (.ref G) (X.env.qual++"<lambda>"):=a0.at λo e=>D5 _ e;let keep:∀b o,b≠P->s.heap.get? b=some o->(h'.push (S4 (X.env.qual++"<lambda>") dN dR dE ((X.mg "__name__").getD .none) (.ref G) J)).get? b=some o:=λb o n e=>D5 _ (hx b o n e);let tb:=D5 (S4 (X.env.qual++"<lambda>") dN dR dE ((X.mg "__name__").getD .none) (.ref G) J) a4;let O:∀b o,b≠P->H b=some o->upd (upd H P (.tbl (ps++#[Hh dF.line,Hh dF.col,.ref G]))) G (codeφ G (X.env.qual++"<lambda>")) b=some o:=λb o n e=>by
   rwa[Zq (Z8 e hn),Zq n]
  let a5:BN X.prog X.w (upd (upd H P (.tbl (ps++#[Hh dF.line,Hh dF.col,.ref G]))) G (codeφ G (X.env.qual++"<lambda>"))) (h'.push (S4 (X.env.qual++"<lambda>") dN dR dE ((X.mg "__name__").getD .none) (.ref G) J)):=λb u e=>by
   by_cases hb:b=G
   .subst hb;rw[Zw]at e;cases e;show Znj cR
   .rw[Zq hb]at e
    by_cases hb2:b=P
    .subst hb2;rw[Zw]at e;cases e;show tb
    .rw[Zq hb2]at e;show(I.hok b u e).stay (λd v hd q=>keep d v ?_ q) (λd q=>O d _ (λz=>by rw[z,Y]at q;cases q) q) λd xs q=>O d _ (λz=>by rw[z,Y]at q;cases q) q;rcases hd with z|z
     .rw[z];show hb2
     .intro w;rw[w,Y]at z;cases z
  let un:Un X.fs [] H (upd (upd H P (.tbl (ps++#[Hh dF.line,Hh dF.col,.ref G]))) G (codeφ G (X.env.qual++"<lambda>"))) s.heap (h'.push (S4 (X.env.qual++"<lambda>") dN dR dE ((X.mg "__name__").getD .none) (.ref G) J)):=by
   let nP:∀b,H b=none->b≠P:=λb n z=>by rw[z,Y]at n;cases n
   exists λb o e n _ _=>keep b o (nP b n) e,λb o e n _ _=>{o.slots,keep b o (nP b n) e},λb o e n _=>?_,λb o e _=>?_,λb xs q=>O b _ (λz=>by rw[z,Y]at q;cases q) q,λb o u q=>O b _ (λz=>by rw[z,Y]at q;cases q) q,λb qs q=>?_
   .let:b≠G:=Gk (Gn (D7 e) Z);rwa[Zq this,Zq (nP b n)]
   .by_cases hb:b=P
    .show{_,hb ▸ tb}
    .show{o,keep b o hb e}
   .by_cases hb:b=P
    .subst hb;rw[Y]at q;cases q;show{#[Hh dF.line,Hh dF.col,.ref G],by rw[Zq cP.symm,Zw]}
    .show{#[],by rw[O b _ hb q];simp}
  let I2:=I.un (t':=tk) un a5;let fz:s.heap.objs.size<=h'.objs.size:=Js Z (Fg a1);let fn:upd (upd H P (.tbl (ps++#[Hh dF.line,Hh dF.col,.ref G]))) G (codeφ G (X.env.qual++"<lambda>")) h'.objs.size=none:=by
   rw[Zq (Nat.ne_of_gt a1),Zq (λz=>D0 (D7 oP) (by rw[<-z];show Dy.mpr fz))];show I.hok.fresh fz
  let fF:=I.fpOk (H':=upd (upd H P (.tbl (ps++#[Hh dF.line,Hh dF.col,.ref G]))) G (codeφ G (X.env.qual++"<lambda>"))) fz fn;show h h'.objs.size G _ J _ _ O {_,by rw[Zq cP.symm,Zw],?_,.inr {G,?_,Zw}} Zw (I2.pin1 fF (D6 _ W) (by intro v;simp))
  .rw[Gp];show TriplesOk_snoc _ _ _ _ ht
  .rw[Gp];show codeAmong_snoc _ ht hc
 .show kla_makeFunctionHit (mg:=X.mg) a3 I.ok.glob gl hcode (C.keeps I.bk) oP ht hc BA λJ h' tk hk hsz=>?_;let I2:AB X pq σ H {s with heap:=h'.push (S4 (X.env.qual++"<lambda>") dN dR dE ((X.mg "__name__").getD .none) (.ref G) J),toks:=tk}:=I.kept (t':=tk) λb o e=>D5 _ (hk b o e);let fF:=I.fpOk (H':=H) hsz (I.hok.fresh hsz);show h h'.objs.size G _ J H _ (.refl _ _) {ps,Y,ht,.inr {G,hc,hx}} hx (I2.pin1 fF (D6 _ W) (by intro v;simp))
def nE{dC:Heap}{dD:List Env}{dN:Arguments}{dR:Expr}{dE:Scope}(h:Env0 Pg w K mg dC A dD s H)(hr:AG 1 A)(ho:s.heap.get? f=some (S4 q dN dR dE pm (.ref c') ctv))(O:s.heap.CodeRec (.ref c') q)(S:AD [x] [x] dE)(hbind:FP (kla_fn "<lambda>" q dN dR dE [] pm (.ref c') ctv) {[u],[]}=pure [(x,u)])(rv:AJ v u)(hb:PE (CI A7 Pg w K mg dC [x] q dE f (.ref c') A dD s H E0) dR t)(ht:t [some v] H Q) :
  K7 (Cj Pg w) A (.call (.ref f) {[u],[]}) (CR A7 dD Pg w H s Q E0) s:=by
 let KX:K.In s.heap:=h.mod.kin.keeps λb o e=>(h.bs b o e).1;let G:s.heap.NoLimit:=h.mod.nolimit.keeps λb o e=>(h.bs b o e).1;show kla_callFunE hr.depth ho W S.co S.gen W O ?_;rw[hbind];show D4 ?_;show Mt S.kind (λy hy=>?_) λenv he Z Y=>?_
 .let ey:y=(x,u):=Jj.mp hy;subst ey;rcases S.par x (Jj.mpr W)with z|z
  .show .inl z
  .show .inr {z,PySem.W.cellsFrom_some _ _ _ (.inl z)}
 .subst he;show{G.keeps Y.toInCall.keep,kla_codeExpr ?_};let I:AB (CI A7 Pg w K mg dC [x] q dE f (.ref c') A dD s H E0) [] (start [x] [v]) H Z:=WM (us:=[u]) S hr.hd h W (.cons rv .nil) Y;show BJ (hb [] Z (start [x] [v]) H Q I ht) (λr s' hs=>?_) λe s' hs=>hs;let{v',H',J,B,q'}:=hs;show{v',H',J.os,J.bare,J.base,J.hok,B,q'}
end
def DR.sqL{K:Frag}{P:Addr}{ps:Array Ca}(e:DR P H H')(B:H P=some (.tbl ps)){a:Addr}{xs:List V}(h:Ad K H a xs):Ad K H' a xs:=by
 rcases h with(h|⟨o,h⟩)|h
 .show .inl (.inl (e _ _ (λz=>by rw[z,B]at h;cases h) h))
 .show .inl (.inr {o,e _ _ (λz=>by rw[z,B]at h;cases h) h})
 .show .inr h
def DR.sqT{K:Frag}{P:Addr}{ps:Array Ca}(e:DR P H H')(B:H P=some (.tbl ps)){a:Addr}{xs:List V}(h:A2 K H a xs):A2 K H' a xs:=by
 rcases h with(h|⟨o,h⟩)|h
 .show .inl (.inl (e _ _ (λz=>by rw[z,B]at h;cases h) h))
 .show .inl (.inr {o,e _ _ (λz=>by rw[z,B]at h;cases h) h})
 .show .inr h
def QR(K:Frag)(P:Addr)(h:Pos)(dH:Str)(tb:TE)(ta:TA):TE:=λσ H Q=>ta σ H λvs H1=>∃(l:Addr)(L:List BM),vs=[.ref l]/\Ad K H1 l (L.map (·.1))/\L.length<64 /\
 (∀q∈L,A2 K H1 q.2.1 (q.2.2.map V.int)/\q.2.2≠[])/\(L.map (·.2.2)).Nodup/\EA P h dH H1/\(∀B q,DR P H1 B->q∈L->tb [some q.1] B λv H'=>v=.ref q.2.1/\H'=B) /\
 ∀(B:Hp)(D:Addr)(L':List BM),DR P H1 B->EA P h dH B->B D=none->L'.Perm L->L'.Pairwise (λa b=>HT.lexLt a.2.2 b.2.2=true)->Q (.ref D) (upd B D (.lst (L'.map (·.1))))
section
theorem iO{e:Expr}{ta:TA}{P:Addr}{x:Str}{dN:Arguments}{dR:Expr}{dE:Scope}{p G fG:Pos}(hr:AG 3 X.A)(hg:Gl X "sorted")(hm:X.mg "sorted"=none)(ha:PA X [e] ta)(hcode:X.env.code=.ref c)(C:CodeHd X.base c P)(B:Bm X.mg X.base)(a2:JV dE X.env=pure [])(a1:defaultsOf dN X.env=([],[]))(S:AD [x] [x] dE)(hbind:∀(pm cv Y u:Ca),FP (kla_fn "<lambda>" (X.env.qual++"<lambda>") dN dR dE [] pm cv Y) {[u],[]}=pure [(x,u)])(hb:∀(f Z:Addr)(A:Kr)(dD:List Env)(s:Cc)(H:Hp),PE (CI A7 X.prog X.w X.K X.mg X.base [x] (X.env.qual++"<lambda>") dE f (.ref Z) A dD s H E0) dR tb)(he:Cr [e] X.env=[(false,eval e X.env)]:=by rfl) :
  PE X (.Call (.Name "sorted" p) [e] [{some "key",.Lambda dN dR dE G,fG}] dF) (QR X.K P G (X.env.qual++"<lambda>") tb ta):=by
 intro pq s σ H Q I h;show Ee (Nq I hg hm Ek ?_);show callWith_kw (AS (ha dF pq s σ H _ I h) λus s1 hz=>?_) (by rw[he];rfl) (by rw[he];rfl);let{vs,H1,I1,r1,l,L,ev,hl,a4,hk,nd,T,a3,q1}:=hz;subst ev;let{u,rfl,ru}:=AF.one r1;obtain rfl:u=Cd l:=ru;let{ps,hP,_,_}:=id T;show Cg _ _ (evalAll [do let v <-eval (.Lambda dN dR dE G) X.env;DY dF;pure v]) _ _ s1;show wpAny_evalAll_cons (D3 (qU I1 hcode C B T a2 a1 λf Z pm Y H2 s2 sT T2 hx I2=>D3 (E5 (D4 (wpAny_evalAll_nil ?_)))));show Cg _ _ (call (.builtin "sorted") [.ref l] [(E7 "key",.ref f)]) _ _ s2
 show BJ (sV (Q:=Q) (E:=X.xe) I2 (sT.sqL hP hl) a4 (λq hq=>{sT.sqT hP (hk q hq).1,(hk q hq).2}) nd (λpins' s' q u hp I' hq rv=>?_) λD L' n p w=>q1 H2 D L' sT T2 n p w) (λv s'⟨v',H',J,rv,qq⟩=>{v',H',J.unpinned,rv,qq}) λ_ _ z=>z;let a0:=I'.pin (f,S4 (X.env.qual++"<lambda>") dN dR dE pm (.ref Z) Y) (Jr _ (hp _ (Jr _ (Jj.mpr W))));show Ka (Kg (nE (I'.env0.in1.in1) hr.in1.in1 a0.1 (I'.hok Z _ hx).1 S (hbind pm (.ref Z) Y u) rv (hb f Z _ _ _ _) (a3 H2 q sT hq)) λr a5 O=>?_);cases r with
 |error e=>show Cy O
 |ok fl =>
  cases fl with
  |ret u=>show I'.after O
  |next=>show Cy O
  |brk=>show Cy O
  |cont=>show Cy O
end
end L2
namespace L2
open PySem PySem.Spec PyProof.Rows
def GO(P:Addr)(H:Hp):Prop:=H P=some (.tbl #[])/\∀b,b≠P->H b=none\/∃o xs,H b=some (.frz o (.lst xs))
def GO.tab{P:Addr}(o:GO P H)(dF:Pos)(q:Str):EA P dF q H:={#[],o.1,trivial,.inl W}
theorem Zjq{mb:Str->Option Ca}{fa a:Addr}{x:Str}{sp:Sp}{B:Cc}{vs:List Ca}(KX:K.In B.heap)(a4:B.heap.Ns Cw mg)(G:B.heap.Ns GD mb)(b9:∀x:Str,x≠"__name__"->mb x=K1 x)(a5:B.heap.NoLimit)(b8:Bm mg B.heap)(hg:B.gens=#[])(ha:B.heap.get? a=some {cls:=.type "list",data:=.seq vs.toArray})(hi:E9 vs ns)(hl:ns.length<=Cb)(hr:AG k ED)(hP:B.heap.get? Pt=some (NX #[]))(a7:K.lookup Pt=none)(hC:W.CodeHd B.heap c Pt)(F:∀dC:Heap,K.In dC->dC.Ns Cw mg->Bm mg dC->AK P w K mg dC CX k fa fd [x] sp)(hbind:∀(s:Cc)(u:Ca),ES s fd {[u],[]} [(x,u)])(b7:∀H:Hp,GO Pt H->Ad K H a (ns.map V.int)->sp [.ref a] H (λv _=>v=.bl true) λ_ _ _=>False)(c0:∀H e s',CX [] H B (λ_ _ _=>False) e s'->False) :
  K7 (Cj P w) ED (.call (.ref fa) {[.ref a],[]}) (λr s'=>r=.ok (.ret (.bool true))/\OldK B.heap s'.heap/\s'.os=B.os/\DN s'.gens) B:=by
 let rv:=RS hi;let a2:=hi.length;let aP:a≠Pt:=λz=>by rw[z,hP]at ha;cases ha
 let Z:∀H:Hp,GO Pt H->Ad K H a (ns.map V.int)->BN P w H B.heap->(∀b,H b≠none->b=a\/b=Pt)->(∀b,H b≠none->K.lookup b=none) ->
   K7 (Cj P w) ED (.call (.ref fa) {[.ref a],[]}) (λr s'=>r=.ok (.ret (.bool true))/\OldK B.heap s'.heap/\s'.os=B.os/\DN s'.gens) B:=by
  intro H hO hS a3 hA hK;let base_of:∀{b:Addr}{o:Obj},B.heap.get? b=some o->H b=none->(hidT B.heap H).get? b=some o:=λe n=>Zm9 e n;let a1:∀{b:Addr}{o:Obj},B.heap.get? b=some o->(∀its n,o.data≠.seq its n)->(∀ps,o.data≠.fields ps)->H b=none:=λ{b o}e d d2=>by
   cases q:H b with
   |none=>rfl
   |some u =>
    rcases hA b (by rw[q];simp)with e'|e'
    .subst e';rw[ha]at e;cases e;show D0 rfl (d _ _)
    .subst e';rw[hP]at e;cases e;show D0 rfl (d2 _)
  let O:∀{b:Addr}{m:Str->Option Ca},B.heap.Ns b m->(hidT B.heap H).Ns b m:=λ{b m}⟨o,es,ep,e,d,r⟩=>{o,es,ep,base_of e (a1 e (by rw[d];intro _ _ z;cases z) (by rw[d];intro _ z;cases z)),d,r};let a8:K.In (hidT B.heap H):=λb o e=>base_of (KX b o e) (by
   cases q:H b with
   |none=>rfl
   |some u=>rw[hK b (by rw[q];simp)]at e;cases e)
  let c1:Bm mg (hidT B.heap H):=by
   let{bm,ob,b1,b2,b3,b4,b5,b6}:=b8;show{bm,ob,b1,b2,base_of b3 (a1 b3 (by rw[b6];intro _ _ z;cases z) (by rw[b6];intro _ z;cases z)),b4,b5,b6}
  let hM:Mod K mg (hidT B.heap H):={a8,O a4,{mb,O G,b9},let{mc,h1,h2}:=a5;{mc,O h1,h2}};let e0:Env0 P w K mg (hidT B.heap H) ED [] B H:={rfl,hM,λb o e=>qW e,F1 (xZ _ _),trivial,λb G=>D0 (show b∈([]:List Addr)from G) (by simp),a3,.of_eq hg};show Kg ((F _ a8 (O a4) c1).run ED [] B H {[.ref a],[]} [.ref a] [.ref a] _ _ hr e0 (hbind B (.ref a)) (.cons rfl .nil) (b7 H hO hS)) λr s' h=>?_;cases r with
  |error e=>show(c0 H e s' h).elim
  |ok fl =>
   cases fl with
   |next=>show Cy h
   |brk=>show Cy h
   |cont=>show Cy h
   |ret u =>
    let{v,H',os,a9,un,Y,r',q}:=h;let q':v=.bl true:=q;subst q';obtain rfl:u=K0 true:=r';let kp:∀b o,b≠Pt->B.heap.get? b=some o->s'.heap.get? b=some o:=λb o nP e=>by
     cases q:H b with
     |none=>show un.keep b o e q (by intro z;show D0 (show b∈([]:List Addr)from z) (by simp)) (by simp)
     |some u =>
      rcases hO.2 b nP with z|⟨ob,xs,z⟩
      .rw[q]at z;cases z
      .let z2:=un.frzs b ob _ z;let{e1,_}:=a3 b _ z;let{e2,_}:=Y b _ z2;rw[e]at e1;cases e1;show e2
    let{more,hm}:=un.tbls Pt #[] hO.1;let a6:s'.heap.get? Pt=some {cls:=.none,data:=.fields (#[]++more)}:=Y Pt _ hm;show{rfl,{λb o e=>?_,λb o e=>?_},os,a9}
    .by_cases hbP:b=Pt
     .subst hbP;rw[hP]at e;cases e;show .inr (.inl {(hC.tab hP).isCodeTable,rfl,#[],more,rfl,a6})
     .show .inl (kp b o hbP e)
    .by_cases hbP:b=Pt
     .subst hbP;show{_,a6}
     .show{o,kp b o hbP e}
 let a0:∀(H:Hp),Y9 P w H B.heap Pt (.tbl #[]):=λH=>hP;cases hk:K.lookup a with
 |some o =>
  let e:=KX a o hk;rw[ha]at e;cases e;show Z (λb=>if b=Pt then some (.tbl #[])else none) {D9 rfl,λb G=>.inl (D8 G)} (.inr {_,vs.toArray,_,hk,rfl,rfl,rfl,by rwa[Jp,a2],by simpa using rv}) (λb u z=>?_) (λb z=>?_) λb z=>?_
  .by_cases G:b=Pt
   .let J:=(D9 G).symm.trans z;cases J;rw[G];show a0 _
   .let J:=(D8 G).symm.trans z;cases J
  .by_cases G:b=Pt
   .show .inr G
   .show D0 (D8 G) z
  .by_cases G:b=Pt
   .rw[G];show a7
   .show D0 (D8 G) z
 |none =>
  show Z (λb=>if b=Pt then some (.tbl #[])else if b=a then some (.frz {cls:=.type "list",data:=.seq vs.toArray} (.lst (ns.map V.int)))else none) {D9 rfl,λb G=>?_}
   (.inl (.inr {{cls:=.type "list",data:=.seq vs.toArray},(D8 aP).trans (D9 rfl)})) (λb u z=>?_) (λb z=>?_) λb z=>?_
  .by_cases hba:b=a
   .show .inr {_,_,(D8 G).trans (D9 hba)}
   .show .inl ((D8 G).trans (D8 hba))
  .by_cases G:b=Pt
   .let J:=(D9 G).symm.trans z;cases J;rw[G];show a0 _
   .let z1:=(D8 G).symm.trans z
    by_cases hba:b=a
    .let J:=(D9 hba).symm.trans z1;cases J;subst hba;exists ha,by rwa[Ja],vs,_,rv,ha
    .let J:=(D8 hba).symm.trans z1;cases J
  .by_cases G:b=Pt
   .show .inr G
   .by_cases hba:b=a
    .show .inl hba
    .show D0 ((D8 G).trans (D8 hba)) z
  .by_cases G:b=Pt
   .rw[G];show a7
   .by_cases hba:b=a
    .rw[hba];show hk
    .show D0 ((D8 G).trans (D8 hba)) z
def tO{l:ON}{n k:Nat}{q:E4}{loose:List Str}{XP:(Str->Option Ca)->Heap->Prop}{YP:H9->Heap->Prop}{d:DefRec}{K:Params->Cq}{CX:H9->CXT}{sp:H9->Sp}{x:Str}(hn:l.most=some n)(a1:n<=Cb)(a3:d.params.defaults=[])(hr:AG k ED)(hY:∀(w:H9)(h:Heap),YP w h->(K w.params).In h)(a4:∀(w:H9)(h:Heap),YP w h->h.get? Pt=some (NX #[]))(a5:∀w:H9,(K w.params).lookup Pt=none)(F:∀(w:H9)(mg:Str->Option Ca)(Z:Addr)(h:Heap),(K w.params).In h->h.Ns Cw mg->mg d.name=some (.ref Z) ->
   ∃fd:Mx,(∃c,IZ (K w.params) c Pt=true)/\(∀(s:Cc)(u:Ca),ES s fd {[u],[]} [(x,u)]) /\
    ∀dC:Heap,(K w.params).In dC->dC.Ns Cw mg->Bm mg dC->AK l.prog w (K w.params) mg dC (CX w) k Z fd [x] (sp w))(a0:∀(w:H9)(H:Hp)(a:Addr)(ns:List Int),ns.length<=n->GO Pt H->Ad (K w.params) H a (ns.map V.int)->sp w [.ref a] H (λv _=>v=.bl true) λ_ _ _=>False)(a6:∀(w:H9)(H:Hp)(s:Cc)(e:Ca)(s':Cc),CX w [] H s (λ_ _ _=>False) e s'->False) :
  W.WalkO q loose XP YP l.row.toRowW d [] (λf vs=>JN f vs):=by
 show Att.attach_call hn a3 λw s₀ J mg mb Z o pm cd doc a vs ns G Y ho hd a7 a2 O hints B hg=>?_;let KX:=hY w _ Y;let{fd,{c,hC},hb,hF}:=F w mg Z _ KX G.T.g a2;show Zjq KX G.T.g G.T.b G.T.builtins G.T.nolimit G.T.bmain hg O hints (Js B a1) hr (a4 w _ Y) (a5 w) (ZG KX hC) hF hb (λH hO hS=>a0 w H a ns B hO hS) λH e s'=>a6 w H J e s'
section
variable{a:Addr}{o:Obj}{xs:Array Ca}{k:Nat}
def P7{Q:Option Ca->Cc->Prop}(hx:s.heap.get? a=some o)(Z:o.cls=.type "list")(B:o.data=.seq xs k)(hd:o.dict=none)(hA:A.handled=none)(h:∀h' tk e,VL s.heap h' e "AttributeError"->Q none {s with heap:=h',toks:=tk}):Cg (Cj prog w) A (FN (.ref a) "keys") Q E s:=by
 let{c,a0,a1,sl}:=o;simp only at Z B hd;subst Z B hd;let{hp,g,d,tk,os}:=s;let hT:∀J,({hp,g,d,J,os}:Cc).TypeIs (.ref a) "list":=λ_=>{_,hx,W};let f1:=PL;let f3:=F.slot_list_getattribute.lookup;let f4:=F.slot_list_getattribute.bind (.ref a);let f5:=am_list_getattr_none;let hmiss:FG (.type "list") "keys"=pure none:=by rw[NF,Lw];kernel_rfl
 unfold FN getAttrBy? HZ
 repeat (any_goals (first|assumption|show hT _|((with_reducible show Cg _ _ (call (Kp "list.__getattribute__") _ _) _ _ _);show Kl F.slot_list_getattribute (hT _) am_entry_list_getattribute (F.args_list_getattribute_2 _ _) (meets_getattribute_miss_list a xs k sl "keys" _ hmiss (by decide +kernel)) {hx,hA,λh' J e O=>?_})|wp_step))
 let{t',u',he}:=O.there;let Y:∀G,({h',g,d,G,os}:Cc).TypeIs (.ref e) "AttributeError":=λ_=>{_,he,W};show Cg _ _ (Lg _ _ _ _ _ _ _) _ _ _;unfold Lg
 repeat (any_goals (first|assumption|show Y _|wp_step))
 all_goals show h _ _ _ O.of
def Pb{Q:Option Ca->Cc->Prop}(hx:s.heap.get? a=some o)(Z:o.cls=.type "tuple")(B:o.data=.seq xs k)(hd:o.dict=none)(hA:A.handled=none)(h:∀h' tk e,VL s.heap h' e "AttributeError"->Q none {s with heap:=h',toks:=tk}):Cg (Cj prog w) A (FN (.ref a) "keys") Q E s:=by
 let{c,a0,a1,sl}:=o;simp only at Z B hd;subst Z B hd;let{hp,g,d,tk,os}:=s;let hT:∀J,({hp,g,d,J,os}:Cc).TypeIs (.ref a) "tuple":=λ_=>{_,hx,W};let f1:=PL;let f3:=F.slot_tuple_getattribute.lookup;let f4:=F.slot_tuple_getattribute.bind (.ref a);let f5:=am_tuple_getattr_none;let hmiss:FG (.type "tuple") "keys"=pure none:=by rw[NF,Lw];kernel_rfl
 unfold FN getAttrBy? HZ
 repeat (any_goals (first|assumption|show hT _|((with_reducible show Cg _ _ (call (Kp "tuple.__getattribute__") _ _) _ _ _);show Kl F.slot_tuple_getattribute (hT _) am_entry_tuple_getattribute (F.args_tuple_getattribute_2 _ _) (meets_getattribute_miss_tuple a xs k sl "keys" _ hmiss (by decide +kernel)) {hx,hA,λh' J e O=>?_})|wp_step))
 let{t',u',he}:=O.there;let Y:∀G,({h',g,d,G,os}:Cc).TypeIs (.ref e) "AttributeError":=λ_=>{_,he,W};show Cg _ _ (Lg _ _ _ _ _ _ _) _ _ _;unfold Lg
 repeat (any_goals (first|assumption|show Y _|wp_step))
 all_goals show h _ _ _ O.of
end
end L2
namespace L2
open PySem PySem.Spec PyProof.Rows PySem.W
def TW:entryFor table "dict.update.loop"=some Builtin.«dict.update.loop»:=entryFor_of_tree {}
def WW:plainId "dict.update.loop"=true:=by decide +kernel
inductive DFill(H:Hp)(D:Addr):HO->List (V×V)->HO->Prop
 |nil {o:HO}:DFill H D o [] o
 |cons {o o' o'':HO} {k v:V} {r:List (V×V)} (h:DPut (upd H D o) D k v (upd H D o')) (t:DFill H D o' r o''):DFill H D o ((k,v)::r) o''
def IQ(K:Cq)(H:Hp)(ys:List V)(h:List (V×V)):Prop:=Paired (λy z=>∃t,y=.ref t/\A2 K H t [z.1,z.2]) ys h
def A2.upd'{a D:Addr}(h:A2 K H a xs)(n:H D=none):A2 K (upd H D o) a xs:=by
 rcases h with(h|⟨o,h⟩)|h
 .show .inl (.inl (by rwa[Zq (Z8 h n)]))
 .show .inl (.inr {o,by rwa[Zq (Z8 h n)]})
 .show .inr h
section
def DX(K:Cq)(H:Hp)(h:Heap)(p it:Addr)(ys:List V)(i:Nat):Prop:=(Ad K H p ys/\h.IsListIter it p i)\/(A2 K H p ys/\h.IsTupleIter it p i)
def DX.at(x:DX K H h p it ys i)(k:∀o,h.get? it=some o->h'.get? it=some o)(hl:Ad K H p ys->Ad K H' p ys)(B:A2 K H p ys->A2 K H' p ys):DX K H' h' p it ys i:=by
 rcases x with⟨a,b⟩|⟨a,b⟩
 .show .inl {hl a,b.at k}
 .show .inr {B a,b.at k}
def jF{p:Addr}{i:Nat}{x:V}{Q:Option Ca->Cc->Prop}(I:AB X pq σ H s)(f:A3 X pq H it)(src:DX X.K H s.heap p it ys i)(hx:ys[i]?=some x)(h:∀u s',AJ x u->AB X pq σ H s'->DX X.K H s'.heap p it ys (i+1)->Q (some u) s'):Cg (Cj X.prog X.w) A (DI (.ref it)) Q E s:=by
 let{f0,f1,f2,f3,f4,f5}:=f;rcases src with⟨G,st⟩|⟨G,st⟩
 .let⟨its,J,Y,hz⟩:=I.list G;let{u,Z,O}:=J.get hx;show Of st Y.isList (x:=u) (by simpa using Z) λh' B sb=>h u _ O (I.turned (t':=s.toks) (λb o hb e=>(sb.2 b hb).trans e) f0 f1 f3 f4 f5) (.inl {G,B})
 .let⟨its,J,Y,hz⟩:=I.tuple G;let{u,Z,O}:=J.get hx;show QA st (show s.heap.IsTuple p its.toArray from Y) (x:=u) (by simpa using Z) λh' B sb=>h u _ O (I.turned (t':=s.toks) (λb o hb e=>(sb.2 b hb).trans e) f0 f1 f3 f4 f5) (.inr {G,B})
theorem rF{p:Addr}{i:Nat}{Q:Option Ca->Cc->Prop}(I:AB X pq σ H s)(f:A3 X pq H it)(Z:A.handled=none)(src:DX X.K H s.heap p it ys i)(hx:ys.length<=i)(h:∀s',AB X pq σ H s'->Q none s'):Cg (Cj X.prog X.w) A (DI (.ref it)) Q E s:=by
 let{f0,f1,f2,f3,f4,f5}:=f;rcases src with⟨J,st⟩|⟨J,st⟩
 .let⟨its,B,G,hz⟩:=I.list J;let hl:=B.length;show PH Z st G.isList (by simp;lia) λh' Y=>h _ (I.turned (t':=s.toks) (λb o O e=>Y b o O e) f0 f1 f3 f4 f5)
 .let⟨its,B,G,hz⟩:=I.tuple J;let hl:=B.length;show YW Z st (show s.heap.IsTuple p its.toArray from G) (by simp;lia) λh' Y=>h _ (I.turned (t':=s.toks) (λb o O e=>Y b o O e) f0 f1 f3 f4 f5)
theorem jG{a:Addr}{v:V}{u r:Ca}{Q:Unit->Cc->Prop}(hu:A.units<E8)(I:AB X pq σ H s)(g:DPut H a y v H')(ry:AJ y u)(rv:AJ v r)(h:∀s',AB X pq σ H' s'->Hm a s.heap s'.heap->Q ⟨⟩ s') :
  Cg (Cj X.prog X.w) A (dictSet a u r) Q E s:=by
 rcases g with⟨kvs,k,e,O,l,Y⟩|⟨kvs,k,b,e,O,eb,l,Y⟩
 .subst O Y;let{z,hd,vs,B,Z}:=MD I.hok e;let hz:vs.length<=Cb:=by rwa[<-B.length]
  let hl:(A4 kvs k v).length<=Cb:=by have:=X8 kvs k v;lia
  show wpAny_dictSet_pairs (hsz:=hz) (FL ry) Z λh' G hs=>h _ ?_ hs;let he:∃q,h'.get? a=some q:=let{q,_,_,J,_}:=G;{q,J}
  show Ps I (by rw[e];show Ef) hs he (bM hl hd (B.put k rv) G)
 .subst O Y;cases(show u=Cd b from ry);let{z,hd,xs,B,Z}:=SM I.hok e;let hz:xs.length<=Cb:=by rwa[<-Paired.length B]
  let hl:(A4 kvs k v).length<=Cb:=by have:=X8 kvs k v;lia
  show wpAny_dictSet_heap (hsz:=hz) (show(EB (Yo X.prog X.w)).room A from hu) (Nr I.hok eb) Z λh' G hs=>h _ ?_ hs;let{q,es,ep,J,h2,h3,h4,_,h5}:=G;show Ps I (by rw[e];show Ef) hs {q,J} {hl,hd,_,(B.put k eb rv).keeps λc ys ec=>?_,q,es,ep,J,h2,h3,h4,h5};rwa[Zq (FC ec e (λz=>nomatch z))]
theorem YX{p D:Addr}(hu:A.units+8<E8)(hA:A.handled=none)(hn:H D=none)(hit:it≠D)(B:A3 X pq H it) :
  ∀(Z:List (V×V))(i:Nat)(o o':HO)(s:Cc)(t:Tok),AB X pq σ (upd H D o) s->DX X.K (upd H D o) s.heap p it ys i->IQ X.K H (ys.drop i) Z->DFill H D o Z o' ->
   (∀s',AB X pq σ (upd H D o') s'->R (.ok (.ret .none)) s')->K7 (Cj X.prog X.w) A (.builtin "dict.update.loop" {[.ref D,.ref it,.int i t,.none],[]}) R s
 |[],i,o,o',s,t,I,src,pa,df,h=>by
  cases df;let hl:ys.length<=i:=by
   let e:=Paired.length pa;simp only[Gf,By]at e;lia
  show Mo TW ?_;rw[Ku WW _];show Cg _ A.in1 (DI (.ref it) >>= _) _ _ s;show D3 (rF I (show A3 X pq (upd H D o) it from{by rw[Zq hit];show B.1,B.2}) hA src hl λs' I'=>?_);show Cg _ A.in1 (Jho D [] >>= _) _ _ s';show D3 (D4 (D4 (h s' I')))
 |z::Z,i,o,o'',s,t,I,src,pa,df,h=>by
  let O:i<ys.length:=by
   let e:=Paired.length pa;simp only[Gf,Ju]at e;lia
  rw[Bd O]at pa;cases pa with
  |cons p1 p2 =>
   let{tp,ep,sq}:=p1;cases df with
   | @cons _ o1 _ k v _ d1 d2 =>
    show Mo TW ?_;rw[Ku WW _];show Cg _ A.in1 (DI (.ref it) >>= _) _ _ s;let Y:∀o,A3 X pq (upd H D o) it:=λo=>{by rw[Zq hit];show B.1,B.2};show D3 (jF I (Y o) src (Jb O) λu s1 ru I1 G=>?_);rw[ep]at ru;obtain rfl:u=Cd tp:=ru;let{its,J,{ob,eo,hc,n,hd},_}:=I1.tuple (sq.upd' (o:=o) hn);cases J with
    |cons r1 J =>
     cases J with
     |cons r2 J =>
      cases J with
      |nil =>
       rename_i uk uv
       show Cg _ A.in1 (M8 [Cd tp] _ >>= _) _ _ s1;show D3 (Cz ?_);show D3 (wpAny_tryCatch ?_);unfold vZ;show D3 (Looks.here (show Looks (Cj X.prog X.w) s1.heap (typeOf (.ref tp)) ob.cls from(Looks.ld eo).andThen .now) ?_);rw[hc,D9 nofun];unfold seqItems?;show D3 (D3 (HF eo ?_));rw[hd];show D4 (D4 ?_);show Cg _ A.in1 (M8 [uk,uv] (dictSet D uk uv)) _ _ s1;show Cz (jG (by show A.units+1<E8;lia) I1 d1 r1 r2 λs2 I2 sb=>?_);show D4 {He _ (by decide +kernel),?_};show YX hu hA hn hit B Z (i+1) o1 o'' s2 _ I2 (G.at (λa0 e=>(sb.2 it hit).trans e) (λq=>?_) λq=>?_) p2 d2 h
       .rcases q with(q|⟨oo,q⟩)|q
        .by_cases hpD:p=D
         .subst hpD;show D0 d1 (λz=>by
           rw[Zw]at q;cases q;rcases z with⟨_,_,e,_⟩|⟨_,_,_,e,_⟩<;>rw[Zw]at e<;>cases e)
         .rw[Zq hpD]at q;show .inl (.inl (by rwa[Zq hpD]))
        .by_cases hpD:p=D
         .subst hpD;show D0 d1 (λz=>by
           rw[Zw]at q;cases q;rcases z with⟨_,_,e,_⟩|⟨_,_,_,e,_⟩<;>rw[Zw]at e<;>cases e)
         .rw[Zq hpD]at q;show .inl (.inr {oo,by rwa[Zq hpD]})
        .show .inr q
       .rcases q with(q|⟨oo,q⟩)|q
        .by_cases hpD:p=D
         .subst hpD;show D0 d1 (λz=>by
           rw[Zw]at q;cases q;rcases z with⟨_,_,e,_⟩|⟨_,_,_,e,_⟩<;>rw[Zw]at e<;>cases e)
         .rw[Zq hpD]at q;show .inl (.inl (by rwa[Zq hpD]))
        .by_cases hpD:p=D
         .subst hpD;show D0 d1 (λz=>by
           rw[Zw]at q;cases q;rcases z with⟨_,_,e,_⟩|⟨_,_,_,e,_⟩<;>rw[Zw]at e<;>cases e)
         .rw[Zq hpD]at q;show .inl (.inr {oo,by rwa[Zq hpD]})
        .show .inr q
end
section
def Q3(K:Cq):List V->Hp->VK->Prop:=λxs H Q=>∃(p:Addr)(ys:List V)(h:List (V×V))(o:HO),xs=[.ref p]/\(H p=some (.lst ys)\/H p=some (.tup ys))/\IQ K H ys h/\(o=.dK []\/o=.dT []) /\
 ∀D,H D=none->∃o',DFill H D o h o'/\Q (.ref D) (upd H D o')
theorem tJ(hr:AG 3 X.A)(hc:X.calm=true):W5 X (.type "dict") (Q3 X.K):=by
 intro pq s σ H xs us Q I r h;let{p,ys,zs,o,rfl,G,pa,ho,q}:=h;let{u,rfl,rx}:=P3 r;cases rx;let hA:X.A.handled=none:=I.ok.hd hc;let hD:H s.heap.objs.size=none:=I.hok.fresh (Jk _);let{o',df,q'}:=q _ hD;let pD:p≠s.heap.objs.size:=λz=>by
  rcases G with e|e<;>rw[z,hD]at e<;>cases e
 show callType_codes (Q₁:=λobj B=>obj=.ref s.heap.objs.size/\B={s with heap:=s.heap.push {cls:=.type "dict",data:=.dict #[]} }) PySem.F.kt_called_dict (PySem.F.kt_typeCall_dict_1 _) PySem.F.entry_dict_init (kt_code_dict_new _ {rfl,rfl}) ?_;rintro obj B ⟨rfl,rfl⟩;let I1:AB X pq σ (upd H s.heap.objs.size o) {s with heap:=s.heap.push {cls:=.type "dict",data:=.dict #[]} }:=by
  rcases ho with e|e
  .subst e;show I.laid (a:=s.heap.objs.size) (o:=.dK []) (t':=s.toks) (λ_ _ q=>D5 _ q) (Jk _) (nA s.heap I.big)
  .subst e;show I.laid (a:=s.heap.objs.size) (o:=.dT []) (t':=s.toks) (λ_ _ q=>D5 _ q) (Jk _) (ZT s.heap I.big)
 let hT:({s.heap.push {cls:=.type "dict",data:=.dict #[]},s.gens,s.drawn,s.toks,s.os}:Cc).TypeIs (.ref s.heap.objs.size) "dict":={_,D6 _ W,W};show{hT,PySem.F.args_dict_init_2 _ _,?_};unfold Builtin.«dict.__init__»;show D3 ?_;unfold Jhp;show D3 (wpAny_notOrdered_dict hT ?_);show Cg _ _ (pure (s.heap.objs.size,[Cd p])) _ _ _;show D4 ?_;show Cg _ _ (ZY "dict.__init__" s.heap.objs.size (.ref p) [] .none) _ _ _;unfold ZY;let a2:X.A.in1.in1.handled=none:=hA;let fin:∀(s2:Cc)(it:Addr),it≠s.heap.objs.size->A3 X pq H it->AB X pq σ (upd H s.heap.objs.size o) s2->DX X.K (upd H s.heap.objs.size o) s2.heap p it ys 0 ->
   K7 (Cj X.prog X.w) X.A.in1 (.builtin "dict.update.loop" {[.ref s.heap.objs.size,.ref it,Hh 0,.none],[]}) (wants (λr a0=>r=.none/\EP X pq σ Q (.ref s.heap.objs.size) a0) X.xe) s2:=λs2 it a3 a5 Z src =>
  YX (A:=X.A.in1) (by have:=hr.units;show X.A.units+1+8<E8;lia) (show X.A.in1.handled=none from hA) hD a3 a5 zs 0 o o' s2 _ Z src (by simpa using pa) df λs' I'=>{W,.ref s.heap.objs.size,_,I',W,q'}
 let nq:∀it:Addr,Code.quiet (.builtin "dict.update.loop" {[.ref s.heap.objs.size,.ref it,Hh 0,.none],[]})=true:=λit=>He _ (by decide +kernel);rcases G with G|G
 .let⟨hz,its,n,rv,Y⟩:=I1.hok p _ (show upd H s.heap.objs.size o p=some (.lst ys)by rw[Zq pD];show G);show D3 (K5 (show Ox _ (.ref p) "list" from{_,Y,W}) ?_);rw[D9 nofun];show D3 (P7 Y W W W a2 λh' tk e ne=>?_);let Z:AB X pq σ (upd H s.heap.objs.size o) {s with heap:=h',toks:=tk}:=I1.kept ne.keeps;simp only[bR,if_true];show D3 (Ez (D3 (Ln (s:={s with heap:=h',toks:=tk}) {_,ne.keeps _ _ Y,rfl,n,rfl} (D4 {nq _,?_}))));let hsz:s.heap.objs.size<h'.objs.size:=D7 (ne.keeps _ _ (D6 (o:={cls:=.type "dict",data:=.dict #[]}) s.heap W))
  let J:({s with heap:=h',toks:=tk}:Cc).heap.objs.size<=h'.objs.size:=Jk _;let fI:=Z.fpOk (H':=H) J (I.hok.fresh (Fg hsz));show fin _ _ (Nat.ne_of_gt hsz) fI (Z.kept (t':=tk) λb o e=>D5 _ e) (.inl {.inl (.inl (by rw[Zq pD];show G)),{_,D6 _ W,W,W}})
 .let⟨hz,its,rv,ob,Y,O,n,a1,a4⟩:=I1.hok p _ (show upd H s.heap.objs.size o p=some (.tup ys)by rw[Zq pD];show G);show D3 (K5 (show Ox _ (.ref p) "tuple" from{_,Y,O}) ?_);rw[D9 nofun];show D3 (Pb Y O a1 a4 a2 λh' tk e ne=>?_);let Z:AB X pq σ (upd H s.heap.objs.size o) {s with heap:=h',toks:=tk}:=I1.kept ne.keeps;simp only[bR,if_true];show D3 (Ez (D3 (UT (s:={s with heap:=h',toks:=tk}) (show Heap.IsTuple h' p its.toArray from{_,ne.keeps _ _ Y,O,n,a1}) (D4 {nq _,?_}))));let hsz:s.heap.objs.size<h'.objs.size:=D7 (ne.keeps _ _ (D6 (o:={cls:=.type "dict",data:=.dict #[]}) s.heap W))
  let J:({s with heap:=h',toks:=tk}:Cc).heap.objs.size<=h'.objs.size:=Jk _;let fI:=Z.fpOk (H':=H) J (I.hok.fresh (Fg hsz));show fin _ _ (Nat.ne_of_gt hsz) fI (Z.kept (t':=tk) λb o e=>D5 _ e) (.inr {.inl (.inl (by rw[Zq pD];show G)),{_,D6 _ W,W,W}})
end
end L2
namespace L2
open PySem PySem.Spec PyProof.Rows
section
variable{e:Expr}{st:Option Expr}{ts:TO}{p2:Pos}
def tRev(K:Cq)(te:TE)(ts:TO):TE:=λσ H Q=>te σ H λx H1=>ts σ H1 λk h=>k=some (-1)/\∃a xs,x=.ref a/\Ad K h a xs/\∀p,h p=none->Q (.ref p) (upd h p (.lst xs.reverse))
theorem YN(he:PE X e te)(hs:PO X st ts)(G:∀o i,∃ops,GK (.Slice none none st p2) false o i=HH ops (L6 o i)):PE X (.Subscript e (.Slice none none st p2) dF) (tRev X.K te ts):=by
 intro pq s σ H Q I h;show HJ (AS (he pq s σ H _ I h) λv s1 hz=>?_);let{x,H1,I1,r1,q1}:=hz;show wpAny_Slice ?_;rw[LZ];show D4 ?_;show D4 ?_;show AS (hs pq s1 σ H1 _ I1 q1) λY B hz=>?_;let{k,H3,I3,pk,ek,a,xs,ex,hx,q}:=hz;subst ek;subst ex;cases r1;let O:AB X pq σ H3 {B with heap:=B.heap.push {cls:=.type "slice",data:=.fields #[.none,.none,Y]} }:=I3.kept (t':=B.toks) λb ob q=>D5 _ q;let{its,r,Z,hz}:=O.list hx;let a0:=r.length;show Cg (Cj X.prog X.w) X.A (I8 e (.Slice none none st p2) (.ref a) (.ref B.heap.objs.size)) (EP X pq σ Q) X.xe {B with heap:=B.heap.push {cls:=.type "slice",data:=.fields #[.none,.none,Y]} }
 let{ops,J}:=G (.ref a) (.ref B.heap.objs.size);show tail_any (ops:=ops) Z.isList.typeIs slot_list_getitem.lookup ?_ J;show aQ Z.isList (VP ..) .none .none pk nofun ?_ (by rw[Jp]<;>lia);rw[W.krv_pick];show{.ref _,_,O.laid (t':=B.toks) (o:=.lst xs.reverse) (λb ob q=>D5 _ q) (Jk _) ?_,rfl,q _ (O.hok.fresh (Jk _))};show{by rwa[List.length_reverse],its.reverse,0,?_,?_}
 .let rev:∀{a:List V}{b:List Ca},AF a b->AF a.reverse b.reverse:=by
   intro a b h
   induction h with
   |nil=>show .nil
   |cons h1 h2 ih=>rw[Df,Df];show ih.append (.cons h1 .nil)
  show rev r
 .show D6 _ rfl
end
section
def T7{t sl:Addr}{B:Array Ca}{Q:Ca->Cc->Prop}(G:IsTup s.heap t B)(hs:s.heap.IsSliceOf sl vl vu .none)(pl:DM vl lo)(pu:DM vu hi)(hw:HT.sIx B.size 0 lo=0/\HT.sIx B.size B.size hi=B.size)(h:Q (.ref t) s):Cg (Cj prog w) A (L6 (.ref t) (.ref sl)) Q E s:=by
 let{os,O,Y,a0}:=id hs;let Z:s.TypeIs (.ref sl) "slice":={os,O,Y};unfold L6
 try with_reducible show Cz ?_
 first|show D3 (D4 ?_)|skip
 show D3 (SG G.typeIs nofun ?_);show D3 (Hw (name:=E7 "__getitem__") G.typeIs Eb
  (Ea Eb G.typeIs bB ?_ (aR _ _)))
 show Cg _ _ (Kt (.ref t) >>= _) _ _ s;show D3 (tupleItemsOf_ G ?_);show D3 (K5 Z ?_);rw[D9 nofun];show D3 (HT.sliceApplied_gen hs pl pu ?_);show Cg _ _ (if(((HT.sIx B.size 0 lo:Nat):Int)==0&&(1:Int)==1&&(HT.sIx B.size B.size hi-HT.sIx B.size 0 lo)==B.size)=true then _ else _) _ _ s;let J:((((HT.sIx B.size 0 lo:Nat):Int)==0&&(1:Int)==1&&(HT.sIx B.size B.size hi-HT.sIx B.size 0 lo)==B.size)=true):=by
  rw[hw.1,hw.2];simp
 rw[D9 J];unfold Jgr;show D3 ?_
 first
  |show D3 (K5 G.typeIs (D4 (by rw[D9 nofun];show D3 (Ez (D4 {_,W,D4 h})))))
  |show D3 (K5 G.typeIs (D4 (by simp;show D3 (Ez (D4 {_,W,D4 h})))))
end
section
def rSlW(K:Cq):V->Option Int->Option Int->Hp->VK->Prop:=λx lo hi H Q=>∃a xs,x=.ref a/\A2 K H a xs /\
 ((CF xs lo hi=xs->Q (.ref a) H)/\∀p,H p=none->Q (.ref p) (upd H p (.tup (CF xs lo hi))))
def kG:SlR X (rSlW X.K):=by
 intro pq s σ H x v vl Z lo hi sl Q I O hs pl J h;let{a,xs,rfl,hx,Y,q}:=h;cases O;let{its,r,G,hz}:=I.tuple hx;let B:its.toArray.size=xs.length:=by rw[Jp];show r.length.symm
 show{"tuple",_,Eb.lookup,G.typeIs,?_}
 by_cases hw:HT.sIx xs.length 0 lo=0/\HT.sIx xs.length xs.length hi=xs.length
 .show T7 G hs pl J (by rw[B];show hw) {.ref a,H,I,W,Y ?_};unfold CF;rw[hw.1,hw.2];simp
 .show HT.getItem_tuple_cut G hs pl J (by rw[B];show hw) ?_ (by rwa[B]);rw[B];show{.ref s.heap.objs.size,_,I.laid (t':=s.toks) (o:=.tup (CF xs lo hi)) (λb ob q=>D5 _ q) (Jk _) ?_,W,q _ (I.hok.fresh (Jk _))};show{Js (Pu xs lo hi) hz,_,(r.drop (HT.sIx xs.length 0 lo)).take (HT.sIx xs.length xs.length hi-HT.sIx xs.length 0 lo),Tp.new _ _}
end
def CY(P:E4)(w:H9)(K:Cq)(mg:Str->Option Ca)(dC:Heap)(C:Addr)(m:Str)(k:Nat)(ps:List Str)(sp:Sp):Prop :=
 ∃f fd,CQ K C/\Meth K C m f/\AK P w K mg dC A7 k f fd ps sp/\Ud K fd ps []
def FS(P:E4)(w:H9)(K:Cq)(mg:Str->Option Ca)(dC:Heap)(x:Str)(C:Addr)(k:Nat)(ps:List Str)(sp:Sp):Prop :=
 ∃f fd,Mk K C f/\AK P w K mg dC A7 k f fd ps sp/\mg x=some (.ref C)/\Ud K fd ps []
section
variable{k:Nat}{sp:Sp}{x m:Str}{p:Pos}{e o:Expr}{t:TA}
def HB{pl:Sem Bool}(Z:PE X o ta)(M:CY X.prog X.w X.K X.mg X.base C m k ps sp)(O:AG k X.A)(ha:PA X (e::es) t)(h:Cr (e::es) X.env=(false,eval e X.env)::Cr es X.env:=by rfl)(B:(Ks dF (Cr es X.env)).any (·.1)=false:=by rfl)(J:eval (.Call (.Attribute o m eA) (e::es) [] dF) X.env=(do
   let G <-eval o X.env
   DY eA.atName
   let(f,first) <-M8 [G] (FJ G m pl)
   HR dF f first (Ks dF (Cr (e::es) X.env)) (Mz dF (Kh [] X.env))):=by rfl) :
  PE X (.Call (.Attribute o m eA) (e::es) [] dF) (FM C m sp [] E0 ta t):=by
 let{f,fd,c,Y,F,hb}:=M;show Zrl Z c Y F O hb .nil Io ha h B J
def HP{pl:Sem Bool}(O:PE X o ta)(M:CY X.prog X.w X.K X.mg X.base C m k ps sp)(G:AG k X.A)(B:eval (.Call (.Attribute o m eA) [] [] dF) X.env=(do
   let h <-eval o X.env
   DY eA.atName
   let(f,first) <-M8 [h] (FJ h m pl)
   HR dF f first (Ks dF (Cr [] X.env)) (Mz dF (Kh [] X.env))):=by rfl) :
  PE X (.Call (.Attribute o m eA) [] [] dF) (FM C m sp [] E0 ta tNil):=by
 let{f,fd,c,J,F,Y}:=M;show qS O c J F G Y .nil Io B
def KU(M:FS X.prog X.w X.K X.mg X.base x C k ps sp)(G:AG (k+1) X.A)(O:Gl X x)(ha:PA X (e::es) t)(B:(x==("__debug__":Str))=false:=by decide)(Y:Cr (e::es) X.env=(false,eval e X.env)::Cr es X.env:=by rfl)(h:(Ks dF (Cr es X.env)).any (·.1)=false:=by rfl):PE X (.Call (.Name x p) (e::es) [] dF) (IY C sp [] E0 t):=by
 let{f,fd,J,F,g,Z}:=M;show xF J F G O g Z .nil Io ha B Y h
end
def AY.okC{dC:Heap}{kV:Ca}(lk:K.lookup f=some {oc,od,.func (DE x dH (X9 st) (Xc st) (Zf st) .none kV doc pm an cdv ct),osl})(G:EH K cdv dH=true)(S:AD N ps (Zf st))(len:∀vs H Q E,sp vs H Q E->vs.length=ps.length)(hbody:∀(A:Kr)(dD:List Env)(s:Cc)(H:Hp)(vs:List V)(Q:VK)(E:XK),AG k (A.deeper (Ho dH (Zf st) s.heap.objs.size f cdv))->sp vs H Q E ->
   ∃t,PSs (CI A7 P w K mg dC N dH (Zf st) f cdv A dD s H E).nox (Xc st) t/\t {nx:=λ_ H'=>Q .non H',rt:=Q} (start N vs) H) :
  AK P w K mg dC A7 (k+1) f (DE x dH (X9 st) (Xc st) (Zf st) .none kV doc pm an cdv ct) ps sp :=
 NU lk G S len λA dD s H vs Q E J B=>by
  let{t,h,q}:=hbody A dD s H vs Q E J B;show{t,h.nox,q}
abbrev Pr:=Int×List Int
variable{S L S1:List L2.Pr}
def TupK(H H':Hp):Prop:=∀b xs,H b=some (.tup xs)->H' b=some (.tup xs)
def AL.tk(s:AL H H'):TupK H H':=λb xs h=>s b _ h
def oB(H:Hp)(v:V)(w:List Int):Prop:=∃t,v=.ref t/\H t=some (.tup (w.map V.int))
def EC(H:Hp)(v:V)(p:Pr):Prop:=∃t h,v=.ref t/\H t=some (.tup [.int p.1,.ref h])/\H h=some (.tup (p.2.map V.int))
def EC.tk(h:EC H v p)(s:TupK H H'):EC H' v p:=by
 let{t,B,e,a,b}:=h;show{t,B,e,s _ _ a,s _ _ b}
abbrev FK(H:Hp):List V->List Pr->Prop:=Paired (EC H)
def FK.tk(h:FK H vs L)(s:TupK H H'):FK H' vs L:=Paired.mapP h λ_ _ z=>z.tk s
theorem Paired.at{α:Type}{F:α->β->Prop}:∀{l:List α}{m:List β},Paired F l m->∀{i:Nat}(h1:i<l.length)(h2:i<m.length),F l[i] m[i]
 |_,_,.nil,_,h,_=>D0 h (G9 _)
 |_,_,.cons a r,0,_,_=>a
 |_,_,.cons a r,i+1,h1,h2=>Paired.at r (i:=i) (by simpa using h1) (by simpa using h2)
theorem Paired.snoc{α:Type}{F:α->β->Prop}{x:α}{y:β}(h:F x y):∀{l:List α}{m:List β},Paired F l m->Paired F (l++[x]) (m++[y]):=by
 intro _ _ B;cases B with
 |nil=>
  show .cons h .nil
 |cons a r=>
  show .cons a (Paired.snoc h r)
def FB(a b:Pr):Prop:=a.1≠b.1/\¬ a.2<+:b.2/\¬ b.2<+:a.2
def AU(L:List Pr):Prop:=L.Pairwise FB
def AU.get(h:AU L)(hi:i<L.length)(G:j<L.length)(B:i<j):FB L[i] L[j]:=Gy.mp h i j hi G B
def A6(L:List Pr):Prop:=L.length<64/\∀p∈L,p.2≠[]/\p.2.length<=4
abbrev wk(w:List Int):List AI:=w.map Ed
def RT(w:List Int):(wk w).map kV=w.map V.int:=by rw[Jy];rfl
def P2(kvs:List (List AI×V))(ws:List (List Int)):Prop:=∀u:List Int,(AX kvs (wk u)).isSome=decide (∃w∈ws,u<+:w/\u.length<w.length)
def gI[DecidableEq κ](kvs:List (κ×V))(k B:κ)(v:V):(AX (A4 kvs k v) B).isSome=(decide (B=k) ||(AX kvs B).isSome):=by
 rw[N4]
 by_cases h:B=k
 .rw[D9 h,Ab h];rfl
 .rw[D8 h,BB h,LI]
theorem FX:∀{u v:List Int},wk u=wk v->u=v
 |[],[],_=>rfl
 |[],_::_,h=>nomatch h
 |_::_,[],h=>nomatch h
 |x::u,y::v,h=>by
  let h':(Ed x:AI)::wk u=Ed y::wk v:=h;injection h' with a b
  rw[Lm a,FX b]
def R7(kvs:List (List AI×V))(ws:List (List Int))(w:List Int)(n:Nat):Prop :=
 ∀u:List Int,(AX kvs (wk u)).isSome=decide ((∃x∈ws,u<+:x/\u.length<x.length)\/(u<+:w/\u.length<n))
theorem R7.put{w:List Int}{n:Nat}(h:R7 kvs ws w n)(hn:n<=w.length){v:V}:R7 (A4 kvs (wk (w.take n)) v) ws w (n+1):=by
 intro u;rw[gI,h u];let e:(wk u=wk (w.take n))↔(u=w.take n):={FX,λz=>by rw[z]};rw[decide_eq_decide.mpr e,<-Bool.decide_or];show decide_eq_decide.mpr {λz=>?_,λz=>?_}
 .rcases z with z|z|⟨z1,z2⟩
  .subst z;show .inr {Dm _ _,by rw[Ga];lia}
  .show .inl z
  .show .inr {z1,()}
 .rcases z with z|⟨z1,z2⟩
  .show .inr (.inl z)
  .by_cases l:u.length<n
   .show .inr (.inr {z1,l})
   .show .inl ?_;let:u.length=n:=by lia
    rw[<-this];show Fz.mp z1
def R7.next{w:List Int}(h:R7 kvs ws w w.length)(B:List Int):R7 kvs (ws++[w]) B 0:=by
 intro u;rw[h u];show decide_eq_decide.mpr {λz=>?_,λz=>?_}
 .rcases z with⟨x,hx,z⟩|z
  .show .inl {x,Gs _ hx,z}
  .show .inl {w,Jr _ (Jj.mpr W),z}
 .rcases z with⟨x,hx,z⟩|⟨_,z⟩
  .rcases Jw.mp hx with hx|hx
   .show .inl {x,hx,z}
   .rw[Jj.mp hx]at z;show .inr z
  .show D0 z (G9 _)
def R7.nil(w:List Int):R7 [] [] w 0:=by
 intro u;rw[zI];show(BB ?_).symm;rintro(⟨x,hx,_⟩|⟨_,z⟩)
 .show nomatch hx
 .show D0 z (G9 _)
def R7.done{w:List Int}(h:R7 kvs ws w 0):P2 kvs ws:=by
 intro u;rw[h u];show decide_eq_decide.mpr {λz=>?_,λz=>.inl z};rcases z with z|⟨_,z⟩
 .show z
 .show D0 z (G9 _)
theorem pC{α:Type}{f:α->β}{m n:List β}(h:m.Perm n):∀{l:List α},l.map f=n->∃B:List α,B.Perm l/\B.map f=m:=by
 induction h with
 |nil=>intro l e;show{l,.refl _,e}
 |cons x _ ih =>
  intro l e;cases l with
  |nil=>cases e
  |cons a l =>
   rw[Jm]at e;injection e with e1 e2
   let{B,p,q}:=ih e2;show{a::B,p.cons a,by rw[Jm,e1,q]}
 |swap x y l0 =>
  intro l e
  match l,e with
  |a::b::r,e =>
   rw[Jm,Jm]at e;injection e with e1 e2
   injection e2 with e2 e3
   show{b::a::r,.swap _ _ _,by rw[Jm,Jm,e1,e2,e3]}
 |trans _ _ J G =>
  intro l e;let{l2,p2,O}:=G e;let{l1,Z,Y}:=J O;show{l1,Z.trans p2,Y}
structure PK3 where
 v:V
 tw:Addr
 p:Pr
def PK3.At(H:Hp)(e:PK3):Prop:=∃t,e.v=.ref t/\H t=some (.tup [.int e.p.1,.ref e.tw])/\H e.tw=some (.tup (e.p.2.map V.int))
theorem cJ :∀{vs:List V}{L:List Pr},FK H vs L->∃M:List PK3,M.map (·.v)=vs/\M.map (·.p)=L/\∀e∈M,e.At H
 |_,_,.nil=>{[],W,W,λ_ h=>nomatch h}
 |_,_,.cons {t,tw,a,b,c} r=>by
  let{M,e1,e2,e3}:=cJ r;exists{_,tw,_}::M,by rw[Jm,e1],by rw[Jm,e2],λe B=>?_;rcases Gd.mp B with z|z
  .rw[z];show{t,a,b,c}
  .show e3 e z
def PK3.k(e:PK3):BM:=(e.v,e.tw,e.p.2)
def Rt[DecidableEq κ](kvs:List (κ×V))(h:List (κ×V)):List (κ×V):=h.foldl (λa z=>A4 a z.1 z.2) kvs
theorem Po[DecidableEq κ] :∀(B kvs:List (κ×V)),(∀z∈B,z.1≠k)->AX (Rt kvs B) k=AX kvs k
 |[],kvs,_=>rfl
 |z::r,kvs,h=>by
  show AX (Rt (A4 kvs z.1 z.2) r) k=_;rw[Po r _ λy G=>h y (Jg _ G),N4,D8 (λe=>h z Je e.symm)]
theorem SA[DecidableEq κ]  :∀(B kvs:List (κ×V)),(B.map (·.1)).Nodup->(k,v)∈B->AX (Rt kvs B) k=some v
 |[],kvs,_,h=>nomatch h
 |z::r,kvs,nd,h=>by
  show AX (Rt (A4 kvs z.1 z.2) r) k=_;rw[Jm,Fe]at nd;rcases Gd.mp h with e|h
  .subst e;rw[Po r _ λy J e=>nd.1 (by
    let G:y.1∈r.map (·.1):=Jq.mpr {y,J,W};rw[e]at G;show G),N4,D9 W]
  .show SA r _ nd.2 h
theorem OG{D:Addr}:∀(B kvs:List (AI×V)),kvs.length+B.length<Cb->DFill H D (.dK kvs) (B.map λz=>(kV z.1,z.2)) (.dK (Rt kvs B))
 |[],kvs,_=>.nil
 |z::r,kvs,h=>by
  rw[Ju]at h;let l:=X8 kvs z.1 z.2;let d:=DPut.k (H:=upd H D (.dK kvs)) (a:=D) (k:=z.1) (v:=z.2) Zw ();rw[Oe]at d;show .cons d (OG r (A4 kvs z.1 z.2) ())
theorem YO{D:Addr}(G:H D=none):∀(B:List (Addr×List AI×V))(kvs:List (List AI×V)),kvs.length+B.length<Cb->(∀z∈B,H z.1=some (.tup (z.2.1.map kV))) ->
  DFill H D (.dT kvs) (B.map λz=>(.ref z.1,z.2.2)) (.dT (Rt kvs (B.map λz=>(z.2.1,z.2.2))))
 |[],kvs,_,_=>.nil
 |z::r,kvs,h,ht=>by
  rw[Ju]at h;let l:=X8 kvs z.2.1 z.2.2;let e:=ht z Je;let d:=DPut.t (H:=upd H D (.dT kvs)) (a:=D) (b:=z.1) (k:=z.2.1) (v:=z.2.2) Zw (by rwa[Zq (Z8 e G)]) ();rw[Oe]at d;show .cons d (YO G r (A4 kvs z.2.1 z.2.2) () λy J=>ht y (Jg _ J))
def yY(H:Hp)(h:List (AI×V))(S:List Pr):Prop:=(∀p∈S,∃t,AX h (Ed p.1)=some (.ref t)/\H t=some (.tup (p.2.map V.int)))/\∀s:Int,(∀p∈S,p.1≠s)->AX h (Ed s)=none
def qM(h:List (List AI×V))(S:List Pr):Prop:=(∀p∈S,AX h (wk p.2)=some (.int p.1))/\∀u:List Int,(∀p∈S,p.2≠u)->AX h (wk u)=none
def Qt(ns:List Int)(S:List Pr):Prop:=ns.Pairwise (· < ·)/\∀n:Int,n∈ns↔∃p∈S,(p.2.length:Int)=n
structure CodeIn(H:Hp)(tp d1 d2 d3 d4:Addr)(S:List Pr):Prop where
 pr:∃vs,H tp=some (.tup vs)/\FK H vs S
 wb:∃k1,H d1=some (.dK k1)/\yY H k1 S
 sb:∃k2,H d2=some (.dT k2)/\qM k2 S
 bg:∃k3,H d3=some (.dT k3)/\P2 k3 (S.map (·.2))
 sz:∃ns:List Int,H d4=some (.tup (ns.map V.int))/\Qt ns S
def Tq(C:Addr)(H:Hp)(x:Addr)(S:List Pr):Prop:=∃dx h O J G B,H x=some (.ins C dx [("pairs",.ref h),("words_by_sign",.ref O),("signs_by_word",.ref J),("begun",.ref G),("word_sizes",.ref B)])/\CodeIn H h O J G B S
def IA(S:List Pr):Prop:=S.Pairwise λa b=>HT.lexLt a.2 b.2=true
section
def rLen(K:Cq):List V->Hp->VK->Prop:=λxs H Q=>∃x n,xs=[x]/\LenV K x H n/\Q (.int n) H
def Yi(h:X.K=K):W5 X (.builtin "len") (rLen K):=by subst h;show Znl
def yW(h:X.K=K):IxR X (rIxT K):=by subst h;show Zo3
end
end L2
variable{S L S1:List L2.Pr}
namespace L2
open PySem PySem.W PyProof.Rows HT
theorem NE:∀{us:List Ca}{ns:List Int},E9 us ns->AF (ns.map V.int) us:=by
 intro _ _ B;cases B with
 |nil=>
  show .nil
 |cons n t h=>
  show .cons {t,W} (NE h)
theorem aB:∀{us:List Ca}{ns:List Int},us.length=ns.length->(∀(j:Nat)(v:Ca),us[j]?=some v->∃n t,ns[j]?=some n/\v=Mf n t)->E9 us ns
 |[],[],_,_=>.nil
 |u::us,n::ns,hl,h=>by
  let{m,t,e,rfl}:=h 0 u W;cases e;show .cons _ t (aB (by simpa using hl) λj v e=>h (j+1) v e)
section
def ZK:List V->Hp->VK->Prop:=λxs H Q=>∃(d:Addr)(kvs:List (AI×V))(ns:List Int),xs=[.ref d]/\H d=some (.dK kvs)/\kvs.map (·.1)=ns.map Ed/\kvs.length<64 /\
 ∀(D:Addr)(h:List Int),H D=none->h.Perm ns->h.Pairwise (·<=·)->Q (.ref D) (upd H D (.lst (h.map V.int)))
theorem zZ(hc:X.calm=true):W5 X (.builtin "sorted") ZK:=by
 intro pq s σ H xs us Q I r h;let{d,kvs,ns,rfl,ed,ek,hl,q}:=h;let{u,rfl,rx}:=P3 r;cases rx;let{hz,lo,vs,J,a0}:=MD I.hok ed;let{ep,da}:=a0.dictAt;let hv:=Paired.length J;show Calls.call_function_entry kind_sorted plain_sorted entry_sorted (args_sorted1 _) ?_;unfold Builtin.«sorted»;show D3 (m:=checkCount "sorted" 1 1 _) (D4 ?_);show D3 (kdu_collect (A:=X.A.in1) (kdl_dict (knd:=Yo X.prog X.w) (kvs:=vs) (ep:=ep) lo) (I.ok.hd hc) da (by rw[C3];lia) λh' tk acc hk B=>?_);let Z:acc.toList.length=vs.length:=by rw[Jl];show B.1
 let a4:kvs.length=ns.length:=by have:=congrArg Hf ek;simpa using this
 show D3 (Me ?_ (by rw[Z,C3];lia));let hI:E9 acc.toList ns:=aB () λj v e=>by
  let{k,x,e1,e2}:=B.2 j v (by rwa[<-Jt]);let hj:j<vs.length:=(Jd.mp e1).1;let hr:=L2.Paired.at J (by lia:j<kvs.length) hj;let e3:=congrArg (·[j]?) ek;simp only[Gi,Jb (by lia:j<kvs.length),Jb (by lia:j<ns.length),F9,JQ]at e3;rw[Jb hj]at e1;let e4:=BG e1;rw[hr.1,e4]at e3;subst e3;rcases Yc (show Pe (Ed ns[j]) v=true from e2)with⟨i,t,e5,rfl⟩|⟨y,t,e5,rfl⟩
  .cases e5;show{_,t,Jb (by lia:j<ns.length),W}
  .cases e5
 let G:(h'.push (Ep "list" acc.toList.toArray 0)).get? h'.objs.size=some (Ep "list" acc.toList.toArray 0):=D6 _ W;show D3 (Cz (Ea (s:={s with heap:=h'.push (Ep "list" acc.toList.toArray 0),toks:=tk}) slot_list_sort {_,G,rfl} QT (list_sort_tree G hI () λout O a1 a2 a3=>{_,rfl,?_}) (args_list_sort _)));let{e,he}:=sortedHeap_at (vs:=acc.toList) (out:=out) G;let I1:AB X pq σ H {s with heap:=h',toks:=tk}:=I.kept hk;show D4 {_,W,.ref h'.objs.size,_,I1.laid (t':=tk) (λb o eb=>?_) (Jk _) (show Y9 X.prog X.w _ _ _ (.lst (O.map V.int))from{?_,out.toList,e,NE a1,he}),W,q _ O (I1.hok.fresh (Jk _)) a2 a3}
 .let hb:h'.get? b=some o:=eb;let Y:=D7 hb;rw[sortedHeap_old (Gk Y) (by rw[GR];show B8 Y)];show D5 _ hb
 .rw[Ja,a2.length_eq,C3];lia
end
end L2
namespace L2
open PySem PySem.Spec PyProof.Rows
theorem yP(nd:ns.Nodup)(h:∀n,n∈ns↔n∈S.map λp=>(p.2.length:Int))(p:ns'.Perm ns)(G:ns'.Pairwise (·<=·)):Qt ns' S:=by
 exists ?_,λn=>?_
 .let B:ns'.Nodup:=p.nodup_iff.mpr nd;show(List.pairwise_and_iff.mpr {G,B}).imp λ{a b}z=>by
   let:=z.1;let:=z.2;lia
 .rw[p.mem_iff,h,Jq]
theorem zF{b s:Int}(hs:1<=s){n:Nat}(hn:s*n<=255+s):((C2 n).map λk:Nat=>(b+s*(k:Int)) % 256).Nodup:=by
 show Jz.mpr ?_;show Gy.mpr λi j hi h B=>?_;simp only[Bt]at hi h;simp only[List.getElem_range];intro e;let h2:s*((j:Int)-(i:Int))=s*(j:Int)-s*(i:Int):=ZR _ _ _;let h3:0<s*((j:Int)-(i:Int)):=Int.mul_pos () ();let h4:s*((j:Int)-(i:Int))<=s*((n:Int)-1):=L7 () ();let h5:s*((n:Int)-1)<=255:=by rw[ZR,WD];lia
 rw[h2]at h3 h4;generalize s*(j:Int)=X at *
 generalize s*(i:Int)=Y at *
 lia
def PF(ws:List (List Int)):Prop:=ws.Pairwise λa b=>¬ a<+:b/\¬ b<+:a
def WOk(ws:List (List Int)):Prop:=PF ws/\∀w∈ws,w≠[]/\w.length<=4
def PF.sub(h:PF b)(s:a.Sublist b):PF a:=Lx s h
def WOk.sub(h:WOk b)(s:a.Sublist b):WOk a:={h.1.sub s,λw hw=>h.2 w (s.subset hw)}
def Tb{w:List Int}(h:a≠b):¬ (w++[a])<+:(w++[b]):=λe=>by
 let:=mU e (by simp);simp at this;show h this
def rA{bs:List Int}(nd:bs.Nodup):WOk (bs.map λb=>[b]):=by
 exists Jz.mpr (nd.imp λz=>{Tb (w:=[]) z,Tb (w:=[]) z.symm}),λw hw=>?_;let{b,_,rfl}:=Jq.mp hw;show{by simp,by simp}
theorem mO{a c:List (List Int)}{w:List Int}{bs:List Int}(nd:bs.Nodup)(h:WOk (a++w::c))(hw:w.length<4):WOk (a++(bs.map λb=>w++[b])++c):=by
 let{h1,h2}:=h;let O:∀x,(¬ x<+:w/\¬ w<+:x)->∀b,¬ x<+:w++[b]/\¬ (w++[b])<+:x:=λx hx b=>by
  exists λz=>?_,λz=>hx.2 ((Gj _ _).trans z);rcases List.prefix_concat_iff.mp z with e|e
  .show hx.2 (e ▸ Gj _ _)
  .show hx.1 e
 unfold PF at h1;rw[Dg]at h1;let{Z,G,J}:=h1;rw[Bo]at G;let{pw,Y}:=G;exists ?_,λx hx=>?_
 .unfold PF;rw[Jf,Dg];exists Z,?_,λx hx y B=>?_
  .rw[Dg];exists Jz.mpr (nd.imp λz=>{Tb z,Tb z.symm}),Y,λx hx y B=>?_;let{b,_,rfl}:=Jq.mp hx;let:=O y {(pw y B).2,(pw y B).1} b;show{this.2,this.1}
  .rcases Jw.mp B with B|B
   .let⟨b,_,rfl⟩:=Jq.mp B;show O x (J x hx w Je) b
   .show J x hx y (Jg _ B)
 .rcases Jw.mp hx with hx|hx
  .rcases Jw.mp hx with hx|hx
   .show h2 x (Gs _ hx)
   .let⟨b,_,rfl⟩:=Jq.mp hx;show{by simp,by rw[Jc,G0];lia}
  .show h2 x (Jr _ (Jg _ hx))
theorem UQ:∀(h:List Int)(ws:List (List Int)),((h.zip ws).map (·.1)).Sublist h
 |[],_=>by simp
 |_::_,[]=>by simp
 |a::r,b::t=>by rw[F5,Jm];show(UQ r t).cons₂ a
theorem WE:∀(h:List Int)(ws:List (List Int)),((h.zip ws).map (·.2)).Sublist ws
 |[],_=>by simp
 |_::_,[]=>by simp
 |a::r,b::t=>by rw[F5,Jm];show(WE r t).cons₂ b
def WOk.free(h:WOk ws){B:List Int}(nd:B.Nodup):AU (B.zip ws):=by
 let h1:((B.zip ws).map (·.1)).Nodup:=nd.sublist (UQ B ws);let h2:PF ((B.zip ws).map (·.2)):=h.1.sub (WE B ws);show(Jz.mp h1).and (Jz.mp h2) |>.imp λz=>{z.1,z.2.1,z.2.2}
def AU.rev(h:AU L):AU L.reverse:=List.pairwise_reverse.mpr (h.imp λz=>{z.1.symm,z.2.2,z.2.1})
def Tq.same(h:Tq C H x S)(s:AL H H'):Tq C H' x S:=by
 let{dx,G,d1,d2,d3,d4,ex,{{vs,a1,a2},{Z,b1,B},{Y,c1,c2},{O,f1,f2},{J,g1,g2}}}:=h;show{dx,G,d1,d2,d3,d4,s _ _ ex,{vs,s _ _ a1,FK.tk a2 s.tk},{Z,s _ _ b1,λp hp=>?_,B.2},{Y,s _ _ c1,c2},{O,s _ _ f1,f2},{J,s _ _ g1,g2}};let{t,u,v}:=B.1 p hp;show{t,u,s _ _ v}
def WR(C:Addr):Sp:=λvs H Q _=>∃(x t:Addr)(S:List Pr)(u:List Int),vs=[.ref x,.ref t]/\Tq C H x S/\H t=some (.tup (u.map V.int))/\(∀p∈S,p.2=u->Q (.int p.1) H)/\((∀p∈S,p.2≠u)->Q .non H)
def Zsk(h:AU S){p q:Pr}(Y:p∈S)(O:q∈S){l:List Int}(J:p.2<+:l)(G:q.2<+:l):p=q:=by
 let{i,hi,rfl}:=Ge Y;let{j,B,rfl}:=Ge O;let z:=Lv J G;rcases Nat.lt_trichotomy i j with l|l|l
 .let a:=h.get hi B l;rcases z with z|z
  .show D0 z a.2.1
  .show D0 z a.2.2
 .subst l;rfl
 .let a:=h.get B hi l;rcases z with z|z
  .show D0 z a.2.2
  .show D0 z a.2.1
def AU.perm(h:AU L)(p:S.Perm L):AU S:=(p.pairwise_iff (λ{a b}z=>{z.1.symm,z.2.2,z.2.1})).mpr h
def A6.perm(h:A6 L)(p:S.Perm L):A6 S:={by rw[p.length_eq];show h.1,λx hx=>h.2 x (p.mem_iff.mp hx)}
def Zu(T:List Pr):List Int:=(T.map λq:Pr=>q.2).flatten
def Zi(T:List Pr):List Int:=T.map λq:Pr=>q.1
def Wd(p:Pr)(T:List Pr):Zu (p::T)=p.2++Zu T:=rfl
def row_app(A B:List Pr):Zu (A++B)=Zu A++Zu B:=by unfold Zu;rw[Ji,List.flatten_append]
theorem SY(h:A6 S):∀{T:List Pr},(∀p∈T,p∈S)->(Zu T).length<=4*T.length
 |[],_=>by simp[Zu]
 |p::T,m=>by
  let a:=SY h (T:=T) λq B=>m q (Jg _ B);let b:=(h.2 p (m p Je)).2;rw[Wd,Jc,Ju];lia
def sR{T:List Pr}{i:Nat}(hi:i<T.length):Zu (T.take (i+1))=Zu (T.take i)++T[i].2:=by
 rw[Jh hi,row_app,Wd];simp[Zu]
theorem nG(T:List Pr)(i:Nat):(Zu (T.take i)).length<=(Zu T).length:=by
 let:Zu T=Zu (T.take i)++Zu (T.drop i):=by rw[<-row_app,J8]
 rw[this,Jc];lia
section
def RC(K:Cq):List V->Hp->VK->Prop:=λxs H Q=>∃p ys,xs=[.ref p]/\(Ad K H p ys\/A2 K H p ys)/\∀l,H l=none->Q (.ref l) (upd H l (.lst ys))
def JJ(h:X.K=K):W5 X (.type "list") (RC K):=by subst h;show jL
def VW(K:Cq):List V->Hp->VK->Prop:=λxs H Q=>∃p ys,xs=[.ref p]/\((Ad K H p ys/\∀l,H l=none->Q (.ref l) (upd H l (.tup ys)))\/(A2 K H p ys/\Q (.ref p) H))
def OH(h:X.K=K):W5 X (.type "tuple") (VW K):=by subst h;show S8
def rIsi(K:Cq):List V->Hp->VK->Prop:=λxs H Q=>∃x T t b,xs=[x,.ty T]/\TyOf K H x t/\Hu K t (.type T)=some b/\Q (.bl b) H
def Iu(h:X.K=K):W5 X (.builtin "isinstance") (rIsi K):=by subst h;show xT
end
abbrev En:=Nat×Option Int
variable{R:List L2.En}
inductive A9(S:List Pr)(ns:List Int):List En->Nat->Prop where
 |nil:A9 S ns [] 0
 |lost {R:List En} {pl:Nat}:A9 S ns R pl->pl<ns.length->(∀p∈S,¬ p.2<+:ns.drop pl)->A9 S ns (R++[(pl,none)]) (pl+1)
 |word {R:List En} {pl:Nat} {p:Pr}:A9 S ns R pl->p∈S->p.2<+:ns.drop pl->p.2≠[]->A9 S ns (R++[(pl,some p.1)]) (pl+p.2.length)
theorem PQ{w:List Int}(h:w<+:ns.drop pl)(hw:w≠[]):pl<ns.length/\pl+w.length<=ns.length:=by
 let a:=h.length_le;let b:=Gh.mpr hw;rw[Gf]at a;lia
theorem A9.le(h:A9 S ns R pl):pl<=ns.length:=by
 cases h with
 |nil=>show J9 _
 |lost _ h _=>show h
 |word _ _ h1 h2=>show(PQ h1 h2).2
theorem A9.len(h:A9 S ns R pl):R.length<=pl:=by
 induction h with
 |nil=>show Jk _
 |lost _ _ _ B=>rw[Jc,G0];lia
 |word _ _ _ h2 B =>
  let:=Gh.mpr h2;rw[Jc,G0];lia
theorem A9.perm(h:A9 S ns R pl)(p:S.Perm L):A9 L ns R pl:=by
 induction h with
 |nil=>show .nil
 |lost _ h1 h2 B=>show .lost B h1 λq G=>h2 q (p.mem_iff.mpr G)
 |word _ h1 h2 h3 B=>show .word B (p.mem_iff.mp h1) h2 h3
theorem A9.one(fr:AU S){A:List En}{pa:Nat}(h:A9 S ns A pa):∀{B:List En}{O:Nat},A9 S ns B O->A.length=B.length->A=B/\pa=O:=by
 induction h with
 |nil =>
  intro B O Z e;cases Z with
  |nil=>show{W,W}
  |lost=>simp at e
  |word=>simp at e
 |lost _ h1 h2 Y =>
  intro B O Z e;cases Z with
  |nil=>simp at e
  |lost G b2 J =>
   let{rfl,rfl}:=Y G (by simpa using e);show{W,W}
  |word G b2 J b4 =>
   let{rfl,rfl}:=Y G (by simpa using e);show D0 J (h2 _ b2)
 |word _ h1 h2 h3 Y =>
  intro B O Z e;cases Z with
  |nil=>simp at e
  |lost G b2 J =>
   let{rfl,rfl}:=Y G (by simpa using e);show D0 h2 (J _ h1)
  |word G b2 J b4 =>
   let{rfl,rfl}:=Y G (by simpa using e);obtain rfl:=Zsk fr h1 b2 h2 J;show{W,W}
theorem A9.cut(h:A9 S ns B pb):∀n,n<B.length->∃G,A9 S ns (B.take n) G/\G<ns.length:=by
 induction h with
 |nil=>intro n hn;show D0 hn (G9 _)
 | @lost R pl g h1 h2 ih =>
  intro n hn;rw[Jc,G0]at hn
  by_cases z:n<R.length
  .let⟨G,a,b⟩:=ih n z;exists G,by rwa[Bu ()],b
  .let:n=R.length:=by lia
   subst this;exists pl,by rwa[Be],h1
 | @word R pl p g h1 h2 h3 ih =>
  intro n hn;rw[Jc,G0]at hn
  by_cases z:n<R.length
  .let⟨G,a,b⟩:=ih n z;exists G,by rwa[Bu ()],b
  .let:n=R.length:=by lia
   subst this;exists pl,by rwa[Be],(PQ h2 h3).1
theorem A9.uniq(J:AU S){A B:List En}{Y O:Nat}(G:A9 S ns A Y)(ea:ns.length<=Y)(h:A9 S ns B O)(eb:ns.length<=O):A=B:=by
 rcases Nat.lt_trichotomy A.length B.length with l|l|l
 .let⟨Z,a,b⟩:=h.cut _ l;let{_,e}:=G.one J a (by rw[Ga];lia);lia
 .show(G.one J h l).1
 .let⟨Z,a,b⟩:=G.cut _ l;let{_,e}:=h.one J a (by rw[Ga];lia);lia
def Told(S:List Pr)(ns:List Int)(R:List En):Prop:=∃pl,A9 S ns R pl/\ns.length<=pl
def Told.uniq(h:AU S){A B:List En}(a:Told S ns A)(b:Told S ns B):A=B:=by
 let{pa,Y,O}:=a;let{Z,J,G}:=b;show Y.uniq h O J G
def Told.perm(h:Told S ns R)(p:S.Perm L):Told L ns R:=by
 let{pl,a,b}:=h;show{pl,a.perm p,b}
theorem Told.len(h:Told S ns R):R.length<=ns.length:=by
 let{pl,a,b}:=h;let:=a.le;let:=a.len;lia
def UM(h:X.K=K)(B:X.calm=true):W5 X (.builtin "any") (λxs H Q=>∃(p:Addr)(bs:List Bool),xs=[.ref p]/\Ad K H p (bs.map V.bl)/\Q (.bl (bs.any id)) H):=by subst h;show Zno B
section
variable{M:DC}{Ex:Ca->Cc->Prop} 
structure Noted(fs:List Addr)(ea T:Addr)(oe:Obj)(fl:Ca)(h h':Heap):Prop where
 keep:∀b o,b∉fs->b≠ea->h.get? b=some o->h'.get? b=some o
 slot:∀b o,b≠ea->h.get? b=some o->∃sl,h'.get? b=some {o with slots:=sl}
 new:h.objs.size<=T
 exc:h'.get? ea=some (oe.mapFields (·.setIfInBounds 1 (.ref T)))
 tb:∃ob ts,h'.get? T=some ob/\ob.data=.fields ts/\ts[3]?=some fl
 ne:T≠ea
def XY{dC:Heap}{l:List Env}{vs:Array Ca}(J:h.FunFrames dC l)(O:h.get? ea=some oe)(od:oe.data=.fields vs):ea∉CK l:=λz=>by
 let{_,o,G,B}:=J.mem z;rw[O]at G;cases G;show B vs od
def QY{dC:Heap}{env:Env}{dD:List Env}{L:Addr}{vs:Array Ca}{head:Ca}{J:Bool}{Q:Unit->Cc->Prop}(fr:A.frames=some (env::dD))(Z:s.heap.FunFrames dC (env::dD))(ef:env.frame=some L)(eo:s.heap.get? ea=some oe)(od:oe.data=.fields vs)(sz:1<vs.size)(k:∀h' T,Noted (CK (env::dD)) ea T oe (Hh L) s.heap h'->Q ⟨⟩ {s with heap:=h'}) :
  Cg M A (do let a <-frameOf env;let pl <-entryPlaceOf L J;let b <-O6 head a .none (Hh L) .none pl;setField (.ref ea) 1 b) Q Ex s:=by
 let nf:ea∉CK (env::dD):=XY Z eo od;show D3 (wpAny_frameOf_fun fr Z ef λB h=>?_);show D3 (wpAny_entryPlaceOf λpl O=>?_);unfold O6 newFields;show D3 (Ei ?_ (O.sizeOk5 _ _ _ _ _));let e1:B.get? ea=some oe:=(h.2.1 ea nf).trans eo;generalize hO:({cls:=.type "traceback",dict:=none,data:=.fields ([head,.ref L,.none,Hh L,.none]++(if pl.isEmpty then Co 6 Ca.none else pl)).toArray}:Obj)=tbo;let e2:(B.push tbo).get? ea=some oe:=D5 _ e1;let lt:ea<B.objs.size:=D7 e1;let Y:B.objs.size≠ea:=Nat.ne_of_gt lt;show wpAny_setField e2 od sz (k _ B.objs.size ?_)
 let td:tbo.data=.fields ([head,.ref L,.none,Hh L,.none]++(if pl.isEmpty then Co 6 Ca.none else pl)).toArray:=by rw[<-hO]
 let gT:(B.push tbo).get? B.objs.size=some tbo:=D6 B (Kj td);let ed:=Lh od (·.setIfInBounds 1 (Cd B.objs.size));exists λb o hb G q=>?_,λb o G q=>?_,F1 h.1.symm,Ew _ e2 (Kj ed),{tbo,_,?_,td,?_},Y
 .rw[Cv _ _ (Et G)];show D5 _ ((h.2.1 b hb).trans q)
 .let⟨sl,e⟩:=h.2.2 b o q;show{sl,by rw[Cv _ _ (Et G)];show D5 _ e}
 .rw[Cv _ _ (Et Y)];show gT
 .simp
structure Gone(fs:List Addr)(ea:Addr)(T0:Option Addr)(oe:Obj)(vs:Array Ca)(h h':Heap):Prop where
 keep:∀b o,b∉fs->b≠ea->some b≠T0->h.get? b=some o->h'.get? b=some o
 slot:∀b o,b≠ea->some b≠T0->h.get? b=some o->∃sl,h'.get? b=some {o with slots:=sl}
 flow:∃T vs' ob ts,h.objs.size<=T/\h'.get? ea=some {oe with data:=.fields vs'}/\vs'.size=vs.size/\vs'[1]?=some (.ref T)/\h'.get? T=some ob/\ob.data=.fields ts/\ts[3]?=some .none/\T≠ea
def mapF{vs:Array Ca}(od:oe.data=.fields vs)(f:Array Ca->Array Ca):oe.mapFields f={oe with data:=.fields (f vs)}:=by
 let{c,d,h,sl}:=oe;cases od;rfl
def Nv{fs:List Addr}{T:Addr}{vs:Array Ca}{L:Addr}{h0:Heap}{Q:Unit->Cc->Prop}(od:oe.data=.fields vs)(sz:1<vs.size)(h:Noted fs ea T oe (Hh L) h0 s.heap)(k:∀h',Gone fs ea none oe vs h0 h'->Q ⟨⟩ {s with heap:=h'}):Cg M A (FA (.ref ea) none) Q Ex s:=by
 let ex:=h.exc;rw[mapF od]at ex;let{ob,ts,O,Z,h3}:=h.tb;let J:3<ts.size:=(B9.mp h3).1;show bJ ex W (by rw[Fn,D9 sz]) O Z J (k _ ?_);let Y:=Lh Z (·.setIfInBounds 3 Ca.none);let G:∀b o,h0.get? b=some o->T≠b:=λb o q z=>D0 (D7 q) (Dy.mpr (by rw[<-z];show h.new));exists λb o hb B _ q=>?_,λb o B _ q=>?_,T,vs.setIfInBounds 1 (.ref T),_,_,h.new,?_,?_,?_,Ew _ O (Kj Y),Y,?_,h.ne
 .rw[Cv _ _ (G b o q)];show h.keep b o hb B q
 .let⟨sl,e⟩:=h.slot b o B q;show{sl,by rwa[Cv _ _ (G b o q)]}
 .rw[Cv _ _ h.ne];show ex
 .simp
 .rw[Fn,D9 sz]
 .rw[Fn,D9 J]
def vP{dC:Heap}{env:Env}{dD:List Env}{L:Addr}{vs:Array Ca}{Q:Unit->Cc->Prop}(Y:A.frames=some (env::dD))(Z:s.heap.FunFrames dC (env::dD))(G:env.frame=some L)(B:s.heap.get? ea=some oe)(od:oe.data=.fields vs)(h:vs[1]?=some .none)(k:∀h',Gone (CK (env::dD)) ea none oe vs s.heap h'->Q ⟨⟩ {s with heap:=h'}) :
  Cg M A (EG (.ref ea) env) (λ_ J=>Cg M A (FA (.ref ea) none) Q Ex J) Ex s:=by
 let sz:1<vs.size:=(B9.mp h).1;unfold EG;simp only[G];show D3 (Lq B od h ?_);rw[D8 nofun];show QY Y Z G B od sz λh' T O=>Nv (s:={s with heap:=h'}) od sz O λh2 g=>k h2 g
def Nl{dC:Heap}{env:Env}{dD:List Env}{L T0:Addr}{oT:Obj}{vs ts:Array Ca}{Q:Unit->Cc->Prop}(fr:A.frames=some (env::dD))(ff:s.heap.FunFrames dC (env::dD))(ef:env.frame=some L)(eo:s.heap.get? ea=some oe)(od:oe.data=.fields vs)(v1:vs[1]?=some (.ref T0))(J:s.heap.get? T0=some oT)(O:oT.data=.fields ts)(t3:ts[3]?=some .none)(ne:T0≠ea)(k:∀h',Gone (CK (env::dD)) ea (some T0) oe vs s.heap h'->Q ⟨⟩ {s with heap:=h'}) :
  Cg M A (EG (.ref ea) env) (λ_ s2=>Cg M A (FA (.ref ea) none) Q Ex s2) Ex s:=by
 let sz:1<vs.size:=(B9.mp v1).1;unfold EG;simp only[ef];show D3 (Lq eo od v1 ?_);rw[D9 (show(Cd T0 != Ca.none)=true by simp)];show D3 (Lq J O t3 ?_);rw[D8 (show ¬ ((Ca.none==Hh L)=true)by simp[Hh])];show D3 (wpAny_setField J O (B9.mp t3).1 ?_);let h:∀b,b≠T0->(s.heap.update T0 (Li (·.setIfInBounds 3 Ca.none))).get? b=s.heap.get? b:=λb G=>Cv _ _ (Et G);let a4:T0∉CK (env::dD):=XY ff J O;let a3:(s.heap.update T0 (Li (·.setIfInBounds 3 Ca.none))).FunFrames dC (env::dD):=ff.of_keeps λb o G a2=>{o,(h b λz=>by
  rw[z,J]at G;cases G;show a2 ts O).trans G,W}
 show QY (s:={s with heap:=s.heap.update T0 (Li (·.setIfInBounds 3 Ca.none))}) fr a3 ef ((h ea (Et ne)).trans eo) od sz λh' T nt=>Nv (s:={s with heap:=h'}) od sz nt λh2 g=>k h2 ?_;let a0:(s.heap.update T0 (Li (·.setIfInBounds 3 Ca.none))).objs.size=s.heap.objs.size:=Heap.size_after_update ..;let{T1,Y,a1,Z,z1,zr}:=g.flow;exists λb o G B hT q=>g.keep b o G B (by simp) ((h b λz=>hT (by rw[z])).trans q),λb o B hT q=>g.slot b o B (by simp) ((h b λz=>hT (by rw[z])).trans q),T1,Y,a1,Z,by rwa[<-a0],zr
def No{env:Env}{e:Ca}{Q:Unit->Cc->Prop}(h:Cg M A (EG e env) (λ_ B=>Cg M A (FA e none) Q Ex B) Ex s):Cg M A (HY env e) Q Ex s:=by
 unfold HY;show D3 h
end
def Ac(ea C:Addr)(d:Option Addr)(h:Heap):Prop:=∃oe vs,h.get? ea=some oe/\oe.cls=.ref C/\oe.dict=d/\oe.data=.fields vs/\vs.size=6
def Ac.ok(x:Ac ea C d h):Y9 P w H h ea (.ext (Ac ea C d)):=by
 let{oe,vs,e,r}:=id x;exists x,{oe,e},λh1 h2⟨o1,B,e1,G⟩k=>{o1,B,k _ e1,G}
def FE(ea T:Addr)(h:Heap):Prop:=∃oe vs oT ts,h.get? ea=some oe/\oe.data=.fields vs/\vs[1]?=some (.ref T)/\h.get? T=some oT/\oT.data=.fields ts/\ts[3]?=some .none/\T≠ea
def CXE(P:E4)(w:H9):CXT:=λdD H s E e s'=>∃(ea C T:Addr)(d:Option Addr)(H':Hp),e=.ref ea/\s'.os=s.os/\DN s'.gens/\Un (CK dD) [] H H' s.heap s'.heap/\BN P w H' s'.heap /\
 H' ea=some (.ext (Ac ea C d))/\s.heap.objs.size<=ea/\H' T=none/\s.heap.objs.size<=T/\FE ea T s'.heap/\E (.ref C) d H'
section
def AB.gone{d:Option Addr}{vs:Array Ca}(I:AB X pq σ H s)(hx:X.ex=[])(a6:∀b∈CK X.stack,b∈X.fs\/X.s₀.heap.objs.size<=b)(h:H ea=some (.ext (Ac ea C d)))(eo:s.heap.get? ea=some oe)(od:oe.data=.fields vs)(hT:∀T,T0=some T->H T=none/\X.s₀.heap.objs.size<=T)(g:Gone (CK X.stack) ea T0 oe vs s.heap h'):Un X.fs [] X.H₀ H X.s₀.heap h'/\BN X.prog X.w H h':=by
 let u:=I.base;rw[hx]at u;let ub:∀b o,X.s₀.heap.get? b=some o->some b≠T0:=λb o q z=>by
  let:=(hT b z.symm).2;show D0 (D7 q) (Dy.mpr this)
 exists{λb o q n O _=>?_,λb o q n O _=>?_,λb o q n _=>u.free b o q n (by simp),λb o q _=>?_,u.tups,u.frzs,u.tbls},λb o q=>?_
 .let J:=u.free b o q n (by simp);let ne:b≠ea:=λz=>by rw[z,h]at J;cases J
  show g.keep b o (λz=>?_) ne (ub b o q) (u.keep b o q n O (by simp));rcases a6 b z with z|z
  .show O z
  .show D0 (D7 q) (Dy.mpr z)
 .let J:=u.free b o q n (by simp);let ne:b≠ea:=λz=>by rw[z,h]at J;cases J
  let{sl,e}:=u.slot b o q n O (by simp);let{Z,e2}:=g.slot b _ ne (ub b o q) e;show{Z,e2}
 .let⟨o',e⟩:=u.there b o q (by simp)
  by_cases ne:b=ea
  .subst ne;let{_,_,_,_,_,e3,_}:=g.flow;show{_,e3}
  .let⟨sl,e2⟩:=g.slot b o' ne (ub b o q) e;show{_,e2}
 .let G:∀c y,H c=some y->c∉CK X.stack:=λc y r z=>by rw[I.stkFree c z]at r;cases r
  let nT:∀c y,H c=some y->some c≠T0:=λc y r z=>by rw[(hT c z.symm).1]at r;cases r
  by_cases ne:b=ea
  .subst ne;rw[h]at q;cases q;let{{o1,v1,a1,a2,a3,a4,a5},_,_}:=I.hok b _ h;let{T,Y,ob,ts,_,e3,e4,_}:=g.flow;rw[eo]at a1;cases a1;rw[od]at a4;cases a4;show Ac.ok {_,Y,e3,a2,a3,W,by rwa[e4]}
  .show(I.hok b o q).stay (λc v B r=>?_) (λ_ z=>z) λ_ _ z=>z;rcases B with B|B
   .rw[B]at r⊢;show g.keep b v (G b o q) ne (nT b o q) r
   .let a0:c≠ea:=λz=>by rw[z,h]at B;cases B
    show g.keep c v (G c _ B) a0 (nT c _ B) r
end
section
variable{dC:Heap}{dE:Scope}{dD:List Env}{E:XK}
abbrev CV(P:E4)(w:H9)(K:Cq)(mg:Str->Option Ca)(dC:Heap)(N:List Str)(dH:Str)(dE:Scope)(f:Addr)(cd:Ca)(A:Kr)(dD:List Env)(s:Cc)(H:Hp)(E:XK):Cx:=CI (CXE P w) P w K mg dC N dH dE f cd A dD s H E
def gF:∀b∈CK (CV P w K mg dC N dH dE f cd A dD s H E).stack,b∈(CV P w K mg dC N dH dE f cd A dD s H E).fs\/(CV P w K mg dC N dH dE f cd A dD s H E).s₀.heap.objs.size<=b:=λb h=>by
 rcases Gd.mp (show b∈s.heap.objs.size::CK dD from h)with z|z
 .show .inr (F1 z.symm)
 .show .inl z
def Lies(ea:Addr)(T0:Option Addr)(h:Heap):Prop:=match T0 with
 |none=>∃oe vs,h.get? ea=some oe/\oe.data=.fields vs/\vs[1]?=some .none
 |some T=>FE ea T h
theorem cW(I:AB (CV P w K mg dC N dH dE f cd A dD s H E) pq σ H2 s2)(B:H2 ea=some (.ext (Ac ea C d)))(O:s.heap.objs.size<=ea)(hT:∀T,T0=some T->H2 T=none/\s.heap.objs.size<=T)(fl:Lies ea T0 s2.heap)(q:E (.ref C) d H2):(CV P w K mg dC N dH dE f cd A dD s H E).xe (.ref ea) s2:=by
 let fin:∀(oe:Obj)(vs:Array Ca)(h':Heap),s2.heap.get? ea=some oe->oe.data=.fields vs->Gone (CK (CV P w K mg dC N dH dE f cd A dD s H E).stack) ea T0 oe vs s2.heap h'->CXE P w dD H s E (.ref ea) {s2 with heap:=h'}:=λoe vs h' h od g=>by
  let{un,Y}:=I.gone W gF B h od hT g;let{T,G,ob,ts,Z,z2,z3,z4,z5,z6,z7,z8}:=g.flow;show{ea,C,T,d,H2,W,I.os,I.bare,un,Y,B,O,I.hok.fresh Z,Js I.sz Z,{_,G,ob,ts,z2,W,z4,z5,z6,z7,z8},q}
 show Cg (Cj P w) _ (HY _ _) _ _ _;cases T0 with
 |none =>
  let{oe,vs,h,od,J}:=fl;show No (vP (dC:=dC) I.ok.frames I.stack W h od J λh' g=>fin oe vs h' h od g)
 |some T =>
  let{oe,vs,oT,ts,h,od,J,eT,dT,t3,ne}:=fl;show No (Nl (dC:=dC) I.ok.frames I.stack W h od J eT dT t3 ne λh' g=>fin oe vs h' h od g)
end
def CalE(P:E4)(w:H9)(K:Cq)(mg:Str->Option Ca)(dC:Heap)(x:Str)(k:Nat)(ps:List Str)(sp:Sp):Prop :=
 ∃f fd,AK P w K mg dC (CXE P w) k f fd ps sp/\mg x=some (.ref f)/\DW K (.ref f)=true/\Ud K fd ps []
section
variable{dC:Heap}
def AY.okE(F:AY K x dH st f fd)(S:AD N ps (Zf st))(len:∀vs H Q E,sp vs H Q E->vs.length=ps.length)(hbody:∀(cdv:Ca)(A:Kr)(dD:List Env)(s:Cc)(H:Hp)(vs:List V)(Q:VK)(E:XK),AG k (A.deeper (Ho dH (Zf st) s.heap.objs.size f cdv))->sp vs H Q E ->
   ∃t,PSs (CV P w K mg dC N dH (Zf st) f cdv A dD s H E) (Xc st) t/\t {nx:=λ_ H'=>Q .non H',rt:=Q} (start N vs) H):AK P w K mg dC (CXE P w) (k+1) f fd ps sp:=by
 let{oc,od,kV,doc,pm,an,cdv,ct,G,rfl,lk,B}:=F.ex;show NU lk B S len λA dD s H vs Q E J h=>hbody cdv A dD s H vs Q E J h
theorem AK.calm(F:AK P w K mg dC (CXE P w) k f fd ps sp)(h:∀vs H Q E,sp' vs H Q E->sp vs H Q E0):AK P w K mg dC A7 k f fd ps sp':=by
 exists λvs H Q E q=>F.len vs H Q E0 (h _ _ _ _ q),λA dD s H args us vs Q E J O Y G hs=>?_;show Kg (F.run A dD s H args us vs Q E0 J O Y G (h _ _ _ _ hs)) λr s' B=>?_;cases r with
 |ok Z=>cases Z<;>show B
 |error e =>
  let{_,_,_,_,_,_,_,_,_,_,_,_,_,_,_,z}:=B;show z.elim
end
end L2
variable{R:List L2.En}
namespace L2
open PySem PySem.Spec PyProof.Rows PySem.W
abbrev veB:List Ca:=[.type "ValueError",.type "Exception",.type "BaseException",.type "object"]
def excI(K:Frag)(C fI:Addr):Bool:=match K.lookup C with
 |some {.type "type",_,.cls cd,sl}=>(match cd.mro,sl.toList with
  |.ref C'::bm,[_,_,_,_,some (.builtin n),_]=>C'==C&&(n == "ValueError.__new__" && (!cd.hasDel&&(tailIn K veB bm&&(nsOkIn K cd.ns&&cd.hasDict))))
  |_,_=>false)
 |_=>false
def S6(K:Frag)(C:Addr):Option (Option Ca):=match K.lookup C with
 |some {_,_,.cls cd,_}=>nsIn K cd.ns "__init__"
 |_=>none
def ExcA(h:Heap)(C:Addr)(o:Option (Option Ca)):Prop:=∃J N nm q bs O sub ab B dd k0 k1 k2 Z Y G,h.get? C=some (excClassObj nm q C N bs J true O sub ab B dd k0 k1 k2 Z Y "ValueError.__new__")/\h.Ns N G/\(∀z,o=some z->G "__init__"=z)/\OwnTail h veB J
def ExcI(h:Heap)(C fI:Addr):Prop:=∃J N nm q bs O sub ab B dd k0 k1 k2 Z Y G,h.get? C=some (excClassObj nm q C N bs J true O sub ab B dd k0 k1 k2 Z Y "ValueError.__new__")/\h.Ns N G/\G "__init__"=some (.ref fI)/\OwnTail h veB J
def qN{K:Frag}{N:Addr}{n:Str}{v:Ca}(X:K.In h)(G:h.Ns N mg)(e:nsIn K N n=some (some v)):mg n=some v:=by
 let{o,es,ep,J,hd,_,O}:=G;unfold nsIn at e
 split at e
 .rename_i c d Y Z sl q
  let z:=X _ _ q;rw[J]at z;cases z;cases hd
  split at e
  .rename_i y B
   injection e with e
   rw[<-O];unfold nsFind findBy;rwa[<-Mw,B]
  .rename_i B
   split at e<;>cases e
 .cases e
def xM{K:Frag}{N:Addr}{n:Str}(X:K.In h)(G:h.Ns N mg)(e:nsIn K N n=some none):mg n=none:=by
 let{o,es,ep,B,hd,_,J}:=G;unfold nsIn at e
 split at e
 .rename_i c d Y Z sl q
  let z:=X _ _ q;rw[B]at z;cases z;cases hd
  split at e
  .cases e
  .rename_i O
   rw[<-J];unfold nsFind findBy;rw[<-Mw,O];rfl
 .cases e
def T8(X:K.In h)(q:excI K C fI=true):ExcA h C (S6 K C):=by
 unfold excI at q
 split at q
 .rename_i dd cd sl ho
  split at q
  .rename_i C' bm k0 k1 k2 k3 n k5 hm hs
   let J:S6 K C=nsIn K cd.ns "__init__":=by unfold S6;rw[ho]
   simp only[B2,beq_iff_eq,QG]at q;let{rfl,rfl,G,ht,B,O}:=q;let{nm,bs,a0,ns,qn,hd,sn,sub,ab,Z,a1}:=cd;dsimp only at hm G B O J;subst hm G O;let Y:sl=#[k0,k1,k2,k3,some (.builtin "ValueError.__new__"),k5]:=by
    rcases sl with⟨l⟩;simp only at hs;rw[hs]
   subst Y;exists bm,ns,nm,qn,bs,sn,sub,ab,Z,dd,k0,k1,k2,k3,k5,_,X _ _ ho,.of_isNs (MN X B),λz hz=>?_,tail_of_in X ht;rw[J]at hz;cases z with
   |none=>show xM X (.of_isNs (MN X B)) hz
   |some v=>show qN X (.of_isNs (MN X B)) hz
  .cases q
 .cases q
def wX(X:K.In h)(q:excI K C fI=true)(hi:S6 K C=some (some (.ref fI))):ExcI h C fI:=by
 let{bm,N,nm,q,bs,G,sub,ab,B,dd,k0,k1,Z,Y,O,J,cO,cN,cI,T}:=T8 X q;show{bm,N,nm,q,bs,G,sub,ab,B,dd,k0,k1,Z,Y,O,J,cO,cN,cI _ hi,T}
section
variable{g:Array GenState}{d:Drawn}{t:Nat}{os:OsState}
def sL{oI:Obj}{Q:Ld->Cc->Prop}(x:ExcI h C fI)(fo:h.get? fI=some oI)(fc:oI.cls=.type "function")(sz:dG.length<=Cb)(k:∀h',KO h h' (h.objs.size+1) (.ref C) dG->Cg (Cj prog w) A (call (.ref fI) (.ref (h.objs.size+1)::dG)) (λr s'=>r=.none/\Q (.done (.ret (.ref (h.objs.size+1)))) s') E {h',g,d,t,os}) :
  Cg (Cj prog w) A (Builtin.«type.__call__» {.ref C::dG,[]}) Q E {h,g,d,t,os}:=by
 let{bm,N,nm,q,bs,sn,sub,ab,a1,dd,k0,k1,k2,k3,k5,mN,Y,cN,cI,T}:=x;let F:=PySem.F.excBase_ValueError
 repeat (first|wp_step|with_reducible show Ec Y ?_|with_reducible show wpAny_madeBy_exc Y ?_)
 show codeAny_call_builtin_code (He _ F.quiet) (wpAny_check_new_subT F T Y ?_);show codeAny_exc_new_subT F T Y ?_ sz;show Cg _ _ _ _ _ _;generalize J:({cls:=.type "tuple",data:=.seq dG.toArray}:Obj)=o1;generalize B:({cls:=.ref C,data:=.fields #[.ref h.objs.size,.none,.none,.none,.bool false,.none]}:Obj)=o2;let G:∀b o,h.get? b=some o->((h.push o1).push o2).get? b=some o:=λb o e=>D5 _ (D5 _ e);let f1:o1.isFreed=false:=by rw[<-J];rfl
 let f2:o2.isFreed=false:=by rw[<-B];rfl
 let Z:((h.push o1).push o2).get? (h.objs.size+1)=some o2:=by
  let:=D6 (h.push o1) f2;rwa [Kw]at this
 let c2:o2.cls=.ref C:=by rw[<-B]
 let self:(Cd C::bm).contains (.ref C)=true:=by simp
 let O:=G _ _ Y;let a0:=cN.keeps G;let T1:=T.keeps G;unfold K6
 repeat (first|(with_reducible show Ec Z ?_;rw[c2])|(with_reducible show Mp O ?_;rw[self])|wp_step)
 show Cg _ _ (FG (.ref C) _) _ _ _;show wpAny_typeLookup_tail O a0 T1 F.mroIs F.init.lookup ?_;rw[cI];show Cz (D3 ?_);unfold bindSpecial;show D3 (K5 (T:="function") {_,G _ _ fo,fc} ?_);rw[D9 nofun];let made:KO h ((h.push o1).push o2) (h.objs.size+1) (.ref C) dG:={G,L9 (Bg _),h.objs.size,by rw[Z,<-B],L9 (Jk _),by rw[J];show D5 _ (D6 h f1)};show D4 (D3 (BJ (k _ made) (λr s' hr=>?_) λ_ _ z=>z));let{rfl,hQ}:=hr
 wp_walk
 show hQ
def zX{G:Obj}{Q:Ca->Cc->Prop}(x:ExcI h C fI)(J:h.get? fI=some G)(O:G.cls=.type "function")(sz:dG.length<=Cb)(k:∀h',KO h h' (h.objs.size+1) (.ref C) dG->Cg (Cj prog w) (A.under (.builtin "type.__call__" {.ref C::dG,[]})) (call (.ref fI) (.ref (h.objs.size+1)::dG)) (λr s'=>r=.none/\Q (.ref (h.objs.size+1)) s') E {h',g,d,t,os}) :
  Cg (Cj prog w) A (call (.ref C) dG) Q E {h,g,d,t,os}:=by
 let{bm,N,nm,q,bs,sn,sub,ab,Y,dd,k0,k1,k2,k3,k5,mN,B,cN,cI,T}:=id x;let z1:=tc_lookup;let Z:=tc_bind (.ref C);let ty:({h,g,d,t,os}:Cc).TypeIs (.ref C) "type":={_,B,W};show Ka (LP ?_);show Cg _ _ (callAny (.ref C) _) _ _ _
 repeat (any_goals (first|assumption|wp_step|with_reducible show Ec B ?_))
 show{W,?_};show codeAny_call_builtin_at (He _ (by decide +kernel)) entry_typeCall (wpAny_check_type_call_sub B (sL x J O sz k))
end
end L2
namespace L2
open PySem PySem.Spec PyProof.Rows PySem.W PySem.Builtin PySem.Builtin.ObjectAttr
def Ziq(self:Ca):refuseLoop self "__setattr__" veB=pure ⟨⟩:=by kernel_rfl
theorem sZ(self:Ca)(T:OwnTail h veB bm):refuseLoop self "__setattr__" bm=pure ⟨⟩:=by
 induction T with
 |base=>show Ziq self
 |own _ _ _ _ B=>rw[refuseLoop_ref];show B
section
variable{K:Frag}{a:Addr}
def UG{od:Option Obj}{tk:Tok}{v:Ca}{R:EZ->Cc->Prop}(X:K.In s.heap)(q:excI K C fI=true)(I:InstAt s.heap a ox C od)(O:Mm K C (.type "object")=some true)(J:C5 K (.ref C) name=some none)(k:Cg (Cj prog w) A.in1 (storeInOwnDict (.ref a) (.ref C) (.str name tk) name v false) (λfin s'=>match fin with|.done f=>R (.ok f) s'|.again G=>G.quiet=true/\K7 (Cj prog w) A G R s') (λe s'=>R (.error e) s') s) :
  K7 (Cj prog w) A (.call (.builtin "object.__setattr__") {[.ref a,.str name tk,v],[]}) R s:=by
 let h:=PySem.F.store_object;let sub:Looks (Cj prog w) s.heap (K6 (.ref a) (.type "object")) true:=I.type.andThen (GF X O);show Kv h.slot.plain h.entry (@check_slot (Cj prog w) _ _ s "object.__setattr__" "object" "__setattr__" (.ref a) [.str name tk,v] [] _ h.kind h.split sub (h.args (.ref a) (.str name tk) v) ?_);let{bm,N,nm,qn,bs,sn,B,ab,Y,dd,k0,k1,k2,k3,k5,mN,Z,cN,cI,T}:=T8 X q;rw[osa_eq,refuse_eq];show D3 (D3 (I.type.here (D3 ?_)));let{hh,g,d,t,os}:=s;show wpAny_mroOf_exc Z ?_;rw[refuseLoop_ref,sZ _ T];show D4 (D3 (I.type.here (D3 ((M7 X J).here (D3 ?_)))))
 show Cg _ _ (pure none) _ _ _;show D4 ?_;show k
theorem xK{vs:Array Ca}{v:Ca}{Q:Unit->Cc->Prop}(X:K.In s.heap)(q:excI K C fI=true)(ho:Mm K C (.type "object")=some true)(ht:C5 K (.ref C) name=some none)(hs:C5 K (.ref C) "__setattr__"=some (some (.builtin "object.__setattr__")))(J:s.heap.get? a=some ox)(cl:ox.cls=.ref C)(dn:ox.dict=none)(od:ox.data=.fields vs)(k:∀h',h'.Ns1 s.heap.objs.size (λy=>if y=name then some v else none)->h'.get? a=some {ox with dict:=some s.heap.objs.size}->(∀b o,b≠a->s.heap.get? b=some o->h'.get? b=some o)->Q ⟨⟩ {s with heap:=h',toks:=s.toks+2}) :
  Cg (Cj prog w) A (HG (.ref a) name v) Q E s:=by
 let I:InstAt s.heap a ox C none:={J,cl,by let{c,dd,dt,sl}:=ox;cases od;rfl,by rw[dn];trivial};show NJ X I hs (UG (s:={s with toks:=s.toks+1}) X q I ho ht ?_);let{bm,N,nm,qn,bs,sn,a1,ab,a4,dd,k0,k1,k2,k3,k5,mN,cO,cN,cI,T}:=T8 X q;let{c,di,dt,sl}:=ox;dsimp only at cl dn od;subst cl dn od;show D3 (D4 (D3 (D3 (wpAny_loadPart J (D3 ?_)))));unfold classData;show D3 (HF cO (D4 ?_));show Cg _ _ (alloc {cls:=.type "dict",data:=.dict #[]} >>= λd=>update a (λo=>{o with dict:=some d}) >>= λ_=>dictMade (.ref C) a d) _ _ _;show D3 (wpAny_alloc ?_)
 let G:(s.heap.push {cls:=.type "dict",data:=.dict #[]}).get? a=some _:=D5 _ J;show D3 (wpAny_update G ?_);show D4 ?_;show D3 (D4 (D3 ?_));let fz:(s.heap.push {cls:=.type "dict",data:=.dict #[]}).objs.size=s.heap.objs.size+1:=Kw ..;let ne:a≠s.heap.objs.size:=Gk (D7 J);generalize hU:(s.heap.push {cls:=.type "dict",data:=.dict #[]}).update a (λo=>{o with dict:=some s.heap.objs.size})=hp;let aU:hp.get? a=some {cls:=.ref C,dict:=some s.heap.objs.size,data:=.fields vs,slots:=sl}:=by
  rw[<-hU];show Ew _ G W
 let oU:∀b o,b≠a->(s.heap.push {cls:=.type "dict",data:=.dict #[]}).get? b=some o->hp.get? b=some o:=λb o hb e=>by
  rwa[<-hU,Cv _ _ (Et hb)]
 let dU:hp.get? s.heap.objs.size=some {cls:=.type "dict",data:=.dict #[]}:=oU _ _ (Et ne) (D6 s.heap W);let Y:hp.Ns1 s.heap.objs.size (λ_=>none):={_,#[],_,dU,W,(λe he=>D0 he (by simp)),by first|trivial|show Lu|(intro x;simp),λ_=>rfl};let w0:Ke (λ_:Str=>(none:Option Ca)) []:=λn hn=>D0 rfl hn;show MQ (s:={s with heap:=hp,toks:=s.toks+1}) Y λh' B h=>?_;let{oD,a2,a3,O,Z,a0}:=B.count (MU name v w0);show D3 (LD O (by rw[Z];show OR (Js a0 (by show 1<=Cb+1;lia))) ?_)
 show D4 (k h' B ((h.2 _ ne).trans aU) λb o hb e=>(h.2 b (λz=>by
  rw[z]at e;show D0 (D7 e) (Bw _))).trans (oU b o hb (D5 _ e)))
theorem xW{vs:Array Ca}{v:Ca}{ns:List Str}{Q:Unit->Cc->Prop}(X:K.In s.heap)(q:excI K C fI=true)(ho:Mm K C (.type "object")=some true)(ht:C5 K (.ref C) name=some none)(hs:C5 K (.ref C) "__setattr__"=some (some (.builtin "object.__setattr__")))(ao:s.heap.get? a=some ox)(cl:ox.cls=.ref C)(dn:ox.dict=some dx)(od:ox.data=.fields vs)(hn:s.heap.Ns1 dx mA)(ne:dx≠a)(hw:Ke mA ns)(sz:ns.length<=1000)(k:∀h',h'.Ns1 dx (λy=>if y=name then some v else mA y)->Hm dx s.heap h'->Q ⟨⟩ {s with heap:=h',toks:=s.toks+2}) :
  Cg (Cj prog w) A (HG (.ref a) name v) Q E s:=by
 let{B,_,_,Z,_}:=id hn;let I:InstAt s.heap a ox C (some B):={ao,cl,by let{c,dd,dt,sl}:=ox;cases od;rfl,by rw[dn];show Z};show NJ X I hs (UG (s:={s with toks:=s.toks+1}) X q I ho ht ?_);let{bm,N,nm,qn,bs,sn,a0,ab,a3,dd,k0,k1,k2,k3,k5,mN,cO,cN,cI,T}:=T8 X q;let{c,di,dt,sl}:=ox;dsimp only at cl dn od;subst cl dn od;show D3 (D4 (D3 (D3 (wpAny_loadPart ao (D3 ?_)))));unfold classData;show D3 (HF cO (D4 ?_));show D4 (a:=some dx) (D3 (D4 (D3 ?_)));show MQ (s:={s with toks:=s.toks+1}) hn λh' h G=>?_;let{oD,a1,a2,J,O,Y}:=h.count (MU name v hw)
 show D3 (LD J (by rw[O];show OR (Js Y (by rw[Ju,C3];lia))) ?_);show D4 (k h' h G)
end
section
variable{K:Frag}{a:Addr}
def yX{h:Bool}{vs:Array Ca}{v:Ca}{Q:Ca->Cc->Prop}(X:K.In s.heap)(hh:hasDictIn K C=true)(hb:Mm K C (.type "BaseException")=some true)(g1:C5 K (.ref C) "__getattribute__"=some (some (.builtin "BaseException.__getattribute__")))(g2:C5 K (.ref C) "__getattr__"=some none)(ht:C5 K (.ref C) name=some none)(ao:s.heap.get? a=some ox)(cl:ox.cls=.ref C)(dn:ox.dict=some dx)(od:ox.data=.fields vs)(hn:s.heap.Ns1 dx mA)(Z:mA name=some v)(G:handedIn v=true)(k:Q v {s with toks:=s.toks+1}) :
  Cg (Cj prog w) A (GN (.ref a) name h) Q E s:=by
 let{B,eo,hl}:=bN hn;let I:InstAt s.heap a ox C (some B):={ao,cl,by let{c,dd,dt,sl}:=ox;cases od;rfl,by rwa[dn]};let Y:=I.type (M:=Cj prog w);let L1:=M7 (M:=Cj prog w) X g1;let L2:=M7 (M:=Cj prog w) X g2;let L3:=looks_find (M:=Cj prog w) X I (findObj_own hh ht W (by rw[hl,Z]));let L4:Looks (Cj prog w) s.heap (K6 (.ref a) (.type "BaseException")) true:=I.type.andThen (GF X hb);let{hp,g,d,t,os}:=s;unfold GN HZ;show D3 (wpAny_mkText (Cz (D3 (Y.at (D3 (L1.at ?_))))));show Cg _ _ (Mq (.ref a) (.str name t) (.ref C) (.builtin "BaseException.__getattribute__") true h) _ _ _
 unfold Mq hookBefore;rw[D9 (show onTheHeap (Cd C)=true from W)];show D3 (L2.at (D3 (Hy (Cz ?_))));unfold callGetattribute;rw[D8 (show ¬ ((h&&onTheHeap (Kp "BaseException.__getattribute__"))=true)by cases h<;>show Gb)];unfold boundAndCalled;let O:=PySem.F.attrBase_ValueError.ga;rw[O.bind];show D3 (D4 ?_);show Cg _ _ (call (Kp "BaseException.__getattribute__") [.ref a,.str name t]) _ _ _;show Ka (Kv O.plain F.entry_bexc_ga ?_);let hk:builtinKind "BaseException.__getattribute__"=some .slot:=by decide +kernel
 let J:splitId "BaseException.__getattribute__"=some ("BaseException","__getattribute__"):=by decide +kernel
 show @check_slot (Cj prog w) _ _ _ "BaseException.__getattribute__" "BaseException" "__getattribute__" (.ref a) [.str name t] [] _ hk J L4 (F.args_bexc_ga (.ref a) (.str name t)) ?_;unfold Builtin.«object.__getattribute__»;show D3 (D4 (D3 (D4 (D3 (Y.at (D3 (L3.at ?_)))))));show D4 ?_;show Cg _ _ (handedOut v) _ _ _;rw[handedOut_of G];show D4 k
end
end L2
namespace L2
open PySem PySem.Spec PyProof.Rows PySem.W
structure CZ(K:Frag)(C fI:Addr):Prop where
 ei:excI K C fI=true
 ob:Mm K C (.type "object")=some true
 bx:Mm K C (.type "BaseException")=some true
 sa:C5 K (.ref C) "__setattr__"=some (some (.builtin "object.__setattr__"))
 ga:C5 K (.ref C) "__getattribute__"=some (some (.builtin "BaseException.__getattribute__"))
 gt:C5 K (.ref C) "__getattr__"=some none
 hd:hasDictIn K C=true
 kp:keepIn K (.ref C)=true
 fn:GS K (.ref fI)=some (.type "function")
 cc:C5 K (.ref C) "__class__"=some (some (.builtin "object.__class__"))
 cg:specialIn K (.builtin "object.__class__") "__get__"=some (some (.builtin "getset_descriptor.__get__"))
 ct:takesIn K (.builtin "object.__class__")=some true
def BL(ea C:Addr)(d:Option Addr)(h:Heap):Prop:=∃oe vs,h.get? ea=some oe/\oe.cls=.ref C/\oe.dict=d/\oe.data=.fields vs/\vs.size=6/\vs[1]?=some .none
def BL.ok(x:BL ea C d h):Y9 P w H h ea (.ext (BL ea C d)):=by
 let{oe,vs,e,r}:=id x;exists x,{oe,e},λh1 h2⟨o1,B,e1,G⟩k=>{o1,B,k _ e1,G}
def xdP(d:Addr)(fs:List (Str×V))(h:Heap):Prop:=∃mA,h.Ns1 d mA/\(∀f,An (fs.lookup f) (mA f))/\Ke mA (fs.map (·.1))
def xdP.ok{fs:List (Str×V)}(x:xdP d fs h):Y9 P w H h d (.ext (xdP d fs)):=by
 let{mA,{o,es,ep,e,r},q}:=id x;exists x,{o,e},λh1 h2⟨J,G,B⟩k=>{J,G.at k,B}
section
def AB.two{d:Addr}{Y ψ o1:HO}(I:AB X pq σ H s)(h:H ea=some Y)(mu:FH (some Y))(hd:s.heap.objs.size<=d)(k:∀b o,b≠ea->s.heap.get? b=some o->h'.get? b=some o)(te:∃o,h'.get? ea=some o)(n1:∀O,Y9 X.prog X.w O h' ea o1)(Z:∀O,Y9 X.prog X.w O h' d ψ):AB X pq σ (upd (upd H ea o1) d ψ) {s with heap:=h',toks:=t'}:=by
 let nd:H d=none:=I.hok.fresh hd;let ed:d≠ea:=λz=>by rw[z,h]at nd;cases nd
 let ld:∀b o,s.heap.get? b=some o->b≠d:=λb o q z=>by rw[z]at q;show D0 (D7 q) (Dy.mpr hd)
 let B:∀b u,b≠ea->H b=some u->upd (upd H ea o1) d ψ b=some u:=λb u h1 e=>by rw[Zq (λz=>by rw[z,nd]at e;cases e),Zq h1];show e
 let G:∀c y,H c=some (.own y)->c≠ea:=λc y e z=>by rw[z,h]at e;cases e;show mu
 let tup:∀c y,H c=some (.tup y)->c≠ea:=λc y e z=>by rw[z,h]at e;cases e;show mu
 let frz:∀c y u,H c=some (.frz y u)->c≠ea:=λc y u e z=>by rw[z,h]at e;cases e;show mu
 let tbl:∀c y,H c=some (.tbl y)->c≠ea:=λc y e z=>by rw[z,h]at e;cases e;show mu
 show I.un {λb o q n _ _=>?_,λb o q n _ _=>?_,λb o q n _=>?_,λb o q _=>?_,λb xs e=>B _ _ (tup _ _ e) e,λb o u e=>B _ _ (frz _ _ _ e) e,λb ps e=>{#[],by rw[B _ _ (tbl _ _ e) e];simp}} (λb o q=>?_)
 .show k b o (λz=>by rw[z,h]at n;cases n) q
 .show{o.slots,k b o (λz=>by rw[z,h]at n;cases n) q}
 .rw[Zq (ld b o q),Zq (λz=>by rw[z,h]at n;cases n)];show n
 .by_cases z:b=ea
  .rw[z];show te
  .show{o,k b o z q}
 .by_cases z:b=d
  .subst z;rw[Zw]at q;cases q;show Z _
  .rw[Zq z]at q
   by_cases z2:b=ea
   .subst z2;rw[Zw]at q;cases q;show n1 _
   .rw[Zq z2]at q;show(I.hok b o q).stay (λc v J r=>?_) (λc e=>B _ _ (G _ _ e) e) λc xs e=>B _ _ (tup _ _ e) e;rcases J with J|J
    .rw[J]at r⊢;show k b v z2 r
    .show k c v (G _ _ J) r
end
def Zyo(K:Frag)(ta tv:TE)(f:Str):TS:=λD σ H=>tv σ H λy H1=>ta σ H1 λx h=>∃ea C fI,x=.ref ea/\CZ K C fI/\C5 K (.ref C) f=some none /\
  ((h ea=some (.ext (BL ea C none))/\∀d,h d=none->d≠ea->D.nx σ (upd (upd h ea (.ext (BL ea C (some d)))) d (.ext (xdP d [(f,y)])))) \/
   ∃d fs,h ea=some (.ext (BL ea C (some d)))/\h d=some (.ext (xdP d fs))/\fs.length<1000/\D.nx σ (upd h d (.ext (xdP d (Av f y fs)))))
def OJ(K:Frag)(ta:TE)(f:Str):TE:=λσ H Q=>ta σ H λx H1=>∃ea C fI d fs v,x=.ref ea/\CZ K C fI/\C5 K (.ref C) f=some none/\H1 ea=some (.ext (Ac ea C (some d)))/\H1 d=some (.ext (xdP d fs))/\fs.lookup f=some v/\Q v H1
section
variable{o:Expr}{f:Str}{tv:TE}
def OZ{fs:List (Str×V)}(r:∀g,An (fs.lookup g) (mA g))(h:AJ y u)(g:Str):An ((Av f y fs).lookup g) (if g=f then some u else mA g):=by
 rw[Ty]
 by_cases q:g=f
 .rw[D9 q,D9 q];show h
 .rw[D8 q,D8 q];show r g
def Nc{fs:List (Str×V)}(wi:Ke mA (fs.map (·.1))):Ke (λg=>if g=f then some u else mA g) ((Av f y fs).map (·.1)):=λg h=>by
 by_cases q:g=f
 .rw[q];show(Uu f y fs).1
 .show(Uu f y fs).2 g (wi g λz=>h ?_);show(if g=f then some u else mA g)=none;rw[D8 q];show z
theorem oE(ha:PE X o ta)(hv:PE X value tv)(hs:Mh value (some (.Attribute o f pos')) dF.line X.env=pure false):PS X (.Assign [.Attribute o f pos'] value dF) (Zyo X.K ta tv f):=by
 intro pq s σ H D I h;show Lp (AS (hv pq s σ H _ I h) λu s1⟨y,H1,I1,ry,q⟩=>AS (ha pq s1 σ H1 _ I1 q) λov s2 hz=>?_) hs;let{x,H2,G,rx,ea,C,fI,ex,J,hf,O}:=hz;subst ex;obtain rfl:ov=Cd ea:=rx;rcases O with⟨B,O⟩|⟨d,fs,B,hd,hl,O⟩
 .let⟨⟨oe,vs,e1,e2,e3,Z,e5,e6⟩,_,_⟩:=G.hok ea _ B;show xK G.kIn J.ei J.ob hf J.sa e1 e2 e3 Z λh' hn Y hk=>?_;let nd:=G.hok.fresh (Jk s2.heap.objs.size);show{σ,_,G.two (d:=s2.heap.objs.size) (ψ:=.ext (xdP s2.heap.objs.size [(f,y)])) (o1:=.ext (BL ea C (some s2.heap.objs.size))) B Ef (Jk _) hk {_,Y} (λ_=>BL.ok {_,vs,Y,e2,W,Z,e5,e6}) (λ_=>xdP.ok {_,hn,OZ (fs:=[]) (λ_=>Ef) ry,Nc (fs:=[]) (y:=y) λg hg=>D0 W hg}),O _ nd λz=>by rw[z,B]at nd;cases nd}
 .let⟨⟨oe,vs,e1,e2,e3,Z,e5,e6⟩,_,_⟩:=G.hok ea _ B;let{{mA,n1,r1,w1},_,_}:=G.hok d _ hd;let ne:d≠ea:=λz=>by
   rw[z]at n1;let{o',_,_,a1,a2,_}:=n1;rw[e1]at a1;cases a1;rw[Z]at a2;cases a2
  show xW G.kIn J.ei J.ob hf J.sa e1 e2 e3 Z n1 ne w1 (by rw[Ja];lia) λh' hn sb=>?_;let{a0,_,_,a3,_}:=id hn;show{σ,_,G.write (x:=d) (e:=d) (by rw[hd];show Ef) (.inl W) (λb u hb e=>(sb.2 b hb).trans e) {a0,a3} (xdP.ok {_,hn,OZ r1 ry,Nc w1}),O}
def Zrj(ha:PE X o ta)(hb:Ht o f X.env (eval o X.env)=eval o X.env):PE X (.Attribute o f dF) (OJ X.K ta f):=by
 intro pq s σ H Q I h;show QL hb (AS (ha pq s σ H _ I h) λu s1 hz=>?_);let{x,H1,G,Y,ea,C,fI,d,fs,v,ex,B,hf,J,hd,l,q}:=hz;subst ex;obtain rfl:u=Cd ea:=Y;let{{oe,vs,e1,e2,e3,e4,e5},_,_}:=G.hok ea _ J;let{{mA,n1,Z,w1},_,_}:=G.hok d _ hd;let{u',hu,O}:=An.some_of (v:=v) (o:=mA f) (by rw[<-l];show Z f);show yX G.kIn B.hd B.bx B.ga B.gt hf e1 e2 e3 e4 n1 hu (VO O) {v,H1,G.tok _,O,q}
end
def Rx(P:E4)(w:H9)(K:Frag)(mg:Str->Option Ca)(dC:Heap)(x:Str)(C:Addr)(k:Nat)(ps:List Str)(sp:Sp):Prop :=
 ∃fI fd,CZ K C fI/\S6 K C=some (some (.ref fI))/\AK P w K mg dC A7 k fI fd ps sp/\mg x=some (.ref C)/\Ud K fd ps []
section
variable{k:Nat}{sp:Sp}
theorem rD{R:Addr->Hp->Prop}(Y:CZ X.K C fI)(xi:S6 X.K C=some (some (.ref fI)))(F:AK X.prog X.w X.K X.mg X.base A7 k fI fd ps sp)(hr:AG (k+1) X.A)(hb:Ud X.K fd ps [])(I:AB X pq σ H s)(r:AF vs us)(sz:us.length<=Cb)(h:∀ea,H ea=none->sp (.ref ea::vs) (upd H ea (.ext (BL ea C none))) (λv J=>v=.non/\R ea J) E0) :
  Cg (Cj X.prog X.w) X.A (call (.ref C) us) (λu s'=>∃ea J,u=.ref ea/\AB X pq σ J s'/\s.heap.objs.size<=ea/\R ea J) X.xe s:=by
 let hq:=h (s.heap.objs.size+1) (I.hok.fresh (Bg _));obtain⟨oI,lI,tI⟩:∃o,X.K.lookup fI=some o/\o.cls=.type "function":=by
  let z:WS (λx=>x.cls) (X.K.lookup fI)=some (.type "function"):=Y.fn;let{o,e,c}:=Gq.mp z;show{o,e,c}
 let fo:=I.kIn _ _ lI;let{G,g,d,t,os}:=s;show zX (wX I.kIn Y.ei xi) fo tI sz λh' hm=>?_;let{tt,h1,h2,h3}:=hm.there;let O:AB X pq σ (upd H (G.objs.size+1) (.ext (BL (G.objs.size+1) C none))) {h',g,d,t,os}:=I.laid (a:=G.objs.size+1) (h':=h') (t':=t) hm.keeps (Bg _) (BL.ok {_,_,h1,W,W,W,W,W});let Z:AF (V.ref (G.objs.size+1)::vs) (Cd (G.objs.size+1)::us):=.cons W r;let hl:(Cd (G.objs.size+1)::us++[]).length=ps.length:=by
  let e:=Z.length;rw[F.len _ _ _ _ hq]at e;rw[Jx];show e.symm
 let bb:=hb {h',g,d,t,os} (Cd (G.objs.size+1)::us) O.kIn hl;rw[Jx]at bb;show Ka (Kg (F.run _ X.stack _ _ {Cd (G.objs.size+1)::us,[]} (Cd (G.objs.size+1)::us) _ _ E0 (hr.make C us []) (O.env0.make C us []) bb Z hq) λr s' B=>?_);cases r with
 |error e=>show Cy B
 |ok fl =>
  cases fl with
  |ret u =>
   let{v,H',I3,rv,hv,q}:=O.after B;subst hv;obtain rfl:u=Ca.none:=rv;show{W,_,H',W,I3,Bg _,q}
  |next=>show Cy B
  |brk=>show Cy B
  |cont=>show Cy B
end
section
variable{M:DC}{Ex:Ca->Cc->Prop}{env:Env}
def Ni{x:Sem Ca}{Q:Flow->Cc->Prop}{oi:Option (Option Ca)}(Y:A.handled=none)(h:Cg M A x (λv B=>∃e oe vs,v=.ref e/\ExcA B.heap C oi/\B.heap.get? e=some oe/\oe.cls=.ref C/\oe.data=.fields vs/\vs[1]?=some .none/\Ex (.ref e) B) Ex s) :
  Cg M A (raiseStmt env (some x) none) Q Ex s:=by
 unfold raiseStmt;show D3 (BJ h (λv B h1=>?_) λ_ _ z=>z);let{e,oe,vs,rfl,{bm,N,nm,q,bs,sn,sub,ab,a0,dd,k0,k1,k2,k3,k5,mN,J,cN,cI,T},G,Z,hd,O,hE}:=h1;let hB:(Cd C::bm).contains (.type "BaseException")=true:=by rw[List.contains_cons,T.hasType PySem.F.excBase_ValueError.hasBase,Bool.or_true]
 let{hp,g,d,tk,os}:=B
 repeat (first|(with_reducible show Ec G ?_;rw[Z])|with_reducible show Lq G hd O ?_|with_reducible show Ec J ?_|(with_reducible show Mp J ?_;rw[hB])|wp_step)
 show wpAny_raiseNew_none Y hE
end
def OV(C:Addr)(sp:Sp)(E:XK)(t:TA):TS:=λ_ σ H=>t σ H λvs H1=>vs.length<=10/\∀ea,H1 ea=none->sp (.ref ea::vs) (upd H1 ea (.ext (BL ea C none))) (λv h=>v=.non/\∃d,h ea=some (.ext (BL ea C (some d)))/\E (.ref C) (some d) (upd h ea (.ext (Ac ea C (some d))))) E0
section
variable{K:Frag}{dC:Heap}{dE:Scope}{dD:List Env}{E:XK}
def sI{k:Nat}{sp:Sp}{x:Str}{np:Pos}{e:Expr}{t:TA}(R:Rx P w K mg dC x C k ps sp)(hr:AG (k+1) (CV P w K mg dC N dH dE f cd A dD s H E).A)(hg:Gl (CV P w K mg dC N dH dE f cd A dD s H E) x)(ha:PA (CV P w K mg dC N dH dE f cd A dD s H E) (e::es) t)(Z:(x==("__debug__":Str))=false:=by decide)(he:Cr (e::es) (CV P w K mg dC N dH dE f cd A dD s H E).env=(false,eval e (CV P w K mg dC N dH dE f cd A dD s H E).env)::Cr es (CV P w K mg dC N dH dE f cd A dD s H E).env:=by rfl)(Y:(Ks dY (Cr es (CV P w K mg dC N dH dE f cd A dD s H E).env)).any (·.1)=false:=by rfl) :
  PS (CV P w K mg dC N dH dE f cd A dD s H E) (.Raise (some (.Call (.Name x np) (e::es) [] dY)) none dF) (OV C sp E t):=by
 intro pq s1 σ H1 D I h;let{fI,fd,J,xi,F,hm,hb}:=R;rw[arm_exec_Raise];show D3 (E5 (Ni (C:=C) (oi:=S6 K C) (I.ok.hd W) ?_));show D3 (BJ ?_ (λv G h3=>D3 (E5 (D4 h3))) λ_ _ z=>z);show Ee (Tz I hg hm ?_ Z);show My (h₀:=dC) I.ok.mod.kin J.kp (AS (ha dY pq s1 σ H1 _ I h) λus s2⟨vs,H2,I2,r,l10,q⟩=>{I2.kIn,?_}) he Y;show BJ (rD (R:=λea H2=>∃d,H2 ea=some (.ext (BL ea C (some d)))/\E (.ref C) (some d) (upd H2 ea (.ext (Ac ea C (some d))))) J xi F hr hb I2 r (by show us.length<=Cb;rw[<-r.length];show Js l10 nofun) q) (λu G hu=>?_) λ_ _ z=>z
 let{ea,H3,rfl,I3,O,d,B,qE}:=hu;let{{oe,ws,e1,e2,e3,e4,e5,e6},_,_}:=I3.hok ea _ B;show{ea,oe,ws,W,T8 I3.kIn J.ei,e1,e2,e4,e6,?_};let I4:AB (CV P w K mg dC N dH dE f cd A dD s H E) pq σ (upd H3 ea (.ext (Ac ea C (some d)))) {G with heap:=G.heap,toks:=G.toks}:=I3.write (x:=ea) (e:=ea) (by rw[B];show Ef) (.inl W) (λb u _ z=>z) {_,e1} (Ac.ok {oe,ws,e1,e2,e3,e4,e5});show cW (T0:=none) I4 Zw (Js I2.sz O) (λT z=>by cases z) {oe,ws,e1,e4,e6} qE
end
section
def nS(X:Cx)(pq:List (Addr×Obj))(σ:St)(Ex:XK)(e:Ca)(s':Cc):Prop:=∃(ea C T:Addr)(d:Option Addr)(H':Hp),e=.ref ea/\AB X pq σ H' s'/\H' ea=some (.ext (Ac ea C d))/\FE ea T s'.heap/\A3 X pq H' T/\Ex (.ref C) d H'
def HI(CX:CXT)(X:Cx)(pq:List (Addr×Obj))(σ:St)(E:XK):Prop:=∀(H:Hp)(s:Cc)(e:Ca)(s':Cc),AB X pq σ H s->CX X.stack H s E e s'->X.xe e s'
def yF :HI (CXE X.prog X.w) (X.wish (nS X pq σ Ex)) pq σ Ex:=by
 intro H s e s' I hx;let{ea,C,T,d,J,rfl,os,h,un,B,G,Y,O,Z,fl,q}:=hx;let I':=I.unwish;let I2:AB X pq σ J s':=I'.call' os un B h (ch:=[]) λb z=>D0 z (by simp);show{ea,C,T,d,J,W,I2,G,fl,I'.fpOk Z O,q}
def AB.noted{d:Option Addr}{vs:Array Ca}(I:AB X pq σ H s)(h:H ea=some (.ext (Ac ea C d)))(eo:s.heap.get? ea=some oe)(od:oe.data=.fields vs)(hT:∀T,T0=some T->A3 X pq H T)(g:Gone (CK X.stack) ea T0 oe vs s.heap h'):AB X pq σ H {s with heap:=h'}:=by
 let J:∀c y,H c=some y->c∉CK X.stack:=λc y r z=>by rw[I.stkFree c z]at r;cases r
 let nT:∀c y,H c=some y->some c≠T0:=λc y r z=>by rw[(hT c z.symm).1]at r;cases r
 let Z:BN X.prog X.w H h':=λb o q=>by
  by_cases ne:b=ea
  .subst ne;rw[h]at q;cases q;let{{o1,v1,a1,a2,a3,a4,a5},_,_}:=I.hok b _ h;let{T,O,ob,ts,_,e3,e4,_}:=g.flow;rw[eo]at a1;cases a1;rw[od]at a4;cases a4;show Ac.ok {_,O,e3,a2,a3,W,by rwa[e4]}
  .show(I.hok b o q).stay (λc v B r=>?_) (λ_ z=>z) λ_ _ z=>z;rcases B with B|B
   .rw[B]at r⊢;show g.keep b v (J b o q) ne (nT b o q) r
   .let Y:c≠ea:=λz=>by rw[z,h]at B;cases B
    show g.keep c v (J c _ B) Y (nT c _ B) r
 let un:Un (CK X.stack) T0.toList H H s.heap h':=by
  let tl:∀b,b∉T0.toList->some b≠T0:=λb G z=>G (by rw[<-z];simp);exists λb o q n G hx=>?_,λb o q n G hx=>?_,λb o q n _=>n,λb o q hx=>?_,λ_ _ e=>e,λ_ _ _ e=>e,λb ps e=>{#[],by rw[e];simp}
  .show g.keep b o G (λz=>by rw[z,h]at n;cases n) (tl b hx) q
  .show g.slot b o (λz=>by rw[z,h]at n;cases n) (tl b hx) q
  .by_cases ne:b=ea
   .let⟨_,_,_,_,_,e3,_⟩:=g.flow;show{_,by rwa[ne]}
   .let⟨sl,e2⟩:=g.slot b o ne (tl b hx) q;show{_,e2}
 let:=I.call (g':=s.gens) (d':=s.drawn) (t':=s.toks) un Z I.bare λb G=>by
  let z:T0=some b:=by
   cases T0 with
   |none=>simp at G
   |some T=>simp at G;rw[G]
  let{_,f1,f2,f3,f4,f5}:=hT b z;show{f3,f1,f4,f5}
 show this
def Gone.flies{fs:List Addr}{vs:Array Ca}(g:Gone fs ea T0 oe vs h h'):∃T,h.objs.size<=T/\FE ea T h':=by
 let{T,B,ob,ts,z1,z2,z3,Z,Y,O,J,G}:=g.flow;show{T,z1,_,B,ob,ts,z2,W,Z,Y,O,J,G}
def zO{M:DC}{i:Nat}{x:Str}{v:V}{Q:Unit->Cc->Prop}(I:AB X pq (σ.set i (some v)) H s)(B:i < σ.length)(hi:X.N[i]?=some x)(hN:X.N.Nodup)(hk:X.env.scope.names.lookup x=some .local)(h:∀s',AB X pq (σ.set i none) H s'->Q ⟨⟩ s'):Cg M A (unbindName X.env x) Q E s:=by
 let{m,hn,hl}:=id I.loc;let O:(X.env.scope.kind == .class ||(X.env.scope.kind == .module&&X.env.locals != X.env.globals))=false:=by rw[I.ok.kind];rfl
 let{u0,_,lk}:=hl i x v hi (by rw[Gw B]) (.inl hk);let hv:m x=some u0:=by
  rcases lk with⟨_,z⟩|⟨z,_⟩
  .show z
  .let a1:X.env.kindOf x=some .local:=hk;rw[a1]at z;rcases z with z|z<;>cases z
 show wpAny_unbindName_local hk hn hv O λh' u a0 hs=>h _ ?_;let{oL,_,_,a2,_}:=id hn;let ab:∀b o,X.s₀.heap.get? b=some o->b≠X.env.locals:=λb o e=>Gk (Gn (D7 e) I.ok.above);exists I.ok,I.os,I.bare,{λb o e n hb hx=>(hs.2 b (ab b o e)).trans (I.base.keep b o e n hb hx),λb o e n hb hx=>?_,I.base.free,λb o e hx=>?_,I.base.tups,I.base.frzs,I.base.tbls},{_,a0,λj y v' e1 e2 e3=>?_},λy c e=>?_,I.free,I.freeC,λp hp=>?_,λb ob e=>?_,?_
 .let⟨sl,e1⟩:=I.base.slot b o e n hb hx;show{sl,(hs.2 b (ab b o e)).trans e1}
 .let⟨o',e1⟩:=I.base.there b o e hx;show{o',(hs.2 b (ab b o e)).trans e1}
 .by_cases hj:j=i
  .subst hj;rw[Gw B]at e2;cases e2
  .rw[G2 (Et hj)]at e2;let{u',r',q}:=hl j y v' e1 (by rwa[G2 (Et hj)]) e3;let yx:y≠x:=λz=>by
    subst z;show hj ((List.getElem?_inj (Jd.mp e1).1 hN).mp (e1.trans hi.symm))
   show{u',r',?_};rcases q with⟨Z,Y⟩|⟨Z,c,Y,q3⟩
   .show .inl {Z,by show(if y=x then u else m y)=some u';rw[D8 yx];show Y}
   .show .inr {Z,c,Y,?_};let{o3,G,d3}:=q3;show{o3,(hs.2 c (I.cne y c Y)).trans G,d3}
 .let⟨v3,o3,G,d3⟩:=I.cell y c e;show{v3,o3,(hs.2 c (I.cne y c e)).trans G,d3}
 .let⟨p1,p2,p3,p4,p5⟩:=I.pin p hp;exists(hs.2 _ p3).trans p1,p2,p3,p4,p5
 .show(I.hok b ob e).stay (λc w' J q=>(hs.2 c ?_).trans q) (λ_ q=>q) λ_ _ q=>q;rintro rfl;rcases J with J|J
  .rw[<-J,I.free]at e;cases e
  .rw[I.free]at J;cases J
 .let:=I.len;rw[Gz]at this⊢;show this
end
abbrev Cx.mrk(X:Cx)(e:Ca):Cx:={X with A:=X.A.mark (some e),calm:=false,xe:=λ_ _=>False}
section
variable{e:Ca}
def AB.mrk(I:AB X pq σ H s)(e:Ca):AB (X.mrk e) pq σ H s :=
 {{I.ok.mod,I.ok.kind,I.ok.glob,I.ok.blt,I.ok.above,I.ok.inj,I.ok.has,I.ok.cab,(λz=>by cases z),I.ok.frames,I.ok.stk,I.ok.exf,I.ok.bs,I.ok.bsz,I.ok.noex,I.ok.exfs,I.ok.funs,I.ok.frf},I.os,I.bare,I.base,I.loc,I.cell,I.free,I.freeC,I.pin,I.hok,I.len}
def AB.unmrk(ok:X.Ok)(I:AB (X.mrk e) pq σ H s):AB X pq σ H s:={ok,I.os,I.bare,I.base,I.loc,I.cell,I.free,I.freeC,I.pin,I.hok,I.len}
theorem SP.unmrk{D:Ends}{f:Flow}(ok:X.Ok)(h:SP (X.mrk e) pq D f s):SP X pq D f s:=by
 cases f with
 |next=>obtain⟨B,H',I,q⟩:=h;show{B,H',I.unmrk ok,q}
 |brk=>obtain⟨B,H',I,q⟩:=h;show{B,H',I.unmrk ok,q}
 |cont=>obtain⟨B,H',I,q⟩:=h;show{B,H',I.unmrk ok,q}
 |ret u=>obtain⟨v,B,H',I,r,q⟩:=h;show{v,B,H',I.unmrk ok,r,q}
end
section
variable{M:DC}{K:Frag}{D:Addr}
def tK{D:Addr}(X:K.In s.heap)(h:GS K (.ref D)=some (.type "type")):s.TypeIs (.ref D) "type":=by
 let z:WS (λx=>x.cls) (K.lookup D)=some (.type "type"):=h;let{o,e,c}:=Gq.mp z;show{o,X _ _ e,c}
def Zeb{b:Bool}{Q:Bool->Cc->Prop}(X:K.In s.heap)(O:GS K (.ref D)=some (.type "type"))(h:Mm K D (.type "BaseException")=some true)(Z:s.heap.get? ea=some oe)(hc:oe.cls=.ref C)(Y:Mm K C (.ref D)=some b)(k:Q b s) :
  Cg M A (excMatches (.ref ea) (.ref D)) Q E s:=by
 let hT:=tK X O;let L1:=GF (M:=M) X h;let L2:=GF (M:=M) X Y;let n1:=tc_notTuple;let n2:=tc_sub;obtain⟨oD,cd,J,B⟩:∃(oD:Obj)(cd:ClassData),K.lookup D=some oD/\oD.data=.cls cd:=by
  let z:=h;unfold Mm at z;let{cd,z,_}:=Option.bind_eq_some_iff.mp z;unfold clsIn at z
  split at z
  .rename_i e
   show{_,_,e,W}
  .cases z
 let dO:=X _ _ J;let{c0,a1,a0,G}:=oD;dsimp only at B;subst B;let{hp,g,d,t,os}:=s;unfold excMatches
 repeat (first|(with_reducible show Ec Z ?_;rw[hc])|with_reducible show Ec dO ?_|with_reducible show L1.at ?_|with_reducible show L2.at ?_|wp_step)
 cases b<;>(wp_walk;show k)
end
section
variable{env:Env}{R:EZ->Cc->Prop}
def Zlq(h:Cg (Cj prog w) A (FA e none) (λ_ J=>Cg (Cj prog w) A (bindName env n e) (λ_ G=>Cg (Cj prog w) A (execs (b0::dR) env) (λf B=>R (.ok f) B) (λ_ _=>False) G) (λ_ _=>False) J) (λ_ _=>False) s) :
  K7 (Cj prog w) A (.handlers e [.ExceptHandler none (some n) (b0::dR) dF] env) R s:=by
 show LP ?_;show Cg _ A (do return Fin.done (<-(handleWith e env [.ExceptHandler none (some n) (b0::dR) dF]).onRaise (λx=>do EG x env;WK x))) _ _ s;show D3 (wpAny_noted ?_);unfold handleWith;show D3 (E5 (D3 (BJ h (λ_ J h1=>?_) λ_ _ z=>z.elim)));show D3 (BJ h1 (λ_ G h2=>?_) λ_ _ z=>z.elim);show D3 (Hy (BJ h2 (λf B h3=>D4 (D4 h3)) λ_ _ z=>z.elim))
end
abbrev TH:=Addr->Option Addr->Addr->TS
def HS(X:Cx)(hs:List Ip)(th:TH):Prop:=∀(pq:List (Addr×Obj))(s:Cc)(σ:St)(H:Hp)(ea C T:Addr)(d:Option Addr)(D:Ends),AB X pq σ H s->H ea=some (.ext (Ac ea C d))->FE ea T s.heap->A3 X pq H T->th C d ea D σ H ->
 Cg (Cj X.prog X.w) X.A (handleBy (.ref ea) X.env hs) (SP X pq D) X.xe s
def aW:TH:=λ_ _ _ _ _ _=>False
def bD :HS X [] aW:=λ_ _ _ _ _ _ _ _ _ _ _ _ _ h=>h.elim
def offD(i:Nat)(D:Ends):Ends:={nx:=λσ H=>D.nx (σ.set i none) H,rt:=D.rt,bk:=λσ H=>D.bk (σ.set i none) H,ct:=λσ H=>D.ct (σ.set i none) H}
def thAs(K:Frag)(Dc:Addr)(i:Nat)(ts:TS)(thr:TH):TH:=λC d ea D σ H=>∃b,Mm K C (.ref Dc)=some b/\if b=true then ts (offD i D) (σ.set i (some (.ref ea))) H else thr C d ea D σ H
structure HD(K:Frag)(mg:Str->Option Ca)(x:Str)(Dc:Addr):Prop where
 mg:mg x=some (.ref Dc)
 ty:GS K (.ref Dc)=some (.type "type")
 bx:Mm K Dc (.type "BaseException")=some true
section
variable{c n:Str}{Dc:Addr}{i:Nat}{b0:Stmt}{dG:List Ip}{np:Pos}{ts:TS}{thr:TH}
def fZ{T:Addr}{M:DC}{Q:Unit->Cc->Prop}(I:AB X pq σ H s)(J:FE ea T s.heap)(fp:A3 X pq H T)(k:∀s',AB X pq σ H s'->Q ⟨⟩ s'):Cg M A (FA (.ref ea) none) Q E s:=by
 let{oe,vs,oT,ts,e1,d1,h,e2,d2,B,ne}:=J;let{f0,f1,f2,Z,Y,O}:=fp;show bJ e1 d1 h e2 d2 (B9.mp B).1 (k _ ?_);show I.turned (t':=s.toks) (λb o G e=>by rwa[Cv _ _ (Et G)]) f0 f1 Z Y O
theorem gP{D:Ends}{f:Flow}{Q:Flow->Cc->Prop}(Y:X.N.Nodup)(hi:X.N[i]?=some n)(O:X.env.scope.names.lookup n=some .local)(h:SP X pq (offD i D) f s) :
  Cg (Cj X.prog X.w) X.A (do bindName X.env n .none;Mb X.env n dF) (λ_ s'=>SP X pq D f s') E s:=by
 let J:∀(σ:St)(H:Hp),AB X pq σ H s->(∀s',AB X pq (σ.set i none) H s'->SP X pq D f s')->Cg (Cj X.prog X.w) X.A (do bindName X.env n .none;Mb X.env n dF) (λ_ s'=>SP X pq D f s') E s:=λσ H I k=>by
  let G:i < σ.length:=by rw[I.len];show(Jd.mp hi).1
  show D3 (wpAny_bindName (Sl (v:=.non) I Y hi (.inl O) W (λs1 Z=>?_) (.inr O)));unfold Mb;show wpAny_onRaise (zO Z G hi Y O k)
 cases f with
 |next=>obtain⟨B,H',I,q⟩:=h;show J B H' I λs' I'=>{_,H',I',q}
 |brk=>obtain⟨B,H',I,q⟩:=h;show J B H' I λs' I'=>{_,H',I',q}
 |cont=>obtain⟨B,H',I,q⟩:=h;show J B H' I λs' I'=>{_,H',I',q}
 |ret u=>obtain⟨v,B,H',I,r,q⟩:=h;show J B H' I λs' I'=>{v,_,H',I',r,q}
theorem SS(ca:HD X.K X.mg c Dc)(hg:Gl X c)(O:X.N.Nodup)(hi:X.N[i]?=some n)(G:X.env.scope.names.lookup n=some .local)(hs:∀e,PSs (X.mrk e) (b0::dR) ts)(hr:HS X dG thr)(hd:(c==("__debug__":Str))=false:=by decide) :
  HS X (.ExceptHandler (some (.Name c np)) (some n) (b0::dR) dF::dG) (thAs X.K Dc i ts thr):=by
 intro pq s σ H ea C T d D I B Y fp h;let{b,hb,h}:=h;show wpAny_handleBy_cons (codeAny_handlers_test ?_) (by intro q;cases q);let J:=I.mrk (.ref ea);show Tz (X:=X.mrk (.ref ea)) J hg ca.mg ?_ hd;let{{oe,vs,e1,e2,e3,e4,e5},_,_}:=I.hok ea _ B;show Zeb I.kIn ca.ty ca.bx e1 e2 hb ?_;cases b with
 |false=>show hr pq s σ H ea C T d D I B Y fp h
 |true =>
  show Zlq (fZ J Y fp λs1 J1=>?_);show wpAny_bindName (Sl (X:=X.mrk (.ref ea)) (v:=.ref ea) J1 O hi (.inl G) W (λZ J2=>?_) (.inr G));show BJ (hs (.ref ea) pq Z _ H _ J2 h) (λf s3 h3=>?_) λ_ _ z=>z;show gP (Q:=λ_ _=>True) O hi G (h3.unmrk I.ok)
def PSF(X:Cx)(pq:List (Addr×Obj))(σ:St)(st:List Stmt)(t:TS):Prop:=∀(s:Cc)(H:Hp)(D:Ends),AB X pq σ H s->t D σ H->Cg (Cj X.prog X.w) X.A (execs st X.env) (SP X pq D) X.xe s
def tTry(tb:XK->TS)(th:TH):TS:=λD σ H=>tb (λcls d H'=>∃C,cls=.ref C/\∀ea,H' ea=some (.ext (Ac ea C d))->th C d ea D σ H') D σ H
def bF{bd:List Stmt}{h0:Ip}{hs:List Ip}{tb:XK->TS}{L:Addr}(B:X.stack=X.env::X.outer)(hf:X.env.frame=some L)(hb:∀(pq:List (Addr×Obj))(σ:St)(xe:Ca->Cc->Prop)(Ex:XK),HI (CXE X.prog X.w) (X.wish xe) pq σ Ex->PSF (X.wish xe) pq σ bd (tb Ex))(hh:HS X (h0::hs) th) :
  PS X (.Try bd (h0::hs) [] [] dF) (tTry tb th):=by
 intro pq s σ H D I h;show wpAny_Try_except (BJ (hb pq σ _ _ yF s H D (I.wish _) h) (λf s1 h1=>?_) λe s1 h1=>?_)
 .let h2:=h1.unwish;cases f with
  |next=>show Kf h2
  |brk=>show h2
  |cont=>show h2
  |ret u=>show h2
 .let⟨ea,C,T,d,H1,rfl,J,G,fl,fp,C',hC,k⟩:=h1;cases hC;let{oe,vs,oT,ts,e1,Z,v1,e2,d2,t3,ne}:=fl;show Nl (dC:=X.base) (by rw[J.ok.frames,B]) (by have:=J.stack;rw[B]at this;show this) hf e1 Z v1 e2 d2 t3 ne λh' g=>?_;rw[<-B]at g;let I2:=J.noted G e1 Z (λT' z=>by cases z;show fp) g;let{T',Y,O}:=g.flies;show hh pq _ σ H1 ea C T' d D I2 G O (J.fpOk Y (J.hok.fresh Y)) (k ea G)
end
end L2
namespace L2
open PySem PySem.Spec PyProof.Rows PySem.W PySem.Builtin PySem.Builtin.ObjectAttr
section
variable{K:Frag}{a:Addr}
theorem Zj6{od:Option Obj}{n:Str}{h B:Ca}(h0:(clsIn K C).isSome=true)(h1:C5 K (.ref C) n=some (some h))(h2:specialIn K h "__get__"=some (some B))(h3:takesIn K h=some true):findObj K C od n=some (.bind B h):=by
 cases e:clsIn K C with
 |none=>rw[e]at h0;cases h0
 |some cd =>
  simp only[findObj,e,Option.bind_some,h1,h2,h3]
def oZ{od:Option Obj}{Q:Option Ca->Cc->Prop}(X:K.In s.heap)(h:CZ K C fI)(I:InstAt s.heap a ox C od)(k:Q (some (.ref C)) {s with toks:=s.toks+1}) :
  Cg (Cj prog w) A (FN (.ref a) "__class__") Q E s:=by
 let J:=I.type (M:=Cj prog w);let L1:=M7 (M:=Cj prog w) X h.ga;let L2:=M7 (M:=Cj prog w) X h.gt;let Y:findObj K C od "__class__"=some (.bind (.builtin "getset_descriptor.__get__") (.builtin "object.__class__")):=Zj6 (by let{cd,Z,_}:=any_some h.hd;rw[Z];rfl) h.cc h.cg h.ct;let L3:=looks_find (M:=Cj prog w) X I Y;let L4:Looks (Cj prog w) s.heap (K6 (.ref a) (.type "BaseException")) true:=I.type.andThen (GF X h.bx);let{hp,g,d,t,os}:=s;unfold FN getAttrBy?;show D3 (wpAny_mkText (D3 (Hy ?_)));unfold HZ
 show Cz (D3 (J.at (D3 (L1.at ?_))));show Cg _ _ (Mq (.ref a) (.str "__class__" t) (.ref C) (.builtin "BaseException.__getattribute__") false false) _ _ _;unfold Mq hookBefore;rw[D9 (show onTheHeap (Cd C)=true from W)];show D3 (L2.at (D3 (Hy (Cz ?_))));unfold callGetattribute;rw[D8 (by show Gb)];unfold boundAndCalled;let G:=PySem.F.attrBase_ValueError.ga;rw[G.bind];show D3 (D4 ?_);show Cg _ _ (call (Kp "BaseException.__getattribute__") [.ref a,.str "__class__" t]) _ _ _;show Ka (Kv G.plain F.entry_bexc_ga ?_)
 let O:builtinKind "BaseException.__getattribute__"=some .slot:=by decide +kernel
 let B:splitId "BaseException.__getattribute__"=some ("BaseException","__getattribute__"):=by decide +kernel
 show @check_slot (Cj prog w) _ _ _ "BaseException.__getattribute__" "BaseException" "__getattribute__" (.ref a) [.str "__class__" t] [] _ O B L4 (F.args_bexc_ga (.ref a) (.str "__class__" t)) ?_;unfold Builtin.«object.__getattribute__»;show D3 (D4 (D3 (D4 (D3 (J.at (D3 (L3.at ?_)))))));show Cg _ _ (bindTo (.builtin "getset_descriptor.__get__") (.builtin "object.__class__") (.ref a) (.ref C)) _ _ _;unfold bindTo;show D3 (Cz (Ka (class_get (ox:=ox) (od:=od) X I h.ob ?_)));show D4 ?_;show Cg _ _ (handedOut (.ref C)) _ _ _;rw[handedOut_of W];show D4 (D4 k)
def JA(G:CZ K C fI):KitX K (.ref x) (.ref C) (λh=>∃ox od,InstAt h x ox C od) where
 ty:=λ_ _ _⟨_,_,I⟩=>I.type
 it:=λ_ _ X _=>by
  let{Y,B,_}:=any_some G.hd;unfold clsIn at B
  split at B
  .rename_i O
   intro A' Q' E' s' k q;unfold isType loadHead;show D3 (wpAny_loadPart (k _ _ (X _ _ O)) (D4 q))
  .cases B
 ne:=λh Z dd its n sl X J=>by
  let{Y,B,_}:=any_some G.hd;show Bool.eq_false_iff.mpr λq=>?_;obtain rfl:C=Z:=Cd.inj (beq_iff_eq.mp q);unfold clsIn at B
  split at B
  .rename_i O
   let z:=(X _ _ O).symm.trans J;cases z
  .cases B
 ca:=λX⟨_,_,I⟩k=>oZ X G I k
end
section
def XD(H:Hp):Option Addr->List (Str×V)->Prop
 |some d,fs=>H d=some (.ext (xdP d fs))
 |none,fs=>fs=[]
theorem XD.mono(s:AL H H'):∀{o:Option Addr}{fs:List (Str×V)},XD H o fs->XD H' o fs
 |some _,_,h=>s _ _ h
 |none,_,h=>h
def ExcV(H:Hp)(x:V)(C:Addr)(fs:List (Str×V)):Prop:=∃ea d,x=.ref ea/\H ea=some (.ext (Ac ea C d))/\XD H d fs
theorem sF(I:AB X pq σ H s)(h:H ea=some (.ext (Ac ea C d)))(hd:XD H d fs):∃ox od,InstAt s.heap ea ox C od:=by
 let{{oe,vs,e1,e2,e3,B,O},_,_}:=I.hok ea _ h;cases d with
 |some d =>
  let{{mA,{o,es,ep,e,r},_},_,_}:=I.hok d _ hd;show{oe,some o,e1,e2,by let{c,J,G,sl}:=oe;cases B;rfl,by rwa[e3]}
 |none=>show{oe,none,e1,e2,by let{c,J,G,sl}:=oe;cases B;rfl,by rw[e3];trivial}
def SW(K:Frag):List V->Hp->VK->Prop:=λxs H Q=>∃x C fI fs c b,xs=[x,c]/\CZ K C fI/\ExcV H x C fs/\((∃T,c=.ty T/\kitOne K (.ref C) (.type T)=some b)\/(∃D,c=.ref D/\kitOne K (.ref C) (.ref D)=some b)\/∃(h:Addr)(cs:List Addr),c=.ref h/\H h=some (.tup (cs.map V.ref))/\kitAny K (.ref C) (cs.map Cd)=some b)/\Q (.bl b) H
theorem XO:∀{cs:List Addr}{us:List Ca},AF (cs.map V.ref) us->us=cs.map Cd
 |[],_,.nil=>rfl
 |_::_,_,.cons h r=>by rw[show _=Cd _ from h,XO r];rfl
def Vo{K:Frag}(hK:X.K=K):W5 X (.builtin "isinstance") (SW K):=by
 subst hK;intro pq s σ H xs us Q I r h;let{x,C,fI,fs,c,b,rfl,G,{ea,d,rfl,O,hd},hc,q}:=h;let{u,w',rfl,ru,B}:=IN r;obtain rfl:u=Cd ea:=ru;let J:=sF I O hd;rcases hc with⟨T,rfl,e⟩|⟨D,rfl,e⟩|⟨Y,cs,rfl,ht,e⟩
 .cases B;show kia_one (JA G) I.kIn J e (λz=>nomatch z) λtk=>{.bl b,H,I.tok tk,W,q}
 .cases B;show kia_one (JA G) I.kIn J e (λz=>nomatch z) λtk=>{.bl b,H,I.tok tk,W,q}
 .cases B;let{_,its,Z,o,h1,h2,n,h3,h4}:=I.hok Y _ ht;let hi:=XO Z;subst hi;let{oc,od,a1,a0}:=o;dsimp only at h2 h3 h4;subst h2 h3 h4;show kia_tup (JA G) I.kIn J h1 e (λz=>nomatch z) λtk=>{.bl b,H,I.tok tk,W,q}
end
section
variable{e:Expr}{t:TA}{ts us:TS} 
def PEF(X:Cx)(pq:List (Addr×Obj))(σ:St)(e:Expr)(t:TE):Prop:=∀(s:Cc)(H:Hp)(Q:VK),AB X pq σ H s->t σ H Q->Cg (Cj X.prog X.w) X.A (eval e X.env) (EP X pq σ Q) X.xe s
theorem zK{k:Nat}{sp:Sp}{E:XK}{us:List Ca}(F:AK X.prog X.w X.K X.mg X.base CX k f fd ps sp)(J:AG k X.A)(O:Ud X.K fd ps [])(hx:HI CX X pq σ E)(I:AB X pq σ H s)(r:AF vs us)(h:sp vs H Q E):Cg (Cj X.prog X.w) X.A (call (.ref f) us) (EP X pq σ Q) X.xe s:=by
 let hl:(us++[]).length=ps.length:=by rw[Jx,<-r.length];show F.len _ _ _ _ h
 let G:=O s us I.kIn hl;rw[Jx]at G;show Ka (Kg (F.run X.A X.stack s H {us,[]} us vs Q E J I.env0 G r h) λr s' B=>?_);cases r with
 |error e=>show hx H s e s' I B
 |ok Y =>
  cases Y with
  |ret u=>show I.after B
  |next=>show Cy B
  |brk=>show Cy B
  |cont=>show Cy B
def TX{k:Nat}{sp:Sp}{x:Str}{p:Pos}{E:XK}(C:CalE X.prog X.w X.K X.mg X.base x k ps sp)(Y:AG k X.A)(hg:Gl X x)(hx:HI (CXE X.prog X.w) X pq σ E)(ha:PA X (e::es) t)(G:(x==("__debug__":Str))=false:=by decide)(he:Cr (e::es) X.env=(false,eval e X.env)::Cr es X.env:=by rfl)(B:(Ks dF (Cr es X.env)).any (·.1)=false:=by rfl):PEF X pq σ (.Call (.Name x p) (e::es) [] dF) (GV sp [] E t):=by
 intro s H Q I h;let{f,fd,F,Z,hk,hb}:=C;show Ee (Tz I hg Z ?_ G);show My (h₀:=X.base) I.ok.mod.kin hk (AS (ha dF pq s σ H _ I h) λus s1⟨vs,H1,O,r,q⟩=>{O.kIn,?_}) he B;show zK F Y hb hx O r (by have J:sp (vs++[]) H1 Q E:=q;rw[Jx]at J;show J)
def PSF1(X:Cx)(pq:List (Addr×Obj))(σ:St)(st:Stmt)(t:TS):Prop:=∀(s:Cc)(H:Hp)(D:Ends),AB X pq σ H s->t D σ H->Cg (Cj X.prog X.w) X.A (exec st X.env) (SP X pq D) X.xe s
theorem YT(h:PSF1 X pq σ st ts):PSF X pq σ [st] ts:=by
 intro s H D I q;show KF (BJ (h s H D I q) (λf B h1=>?_) λ_ _ z=>z);cases f with
 |next=>show Kf h1
 |brk=>show h1
 |cont=>show h1
 |ret u=>show h1
def aK(G:PEF X pq σ e te)(hs:Mh e none dF.line X.env=pure false:=by rfl):PSF1 X pq σ (.Expr e dF) (NM te):=by
 intro s H D I h;show wpAny_Expr_any (AS (G s H _ I h) λv O⟨x,H1,J,Y,B⟩=>{σ,H1,J,B}) I.quiet hs
end
end L2
namespace L2
open PySem PySem.Spec PyProof.Rows PySem.W
def spX1(C:Addr)(f:Str):Sp:=λvs H Q _=>∃(ea:Addr)(y:V),vs=[.ref ea,y]/\H ea=some (.ext (BL ea C none))/\∀d,H d=none->d≠ea->Q .non (upd (upd H ea (.ext (BL ea C (some d)))) d (.ext (xdP d [(f,y)])))
def kC{dC:Heap}(F:AY K x x st f fd)(G:AK P w K mg dC (CXE P w) k f fd ps sp)(m:mg x=some (.ref f))(b:Ud K fd ps []) :
  CalE P w K mg dC x k ps sp:={f,fd,G,m,F.kp,b}
def U1:K1 "ValueError"=some (.type "ValueError"):=by kernel_rfl
def gC{K:Frag}{f:Str}(h:X.K=K)(G:PE X o ta)(B:Ht o f X.env (eval o X.env)=eval o X.env):PE X (.Attribute o f dF) (OJ K ta f):=by subst h;show Zrj G B
end L2
namespace L2
open PySem PySem.Spec PyProof.Rows
def fR(l:Addr)(B:Array Ca)(n:Nat)(b:Addr)(dJ:Array Ca)(Y:Nat)(sl:Array (Option Ca))(Z:¬(!B.isEmpty&&Ej (B.size+dJ.size))=true)(O:B.size<=Cb)(J:B.size+dJ.size<=Cb+1) :
  Meets (Builtin.«list.extend» {[.ref l,.ref b],[]}) (λ_ R s=>s.heap.get? l=some {cls:=.type "list",dict:=none,data:=.seq B n,slots:=#[]}/\s.heap.get? b=some {cls:=.type "tuple",dict:=none,data:=.seq dJ Y,slots:=sl}/\R (.ok (.ret Ca.none)) {s with heap:=s.heap.update l (Cu λx=>x++dJ),toks:=s.toks}) :=
 .of_wp λprog w A R s h=>by
  let{hp,g,d,tk,os}:=s;let{hl,hb,h}:=h;let f1:=AutoSeq1.idx_int;let f2:=AutoSeq1.sub_tuple_tuple;let f3:=Oa;let f4:=AutoSeq1.sub_tuple_list;let f5:=AutoSeq1.sub_list_tuple;
  let G:(B++dJ).size<=Cb+1:=by rw[Array.size_append];show J
  wp_walk using(wpAny_updateSeq hl W (hz:=O) (_hz':=G)),YS hl,YS hb;show{·,h}
def RV:V->List V->Hp->VK->Prop:=λx vs H Q=>∃l b xs h,x=.ref l/\vs=[.ref b]/\H l=some (.lst xs)/\H b=some (.tup h)/\xs.length+h.length<=Cb/\Q .non (upd H l (.lst (xs++h)))
theorem zH :MtM X "list.extend" RV:=by
 intro pq s σ H x vs v us Q I rx rv h;let{l,b,xs,zs,rfl,rfl,hH,hB,hz,q}:=h;cases rx;let{u,rfl,ru}:=rv.one;cases ru;let{z,its,n,r,hl,e}:=I.lstM hH;let{z2,B,Z,{{c,J,dt,sl},e2,Y,n2,O,G}}:=I.hok b _ hB
 replace Y:c=.type "tuple":=Y
 replace O:dt=.seq B.toArray n2:=O
 replace G:J=none:=G
 subst Y O G;let a0:=Z.length;let hsz:its.toArray.size+B.toArray.size<=Cb:=by rw[Jp,Jp];lia
 let hlong:¬ (!its.toArray.isEmpty&&Ej (its.toArray.size+B.toArray.size))=true:=by
  rw[M0 hsz,cS];show Gb
 show Kl Es {_,e,W} QD (PN _ _)
  (fR l its.toArray n b B.toArray n2 sl hlong (by rw[Jp];lia) ()) {e,e2,?_}
 show{.non,_,I.lset (its':=its++B) hH e (by simp) (r.append Z) ?_,W,q};rw[Jc];lia
end L2
namespace L2
open PySem PySem.Spec PyProof.Rows PySem.W
def Oo(C:Addr):Sp:=λvs H Q _=>∃(x:Addr)(S:List Pr)(s:Int),vs=[.ref x,.int s]/\Tq C H x S/\(∀p∈S,p.1=s->∀t,H t=some (.tup (p.2.map V.int))->Q (.ref t) H)/\((∀p∈S,p.1≠s)->Q .non H)
def CalE.calm{dC:Heap}(C:CalE P w K mg dC x k ps sp)(h:∀vs H Q E,sp' vs H Q E->sp vs H Q E0):Aq P w K mg dC x k ps sp' :=
 let{f,fd,a,b,c,d}:=C
 {f,fd,a.calm h,b,c,d}
end L2
namespace L2
open PySem PySem.Spec PyProof.Rows
set_option genInjectivity true in
inductive NI where
 |k (z:Int)|t (x:List Int)|b (t:Bool)
 deriving DecidableEq
variable{ks:List L2.NI}
def NI.sh:NI->Nat
 |.k _=>0
 |.t _=>1
 |.b _=>2
def niH:NI->Int
 |.k z=>hashInt z
 |.t x=>reduceHash (C7 (x.map hashInt))
 |.b t=>hashInt (if t then 1 else 0)
def nh(ks:List NI):Int:=reduceHash (C7 (ks.map niH))
abbrev Az:=List NI×Addr×V
def CC(d:Addr)(kvs:List Az)(h:Heap):Prop:=kvs.length<=Cb/\(d==Ey)=false/\∃xs:List (List NI×Addr×Ca),Paired (λ(p:Az)(q:List NI×Addr×Ca)=>p.1=q.1/\p.2.1=q.2.1/\AJ p.2.2 q.2.2) kvs xs /\
 ∃o es ep,h.get? d=some o/\o.ExactDict/\o.data=.dict es ep/\es.toList=xs.map (λx=>{nh x.1,.ref x.2.1,x.2.2})/\(xs.map (·.1)).Nodup
def CC.ok{d:Addr}{kvs:List Az}(x:CC d kvs h):Y9 P w H h d (.ext (CC d kvs)):=by
 let{a,b,xs,r,o,es,ep,e,q}:=id x;exists x,{o,e},λh1 h2⟨a1,Z,B,O,o1,G,J,e1,Y⟩k=>{a1,Z,B,O,o1,G,J,k _ e1,Y}
def NkV(K:Cq)(H:Hp):NI->V->Prop
 |.k z,v=>v=.int z
 |.t x,v=>∃a,v=.ref a/\A2 K H a (x.map V.int)
 |.b t,v=>v=.bl t
def Aj(K:Cq)(H:Hp)(ks:List NI)(a:Addr):Prop:=∃vs,A2 K H a vs/\Paired (NkV K H) ks vs
def MA(tk:∀b u,Rd H b (.tup u)->Rd H' b (.tup u))(h:A2 K H a xs):A2 K H' a xs:=by
 rcases h with h|h
 .show .inl (tk _ _ h)
 .show .inr h
theorem NkV.tk(tk:∀b u,Rd H b (.tup u)->Rd H' b (.tup u))(h:NkV K H k v):NkV K H' k v:=by
 cases k with
 |k z=>show h
 |t x=>obtain⟨a,e,q⟩:=h;show{a,e,MA tk q}
 |b t=>show h
theorem Aj.tk(tk:∀b u,Rd H b (.tup u)->Rd H' b (.tup u))(h:Aj K H ks a):Aj K H' ks a:=by
 let{vs,e,r}:=h;exists vs,MA tk e,Paired.mapP r λ_ _ z=>z.tk tk
def Aj.same(s:AL H H')(h:Aj K H ks a):Aj K H' ks a:=h.tk λb u r=>by
 rcases r with r|⟨o,r⟩
 .show .inl (s _ _ r)
 .show .inr {o,s _ _ r}
def Qg(s:AL H H')(h:A2 K H a xs):A2 K H' a xs:=MA (λb u r=>by
 rcases r with r|⟨o,r⟩
 .show .inl (s _ _ r)
 .show .inr {o,s _ _ r}) h
def CC.ne{a:Addr}{kvs:List Az}{G:Heap->Prop}(o:Obj){vs:Array Ca}(hd:o.data=.fields vs)(B:∀h:Heap,h.get? a=some o->G h)(e:CC a kvs=G):False:=by
 let g:(Heap.get? {objs:=Array.replicate (a+1) o} a)=some o:=by
  let{c,O,da,sl}:=o;cases hd;unfold Heap.get?;let z:(Array.replicate (a+1) ({c,O,.fields vs,sl}:Obj))[a]?=some {c,O,.fields vs,sl}:=by simp
  simp only[z]
 let x:=B _ g;rw[<-e]at x;let{_,_,xs,_,Z,es,ep,J,_,Y,_}:=x;rw[g]at J;cases J;rw[hd]at Y;cases Y
theorem bP :∀k,k<=ns.length->preSum (λi=>(ns[i]?).getD 0) k=(ns.take k).sum
 |0,_=>rfl
 |k+1,h=>by
  let B:k<ns.length:=by lia
  rw[preSum,bP k (),Jh B,List.sum_append,Jb B];simp
section
theorem AF.int_get :∀{us:List Ca}{i:Nat}{v:Ca},AF (ns.map V.int) us->us[i]?=some v->∃t,v=.int ((ns[i]?).getD 0) t:=by
 induction ns with
 |nil=>intro us i v r e;cases r;simp at e
 |cons n r J =>
  intro us i v h e;rw[Jm]at h;cases h with
  |cons G B =>
   cases i with
   |zero =>
    let{t,rfl}:=G;simp at e;show{t,by rw[<-e];rfl}
   |succ i=>simpa using J B (by simpa using e)
def sE(hc:X.calm=true):W5 X (.builtin "sum") (λxs H Q=>∃(p:Addr)(ns:List Int),xs=[.ref p]/\Ad X.K H p (ns.map V.int)/\Q (.int ns.sum) H):=by
 intro pq s σ H xs us Q I r h;let{p,ns,rfl,Z,q}:=h;let{u,rfl,Y}:=P3 r;cases Y;let{its,O,pl,hz}:=I.list Z;let B:=O.length;rw[Ja]at B;let G:p<s.heap.objs.size:=by let{_,e,_}:=pl.isList;show D7 e
 show call_sum_walkAnyS (Ln pl.isList ?_);show{s.heap.objs.size,[s.heap.objs.size,p],[s.heap.objs.size],_,its.toArray.size,_,_,λi=>(ns[i]?).getD 0,W,(Walks.list (A:=X.A.in1) (I.ok.hd hc) _ p (Gk G) its.toArray).toS,
  {{_,D6 _ W,W,W},pl.isList.push _},λb J=>?_,λi v hP=>?_,λs' t' hm=>?_}
 .rcases Gd.mp J with e|J
  .rw[e];show _<(s.heap.push _).objs.size;simp[Heap.push]
  .rw[Jj.mp J];show _<(s.heap.push _).objs.size;simp only[Heap.push,Array.size_push];show B8 G
 .show AF.int_get O (by simpa using hP)
 .rw[Jp,<-B,bP _ (Jk _),Gc];let{h1,h2,h3,h4,h5}:=hm;let e:s'={s with heap:=s'.heap,toks:=s'.toks}:=by
   let{a1,a2,a3,a4,a5}:=s';simp only at h2 h3 h4;subst h2 h3 h4;rfl
  rw[e];show{.int _,H,I.kept (t':=s'.toks) (Mv h1),{t',W},q}
end
section
variable{d:Addr}{i:Nat}{od:Obj}{tab:Array DictEntry}{Q:Option Ca->Cc->Prop}
theorem YE(h:s.heap.IsKeyIter it d i tab.size ep)(gd:s.heap.get? d=some od)(Y:od.data=.dict tab ep)(lt:i<tab.size)(fin:∀h',h'.IsKeyIter it d (i+1) tab.size ep->Hm it s.heap h'->Q (some tab[i].key) {s with heap:=h'}):Cg (Cj prog w) A (DI (.ref it)) Q E s:=by
 let{oi,O,ci,J}:=id h;let B:Builtin.Dict_items.ownsTuple "dict_keyiterator"=false:=by decide
 let ng:¬ ((i:Int)<0):=by lia
 unfold DI;show D3 (Hy (Hw (name:=E7 "__next__") h.typeIs F.slot_dict_keyiterator_next (Ea F.slot_dict_keyiterator_next h.typeIs F.entry_dict_keyiterator_next ?_ (F.args_dict_keyiterator_next_1 _))));show D3 (D4 (D3 (D3 ?_)))
 first|show D3 (wpAny_typeNameOfWhole_keyiter h.typeIs (D4 ?_))|show D3 (wpAny_typeNameOf_keyiter h.typeIs (D4 ?_))
 show D3 (wpAny_fieldsOf O J ?_);simp only[B,Gg,if_false];let Z:¬ ((Cd d==Ca.none)=true):=Gb;show Eq.mpr (congrArg (λz=>Cg (Cj prog w) _ z _ _ s) (D8 Z)) ?_;show D3 (D4 (D3 (wpAny_dictEntries gd Y ?_)));rw[D8 (by simp)];show D3 (D4 (D3 (wpAny_dictEpoch gd Y ?_)));rw[D8 (by simp)];show D4 ?_;simp only[ng,if_false,G6,G5 lt];show D3 ?_
 first|show D3 (wpAny_typeNameOfWhole_keyiter h.typeIs (D4 ?_))|show D3 (wpAny_typeNameOf_keyiter h.typeIs (D4 ?_))
 show D3 (wpAny_isOneOf_keyiter h.typeIs ?_);show D3 (m:=setField (.ref it) 1 (Hh ((i:Int)+1))) (wpAny_setField O J (by simp) ?_);let G:(s.heap.update it (Li (·.setIfInBounds 1 (Hh ((i:Int)+1))))).IsKeyIter it d (i+1) tab.size ep :=
  {_,Ew _ O (Kj (Lh J _)),(Obj.cls_mapFields ..).trans ci,by rw[Lh J];simp[Hh]}
 show D3 (Cz (D3 (wpAny_isOneOf_keyiter (s:={s with heap:=s.heap.update it (Li (·.setIfInBounds 1 (Hh ((i:Int)+1))))}) G.typeIs ?_)));show Cg _ _ (pure tab[i].key) _ _ _;show D4 (D4 {_,W,D4 (fin _ G (Eg ..))})
theorem US(calm:A.handled=none)(h:s.heap.IsKeyIter it d i tab.size ep)(gd:s.heap.get? d=some od)(O:od.data=.dict tab ep)(ge:tab.size<=i)(fin:∀h',Heap.ExtBut it s.heap h'->Q none {s with heap:=h'}):Cg (Cj prog w) A (DI (.ref it)) Q E s:=by
 let{oi,G,ci,J}:=id h;let B:Builtin.Dict_items.ownsTuple "dict_keyiterator"=false:=by decide
 let Z:¬ ((i:Int)<0):=by lia
 let Y:¬ ((Cd d==Ca.none)=true):=Gb;unfold DI;show D3 (Hy (Hw (name:=E7 "__next__") h.typeIs F.slot_dict_keyiterator_next (Ea F.slot_dict_keyiterator_next h.typeIs F.entry_dict_keyiterator_next ?_ (F.args_dict_keyiterator_next_1 _))));show D3 (D4 (D3 (D3 ?_)))
 first|show D3 (wpAny_typeNameOfWhole_keyiter h.typeIs (D4 ?_))|show D3 (wpAny_typeNameOf_keyiter h.typeIs (D4 ?_))
 show D3 (wpAny_fieldsOf G J ?_);simp only[B,Gg,if_false];show Eq.mpr (congrArg (λz=>Cg (Cj prog w) _ z _ _ s) (D8 Y)) ?_;show D3 (D4 (D3 (wpAny_dictEntries gd O ?_)));rw[D8 (by simp)];show D3 (D4 (D3 (wpAny_dictEpoch gd O ?_)));rw[D8 (by simp)];show D4 ?_;simp only[Z,if_false,G6,Array.getElem?_eq_none ge];show D3 ?_
 first|show D3 (wpAny_typeNameOfWhole_keyiter h.typeIs (D4 ?_))|show D3 (wpAny_typeNameOf_keyiter h.typeIs (D4 ?_))
 show D3 (m:=setField (.ref it) 0 .none) (wpAny_setField G J (by simp) ?_);show D3 (m:=newExc (.type "StopIteration") []) ?_;simp only[newExc,newTuple];show D3 (Ei (D3 (m:=firstArgMember _ _) (wpAny_of_eq (a:=Ca.none) (by first|rfl|(simp only[firstArgMember];rfl)) (Ei ?_ (by size_fits)))) (by size_fits));simp only[raiseNew];show D3 (wpAny_handled ?_);rw[show A.in1.handled=none from calm];show D3 (m:=_) (D4 (wpAny_throw ?_));show D3 (m:=_) (wpAny_isInstance (T:="StopIteration") (b:=true) {_,D6 _ rfl,rfl} isSubtype_stop ?_);show D4 (fin _ (((Eg ..).extBut.push _).push _))
end
def WV{d:Addr}{od:Obj}{tab:Array DictEntry}{Q:Ca->Cc->Prop}(hd:(d==Ey)=false)(gd:s.heap.get? d=some od)(ex:od.ExactDict)(h:od.data=.dict tab ep)(fin:Q (.ref s.heap.objs.size) {s with heap:=s.heap.push {cls:=.type "dict_keyiterator",data:=.fields #[.ref d,.int 0 0,.int tab.size 0,.int ep 0]} }):Cg (Cj prog w) A (pyIter (.ref d)) Q E s:=by
 let ty:s.TypeIs (.ref d) "dict":={od,gd,ex.1};show wpAny_pyIter_slot ty F.slot_dict_iter (Ea F.slot_dict_iter ty F.entry_dict_iter ?_ (F.args_dict_iter_1 _));unfold Builtin.«dict.__iter__»;show D3 (m:=Builtin.Dict.dictSlotNone _ _) ?_;unfold Builtin.Dict.dictSlotNone;show D3 (wpAny_notOrdered_dict ty (D4 (a:=Cd d) ?_));show D3 (m:=Builtin.Dict.showsAll d) ?_;unfold Builtin.Dict.showsAll;rw[D8 (by rw[hd];show Gb)];show D4 (D3 (wpAny_dictEntries gd h ?_));show D3 (wpAny_dictEpoch gd h ?_);show D3 (Ei (D4 {_,W,"dict_keyiterator",_,{_,D6 _ W,W},F.slot_dict_keyiterator_next.lookup,?_}))
 simpa[Hh]using fin
def mM{d:Addr}{od:Obj}{tab:Array DictEntry}(lo:(d==Ey)=false)(ex:od.ExactDict)(O:od.data=.dict tab ep) :
  W.KdlSrc prog w "dict" d d tab.size (λi v=>∃h:i<tab.size,v=tab[i].key) (λh=>h.get? d=some od) where
 type:=λ_ ok=>{od,ok,ex.1}
 there:=λ_ ok=>{D7 ok,D7 ok}
 keep:=λ_ _ ok Z=>Z d (.inl rfl) od ok
 notList:=by decide
 notTuple:=by decide
 hint:=λ_ _ _ _ ok B=>W.kdl_hint_dict {od,ok,ex.1} B
 iter:=λA s hh ok=>{{cls:=.type "dict_keyiterator",data:=.fields #[.ref d,.int 0 0,.int tab.size 0,.int ep 0]},λi h=>h.IsKeyIter s.heap.objs.size d i tab.size ep/\h.get? d=some od,
  λ_ _ B=>WV lo ok ex O B,
  {
   sub:=λb G=>by rw[Jj.mp G];show Je
   frame:=λi h h' st k=>{by let{{o,e,r},_}:=st;show{o,k _ Je o e,r},k d (Jg _ Je) od st.2}
   item:=λi s' Q E hi st J=>YE st.1 st.2 O hi λh' Y sb=>by
    let:=J tab[i].key h' s'.toks {hi,rfl} {Y,(sb.2 d (Gk (D7 ok))).trans st.2} λb o G e=>(sb.2 b (λz=>G (by rw[z];show Jj.mpr rfl))).trans e;show this
   done:=λs' Q E st J=>US hh st.1 st.2 O (Jk _) λh' eb=>J h' s'.toks λb o G e=>eb b o (λz=>G (by rw[z];show Jj.mpr rfl)) e
   self:=λi s' Q E st B=>wpAny_pyIter_keyiter st.1 B},
  {{_,D6 _ rfl,rfl,rfl},D5 _ ok}}
end L2
variable{ks:List L2.NI}
namespace L2
open PySem PySem.W PyProof.Rows HT PySem.Calls
section
theorem SZ:∀{L:List BM}{us:List Ca},AF (L.map λq=>V.ref q.2.1) us->us=Zg L
 |[],_,h=>by cases h;rfl
 |q::L,_,h=>by
  cases h with
  |cons a b=>rw[SZ b,show _=Cd q.2.1 from a];rfl
end
section
def iI{xs ys:List Ca}{a b:Addr}{oa ob:Obj}{P:Ld->Cc->Prop}(ha:s.heap.get? a=some oa)(da:oa.data=.seq xs.toArray na)(hb:s.heap.get? b=some ob)(cb:ob.cls=.type "tuple")(db:ob.data=.seq ys.toArray nb)(ia:E9 xs ns)(ib:E9 ys ms)(h:P (.done (.ret (.bool (lexLt ns ms)))) s):Cg (Cj prog w) A (Builtin.«tuple.__lt__» {[.ref a,.ref b],[]}) P E s:=by
 show Cg _ _ (K6 (.ref b) (.type "tuple") >>= _) _ _ s;show D3 (wpAny_isInstance {ob,hb,cb} isSubtype_tuple_tuple ?_);simp only[Bx,Gg,if_false];show D3 (Kd ha da ?_);show D3 (Kd hb db ?_);show D3 ?_;simp only[O1];show wpAny_forIn_list _
  (λdG r s'=>r.1=none/\s'=s/\∃Y Z J G,dG=List.zip J G/\E9 J Y/\E9 G Z/\lexLt Y Z=lexLt ns ms/\decide (J.length<G.length)=decide (xs.length<ys.length))
  _ ?_ ?_ _ _ {W,W,ns,ms,xs,ys,W,ia,ib,W,W}
 .rintro⟨u,v⟩ dG r s' ⟨hr,rfl,Y,Z,J,G,hz,a1,a0,B,O⟩;cases a1 with
  |nil=>simp at hz
  | @cons k1 t1 x'' xs'' hx'' =>
   cases a0 with
   |nil=>simp at hz
   | @cons k2 t2 y'' ys'' hy'' =>
    simp only[F5,List.cons.injEq,Prod.mk.injEq]at hz;let{{rfl,rfl},rfl}:=hz;show D3 (L5 ?_)
    by_cases hk:k1=k2
    .subst hk;rw[beq_self_eq_true];simp only[Bx,Gg,if_false];show D4 {W,W,_,_,_,_,W,hx'',hy'',?_,by simpa using O};rw[<-B,lexLt_cons,D9 W]
    .rw[show(k1==k2)=false from beq_eq_false_iff_ne.mpr hk];simp only[Bool.not_false,if_true];show D3 (Ez ?_);show D3 (show Cg _ _ (Eu .Lt (.int k1 t1) (.int k2 t2)) _ _ _ from wpAny_lt_int ?_);rw[<-B,lexLt_cons,D8 hk]at h;show D3 (D4 (D4 (D4 h)))
 .rintro⟨r1,r2⟩ s' ⟨hr,rfl,Y,Z,J,G,hz,a1,a0,B,O⟩;simp only at hr;subst hr;show D4 ?_;let a2:uL CmpOp.Lt xs.toArray.size ys.toArray.size=.bool (lexLt ns ms):=by
   show K0 (decide (xs.toArray.size<ys.toArray.size))=_;rw[Jp,Jp,<-O,<-B];cases a1 with
   |nil =>
    cases a0 with
    |nil=>rfl
    |cons _ _ _=>simp[HT.lexLt]
   |cons _ _ _ =>
    cases a0 with
    |nil=>simp[HT.lexLt]
    |cons _ _ _=>simp at hz
  rwa[a2]
def xH{xs ys:List Ca}{a b:Addr}{B G:Obj}{Q:Ca->Cc->Prop}(Z:A.units<E8)(J:s.heap.get? a=some B)(ca:B.cls=.type "tuple")(da:B.data=.seq xs.toArray na)(O:s.heap.get? b=some G)(Y:G.cls=.type "tuple")(db:G.data=.seq ys.toArray nb)(ia:E9 xs ns)(ib:E9 ys ms)(h:Q (.bool (lexLt ns ms)) s):Cg (Cj prog w) A (Eu .Lt (.ref a) (.ref b)) Q E s :=
 wpAny_richCompare_same_room (op:=.Lt) {B,J,ca} {G,O,Y} Om (Ea Om {B,J,ca} F.entry_tuple_lt (iI J da O Y db ia ib {_,W,(λe=>nomatch e),h}) (F.args_tuple_lt_2 _ _)) Z
end
section
theorem items_int :∀{ns:List Int}{vs:List Ca},E9 vs ns->ItemsAre (intKind prog w) ns vs.toArray.toList:=by
 intro _ _ B;cases B with
 |nil=>
  show .nil
 |cons n t h=>
  show .cons (by show HA n (Mf n t)=true;simp[HA]) (items_int h)
end
end L2
namespace L2
open PySem PySem.W PySem.Spec PyProof.Rows
section
def Og(K:Cq):R2:=λx y H Q=>∃a b ys,x=.ref a/\y=.ref b/\A2 K H a []/\A2 K H b ys/\Q (.ref b) H
def yH:Ay X (Hs .Add) (Og X.K):=by
 intro pq s σ H x y v u Q I rx ry h;let{a,b,ys,rfl,rfl,ha,hb,q}:=h;cases rx;cases ry;let{its,r1,p1,_}:=I.tuple ha;let{B,r2,p2,_}:=I.tuple hb;cases r1;let{{cls,dd,data,sl},ho,hc,n,hd}:=id p1;let{{a0,Z,data2,Y},G,O,n2,J}:=id p2;simp only at hc hd O J;subst hc hd O J;show concat_meets {_,ho,W} {_,G,W} OM seq_tuple_add Lj K9 (K4 _ _)
  (tuple_addW0 a b _ B.toArray n n2 dd Z sl Y W) {ho,G,{.ref b,H,I,W,q}}
end
end L2
namespace L2
open PySem PySem.W PyProof.Rows HT PySem.Calls
section
def iL(K:PySem.W.Frag):List V->Hp->VK->Prop:=λxs H Q=>∃(l:Addr)(ns:List Int),xs=[.ref l]/\Ad K H l (ns.map V.int)/\ns.length<64 /\
 ∀(D:Addr)(h:List Int),H D=none->h.Perm ns->h.Pairwise (·<=·)->Q (.ref D) (upd H D (.lst (h.map V.int)))
theorem Zgx{K:PySem.W.Frag}(hK:X.K=K):W5 X (.builtin "sorted") (iL K):=by
 intro pq s σ H xs us Q I r h;let{l,ns,rfl,hl,a0,q}:=h;let{u,rfl,rx}:=P3 r;cases rx;subst hK;let{its,rv,pl,_}:=I.list hl;let Y:=We rv;let el:=Y.length;show sorted_ints pl.isList Y () λout G a1 Z a3=>?_;let hsz:((s.heap.push (Ep "list" #[] 0)).update s.heap.objs.size (Cu (·++its.toArray))).objs.size=s.heap.objs.size+1:=by
  rw[Heap.size_update,GR]
 let J:(((s.heap.push (Ep "list" #[] 0)).update s.heap.objs.size (Cu (·++its.toArray))).push (Ep "list" its.toArray 0)).get? (s.heap.objs.size+1)=some (Ep "list" its.toArray 0):=by
  rw[<-hsz];show D6 _ W
 let keep:∀b o,s.heap.get? b=some o->(((s.heap.push (Ep "list" #[] 0)).update s.heap.objs.size (Cu (·++its.toArray))).push (Ep "list" its.toArray 0)).get? b=some o:=λb o q=>by
  let B:b<s.heap.objs.size:=D7 q;rw[Ko _ _ _ (by rw[hsz];show Gk (B8 B)),Heap.get?_update_ne _ _ _ _ (Gk B),Ko _ _ _ (Gk B)];show q
 let{e,he}:=sortedHeap_at (vs:=its) (out:=out) J;show{.ref (s.heap.objs.size+1),_,I.laid (a:=s.heap.objs.size+1) (t':=s.toks) (λb o eb=>?_) (Bg _) (show Y9 X.prog X.w _ _ _ (.lst (G.map V.int))from{?_,out.toList,e,NE a1,he}),W,q _ G (I.hok.fresh (Bg _)) Z a3}
 .let O:s.heap.get? b=some o:=eb;let B:b<s.heap.objs.size:=D7 O;show(sortedHeap _ _ _ _).get? b=_;rw[sortedHeap_old (Gk (B8 B)) (by rw[GR,hsz];show B8 (B8 B))];show keep b o O
 .rw[Ja,Z.length_eq,C3];lia
end
end L2
namespace L2
open PySem PySem.Spec PyProof.Rows PySem.W
section
variable{g:Array GenState}{d:Drawn}{t:Nat}{os:OsState}
abbrev tupO(dG:List Ca):Obj:={cls:=.type "tuple",data:=.seq dG.toArray}
abbrev excO(C:Addr)(a:Addr):Obj:={cls:=.ref C,data:=.fields #[.ref a,.none,.none,.none,.bool false,.none]}
def tG{Q:Ld->Cc->Prop}(x:ExcA h C (some none))(sz:dG.length<=Cb)(k:∀h',(∀b o,h.get? b=some o->h'.get? b=some o)->h'.get? (h.objs.size+1)=some (excO C (h.objs.size+2))->Q (.done (.ret (.ref (h.objs.size+1)))) {h',g,d,t,os}) :
  Cg (Cj prog w) A (Builtin.«type.__call__» {.ref C::dG,[]}) Q E {h,g,d,t,os}:=by
 let{bm,N,nm,q,bs,sn,sub,ab,a0,dd,k0,k1,k2,k3,k5,mN,J,cN,cI,T}:=x;let cI:=cI _ W;let F:=PySem.F.excBase_ValueError
 repeat (first|wp_step|with_reducible show Ec J ?_|with_reducible show wpAny_madeBy_exc J ?_)
 show codeAny_call_builtin_code (He _ F.quiet) (wpAny_check_new_subT F T J ?_);show codeAny_exc_new_subT F T J ?_ sz;show Cg _ _ _ _ _ _;let O:∀b o,h.get? b=some o->((h.push (tupO dG)).push (excO C h.objs.size)).get? b=some o:=λb o e=>D5 _ (D5 _ e);let G:((h.push (tupO dG)).push (excO C h.objs.size)).get? (h.objs.size+1)=some (excO C h.objs.size):=by heap_get
 let B:=O _ _ J;let Z:=cN.keeps O;let T1:=T.keeps O;let self:(Cd C::bm).contains (.ref C)=true:=by simp
 unfold K6
 repeat (first|with_reducible show Ec G ?_|(with_reducible show Mp B ?_;rw[self])|wp_step)
 show Cg _ _ (FG (.ref C) _) _ _ _;show wpAny_typeLookup_tail B Z T1 F.mroIs F.init.lookup ?_;rw[cI];show Cz (D3 (wpAny_of_eq (F.init.bind _) ?_));show D3 (Ka (Kv F.init.plain F.initEntry (wpAny_check_init_subT F T1 B G W ?_)))
 wp_walk
 show k _ (λb o hb=>?_) ?_
 .let Y:b<h.objs.size:=D7 hb;rw[Cv _ _ (λz=>D0 (z ▸ Y) (Dy.mpr (Bg _)))];show D5 _ (O b o hb)
 .rw[Ew _ (D5 _ G) W];simp only[Kw];rfl
def rS{Q:Ca->Cc->Prop}(x:ExcA h C (some none))(sz:dG.length<=Cb)(k:∀h',(∀b o,h.get? b=some o->h'.get? b=some o)->h'.get? (h.objs.size+1)=some (excO C (h.objs.size+2))->Q (.ref (h.objs.size+1)) {h',g,d,t,os}) :
  Cg (Cj prog w) A (call (.ref C) dG) Q E {h,g,d,t,os}:=by
 let{bm,N,nm,q,bs,Y,sub,ab,G,dd,k0,k1,k2,k3,k5,Z,B,cN,cI,T}:=id x;let O:=tc_lookup;let J:=tc_bind (.ref C);let ty:({h,g,d,t,os}:Cc).TypeIs (.ref C) "type":={_,B,W};show Ka (LP ?_);show Cg _ _ (callAny (.ref C) _) _ _ _
 repeat (any_goals (first|assumption|wp_step|with_reducible show Ec B ?_))
 show{W,?_};show codeAny_call_builtin_at (He _ (by decide +kernel)) entry_typeCall (wpAny_check_type_call_sub B (tG x sz k))
end
def YY(C:Addr)(E:XK):TS:=λ_ σ H=>∀ea,H ea=none->E (.ref C) none (upd H ea (.ext (Ac ea C none)))
section
variable{K:Frag}{dC:Heap}{dE:Scope}{dD:List Env}{E:XK}
def Ziy(J:CZ K C fI)(xi:S6 K C=some none)(hm:mg x=some (.ref C))(hg:Gl (CV P w K mg dC N dH dE f cd A dD s H E) x)(Y:(x==("__debug__":Str))=false:=by decide) :
  PS (CV P w K mg dC N dH dE f cd A dD s H E) (.Raise (some (.Call (.Name x np) [] [] dY)) none dF) (YY C E):=by
 intro pq s1 σ H1 D I h;rw[arm_exec_Raise];show D3 (E5 (Ni (C:=C) (oi:=S6 K C) (I.ok.hd W) ?_));show D3 (BJ ?_ (λv s3 h3=>D3 (E5 (D4 h3))) λ_ _ z=>z);show Ee (Tz I hg hm ?_ Y);show VH I.kIn J.kp ?_;let Z:=T8 I.kIn J.ei;let G:S6 (CV P w K mg dC N dH dE f cd A dD s H E).K C=some none:=xi;rw[G]at Z;let lz:=I.sz;let{B,gg,dd,tt,oo}:=s1;show rS Z (J9 _) λh' kp O=>?_;let I4:AB (CV P w K mg dC N dH dE f cd A dD s H E) pq σ (upd H1 (B.objs.size+1) (.ext (Ac (B.objs.size+1) C none))) {h',gg,dd,tt,oo}:=I.laid (a:=B.objs.size+1) (h':=h') (t':=tt) kp (Bg _) (Ac.ok {_,_,O,W,W,W,W})
 show{B.objs.size+1,_,·,T8 I4.kIn J.ei,O,W,W,W,?_};show cW (T0:=none) I4 Zw (Js lz (Bg _)) (λT z=>by cases z) {_,_,O,W,W} (h _ (I.hok.fresh (Bg _)))
end
end L2
namespace L2
open PySem PySem.W PyProof.Rows HT PySem.Calls
def LtAt(A:Kr)(s:Cc)(u v:Ca)(b:Bool):Prop:=∀(prog:E4)(w:H9)(E:Ca->Cc->Prop)(Q:Ca->Cc->Prop),Q (.bool b) s->Cg (Cj prog w) A (Eu .Lt u v) Q E s
def lexN:(Nat->Bool×Bool)->Nat->Nat->Bool
 |_,0,n=>decide (0<n)
 |_,_+1,0=>false
 |z,m+1,n+1=>if(z 0).1 then lexN (λj=>z (j+1)) m n else(z 0).2
section
def LtAt.int(i j:Int)(t u:Tok):LtAt A s (.int i t) (.int j u) (decide (i<j)):=λprog w E Q h=>wpAny_lt_int h
end
end L2
namespace PySem.SeqAt
open AutoSeq1 (wpAny_loadPart')
open MeetsSeq MeetsSeq2 MeetsSeq3 SeqRoads2
theorem Zjk(l b:Addr)(B dJ:Array Ca)(n n2:Nat)(dd a0:Option Addr)(sl O:Array (Option Ca))(k:Nat) :
  ∀(i:Nat)(z:Nat->Bool×Bool),B.size-i=k->i<=B.size->i<=dJ.size->Meets (Builtin.«list.__eq__.loop» {[.ref l,.ref b,Hh i,Hh 0],[]})
   (λA R s=>s.heap.get? l=some {cls:=.type "list",dict:=dd,data:=.seq B n,slots:=sl}/\s.heap.get? b=some {cls:=.type "list",dict:=a0,data:=.seq dJ n2,slots:=O} /\
    (∀j(h1:i+j<B.size)(h2:i+j<dJ.size),EqAt A.in1 s B[i+j] dJ[i+j] (z j).1/\L2.LtAt A.in1 s B[i+j] dJ[i+j] (z j).2) /\
    R (.ok (.ret (.bool (L2.lexN z (B.size-i) (dJ.size-i))))) s):=by
 induction k with
 |zero =>
  intro i z hk hi Y prog w A R s h;let{hp,g,d,tk,os}:=s;let{hl,G,Z,h}:=h
  wp_walk using C6 hl,C6 G
  let hi1:B[((i:Nat):Int).toNat]?=none:=by simp;lia
  rw[hi1]
  wp_walk using C6 hl,C6 G
  show R (.ok (.ret (.bool (decide (B.size<dJ.size))))) _;rw[show B.size-i=0 by lia,L2.lexN]at h;rwa[show decide (B.size<dJ.size)=decide (0<dJ.size-i)from decide_eq_decide.mpr ()]
 |succ k ih =>
  intro i z hk hi Y prog w A R s h;let{hp,g,d,tk,os}:=s;let{hl,G,Z,h}:=h
  wp_walk using C6 hl,C6 G
  let J:i<B.size:=by lia
  let hi1:B[((i:Nat):Int).toNat]?=some B[i]:=by simp[J]
  let hc:((i:Int)+1)=((i+1:Nat):Int):=by push_cast;rfl
  by_cases hlt2:i<dJ.size
  .let hi2:dJ[((i:Nat):Int).toNat]?=some dJ[i]:=by simp[hlt2]
   rw[show B.size-i=(B.size-(i+1))+1 by lia,show dJ.size-i=(dJ.size-(i+1))+1 by lia,L2.lexN]at h;let{h1,h2}:=Z 0 J hlt2;rw[hi1,hi2];show D3 (h1 prog w _ _ ?_);cases hb':(z 0).1 with
   |true =>
    rw[hb',D9 W]at h
    wp_walk
    rw[hc];show{plainId_quiet plain_eq_loop _,Mo entry_eq_loop (by
     rw[Ku plain_eq_loop _];show ih (i+1) (λj=>z (j+1)) () () () prog w A R _ {hl,G,λj g1 g2=>by
      let:=Z (j+1) () ();simpa only[JO 1 j,<-Fx,Nat.add_right_comm i 1 j]using this,h})}
   |false =>
    rw[hb',D8 nofun]at h
    wp_walk using C6 hl,C6 G
    rw[hi1,hi2];show D3 (h2 prog w _ _ ?_)
    wp_walk
    show h
  .let hi2:dJ[((i:Nat):Int).toNat]?=none:=by simp;lia
   rw[hi1,hi2]
   wp_walk using C6 hl,C6 G
   show R (.ok (.ret (.bool (decide (B.size<dJ.size))))) _;rw[show B.size-i=(B.size-(i+1))+1 by lia,show dJ.size-i=0 by lia,L2.lexN]at h;rwa[BB (show ¬ B.size<dJ.size by lia)]
theorem list_ltAt(l b:Addr)(B dJ:Array Ca)(n O:Nat)(Z J:Option Addr)(sl G:Array (Option Ca))(z:Nat->Bool×Bool) :
  Meets (Builtin.«list.__lt__» {[.ref l,.ref b],[]})
   (λA R s=>s.heap.get? l=some {cls:=.type "list",dict:=Z,data:=.seq B n,slots:=sl}/\s.heap.get? b=some {cls:=.type "list",dict:=J,data:=.seq dJ O,slots:=G} /\
    (∀j(h1:j<B.size)(h2:j<dJ.size),EqAt A.in1 s B[j] dJ[j] (z j).1/\L2.LtAt A.in1 s B[j] dJ[j] (z j).2) /\
    R (.ok (.ret (.bool (L2.lexN z B.size dJ.size)))) s):=by
 intro prog w A R s h;let{hp,g,d,tk,os}:=s;let{hl,Y,he,h}:=h;let f3:=Oa
 wp_walk using C6 hl,C6 Y
 show{plainId_quiet plain_eq_loop _,Mo entry_eq_loop (by
  rw[Ku plain_eq_loop _];show Zjk l b B dJ n O Z J sl G _ 0 z W (J9 _) (J9 _) prog w A R _ {hl,Y,λj h1 h2=>?_,h};let:=he j () ();simpa only[Fv]using this)}
end PySem.SeqAt
namespace L2
open PySem PySem.W PyProof.Rows HT PySem.Calls
section
theorem Tr(h:AG k A):A.units+200<E8:=by have:=h.un;lia
theorem TC:∀(ns ms:List Int),lexN (λj=>(ns[j]? == ms[j]?,decide ((ns[j]?).getD 0<(ms[j]?).getD 0))) ns.length ms.length=HT.lexLt ns ms
 |[],[]=>rfl
 |[],_::_=>rfl
 |_::_,[]=>rfl
 |n::ns,m::ms=>by
  let h:=TC ns ms;rw[Ju,Ju,lexN,HT.lexLt_cons];simp only[List.getElem?_cons_zero,List.getElem?_cons_succ,OT];rw[h]
  by_cases e:n=m
  .rw[D9 e,D9 (by rw[e];show beq_self_eq_true _)]
  .rw[D8 e,D8 (by simp[e])]
theorem Ij(h:E9 us ns):us.length=ns.length/\∀(j:Nat)(B:j<us.length),∃t,us[j]=.int ((ns[j]?).getD 0) t:=by
 induction h with
 |nil=>show{W,λj B=>D0 B (G9 _)}
 |cons n t h G =>
  exists by rw[Ju,Ju,G.1],λj B=>?_;cases j with
  |zero=>show{t,W}
  |succ j=>show G.2 j (Nat.lt_of_succ_lt_succ B)
theorem vI{vs:List Ca}(h1:E9 us ns)(h2:E9 vs ms)(j:Nat)(B:j<us.length)(h:j<vs.length):Jhr A s us[j] vs[j] (ns[j]? == ms[j]?)/\LtAt A s us[j] vs[j] (decide ((ns[j]?).getD 0<(ms[j]?).getD 0)):=by
 let{Y,J}:=Ij h1;let{O,G}:=Ij h2;let{t,e1}:=J j B;let{u,e2}:=G j h;rw[e1,e2];show{?_,.int _ _ _ _};let:=Jhr.int_int (A:=A) (s:=s) ((ns[j]?).getD 0) t ((ms[j]?).getD 0) u;rw[Jb (),Jb ()]at this⊢;show this
end
section
theorem Zjm{L:List BM}(I:AB X pq σ H s)(Y:∀q∈L,Ad X.K H q.2.1 (q.2.2.map V.int))(h2:0<L.length){Q:SortKind->Cc->Prop}(h:Q oneType' s) :
  Cg (Cj X.prog X.w) A (keyKind' (Zg L).toArray) Q E s:=by
 let ty:∀v∈Zg L,Looks (Cj X.prog X.w) s.heap (typeOf v) (.type "list"):=λv B=>by
  let{q,G,rfl}:=Jq.mp B;let{its,rv,pl,_}:=I.list (Y q G);let{o,O,Z,n,hd}:=pl.isList;let:=(show Looks (Cj X.prog X.w) s.heap (typeOf (.ref q.2.1)) o.cls from(Looks.ld O).andThen .now);rwa [Z]at this
 let firsts:∀(vs:List Ca),(∀v∈vs,Looks (Cj X.prog X.w) s.heap (typeOf v) (.type "list"))->∀{Q:List (Option Ca)->Cc->Prop},Q (vs.map λ_=>none) s->Cg (Cj X.prog X.w) A (vs.mapM firstOfTuple') Q E s:=by
  intro vs
  induction vs with
  |nil=>intro _ Q h;rw[List.mapM_nil];show D4 h
  |cons v vs J =>
   intro B Q h;rw[List.mapM_cons];show D3 ?_;rw[kas_first_eq];show D3 (Looks.here (B v Je) ?_);rw[D9 nofun];show D4 ?_;show D3 (J (λx hx=>B x (Jg _ hx)) (Q:=λbs s'=>Cg (Cj X.prog X.w) A (pure (none::bs)) Q E s') (D4 h))
 let hl:(Zg L).length=L.length:=by simp[Zg]
 generalize Zg L=vs at ty hl
 match vs,ty,hl with
 |[],_,hl=>simp at hl;lia
 |v::vs,ty,_ =>
  rw[kat_kind_eq,List.mapM_toArray,map_eq_pure_bind];show D3 (D3 (firsts _ ty (D4 ?_)));rw[D8 (by simp),D8 (by simp)];rw[oneTypeOnly'_eq,List.mapM_toArray,map_eq_pure_bind];show D3 (D3 (D3 (kas_mapM (r:=.type "list") _ (λv B Q' G=>(ty v B).here G) (D4 ?_))));let hall2:((List.map (λ_=>FO "list") (v::vs)).toArray.all λx=>x==FO "list")=true:=by
   simp only[List.all_toArray,List.all_map,List.all_eq_true];intro _ _;rfl
  let h0:(List.map (λ_=>FO "list") (v::vs)).toArray[0]?=some (FO "list"):=by simp
  rw[h0];simp only[hall2,if_true];show D4 (D4 h)
theorem wB{a b:Addr}{Q:Bool->Cc->Prop}(I:AB X pq σ H s)(hu:A.units+120<E8)(h1:Ad X.K H a (ns.map V.int))(h2:Ad X.K H b (ms.map V.int))(h:Q (HT.lexLt ns ms) s):Cg (Cj X.prog X.w) A (oneLt' true (.ref a) (.ref b)) Q E s:=by
 let{its,rv,pl,_}:=I.list h1;let{B,Y,Z,_}:=I.list h2;let i1:=We rv;let i2:=We Y;rw[oneLt'_eq];simp only[if_true];show D3 (wpAny_cRoomFor () ?_);let{{cls,dd,data,sl},ho,hc,n,hd}:=id pl.isList;let{{a2,a1,data2,O},a0,J,n2,G}:=id Z.isList;simp only at hc hd J G;subst hc hd J G;show D3 (wpAny_callSpecialIfBound?_slot {_,ho,W} F.slot_list_lt (Kl F.slot_list_lt {_,ho,W} F.entry_list_lt (F.args_list_lt_2 _ _) (SeqAt.list_ltAt a b its.toArray B.toArray n n2 dd a1 sl O (λj=>(ns[j]? == ms[j]?,decide ((ns[j]?).getD 0<(ms[j]?).getD 0)))) {ho,a0,λj g1 g2=>?_,?_}))
 .simp only[List.getElem_toArray];show vI i1 i2 j (by simpa using g1) (by simpa using g2)
 .rw[Jp,Jp,(Ij i1).1,(Ij i2).1,TC];show Eh h
end
end L2
namespace L2
open PySem PySem.SetTable PyProof.Rows PySem.W
section
theorem S0{α:Type}{f:β->α}{l m:List α}(p:l.Perm m):∀{h:List β},m=h.map f->∃B:List β,B.Perm h/\l=B.map f:=by
 induction p with
 |nil=>show λ{h}e=>{h,.refl _,e}
 |cons x _ ih =>
  intro h e;cases h with
  |nil=>cases e
  |cons b r =>
   rw[Jm]at e;injection e with e1 e2
   let{Y,G,p2}:=ih e2;show{b::Y,G.cons _,by rw[Jm,e1,p2]}
 |swap x y t =>
  intro h e
  match h,e with
  |[],e=>cases e
  |[b],e=>cases e
  |b::c::r,e =>
   rw[Jm,Jm]at e;injection e with e1 e2
   injection e2 with e2 e3
   show{c::b::r,.swap _ _ _,by rw[Jm,Jm,e1,e2,e3]}
 |trans _ _ O J =>
  intro h e;let{q2,p2,e2}:=J e;let{Z,G,e1}:=O e2;show{Z,G.trans p2,e1}
end
end L2
namespace L2
open PySem PySem.W PyProof.Rows HT PySem.Calls
section
def CO:Bool->List τ->List τ
 |true,l=>l.reverse
 |false,l=>l
theorem Sr(b:Bool)(l:List τ):(CO b l).Perm l:=by
 cases b with
 |true=>show LL _
 |false=>show .refl _
theorem OE(f:τ->υ)(b:Bool)(l:List τ):(CO b l).map f=CO b (l.map f):=by
 cases b with
 |true=>show L8 ..
 |false=>rfl
theorem bH(b:Bool)(l:List τ):(if b then l.toArray.reverse else l.toArray)=(CO b l).toArray:=by
 cases b with
 |true=>show List.reverse_toArray
 |false=>rfl
def iZ(D:Addr):Builtin.«list.sort» {[.ref D],[]}=Builtin.«list.sort» {[.ref D],[(E7 "reverse",.bool false)]}:=by kernel_rfl
theorem XR{b:Bool}{κ:SortKind}{L:List BM}(a5:argsOk "sorted" {[.ref l],kw})(a4:∀D,argsOk "list.sort" {[.ref D],kw})(a3:∀D,Builtin.«list.sort» {[.ref D],kw}=Builtin.«list.sort» {[.ref D],[(E7 "reverse",.bool b)]})(I:AB X pq σ H s)(a1:∀{A:Kr}{R:List Ca->Cc->Prop}{E:Ca->Cc->Prop},A.handled=X.A.handled->(∀(h':Heap)(tk:Nat),(∀b o,s.heap.get? b=some o->h'.get? b=some o)->R (Zg L) {s with heap:=h',toks:=tk})->Cg (Cj X.prog X.w) A (collect (.ref l)) R E s)(a9:L.length<65536)(na:(L.map (·.2.1)).Nodup)(nd:(L.map (·.2.2)).Nodup)(hkind:∀(pins':List (Addr×Obj))(s':Cc),AB X pins' σ H s'->1<L.length->∀{E:Ca->Cc->Prop}{A:Kr}{Q:SortKind->Cc->Prop},Q κ s'->Cg (Cj X.prog X.w) A (keyKind' (Zg L).toArray) Q E s')(a2:∀(pins':List (Addr×Obj))(s':Cc),1<L.length->AB X pins' σ H s'->CmpR (Wi ((CO b L).map (·.2.2))) (CO b L).length (kas_ask X.prog X.w X.A.in1.in1 κ (Zg (CO b L))) s')(h:∀(D:Addr)(L':List BM),H D=none->L'.Perm L->L'.Pairwise (λa b=>HT.lexLt a.2.2 b.2.2=true)->Q (.ref D) (upd H D (.lst ((CO b L').map λq=>V.ref q.2.1)))) :
  Cg (Cj X.prog X.w) X.A (call (.builtin "sorted") [.ref l] kw) (EP X pq σ Q) E s:=by
 let el:(Zg L).length=L.length:=by simp[Zg]
 show call_function_entry_kw kind_sorted plain_sorted entry_sorted a5 ?_;unfold Builtin.«sorted»;show D3 (m:=checkCount "sorted" 1 1 _) (D4 ?_);show D3 (a1 W λh1 B keep1=>?_);show D3 (Me ?_ (by rw[C3];lia));let J:AB X pq σ H {s with heap:=h1,toks:=B}:=I.kept (t':=B) keep1;let O:(h1.push (Ep "list" (Zg L).toArray 0)).get? h1.objs.size=some (Ep "list" (Zg L).toArray 0):=D6 _ W;let fD:A3 X pq H h1.objs.size:=J.fpOk (Jk _) (J.hok.fresh (Jk _));let I1:AB X pq σ H {s with heap:=h1.push (Ep "list" (Zg L).toArray 0),toks:=B}:=J.kept (t':=B) λb o e=>D5 _ e
 generalize hD:h1.objs.size=D at *
 generalize hh:h1.push (Ep "list" (Zg L).toArray 0)=hp at *
 show D3 (Cz (wpAny_call_entry_kw PyProof.Rows.slot_list_sort {_,O,W} PyProof.Rows.entry_list_sort ?body (a4 _)))
 case body =>
  show Cg (Cj X.prog X.w) X.A.in1.in1 (Builtin.«list.sort» {[.ref D],kw}) _ _ _;let s1:=Eg hp D (Cu λ_=>(#[]:Array Ca));obtain⟨e1,a0⟩:∃e1,(hp.update D (Cu λ_=>(#[]:Array Ca))).get? D=some (Ep "list" #[] e1):={_,Le O λ_=>#[]};let I2:=(I1.turn1 fD s1).pin1 fD a0 (by intro v;simp);let I3:AB X (pq++[PD D e1]) σ H {s with toks:=B,heap:=((hp.update D (Cu λ_=>(#[]:Array Ca))).push (Ep "tuple" (Zg L).toArray 0)).push (Ep "list" #[] 0)} :=
   I2.kept (t':=B) λb o e=>D5 _ (D5 _ e)
  let pd:=I3.pin (PD D e1) (Jr _ (Jr _ (Jj.mpr W)));let fin:∀(L':List BM)(G:Array Ca),L'.Perm L->L'.Pairwise (λa b=>HT.lexLt a.2.2 b.2.2=true)->G=(Zg L').toArray->∀{R:Ld->Cc->Prop}{A:Kr}{E:Ca->Cc->Prop},(∀s',EP X pq σ Q (.ref D) s'->R (.done (.ret .none)) s') ->
    Cg (Cj X.prog X.w) A (Builtin.List.listUpdate (.ref D) (λ_=>if b then G.reverse else G) >>= λ_=>(pure (.done (.ret .none)):Sem Ld)) R E {s with toks:=B,heap:=((hp.update D (Cu λ_=>(#[]:Array Ca))).push (Ep "tuple" (Zg L).toArray 0)).push (Ep "list" #[] 0)}:=λL' G pm pw ea R A E hR=>by
   let er:(if b then G.reverse else G)=(Zg (CO b L')).toArray:=by
    rw[ea,bH];unfold Zg;rw[OE]
   rw[er];let lr:(Zg (CO b L')).length=L.length:=by unfold Zg;rw[Ja,(Sr b L').length_eq,pm.length_eq]
   show D3 (Lf pd.1 W (D4 (hR _ {.ref D,_,?_,W,h D L' fD.1 pm pw})) (J9 _) (by show(Zg (CO b L')).toArray.size<=_;rw[Jp,lr,C3];lia));let go:∀M:List BM,AF (M.map λq=>V.ref q.2.1) (Zg M):=λM=>by
    induction M with
    |nil=>show .nil
    |cons y r ih=>show .cons W ih
   show((I3.unpinned (pl:=[PD D e1])).turn1 fD (Eg _ D (Cu λ_=>(Zg (CO b L')).toArray))).track (its:=Zg (CO b L')) (Le pd.1 λ_=>(Zg (CO b L')).toArray) fD (go _) (by rw[Ja,(Sr b L').length_eq,pm.length_eq,C3];lia)
  rw[a3,list_sort_rev];show D3 (listItems_at O W ?_);show D3 (Lf O W ?_ (by rw[Jp,C3];lia) (J9 _));show D3 (seqEpoch_at a0 W ?_);show D3 (wpAny_newTuple ?_ (by show(Zg L).length<=_;rw[C3];lia));show D3 (Me ?_ (J9 _));show Cz ?_;show Cg (Cj X.prog X.w) _ _ _ _ {s with toks:=B,heap:=((hp.update D (Cu λ_=>(#[]:Array Ca))).push (Ep "tuple" (Zg L).toArray 0)).push (Ep "list" #[] 0)};dsimp only;let ez:(if b then((Zg L).toArray.zip (Zg L).toArray).reverse else(Zg L).toArray.zip (Zg L).toArray)=(Zg (CO b L)).toArray.zip (Zg (CO b L)).toArray:=by
   let go:∀xs:List Ca,xs.toArray.zip xs.toArray=(xs.map λv=>(v,v)).toArray:=λxs=>by
    apply Array.toList_inj.mp
    rw[ksk_zip]
    induction xs with
    |nil=>rfl
    |cons x r ih=>show congrArg _ ih
   rw[go,go,bH];unfold Zg;rw[OE,OE]
  let hq:∀{A:Kr}{E:Ca->Cc->Prop}{s:Cc}{Q:Ld->Cc->Prop}{m:Sem Ld},Cg (Cj X.prog X.w) A m Q E s->Cg (Cj X.prog X.w) A (if b=true then rule "list.sort.reverse" >>= λ_=>m else m) Q E s:=λhm=>by
   cases b with
   |true=>show D3 (Ez hm)
   |false=>show hm
  show hq ?_;rw[ez];let em:∀M:List BM,(((Zg M).toArray.zip (Zg M).toArray).map (·.2))=(Zg M).toArray:=λM=>by
   apply Array.toList_inj.mp
   rw[Array.toList_map,ksk_zip];simp only[LF (Jk _)]
  by_cases h2:(Zg L).toArray.size<2
  .rw[D9 h2,D9 h2];show D3 (D4 ?_);show D3 (m:=(pure ⟨⟩:StateT Cn Sem Unit).run _) (D4 ?_);let Y:L.length<2:=by simpa[Zg]using h2
   let two:CO b L=L/\L.Pairwise λa b=>HT.lexLt a.2.2 b.2.2=true:=by
    match L,Y with
    |[],_=>show{by cases b<;>rfl,.nil}
    |[q],_=>show{by cases b<;>rfl,Fd _ _}
    |_::_::_,Y=>simp only[Ju]at Y;lia
   show D3 (seqEpoch_at pd.1 W ?_);dsimp only;simp only[bne_self_eq_false,Gg,if_false];show fin L _ (.refl _) two.2 (by rw[two.1];show em L) λs' z=>{_,W,D4 {_,W,z}}
  .rw[D8 h2,D8 h2];let Y:2<=(Zg L).length:=by simpa using h2
   show D3 (hkind _ _ I3 () ?_);let a6:=a2 _ _ () I3;let pr:=Sr b L;let Z:((CO b L).map (·.2.2)).Nodup:=(pr.map _).nodup_iff.mpr nd;let nk:(Zg (CO b L)).Nodup:=by
    let e:Zg (CO b L)=((CO b L).map (·.2.1)).map Cd:=by simp[Zg]
    rw[e];show List.Pairwise.map _ (λa b h z=>h (Cd.inj z)) ((pr.map _).nodup_iff.mpr na)
   generalize CO b L=R at *
   show D3 (BJ (YV (vs:=Zg R) (ks:=Zg R) (rk:=Wi (R.map (·.2.2))) (n:=R.length) W (by simp[Zg]) nk a6 λi j hi hj z=>JX Z (by simpa using hi) (by simpa using hj) z) ?_ λ_ _ x=>x);rintro⟨⟨⟩,a8⟩ s' ⟨p,rfl,g,hs,a7,hf⟩;let{pm,pw}:=LC Z g hs;show D3 (seqEpoch_at pd.1 W ?_);dsimp only;rw[hf];simp only[bne_self_eq_false,Gg,if_false];show fin _ _ (pm.trans pr) pw ?_ λs' z=>{_,W,D4 {_,W,z}};rw[kat_snds W a7]
   congr 1
   show _=((p.toList.map λi=>R.getD i (.non,0,[])).map λq=>Cd q.2.1);rw[Jy];show Bj λi hi=>?_;let hi:i<R.length:=by have:=(G4.mp g.perm).mem_iff.mp hi;simpa using this
   show(Zg R).getD i Ca.none=Cd (R.getD i (.non,0,[])).2.1;rw[show(Zg R).getD i Ca.none=Cd R[i].2.1 from Ys hi,Go,Jb hi];rfl
end
section
def Ig(K:PySem.W.Frag):List V->Hp->VK->Prop:=λxs H Q=>∃(l:Addr)(L:List BM),xs=[.ref l]/\Ad K H l (L.map λq=>V.ref q.2.1)/\L.length<65536/\(∀q∈L,Ad K H q.2.1 (q.2.2.map V.int))/\(L.map (·.2.2)).Nodup /\
 ∀(D:Addr)(L':List BM),H D=none->L'.Perm L->L'.Pairwise (λa b=>HT.lexLt a.2.2 b.2.2=true)->Q (.ref D) (upd H D (.lst (L'.map λq=>V.ref q.2.1)))
theorem Pw{K:PySem.W.Frag}(hK:X.K=K)(hu:X.A.units+200<E8):W5 X (.builtin "sorted") (Ig K):=by
 intro pq s σ H xs us Q I r h;let{l,L,rfl,hl,Y,G,nd,q}:=h;let{u,rfl,rx}:=P3 r;cases rx;subst hK;let na:(L.map (·.2.1)).Nodup:=by
  show Jz.mpr ((Jz.mp nd).imp_of_mem λ{a b}ha hb h z=>h ?_);let{i1,v1,p1,_}:=I.list (G a ha);let{i2,v2,p2,_}:=I.list (G b hb);let{o1,Z,_,n1,d1}:=id p1.isList;let{o2,g2,_,n2,d2}:=id p2.isList;rw[z,g2]at Z;cases Z;rw[d1]at d2;injection d2 with e1 e2
  let e:i1=i2:=by simpa using e1
  subst e;show Ph (We v1) (We v2)
 let{its,rv,pl,_}:=I.list hl;let eI:its=Zg L:=SZ rv;subst eI;show XR (b:=false) (κ:=oneType') (args_sorted1 _) (λ_=>args_list_sort _) iZ I (λ{A R E}_ hR=>?_) Y na nd (λ_ _ J h0{_ _ _}q=>Zjm J G () q) (λ_ _ _ J=>?_) q
 .show collect_list pl.isList ?_ (by simp[Zg];rw[C3];lia);show hR _ s.toks λb o e=>?_;let B:b<s.heap.objs.size:=D7 e;rwa[Heap.get?_update_ne _ _ _ _ (Gk B),Ko _ _ _ (Gk B)]
 .show CmpR (Wi (L.map (·.2.2))) L.length (kas_ask _ _ _ _ (Zg L)) _;intro i j C hi O h;rw[Tc nd (by simpa using hi) (by simpa using O),Ys hi,Ys O]at h;unfold kas_ask;rw[show(Zg L).getD i Ca.none=Cd L[i].2.1 from Ys hi,show(Zg L).getD j Ca.none=Cd L[j].2.1 from Ys O,keyLt'_oneType];show wB J (by show X.A.units+1+1+120<E8;lia) (G _ (Jv hi)) (G _ (Jv O)) h
end
end L2
namespace L2
open PySem PySem.Spec PyProof.Rows
theorem Iz:∀{x y:List Int},x.map (Ed:Int->AI)=y.map Ed->x=y
 |[],[],_=>rfl
 |[],_::_,h=>nomatch h
 |_::_,[],h=>nomatch h
 |a::x,b::y,h=>by
  rw[Jm,Jm]at h;injection h with h1 h2
  rw[Lm h1,Iz h2]
section
variable(P:E4)(w:H9)
def niIs(h:Heap):NI->Ca->Prop
 |.k z,v=>Pe (.inl z) v=true
 |.t x,v=>∃a,v=.ref a/\IsTupleKey (Yo P w) h (x.map Ed) a
 |.b t,v=>v=.bool t
def niD:NI->Nat
 |.k _=>1
 |.t x=>x.length+1
 |.b _=>1
inductive BQ(h:Heap):List NI->List Ca->Prop where
 |nil:BQ h [] []
 |cons {k:NI} {v:Ca} {ks:List NI} {vs:List Ca}:niIs P w h k v->BQ h ks vs->BQ h (k::ks) (v::vs)
def Wr(h:Heap)(ks:List NI)(a:Addr):Prop:=∃o B n,h.get? a=some o/\o.cls=.type "tuple"/\o.data=.seq B n/\BQ P w h ks B.toList
end
section
theorem niIs.inj{x y:NI}{v:Ca}(hx:niIs P w h x v)(B:niIs P w h y v):x=y:=by
 cases x with
 |k z =>
  let hx:Pe (.inl z) v=true:=hx;cases y with
  |k G=>rw[Lm ((Yo P w).inj v _ _ hx B)]
  |t J =>
   let{a,rfl,_}:=B;rcases Yc hx with⟨i,t,_,e⟩|⟨i,t,_,e⟩<;>cases e
  |b t' =>
   obtain rfl:v=.bool t':=B;rcases Yc hx with⟨i,t,_,e⟩|⟨i,t,_,e⟩<;>cases e
 |t x =>
  let{a,rfl,Y}:=hx;cases y with
  |k G =>
   let B:Pe (.inl G) (.ref a)=true:=B;rcases Yc B with⟨i,t,_,e⟩|⟨i,t,_,e⟩<;>cases e
  |t J =>
   let{Z,e,O}:=B;cases e;rw[Iz (Y.inj O)]
  |b t'=>cases(show Cd a=.bool t' from B)
 |b t =>
  obtain rfl:v=.bool t:=hx;cases y with
  |k G =>
   let B:Pe (.inl G) (.bool t)=true:=B;rcases Yc B with⟨i,t,_,e⟩|⟨i,t,_,e⟩<;>cases e
  |t J=>obtain⟨Z,e,_⟩:=B;cases e
  |b t' =>
   let B:K0 t=.bool t':=B;injection B with e
   rw[e]
theorem BQ.inj:∀{x y:List NI}{vs:List Ca},BQ P w h x vs->BQ P w h y vs->x=y:=by
 intro _ _ _ B G;cases B with
 |nil=>
  show by cases G;rfl
 |cons h1 O=>
  show by
    cases G with
    |cons h2 J=>rw[h1.inj h2,BQ.inj O J]
def Wr.typeIs(x:Wr P w s.heap ks a):s.TypeIs (.ref a) "tuple":=let{o,_,_,h,B,_}:=x;{o,h,B}
def Wr.inj{a:Addr}{x y:List NI}(hx:Wr P w h x a)(Y:Wr P w h y a):x=y:=by
 let{o,J,n,Z,_,hd,hi}:=hx;let{o',items',n',B,_,G,O}:=Y;rw[Z]at B;cases B;rw[hd]at G;injection G with h1 _
 subst h1;show hi.inj O
theorem BQ.mapH(f:∀x a,IsTupleKey (Yo P w) h x a->IsTupleKey (Yo P w) h' x a):∀{x:List NI}{vs:List Ca},BQ P w h x vs->BQ P w h' x vs
 |_,_,.nil=>.nil
 |k::_,_,.cons h1 t=>by
  show .cons ?_ (BQ.mapH f t);cases k with
  |k z=>show h1
  |t x=>obtain⟨a,e,q⟩:=h1;show{a,e,f _ _ q}
  |b t=>show h1
def Wr.keeps{es ep}(x:Wr P w h ks a)(O:h.get? d=some o)(hd:o.data=.dict es ep)(hs:Hm d h h'):Wr P w h' ks a:=by
 let{o',B,n,J,Z,G,hi}:=x;let Y:a≠d:=by
  rintro rfl;rw[J]at O;cases O;rw[hd]at G;show nomatch G
 exists o',B,n,(hs.2 a Y).trans J,Z,G,hi.mapH λx b q=>q.keeps O hd hs
theorem iC{t:Bool}{Q:Int->Cc->Prop}(h:Q (hashInt (if t then 1 else 0)) {s with toks:=s.toks+1}):Cg (Cj P w) A (pyHash (.bool t)) Q E s:=by
 let sl:Slot "bool" "__hash__" "int.__hash__":=.of (owner:="int") (n:="__hash__") (by rw[NF,Lw];kernel_rfl) (by decide +kernel) (by decide +kernel) (by decide +kernel)
  (by first|show .inl (by decide +kernel)|show .inr (by decide +kernel)) (by rw[isSubtype_type];kernel_rfl)
 let B:s.TypeIs (.bool t) "bool":=rfl;unfold pyHash;let J:[K0 t].any Ca.onHeap=false:=rfl;show D3 ?_;rw[cRoomFor,D8 (by rw[J];show Gb)];show D4 ?_;show D3 (wpAny_specialOf B sl.lookup ?_);show Cg _ _ (if(some (Kp "int.__hash__")==some Ca.none)=true then _ else _) Q E s;rw[D8 (by rw[beq_builtin_none];show Gb)];show D3 (wpAny_specialOf B sl.lookup ?_);show Cg _ _ (callSpecialIfBoundUnlessNone? (.bool t) "__hash__" _ >>= _) Q E s;cases t with
 |true =>
  show D3 (wpAny_callSpecialIfBoundUnlessNone?_slot B sl (Ea sl B entry_int_hash
   (show Cg _ _ (do ret (<-mkInt (rawHash 1))) _ _ s from wpAny_ret_mkInt ?_) (args_int_hash _)))
  let G:=rawHash_range 1;show Cg _ _ (if(decide (-(2:Int) ^ 63<=rawHash 1)&&decide (rawHash 1<2 ^ 63))=true then _ else _) Q E _;rw[D9 (by rw[Ab G.1,Ab G.2];rfl)];show D4 h
 |false =>
  show D3 (wpAny_callSpecialIfBoundUnlessNone?_slot B sl (Ea sl B entry_int_hash
   (show Cg _ _ (do ret (<-mkInt (rawHash 0))) _ _ s from wpAny_ret_mkInt ?_) (args_int_hash _)))
  let G:=rawHash_range 0;show Cg _ _ (if(decide (-(2:Int) ^ 63<=rawHash 0)&&decide (rawHash 0<2 ^ 63))=true then _ else _) Q E _;rw[D9 (by rw[Ab G.1,Ab G.2];rfl)];show D4 h
theorem tE{k:NI}{v:Ca}{Q:Int->Cc->Prop}(G:A.units<E8)(B:niIs P w s.heap k v)(h:Q (niH k) {s with toks:=s.toks+niD k}):Cg (Cj P w) A (pyHash v) Q E s:=by
 cases k with
 |k z=>show(Yo P w).pyHash (k:=.inl z) B h
 |t x =>
  let{a,rfl,q}:=B;show wpAny_pyHash_tuple G q ?_;let e:tupleKeyHash (Yo P w) (x.map Ed)=niH (.t x):=by
   unfold tupleKeyHash niH;rw[Jy];rfl
  rwa[e,Ja]
 |b t=>obtain rfl:v=.bool t:=B;show iC h
theorem qJ{x y:NI}{u v:Ca}{Q:Bool->Cc->Prop}(Z:A.units<E8)(hs:x.sh=y.sh)(hx:niIs P w s.heap x u)(J:niIs P w s.heap y v)(h:Q (decide (x=y)) s):Cg (Cj P w) A (eqBool u v) Q E s:=by
 cases x with
 |k z =>
  cases y with
  |k B =>
   show(Yo P w).eqBool (a:=.inl z) (b:=.inl B) hx J ?_;rwa[show decide ((Ed z:AI)=Ed B)=decide (NI.k z=NI.k B)by simp]
  |t G=>cases hs
  |b t'=>cases hs
 |t x =>
  cases y with
  |k B=>cases hs
  |t G =>
   let{a,rfl,Y}:=hx;let{b,rfl,O}:=J;show wpAny_eqBool_tuple Z Y O ?_;rw[show decide (x.map (Ed:Int->AI)=G.map Ed)=decide (NI.t x=NI.t G)from decide_eq_decide.mpr {λe=>by rw[Iz e],λe=>by injection e with e;rw[e]}];show h
  |b t'=>cases hs
 |b t =>
  cases y with
  |k B=>cases hs
  |t G=>cases hs
  |b t' =>
   obtain rfl:u=.bool t:=hx;obtain rfl:v=.bool t':=J;show Jhr.bool_bool t t' P w E Q ?_;rwa[show(t==t')=decide (NI.b t=NI.b t')by cases t<;>cases t'<;>rfl]
theorem yA{k:NI}{v:Ca}{Q:Bool->Cc->Prop}(n:Nat)(Y:niIs P w s.heap k v)(h:Q true s):Cg (Cj P w) A (eqIsQuiet (n+1) v) Q E s:=by
 cases k with
 |k z=>rw[eqIsQuiet_byValue _ ((Yo P w).byValue (.inl z) v Y)];show D4 h
 |b t=>obtain rfl:v=.bool t:=Y;rw[eqIsQuiet_byValue _ W];show D4 h
 |t x =>
  let{a,rfl,q}:=Y;let B:=q.typeIs;let{ob,its,m,gt,_,Z,J}:=q;unfold eqIsQuiet;show D3 (wpAny_specialOf B F.slot_tuple_eq.lookup ?_);show Cg _ _ (K6 (.ref a) (.type "tuple") >>= _) _ _ s;show D3 (wpAny_isInstance B isSubtype_tuple_tuple ?_);simp only[Bx,Gg,if_false];show D3 (wpAny_seqItems gt Z ?_);show D3 ?_;show Cg _ _ (forIn its _ _) _ _ s;rw[<-F6];show wpAny_forIn_list _ (λdG r s'=>r.1=none/\s'=s/\∀v∈dG,carriedByValue v=true) _ ?_ ?_ _ _ {W,W,J.byValue}
  .rintro v dG r s' ⟨ac,rfl,G⟩;rw[eqIsQuiet_byValue _ (G v Je)];show D3 (D4 ?_);simp only[Bx,Gg,if_false];show D4 {W,W,λu O=>G u (Jg _ O)}
  .rintro⟨r1,r2⟩ s' ⟨ac,rfl,_⟩;simp only at ac;subst ac;show D4 h
theorem qL{a:Addr}{Q:Int->Cc->Prop}(Z:A.units+1<E8)(Y:Wr P w s.heap ks a)(fin:Q (nh ks) {s with toks:=s.toks+((ks.map niD).sum+1)}) :
  Cg (Cj P w) A (pyHash (.ref a)) Q E s:=by
 let B:=Y.typeIs;let{ob,its,m,gt,_,O,J}:=Y;unfold pyHash
 first|unfold pyHashByItsType|skip
 first|show D3 (wpAny_cRoomFor_or (.inr ()) ?_)|skip
 show D3 (wpAny_specialOf B F.slot_tuple_hash.lookup ?_);show Cg (Cj P w) A (if(some (Kp "tuple.__hash__")==some Ca.none)=true then _ else _) Q E s;rw[D8 (by rw[beq_builtin_none];show Gb)];show D3 (wpAny_specialOf B F.slot_tuple_hash.lookup ?_);show Cg (Cj P w) A (callSpecialIfBoundUnlessNone? (.ref a) "__hash__" _ >>= _) Q E s;show D3 (wpAny_callSpecialIfBoundUnlessNone?_slot B F.slot_tuple_hash (Ea F.slot_tuple_hash B F.entry_tuple_hash ?_ (F.args_tuple_hash_1 _)));show Cg (Cj P w) _ (Kt (.ref a) >>= _) _ _ s
 show D3 (Kd gt O ?_);show D3 ?_;rw[<-F6];show wpAny_forIn_list _
  (λdG(b:Array Int)s'=>∃h post,ks=h++post/\BQ P w s.heap post dG/\b.toList=h.map (niH)/\s'={s with toks:=s.toks+(h.map niD).sum})
  _ ?_ ?_ _ _ {[],ks,W,J,W,W}
 .rintro x dG b s' ⟨h,post,rfl,hl,G,rfl⟩;cases hl with
  | @cons k _ ks' _ h1 hl' =>
   show D3 (tE (s:={s with toks:=s.toks+(h.map niD).sum}) (by show A.units+1<E8;show Z) h1 ?_)
   first
    |show D4 {h++[k],ks',by simp,hl',by simp[G],by simp[Fx]}
    |show D3 (D4 (D4 {h++[k],ks',by simp,hl',by simp[G],by simp[Fx]}))
 .rintro b s' ⟨h,post,rfl,hl,G,rfl⟩;cases hl;rw[Jx]at fin;show Cg (Cj P w) _ (retInt (C7 b.toList)) _ _ _;rw[G];show wpAny_ret_mkInt ?_;show Cg (Cj P w) _ (if(decide (-(2:Int) ^ 63<=C7 (h.map (niH)))&&decide (C7 (h.map (niH))<2 ^ 63))=true then _ else _) Q E _;unfold nh reduceHash at fin
  by_cases rg:(decide (-(2:Int) ^ 63<=C7 (h.map (niH)))&&decide (C7 (h.map (niH))<2 ^ 63))=true
  .rw[D9 rg];rw[D9 rg]at fin;show D4 (by simpa[Fx]using fin)
  .rw[D8 rg];rw[D8 rg]at fin;show D3 (Ez (D4 (by simpa[Fx]using fin)))
def nN{x y:List NI}{a b:Addr}{Q:Fin->Cc->Prop}(hu:A.units<E8)(hs:x.map NI.sh=y.map NI.sh)(ka:Wr P w s.heap x a)(kb:Wr P w s.heap y b)(fin:Q (.done (.ret (.bool (decide (x=y))))) s) :
  Cg (Cj P w) A (Builtin.«tuple.__eq__» {[.ref a,.ref b],[]}) Q E s:=by
 let a1:=kb.typeIs;let{oa,xs,na,ga,_,da,ia}:=ka;let{ob,ys,nb,gb,_,db,ib}:=kb;show Cg (Cj P w) A (K6 (.ref b) (.type "tuple") >>= _) _ _ s;show D3 (wpAny_isInstance a1 isSubtype_tuple_tuple ?_);simp only[Bx,Gg,if_false];show D3 (Kd ga da ?_);show D3 (Kd gb db ?_);show D3 ?_;show wpAny_forIn_list _
  (λdG r s'=>r.1=none/\s'=s/\∃x' y' G B,dG=List.zip G B/\BQ P w s.heap x' G/\BQ P w s.heap y' B/\x'.map NI.sh=y'.map NI.sh/\decide (x'=y')=decide (x=y)/\(G.length==B.length)=(xs.size==ys.size))
  _ ?_ ?_ _ _ {W,W,x,y,xs.toList,ys.toList,W,ia,ib,hs,W,by simp}
 .rintro⟨u,v⟩ dG r s' ⟨ac,rfl,x',y',G,B,hz,Y,O,Z,h,J⟩;cases Y with
  |nil=>simp at hz
  | @cons k1 u' x'' xs'' h1 hx'' =>
   cases O with
   |nil=>simp at hz
   | @cons k2 v' y'' ys'' h2 hy'' =>
    simp only[F5,List.cons.injEq,Prod.mk.injEq]at hz;let{{rfl,rfl},rfl}:=hz;rw[Jm,Jm]at Z;injection Z with e1 e2
    show D3 (qJ hu e1 h1 h2 ?_)
    by_cases hk:k1=k2
    .subst hk;rw[Ab W];simp only[Bx,Gg,if_false];show D4 {W,W,x'',y'',xs'',ys'',W,hx'',hy'',e2,?_,by simpa using J};rw[<-h]
     by_cases hxy:x''=y''
     .simp[hxy]
     .simp[hxy]
    .rw[BB hk];simp only[Bool.not_false,if_true];let hf:decide (x=y)=false:=by rw[<-h];simp[hk]
     rw[hf]at fin;show D3 (D4 (D4 (D4 fin)))
 .rintro⟨r1,r2⟩ s' ⟨ac,rfl,x',y',G,B,hz,Y,O,Z,h,J⟩;simp only at ac;subst ac;show D4 ?_;let a0:(xs.size==ys.size)=decide (x=y):=by
   rw[<-h,<-J];cases Y with
   |nil =>
    cases O with
    |nil=>simp
    |cons _ _=>simp
   |cons _ _ =>
    cases O with
    |nil=>simp
    |cons _ _=>simp at hz
  show Q (.done (.ret (.bool (xs.size==ys.size)))) s';rwa[a0]
theorem tW{x y:List NI}{a b:Addr}{Q:Bool->Cc->Prop}(G:A.units+1<E8)(hs:x.map NI.sh=y.map NI.sh)(h:Wr P w s.heap x a)(B:Wr P w s.heap y b)(fin:Q (decide (x=y)) s) :
  Cg (Cj P w) A (eqBool (.ref a) (.ref b)) Q E s:=by
 unfold eqBool
 try with_reducible show Cz ?_
 show Cg (Cj P w) A (if(Cd a==Cd b)=true then _ else _) Q E s
 by_cases hab:(Cd a==Cd b)=true
 .rw[D9 hab];let e:a=b:=by have:=eq_of_beq hab;injection this
  subst e;obtain rfl:=h.inj B;show D3 (Ez (D4 (by simpa using fin)))
 .rw[D8 hab];show D3 (wpAny_richCompare_same_room (op:=.Eq) h.typeIs B.typeIs F.slot_tuple_eq
   (Ea F.slot_tuple_eq h.typeIs F.entry_tuple_eq (nN (by show A.units+1<E8;show G) hs h B {_,W,(λe=>nomatch e),Eh fin}) (F.args_tuple_eq_2 _ _)) ())
def fQ{a:Addr}{Q:Bool->Cc->Prop}(J:Wr P w s.heap ks a)(fin:Q true s):Cg (Cj P w) A (eqIsQuiet 8 (.ref a)) Q E s:=by
 let h:=J.typeIs;let{ob,its,m,O,_,G,B}:=J;unfold eqIsQuiet;show D3 (wpAny_specialOf h F.slot_tuple_eq.lookup ?_);show Cg (Cj P w) A (K6 (.ref a) (.type "tuple") >>= _) _ _ s;show D3 (wpAny_isInstance h isSubtype_tuple_tuple ?_);simp only[Bx,Gg,if_false];show D3 (wpAny_seqItems O G ?_);show D3 ?_;show Cg (Cj P w) A (forIn its _ _) _ _ s;rw[<-F6];show wpAny_forIn_list _ (λdG r s'=>r.1=none/\s'=s/\∃post,BQ P w s.heap post dG) _ ?_ ?_ _ _ {W,W,ks,B}
 .rintro v dG r s' ⟨ac,rfl,post,hl⟩;cases hl with
  |cons h1 hl =>
   show D3 (yA 6 h1 ?_);simp only[Bx,Gg,if_false];show D4 {W,W,_,hl}
 .rintro⟨Z,Y⟩ s' ⟨ac,rfl,_⟩;simp only at ac;subst ac;show D4 fin
end
def Tf(P:E4)(w:H9)(sh:List Nat):HeapKind P w (List NI) where
 is:=λh ks a=>Wr P w h ks a/\ks.map NI.sh=sh
 hash:=λks=>nh ks
 draws:=λks=>(ks.map niD).sum+1
 room:=λA=>A.units+1<E8
 inj:=λhx B=>hx.1.inj B.1
 keeps:=λx O hd hs=>{x.1.keeps O hd hs,x.2}
 pyHash:=λG J h=>qL G J.1 h
 eqBool:=λG hx B h=>tW G (by rw[hx.2,B.2]) hx.1 B.1 h
 quiet:=λJ h=>fQ J.1 h
section
theorem pR(I:AB X pq σ H s)(h:NkV X.K H k v)(r:AJ v u):niIs X.prog X.w s.heap k u:=by
 cases k with
 |k z =>
  cases(show v=.int z from h);let{t,rfl}:=r;show YQ z t
 |t x =>
  let{a,rfl,q}:=h;cases(show u=Cd a from r);let{its,G,{o,e,c,n,d},_}:=I.tuple q;show{a,W,o,its.toArray,n,e,c,d,?_};let B:AF ((x.map (Ed:Int->AI)).map kV) its:=by
   rw[Jy];show G
  simpa using Pf B
 |b t =>
  cases(show v=.bl t from h);show r
def ER(I:AB X pq σ H s)(h:Aj X.K H ks a):Wr X.prog X.w s.heap ks a:=by
 let{vs,e,r}:=h;let{its,B,{o,Z,c,n,d},_}:=I.tuple e;show{o,its.toArray,n,Z,c,d,?_};let Y:∀{ks:List NI}{vs:List V}{us:List Ca},Paired (NkV X.K H) ks vs->AF vs us->BQ X.prog X.w s.heap ks us:=by
  intro ks vs us p
  induction p generalizing us with
  |nil=>intro q;cases q;show .nil
  |cons a b O=>intro q;cases q with|cons J G=>show .cons (pR I a J) (O G)
 simpa using Y r B
structure DnAt(K:Cq)(H:Hp)(d:Addr)(sh:List Nat)(kvs:List Az):Prop where
 ht:Rd H d (.ext (CC d kvs))
 ks:∀x∈kvs,Aj K H x.1 x.2.1/\x.1.map NI.sh=sh
def valN(kvs:List Az)(k:List NI):Option V:=(kvs.find? λx=>decide (x.1=k)).map (·.2.2)
def putN(kvs:List Az)(k:List NI)(b:Addr)(v:V):List Az:=if(kvs.any λx=>decide (x.1=k))then kvs.map (λx=>if x.1=k then(x.1,x.2.1,v)else x)else kvs++[(k,b,v)]
abbrev NRel:List Az->List (List NI×Addr×Ca)->Prop:=Paired λp q=>p.1=q.1/\p.2.1=q.2.1/\AJ p.2.2 q.2.2
theorem NRel.val:∀{kvs:List Az}{xs:List (List NI×Addr×Ca)},NRel kvs xs->∀k,An (valN kvs k) ((DB xs k).map (·.2))
 |_,_,.nil,k=>Ef
 |p::ps,q::qs,.cons h r,k=>by
  let B:=NRel.val r k;unfold valN DB at B⊢;rw[Gu,Gu,<-h.1]
  by_cases e:p.1=k
  .rw[Ab e];show h.2.2
  .rw[BB e];show B
theorem NRel.any:∀{kvs:List Az}{xs:List (List NI×Addr×Ca)},NRel kvs xs->∀k,(kvs.any λx=>decide (x.1=k))=(DB xs k).isSome
 |_,_,.nil,k=>rfl
 |p::ps,q::qs,.cons h r,k=>by
  let B:=NRel.any r k;unfold DB at B⊢;rw[B5,Gu,<-h.1]
  by_cases e:p.1=k
  .rw[Ab e];rfl
  .rw[BB e,LI];show B
def NRel.put{kvs:List Az}{xs:List (List NI×Addr×Ca)}(r:NRel kvs xs)(k:List NI)(b:Addr){v:V}{u:Ca}(B:AJ v u):NRel (putN kvs k b v) (storedH xs k b u):=by
 unfold putN storedH;rw[r.any k]
 by_cases q:(DB xs k).isSome=true
 .rw[D9 q,D9 q];let G:∀{kvs:List Az}{xs:List (List NI×Addr×Ca)},NRel kvs xs->NRel (kvs.map λx=>if x.1=k then(x.1,x.2.1,v)else x) (xs.map (putAt k u)):=by
   intro kvs xs r
   induction r with
   |nil=>show .nil
   | @cons p q ps qs h t ih =>
    show .cons ?_ ih;unfold putAt;rw[<-h.1];dsimp only
    by_cases e:p.1=k
    .rw[D9 e,D9 e];show{W,h.2.1,B}
    .rw[D8 e,D8 e];show h
  show G r
 .rw[D8 q,D8 q];show Paired.snoc {W,W,B} r
def FI(I:AB X pq σ H s){d:Addr}{sh:List Nat}{kvs:List Az}(e:DnAt X.K H d sh kvs):kvs.length<=Cb/\(d==Ey)=false/\∃xs,NRel kvs xs/\s.heap.DictOfH (Tf X.prog X.w sh) d xs:=by
 let{{z,y,xs,r,o,es,ep,h1,h2,h3,h4,h5},_,_}:=e.ht.ok I.hok;show{z,y,xs,r,o,es,ep,h1,h2,h3,h4,?_,h5};let all:∀{l:List Az}{m:List (List NI×Addr×Ca)},NRel l m->(∀x∈l,Aj X.K H x.1 x.2.1/\x.1.map NI.sh=sh)->∀x∈m,(Tf X.prog X.w sh).is s.heap x.1 x.2.1:=by
  intro l m q
  induction q with
  |nil=>intro _ x hx;show nomatch hx
  | @cons p q ps qs hq t ih =>
   intro hl x hx;rcases Gd.mp hx with e|hx
   .subst e;let{B,h}:=hl p Je;rw[hq.1,hq.2.1]at B;rw[hq.1]at h;show{ER I B,h}
   .show ih (λy G=>hl y (Jg _ G)) x hx
 show all r e.ks
theorem tD(kvs:List Az)(k:List NI)(b:Addr)(v:V):(putN kvs k b v).length<=kvs.length+1:=by
 unfold putN
 split
 .rw[Ja];lia
 .rw[Jc];show Jk _
variable{d b:Addr}{sh:List Nat}{kvs:List Az}{k:List NI}{v:V} 
theorem xC{Q:Ca->Cc->Prop}(hu:A.units+2<E8)(I:AB X pq σ H s)(g:DnAt X.K H d sh kvs)(Z:Aj X.K H k b)(hs:k.map NI.sh=sh)(l:valN kvs k=some v)(h:∀B s',AB X pq σ H s'->AJ v B->Q B s') :
  Cg (Cj X.prog X.w) A (L6 (.ref d) (.ref b)) Q E s:=by
 let{z,hd,xs,J,dd}:=FI I g;let{B,hw,G}:=An.some_of (v:=v) (o:=(DB xs k).map (·.2)) (by rw[<-l];show J.val k);let{p,Y,O}:=Gq.mp hw;show wpAny_getItem_heap (knd:=Tf X.prog X.w sh) (show A.units+1+1<E8 by lia) {ER I Z,hs} dd Y ?_;rw[O];show h B _ (I.tok _) G
theorem iJ{Q:Ca->Cc->Prop}(O:A.units+2<E8)(I:AB X pq σ H s)(g:DnAt X.K H d sh kvs)(G:Aj X.K H k b)(hs:k.map NI.sh=sh)(h:∀s',AB X pq σ H s'->Q (.bool (!(valN kvs k).isSome)) s') :
  Cg (Cj X.prog X.w) A (Eu .NotIn (.ref b) (.ref d)) Q E s:=by
 let{z,hd,xs,B,J}:=FI I g;show wpAny_notIn_heap (knd:=Tf X.prog X.w sh) (show A.units+1+1<E8 by lia) {ER I G,hs} hd J ?_;let q:=(B.val k).isSome_eq;rw[JS]at q;rw[<-q];show h _ (I.tok _)
theorem xR{z:V}{r:Ca}{Q:Ca->Cc->Prop}(Z:A.units+2<E8)(I:AB X pq σ H s)(g:DnAt X.K H d sh kvs)(Y:Aj X.K H k b)(hs:k.map NI.sh=sh)(O:AJ z r)(h:∀G s',AB X pq σ H s'->AJ ((valN kvs k).getD z) G->Q G s') :
  Cg (Cj X.prog X.w) A (call (.builtin "dict.get") [.ref d,.ref b,r]) Q E s:=by
 let{_,hd,xs,B,J}:=FI I g;show call_meetsIn Hd J.typeIs Ll (PySem.F.args_dict_get_3 _ _ _) (meetsH_dict_get_default (Tf X.prog X.w sh) d b hd r) {(show A.units+1+1<E8 by lia),k,xs,{ER I Y,hs},J,h _ _ (I.tok _) ((B.val k).getD O)}
theorem Zjh{Q:Unit->Cc->Prop}(hu:A.units+2<E8)(I:AB X pq σ H s)(g:DnAt X.K H d sh kvs)(hm:H d=some (.ext (CC d kvs)))(hl:kvs.length<Cb)(hk:Aj X.K H k b)(hs:k.map NI.sh=sh)(Z:AJ v u)(h:∀s',AB X pq σ (upd H d (.ext (CC d (putN kvs k b v)))) s'->Q ⟨⟩ s') :
  Cg (Cj X.prog X.w) A (GJ (.ref d) (.ref b) u) Q E s:=by
 let{z,hd,xs,B,dd}:=FI I g;let hz:xs.length<=Cb:=by rwa[<-Paired.length B]
 let J:(putN kvs k b v).length<=Cb:=by have:=tD kvs k b v;lia
 show wpAny_setItem_heap (knd:=Tf X.prog X.w sh) (hsz:=hz) (show A.units+1+1<E8 by lia) {ER I hk,hs} dd λh' O G=>h _ ?_;let{q,es,ep,Y,h2,h3,h4,_,h5}:=O;show Ps I (by rw[hm];show Ef) G {q,Y} (CC.ok {J,hd,_,B.put k b Z,q,es,ep,Y,h2,h3,h4,h5})
end
def WT:TE:=λ_ H Q=>∀p,H p=none->Q (.ref p) (upd H p (.ext (CC p [])))
def NGet(K:Cq)(H:Hp)(a:Addr)(y:V)(o:Option V):Prop:=∃b sh kvs k,y=.ref b/\DnAt K H a sh kvs/\Aj K H k b/\k.map NI.sh=sh/\o=valN kvs k
def IsN(K:Cq)(H:Hp)(a:Addr):Prop:=∃sh kvs,DnAt K H a sh kvs
def YJ(K:Cq)(td ty:TE):TE:=λσ H Q=>td σ H λx H1=>ty σ H1 λy h=>∃a v,x=.ref a/\NGet K h a y (some v)/\Q v h
def RU(K:Cq)(ty td:TE):TE:=λσ H Q=>ty σ H λy H1=>td σ H1 λx h=>∃a o,x=.ref a/\NGet K h a y o/\Q (.bl (!o.isSome)) h
def XS(K:Cq)(td ty tv:TE):TS:=λD σ H=>tv σ H λv H1=>td σ H1 λx B=>ty σ B λy h=>∃a b sh kvs k,x=.ref a/\y=.ref b/\DnAt K h a sh kvs/\h a=some (.ext (CC a kvs))/\kvs.length<Cb/\Aj K h k b/\k.map NI.sh=sh/\D.nx σ (upd h a (.ext (CC a (putN kvs k b v))))
def UI(K:Cq)(td ty tx:TE):TE:=λσ H Q=>td σ H λx H1=>∃a,x=.ref a/\IsN K H1 a/\ty σ H1 λy B=>tx σ B λz h=>∃o,NGet K h a y o/\Q (o.getD z) h
section
variable{o i e f:Expr}{td ty tv tx:TE}
def Qk:PE X (.Dict [] [] dF) WT:=λpq s σ H Q I h =>
 ZZ {.ref s.heap.objs.size,_,I.laid (a:=s.heap.objs.size) (o:=.ext (CC s.heap.objs.size [])) (t':=s.toks) (λ_ _ q=>D5 _ q) (Jk _)
  (CC.ok {J9 _,beq_eq_false_iff_ne.mpr (Et (Gk I.big)),[],.nil,_,#[],0,D6 _ W,{W,W,W},W,W,Fk}),W,h _ (I.hok.fresh (Jk _))}
theorem Tw(hK:X.K=K)(hu:X.A.units+200<E8)(ho:PE X o td)(hi:PE X i ty)(hs:NoSl i):PE X (.Subscript o i dF) (YJ K td ty):=by
 subst hK;intro pq s σ H Q I h;show WU PySem.F.slot_dict_getitem.lookup hs (AS (ho pq s σ H _ I h) λu J⟨x,H1,I1,Y,q1⟩=>AS (hi pq J σ H1 _ I1 q1) λiv s2 hz=>?_);let{y,H2,G,O,a,v,ex,{b,sh,kvs,k,ey,g,nk,es,l},Z}:=hz;subst ex ey;obtain rfl:u=Cd a:=Y;obtain rfl:iv=Cd b:=O;let{_,_,xs,_,dd}:=FI G g;exists dd.typeIs,xC () G g nk es l.symm λw' s3 I3 B=>{v,H2,I3,B,Z}
theorem Zi8(hK:X.K=K)(hu:X.A.units+200<E8)(hi:PE X i ty)(ho:PE X o td):PC X .NotIn i o (RU K ty td):=by
 subst hK;intro pq s σ H Q I h;show AS (hi pq s σ H _ I h) λiv B⟨y,H1,I1,G,Y⟩=>AS (ho pq B σ H1 _ I1 Y) λu s2 hz=>?_;let{x,H2,I2,J,a,ov,ex,{b,sh,kvs,k,ey,g,Z,es,l},O}:=hz;subst ex ey;obtain rfl:u=Cd a:=J;obtain rfl:iv=Cd b:=G;show iJ () I2 g Z es λs3 I3=>{.bl (!(valN kvs k).isSome),H2,I3,W,by rw[<-l];show O}
theorem LK(hK:X.K=K)(hu:X.A.units+200<E8)(ho:PE X o td)(hi:PE X i ty)(hv:PE X value tv)(hs:Mh value (some (.Subscript o i pos')) dF.line X.env=pure false) :
  PS X (.Assign [.Subscript o i pos'] value dF) (XS K td ty tv):=by
 subst hK;intro pq s σ H D I h;show wpAny_Assign_Subscript (AS (hv pq s σ H _ I h) λr G⟨v,H1,I1,Y,q1⟩=>AS (ho pq G σ H1 _ I1 q1) λu B⟨x,H2,I2,O,q2⟩=>AS (hi pq B σ H2 _ I2 q2) λiv s3 hz=>?_) hs;let{y,H3,I3,J,a,b,sh,kvs,k,ex,ey,g,hm,hl,nk,es,Z}:=hz;subst ex ey;obtain rfl:u=Cd a:=O;obtain rfl:iv=Cd b:=J;show Zjh () I3 g hm hl nk es Y λs4 I4=>{σ,_,I4,Z}
theorem rM(hK:X.K=K)(hu:X.A.units+200<E8)(ho:PE X o td)(he:PE X e ty)(hf:PE X f tx)(m:M2 X o "get" eA e f dY):PE X (.Call (.Attribute o "get" eA) [e,f] [] dY) (UI K td ty tx):=by
 subst hK;intro pq s σ H Q I h;show wpAny_Call_method m.base m.few m.line PySem.F.plainAttrs_dict Hd PySem.F.type_dict_get (AS (ho pq s σ H _ I h) λu s1 hz=>?_);let{x,H1,O,rx,a,ex,{Y,G,d},q1}:=hz;subst ex;obtain rfl:u=Cd a:=rx;let{_,_,xs,_,J}:=FI O d;exists J.typeIs,λb q=>?_,?_
 .cases q;let{ob,_,_,h1,h2,_}:=J;show{ob,h1,h2.2.1}
 rw[m.trees];show Kb W (Ma (K8 (AS (he pq s1 σ H1 _ O q1) λiv Z ⟨y,H2,I2,ry,q2⟩ =>
  K8 (AS (hf pq Z σ H2 _ I2 q2) λfv s3⟨z,H3,I3,rz,ov,⟨b,sh,kvs,k,ey,g,nk,es,l⟩,q3⟩=>JY ?_))))
 subst ey;obtain rfl:iv=Cd b:=ry;show xR () I3 g nk es rz λw' s4 I4 B=>{_,H3,I4,by rw[l];show B,q3}
end
def ItdN(K:Cq)(d:Addr)(o:Obj)(vs:List Az):It:={λi H=>H d=some (.frz o (.ext (CC d vs)))/\i<vs.length,λi H x H'=>H'=H/\∃h,vs[i]?=some h/\x=.ref h.2.1,λi H=>H d=some (.frz o (.ext (CC d vs)))/\vs.length<=i}
theorem Pm{d:Addr}{o:Obj}{kvs:List Az}{B:Array DictEntry}(ok:BN P w H h)(e:H d=some (.frz o (.ext (CC d kvs))))(G:o.data=.dict B ep) :
  h.get? d=some o/\B.size=kvs.length/\∀(i:Nat)(h1:i<B.size)(h2:i<kvs.length),B[i].key=.ref kvs[i].2.1:=by
 let{e1,{z,hd,xs,r,O,es,Z,e2,c,J,el,nd},_}:=(show Y9 P w H h d (.frz o (.ext (CC d kvs)))from ok d _ e);let eo:O=o:=BG (e2.symm.trans e1);subst eo;rw[G]at J;injection J with d1 d2
 subst d1 d2;let lr:=Paired.length r;let Y:B.size=kvs.length:=by
  let:=congrArg Hf el;rw[Ja,Jl]at this;lia
 exists e1,Y,λi h1 h2=>?_;let hx:i<xs.length:=by lia
 let{a1,a2,a3}:=L2.Paired.at r h2 hx;let e3:B.toList[i]'(by rwa[Jl])={nh xs[i].1,.ref xs[i].2.1,xs[i].2.2}:=by
  let:(xs.map (λx=>({nh x.1,.ref x.2.1,x.2.2}:DictEntry)))[i]'(by rwa[Ja])={nh xs[i].1,.ref xs[i].2.1,xs[i].2.2}:=Bc ..;rw[<-this]
  congr 1
 rw[Array.getElem_toList]at e3;rw[e3,a2]
theorem gV(d:Addr)(o:Obj)(kvs:List Az)(B:o.data=.dict es0 ep)(it:Addr):Turn P w K tg (ItdN K d o kvs) [it] it (λi h=>h.IsKeyIter it d i kvs.length ep) where
 mem:=by simp
 obj:=λi h st b J=>by
  obtain rfl:b=it:=by simpa using J
  let{o,e,c,d}:=st;show{o,e,λv z=>by rw[d]at z;cases z}
 keep:=λi h h' st k=>let{o,e,r}:=st;{o,k it (by simp) o e,r}
 item:=by
  intro X hP hw hK hc i pq s σ H E I Y st Z;subst hP hw hK;let{f0,f1,f2,f3,f4,f5}:=Y it (by simp);let{hd,hi}:=Z;let{g1,O,ky}:=Pm I.hok hd B;rw[<-O]at st;let ka:=ky i () hi;show YE st g1 B () λh' G sb=>?_;let I1:AB X pq σ H {s with heap:=h',toks:=s.toks}:=I.turned (λb o J e=>(sb.2 b J).trans e) f0 f1 f3 f4 f5;rw[O]at G;let{o',e',c',d'}:=id G;show{es0[i].key,W,IU (s:={s with heap:=h',toks:=s.toks}) e' c' d' nofun {.ref kvs[i].2.1,H,I1,ka,{rfl,kvs[i],Jb hi,rfl},G,λb J=>(Y b J).1}}
 done:=by
  intro X hP hw hK hc i pq s σ H E I Y st Z;subst hP hw hK;let{f0,f1,f2,f3,f4,f5}:=Y it (by simp);let{hd,hi}:=Z;let{g1,O,ky}:=Pm I.hok hd B;rw[<-O]at st;show US (I.ok.hd hc) st g1 B () λh' eb=>{W,I.turned (t':=s.toks) (λb o J e=>eb b o J e) f0 f1 f3 f4 f5}
 self:=λ_ _ _ _ _ st h=>wpAny_pyIter_keyiter st h
section
def oY(K:Cq)(R:It->Hp->Prop)(d:Addr)(kvs:List Az)(H1:Hp):Prop:=(H1 d=some (.ext (CC d kvs))/\∀o,R (ItdN K d o kvs) (upd H1 d (.frz o (.ext (CC d kvs)))))\/∃o,H1 d=some (.frz o (.ext (CC d kvs)))/\R (ItdN K d o kvs) H1
def SN(K:Cq)(tl:TE):TI:=λσ H R=>tl σ H λx H1=>∃d kvs,x=.ref d/\oY K R d kvs H1
def vG(hK:X.K=K){l:Expr}{tl:TE}(hl:PE X l tl):PI X tg l (SN K tl):=by
 subst hK;intro pq s σ H R I h;show AS (hl pq s σ H _ I h) λv B hz=>?_;let{x,H1,Z,r1,q1}:=hz;let{d,kvs,e,q}:=q1;subst e;cases r1;let go:∀(o:Obj)(O:Hp),AB X pq σ O B->O d=some (.frz o (.ext (CC d kvs)))->R (ItdN X.K d o kvs) O->Cg (Cj X.prog X.w) X.A (pyIter (.ref d)) (PIE X pq σ tg R) X.xe B:=λo O J e2 q2=>by
  let{e1,{z,hd,xs,r,G,es,ep,e3,c,Y,el,nd},_}:=(show Y9 X.prog X.w O B.heap d (.frz o (.ext (CC d kvs)))from J.hok d _ e2);let eo:G=o:=BG (e3.symm.trans e1);subst eo;let{_,ls,_}:=Pm J.hok e2 Y;show WV hd e3 c Y ?_;exists B.heap.objs.size,[B.heap.objs.size],_,_,O,W,J.kept (t':=B.toks) λb o e=>D5 _ e,gV d G kvs Y _,?_,λb hb=>?_,q2
  .rw[<-ls];show{_,D6 _ W,W,W}
  .let e:b=B.heap.objs.size:=by simpa using hb
   subst e;show J.fpOk (Jk _) (J.hok.fresh (Jk _))
 rcases q with⟨e1,q⟩|⟨o,e1,q⟩
 .let⟨⟨z,hd,xs,r,G,es,ep,e3,c,Y,el,nd⟩,_,_⟩:=Z.hok d _ e1;let J:AB X pq σ (upd H1 d (.frz G (.ext (CC d kvs)))) {B with heap:=B.heap,toks:=B.toks}:=Z.write (x:=d) (e:=d) (by rw[e1];show trivial) (.inl W) (λb u _ h=>h) {_,e3} {e3,CC.ok {z,hd,xs,r,G,es,ep,e3,c,Y,el,nd}};show go G _ J Zw (q G)
 .show go o H1 Z e1 q
end
end L2
namespace L2
open PySem PySem.W PyProof.Rows HT PySem.Calls
section
def KpAt(K:PySem.W.Frag)(H:Hp)(q:BM):Prop:=∃(t:Addr)(z:Int)(w:List Int),A2 K H q.2.1 [.int z,.ref t]/\A2 K H t (w.map V.int)/\q.2.2=z::w
theorem fM{L:List BM}(I:AB X pq σ H s)(hk:∀q∈L,KpAt X.K H q)(h2:0<L.length){Q:SortKind->Cc->Prop}(h:Q (tuples' true) s) :
  Cg (Cj X.prog X.w) A (keyKind' (Zg L).toArray) Q E s:=by
 let tk:∀L':List BM,(∀q∈L',q∈L)->∃fs:List Ca,KatTups s.heap (Zg L') fs/\fs.length=L'.length/\∀v∈fs,∃n t,v=.int n t:=by
  intro L'
  induction L' with
  |nil=>intro _;exists [],.nil,W,λv B=>nomatch B
  |cons q r ih =>
   intro J;let{fs,a,b,c}:=ih λx hx=>J x (Jg _ hx);let{t,O,w0,Y,_}:=hk q (J q Je);let{its,rv,{o,e,hc,n,hd},_}:=I.tuple Y;cases rv with
   |cons G Z =>
    let{tk,et}:=G;exists .int O tk::fs,KatTups.cons e hc hd ?_ a,by simp[b],λv B=>?_
    .rw[et];simp
    .rcases Gd.mp B with e|B
     .show{_,tk,e}
     .show c v B
 let{fs,a,b,c}:=tk L λ_ h=>h;show kat_kind (T:=.type "int") a () (λv B=>by let{n,t,e}:=c v B;subst e;show .now) nofun h
theorem xS{L:List BM}(I:AB X pq σ H s)(hu:A.units<E8)(hk:∀q∈L,KpAt X.K H q)(nd:(L.map (·.2.2)).Nodup) :
  CmpR (Wi (L.map (·.2.2))) L.length (kas_ask X.prog X.w A (tuples' true) (Zg L)) s:=by
 intro i j C hi Z h;rw[Tc nd (by simpa using hi) (by simpa using Z),Ys hi,Ys Z]at h;unfold kas_ask;rw[show(Zg L).getD i Ca.none=Cd L[i].2.1 from Ys hi,show(Zg L).getD j Ca.none=Cd L[j].2.1 from Ys Z];let{t1,z1,w1,a6,a4,e1}:=hk _ (Jv hi);let{t2,z2,w2,a5,a0,b4}:=hk _ (Jv Z);let{its,rv,{o,e,hc,n,hd},_}:=I.tuple a6;let{b5,a7,{o2,e2,b6,n2,a9},_}:=I.tuple a5;let{us,ru,{p,ep,O,m,J},_}:=I.tuple a4;let{us2,a8,{p2,Y,G,m2,B},_}:=I.tuple a0;show kat_lt e hd e2 a9 ?_;cases rv with
 | @cons _ a1 _ _ a2 a3 =>
  cases a3 with
  | @cons _ b1 _ _ b2 b3 =>
   cases b3;cases a7 with
   | @cons _ c1 _ _ c2 c3 =>
    cases c3 with
    | @cons _ d1 _ _ d2 d3 =>
     cases d3;let{k1,rfl}:=a2;let{k2,rfl}:=c2;obtain rfl:b1=.ref t1:=b2;obtain rfl:d1=.ref t2:=d2;let ia:=We ru;let ib:=We a8;rw[e1,b4,HT.lexLt_cons]at h;show kat_cons (L5 ?_)
     by_cases hz:z1=z2
     .rw[D9 hz]at h;rw[show(z1==z2)=true from beq_iff_eq.mpr hz];show kat_yes (kat_cons (wpAny_eqBool_tuple (knd:=intKind X.prog X.w) () {p,_,m,ep,O,J,items_int ia} {p2,_,m2,Y,G,B,items_int ib} ?_))
      by_cases hw:w1=w2
      .rw[Ab hw];rw[hw,Ut]at h;show kat_yes (kat_nil h)
      .rw[BB hw];show kat_no (kat_one _ _ ?_);show xH () ep O J Y G B ia ib h
     .rw[D8 hz]at h;rw[show(z1==z2)=false from beq_eq_false_iff_ne.mpr hz];show kat_no (oneLt_int h)
def encP:List NI->List Int
 |[.k z,.t w]=>z::w
 |_=>[]
theorem Ik(h:ks.map NI.sh=[0,1]):∃z w,ks=[.k z,.t w]:=by
 match ks,h with
 |[.k z,.t w],_=>show{z,w,W}
theorem fS(h:Aj K H ks a)(hs:ks.map NI.sh=[0,1]):KpAt K H (.non,a,encP ks):=by
 let{z,w,rfl}:=Ik hs;let{vs,e,r}:=h;cases r with
 |cons J B =>
  cases B with
  |cons B G =>
   cases G;let{b,rfl,sb}:=B;cases(show _=V.int z from J);show{b,z,w,e,sb,W}
def kitN(kvs:List Az):List BM:=kvs.map λq=>(.non,q.2.1,encP q.1)
theorem kX{d:Addr}{sh:List Nat}{kvs:List Az}(hc:X.calm=true)(I:AB X pq σ H s)(g:DnAt X.K H d sh kvs) :
  (kvs.map (·.1)).Nodup/\(kvs.map λq=>q.2.1).Nodup/\∀{A:Kr}{R:List Ca->Cc->Prop}{E:Ca->Cc->Prop},A.handled=X.A.handled->(∀(h':Heap)(tk:Nat),(∀b o,s.heap.get? b=some o->h'.get? b=some o)->R (kvs.map λq=>Cd q.2.1) {s with heap:=h',toks:=tk})->Cg (Cj X.prog X.w) A (collect (.ref d)) R E s:=by
 let{{z,lo,xs,G,o,es,ep,h1,h2,h3,h4,h5},_,hq}:=g.ht.ok I.hok;clear hq;let Z:=Paired.length G;let J:es.size=xs.length:=by
  let:=congrArg Hf h4;rw[Ja,Jl]at this;show this
 let e1:kvs.map (·.1)=xs.map (·.1):=by
  clear g h4 J Z h5 z
  induction G with
  |nil=>rfl
  |cons a b ih=>rw[Jm,Jm,a.1,ih]
 let e2:(kvs.map λq=>q.2.1)=xs.map λq=>q.2.1:=by
  clear g h4 J Z h5 z e1
  induction G with
  |nil=>rfl
  |cons a b ih=>rw[Jm,Jm,a.2.1,ih]
 exists by rwa[e1],?_,λ{A R E}hA hR=>?_
 .let nd:(kvs.map (·.1)).Nodup:=by rwa[e1]
  show Jz.mpr ((Jz.mp nd).imp_of_mem λ{a b}ha hb h z=>h ((ER I (g.ks a ha).1).inj (by rw[z];show ER I (g.ks b hb).1)))
 .show kdu_collect (A:=A) (mM lo h2 h3) (hA.trans (I.ok.hd hc)) h1 (by rwa[J,<-Z]) λh' tk acc a0 B=>?_;let a2:acc.toList=kvs.map λq=>Cd q.2.1:=by
   let e3:(kvs.map λq=>Cd q.2.1)=(xs.map λq=>q.2.1).map Cd:=by rw[<-e2,Jy];rfl
   rw[e3]
   apply ME
   intro j;rw[Jy]
   by_cases hj:j<xs.length
   .let O:j<acc.size:=by rw[B.1,J];show hj
    let{a1,ev}:=B.2 j acc[j] (by rw[G5 O]);let Y:es.toList[j]?=some {nh xs[j].1,.ref xs[j].2.1,xs[j].2.2}:=by rw[h4,Gi,Jb hj];rfl
    rw[Jt,G5 a1]at Y;let Y:=BG Y;rw[Jt,G5 O,ev,Y,Gi,Jb hj];rfl
   .rw[Jt,Array.getElem?_eq_none (by rw[B.1,J];lia),Bk (by rw[Ja];lia)]
  rw[a2];show hR h' tk a0
def uQ{kvs:List Az}(nd:(kvs.map (·.1)).Nodup)(hs:∀x∈kvs,x.1.map NI.sh=[0,1]):((kitN kvs).map (·.2.2)).Nodup:=by
 unfold kitN;rw[Jy];show Jz.mpr ((Jz.mp nd).imp_of_mem λ{a b}G B h z=>h ?_);let{O,Z,e1}:=Ik (hs a G);let{J,Y,e2}:=Ik (hs b B);let z:encP a.1=encP b.1:=z;rw[e1,e2]at z⊢;injection z with q1 q2
 rw[q1,q2]
def IJ(K:PySem.W.Frag)(h:Bool):List V->Hp->VK->Prop:=λxs H Q=>∃(d:Addr)(kvs:List Az),xs=[.ref d]/\DnAt K H d [0,1] kvs/\kvs.length<65536 /\
 ∀(D:Addr)(L':List BM),H D=none->L'.Perm (kitN kvs)->L'.Pairwise (λa b=>HT.lexLt a.2.2 b.2.2=true)->Q (.ref D) (upd H D (.lst ((CO h L').map λq=>V.ref q.2.1)))
theorem oW(Y:argsOk "sorted" {[.ref d],kw})(O:∀D,argsOk "list.sort" {[.ref D],kw})(G:∀D,Builtin.«list.sort» {[.ref D],kw}=Builtin.«list.sort» {[.ref D],[(E7 "reverse",.bool b)]})(hc:X.calm=true)(hu:X.A.units+200<E8)(I:AB X pq σ H s)(h:IJ X.K b [.ref d] H Q):Cg (Cj X.prog X.w) X.A (call (.builtin "sorted") [.ref d] kw) (EP X pq σ Q) E s:=by
 let{_,kvs,e,g,Z,q}:=h;cases e;let{nd,na,a0}:=kX hc I g;let hk:∀q∈kitN kvs,KpAt X.K H q:=λq B=>by
  let{x,hx,rfl}:=Jq.mp B;show fS (g.ks x hx).1 (g.ks x hx).2
 let ev:Zg (kitN kvs)=kvs.map λq=>Cd q.2.1:=by unfold Zg kitN;rw[Jy];rfl
 let n2:=uQ nd λx hx=>(g.ks x hx).2;let pr:=Sr b (kitN kvs);show XR Y O G I (λ{A R E}hA hR=>a0 hA (by rwa[<-ev])) (by unfold kitN;rw[Ja];show Z) (by unfold kitN;rwa[Jy]) n2 (λ_ _ J h0{_ _ _}q=>fM J hk () q) (λ_ _ _ J=>xS J (by show X.A.units+1+1<E8;lia) (λq B=>hk q (pr.mem_iff.mp B)) ((pr.map _).nodup_iff.mpr n2)) q
variable{e v:Expr}{ta:TA}{p fG:Pos}
def RG(K:PySem.W.Frag)(ta:TA):TE:=λσ H Q=>ta σ H λvs H1=>IJ K true vs H1 Q
def zT{K:PySem.W.Frag}(hc:X.calm=true)(hK:X.K=K)(hu:X.A.units+200<E8)(hg:Gl X "sorted")(hm:X.mg "sorted"=none)(ha:PA X [e] ta)(hk:PK X [{some "reverse",v,fG}] (IE (tC (.bl true)) tNil))(G:Cr [e] X.env=[(false,eval e X.env)]:=by rfl) :
  PE X (.Call (.Name "sorted" p) [e] [{some "reverse",v,fG}] dF) (RG K ta):=by
 subst hK;intro pq s σ H Q I h;show Ee (Nq I hg hm Ek ?_);show callWith_kw (AS (ha dF pq s σ H _ I h) λus O hz=>?_) (by rw[G];rfl) (by rw[G];rfl);let{vs,H1,I1,r1,q1}:=hz;show AS (hk dF pq O σ H1 (λB J=>B=[.bl true]/\IJ X.K true vs J Q) I1 {W,q1}) λws s2 hz=>?_;let{B,J,I2,Y,ez,q}:=hz;subst ez;let{dv,rfl,rd}:=AF.one Y;cases(show dv=K0 true from rd);let{d,_,rfl,_}:=id q;let{u,rfl,Z}:=AF.one r1;obtain rfl:u=Cd d:=Z;show oW (args_sorted_rev _ _) (λ_=>args_list_sort_rev _ _) (λ_=>rfl) hc hu I2 q
end
end L2
namespace L3
open PySem L2
structure Cf where
 c:Addr
 k:Cq
set_option genInjectivity true in
inductive D where
 |non|bl (b:Bool)|int (i:Int)|str (x:Str)|ty (n:String)|at(a:Addr)
 |tup (xs:List D)|lst (xs:List D)|frz (xs:List D)|dct (kvs:List (AI×D))|dcT (kvs:List (List AI×D))
 |code (S:List Pr)|cell (k:Nat)|exc (C:Addr) (fs:List (Str×D))|nst (ks:List NI)|itp (x:List Int)
variable{ds xs:List L3.D}
inductive MO where
 |lst (xs:List D)|dct (kvs:List (AI×D))|dcT (kvs:List (List AI×D))|drK (kvs:List (AI×D))|drT (kvs:List (List AI×D))|dfT (o:Obj) (vs:List (List AI×V)) (kvs:List (List AI×D))|dfK (o:Obj) (vs:List (AI×V)) (kvs:List (AI×D))|ins (C:Addr) (fs:List (Str×D))|hand|tab (P:Addr) (dF:Pos) (q:Str)|dcN (sh:List Nat) (z:Option (Obj×List Az)) (kvs:List (List NI×D))
variable{m:L3.MO}
abbrev AC:=List MO
mutual
inductive AN(C:Cf)(I:Hp)(α:List Addr):V->D->Prop where
 |non:AN C I α .non .non
 |bl (b:Bool):AN C I α (.bl b) (.bl b)
 |int (i:Int):AN C I α (.int i) (.int i)
 |str (x:Str):AN C I α (.str x) (.str x)
 |ty (n:String):AN C I α (.ty n) (.ty n)
 |at(a:Addr):AN C I α (.ref a) (.at a)
 |tup {a:Addr} {vs:List V} {ds:List D}:I a=some (.tup vs)->AA C I α vs ds->AN C I α (.ref a) (.tup ds)
 |lst {a:Addr} {vs:List V} {ds:List D}:I a=some (.lst vs)->AA C I α vs ds->AN C I α (.ref a) (.lst ds)
 |frz {a:Addr} {vs:List V} {ds:List D}:Ad C.k I a vs->AA C I α vs ds->AN C I α (.ref a) (.frz ds)
 |dct {a:Addr} {vs:List (AI×V)} {ds:List (AI×D)}:I a=some (.dK vs)->AV C I α vs ds->AN C I α (.ref a) (.dct ds)
 |dcT {a:Addr} {vs:List (List AI×V)} {ds:List (List AI×D)}:I a=some (.dT vs)->AW C I α vs ds->AN C I α (.ref a) (.dcT ds)
 |code {x:Addr} {S:List Pr}:Tq C.c I x S->AN C I α (.ref x) (.code S)
 |cell {a:Addr} {k:Nat}:α[k]?=some a->AN C I α (.ref a) (.cell k)
 |exc {ea Ce:Addr} {d:Option Addr} {vs:List (Str×V)} {fs:List (Str×D)}:I ea=some (.ext (Ac ea Ce d))->XD I d vs->As C I α vs fs->AN C I α (.ref ea) (.exc Ce fs)
 |nst {a:Addr} {ks:List NI}:Aj C.k I ks a->AN C I α (.ref a) (.nst ks)
 |itp {a:Addr} {x:List Int}:A2 C.k I a (x.map V.int)->AN C I α (.ref a) (.itp x)
inductive AA(C:Cf)(I:Hp)(α:List Addr):List V->List D->Prop where
 |nil:AA C I α [] []
 |cons {v:V} {d:D} {vs:List V} {ds:List D}:AN C I α v d->AA C I α vs ds->AA C I α (v::vs) (d::ds)
inductive AV(C:Cf)(I:Hp)(α:List Addr):List (AI×V)->List (AI×D)->Prop where
 |nil:AV C I α [] []
 |cons {k:AI} {v:V} {d:D} {vs:List (AI×V)} {ds:List (AI×D)}:AN C I α v d->AV C I α vs ds->AV C I α ((k,v)::vs) ((k,d)::ds)
inductive As(C:Cf)(I:Hp)(α:List Addr):List (Str×V)->List (Str×D)->Prop where
 |nil:As C I α [] []
 |cons {k:Str} {v:V} {d:D} {vs:List (Str×V)} {ds:List (Str×D)}:AN C I α v d->As C I α vs ds->As C I α ((k,v)::vs) ((k,d)::ds)
inductive AW(C:Cf)(I:Hp)(α:List Addr):List (List AI×V)->List (List AI×D)->Prop where
 |nil:AW C I α [] []
 |cons {k:List AI} {v:V} {d:D} {vs:List (List AI×V)} {ds:List (List AI×D)}:AN C I α v d->AW C I α vs ds->AW C I α ((k,v)::vs) ((k,d)::ds)
end
section
variable{C:Cf} 
def Q6{k:Nat}{a:Addr}(p:α<+:α')(h:α[k]?=some a):α'[k]?=some a:=by
 let{t,rfl}:=p;let{B,_}:=Jd.mp h;rwa[Jo B]
mutual
theorem AN.mono(s:AL I I')(p:α<+:α'):∀{v:V}{d:D},AN C I α v d->AN C I' α' v d:=by
 intro _ _ h;cases h with
 |non=>show .non
 |bl b=>show .bl b
 |int i=>show .int i
 |str x=>show .str x
 |ty n=>show .ty n
 |«at» a=>show .at a
 |tup e r=>show .tup (s _ _ e) (AA.mono s p r)
 |lst e r=>show .lst (s _ _ e) (AA.mono s p r)
 |frz e r=>show .frz (s.seq e) (AA.mono s p r)
 |dct e r=>show .dct (s _ _ e) (AV.mono s p r)
 |dcT e r=>show .dcT (s _ _ e) (AW.mono s p r)
 |code h=>show .code (h.same s)
 |cell e=>show .cell (Q6 p e)
 |exc e f r=>show .exc (s _ _ e) (f.mono s) (As.mono s p r)
 |nst e=>show .nst (e.same s)
 |itp e=>show .itp (Qg s e)
theorem AA.mono(s:AL I I')(p:α<+:α'):∀{vs:List V}{ds:List D},AA C I α vs ds->AA C I' α' vs ds:=by
 intro _ _ h;cases h with
 |nil=>show .nil
 |cons h r=>show .cons (AN.mono s p h) (AA.mono s p r)
theorem AV.mono(s:AL I I')(p:α<+:α'):∀{vs:List (AI×V)}{ds:List (AI×D)},AV C I α vs ds->AV C I' α' vs ds:=by
 intro _ _ h;cases h with
 |nil=>show .nil
 |cons h r=>show .cons (AN.mono s p h) (AV.mono s p r)
theorem As.mono(s:AL I I')(p:α<+:α'):∀{vs:List (Str×V)}{ds:List (Str×D)},As C I α vs ds->As C I' α' vs ds:=by
 intro _ _ h;cases h with
 |nil=>show .nil
 |cons h r=>show .cons (AN.mono s p h) (As.mono s p r)
theorem AW.mono(s:AL I I')(p:α<+:α'):∀{vs:List (List AI×V)}{ds:List (List AI×D)},AW C I α vs ds->AW C I' α' vs ds:=by
 intro _ _ h;cases h with
 |nil=>show .nil
 |cons h r=>show .cons (AN.mono s p h) (AW.mono s p r)
end
theorem AA.length:∀{vs:List V}{ds:List D},AA C I α vs ds->vs.length=ds.length:=by
 intro _ _ h;cases h with
 |nil=>
  show W
 |cons _ r=>
  show by rw[Ju,Ju,AA.length r]
theorem AA.get:∀{vs:List V}{ds:List D}{i:Nat}{d:D},AA C I α vs ds->ds[i]?=some d->∃v,vs[i]?=some v/\AN C I α v d
 |_,_,_,_,.nil,e=>by simp at e
 |_,_,0,_,.cons r _,e=>by simp at e;subst e;show{·,r}
 |_,_,i+1,d,.cons _ t,e=>by
  let{u,h1,h2}:=AA.get (i:=i) (d:=d) t (by simpa using e);exists u,by simpa using h1,h2
theorem AA.at:∀{vs:List V}{ds:List D}{i:Nat},AA C I α vs ds->(h1:i<vs.length)->(h2:i<ds.length)->AN C I α vs[i] ds[i]:=λ{vs ds i}r h1 h2=>by
 let{v,e,z}:=r.get (Jb h2);rw[Jb h1]at e;cases e;show z
theorem AA.app:∀{vs ws:List V}{ds es:List D},AA C I α vs ds->AA C I α ws es->AA C I α (vs++ws) (ds++es):=by
 intro _ _ _ _ h s;cases h with
 |nil=>
  show s
 |cons r t=>
  show .cons r (AA.app t s)
def AA.one(h:AN C I α v d):AA C I α [v] [d]:=.cons h .nil
def InvR(C:Cf)(I:Hp)(α:List Addr)(v:V):D->Prop
 |.non=>v=.non
 |.bl b=>v=.bl b
 |.int i=>v=.int i
 |.str x=>v=.str x
 |.ty n=>v=.ty n
 |.at a=>v=.ref a
 |.tup ds=>∃a vs,v=.ref a/\I a=some (.tup vs)/\AA C I α vs ds
 |.lst ds=>∃a vs,v=.ref a/\I a=some (.lst vs)/\AA C I α vs ds
 |.frz ds=>∃a vs,v=.ref a/\Ad C.k I a vs/\AA C I α vs ds
 |.dct ds=>∃a vs,v=.ref a/\I a=some (.dK vs)/\AV C I α vs ds
 |.dcT ds=>∃a vs,v=.ref a/\I a=some (.dT vs)/\AW C I α vs ds
 |.code S=>∃x,v=.ref x/\Tq C.c I x S
 |.cell k=>∃a,v=.ref a/\α[k]?=some a
 |.exc h fs=>∃ea d vs,v=.ref ea/\I ea=some (.ext (Ac ea h d))/\XD I d vs/\As C I α vs fs
 |.nst ks=>∃a,v=.ref a/\Aj C.k I ks a
 |.itp x=>∃a,v=.ref a/\A2 C.k I a (x.map V.int)
theorem AN.inv(r:AN C I α v d):InvR C I α v d:=by
 cases r with
 |non=>rfl
 |bl b=>rfl
 |int i=>rfl
 |str x=>rfl
 |ty n=>rfl
 |«at» a=>rfl
 |tup e r=>show{_,_,W,e,r}
 |lst e r=>show{_,_,W,e,r}
 |frz e r=>show{_,_,W,e,r}
 |dct e r=>show{_,_,W,e,r}
 |dcT e r=>show{_,_,W,e,r}
 |code h=>show{_,W,h}
 |cell e=>show{_,W,e}
 |exc e f r=>show{_,_,_,W,e,f,r}
 |nst e=>show{_,W,e}
 |itp e=>show{_,W,e}
def AN.cellI(r:AN C I α (.ref a) (.cell k)):α[k]?=some a:=by
 let{_,e,h}:=r.inv;cases e;show h
def zY(C:Cf)(I:Hp)(α:List Addr)(vs:List V):List D->Prop
 |[]=>vs=[]
 |d::ds=>∃v us,vs=v::us/\AN C I α v d/\AA C I α us ds
theorem AA.inv(r:AA C I α vs ds):zY C I α vs ds:=by
 cases r with
 |nil=>rfl
 |cons h r=>show{_,_,W,h,r}
def AA.nilI(r:AA C I α [] ds):ds=[]:=by
 cases r;rfl
@[elab_as_elim] theorem AA.e1   {P:List V->Prop} (r:AA C I α vs [d]) (h:∀v,AN C I α v d->P [v]):P vs:=by
 let{_,_,rfl,a,r}:=r.inv;cases r.inv;show h _ a
@[elab_as_elim] theorem AA.e2   {P:List V->Prop} (r:AA C I α vs [d,e]) (h:∀v w,AN C I α v d->AN C I α w e->P [v,w]):P vs:=by
 let{_,_,rfl,a,r}:=r.inv;show AA.e1 (P:=λl=>P (_::l)) r λ_ b=>h _ _ a b
@[elab_as_elim] theorem AA.e3  {d e f:D} {P:List V->Prop} (r:AA C I α vs [d,e,f]) (h:∀v w x,AN C I α v d->AN C I α w e->AN C I α x f->P [v,w,x]):P vs:=by
 let{_,_,rfl,a,r}:=r.inv;show AA.e2 (P:=λl=>P (_::l)) r λ_ _ b c=>h _ _ _ a b c
theorem AA.take:∀{vs:List V}{ds:List D}(n:Nat),AA C I α vs ds->AA C I α (vs.take n) (ds.take n)
 |_,_,0,_=>.nil
 |_,_,_+1,.nil=>.nil
 |_,_,n+1,.cons r t=>.cons r (AA.take n t)
theorem AA.drop:∀{vs:List V}{ds:List D}(n:Nat),AA C I α vs ds->AA C I α (vs.drop n) (ds.drop n)
 |_,_,0,r=>r
 |_,_,_+1,.nil=>.nil
 |_,_,n+1,.cons _ t=>AA.drop n t
theorem AA.set(r:AN C I α v d):∀{vs:List V}{ds:List D}(i:Nat),AA C I α vs ds->AA C I α (vs.set i v) (ds.set i d)
 |_,_,_,.nil=>.nil
 |_,_,0,.cons _ t=>.cons r t
 |_,_,i+1,.cons q t=>.cons q (AA.set r i t)
def AA.rev(h:AA C I α vs ds):AA C I α vs.reverse ds.reverse:=by
 let G:∀{vs ws:List V}{ds es:List D},AA C I α vs ds->AA C I α ws es->AA C I α (vs.reverse++ws) (ds.reverse++es):=by
  intro vs
  induction vs with
  |nil=>intro ws ds es h1 h2;cases h1;show h2
  |cons v vs B =>
   intro ws ds es h1 h2;cases h1 with
   |cons a b =>
    rw[Df,Jf,Df,Jf];show B b (.cons a h2)
 let:=G h .nil;rwa [Jx,Jx]at this
theorem AA.ints:∀(ns:List Int),AA C I α (ns.map V.int) (ns.map D.int)
 |[]=>.nil
 |n::r=>.cons (.int n) (AA.ints r)
theorem AA.of_ints:∀{vs:List V}(ns:List Int),AA C I α vs (ns.map D.int)->vs=ns.map V.int
 |_,[],h=>h.inv
 |_,n::r,h=>by
  let{_,_,rfl,a,b}:=h.inv;rw[AA.of_ints r b,a.inv];rfl
end
variable{M:L3.AC}
def BS(C:Cf)(I:Hp)(α:List Addr):List Az->List (List NI×D)->Prop:=Paired λp q=>p.1=q.1/\AN C I α p.2.2 q.2
def P1(C:Cf)(I:Hp)(sh:List Nat)(vs:List Az):Prop:=∀x∈vs,Aj C.k I x.1 x.2.1/\x.1.map NI.sh=sh
def BS.mono{C:Cf}{vs:List Az}{ds:List (List NI×D)}(h:BS C I α vs ds)(s:AL I I')(p:α<+:α'):BS C I' α' vs ds:=Paired.mapP h λ_ _ z=>{z.1,z.2.mono s p}
def P1.mono{C:Cf}{sh:List Nat}{vs:List Az}(h:P1 C I sh vs)(s:AL I I'):P1 C I' sh vs:=λx hx=>{(h x hx).1.same s,(h x hx).2}
def BR(C:Cf)(I:Hp)(α:List Addr)(H:Hp)(a:Addr):MO->Prop
 |.lst ds=>∃vs,H a=some (.lst vs)/\AA C I α vs ds
 |.dct ds=>∃vs,H a=some (.dK vs)/\AV C I α vs ds
 |.dcT ds=>∃vs,H a=some (.dT vs)/\AW C I α vs ds
 |.drK ds=>∃vs,Rd H a (.dK vs)/\AV C I α vs ds
 |.drT ds=>∃vs,Rd H a (.dT vs)/\AW C I α vs ds
 |.dfT o vs ds=>H a=some (.frz o (.dT vs))/\AW C I α vs ds
 |.dfK o vs ds=>H a=some (.frz o (.dK vs))/\AV C I α vs ds
 |.ins Cl fs=>∃dx vs,H a=some (.ins Cl dx vs)/\Paired (λ(p:Str×V)(q:Str×D)=>p.1=q.1/\AN C I α p.2 q.2) vs fs
 |.hand=>∃(d k:Int)(c:Addr)(cs:List Int),H a=some (.lst [.int d,.int k,.ref c])/\I c=some (.lst (cs.map V.int))/\cs≠[]/\cs.length<=63/\0<=d/\0<=k/\∀c∈cs,0<=c
 |.dcN sh none ds=>∃vs,H a=some (.ext (CC a vs))/\P1 C I sh vs/\BS C I α vs ds
 |.dcN sh (some z) ds=>H a=some (.frz z.1 (.ext (CC a z.2)))/\P1 C I sh z.2/\BS C I α z.2 ds
 |.tab P dF q=>a=P/\∃ps,H a=some (.tbl ps)/\TriplesOk ps.toList/\(HN dF ps.toList=none\/∃c,HN dF ps.toList=some (.ref c)/\I c=some (codeφ c q))
theorem BR.some{C:Cf}{a:Addr}(h:BR C I α H a m):∃o,H a=some o:=by
 cases m with
 |lst ds=>obtain⟨vs,e,_⟩:=h;show{_,e}
 |dct ds=>obtain⟨vs,e,_⟩:=h;show{_,e}
 |dcT ds=>obtain⟨vs,e,_⟩:=h;show{_,e}
 |drK ds=>obtain⟨vs,e,_⟩:=h;rcases e with e|⟨o,e⟩<;>show{_,e}
 |drT ds=>obtain⟨vs,e,_⟩:=h;rcases e with e|⟨o,e⟩<;>show{_,e}
 |dfT o vs ds=>show{_,h.1}
 |dfK o vs ds=>show{_,h.1}
 |ins Cl fs=>obtain⟨dx,vs,e,_⟩:=h;show{_,e}
 |hand=>obtain⟨d,k,c,cs,e,_⟩:=h;show{_,e}
 |tab P dF q=>obtain⟨_,ps,e,_⟩:=h;show{_,e}
 |dcN sh z ds=>cases z with|none=>obtain⟨vs,e,_⟩:=h;show{_,e}|some z=>show{_,h.1}
theorem BR.mono{C:Cf}{a:Addr}(h:BR C I α H a m)(s:AL I I')(p:α<+:α')(e:H' a=H a):BR C I' α' H' a m:=by
 cases m with
 |lst ds=>obtain⟨vs,e1,r⟩:=h;show{vs,e.trans e1,r.mono s p}
 |dct ds=>obtain⟨vs,e1,r⟩:=h;show{vs,e.trans e1,r.mono s p}
 |dcT ds=>obtain⟨vs,e1,r⟩:=h;show{vs,e.trans e1,r.mono s p}
 |drK ds=>obtain⟨vs,e1,r⟩:=h;show{vs,e1.imp (λz=>e.trans z) (λ⟨o,z⟩=>{o,e.trans z}),r.mono s p}
 |drT ds=>obtain⟨vs,e1,r⟩:=h;show{vs,e1.imp (λz=>e.trans z) (λ⟨o,z⟩=>{o,e.trans z}),r.mono s p}
 |dfT o vs ds=>show{e.trans h.1,h.2.mono s p}
 |dfK o vs ds=>show{e.trans h.1,h.2.mono s p}
 |ins Cl fs=>obtain⟨dx,vs,e1,r⟩:=h;exists dx,vs,e.trans e1,Paired.mapP r λ_ _ z=>{z.1,z.2.mono s p}
 |hand=>obtain⟨d,k,c,cs,e1,e2,r⟩:=h;show{d,k,c,cs,e.trans e1,s _ _ e2,r}
 |tab P dF q =>
  let{B,ps,e1,t,r}:=h;show{B,ps,e.trans e1,t,?_};rcases r with r|⟨c,r1,r2⟩
  .show .inl r
  .show .inr {c,r1,s _ _ r2}
 |dcN sh z ds=>cases z with
  |none=>obtain⟨vs,e1,k,r⟩:=h;show{vs,e.trans e1,k.mono s,r.mono s p}
  |some z=>obtain⟨e1,k,r⟩:=h;show{e.trans e1,k.mono s,r.mono s p}
abbrev X3:=Addr->List (Str×D)->AC->Prop
structure CP where
 i:Hp
 a:List Addr
 xe:XK
 kx:X3
variable{Z Z':L3.CP}
structure AR(C:Cf)(Z:CP)(I:Hp)(α:List Addr)(H:Hp)(M:AC):Prop where
 ai:AL Z.i I
 aa:Z.a<+:α
 sub:AL I H
 len:α.length=M.length
 nd:α.Nodup
 cel:∀(k:Nat)(a:Addr)(m:MO),α[k]?=some a->M[k]?=some m->BR C I α H a m/\I a=none
section
variable{C:Cf} 
def AR.get(R:AR C Z I α H M){k:Nat}(h:M[k]?=some m):∃a,α[k]?=some a/\BR C I α H a m/\I a=none:=by
 let{G,_}:=Jd.mp h;let B:k < α.length:=by rw[R.len];show G
 show{α[k],Jb B,R.cel k _ m (Jb B) h}
def AR.cellNe(R:AR C Z I α H M){k:Nat}{a p:Addr}(h:α[k]?=some a)(G:H p=none):a≠p:=by
 let{J,_}:=Jd.mp h;let B:k<M.length:=by rw[<-R.len];show J
 let{o,e}:=(R.cel k a _ h (Jb B)).1.some;show Z8 e G
def AR.new(R:AR C Z I α H M)(B:H p=none):AR C Z (upd I p o) α (upd H p o) M/\AL I (upd I p o)/\(upd I p o) p=some o:=by
 let G:I p=none:=R.sub.free B;let s:AL I (upd I p o):=Wc G;exists{R.ai.trans s,R.aa,λb u h=>?_,R.len,R.nd,λk a m h1 h2=>?_},s,Zw
 .by_cases e:b=p
  .subst e;rw[Zw]at h⊢;show h
  .rw[Zq e]at h⊢;show R.sub b u h
 .let⟨O,J⟩:=R.cel k a m h1 h2;let ne:=R.cellNe h1 B;show{O.mono s (Jn _) (Zq ne),by rw[Zq ne];show J}
theorem AR.cell(R:AR C Z I α H M)(G:H p=none)(Y:∀H',H' p=some o->BR C I α H' p m):AR C Z I (α++[p]) (upd H p o) (M++[m])/\α<+:(α++[p])/\(α++[p])[M.length]?=some p:=by
 let O:I p=none:=R.sub.free G;show{{R.ai,R.aa.trans (Gj _ _),λb u h=>?_,by rw[Jc,Jc,R.len];rfl,?_,λk a x h1 h2=>?_},Gj _ _,by rw[<-R.len];simp}
 .let ne:b≠p:=λe=>by rw[e,O]at h;cases h
  rw[Zq ne];show R.sub b u h
 .rw[Bn];exists R.nd,by simp,λa ha b hb=>?_;let{k,B,rfl}:=Ge ha;rw[Jj.mp hb];show R.cellNe (Jb B) G
 .by_cases B:k < α.length
  .rw[Jo B]at h1;rw[Jo (by rw[<-R.len];show B)]at h2;let{a1,a2}:=R.cel k a x h1 h2;show{a1.mono (.refl _) (Gj _ _) (Zq (R.cellNe h1 G)),a2}
  .let⟨J,_⟩:=Jd.mp h1;rw[Jc,G0]at J;let e:k=α.length:=by lia
   subst e;let e1:(α++[p])[α.length]?=some p:=by simp
   let e2:(M++[m])[α.length]?=some m:=by rw[R.len];simp
   rw[e1]at h1;rw[e2]at h2;cases h1;cases h2;exists(Y _ Zw).mono (.refl _) (Gj _ _) W,O
def AR.put(R:AR C Z I α H M)(G:α[k]?=some a)(J:∀H',H' a=some o->BR C I α H' a m):AR C Z I α (upd H a o) (M.set k m):=by
 let{O,ea}:=Jd.mp G;let B:k<M.length:=by rw[<-R.len];show O
 let ia:I a=none:=(R.cel k a _ G (Jb B)).2;exists R.ai,R.aa,λb u h=>?_,by rw[Gz];show R.len,R.nd,λj b x h1 h2=>?_
 .let ne:b≠a:=λe=>by rw[e,ia]at h;cases h
  rw[Zq ne];show R.sub b u h
 .by_cases e:k=j
  .subst e;rw[G]at h1;cases h1;rw[Gw B]at h2;cases h2;show{J _ Zw,ia}
  .rw[G2 e]at h2;let{a1,a2}:=R.cel j b x h1 h2;let{hj,Y}:=Jd.mp h1;let ne:b≠a:=λz=>e (by
    rw[<-ea,<-Y]at z;show((Bf R.nd).mp z).symm)
   show{a1.mono (.refl _) (Jn _) (Zq ne),a2}
end
abbrev Ev:=List (Option D)
variable{ρ:L3.Ev}
abbrev K3:=D->AC->Prop
abbrev AQ:=Ev->AC->K3->Prop
variable{ua ub uo ue:L3.AQ}
abbrev CS:=Ev->AC->(Bool->AC->Prop)->Prop
abbrev CA:=Ev->AC->(List D->AC->Prop)->Prop
abbrev TO3:=Ev->AC->(Option Int->AC->Prop)->Prop
abbrev R3:=D->D->AC->K3->Prop
structure AT where
 nx:Ev->AC->Prop
 rt:K3
 bk:Ev->AC->Prop:=λ_ _=>False
 ct:Ev->AC->Prop:=λ_ _=>False
abbrev BW:=AT->Ev->AC->Prop
abbrev TG3:=D->Ev->AC->(Ev->AC->Prop)->Prop
abbrev TGs3:=List D->Ev->AC->(Ev->AC->Prop)->Prop
def A1(C:Cf)(I:Hp)(α:List Addr)(σ:St)(ρ:Ev):Prop:=σ.length=ρ.length/\∀(i:Nat)(d:D),ρ[i]?=some (some d)->∃v,σ[i]?=some (some v)/\AN C I α v d
def A1.mono{C:Cf}(h:A1 C I α σ ρ)(s:AL I I')(p:α<+:α'):A1 C I' α' σ ρ :=
 {h.1,λi d e=>let{v,a,b}:=h.2 i d e;{v,a,b.mono s p}}
theorem A1.set{C:Cf}(h:A1 C I α σ ρ){v:V}{d:D}(r:AN C I α v d)(i:Nat):A1 C I α (σ.set i (some v)) (ρ.set i (some d)):=by
 exists by rw[Gz,Gz];show h.1,λj e q=>?_
 by_cases z:i=j
 .subst z
  by_cases hl:i < ρ.length
  .rw[Gw hl]at q;cases q;show{v,Gw (by rw[h.1];show hl),r}
  .rw[Bk (by rw[Gz];lia)]at q;cases q
 .rw[G2 z]at q⊢;show h.2 j e q
def Fin(C:Cf)(Z:CP)(I:Hp)(α:List Addr)(K:K3)(Q:VK):Prop:=∀v d I' α' H' h,AL I I'->α<+:α'->AR C Z I' α' H' h->AN C I' α' v d->K d h->Q v H'
def Fin.on{C:Cf}{K:K3}{v:V}{d:D}(k:Fin C Z I α K Q)(s:AL I I')(R:AR C Z I' α H M)(r:AN C I' α v d)(h:K d M):Q v H:=k v d I' α H M s (Jn _) R r h
def Fin.now{C:Cf}{K:K3}{v:V}{d:D}(k:Fin C Z I α K Q)(R:AR C Z I α H M)(r:AN C I α v d)(h:K d M):Q v H:=k.on (.refl _) R r h
def Fin.mono{C:Cf}{K:K3}(h:Fin C Z I α K Q)(s:AL I I')(p:α<+:α'):Fin C Z I' α' K Q:=λv d J B O M2 G p2=>h v d J B O M2 (s.trans G) (p.trans p2)
def AE(C:Cf)(Z:CP)(t:TE)(u:AQ):Prop:=∀I α σ H ρ M(K:K3)(Q:VK),AR C Z I α H M->A1 C I α σ ρ->u ρ M K->Fin C Z I α K Q->t σ H Q
def BU(C:Cf)(Z:CP)(t:TT)(u:CS):Prop:=∀I α σ H ρ M(K:Bool->AC->Prop)(Q:Bool->Hp->Prop),AR C Z I α H M->A1 C I α σ ρ->u ρ M K ->
 (∀b I' α' H' h,AL I I'->α<+:α'->AR C Z I' α' H' h->K b h->Q b H')->t σ H Q
def Ap(C:Cf)(Z:CP)(t:TA)(u:CA):Prop:=∀I α σ H ρ M(K:List D->AC->Prop)(Q:List V->Hp->Prop),AR C Z I α H M->A1 C I α σ ρ->u ρ M K ->
 (∀vs ds I' α' H' h,AL I I'->α<+:α'->AR C Z I' α' H' h->AA C I' α' vs ds->K ds h->Q vs H')->t σ H Q
def SimO(C:Cf)(Z:CP)(t:TO)(u:TO3):Prop:=∀I α σ H ρ M(K:Option Int->AC->Prop)(Q:Option Int->Hp->Prop),AR C Z I α H M->A1 C I α σ ρ->u ρ M K ->
 (∀b I' α' H' h,AL I I'->α<+:α'->AR C Z I' α' H' h->K b h->Q b H')->t σ H Q
def BH(C:Cf)(Z:CP)(r:R2)(u:R3):Prop:=∀I α H M x y d e(K:K3)(Q:VK),AR C Z I α H M->AN C I α x d->AN C I α y e->u d e M K->Fin C Z I α K Q->r x y H Q
def SimU(C:Cf)(Z:CP)(r:V->Hp->VK->Prop)(u:D->AC->K3->Prop):Prop:=∀I α H M x d(K:K3)(Q:VK),AR C Z I α H M->AN C I α x d->u d M K->Fin C Z I α K Q->r x H Q
def BK(C:Cf)(Z:CP)(r:List V->Hp->VK->Prop)(u:List D->AC->K3->Prop):Prop:=∀I α H M xs ds(K:K3)(Q:VK),AR C Z I α H M->AA C I α xs ds->u ds M K->Fin C Z I α K Q->r xs H Q
def SimL(C:Cf)(Z:CP)(r:V->Option Int->Option Int->Hp->VK->Prop)(u:D->Option Int->Option Int->AC->K3->Prop):Prop:=∀I α H M x d lo hi(K:K3)(Q:VK),AR C Z I α H M->AN C I α x d->u d lo hi M K->Fin C Z I α K Q->r x lo hi H Q
def BZ(C:Cf)(Z:CP)(I:Hp)(α:List Addr)(K:Ev->AC->Prop)(Q:St->Hp->Prop):Prop:=∀I' α' h H' B G,AL I I'->α<+:α'->AR C Z I' α' H' G->A1 C I' α' h B->K B G->Q h H'
def BZ.mono{C:Cf}{K:Ev->AC->Prop}{Q:St->Hp->Prop}(h:BZ C Z I α K Q)(s:AL I I')(p:α<+:α'):BZ C Z I' α' K Q:=λY J B H2 G M2 O p2=>h Y J B H2 G M2 (s.trans O) (p.trans p2)
structure FinD(C:Cf)(Z:CP)(I:Hp)(α:List Addr)(E:AT)(D':Ends):Prop where
 nx:BZ C Z I α E.nx D'.nx
 rt:Fin C Z I α E.rt D'.rt
 bk:BZ C Z I α E.bk D'.bk
 ct:BZ C Z I α E.ct D'.ct
def FinD.mono{C:Cf}{E:AT}{B:Ends}(h:FinD C Z I α E B)(s:AL I I')(p:α<+:α'):FinD C Z I' α' E B:={h.nx.mono s p,h.rt.mono s p,h.bk.mono s p,h.ct.mono s p}
def A8(C:Cf)(Z:CP)(t:TS)(u:BW):Prop:=∀I α σ H ρ M(E:AT)(h:Ends),AR C Z I α H M->A1 C I α σ ρ->u E ρ M->FinD C Z I α E h->t h σ H
def SimG(C:Cf)(Z:CP)(t:TG)(u:TG3):Prop:=∀I α σ H ρ M v d(K:Ev->AC->Prop)(Q:St->Hp->Prop),AR C Z I α H M->A1 C I α σ ρ->AN C I α v d->u d ρ M K->BZ C Z I α K Q->t v σ H Q
def GX(C:Cf)(Z:CP)(t:TGs)(u:TGs3):Prop:=∀I α σ H ρ M vs ds(K:Ev->AC->Prop)(Q:St->Hp->Prop),AR C Z I α H M->A1 C I α σ ρ->AA C I α vs ds->u ds ρ M K->BZ C Z I α K Q->t vs σ H Q
section
variable{C:Cf}{tA tB':TT}{uA uB:CS}{t:TA}{u:CA}
inductive Ao(i:Nat)(ρ:Ev)(M:AC)(K:K3):Prop
 |mk:∀d,ρ[i]?=some (some d)->K d M->Ao i ρ M K
def Zt(i:Nat):AE C Z (tVar i) (Ao i):=λI α σ H ρ M K Q R E h k=>by
 let{d,e,h}:=h;let{v,e2,r}:=E.2 i d e;show{v,e2,k v d I α H M (.refl _) (Jn _) R r h}
abbrev uC(d:D):AQ:=λ_ M K=>K d M
def EQ(r:∀I α,AN C I α v d):AE C Z (tC v) (uC d):=λI α σ H ρ M K Q R E h k=>k v d I α H M (.refl _) (Jn _) R (r I α) h
def Vk :AE C Z (tC (.int i)) (uC (.int i)):=EQ λ_ _=>.int i
def s_bl :AE C Z (tC (.bl i)) (uC (.bl i)):=EQ λ_ _=>.bl i
def OQ:AE C Z (tC .non) (uC .non):=EQ λ_ _=>.non
def yN :AE C Z (tC (.str i)) (uC (.str i)):=EQ λ_ _=>.str i
def s_ty :AE C Z (tC (.ty i)) (uC (.ty i)):=EQ λ_ _=>.ty i
def s_at :AE C Z (tC (.ref a)) (uC (.at a)):=EQ λ_ _=>.at a
abbrev iX(u:R3)(K:K3)(d:D):D->AC->Prop:=λe M2=>u d e M2 K
abbrev nJ(u:R3)(ub:AQ)(ρ:Ev)(K:K3):D->AC->Prop:=λd M1=>ub ρ M1 (iX u K d)
def uOp(u:R3)(ua ub:AQ):AQ:=λρ M K=>ua ρ M (nJ u ub ρ K)
def BE{r:R2}{u:R3}(hr:BH C Z r u)(ha:AE C Z ta ua)(hb:AE C Z tb ub):AE C Z (tOp r ta tb) (uOp u ua ub):=λI α σ H ρ M K Q R E h k =>
 ha I α σ H ρ M _ _ R E h λv d I1 G H1 M1 O Y R1 r1 h1 =>
  hb I1 G σ H1 ρ M1 _ _ R1 (E.mono O Y) h1 λw e I2 B H2 M2 J p2 R2 r2 h2 =>
   hr I2 B H2 M2 v w d e K Q R2 (r1.mono J p2) r2 h2 (k.mono (O.trans J) (Y.trans p2))
abbrev rQ(u:D->AC->K3->Prop)(K:K3):D->AC->Prop:=λd M1=>u d M1 K
def uUn(u:D->AC->K3->Prop)(ua:AQ):AQ:=λρ M K=>ua ρ M (rQ u K)
def s_un{r:V->Hp->VK->Prop}{u:D->AC->K3->Prop}(Y:SimU C Z r u)(ha:AE C Z ta ua):AE C Z (tUn r ta) (uUn u ua):=λI α σ H ρ M K Q R E h k =>
 ha I α σ H ρ M _ _ R E h λv d I1 B H1 M1 G O R1 J h1=>Y I1 B H1 M1 v d K Q R1 J h1 (k.mono G O)
def D.isN:D->Bool|.non=>true|_=>false
def aI(h:AN C I α v d):decide (v=.non)=d.isN:=by cases h<;>simp[D.isN]
abbrev gY(K:K3):D->AC->Prop:=λd M1=>K (.bl d.isN) M1
def uIsN(ua:AQ):AQ:=λρ M K=>ua ρ M (gY K)
abbrev xN(K:K3):D->AC->Prop:=λd M1=>K (.bl (!d.isN)) M1
def yT(ua:AQ):AQ:=λρ M K=>ua ρ M (xN K)
def Zyh(Y:AE C Z ta ua):AE C Z (tIsN ta) (uIsN ua):=λI α σ H ρ M K Q R E h k =>
 Y I α σ H ρ M _ _ R E h λv d I1 B H1 M1 G O R1 J h1=>by
  rw[aI J];show k _ _ I1 B H1 M1 G O R1 (.bl _) h1
def aL(Y:AE C Z ta ua):AE C Z (cC ta) (yT ua):=λI α σ H ρ M K Q R E h k =>
 Y I α σ H ρ M _ _ R E h λv d I1 B H1 M1 G O R1 J h1=>by
  rw[aI J];show k _ _ I1 B H1 M1 G O R1 (.bl _) h1
inductive uB3_1(K:Bool->AC->Prop)(d:D)(M1:AC):Prop
 |mk:∀c,d=.bl c->K c M1->uB3_1 K d M1
def uB3(ua:AQ):CS:=λρ M K=>ua ρ M (uB3_1 K)
def s_b(Y:AE C Z ta ua):BU C Z (tB ta) (uB3 ua):=λI α σ H ρ M K Q R E h k =>
 Y I α σ H ρ M _ _ R E h λv d I1 B H1 M1 G O R1 J h1=>by
  let{c,e,h1}:=h1;subst e;cases J.inv;show{c,W,k c I1 B H1 M1 G O R1 h1}
def So(h:AE C Z ta ua):BU C Z (XH ta) (uB3 ua):=s_b h
abbrev iS(uB:CS)(ρ:Ev)(K:Bool->AC->Prop):Bool->AC->Prop:=λc M1=>if c=true then uB ρ M1 K else K false M1
def uAnd(uA uB:CS):CS:=λρ M K=>uA ρ M (iS uB ρ K)
abbrev qK(uB:CS)(ρ:Ev)(K:Bool->AC->Prop):Bool->AC->Prop:=λc M1=>if c=true then K true M1 else uB ρ M1 K
def uOr(uA uB:CS):CS:=λρ M K=>uA ρ M (qK uB ρ K)
abbrev vB(K:Bool->AC->Prop):Bool->AC->Prop:=λc M1=>K (!c) M1
def uNot(uA:CS):CS:=λρ M K=>uA ρ M (vB K)
def lO(ha:BU C Z tA uA)(hb:BU C Z tB' uB):BU C Z (tAnd tA tB') (uAnd uA uB):=λI α σ H ρ M K Q R E h k =>
 ha I α σ H ρ M _ _ R E h λc I1 B H1 M1 J O Y h1=>by
  cases c with
  |true =>
   show hb I1 B σ H1 ρ M1 _ _ Y (E.mono J O) h1 λb I2 G H2 M2 s2 p2 R2 h2=>k b I2 G H2 M2 (J.trans s2) (O.trans p2) R2 h2
  |false =>
   show k false I1 B H1 M1 J O Y h1
def s_or(ha:BU C Z tA uA)(hb:BU C Z tB' uB):BU C Z (tOr tA tB') (uOr uA uB):=λI α σ H ρ M K Q R E h k =>
 ha I α σ H ρ M _ _ R E h λc I1 B H1 M1 J O Y h1=>by
  cases c with
  |false =>
   show hb I1 B σ H1 ρ M1 _ _ Y (E.mono J O) h1 λb I2 G H2 M2 s2 p2 R2 h2=>k b I2 G H2 M2 (J.trans s2) (O.trans p2) R2 h2
  |true =>
   show k true I1 B H1 M1 J O Y h1
def MG(O:BU C Z tA uA):BU C Z (tNot tA) (uNot uA):=λI α σ H ρ M K Q R E h k =>
 O I α σ H ρ M _ _ R E h λc I1 B H1 M1 G J Y h1=>k _ I1 B H1 M1 G J Y h1
inductive uAndV_1(ub:AQ)(ρ:Ev)(K:K3)(d:D)(M1:AC):Prop
 |mk:∀c,d=.bl c->(if c=true then ub ρ M1 K else K (.bl false) M1)->uAndV_1 ub ρ K d M1
def kU(ua ub:AQ):AQ:=λρ M K=>ua ρ M (uAndV_1 ub ρ K)
inductive uOrV_1(ub:AQ)(ρ:Ev)(K:K3)(d:D)(M1:AC):Prop
 |mk:∀c,d=.bl c->(if c=true then K (.bl true) M1 else ub ρ M1 K)->uOrV_1 ub ρ K d M1
def uOrV(ua ub:AQ):AQ:=λρ M K=>ua ρ M (uOrV_1 ub ρ K)
inductive uNotV_1(K:K3)(d:D)(M1:AC):Prop
 |mk:∀c,d=.bl c->K (.bl (!c)) M1->uNotV_1 K d M1
def oR(ua:AQ):AQ:=λρ M K=>ua ρ M (uNotV_1 K)
def Nh(ha:AE C Z ta ua)(hb:AE C Z tb ub):AE C Z (bA ta tb) (kU ua ub):=λI α σ H ρ M K Q R E h k =>
 ha I α σ H ρ M _ _ R E h λv d Y B H1 M1 G J O r1 h1=>by
  let{c,e,h1}:=h1;subst e;cases r1.inv;show{c,W,?_};cases c with
  |true =>
   show hb Y B σ H1 ρ M1 _ _ O (E.mono G J) h1 (k.mono G J)
  |false =>
   show k _ _ Y B H1 M1 G J O (.bl _) h1
def bE(ha:AE C Z ta ua)(hb:AE C Z tb ub):AE C Z (tOrV ta tb) (uOrV ua ub):=λI α σ H ρ M K Q R E h k =>
 ha I α σ H ρ M _ _ R E h λv d Y B H1 M1 G J O r1 h1=>by
  let{c,e,h1}:=h1;subst e;cases r1.inv;show{c,W,?_};cases c with
  |false =>
   show hb Y B σ H1 ρ M1 _ _ O (E.mono G J) h1 (k.mono G J)
  |true =>
   show k _ _ Y B H1 M1 G J O (.bl _) h1
def IL(Y:AE C Z ta ua):AE C Z (TY ta) (oR ua):=λI α σ H ρ M K Q R E h k =>
 Y I α σ H ρ M _ _ R E h λv d I1 B H1 M1 G O R1 J h1=>by
  let{c,e,h1}:=h1;subst e;cases J.inv;show{c,W,k _ _ I1 B H1 M1 G O R1 (.bl _) h1}
abbrev hJ(ua:AQ)(ub:AQ)(ρ:Ev)(K:K3):Bool->AC->Prop:=λc M1=>if c=true then ua ρ M1 K else ub ρ M1 K
def uIf(uA:CS)(ua ub:AQ):AQ:=λρ M K=>uA ρ M (hJ ua ub ρ K)
def s_if(hc:BU C Z tA uA)(ha:AE C Z ta ua)(hb:AE C Z tb ub):AE C Z (tIf tA ta tb) (uIf uA ua ub):=λI α σ H ρ M K Q R E h k =>
 hc I α σ H ρ M _ _ R E h λc Y B H1 M1 G J O h1=>by
  cases c with
  |true =>
   show ha Y B σ H1 ρ M1 _ _ O (E.mono G J) h1 (k.mono G J)
  |false =>
   show hb Y B σ H1 ρ M1 _ _ O (E.mono G J) h1 (k.mono G J)
abbrev uNil:CA:=λ_ M K=>K [] M
abbrev kA(K:List D->AC->Prop)(d:D):List D->AC->Prop:=λds M2=>K (d::ds) M2
abbrev NT(u:CA)(ρ:Ev)(K:List D->AC->Prop):D->AC->Prop:=λd M1=>u ρ M1 (kA K d)
def N6(ua:AQ)(u:CA):CA:=λρ M K=>ua ρ M (NT u ρ K)
def Y3:Ap C Z tNil uNil:=λI α σ H ρ M K Q R E h k=>k [] [] I α H M (.refl _) (Jn _) R .nil h
def Z9(ha:AE C Z ta ua)(hr:Ap C Z t u):Ap C Z (IE ta t) (N6 ua u):=λI α σ H ρ M K Q R E h k =>
 ha I α σ H ρ M _ _ R E h λv d I1 G H1 M1 O Y R1 r1 h1 =>
  hr I1 G σ H1 ρ M1 _ _ R1 (E.mono O Y) h1 λvs ds I2 B H2 M2 J p2 R2 r2 h2 =>
   k (v::vs) (d::ds) I2 B H2 M2 (O.trans J) (Y.trans p2) R2 (.cons (r1.mono J p2) r2) h2
abbrev nH(K:K3):List D->AC->Prop:=λds M1=>ds.length<=Cb/\K (.tup ds) M1
def uTup(u:CA):AQ:=λρ M K=>u ρ M (nH K)
def GW(ha:Ap C Z t u):AE C Z (tTup t) (uTup u):=λI α σ H ρ M K Q R E h k =>
 ha I α σ H ρ M _ _ R E h λvs ds I1 B H1 M1 O Y R1 J h1=>by
  exists by rw[J.length];show h1.1,λp hp=>?_;let{R2,G,e2}:=R1.new (o:=.tup vs) hp;show k _ _ _ B _ M1 (O.trans G) Y R2 (.tup e2 (J.mono G (Jn _))) h1.2
abbrev sP(K:K3):List D->AC->Prop:=λds M1=>ds.length<=Cb/\K (.lst ds) M1
def uLst(u:CA):AQ:=λρ M K=>u ρ M (sP K)
def RP(ha:Ap C Z t u):AE C Z (tLst t) (uLst u):=λI α σ H ρ M K Q R E h k =>
 ha I α σ H ρ M _ _ R E h λvs ds I1 B H1 M1 O Y R1 J h1=>by
  exists by rw[J.length];show h1.1,λp hp=>?_;let{R2,G,e2}:=R1.new (o:=.lst vs) hp;show k _ _ _ B _ M1 (O.trans G) Y R2 (.lst e2 (J.mono G (Jn _))) h1.2
abbrev vE(K:K3):List D->AC->Prop:=λds M1=>ds.length<=Cb/\K (.cell M1.length) (M1++[.lst ds])
def uF(u:CA):AQ:=λρ M K=>u ρ M (vE K)
def Tl(ha:Ap C Z t u):AE C Z (tLst t) (uF u):=λI α σ H ρ M K Q R E h k =>
 ha I α σ H ρ M _ _ R E h λvs ds I1 G H1 M1 J O R1 B h1=>by
  exists by rw[B.length];show h1.1,λp Y=>?_;let{R2,p2,e2}:=R1.cell (o:=.lst vs) (m:=.lst ds) Y λH' e=>{vs,e,B};show k _ _ I1 _ _ _ J (O.trans p2) R2 (.cell e2) h1.2
abbrev KW(r:List D->AC->K3->Prop)(K:K3):List D->AC->Prop:=λds M1=>r ds M1 K
def uCB(r:List D->AC->K3->Prop)(u:CA):AQ:=λρ M K=>u ρ M (KW r K)
def Ah{r:List V->Hp->VK->Prop}{G:List D->AC->K3->Prop}(hr:BK C Z r G)(ha:Ap C Z t u):AE C Z (tCB r t) (uCB G u):=λI α σ H ρ M K Q R E h k =>
 ha I α σ H ρ M _ _ R E h λvs ds I1 B H1 M1 J Y R1 O h1=>hr I1 B H1 M1 vs ds K Q R1 O h1 (k.mono J Y)
abbrev zA:TO3:=λ_ M K=>K none M
inductive uPart_1(K:Option Int->AC->Prop)(d:D)(M1:AC):Prop
 |mk:∀i,d=.int i->K (some i) M1->uPart_1 K d M1
def iH(ua:AQ):TO3:=λρ M K=>ua ρ M (uPart_1 K)
def mS:SimO C Z cK zA:=λI α σ H ρ M K Q R E h k=>k none I α H M (.refl _) (Jn _) R h
def qP(Y:AE C Z ta ua):SimO C Z (SH ta) (iH ua):=λI α σ H ρ M K Q R E h k =>
 Y I α σ H ρ M _ _ R E h λv d I1 B H1 M1 G O R1 J h1=>by
  let{i,e,h1}:=h1;subst e;cases J.inv;show{i,W,k (some i) I1 B H1 M1 G O R1 h1}
abbrev Zxj(r:D->Option Int->Option Int->AC->K3->Prop)(K:K3)(d:D)(l:Option Int):Option Int->AC->Prop:=λg h=>r d l g h K
abbrev rK(r:D->Option Int->Option Int->AC->K3->Prop)(h:TO3)(ρ:Ev)(K:K3)(d:D):Option Int->AC->Prop:=λl M2=>h ρ M2 (Zxj r K d l)
abbrev xX(r:D->Option Int->Option Int->AC->K3->Prop)(h:TO3)(B:TO3)(ρ:Ev)(K:K3):D->AC->Prop:=λd M1=>h ρ M1 (rK r B ρ K d)
def uSl(r:D->Option Int->Option Int->AC->K3->Prop)(ua:AQ)(h B:TO3):AQ:=λρ M K=>ua ρ M (xX r h B ρ K)
def s_sl{r:V->Option Int->Option Int->Hp->VK->Prop}{r3:D->Option Int->Option Int->AC->K3->Prop}(hr:SimL C Z r r3)(ha:AE C Z ta ua)(hl:SimO C Z tl ul)(hh:SimO C Z th uh):AE C Z (tSl r ta tl th) (uSl r3 ua ul uh):=λI α σ H ρ M K Q R E h k =>
 ha I α σ H ρ M _ _ R E h λv d I1 J H1 M1 Y p1 R1 r1 h1 =>
  hl I1 J σ H1 ρ M1 _ _ R1 (E.mono Y p1) h1 λlo I2 G H2 M2 O p2 R2 h2 =>
   hh I2 G σ H2 ρ M2 _ _ R2 (E.mono (Y.trans O) (p1.trans p2)) h2 λhi I3 B H3 M3 s3 p3 R3 h3 =>
    hr I3 B H3 M3 v d lo hi K Q R3 (r1.mono (O.trans s3) (p2.trans p3)) h3 (k.mono (Y.trans (O.trans s3)) (p1.trans (p2.trans p3)))
abbrev uS(r:D->List D->AC->K3->Prop)(K:K3):D->AC->Prop:=λd M1=>r d [] M1 K
def uBM0(r:D->List D->AC->K3->Prop)(ua:AQ):AQ:=λρ M K=>ua ρ M (uS r K)
abbrev jK(r:D->List D->AC->K3->Prop)(K:K3)(d:D):List D->AC->Prop:=λds M2=>r d ds M2 K
end
def Y8(M:AC):D->Option (List D)
 |.lst ds=>some ds
 |.frz ds=>some ds
 |.cell k=>match M[k]? with|some (.lst ds)=>some ds|_=>none
 |_=>none
def AO(M:AC):D->Option (List D)
 |.lst ds=>some ds
 |.cell k=>match M[k]? with|some (.lst ds)=>some ds|_=>none
 |_=>none
def KQ:D->Option (List D)
 |.tup ds=>some ds
 |_=>none
def Qy(M:AC):D->Option (List D)
 |.tup ds=>some ds
 |d=>Y8 M d
section
variable{C:Cf}{v:V}{d:D} 
def Ws(R:AR C Z I α H M){k:Nat}{a:Addr}(e:α[k]?=some a)(h:M[k]?=some (.lst ds)):∃vs,H a=some (.lst vs)/\AA C I α vs ds:=(R.cel k a _ e h).1
def nos{b:τ}{P:Prop}(h:none=some b):P:=nomatch h
theorem nR(h:AO M (.cell k)=some ds):M[k]?=some (.lst ds):=by
 revert h
 show(match M[k]? with|some (.lst ds)=>some ds|_=>none)=some ds->_;cases M[k]? with
 |none=>show nos
 |some m=>cases m<;>first|show nos|show λh=>by cases h;rfl
def Rn(R:AR C Z I α H M)(r:AN C I α v d)(h:AO M d=some ds):∃a vs,v=.ref a/\H a=some (.lst vs)/\AA C I α vs ds:=by
 cases d<;>first|show nos h|skip
 .let⟨a,vs,e,f,r⟩:=r.inv;cases h;show{a,vs,e,R.sub _ _ f,r}
 .let⟨a,e,f⟩:=r.inv;let{vs,e1,r}:=Ws R f (nR h);show{a,vs,e,e1,r}
def Ur(R:AR C Z I α H M)(r:AN C I α v d)(h:Y8 M d=some ds):∃a vs,v=.ref a/\Ad C.k H a vs/\AA C I α vs ds:=by
 let B:AO M d=some ds->∃a vs,v=.ref a/\Ad C.k H a vs/\AA C I α vs ds:=λh=>by
  let{a,vs,e,f,r}:=Rn R r h;show{a,vs,e,Ad.of f,r}
 cases d<;>first|show nos h|show B h|skip;let{a,vs,e,f,r}:=r.inv;cases h;show{a,vs,e,R.sub.seq f,r}
def Ue(R:AR C Z I α H M)(r:AN C I α v d)(h:KQ d=some ds):∃a vs,v=.ref a/\H a=some (.tup vs)/\I a=some (.tup vs)/\AA C I α vs ds:=by
 cases d<;>first|show nos h|skip;let{a,vs,e,f,r}:=r.inv;cases h;show{a,vs,e,R.sub _ _ f,f,r}
def NV(R:AR C Z I α H M)(r:AN C I α v d)(h:Qy M d=some ds):∃a vs,v=.ref a/\(Ad C.k H a vs\/A2 C.k H a vs)/\AA C I α vs ds:=by
 let B:Y8 M d=some ds->∃a vs,v=.ref a/\(Ad C.k H a vs\/A2 C.k H a vs)/\AA C I α vs ds:=λh=>by
  let{a,vs,e,f,r}:=Ur R r h;show{a,vs,e,.inl f,r}
 cases d<;>first|show B h|skip;let{a,vs,e,f,_,r}:=Ue R r h;show{a,vs,e,.inr (A2.of f),r}
end
def cut(xs:List τ)(lo hi:Option Int):List τ:=(xs.drop (HT.sIx xs.length 0 lo)).take (HT.sIx xs.length xs.length hi-HT.sIx xs.length 0 lo)
theorem AA.cut{C:Cf}(r:AA C I α vs ds)(lo hi:Option Int):AA C I α (CF vs lo hi) (cut ds lo hi):=by
 unfold CF L3.cut;rw[r.length];show(r.drop _).take _
def Vz(f:τ->υ)(xs:List τ)(lo hi:Option Int):cut (xs.map f) lo hi=(cut xs lo hi).map f:=by
 unfold cut;rw[Ja,Dd,List.map_drop]
theorem AA.atI{C:Cf}{i:Int}{d:D}(r:AA C I α vs ds)(h:atI ds i=some d):∃v,L2.atI vs i=some v/\AN C I α v d:=by
 unfold L2.atI at h⊢;rw[r.length];cases e:ixN ds.length i with
 |none=>rw[e]at h;cases h
 |some j =>
  rw[e]at h;show r.get (i:=j) h
section
variable{C:Cf} 
def Ay.or{f:Ca->Ca->Sem Ca}{r J:R2}(h:Ay X f r)(h':Ay X f J):Ay X f (λx y H Q=>r x y H Q\/J x y H Q):=by
 intro pq s σ H x y v u Q I G B q;rcases q with q|q
 .show h pq s σ H x y v u Q I G B q
 .show h' pq s σ H x y v u Q I G B q
def SlR.or{r O:V->Option Int->Option Int->Hp->VK->Prop}(h:SlR X r)(h':SlR X O):SlR X (λx l u H Q=>r x l u H Q\/O x l u H Q):=by
 intro pq s σ H x v G B lo hi sl Q I J hs pl Y q;rcases q with q|q
 .show h pq s σ H x v G B lo hi sl Q I J hs pl Y q
 .show h' pq s σ H x v G B lo hi sl Q I J hs pl Y q
def jP:R2:=λx y H Q=>∃i j,x=.str i/\y=.str j/\i.length+j.length<=Cb/\Q (.str (i++j)) H
def Ic(K:Cq):R2:=λx y H Q=>rI0 (λi j=>.int (i+j)) x y H Q\/jP x y H Q\/rCat x y H Q\/LW K x y H Q
def Yg(h:X.K=K'):Ay X (Hs .Add) (Ic K'):=by
 subst h;show Ay.or xY (Ay.or oJ (Ay.or jD ZL))
def add3:R3:=λd e M K=>match d,e with
 |.int i,.int j=>K (.int (i+j)) M
 |.str a,.str b=>a.length+b.length<=Cb/\K (.str (a++b)) M
 |.tup xs,.tup ys=>(xs≠[]/\xs.length+ys.length<=Cb)/\K (.tup (xs++ys)) M
 |d,e=>∃xs ys,AO M d=some xs/\AO M e=some ys/\xs.length+ys.length<=Cb/\K (.lst (xs++ys)) M
def qY{K:K3}(R:AR C Z I α H M)(O:AN C I α x d)(J:AN C I α y e)(h:∃xs ys,AO M d=some xs/\AO M e=some ys/\xs.length+ys.length<=Cb/\K (.lst (xs++ys)) M)(k:Fin C Z I α K Q):Ic C.k x y H Q:=by
 let{xs,ys,e1,e2,hl,h}:=h;let{a,vs,rfl,ea,G}:=Rn R O e1;let{b,ws,rfl,eb,rb}:=Rn R J e2;show .inr (.inr (.inl {a,b,vs,ws,W,W,ea,eb,by rwa[G.length,rb.length],λp Y=>?_}));let{R2,B,e2}:=R.new (o:=.lst (vs++ws)) Y;show k.on B R2 (.lst e2 ((G.app rb).mono B (Jn _))) h
theorem ZW:BH C Z (Ic C.k) add3:=λI α H M x y d e K Q R B G h k=>by
 let J:=λh=>qY R B G h k;cases d with
 |int i =>
  cases e with
  |int j=>cases B.inv;cases G.inv;show .inl {i,j,W,W,k.now R (.int _) h}
  |_=>show J h
 |str a =>
  cases e with
  |str b=>cases B.inv;cases G.inv;show .inr (.inl {a,b,W,W,h.1,k.now R (.str _) h.2})
  |_=>show J h
 |tup xs =>
  cases e with
  |tup ys =>
   let{{h1,h2},h}:=h;let{a,vs,rfl,ea,ia,O}:=Ue R B W;let{b,ws,rfl,eb,ib,rb}:=Ue R G W;show .inr (.inr (.inr {a,b,vs,ws,W,W,A2.of ea,A2.of eb,λz=>?_,by rwa[O.length,rb.length],λz=>?_,λ_ p hp=>?_}))
   .subst z;show h1 O.nilI
   .subst z;cases rb.nilI;rw[Jx]at h;show k.now R B h
   .let⟨R2,Y,e2⟩:=R.new (o:=.tup (vs++ws)) hp;show k.on Y R2 (.tup e2 ((O.app rb).mono Y (Jn _))) h
  |_=>show J h
 |_=>show J h
inductive int3(c:Int->Int->Prop)(g:Int->Int->D)(d:D)(e:D)(M:AC)(K:K3):Prop
 |mk:∀i j,d=.int i->e=.int j->c i j->K (g i j) M->int3 c g d e M K
inductive CH(g:Int->Int->D)(d:D)(e:D)(M:AC)(K:K3):Prop
 |mk:∀i j,d=.int i->e=.int j->K (g i j) M->CH g d e M K
def LQ{c:Int->Int->Prop}{g:Int->Int->V}{B:Int->Int->D}(O:∀I α i j,AN C I α (g i j) (B i j)):BH C Z (rI c g) (int3 c B):=λI α H M x y d e K Q R J G h k=>by
 let{i,j,rfl,rfl,Y,h}:=h;cases J.inv;cases G.inv;show{i,j,W,W,Y,k.now R (O _ _ _ _) h}
def FV(J:∀I α i j,AN C I α (g i j) (g3 i j)):BH C Z (rI0 g) (CH g3):=λI α H M x y d e K Q R G B h k=>by
 let{i,j,rfl,rfl,h}:=h;cases G.inv;cases B.inv;show{i,j,W,W,k.now R (J _ _ _ _) h}
def mW:BH C Z (rI0 λi j=>.int (i-j)) (CH λi j=>.int (i-j)):=FV λ_ _ _ _=>.int _
def rW:BH C Z (rI CDiv λi j=>.int (i / j)) (int3 CDiv λi j=>.int (i / j)):=LQ λ_ _ _ _=>.int _
def oG:BH C Z (rI (λ_ j=>0<j) λi j=>.int (i % j)) (int3 (λ_ j=>0<j) λi j=>.int (i % j)):=LQ λ_ _ _ _=>.int _
def Zyb:BH C Z (rI CPow λi j=>.int (i ^ j.toNat)) (int3 CPow λi j=>.int (i ^ j.toNat)):=LQ λ_ _ _ _=>.int _
def s_lt:BH C Z (rI0 λi j=>.bl (decide (i<j))) (CH λi j=>.bl (decide (i<j))):=FV λ_ _ _ _=>.bl _
def s_le:BH C Z (rI0 λi j=>.bl (decide (i<=j))) (CH λi j=>.bl (decide (i<=j))):=FV λ_ _ _ _=>.bl _
def s_gt:BH C Z (rI0 λi j=>.bl (decide (j<i))) (CH λi j=>.bl (decide (j<i))):=FV λ_ _ _ _=>.bl _
def s_ge:BH C Z (rI0 λi j=>.bl (decide (j<=i))) (CH λi j=>.bl (decide (j<=i))):=FV λ_ _ _ _=>.bl _
inductive neg3(d:D)(M:AC)(K:K3):Prop
 |mk:∀i,d=.int i->K (.int (-i)) M->neg3 d M K
def oN:SimU C Z (rU λi=>.int (-i)) neg3:=λI α H M x d K Q R r h k=>by
 let{i,rfl,h}:=h;cases r.inv;show{i,W,k.now R (.int _) h}
def LM:R2:=λx y H Q=>rI CMul (λi j=>.int (i*j)) x y H Q\/rRep x y H Q
def Tj:Ay X (Hs .Mult) LM:=Ay.or iA lH
def mul3:R3:=λd e M K=>match d,e with
 |.int i,.int j=>CMul i j/\K (.int (i*j)) M
 |d,e=>∃xs k,AO M d=some xs/\e=.int k/\(-(2 ^ 63)<=k/\k<2 ^ 63/\xs.length*k.toNat<=Cb)/\K (.lst (Co k.toNat xs).flatten) M
theorem AA.rep(r:AA C I α vs ds):∀n,AA C I α (Co n vs).flatten (Co n ds).flatten
 |0=>.nil
 |n+1=>by
  rw[Bh,Bh,Bl,Bl];show r.app (AA.rep r n)
theorem Zye:BH C Z LM mul3:=λI α H M x y d e K Q R O J h k=>by
 let Y:(∃xs k,AO M d=some xs/\e=.int k/\(-(2 ^ 63)<=k/\k<2 ^ 63/\xs.length*k.toNat<=Cb)/\K (.lst (Co k.toNat xs).flatten) M)->LM x y H Q:=λh=>by
  let{xs,j,e1,rfl,{h1,h2,h3},h}:=h;cases J.inv;let{a,vs,rfl,ea,G}:=Rn R O e1;show .inr {a,j,vs,W,W,ea,h1,h2,by rwa[G.length],λp hp=>?_};let{R2,B,e2}:=R.new (o:=.lst (Co j.toNat vs).flatten) hp;show k.on B R2 (.lst e2 ((G.rep _).mono B (Jn _))) h
 cases d with
 |int i =>
  cases e with
  |int j=>cases O.inv;cases J.inv;show .inl {i,j,W,W,h.1,k.now R (.int _) h.2}
  |_=>show Y h
 |_=>show Y h
def Z5(h:X.K=K'):IxR X (rIx K'):=by subst h;show Zv7
def ix3:R3:=λd e M K=>match d with
 |.str z=>∃i c,e=.int i/\z.length<=Cb/\L2.atI z.cps.toList i=some c/\K (.str {#[c]}) M
 |d=>∃xs i v,Qy M d=some xs/\e=.int i/\L2.atI xs i=some v/\K v M
def s_ix:BH C Z (rIx C.k) ix3:=λI α H M x y d e K Q R G B h k=>by
 let go:(∃xs i v,Qy M d=some xs/\e=.int i/\L2.atI xs i=some v/\K v M)->rIx C.k x y H Q:=λh=>by
  let{xs,i,w,e1,rfl,e3,hk}:=h;let{a,vs,e,ea,Y}:=NV R G e1;let{v,J,O}:=Y.atI e3;let q:=k.now R O hk;show ea.elim (λea=>.inl {a,vs,i,v,e,B.inv,ea,J,q}) λea=>.inr (.inl {a,vs,i,v,e,B.inv,ea,J,q})
 cases d<;>first|show go h|skip;let{i,c,rfl,h1,h2,h}:=h;show .inr (.inr {_,i,c,G.inv,B.inv,h1,h2,k.now R (.str _) h})
def rSlU(K:Cq):V->Option Int->Option Int->Hp->VK->Prop:=λx l u H Q=>rSlL K x l u H Q\/rSlW K x l u H Q\/rSlS x l u H Q
def Vi(h:X.K=K'):SlR X (rSlU K'):=by subst h;show SlR.or mL (SlR.or kG mH)
def sl3:D->Option Int->Option Int->AC->K3->Prop:=λd lo hi M K=>match d with
 |.str z=>z.length<=Cb/\K (.str (Txt.slice z lo hi)) M
 |.tup xs=>K (.tup (cut xs lo hi)) M
 |d=>∃xs,Y8 M d=some xs/\K (.lst (cut xs lo hi)) M
theorem AA.inj_cut(r:AA C I α vs ds)(h:CF vs lo hi=vs):L3.cut ds lo hi=ds:=by
 let hl:(CF vs lo hi).length=vs.length:=by rw[h]
 unfold CF at hl;rw[Ga,Gf]at hl;unfold L3.cut;rw[r.length]at hl;generalize HT.sIx ds.length 0 lo=a at *
 generalize HT.sIx ds.length ds.length hi=b at *
 by_cases hd:ds.length=0
 .rw[Bb.mp hd];simp
 .let:a=0:=by lia
  subst this;rw[Dw,Gx];lia
theorem nZ:SimL C Z (rSlU C.k) sl3:=λI α H M x d lo hi K Q R J h k=>by
 let Y:(∃xs,Y8 M d=some xs/\K (.lst (cut xs lo hi)) M)->rSlU C.k x lo hi H Q:=λh=>by
  let{xs,e1,h}:=h;let{a,vs,rfl,ea,G}:=Ur R J e1;show .inl {a,vs,W,ea,λp O=>?_};let{R2,B,e2}:=R.new (o:=.lst (CF vs lo hi)) O;show k.on B R2 (.lst e2 ((G.cut lo hi).mono B (Jn _))) h
 cases d with
 |str z=>cases J.inv;show .inr (.inr {z,W,h.1,k.now R (.str _) h.2})
 |tup xs =>
  let{a,vs,rfl,ea,ia,G}:=Ue R J W;show .inr (.inl {a,vs,W,A2.of ea,λz=>?_,λp O=>?_})
  .let h2:K (.tup (cut xs lo hi)) M:=h;rw[G.inj_cut z]at h2;show k.now R J h2
  .let⟨R2,B,e2⟩:=R.new (o:=.tup (CF vs lo hi)) O;show k.on B R2 (.tup e2 ((G.cut lo hi).mono B (Jn _))) h
 |_=>show Y h
end
mutual
inductive PyR(M:AC):D->PyData->Prop where
 |non:PyR M .non .none
 |bl (b:Bool):PyR M (.bl b) (.bool b)
 |int (i:Int):PyR M (.int i) (.int i)
 |str (x:Str):PyR M (.str x) (.str x)
 |seq {d:D} {ds:List D} {ps:List PyData}:Y8 M d=some ds->PyRs M ds ps->PyR M d (.list ps)
 |tup {ds:List D} {ps:List PyData}:PyRs M ds ps->PyR M (.tup ds) (.tuple ps)
inductive PyRs(M:AC):List D->List PyData->Prop where
 |nil:PyRs M [] []
 |cons {d:D} {p:PyData} {ds:List D} {ps:List PyData}:PyR M d p->PyRs M ds ps->PyRs M (d::ds) (p::ps)
end
section
variable{C:Cf} 
mutual
theorem FZ(R:AR C Z I α H M):∀{v:V}{d:D}{p:PyData},PyR M d p->AN C I α v d->DV C.k H v p:=by
 intro _ _ _ B r;cases B with
 |non=>
  show by cases r.inv;show .non
 |bl b=>
  show by cases r.inv;show .bl b
 |int b=>
  show by cases r.inv;show .int b
 |str b=>
  show by cases r.inv;show .str b
 |seq e q=>
  show by
    let{a,vs,rfl,ea,h}:=Ur R r e;show .lst ea (pys_dv R q h)
 |tup q=>
  show by
    let{a,vs,rfl,ea,_,h}:=Ue R r W;show .tup (A2.of ea) (pys_dv R q h)
theorem pys_dv(R:AR C Z I α H M):∀{vs:List V}{ds:List D}{ps:List PyData},PyRs M ds ps->AA C I α vs ds->DVs C.k H vs ps:=by
 intro _ _ _ h r;cases h with
 |nil=>
  show by cases r.inv;show .nil
 |cons a b=>
  show by
    cases r with
    |cons G B=>show .cons (FZ R a G) (pys_dv R b B)
end
end
def eqS:D->D->Option Bool
 |.non,.non=>some true|.non,.int _=>some false|.int _,.non=>some false|.non,.bl _=>some false|.bl _,.non=>some false|.non,.str _=>some false|.str _,.non=>some false
 |.int i,.int j=>some (decide (i=j))|.bl i,.bl j=>some (decide (i=j))|.str i,.str j=>some (decide (i=j))
 |.int _,.str _=>some false|.str _,.int _=>some false|.bl _,.str _=>some false|.str _,.bl _=>some false
 |_,_=>none
def eqV(d e:D)(M:AC)(K:Bool->Prop):Prop:=(∃b,eqS d e=some b/\K b)\/∃p q,PyR M d p/\PyR M e q/\Ki p=true/\Ki q=true/\K (Km p q)
def eq3:R3:=λd e M K=>eqV d e M λb=>K (.bl b) M
def ne3:R3:=λd e M K=>eqV d e M λb=>K (.bl (!b)) M
section
variable{C:Cf} 
def rEqU(K:Cq):R2:=λx y H Q=>rEq x y H Q\/rEqD K x y H Q
def rNeU(K:Cq):R2:=λx y H Q=>rNe x y H Q\/rNeD K x y H Q
def Uc(h:X.K=K')(B:X.A.units+64<E8):Ay X (Eu .Eq) (rEqU K'):=by subst h;show Ay.or xL (fY B)
def EL(h:X.K=K')(B:X.A.units+64<E8):Ay X (Eu .NotEq) (rNeU K'):=by subst h;show Ay.or jW (pZ B)
def scl:D->Option V
 |.non=>some .non|.bl b=>some (.bl b)|.int i=>some (.int i)|.str x=>some (.str x)
 |_=>none
def bT(r:AN C I α v d)(h:scl d=some x):v=x:=by
 cases d<;>first|show nos h|show(show v=_ from r.inv).trans (BG h)
def SclE(d e:D)(b:Bool):Prop:=∃x y,scl d=some x/\scl e=some y/\scal x y=true/\decide (x=y)=b
def yL(h1:scl d=some x)(h2:scl e=some y)(h3:scal x y=true)(hn:x≠y)(h:some false=some b):SclE d e b:={x,y,h1,h2,h3,by rw[BB hn];show BG h}
def zE(h:eqS d e=some b):SclE d e b:=by
 cases d<;>first|show nos h|(cases e<;>first|show nos h|show yL rfl rfl rfl nofun h|show{_,_,rfl,rfl,rfl,Eq.trans (by simp) (BG h)})
def cX(G:AN C I α x d)(B:AN C I α y e)(h:eqS d e=some b):scal x y=true/\decide (x=y)=b:=by
 let{u,v,e1,e2,h}:=zE h;rwa[bT G e1,bT B e2]
def s_eq:BH C Z (rEqU C.k) eq3:=λI α H M x y d e K Q R G B h k=>by
 rcases h with⟨b,Y,h⟩|⟨p,q,h1,h2,h3,h4,h⟩
 .let⟨O,J⟩:=cX G B Y;show .inl {O,by rw[J];show k.now R (.bl _) h}
 .show .inr {p,q,FZ R h1 G,FZ R h2 B,h3,h4,k.now R (.bl _) h}
def s_ne:BH C Z (rNeU C.k) ne3:=λI α H M x y d e K Q R G B h k=>by
 rcases h with⟨b,Y,h⟩|⟨p,q,h1,h2,h3,h4,h⟩
 .let⟨O,J⟩:=cX G B Y;show .inl {O,by rw[J];show k.now R (.bl _) h}
 .show .inr {p,q,FZ R h1 G,FZ R h2 B,h3,h4,k.now R (.bl _) h}
end
structure DG(τ:Type)[DecidableEq τ] where
 e:τ->D
 py:τ->PyData
 n:Nat
 ok:∀M a,PyR M (e a) (py a)
 shp:∀a,DJ n (py a)
 eq:∀a b,Km (py a) (py b)=decide (a=b)
 hn:n<=60
theorem MK[DecidableEq τ]{f:τ->PyData}(h:∀a b,Km (f a) (f b)=decide (a=b)):∀(a b:List τ),Hz (a.map f) (b.map f)=decide (a=b)
 |[],[]=>by simp[Hz]
 |[],_::_=>by simp[Hz]
 |_::_,[]=>by simp[Hz]
 |a::r,b::t=>by
  rw[Jm,Jm,Hz,h,MK h r t];simp
theorem Q4(h:∀a,PyR M (e a) (py a)):∀as:List τ,PyRs M (as.map e) (as.map py)
 |[]=>.nil
 |a::r=>.cons (h a) (Q4 h r)
def X5:DG Int:={.int,.int,0,λ_=>.int,VF,λa b=>by rw[Km,VG],nofun}
def Pq[DecidableEq τ](E:DG τ)(h:E.n<=50:=by decide):DG (List τ) where
 e as:=.lst (as.map E.e)
 py as:=.list (as.map E.py)
 n:=E.n+1
 ok:=λM as=>.seq W (Q4 (E.ok M) as)
 shp:=λas=>Zlv λd hd=>by
  let{a,_,rfl}:=Jq.mp hd;show E.shp a
 eq:=λa b=>by rw[Km,MK E.eq]
 hn:=by lia
def KZ[DecidableEq τ](E:DG τ)(h:E.n<=50:=by decide):DG (List τ) where
 e as:=.tup (as.map E.e)
 py as:=.tuple (as.map E.py)
 n:=E.n+1
 ok:=λM as=>.tup (Q4 (E.ok M) as)
 shp:=λas=>OW λd hd=>by
  let{a,_,rfl}:=Jq.mp hd;show E.shp a
 eq:=λa b=>by rw[Km,MK E.eq]
 hn:=by lia
def dA{n m:Nat}(h:DJ n d)(l:n<=m):DJ m d:={h.1,Js h.2 l}
def UR[DecidableEq τ][DecidableEq υ](E:DG τ)(F:DG υ)(h:E.n<=50:=by decide)(h':F.n<=50:=by decide):DG (τ×υ) where
 e p:=.tup [E.e p.1,F.e p.2]
 py p:=.tuple [E.py p.1,F.py p.2]
 n:=max E.n F.n+1
 ok:=λM p=>.tup (.cons (E.ok M _) (.cons (F.ok M _) .nil))
 shp:=λp=>OW λd hd=>by
  rcases Gd.mp hd with z|hd
  .rw[z];show dA (E.shp _) (Nat.le_max_left _ _)
  .rw[Jj.mp hd];show dA (F.shp _) (Nat.le_max_right _ _)
 eq:=λa b=>by
  let{O,J}:=a;let{G,B}:=b;rw[Km,Hz,Hz,Hz,E.eq,F.eq];simp
 hn:=by lia
theorem Wp[DecidableEq τ](E:DG τ){a b:τ}{K:Bool->Prop}(h:K (decide (a=b))):eqV (E.e a) (E.e b) M K :=
 .inr {_,_,E.ok M a,E.ok M b,(E.shp a).shaped (by have:=E.hn;lia),(E.shp b).shaped (by have:=E.hn;lia),by rwa[E.eq]}
theorem T9[DecidableEq τ](E:DG τ){d d':D}{a b:List τ}{K:Bool->Prop}(h1:Y8 M d=some (a.map E.e))(h2:Y8 M d'=some (b.map E.e))(h:K (decide (a=b)))(hn:E.n<=50:=by decide):eqV d d' M K :=
 .inr {_,_,.seq h1 (Q4 (E.ok M) a),.seq h2 (Q4 (E.ok M) b),((Pq E hn).shp a).shaped (by have:=(Pq E hn).hn;lia),((Pq E hn).shp b).shaped (by have:=(Pq E hn).hn;lia),by
  let:=(Pq E hn).eq a b;rwa[show Km (QV (a.map E.py)) (QV (b.map E.py))=decide (a=b)from this]}
inductive DQ where
 |non|bool|int|str|list|tuple|dict
 deriving DecidableEq
def tyN:DQ->String
 |.non=>"NoneType" |.bool=>"bool" |.int=>"int" |.str=>"str" |.list=>"list" |.tuple=>"tuple" |.dict=>"dict"
def tyOf(M:AC):D->Option DQ
 |.non=>some .non|.bl _=>some .bool|.int _=>some .int|.str _=>some .str|.lst _=>some .list|.tup _=>some .tuple|.dct _=>some .dict|.dcT _=>some .dict
 |.cell k=>match M[k]? with|some (.lst _)=>some .list|some (.dct _)=>some .dict|some (.dcT _)=>some .dict|_=>none
 |_=>none
def isS:DQ->DQ->Bool
 |.bool,.int=>true
 |a,b=>decide (a=b)
section
variable{C:Cf} 
theorem Zr8(s t:DQ)(h:t≠.non):Hu C.k (.type (tyN s)) (.type (tyN t))=some (isS s t):=by
 cases t with
 |non=>show D0 W h
 |_=>cases s<;>rfl
theorem xO{s:DQ}(R:AR C Z I α H M)(r:AN C I α v d)(h:tyOf M d=some s):TyOf C.k H v (.type (tyN s)):=by
 let i:=r.inv;cases d<;>first|show nos h|skip
 all_goals first|(cases h;let{_,_,rfl,e,_}:=i;let e:=R.sub _ _ e;first|show .lst e|show .tup e|show .dK e|show .dT e)|(cases h;cases i;first|show .non|show .bl _|show .int _|show .str _)|skip
 rename_i k
 let{a,rfl,e}:=i;let B:∀m,M[k]?=some m->BR C I α H a m:=λm G=>(R.cel k a _ e G).1
 revert h B
 show(match M[k]? with|some (.lst _)=>some DQ.list|some (.dct _)=>some .dict|some (.dcT _)=>some .dict|_=>none)=some s->_;cases M[k]? with
 |none=>show nos
 |some m =>
  intro h B;let g:=B m W;cases m<;>first|show nos h|(cases h;let{vs,e,_}:=g;first|show .lst e|show .dK e|show .dT e)
inductive isi3(T:DQ)(ds:List D)(M:AC)(K:K3):Prop
 |mk:∀d s,ds=[d,.ty (tyN T)]->tyOf M d=some s->K (.bl (isS s T)) M->isi3 T ds M K
def IC{T:DQ}(J:T≠.non:=by decide):BK C Z (rIsi C.k) (isi3 T):=λI α H M xs ds K Q R r h k=>by
 let{d,s,rfl,e,h}:=h;show AA.e2 r λ_ _ G B=>?_;cases B.inv;show{_,_,_,·,xO R G e,Zr8 s T J,k.now R (.bl _) h}
def len3:List D->AC->K3->Prop:=λds M K=>match ds with
 |[.str z]=>z.length<=Cb/\K (.int z.length) M
 |[d]=>∃xs,Qy M d=some xs/\K (.int xs.length) M
 |_=>False
theorem YK:BK C Z (rLen C.k) len3:=λI α H M xs ds K Q R r h k=>by
 let J:∀d v,AN C I α v d->(∃xs,Qy M d=some xs/\K (.int xs.length) M)->rLen C.k [v] H Q:=λd v r h=>by
  let{ys,e1,h}:=h;let{a,vs,e,ea,G}:=NV R r e1;rw[<-G.length]at h;exists _,·,e ▸ ea.elim (λz=>.inl {_,z,W}) λz=>.inr {_,z,W},k.now R (.int _) h
 match ds,h with
 |[],h=>show h.elim
 |[d],h =>
  show AA.e1 r λv B=>?_;cases d<;>first|show J _ _ B h|skip;show{_,_,rfl,B.inv ▸ {h.1,rfl},k.now R (.int _) h.2}
 |d::_::_,h=>cases d<;>show h.elim
inductive list3(ds:List D)(M:AC)(K:K3):Prop
 |mk:∀d xs,ds=[d]->Qy M d=some xs->K (.lst xs) M->list3 ds M K
def SR:BK C Z (RC C.k) list3:=λI α H M xs ds K Q R r h k=>by
 let{d,ys,rfl,e,h}:=h;show AA.e1 r λ_ J=>?_;let{a,vs,rfl,ea,G}:=NV R J e;exists a,vs,W,ea,λp O=>?_;let{R2,B,e2}:=R.new (o:=.lst vs) O;show k.on B R2 (.lst e2 (G.mono B (Jn _))) h
inductive tuple3(ds:List D)(M:AC)(K:K3):Prop
 |mk:∀d xs,ds=[d]->Qy M d=some xs->K (.tup xs) M->tuple3 ds M K
def MT:BK C Z (VW C.k) tuple3:=λI α H M xs ds K Q R r h k=>by
 let{d,ys,rfl,e,h}:=h;show AA.e1 r λ_ B=>?_
 by_cases ht:∃J,d=.tup J
 .let⟨J,rfl⟩:=ht;cases e;let{a,vs,rfl,ea,_,Y}:=Ue R B W;show{a,vs,W,.inr {A2.of ea,k.now R B h}}
 .let G:Y8 M d=some ys:=by
   cases d with
   |tup ys=>show D0 {ys,W} ht
   |_=>show e
  let{a,vs,rfl,ea,Y}:=Ur R B G;show{a,vs,W,.inl {ea,λp hp=>?_}};let{R2,O,e2}:=R.new (o:=.tup vs) hp;show k.on O R2 (.tup e2 (Y.mono O (Jn _))) h
inductive one3(f:Int->D)(ds:List D)(M:AC)(K:K3):Prop
 |mk:∀i,ds=[.int i]->K (f i) M->one3 f ds M K
inductive two3(f:Int->Int->D)(ds:List D)(M:AC)(K:K3):Prop
 |mk:∀i j,ds=[.int i,.int j]->K (f i j) M->two3 f ds M K
def jE:BK C Z (λxs H Q=>∃i,xs=[.int i]/\Q (.int (if i<0 then -i else i)) H) (one3 λi=>.int (if i<0 then -i else i)):=λI α H M xs ds K Q R r h k=>by
 let{i,rfl,h}:=h;show AA.e1 r λ_ B=>?_;cases B.inv;show{i,W,k.now R (.int _) h}
def iB:BK C Z (λxs H Q=>∃i j,xs=[.int i,.int j]/\Q (.int (if j > i then j else i)) H) (two3 λi j=>.int (if j > i then j else i)):=λI α H M xs ds K Q R r h k=>by
 let{i,j,rfl,h}:=h;show AA.e2 r λ_ _ G B=>?_;cases G.inv;cases B.inv;show{i,j,W,k.now R (.int _) h}
def oF:BK C Z (λxs H Q=>∃i j,xs=[.int i,.int j]/\Q (.int (if j<i then j else i)) H) (two3 λi j=>.int (if j<i then j else i)):=λI α H M xs ds K Q R r h k=>by
 let{i,j,rfl,h}:=h;show AA.e2 r λ_ _ G B=>?_;cases G.inv;cases B.inv;show{i,j,W,k.now R (.int _) h}
theorem AA.of_bls :∀{vs:List V}(bs:List Bool),AA C I α vs (bs.map D.bl)->vs=bs.map V.bl
 |_,[],h=>h.inv
 |_,n::r,h=>by
  let{_,_,rfl,a,b}:=h.inv;rw[AA.of_bls r b,a.inv];rfl
inductive any3(ds:List D)(M:AC)(K:K3):Prop
 |mk:∀(d:D)(bs:List Bool),ds=[d]->Y8 M d=some (bs.map D.bl)->K (.bl (bs.any id)) M->any3 ds M K
def On:BK C Z (λxs H Q=>∃(p:Addr)(bs:List Bool),xs=[.ref p]/\Ad C.k H p (bs.map V.bl)/\Q (.bl (bs.any id)) H) any3:=λI α H M xs ds K Q R r h k=>by
 let{d,bs,rfl,e,h}:=h;show AA.e1 r λ_ G=>?_;let{a,vs,rfl,ea,B}:=Ur R G e;rw[B.of_bls bs]at ea;show{a,bs,W,ea,k.now R (.bl _) h}
def AR.putL(R:AR C Z I α H M)(h:α[k]?=some a)(r:AA C I α vs ds):AR C Z I α (upd H a (.lst vs)) (M.set k (.lst ds)) :=
 R.put (m:=.lst ds) h λH' e=>{vs,e,r}
def Qx(e:H a=some (.lst vs)):tyV C.k "list" (.ref a) H:=.inl {W,vs,Ad.of e}
inductive app3(d:D)(ds:List D)(M:AC)(K:K3):Prop
 |mk:∀k xs y,d=.cell k->ds=[y]->M[k]?=some (.lst xs)->xs.length<Cb->K .non (M.set k (.lst (xs++[y])))->app3 d ds M K
inductive ext3(d:D)(ds:List D)(M:AC)(K:K3):Prop
 |mk:∀k e xs ys,d=.cell k->ds=[e]->M[k]?=some (.lst xs)->AO M e=some ys->xs.length+ys.length<=Cb->K .non (M.set k (.lst (xs++ys)))->ext3 d ds M K
inductive extT3(d:D)(ds:List D)(M:AC)(K:K3):Prop
 |mk:∀k ys xs,d=.cell k->ds=[.tup ys]->M[k]?=some (.lst xs)->xs.length+ys.length<=Cb->K .non (M.set k (.lst (xs++ys)))->extT3 d ds M K
inductive clr3(d:D)(ds:List D)(M:AC)(K:K3):Prop
 |mk:∀k xs,d=.cell k->ds=[]->M[k]?=some (.lst xs)->K .non (M.set k (.lst []))->clr3 d ds M K
inductive pop3(d:D)(ds:List D)(M:AC)(K:K3):Prop
 |mk:∀k xs y,d=.cell k->ds=[]->M[k]?=some (.lst xs)->xs[xs.length-1]?=some y->K y (M.set k (.lst xs.dropLast))->pop3 d ds M K
def AA.dropLast(r:AA C I α vs ds):AA C I α vs.dropLast ds.dropLast:=by
 rw[List.dropLast_eq_take,List.dropLast_eq_take,r.length];show r.take _
variable{t:TA}{u:CA}
abbrev iV(r:D->List D->AC->K3->Prop)(u:CA)(ρ:Ev)(K:K3):D->AC->Prop:=λd M1=>AO M1 d≠none/\u ρ M1 (jK r K d)
def uBML(r:D->List D->AC->K3->Prop)(uo:AQ)(u:CA):AQ:=λρ M K=>uo ρ M (iV r u ρ K)
def vW(ho:AE C Z to uo)(ha:Ap C Z t u):AE C Z (tBM C.k "list" NK to t) (uBML app3 uo u):=λI α σ H ρ M K Q R E h k =>
 ho I α σ H ρ M _ _ R E h λv d I1 G H1 M1 O p1 R1 r1 h1=>by
  let{hn,h1}:=h1;cases hl:AO M1 d with
  |none=>show D0 hl hn
  |some zs =>
   let{a,vs,rfl,ea,ra}:=Rn R1 r1 hl;exists Qx ea,ha I1 G σ H1 ρ M1 _ _ R1 (E.mono O p1) h1 λws ds I2 B H2 M2 J p2 R2 r2 h2=>?_;let{j,xs,y,rfl,rfl,e1,hz,h2}:=h2;show AA.e1 r2 λ_ ry=>?_;let ec:=(r1.mono J p2).cellI;let{us,eu,Y}:=Ws R2 ec e1;exists a,us,·,W,eu,by rwa[Y.length],?_;show k _ _ I2 B _ _ (O.trans J) (p1.trans p2) (R2.putL ec (Y.app (.one ry))) .non h2
def JK(ho:AE C Z to uo)(ha:Ap C Z t u):AE C Z (tBM C.k "list" WG to t) (uBML ext3 uo u):=λI α σ H ρ M K Q R E h k =>
 ho I α σ H ρ M _ _ R E h λv d I1 G H1 M1 O p1 R1 r1 h1=>by
  let{hn,h1}:=h1;cases hl:AO M1 d with
  |none=>show D0 hl hn
  |some zs =>
   let{a,vs,rfl,ea,ra}:=Rn R1 r1 hl;exists Qx ea,ha I1 G σ H1 ρ M1 _ _ R1 (E.mono O p1) h1 λws ds I2 B H2 M2 J p2 R2 r2 h2=>?_;let{j,e,xs,ys,rfl,rfl,e1,e2,hz,h2}:=h2;show AA.e1 r2 λ_ ry=>?_;let{b,bs,rfl,eb,rb}:=Rn R2 ry e2;let ec:=(r1.mono J p2).cellI;let{us,eu,Y}:=Ws R2 ec e1;exists a,b,us,bs,W,W,eu,eb,by rwa[Y.length,rb.length],?_;show k _ _ I2 B _ _ (O.trans J) (p1.trans p2) (R2.putL ec (Y.app rb)) .non h2
def jZ(ho:AE C Z to uo)(ha:Ap C Z t u):AE C Z (tBM C.k "list" RV to t) (uBML extT3 uo u):=λI α σ H ρ M K Q R E h k =>
 ho I α σ H ρ M _ _ R E h λv d I1 G H1 M1 O p1 R1 r1 h1=>by
  let{hn,h1}:=h1;cases hl:AO M1 d with
  |none=>show D0 hl hn
  |some zs =>
   let{a,vs,rfl,ea,ra}:=Rn R1 r1 hl;exists Qx ea,ha I1 G σ H1 ρ M1 _ _ R1 (E.mono O p1) h1 λws ds I2 B H2 M2 J p2 R2 r2 h2=>?_;let{j,ys,xs,rfl,rfl,e1,hz,h2}:=h2;show AA.e1 r2 λ_ ry=>?_;let{b,bs,rfl,eb,_,rb}:=Ue R2 ry W;let ec:=(r1.mono J p2).cellI;let{us,eu,Y}:=Ws R2 ec e1;exists a,b,us,bs,W,W,eu,eb,by rwa[Y.length,rb.length],?_;show k _ _ I2 B _ _ (O.trans J) (p1.trans p2) (R2.putL ec (Y.app rb)) .non h2
def wG(ho:AE C Z to uo):AE C Z (tBM0 C.k "list" XF to) (uBM0 clr3 uo):=λI α σ H ρ M K Q R E h k =>
 ho I α σ H ρ M _ _ R E h λv d I1 B H1 M1 Y p1 O r1 h1=>by
  let{j,xs,rfl,_,e1,h1}:=h1;let{a,rfl,J}:=r1.inv;let{us,G,ru}:=Ws O J e1;show{Qx G,a,us,W,W,G,k _ _ I1 B _ _ Y p1 (O.putL J (.nil)) .non h1}
def zU(ho:AE C Z to uo):AE C Z (tBM0 C.k "list" rPop to) (uBM0 pop3 uo):=λI α σ H ρ M K Q R E h k =>
 ho I α σ H ρ M _ _ R E h λv d I1 B H1 M1 s1 p1 R1 r1 h1=>by
  let{j,xs,y,rfl,_,e1,e2,h1}:=h1;let{a,rfl,Y}:=r1.inv;let{us,O,J}:=Ws R1 Y e1;let{w,ew,G}:=J.get e2;exists Qx O,a,us,w,W,W,O,by rwa[J.length],k _ _ I1 B _ _ s1 p1 (R1.putL Y (J.dropLast)) G h1
end
def Ym(n:Nat)(d:D):Prop:=∀C I α v,AN C I α v d->AN C I (α.take n) v d
def Xp(n:Nat)(m:MO):Prop:=∀C I α H a,BR C I α H a m->BR C I (α.take n) H a m
inductive BF(n:Nat):Ev->Ev->Prop where
 |nil:BF n [] []
 |skip {o:Option D} {r r':Ev}:BF n r r'->BF n (o::r) (none::r')
 |keep {d:D} {r r':Ev}:Ym n d->BF n r r'->BF n (some d::r) (some d::r')
inductive BelS(n:Nat):Ev->Ev->Ev->Prop where
 |nil:BelS n [] [] []
 |skip {o0 o:Option D} {r0 r r':Ev}:BelS n r0 r r'->BelS n (o0::r0) (o::r) (none::r')
 |same {d:D} {r0 r r':Ev}:BelS n r0 r r'->BelS n (some d::r0) (some d::r) (some d::r')
 |keep {o0:Option D} {d:D} {r0 r r':Ev}:Ym n d->BelS n r0 r r'->BelS n (o0::r0) (some d::r) (some d::r')
def Dr(G:Ev)(B:AC)(P:Ev->AC->Prop)(ρ:Ev)(M:AC):Prop:=P ρ M\/(∃h,(∃X,M=B++X)/\BelS B.length G ρ h/\P h B)\/∃n h,B.length<=n/\BF n ρ h/\(∀m∈M.take n,Xp n m)/\P h (M.take n)
def Dk(n0:Nat)(K:K3):K3:=λd M=>K d M\/∃n,n0<=n/\Ym n d/\(∀m∈M.take n,Xp n m)/\K d (M.take n)
section
variable{C:Cf} 
theorem BF.rep(b:BF n ρ ρ'):∀{σ:St},A1 C I α σ ρ->A1 C I (α.take n) σ ρ':=by
 induction b with
 |nil=>show λh=>{h.1,λi d e=>by simp at e}
 | @skip o r r' b ih =>
  intro σ h;cases σ with
  |nil=>cases h.1
  |cons s σ =>
   let h':A1 C I α σ r:={by simpa using h.1,λi d e=>by
    let{v,a,b}:=h.2 (i+1) d (by simpa using e);show{v,by simpa using a,b}}
   let{l,g}:=ih h';exists by rw[Ju,Ju,l],λi d e=>?_;cases i with
   |zero=>simp at e
   |succ i =>
    let{v,a,b}:=g i d (by simpa using e);exists v,by simpa using a,b
 | @keep d0 r r' hb b ih =>
  intro σ h;cases σ with
  |nil=>cases h.1
  |cons s σ =>
   let h':A1 C I α σ r:={by simpa using h.1,λi d e=>by
    let{v,a,b}:=h.2 (i+1) d (by simpa using e);show{v,by simpa using a,b}}
   let{l,g}:=ih h';exists by rw[Ju,Ju,l],λi d e=>?_;cases i with
   |zero =>
    let{v,a,b}:=h.2 0 d e;simp at e;subst e;show{v,a,hb _ _ _ _ b}
   |succ i =>
    let{v,a,b}:=g i d (by simpa using e);exists v,by simpa using a,b
def Sy(p:α0<+:α)(h:α0.length<=n):α0<+:α.take n:=by
 let{t,rfl}:=p;rw[List.take_append,Gx h];show Gj _ _
def AR.take(R:AR C Z I α H M)(n:Nat)(hz:Z.a.length<=n)(G:∀m∈M.take n,Xp n m):AR C Z I (α.take n) H (M.take n):=by
 show{R.ai,Sy R.aa hz,R.sub,by rw[Ga,Ga,R.len],R.nd.sublist (B7 _ _),λk a m h1 h2=>?_};let B:α[k]?=some a:=by
  rw[Du]at h1
  split at h1
  .show h1
  .cases h1
 let h:M[k]?=some m:=by
  rw[Du]at h2
  split at h2
  .show h2
  .cases h2
 let{O,J}:=R.cel k a m B h;show{G m (G3 h2) _ _ _ _ _ O,J}
theorem Fin.dk{K:K3}(k:Fin C Z I α K Q)(hn:α.length=n0)(G:Z.a<+:α):Fin C Z I α (Dk n0 K) Q:=λv d I' α' H' B s p R r h=>by
 rcases h with h|⟨n,hl,hb,hm,h⟩
 .show k v d I' α' H' B s p R r h
 .show k v d I' (α'.take n) H' (B.take n) s (Sy p ()) (R.take n (by have:=G.length_le;lia) hm) (hb _ _ _ _ r) h
end
def Vp  :Ym n (.int i):=λ_ _ _ _ r=>by cases r.inv;show .int _
def Rc  :Ym n (.bl i):=λ_ _ _ _ r=>by cases r.inv;show .bl _
def Zkw  :Ym n (.str i):=λ_ _ _ _ r=>by cases r.inv;show .str _
def Pz :Ym n .non:=λ_ _ _ _ r=>by cases r.inv;show .non
def tX  :Ym n (.code S):=λ_ _ _ _ r=>by cases r with|code h=>show .code h
def N2(h:k<n):Ym n (.cell k):=λ_ _ α _ r=>by
 let{_,rfl,e}:=r.inv;show .cell (by rwa[Du,D9 h])
theorem Re{n:Nat}(h:∀d∈ds,Ym n d){C:Cf} :∀{vs:List V},AA C I α vs ds->AA C I (α.take n) vs ds:=by
 induction ds with
 |nil=>intro vs r;cases r.inv;show .nil
 |cons d ds B =>
  intro vs r;cases r with
  |cons a b=>show .cons (h d Je _ _ _ _ a) (B (λx hx=>h x (Jg _ hx)) b)
def S9(h:∀d∈ds,Ym n d):Ym n (.lst ds):=λ_ _ _ _ r=>by cases r with|lst e r=>show .lst e (Re h r)
def lC(h:∀d∈ds,Ym n d):Ym n (.frz ds):=λ_ _ _ _ r=>by cases r with|frz e r=>show .frz e (Re h r)
def bY(h:∀d∈ds,Ym n d):Ym n (.tup ds):=λ_ _ _ _ r=>by cases r with|tup e r=>show .tup e (Re h r)
def YB  :Ym n (.nst ks):=λ_ _ _ _ r=>by cases r with|nst e=>show .nst e
def mY  :Ym n (.itp x):=λ_ _ _ _ r=>by cases r with|itp e=>show .itp e
def W4{n:Nat}{f:τ->D}(h:∀a,Ym n (f a))(as:List τ):∀d∈as.map f,Ym n d:=λd hd=>by
 let{a,_,rfl}:=Jq.mp hd;show h a
def TU :∀d∈([]:List D),Ym n d:=λ_ h=>nomatch h
def Rv(h:Ym n d)(r:∀d∈ds,Ym n d):∀x∈d::ds,Ym n x:=λx hx=>by
 rcases Gd.mp hx with z|z
 .rw[z];show h
 .show r x z
def fP :Xp n .hand:=λ_ _ _ _ _ h=>h
def mR{n:Nat}{P:Addr}{p:Pos}{q:Str}:Xp n (.tab P p q):=λ_ _ _ _ _ h=>h
def FU(h:∀d∈ds,Ym n d):Xp n (.lst ds):=λ_ _ _ _ _ x=>by
 let{vs,e,r}:=x;show{vs,e,Re h r}
def WfM(M:AC):Prop:=∀m∈M,Xp M.length m
theorem Ra{n:Nat}{kvs:List (AI×D)}(h:∀kv∈kvs,Ym n kv.2){C:Cf} :∀{vs:List (AI×V)},AV C I α vs kvs->AV C I (α.take n) vs kvs:=by
 induction kvs with
 |nil=>intro vs r;cases r;show .nil
 |cons d ds B =>
  intro vs r;cases r with
  |cons a b=>show .cons (h _ Je _ _ _ _ a) (B (λx hx=>h x (Jg _ hx)) b)
theorem Rb{n:Nat}{kvs:List (List AI×D)}(h:∀kv∈kvs,Ym n kv.2){C:Cf} :∀{vs:List (List AI×V)},AW C I α vs kvs->AW C I (α.take n) vs kvs:=by
 induction kvs with
 |nil=>intro vs r;cases r;show .nil
 |cons d ds B =>
  intro vs r;cases r with
  |cons a b=>show .cons (h _ Je _ _ _ _ a) (B (λx hx=>h x (Jg _ hx)) b)
theorem vM{n:Nat}{kvs:List (Str×D)}(h:∀kv∈kvs,Ym n kv.2){C:Cf} :∀{vs:List (Str×V)},As C I α vs kvs->As C I (α.take n) vs kvs:=by
 induction kvs with
 |nil=>intro vs r;cases r;show .nil
 |cons d ds B =>
  intro vs r;cases r with
  |cons a b=>show .cons (h _ Je _ _ _ _ a) (B (λx hx=>h x (Jg _ hx)) b)
mutual
theorem AN.bel{C:Cf}{I:Hp}{α:List Addr}:∀{v:V}{d:D},AN C I α v d->Ym α.length d:=by
 intro _ _ h;cases h with
 |non=>show Pz
 |bl b=>show Rc
 |int i=>show Vp
 |str x=>show Zkw
 |ty n=>show λ_ _ _ _ r=>by cases r.inv;show .ty _
 |«at» a=>show λ_ _ _ _ r=>by cases r.inv;show .at _
 |tup e r=>show bY (AA.bel r)
 |lst e r=>show S9 (AA.bel r)
 |frz e r=>show lC (AA.bel r)
 |dct e r=>show λ_ _ _ _ q=>by cases q with|dct e q=>show .dct e (Ra (AV.bel r) q)
 |dcT e r=>show λ_ _ _ _ q=>by cases q with|dcT e q=>show .dcT e (Rb (AW.bel r) q)
 |code h=>show tX
 |cell e=>show N2 (Jd.mp e).1
 |exc e f r=>show λ_ _ _ _ q=>by cases q with|exc e f q=>show .exc e f (vM (As.bel r) q)
 |nst e=>show YB
 |itp e=>show mY
theorem AA.bel{C:Cf}{I:Hp}{α:List Addr}:∀{vs:List V}{ds:List D},AA C I α vs ds->∀d∈ds,Ym α.length d:=by
 intro _ _ h;cases h with
 |nil=>show TU
 |cons h r=>show Rv (AN.bel h) (AA.bel r)
theorem AV.bel{C:Cf}{I:Hp}{α:List Addr}:∀{vs:List (AI×V)}{ds:List (AI×D)},AV C I α vs ds->∀B∈ds,Ym α.length B.2:=by
 intro _ _ h;cases h with
 |nil=>show λ_ h=>nomatch h
 |cons h r =>
  show λB G=>by
   rcases Gd.mp G with z|z
   .rw[z];show AN.bel h
   .show AV.bel r B z
theorem As.bel{C:Cf}{I:Hp}{α:List Addr}:∀{vs:List (Str×V)}{ds:List (Str×D)},As C I α vs ds->∀B∈ds,Ym α.length B.2:=by
 intro _ _ h;cases h with
 |nil=>show λ_ h=>nomatch h
 |cons h r =>
  show λB G=>by
   rcases Gd.mp G with z|z
   .rw[z];show AN.bel h
   .show As.bel r B z
theorem AW.bel{C:Cf}{I:Hp}{α:List Addr}:∀{vs:List (List AI×V)}{ds:List (List AI×D)},AW C I α vs ds->∀B∈ds,Ym α.length B.2:=by
 intro _ _ h;cases h with
 |nil=>show λ_ h=>nomatch h
 |cons h r =>
  show λB G=>by
   rcases Gd.mp G with z|z
   .rw[z];show AN.bel h
   .show AW.bel r B z
end
def pL{n:Nat}{ds:List (AI×D)}(h:∀d∈ds,Ym n d.2):Xp n (.dct ds):=λ_ _ _ _ _ x=>by
 let{vs,e,r}:=x;show{vs,e,Ra h r}
def uP{n:Nat}{ds:List (List AI×D)}(h:∀d∈ds,Ym n d.2):Xp n (.dcT ds):=λ_ _ _ _ _ x=>by
 let{vs,e,r}:=x;show{vs,e,Rb h r}
def Zwx{n:Nat}{ds:List (AI×D)}(h:∀d∈ds,Ym n d.2):Xp n (.drK ds):=λ_ _ _ _ _ x=>by
 let{vs,e,r}:=x;show{vs,e,Ra h r}
def vV{n:Nat}{ds:List (List AI×D)}(h:∀d∈ds,Ym n d.2):Xp n (.drT ds):=λ_ _ _ _ _ x=>by
 let{vs,e,r}:=x;show{vs,e,Rb h r}
def vR{n:Nat}{o:Obj}{vs:List (List AI×V)}{ds:List (List AI×D)}(h:∀d∈ds,Ym n d.2):Xp n (.dfT o vs ds):=λ_ _ _ _ _ x=>{x.1,Rb h x.2}
def sW{n:Nat}{o:Obj}{vs:List (AI×V)}{ds:List (AI×D)}(h:∀d∈ds,Ym n d.2):Xp n (.dfK o vs ds):=λ_ _ _ _ _ x=>{x.1,Ra h x.2}
theorem BS.bel{C:Cf}{vs:List Az}{ds:List (List NI×D)}(r:BS C I α vs ds):∀B∈ds,Ym α.length B.2:=by
 induction r with
 |nil=>show λ_ h=>nomatch h
 |cons h r G=>show λB J=>(Gd.mp J).elim (λz=>by rw[z];show h.2.bel) (G B)
theorem XC{n:Nat}{kvs:List (List NI×D)}(h:∀kv∈kvs,Ym n kv.2){C:Cf}{vs:List Az}(r:BS C I α vs kvs):BS C I (α.take n) vs kvs:=by
 induction r with
 |nil=>show .nil
 |cons a b B=>show .cons {a.1,h _ Je _ _ _ _ a.2} (B λx hx=>h x (Jg _ hx))
theorem MB{n:Nat}{ds:List (List NI×D)}(h:∀d∈ds,Ym n d.2):Xp n (.dcN sh z ds):=λ_ _ _ _ _ x=>by
 cases z with
 |none=>obtain⟨vs,e,k,r⟩:=x;show{vs,e,k,XC h r}
 |some z=>show{x.1,x.2.1,XC h x.2.2}
theorem fU(h:∀d∈fs,Ym n d.2):Xp n (.ins Cl fs):=λC I α H a x=>by
 let{dx,vs,e,r}:=x;show{dx,vs,e,?_};clear e
 induction fs generalizing vs with
 |nil=>cases r;show .nil
 |cons d ds B =>
  cases r with
  |cons a b=>show .cons {a.1,h _ Je _ _ _ _ a.2} (B (λx hx=>h x (Jg _ hx)) _ b)
def Xp.up{n m:Nat}(h:Xp n x)(l:n<=m):Xp m x:=λC I α H a r=>(h C I α H a r).mono (.refl _) (by rw[<-Ds l,<-List.take_take];show Dm _ _) W
theorem BR.bel{C:Cf}{a:Addr}(h:BR C I α H a m):Xp α.length m:=by
 cases m with
 |lst ds=>obtain⟨vs,e,r⟩:=h;show FU r.bel
 |dct ds=>obtain⟨vs,e,r⟩:=h;show pL r.bel
 |dcT ds=>obtain⟨vs,e,r⟩:=h;show uP r.bel
 |drK ds=>obtain⟨vs,e,r⟩:=h;show Zwx r.bel
 |drT ds=>obtain⟨vs,e,r⟩:=h;show vV r.bel
 |dfT o vs ds=>show vR h.2.bel
 |dfK o vs ds=>show sW h.2.bel
 |ins Cl fs =>
  let{dx,vs,e,r}:=h;show fU λJ B=>?_;clear e
  induction r with
  |nil=>cases B
  |cons a b G =>
   rcases Gd.mp B with z|z
   .rw[z];show a.2.bel
   .show G z
 |hand=>show fP
 |tab P dF q=>show mR
 |dcN sh z ds=>cases z with|none=>obtain⟨vs,e,k,r⟩:=h;show MB r.bel|some z=>show MB h.2.2.bel
def AR.wf{C:Cf}(R:AR C Z I α H M):WfM M:=λm G=>by
 let{k,B,rfl}:=Ge G;let h:k < α.length:=by rw[R.len];show B
 let:=(R.cel k _ _ (Jb h) (Jb B)).1.bel;rwa [R.len]at this
theorem BelS.belowE(b:BelS n ρ0 ρ ρ'):(∀(i:Nat)(d:D),ρ0[i]?=some (some d)->Ym n d)->BF n ρ ρ':=by
 induction b with
 |nil=>show λ_=>.nil
 |skip _ B=>show λh=>.skip (B λi d e=>h (i+1) d (by simpa using e))
 |same _ B=>show λh=>.keep (h 0 _ W) (B λi d e=>h (i+1) d (by simpa using e))
 |keep G _ B=>show λh=>.keep G (B λi d e=>h (i+1) d (by simpa using e))
theorem Dr.out{C:Cf}{I0:Hp}{G:List Addr}{H0:Hp}{J:AC}{P:Ev->AC->Prop}{Y:St}{O:Ev}(h:Dr O J P ρ M)(R0:AR C Z I0 G H0 J)(E0:A1 C I0 G Y O)(p:G<+:α)(R:AR C Z I α H M)(E:A1 C I α σ ρ) :
  ∃α' B M',G<+:α'/\AR C Z I α' H M'/\A1 C I α' σ B/\P B M':=by
 rcases h with h|⟨B,⟨X,rfl⟩,hb,h⟩|⟨n,B,hl,hb,hm,h⟩
 .show{α,ρ,M,p,R,E,h}
 .let a0:=hb.belowE λi d e=>by
   let{v,_,r}:=E0.2 i d e;let:=r.bel;rwa [R0.len]at this
  let et:(J++X).take J.length=J:=Be ..;let R1:=R.take J.length (by rw[<-R0.len];show R0.aa.length_le) (by rw[et];show R0.wf);rw[et]at R1;show{α.take J.length,B,J,Sy p (by rw[R0.len];show Jk _),R1,a0.rep E,h}
 .show{α.take n,B,M.take n,Sy p (by rw[R0.len];lia),R.take n (by have:=R0.aa.length_le;let:=R0.len;lia) hm,hb.rep E,h}
section
variable{C:Cf}{t t':TS}{u u':BW}{tc:TT}{uc:CS}{g:TG}{ug:TG3}{gs:TGs}{ugs:TGs3}
def uSeq(u u':BW):BW:=λE ρ M=>u {E with nx:=u' E} ρ M
def Zs(h1:A8 C Z t u)(h2:A8 C Z t' u'):A8 C Z (tSeq t t') (uSeq u u'):=λI α σ H ρ M E Y R RE h F =>
 h1 I α σ H ρ M {E with nx:=u' E} {Y with nx:=t' Y} R RE h {λI1 J B H1 G M1 s p R1 O h1=>h2 I1 J B H1 G M1 E Y R1 O h1 (F.mono s p),F.rt,F.bk,F.ct}
abbrev Zxt:BW:=λE ρ M=>E.nx ρ M
def Wg:A8 C Z VA Zxt:=λI α σ H ρ M E G R B h F=>F.nx I α σ H ρ M (.refl _) (Jn _) R B h
abbrev iT(E:AT)(ρ:Ev):D->AC->Prop:=λ_x0 M1=>E.nx ρ M1
def Zxy(ue:AQ):BW:=λE ρ M=>ue ρ M (iT E ρ)
def R9(J:AE C Z te ue):A8 C Z (NM te) (Zxy ue):=λI α σ H ρ M E D' R G h F =>
 J I α σ H ρ M _ _ R G h λv d Y B H1 M1 s p O r h1=>F.nx Y B σ H1 ρ M1 s p O (G.mono s p) h1
def uRet(ue:AQ):BW:=λE ρ M=>ue ρ M E.rt
def Xv(B:AE C Z te ue):A8 C Z (tRet te) (uRet ue):=λI α σ H ρ M E J R G h F=>B I α σ H ρ M _ _ R G h F.rt
def uJ:BW:=λE _ M=>E.rt .non M
def wE:A8 C Z O0 uJ:=λI α σ H ρ M E G R B h F=>F.rt _ _ I α H M (.refl _) (Jn _) R .non h
abbrev jN(u:BW)(u':BW)(E:AT)(ρ:Ev):Bool->AC->Prop:=λb M1=>if b=true then u E ρ M1 else u' E ρ M1
def uIfS(c:CS)(u u':BW):BW:=λE ρ M=>c ρ M (jN u u' E ρ)
def Vu(hc:BU C Z tc uc)(h1:A8 C Z t u)(h2:A8 C Z t' u'):A8 C Z (tIfS tc t t') (uIfS uc u u'):=λI α σ H ρ M E Y R G h F =>
 hc I α σ H ρ M _ _ R G h λb O B H1 M1 s p J h3=>by
  cases b with
  |true =>
   show h1 O B σ H1 ρ M1 E Y J (G.mono s p) h3 (F.mono s p)
  |false =>
   show h2 O B σ H1 ρ M1 E Y J (G.mono s p) h3 (F.mono s p)
def qH:BW:=λ_ _ _=>False
def Zqy:A8 C Z ZB qH:=λI α σ H ρ M E G R B h F=>h
abbrev mP(ug:TG3)(E:AT)(ρ:Ev):D->AC->Prop:=λd M1=>ug d ρ M1 E.nx
def uAsg(ue:AQ)(ug:TG3):BW:=λE ρ M=>ue ρ M (mP ug E ρ)
def Xh(O:AE C Z te ue)(J:SimG C Z g ug):A8 C Z (tAsg te g) (uAsg ue ug):=λI α σ H ρ M E D' R G h F =>
 O I α σ H ρ M _ _ R G h λv d I1 B H1 M1 s p Y r h1=>J I1 B σ H1 ρ M1 v d _ _ Y (G.mono s p) r h1 (F.nx.mono s p)
abbrev uG(i:Nat):TG3:=λd ρ M K=>K (ρ.set i (some d)) M
def Ak(i:Nat):SimG C Z (EF i) (uG i):=λI α σ H ρ M v d K Q R B r h k=>k I α _ H _ M (.refl _) (Jn _) R (B.set r i) h
abbrev UZ:TGs3:=λds ρ M K=>ds=[]/\K ρ M
abbrev Zlk(ugs:TGs3)(r:List D)(K:Ev->AC->Prop):Ev->AC->Prop:=λh B=>ugs r h B K
inductive uGCons(ug:TG3)(ugs:TGs3)(ds:List D)(ρ:Ev)(M:AC)(K:Ev->AC->Prop):Prop
 |mk:∀d r,ds=d::r->ug d ρ M (Zlk ugs r K)->uGCons ug ugs ds ρ M K
def vC:GX C Z gNil UZ:=λI α σ H ρ M vs ds K Q R B r h k=>by
 let{rfl,h}:=h;cases r.inv;show{W,k I α σ H ρ M (.refl _) (Jn _) R B h}
theorem Zq2(h1:SimG C Z g ug)(h2:GX C Z gs ugs):GX C Z (MC g gs) (uGCons ug ugs):=λI α σ H ρ M vs ds K Q R Y r h k=>by
 let{d,r',rfl,h}:=h;cases r with
 |cons a b=>show{_,_,W,h1 I α σ H ρ M _ d _ _ R Y a h λI1 J B H1 G M1 s p R1 O h3=>h2 I1 J B H1 G M1 _ _ _ _ R1 O (b.mono s p) h3 (k.mono s p)}
inductive uGTup(n:Nat)(ugs:TGs3)(d:D)(ρ:Ev)(M:AC)(K:Ev->AC->Prop):Prop
 |mk:∀ds,KQ d=some ds->ds.length=n->ugs ds ρ M K->uGTup n ugs d ρ M K
def tM(h:GX C Z gs ugs):SimG C Z (gTup C.k n gs) (uGTup n ugs):=λI α σ H ρ M v d K Q R J r B k=>by
 let{ds,e,hl,B}:=B;let{a,vs,rfl,ea,_,G}:=Ue R r e;exists a,vs,W,A2.of ea,by rwa[G.length],h I α σ H ρ M vs ds K Q R J G B k
inductive uGSub_2(d:D)(ρ:Ev)(K:Ev->AC->Prop)(o:D)(i:D)(M2:AC):Prop
 |mk:∀k xs z j,o=.cell k->i=.int z->M2[k]?=some (.lst xs)->ixN xs.length z=some j->K ρ (M2.set k (.lst (xs.set j d)))->uGSub_2 d ρ K o i M2
abbrev sG(ui:AQ)(d:D)(ρ:Ev)(K:Ev->AC->Prop):D->AC->Prop:=λo M1=>ui ρ M1 (uGSub_2 d ρ K o)
def Ol(uo ui:AQ):TG3:=λd ρ M K=>uo ρ M (sG ui d ρ K)
def IX(ho:AE C Z to uo)(hi:AE C Z ti ui):SimG C Z (gSub to ti KN) (Ol uo ui):=λI α σ H ρ M v d K Q R Y r hh k =>
 ho I α σ H ρ M _ _ R Y hh λov o I1 O H1 M1 B G R1 r1 h1=>hi I1 O σ H1 ρ M1 _ _ R1 (Y.mono B G) h1 λiv i I2 J H2 M2 h p2 R2 r2 h2=>by
  let{kk,xs,z,j,rfl,rfl,e1,e2,h2}:=h2;cases r2.inv;let{_,rfl,ec}:=(r1.mono h p2).inv;let{us,eu,ru}:=Ws R2 ec e1;exists _,us,z,j,W,W,eu,by rwa[ru.length],?_;show k I2 J σ _ ρ _ (B.trans h) (G.trans p2) (R2.putL ec (ru.set (r.mono (B.trans h) (G.trans p2)) j)) (Y.mono (B.trans h) (G.trans p2)) h2
inductive uAug_1(i:Nat)(f:Int->Int->Int)(E:AT)(ρ:Ev)(x:Int)(d:D)(M1:AC):Prop
 |mk:∀y,d=.int y->E.nx (ρ.set i (some (.int (f x y)))) M1->uAug_1 i f E ρ x d M1
inductive uAug(i:Nat)(ue:AQ)(f:Int->Int->Int)(E:AT)(ρ:Ev)(M:AC):Prop
 |mk:∀x,ρ[i]?=some (some (.int x))->ue ρ M (uAug_1 i f E ρ x)->uAug i ue f E ρ M
def HK{i:Nat}{f:Int->Int->Int}(J:AE C Z te ue):A8 C Z (tAug i te (ipI f)) (uAug i ue f):=λI α σ H ρ M E D' R G h F=>by
 let{x,e,h}:=h;let{v,e2,r}:=G.2 i _ e;cases r.inv;exists _,e2,J I α σ H ρ M _ _ R G h λv d Y B H1 M1 s p O r h1=>?_;let{y,rfl,h1}:=h1;cases r.inv;show{x,y,W,W,F.nx Y B _ H1 _ M1 s p O ((G.mono s p).set (.int _) i) h1}
abbrev Oc(P:Nat->Ev->AC->Prop)(ρ:Ev)(M:AC)(m:Nat):Ev->AC->Prop:=λh G=>∃B,B<m/\Dr ρ M (P B) h G
abbrev vU(E:AT)(P:Nat->Ev->AC->Prop)(ρ:Ev)(M:AC)(m:Nat):AT:={E with nx:=Oc P ρ M m,ct:=Oc P ρ M m,bk:=E.nx}
abbrev xG(u:BW)(E:AT)(ρ:Ev)(M:AC)(P:Nat->Ev->AC->Prop)(m:Nat)(h:Ev):Bool->AC->Prop:=λb M2=>if b=true then u (vU E P ρ M m) h M2 else E.nx h M2
inductive uWhile(uc:CS)(u:BW)(E:AT)(ρ:Ev)(M:AC):Prop
 |mk:∀P:Nat->Ev->AC->Prop,(∃m,P m ρ M)->(∀m ρ1 M1,P m ρ1 M1->uc ρ1 M1 (xG u E ρ M P m ρ1))->uWhile uc u E ρ M
theorem N9(hc:BU C Z tc uc)(hb:A8 C Z t u):A8 C Z (O7 tc t) (uWhile uc u):=λI α σ H ρ M E D' R RE h F=>by
 let{P,{m0,h0},hs}:=h;let a8:=R.len;exists λm O H1=>∃J G B M1,AL I J/\α<+:G/\AR C Z J G H1 M1/\A1 C J G O B/\P m B M1,{m0,I,α,ρ,M,.refl _,Jn _,R,RE,h0},?_;rintro m O H1 ⟨J,G,B,M1,s1,p1,R1,a2,h1⟩;show hc J G O H1 B M1 _ _ R1 a2 (hs m B M1 h1) λb I2 a1 H2 M2 s2 p2 R2 h2=>?_;cases b with
 |false =>
  show F.nx I2 a1 O H2 B M2 (s1.trans s2) (p1.trans p2) R2 (a2.mono s2 p2) h2
 |true =>
  show{λa0 H'=>∃Y,Y<m/\∃J G B M1,AL I J/\α<+:G/\AR C Z J G H' M1/\A1 C J G a0 B/\P Y B M1,λa0 H' h=>h,?_};let nx:BZ C Z I2 a1 (λa4 M'=>∃Y,Y<m/\Dr ρ M (P Y) a4 M') (λa0 H'=>∃Y,Y<m/\∃J G B M1,AL I J/\α<+:G/\AR C Z J G H' M1/\A1 C J G a0 B/\P Y B M1):=λI3 b2 a9 H3 b1 M3 s3 p3 R3 a7 h3=>by
   let{Y,hm,h3}:=h3;let{a5,a3,M4,p4,R4,a6,h4}:=h3.out R RE (p1.trans (p2.trans p3)) R3 a7;show{Y,hm,I3,a5,a3,M4,s1.trans (s2.trans s3),p4,R4,a6,h4}
  show hb I2 a1 O H2 B M2 _ _ R2 (a2.mono s2 p2) h2 {nx,F.rt.mono (s1.trans s2) (p1.trans p2),F.nx.mono (s1.trans s2) (p1.trans p2),nx}
structure DH where
 n:Nat
 item:Nat->D->Prop
 ok:AC->Prop
abbrev TI3:=Ev->AC->(DH->AC->Prop)->Prop
def ItR(C:Cf)(Z:CP)(I:Hp)(α:List Addr)(J:It)(j:DH):Prop:=∀I' α' H' h,AL I I'->α<+:α'->AR C Z I' α' H' h->j.ok h ->
 (∀i,i<j.n->J.go i H'/\∀x G,J.yld i H' x G->∃B d,AL I' B/\AR C Z B α' G h/\AN C B α' x d/\j.item i d)/\J.stop j.n H'
def SimI(C:Cf)(Z:CP)(w:TI)(u:TI3):Prop:=∀I α σ H ρ M(K:DH->AC->Prop)(h:It->Hp->Prop),AR C Z I α H M->A1 C I α σ ρ->u ρ M K ->
 (∀J j I' α' H' B,AL I I'->α<+:α'->AR C Z I' α' H' B->ItR C Z I' α' J j->K j B->h J H')->w σ H h
inductive uIL_1(K:DH->AC->Prop)(d:D)(M1:AC):Prop
 |mk:∀ds,Y8 M1 d=some ds->K {ds.length,λi x=>ds[i]?=some x,λM=>Y8 M d=some ds} M1->uIL_1 K d M1
def uIL(ue:AQ):TI3:=λρ M K=>ue ρ M (uIL_1 K)
def BV(he:AE C Z te ue):SimI C Z (OU C.k te) (uIL ue):=λI α σ H ρ M K R' R RE h k =>
 he I α σ H ρ M _ _ R RE h λv d I1 G H1 M1 s1 p1 O J h1=>by
  let{ds,e,h1}:=h1;let{a,vs,rfl,ea,ra}:=Ur O J e;show{a,W,{vs,ea},k _ _ I1 G H1 M1 s1 p1 O (λI2 Y H2 M2 s2 p2 R2 ok=>?_) h1};let{b,ws,eb,eq,B}:=Ur R2 (J.mono s2 p2) ok;cases eb;exists λi hi=>?_,{ws,eq,by rw[B.length];show Jk _};let hi2:i<ws.length:=by rwa[B.length]
  exists{ws,ws[i],eq,Jb hi2},λx H3 y=>?_;let{rfl,y}:=y;let:=y ws eq;rw[Jb hi2]at this;cases this;show{I2,ds[i],.refl _,R2,B.at hi2 hi,Jb hi}
inductive uIT_1(K:DH->AC->Prop)(d:D)(M1:AC):Prop
 |mk:∀ds,KQ d=some ds->K {ds.length,λi x=>ds[i]?=some x,λ_=>True} M1->uIT_1 K d M1
def uIT(ue:AQ):TI3:=λρ M K=>ue ρ M (uIT_1 K)
def s_it(he:AE C Z te ue):SimI C Z (iTup C.k te) (uIT ue):=λI α σ H ρ M K R' R RE h k =>
 he I α σ H ρ M _ _ R RE h λv d I1 G H1 M1 s1 p1 O r1 h1=>by
  let{ds,e,h1}:=h1;let{a,vs,rfl,ea,ia,ra}:=Ue O r1 e;show{a,W,{vs,A2.of ea},k _ _ I1 G H1 M1 s1 p1 O (λI2 Y H2 M2 J p2 R2 ok=>?_) h1};let eq:A2 C.k H2 a vs:=A2.of (R2.sub _ _ (J _ _ ia));let B:=ra.mono J p2;exists λi hi=>?_,{vs,eq,by rw[B.length];show Jk _};let hi2:i<vs.length:=by rwa[B.length]
  exists{vs,vs[i],eq,Jb hi2},λx H3 y=>?_;let{rfl,y}:=y;let:=y vs eq;rw[Jb hi2]at this;cases this;show{I2,ds[i],.refl _,R2,B.at hi2 hi,Jb hi}
def GA(lo:Int)(n:Nat):DH:={n,λi x=>x=.int (lo+i),λ_=>True}
def Zyw{lo:Int}{n:Nat}:ItR C Z I α (HM lo n) (GA lo n):=λI' α' H' h s p R _=>{λi hi=>{hi,λx B y=>by
 let{rfl,rfl}:=y;show{I',_,.refl _,R,.int _,W}},Jk _}
variable{ta:TA}{ua:CA}
inductive uIR1_1(K:DH->AC->Prop)(ds:List D)(M1:AC):Prop
 |mk:∀j:Int,ds=[.int j]->(-(2 ^ 62)<=j/\j<2 ^ 62)->K (GA 0 j.toNat) M1->uIR1_1 K ds M1
def uIR1(ua:CA):TI3:=λρ M K=>ua ρ M (uIR1_1 K)
def Zyi(Y:Ap C Z ta ua):SimI C Z (OY ta) (uIR1 ua):=λI α σ H ρ M K R' R RE h k =>
 Y I α σ H ρ M _ _ R RE h λvs ds I1 B H1 M1 G O R1 J h1=>by
  let{j,rfl,{h2,h3},h1}:=h1;show AA.e1 J λ_ a=>?_;cases a;show{j,W,h2,h3,k _ _ I1 B H1 M1 G O R1 Zyw h1}
abbrev vF(E:AT)(ρ:Ev)(M:AC)(P:Nat->Ev->AC->Prop)(i:Nat):AT:={E with nx:=Dr ρ M (P (i+1)),ct:=Dr ρ M (P (i+1)),bk:=E.nx}
inductive uFor_1(ug:TG3)(ub:BW)(E:AT)(ρ:Ev)(j:DH)(M1:AC):Prop
 |mk:∀P:Nat->Ev->AC->Prop,(∀i ρ M,i<=j.n->P i ρ M->j.ok M)->P 0 ρ M1 ->
  (∀i x ρ1 M',i<j.n->j.item i x->P i ρ1 M'->ug x ρ1 M' (ub (vF E ρ M1 P i)))->(∀ρ M,P j.n ρ M->E.nx ρ M)->uFor_1 ug ub E ρ j M1
def uFor(ui:TI3)(ug:TG3)(ub:BW):BW:=λE ρ M=>ui ρ M (uFor_1 ug ub E ρ)
theorem Sq(hi:SimI C Z wi ui)(hg:SimG C Z g ug)(hb:A8 C Z t u):A8 C Z (tFor wi g t) (uFor ui ug u):=λI α σ H ρ M E D' R RE h F =>
 hi I α σ H ρ M _ _ R RE h λJ j I1 a2 H1 M1 s1 p1 R1 IR h1=>by
  let{P,b1,h0,hs,he}:=h1;let b5:=R1.len;exists λi m a1 H'=>m=j.n-i/\i<=j.n/\∃I2 O B M2,AL I1 I2/\a2<+:O/\AR C Z I2 O H' M2/\A1 C I2 O a1 B/\P i B M2,{j.n,W,J9 _,I1,a2,ρ,M1,.refl _,Jn _,R1,RE.mono s1 p1,h0},?_;rintro i m a1 H' ⟨rfl,hi,I2,O,B,M2,s2,p2,R2,a5,h2⟩;let{go,a4}:=IR I2 O H' M2 s2 p2 R2 (b1 i B M2 hi h2)
  by_cases hlt:i<j.n
  .let⟨g1,g2⟩:=go i hlt;show .inr {g1,λa0 H3=>∃I3 G Y M3,AL I1 I3/\a2<+:G/\AR C Z I3 G H3 M3/\A1 C I3 G a0 Y/\P (i+1) Y M3,λa0 H3 h3=>{j.n-(i+1),(),W,hlt,h3},λx H3 y=>?_};let{I3,d,s3,R3,r3,it}:=g2 x H3 y;show hg I3 O a1 H3 B M2 x d _ _ R3 (a5.mono s3 (Jn _)) r3 (hs i d B M2 hlt it h2) λI4 a3 a6 H4 a8 M4 s4 p4 R4 b4 h4=>?_;let nx:BZ C Z I4 a3 (Dr ρ M1 (P (i+1))) (λa0 H3=>∃I3 G Y M3,AL I1 I3/\a2<+:G/\AR C Z I3 G H3 M3/\A1 C I3 G a0 Y/\P (i+1) Y M3):=λI5 b8 b6 H5 b7 M5 s5 p5 R5 b3 h5=>by
    let{a9,a7,M6,p6,R6,b2,h6}:=h5.out R1 (RE.mono s1 p1) (p2.trans (p4.trans p5)) R5 b3;show{I5,a9,a7,M6,s2.trans (s3.trans (s4.trans s5)),p6,R6,b2,h6}
   let F4:=F.mono (s1.trans (s2.trans (s3.trans s4))) (p1.trans (p2.trans p4));show hb I4 a3 a6 H4 a8 M4 _ _ R4 b4 h4 {nx,F4.rt,F4.nx,nx}
  .let e:i=j.n:=by lia
   subst e;show .inl {a4,F.nx I2 O a1 H' B M2 (s1.trans s2) (p1.trans p2) R2 a5 (he B M2 h2)}
def sg3(ρ:Ev)(T:List Str)(cs:List Nat):Ev:=T.map (λ_=>none)++cs.map λi=>ρ.getD i none
def A1.sg(h:A1 C I α σ ρ)(T:List Str)(cs:List Nat):A1 C I α (CD σ T cs) (sg3 ρ T cs):=by
 exists by unfold CD sg3;simp,λi d e=>?_;unfold sg3 at e;unfold CD
 by_cases hi:i<T.length
 .rw[Jo (by simpa using hi),Gi,Jb hi]at e;simp at e
 .rw[J0 (by simpa using hi),Gi]at e;rw[J0 (by simpa using hi),Gi];simp only[Ja]at e⊢;cases hc:cs[i-T.length]? with
  |none=>rw[hc]at e;cases e
  |some c =>
   rw[hc]at e;simp only[F9,JQ]at e⊢;rw[Go]at e⊢;cases hr:ρ[c]? with
   |none=>rw[hr]at e;cases e
   |some o =>
    rw[hr]at e;cases e;let{v,e2,r}:=h.2 c d hr;exists v,by rw[e2];rfl,r
variable{tt:TT}{ut:CS} 
abbrev pP(P:Nat->List D->AC->Prop)(i:Nat)(ys:List D):D->AC->Prop:=λy h=>P (i+1) (ys++[y]) h
abbrev mF(ue:AQ)(P:Nat->List D->AC->Prop)(i:Nat)(ys:List D)(h:Ev):Bool->AC->Prop:=λb B=>if b=true then ue h B (pP P i ys)else P (i+1) ys B
abbrev gB(ut:CS)(ue:AQ)(P:Nat->List D->AC->Prop)(i:Nat)(ys:List D):Ev->AC->Prop:=λh M2=>ut h M2 (mF ue P i ys h)
inductive cmp3_0(ug:TG3)(ut:CS)(ue:AQ)(T:List Str)(cs:List Nat)(ρ:Ev)(F:List D->AC->Prop)(j:DH)(M1:AC):Prop
 |mk:j.n<=Cb->∀P:Nat->List D->AC->Prop,(∀i ys M,i<=j.n->P i ys M->j.ok M)->P 0 [] M1 ->
  (∀i x ys M,i<j.n->j.item i x->P i ys M->ug x (sg3 ρ T cs) M (gB ut ue P i ys))->(∀ys M,P j.n ys M->F ys M)->cmp3_0 ug ut ue T cs ρ F j M1
def cmp3(ui:TI3)(ug:TG3)(ut:CS)(ue:AQ)(T:List Str)(cs:List Nat)(ρ:Ev)(M:AC)(F:List D->AC->Prop):Prop:=ui ρ M (cmp3_0 ug ut ue T cs ρ F)
abbrev xE(K:K3):List D->AC->Prop:=λys M1=>K (.lst ys) M1
abbrev oH(K:K3):List D->AC->Prop:=λys M1=>K (.cell M1.length) (M1++[.lst ys])
def UH(ui:TI3)(ug:TG3)(ut:CS)(ue:AQ)(T:List Str)(cs:List Nat):AQ:=λρ M K=>cmp3 ui ug ut ue T cs ρ M (xE K)
def nK(ui:TI3)(ug:TG3)(ut:CS)(ue:AQ)(T:List Str)(cs:List Nat):AQ:=λρ M K=>cmp3 ui ug ut ue T cs ρ M (oH K)
theorem VQ(hi:SimI C Z wi ui)(hg:SimG C Z g ug)(ht:BU C Z tt ut)(he:AE C Z te ue)(R:AR C Z I α H M)(RE:A1 C I α σ ρ)(h:cmp3 ui ug ut ue T cs ρ M F)(k:∀ys vs I' α' H' M',AL I I'->α<+:α'->AR C Z I' α' H' M'->AA C I' α' vs ys->F ys M'->∀p,H' p=none->Q (.ref p) (upd H' p (.lst vs))):GY wi g tt te T cs σ H Q :=
 hi I α σ H ρ M _ _ R RE h λJ j I1 O H1 M1 s1 p1 R1 IR h1=>by
  let{hz,P,a8,h0,hs,hd}:=h1;exists λi m vs H'=>m=j.n-i/\i<=j.n/\∃I2 B ys M2,AL I1 I2/\O<+:B/\AR C Z I2 B H' M2/\AA C I2 B vs ys/\ys.length<=i/\P i ys M2,{j.n,W,J9 _,I1,O,[],M1,.refl _,Jn _,R1,.nil,Jk _,h0},?_;rintro i m vs H' ⟨rfl,hi,I2,B,ys,M2,s2,p2,R2,r2,hl,h2⟩;let{go,a4}:=IR I2 B H' M2 s2 p2 R2 (a8 i ys M2 hi h2);let b1:=r2.length
  by_cases hlt:i<j.n
  .let⟨g1,g2⟩:=go i hlt;show .inr {g1,(),λa3 H3=>∃I3 G Y M3,AL I1 I3/\O<+:G/\AR C Z I3 G H3 M3/\AA C I3 G a3 Y/\Y.length<=i+1/\P (i+1) Y M3,λa3 H3 h3=>{j.n-(i+1),(),W,hlt,h3},λx H3 y=>?_};let{I3,d,s3,R3,r3,it}:=g2 x H3 y;let a9:A1 C I3 B σ ρ:=RE.mono (s1.trans (s2.trans s3)) (p1.trans p2);show hg I3 B _ H3 _ M2 x d _ _ R3 (a9.sg T cs) r3 (hs i d ys M2 hlt it h2) λI4 a7 a0 H4 a1 M4 s4 p4 R4 a5 h4=>?_;show ht I4 a7 a0 H4 a1 M4 _ _ R4 a5 h4 λb I5 a2 H5 M5 s5 p5 R5 h5=>?_;cases b with
   |true =>
    show he I5 a2 a0 H5 a1 M5 _ _ R5 (a5.mono s5 p5) h5 λv e I6 a6 H6 M6 s6 p6 R6 r6 h6=>?_;show{I6,a6,ys++[e],M6,s2.trans (s3.trans (s4.trans (s5.trans s6))),p2.trans (p4.trans (p5.trans p6)),R6,(r2.mono (s3.trans (s4.trans (s5.trans s6))) (p4.trans (p5.trans p6))).app (.one r6),?_,h6};rw[Jc,G0];lia
   |false =>
    show{I5,a2,ys,M5,s2.trans (s3.trans (s4.trans s5)),p2.trans (p4.trans p5),R5,r2.mono (s3.trans (s4.trans s5)) (p4.trans p5),(),h5}
  .let e:i=j.n:=by lia
   subst e;show .inl {a4,(),k ys vs I2 B H' M2 (s1.trans s2) (p1.trans p2) R2 r2 (hd ys M2 h2)}
def Ww(hi:SimI C Z wi ui)(O:SimG C Z g ug)(G:BU C Z tt ut)(Y:AE C Z te ue):AE C Z (GY wi g tt te T cs) (UH ui ug ut ue T cs):=λI α σ H ρ M K Q R RE h k =>
 VQ hi O G Y R RE h λys vs I' α' H' M' s p R' r hF q J=>by
  let{R2,B,e2}:=R'.new (o:=.lst vs) J;show k _ _ _ α' _ M' (s.trans B) p R2 (.lst e2 (r.mono B (Jn _))) hF
def lD(hi:SimI C Z wi ui)(J:SimG C Z g ug)(B:BU C Z tt ut)(O:AE C Z te ue):AE C Z (GY wi g tt te T cs) (nK ui ug ut ue T cs):=λI α σ H ρ M K Q R RE h k =>
 VQ hi J B O R RE h λys vs I' α' H' M' s p R' r Y q G=>by
  let{R2,p2,e2}:=R'.cell (o:=.lst vs) (m:=.lst ys) G λH' e=>{vs,e,r};show k _ _ I' _ _ _ s (p.trans p2) R2 (.cell e2) Y
abbrev nM:CS:=λ_ M K=>K true M
def V6:BU C Z ZU nM:=λI α σ H ρ M K Q R E h k=>k true I α H M (.refl _) (Jn _) R h
abbrev DD:=List D->AC->K3->Prop
def AH(C:Cf)(sp:DD):Sp:=λvs H Q _=>∃Z I α M ds K,AR C Z I α H M/\AA C I α vs ds/\sp ds M K/\Fin C Z I α K Q
abbrev tF(sp:DD)(K:K3):List D->AC->Prop:=λds M1=>sp ds M1 K
def NS(sp:DD)(ua:CA):AQ:=λρ M K=>ua ρ M (tF sp K)
def GI(Y:Ap C Z ta ua):AE C Z (GV (AH C sp) [] E0' ta) (NS sp ua):=λI α σ H ρ M K Q R RE h k =>
 Y I α σ H ρ M _ _ R RE h λvs ds I1 B H1 M1 G O R1 J h1=>by
  rw[Jx];show{Z,I1,B,M1,ds,K,R1,J,h1,k.mono G O}
def Nd(N:List Str)(ds:List D):Ev:=ds.map some++Co (N.length-ds.length) none
def Q2(r:AA C I α vs ds)(N:List Str):A1 C I α (L2.start N vs) (Nd N ds):=by
 let hl:=r.length;exists by unfold L2.start Nd;simp[hl],λi d e=>?_;unfold Nd at e;unfold L2.start
 by_cases hi:i<ds.length
 .rw[Jo (by simpa using hi),Gi,Jb hi]at e;let h:ds[i]=d:=by simpa using e
  rw[Jo (by simpa[hl]using hi),Gi,Jb (by rwa[hl])];show{·,h ▸ r.at (by rwa[hl]) hi}
 .rw[J0 (by simpa using hi),RD]at e
  split at e<;>cases e
def AY.ok3{dC:Heap}(F:AY K x dH st f fd)(S:AD N ps (Zf st))(len:∀ds M K,sp ds M K->ds.length=ps.length)(hbody:∀(cdv:Ca)(A:Kr)(dD:List Env)(s:Cc)(H:Hp)(E:XK),AG k (A.deeper (Ho dH (Zf st) s.heap.objs.size f cdv)) ->
   ∃t u,PSs (CI A7 P w K mg dC N dH (Zf st) f cdv A dD s H E).nox (Xc st) t/\(∀Z,A8 C Z t u)/\∀ds M K,WfM M->(∀d∈ds,Ym M.length d)->sp ds M K->u {nx:=λ_ M'=>Dk M.length K .non M',rt:=Dk M.length K} (Nd N ds) M):AK P w K mg dC A7 (k+1) f fd ps (AH C sp):=by
 show F.ok S (λvs H Q E h=>?_) (λcdv A dD s H vs Q E hr h=>?_)
 .let⟨Z,I,α,M,ds,K,R,r,h,_⟩:=h;rw[r.length];show len ds M K h
 .let⟨t,u,h1,h2,h3⟩:=hbody cdv A dD s H E hr;let{Z,I,α,M,ds,K,R,r,h,k}:=h;let G:=k.dk R.len R.aa;show{t,h1,h2 Z I α _ H _ M _ _ R (Q2 r N) (h3 ds M K R.wf (by rw[<-R.len];show r.bel) h) {λI1 B J H1 O M1 Y p1 R1 _ h1=>G _ _ I1 B H1 M1 Y p1 R1 .non h1,G,λ_ _ _ _ _ _ _ _ _ _ h=>h.elim,λ_ _ _ _ _ _ _ _ _ _ h=>h.elim}}
end
section
variable{C:Cf} 
def kP(B:AE C Z te ue)(h:K'=C.k):SimI C Z (OU K' te) (uIL ue):=h ▸ BV B
def wM(B:AE C Z te ue)(h:K'=C.k):SimI C Z (iTup K' te) (uIT ue):=h ▸ s_it B
def pW(B:GX C Z gs ugs)(h:K'=C.k):SimG C Z (gTup K' n gs) (uGTup n ugs):=h ▸ tM B
def qD(B:AE C Z to uo)(G:Ap C Z t u)(h:K'=C.k):AE C Z (tBM K' "list" NK to t) (uBML app3 uo u):=h ▸ vW B G
end
section
variable{C:Cf} 
def AR.full(R:AR C Z I α H M):∃I',AL I I'/\AR C Z I' α H M/\∀b o,H b=some o->b∉α->I' b=some o:=by
 let s:AL I (λb=>if b∈α then none else H b):=λb o e=>by
  let h:b∉α:=λh=>by
   let{k,J,rfl}:=Ge h;let B:k<M.length:=by rw[<-R.len];show J
   rw[(R.cel k _ _ (Jb J) (Jb B)).2]at e;cases e
  show(if b∈α then none else H b)=some o;rw[D8 h];show R.sub b o e
 exists _,s,{R.ai.trans s,R.aa,λb o e=>?_,R.len,R.nd,λk a m h1 h2=>?_},λb o e h=>?_
 .let G:(if b∈α then none else H b)=some o:=e
  split at G
  .cases G
  .show G
 .exists(R.cel k a m h1 h2).1.mono s (Jn _) W,?_;show(if a∈α then none else H a)=none;rw[D9 (G3 h1)]
 .show(if b∈α then none else H b)=some o;rwa[D8 h]
def AR.out(R:AR C Z I α H M)(h:H l=none):l∉α:=λhl=>by
 let{k,B,e}:=Ge hl;show R.cellNe (Jb B) h e
theorem AR.tupOut(R:AR C Z I α H M)(h:H l=some (.tup vs)):l∉α:=λhl=>by
 let{k,G,rfl}:=Ge hl;let B:k<M.length:=by rw[<-R.len];show G
 let:=(R.cel k _ _ (Jb G) (Jb B)).1;cases hm:M[k]with
 |lst ds=>rw[hm]at this;let{vs,e,_}:=this;rw[h]at e;cases e
 |dct ds=>rw[hm]at this;let{vs,e,_}:=this;rw[h]at e;cases e
 |dcT ds=>rw[hm]at this;let{vs,e,_}:=this;rw[h]at e;cases e
 |drK ds=>rw[hm]at this;let{vs,e,_}:=this;rcases e with e|⟨o,e⟩<;>(rw[h]at e;cases e)
 |drT ds=>rw[hm]at this;let{vs,e,_}:=this;rcases e with e|⟨o,e⟩<;>(rw[h]at e;cases e)
 |dfT o vs ds=>rw[hm]at this;let e:=this.1;rw[h]at e;cases e
 |dfK o vs ds=>rw[hm]at this;let e:=this.1;rw[h]at e;cases e
 |ins Cl fs=>rw[hm]at this;let{dx,vs,e,_}:=this;rw[h]at e;cases e
 |hand=>rw[hm]at this;let{d,k,c,cs,e,_}:=this;rw[h]at e;cases e
 |tab P dF q=>rw[hm]at this;let{_,ps,e,_}:=this;rw[h]at e;cases e
 |dcN sh z ds=>rw[hm]at this;cases z with|none=>obtain⟨vs,e,_⟩:=this;rw[h]at e;cases e|some z=>have e:=this.1;rw[h]at e;cases e
def AR.same(R:AR C Z I α H M)(s:AL H H'):AR C Z I α H' M:=by
 exists R.ai,R.aa,R.sub.trans s,R.len,R.nd,λk a m h1 h2=>?_;let{h,B}:=R.cel k a m h1 h2;let{o,e}:=h.some;show{h.mono (.refl _) (Jn _) ((s _ _ e).trans e.symm),B}
theorem AR.cellAt(R:AR C Z I α H M)(B:I l=none)(hl:l∉α)(G:BR C I α H l m):AR C Z I (α++[l]) H (M++[m])/\α<+:(α++[l])/\(α++[l])[M.length]?=some l:=by
 show{{R.ai,R.aa.trans (Gj _ _),R.sub,by rw[Jc,Jc,R.len];rfl,?_,λk a x h1 h2=>?_},Gj _ _,by rw[<-R.len];simp}
 .rw[Bn];exists R.nd,by simp,λa O b J e=>hl (by rw[<-Jj.mp J,<-e];show O)
 .by_cases hk:k < α.length
  .rw[Jo hk]at h1;rw[Jo (by rw[<-R.len];show hk)]at h2;let{a1,Y}:=R.cel k a x h1 h2;show{a1.mono (.refl _) (Gj _ _) W,Y}
  .let⟨h,_⟩:=Jd.mp h1;rw[Jc,G0]at h;let e:k=α.length:=by lia
   subst e;let e1:(α++[l])[α.length]?=some l:=by simp
   let e2:(M++[m])[α.length]?=some m:=by rw[R.len];simp
   rw[e1]at h1;rw[e2]at h2;cases h1;cases h2;show{G.mono (.refl _) (Gj _ _) W,B}
end
variable{ui:L3.TI3}
def wD(w:List Int):D:=.tup (w.map .int)
def pD(p:Pr):D:=.tup [.int p.1,wD p.2]
def oD:Option Int->D
 |some z=>.int z
 |none=>.non
section
variable{C:Cf} 
theorem KI{F:V->τ->Prop}{f:τ->D}(h:∀v a,AN C I α v (f a)->F v a):∀{vs:List V}{as:List τ},AA C I α vs (as.map f)->Paired F vs as
 |_,[],r=>by cases r.inv;show .nil
 |_,a::as,r=>by
  cases r with
  |cons x y=>show .cons (h _ _ x) (KI h y)
def iM(s:AL I H){w:List Int}(h:AN C I α v (wD w)):oB H v w:=by
 let{_,_,rfl,e,r}:=h.inv;rw[r.of_ints w]at e;show{·,s _ _ e}
theorem VJ(s:AL I H)(h:AN C I α v (pD p)):EC H v p:=by
 cases h with
 |tup e r =>
  cases r with
  |cons a b =>
   cases b with
   |cons b c =>
    cases c;cases a;let{t,rfl,e2}:=iM s b;show{_,t,W,s _ _ e,e2}
end
section
inductive CB(ds:List D)(M:AC)(K:K3):Prop
 |mk:∀k n,ds=[.cell k,.int n]->(M[k]?=some .hand/\(0<n/\n<1073741824)/\∀r,0<=r->r<n->K (.int r) M)->CB ds M K
inductive dOpen(ds:List D)(M:AC)(K:K3):Prop
 |mk:∀(ns:List Int)(i:Int),ds=[.frz (ns.map .int),.int i]->((ns.length<=63/\0<=i/\i<2 ^ 60)/\K (.cell M.length) (M++[.hand]))->dOpen ds M K
inductive dBytes(ds:List D)(M:AC)(K:K3):Prop
 |mk:∀k m,ds=[.cell k,.int m]->(M[k]?=some .hand/\(2<=m/\m<=4)/\∀bs:List Int,bs.Nodup->2<=bs.length->(bs.length:Int)<=m->(∀b∈bs,0<=b/\b<256)->K (.lst (bs.map .int)) M)->dBytes ds M K
inductive dSigns(ds:List D)(M:AC)(K:K3):Prop
 |mk:∀k m,ds=[.cell k,.int m]->(M[k]?=some .hand/\(0<=m/\m<=100)/\∀ss:List Int,ss.Nodup->(ss.length:Int)=m->K (.lst (ss.map .int)) M)->dSigns ds M K
inductive dTable(ds:List D)(M:AC)(K:K3):Prop
 |mk:∀(k:Nat)(ws:List (List Int))(ss:List Int),ds=[.cell k,.lst (ws.map wD),.lst (ss.map .int)]->(M[k]?=some .hand/\(WOk ws/\ws.length<=28/\ss.Nodup/\ws.length<=ss.length/\ss.length<=100)/\∀L:List Pr,AU L->A6 L->(L.map (·.2)).Perm ws->K (.lst (L.map pD)) M)->dTable ds M K
end
section
variable{C:Cf}{tc:TE}{uc:AQ}{t:TA}{u:CA}
inductive uRev_3(K:K3)(d:D)(M2:AC):Prop
 |mk:∀xs,Y8 M2 d=some xs->K (.lst xs.reverse) M2->uRev_3 K d M2
abbrev lZ(K:K3)(d:D):Option Int->AC->Prop:=λk M2=>k=some (-1)/\uRev_3 K d M2
abbrev oA(us:TO3)(ρ:Ev)(K:K3):D->AC->Prop:=λd M1=>us ρ M1 (lZ K d)
def uRev(ua:AQ)(us:TO3):AQ:=λρ M K=>ua ρ M (oA us ρ K)
def WB{ts:TO}{us:TO3}(ha:AE C Z ta ua)(hs:SimO C Z ts us):AE C Z (tRev C.k ta ts) (uRev ua us):=λI α σ H ρ M K Q R E h k =>
 ha I α σ H ρ M _ _ R E h λv d I1 G H1 M1 Y p1 R1 r1 h1 =>
  hs I1 G σ H1 ρ M1 _ _ R1 (E.mono Y p1) h1 λo I2 B H2 M2 O p2 R2 h2=>by
   let{ho,xs,e,h2}:=h2;let{a,vs,rfl,ea,ra}:=Ur R2 (r1.mono O p2) e;exists ho,a,vs,W,ea,λp hp=>?_;let{R3,J,e3}:=R2.new (o:=.lst vs.reverse) hp;show k _ _ _ B _ M2 (Y.trans (O.trans J)) (p1.trans p2) R3 (.lst e3 (ra.rev.mono J (Jn _))) h2
def Ar[DecidableEq κ](kvs:List (κ×D))(k:κ):Option D:=(kvs.find? λh=>decide (h.1=k)).map (·.2)
def putD[DecidableEq κ](kvs:List (κ×D))(k:κ)(v:D):List (κ×D) :=
 if(kvs.any λh=>decide (h.1=k))=true then kvs.map (λh=>if h.1=k then(h.1,v)else h)else kvs++[(k,v)]
def EU:D->Option AI
 |.int i=>some (.inl i)
 |.str s=>some (.inr s)
 |_=>none
def Qc:List D->Option (List AI)
 |[]=>some []
 |d::r=>match EU d,Qc r with|some k,some ks=>some (k::ks)|_,_=>none
def tkOf:D->Option (List AI)
 |.tup ds=>Qc ds
 |_=>none
section
theorem Pc(r:AN C I α v d)(h:EU d=some k):v=kV k:=by
 cases r with
 |int i=>cases h;rfl
 |str i=>cases h;rfl
 |_=>cases h
theorem Rq:∀{vs:List V}{ds:List D}{ks:List AI},AA C I α vs ds->Qc ds=some ks->vs=ks.map kV
 |_,_,_,.nil,h=>by cases h;rfl
 |_,_,ks,.cons (d:=d) (ds:=ds) a b,h=>by
  unfold Qc at h;cases h1:EU d with
  |none=>simp only[h1]at h;cases h
  |some k =>
   cases h2:Qc ds with
   |none=>simp only[h1,h2]at h;cases h
   |some r =>
    simp only[h1,h2]at h;cases h;rw[Pc a h1,Rq b h2];rfl
theorem AV.len:∀{vs:List (AI×V)}{ds:List (AI×D)},AV C I α vs ds->vs.length=ds.length:=by
 intro _ _ h;cases h with
 |nil=>
  show W
 |cons _ b=>
  show by rw[Ju,Ju,AV.len b]
theorem AW.len:∀{vs:List (List AI×V)}{ds:List (List AI×D)},AW C I α vs ds->vs.length=ds.length:=by
 intro _ _ h;cases h with
 |nil=>
  show W
 |cons _ b=>
  show by rw[Ju,Ju,AW.len b]
def Xy[DecidableEq κ]{k B:κ}{d:D}{r:List (κ×D)}:Ar ((B,d)::r) k=if B=k then some d else Ar r k:=by
 unfold Ar;rw[Gu]
 by_cases h:B=k
 .simp[h]
 .simp[h]
def RN[DecidableEq κ]{k B:κ}{d:V}{r:List (κ×V)}:AX ((B,d)::r) k=if B=k then some d else AX r k:=by
 unfold AX;rw[Gu]
 by_cases h:B=k
 .simp[h]
 .simp[h]
theorem AV.val :∀{vs:List (AI×V)}{ds:List (AI×D)},AV C I α vs ds->(Ar ds k=none/\AX vs k=none)\/∃d v,Ar ds k=some d/\AX vs k=some v/\AN C I α v d
 |_,_,.nil=>.inl {W,W}
 |_,_,.cons (k:=k') (v:=v) (d:=d) a b=>by
  rw[Xy,RN]
  by_cases h:k'=k
  .rw[D9 h,D9 h];show .inr {d,v,W,W,a}
  .rw[D8 h,D8 h];show AV.val b
theorem AW.val :∀{vs:List (List AI×V)}{ds:List (List AI×D)},AW C I α vs ds->(Ar ds k=none/\AX vs k=none)\/∃d v,Ar ds k=some d/\AX vs k=some v/\AN C I α v d
 |_,_,.nil=>.inl {W,W}
 |_,_,.cons (k:=k') (v:=v) (d:=d) a b=>by
  rw[Xy,RN]
  by_cases h:k'=k
  .rw[D9 h,D9 h];show .inr {d,v,W,W,a}
  .rw[D8 h,D8 h];show AW.val b
theorem AV.any :∀{vs:List (AI×V)}{ds:List (AI×D)},AV C I α vs ds->(vs.any λh=>decide (h.1=k))=(ds.any λh=>decide (h.1=k)):=by
 intro _ _ B;cases B with
 |nil=>
  show W
 |cons a b=>
  show by rw[B5,B5,AV.any b]
theorem AW.any :∀{vs:List (List AI×V)}{ds:List (List AI×D)},AW C I α vs ds->(vs.any λh=>decide (h.1=k))=(ds.any λh=>decide (h.1=k)):=by
 intro _ _ B;cases B with
 |nil=>
  show W
 |cons a b=>
  show by rw[B5,B5,AW.any b]
theorem AV.app:∀{vs ws:List (AI×V)}{ds es:List (AI×D)},AV C I α vs ds->AV C I α ws es->AV C I α (vs++ws) (ds++es):=by
 intro _ _ _ _ h s;cases h with
 |nil=>
  show s
 |cons r t=>
  show .cons r (AV.app t s)
theorem AW.app:∀{vs ws:List (List AI×V)}{ds es:List (List AI×D)},AW C I α vs ds->AW C I α ws es->AW C I α (vs++ws) (ds++es):=by
 intro _ _ _ _ h s;cases h with
 |nil=>
  show s
 |cons r t=>
  show .cons r (AW.app t s)
theorem AV.mapPut(r:AN C I α v d):∀{vs:List ((AI)×V)}{ds:List ((AI)×D)},AV C I α vs ds->AV C I α (vs.map λh=>if h.1=k then(h.1,v)else h) (ds.map λh=>if h.1=k then(h.1,d)else h)
 |_,_,.nil=>.nil
 |_,_,.cons (k:=k') a b=>by
  rw[Jm,Jm]
  by_cases e:k'=k
  .simp only[e,if_true];show .cons r (AV.mapPut r b)
  .simp only[e,if_false];show .cons a (AV.mapPut r b)
def AV.put{k:AI}{v:V}{d:D}{vs:List ((AI)×V)}{ds:List ((AI)×D)}(h:AV C I α vs ds)(r:AN C I α v d):AV C I α (A4 vs k v) (putD ds k d):=by
 unfold A4 putD;rw[h.any]
 split
 .show AV.mapPut r h
 .show h.app (.cons r .nil)
theorem AW.mapPut(r:AN C I α v d):∀{vs:List ((List AI)×V)}{ds:List ((List AI)×D)},AW C I α vs ds->AW C I α (vs.map λh=>if h.1=k then(h.1,v)else h) (ds.map λh=>if h.1=k then(h.1,d)else h)
 |_,_,.nil=>.nil
 |_,_,.cons (k:=k') a b=>by
  rw[Jm,Jm]
  by_cases e:k'=k
  .simp only[e,if_true];show .cons r (AW.mapPut r b)
  .simp only[e,if_false];show .cons a (AW.mapPut r b)
def AW.put{k:List AI}{v:V}{d:D}{vs:List ((List AI)×V)}{ds:List ((List AI)×D)}(h:AW C I α vs ds)(r:AN C I α v d):AW C I α (A4 vs k v) (putD ds k d):=by
 unfold A4 putD;rw[h.any]
 split
 .show AW.mapPut r h
 .show h.app (.cons r .nil)
def NH(M:AC):D->Option (List (AI×D))
 |.dct kvs=>some kvs
 |.cell k=>match M[k]? with|some (.dct kvs)=>some kvs|some (.drK kvs)=>some kvs|some (.dfK _ _ kvs)=>some kvs|_=>none
 |_=>none
def KA(M:AC):D->Option (List (List AI×D))
 |.dcT kvs=>some kvs
 |.cell k=>match M[k]? with|some (.dcT kvs)=>some kvs|some (.drT kvs)=>some kvs|_=>none
 |_=>none
theorem uH{kvs:List (AI×D)}(R:AR C Z I α H M)(r:AN C I α v d)(h:NH M d=some kvs):∃a vs,v=.ref a/\Rd H a (.dK vs)/\AV C I α vs kvs:=by
 cases r with
 |dct e r=>cases h;show{_,·,.inl (R.sub _ _ e),r}
 | @cell a k e =>
  unfold NH at h;cases hm:M[k]? with
  |none=>simp only[hm]at h;cases h
  |some m =>
   cases m with
   |dct es=>simp only[hm]at h;cases h;let{vs,e1,r}:=(R.cel k a _ e hm).1;show{_,·,.inl e1,r}
   |drK es=>simp only[hm]at h;cases h;let{vs,e1,r}:=(R.cel k a _ e hm).1;show{_,·,e1,r}
   |dfK o vs es=>simp only[hm]at h;cases h;let{e1,r}:=(R.cel k a _ e hm).1;show{_,·,.inr {o,e1},r}
   |_=>simp only[hm]at h;cases h
 |_=>cases h
theorem Zwl{kvs:List (List AI×D)}(R:AR C Z I α H M)(r:AN C I α v d)(h:KA M d=some kvs):∃a vs,v=.ref a/\Rd H a (.dT vs)/\AW C I α vs kvs:=by
 cases r with
 |dcT e r=>cases h;show{_,·,.inl (R.sub _ _ e),r}
 | @cell a k e =>
  unfold KA at h;cases hm:M[k]? with
  |none=>simp only[hm]at h;cases h
  |some m =>
   cases m with
   |dcT es=>simp only[hm]at h;cases h;let{vs,e1,r}:=(R.cel k a _ e hm).1;show{_,·,.inl e1,r}
   |drT es=>simp only[hm]at h;cases h;let{vs,e1,r}:=(R.cel k a _ e hm).1;show{_,·,e1,r}
   |_=>simp only[hm]at h;cases h
 |_=>cases h
def dGet(M:AC)(d e:D)(o:Option D):Prop:=(∃kvs k,NH M d=some kvs/\EU e=some k/\o=Ar kvs k)\/∃kvs k,KA M d=some kvs/\tkOf e=some k/\o=Ar kvs k
def aN{v w:V}{d e:D}{o:Option D}(R:AR C Z I α H M)(J:AN C I α v d)(G:AN C I α w e)(h:dGet M d e o):∃a o',v=.ref a/\IsD H a/\DGet H a w o'/\((o=none/\o'=none)\/∃x y,o=some x/\o'=some y/\AN C I α y x):=by
 rcases h with⟨kvs,k,e1,e2,rfl⟩|⟨kvs,k,e1,e2,rfl⟩
 .let⟨a,vs,rfl,ea,B⟩:=uH R J e1;exists a,AX vs k,W,.inl {vs,ea},by rw[Pc G e2];show .inl {vs,k,ea,W,W},?_;rcases B.val (k:=k)with⟨h1,h2⟩|⟨x,y,h1,h2,h3⟩
  .show .inl {h1,h2}
  .show .inr {x,y,h1,h2,h3}
 .let⟨a,vs,rfl,ea,B⟩:=Zwl R J e1;cases G with
  | @tup b bs ds eb rb =>
   let O:H b=some (.tup (k.map kV)):=by rw[<-Rq rb e2];show R.sub _ _ eb
   show{a,AX vs k,W,.inr {vs,ea},.inr {vs,k,b,ea,W,O,W},?_};rcases B.val (k:=k)with⟨h1,h2⟩|⟨x,y,h1,h2,h3⟩
   .show .inl {h1,h2}
   .show .inr {x,y,h1,h2,h3}
  |_=>cases e2
end
inductive uDGet_2(K:K3)(d:D)(e:D)(M2:AC):Prop
 |mk:∀v,dGet M2 d e (some v)->K v M2->uDGet_2 K d e M2
abbrev Zp3(ub:AQ)(ρ:Ev)(K:K3):D->AC->Prop:=λd M1=>ub ρ M1 (uDGet_2 K d)
def mK(ua ub:AQ):AQ:=λρ M K=>ua ρ M (Zp3 ub ρ K)
def UY(ha:AE C Z ta ua)(hb:AE C Z tb ub):AE C Z (TK ta tb) (mK ua ub):=λI α σ H ρ M K Q R E h k =>
 ha I α σ H ρ M _ _ R E h λv d I1 G H1 M1 O Y R1 r1 h1 =>
  hb I1 G σ H1 ρ M1 _ _ R1 (E.mono O Y) h1 λw e I2 B H2 M2 J p2 R2 r2 h2=>by
   let{x,g,h2}:=h2;let{a,o',rfl,_,g2,z}:=aN R2 (r1.mono J p2) r2 g;rcases z with⟨z,_⟩|⟨x',y,z1,z2,z3⟩
   .cases z
   .cases z1;subst z2;show{a,y,W,g2,k _ _ I2 B H2 M2 (O.trans J) (Y.trans p2) R2 z3 h2}
inductive uDIn_2(K:K3)(e:D)(d:D)(M2:AC):Prop
 |mk:∀o,dGet M2 d e o->K (.bl o.isSome) M2->uDIn_2 K e d M2
abbrev uZ(ua:AQ)(ρ:Ev)(K:K3):D->AC->Prop:=λe M1=>ua ρ M1 (uDIn_2 K e)
def uDIn(ub ua:AQ):AQ:=λρ M K=>ub ρ M (uZ ua ρ K)
def vX(hb:AE C Z tb ub)(ha:AE C Z ta ua):AE C Z (tDIn tb ta) (uDIn ub ua):=λI α σ H ρ M K Q R E h k =>
 hb I α σ H ρ M _ _ R E h λw e I1 G H1 M1 O Y R1 r1 h1 =>
  ha I1 G σ H1 ρ M1 _ _ R1 (E.mono O Y) h1 λv d I2 B H2 M2 J p2 R2 r2 h2=>by
   let{o,g,h2}:=h2;let{a,o',rfl,_,g2,z}:=aN R2 r2 (r1.mono J p2) g;let eo:o'.isSome=o.isSome:=by
    rcases z with⟨rfl,rfl⟩|⟨x',y,rfl,rfl,_⟩<;>rfl
   show{a,o',W,g2,by rw[eo];show k _ _ I2 B H2 M2 (O.trans J) (Y.trans p2) R2 (.bl _) h2}
def mB:AQ:=λ_ M K=>K (.cell M.length) (M++[.dcT []])
def zV:AE C Z bV mB:=λI α σ H ρ M K Q R E h k p B=>by
 let{R2,p2,e2}:=R.cell (o:=.dT []) (m:=.dcT []) B λH' e=>{[],e,.nil};show k _ _ I _ _ _ (.refl _) p2 R2 (.cell e2) h
def dPut(M:AC)(d e v:D)(h:AC):Prop:=(∃j kvs k,d=.cell j/\M[j]?=some (.dct kvs)/\EU e=some k/\kvs.length<Cb/\h=M.set j (.dct (putD kvs k v))) \/
 ∃j kvs k,d=.cell j/\M[j]?=some (.dcT kvs)/\tkOf e=some k/\kvs.length<Cb/\h=M.set j (.dcT (putD kvs k v))
inductive uDPut_3(E:AT)(ρ:Ev)(v:D)(d:D)(e:D)(M3:AC):Prop
 |mk:∀M4,dPut M3 d e v M4->E.nx ρ M4->uDPut_3 E ρ v d e M3
abbrev vH(ub:AQ)(E:AT)(ρ:Ev)(v:D):D->AC->Prop:=λd M2=>ub ρ M2 (uDPut_3 E ρ v d)
abbrev jV(ua:AQ)(ub:AQ)(E:AT)(ρ:Ev):D->AC->Prop:=λv M1=>ua ρ M1 (vH ub E ρ v)
def vJ(ua ub uc:AQ):BW:=λE ρ M=>uc ρ M (jV ua ub E ρ)
def vK(ha:AE C Z ta ua)(hb:AE C Z tb ub)(hc:AE C Z tc uc):A8 C Z (YM ta tb tc) (vJ ua ub uc):=λI α σ H ρ M E D' R RE h F =>
 hc I α σ H ρ M _ _ R RE h λv d0 I1 a2 H1 M1 Y p1 R1 r1 h1=>ha I1 a2 σ H1 ρ M1 _ _ R1 (RE.mono Y p1) h1 λx d I2 a1 H2 M2 O p2 R2 r2 h2 =>
  hb I2 a1 σ H2 ρ M2 _ _ R2 (RE.mono (Y.trans O) (p1.trans p2)) h2 λy e I3 J H3 M3 B G R3 r3 h3=>by
   let{M4,g,h3}:=h3;let rv:=r1.mono (O.trans B) (p2.trans G);let a0:=RE.mono (Y.trans (O.trans B)) (p1.trans (p2.trans G));rcases g with⟨j,kvs,kk,rfl,e1,e2,hl,rfl⟩|⟨j,kvs,kk,rfl,e1,e2,hl,rfl⟩
   .let⟨a,rfl,ec⟩:=(r2.mono B G).inv;let{vs,ea,ra}:=(R3.cel j a _ ec e1).1;exists a,·,by rw[Pc r3 e2];show DPut.k ea (by rwa[ra.len]),?_;show F.nx I3 J σ _ ρ _ (Y.trans (O.trans B)) (p1.trans (p2.trans G)) (R3.put (m:=.dct (putD kvs kk d0)) ec λH' e=>{_,e,ra.put rv}) a0 h3
   .let⟨a,rfl,ec⟩:=(r2.mono B G).inv;let{vs,ea,ra}:=(R3.cel j a _ ec e1).1;cases r3 with
    | @tup b bs ds eb rb =>
     let hb:H3 b=some (.tup (kk.map kV)):=by rw[<-Rq rb e2];show R3.sub _ _ eb
     show{a,·,DPut.t ea hb (by rwa[ra.len]),?_};show F.nx I3 J σ _ ρ _ (Y.trans (O.trans B)) (p1.trans (p2.trans G)) (R3.put (m:=.dcT (putD kvs kk d0)) ec λH' e=>{_,e,ra.put rv}) a0 h3
    |_=>cases e2
abbrev noF(m:Str):Prop:=∀a b c d e:V,Kz m [("pairs",a),("words_by_sign",b),("signs_by_word",c),("begun",d),("word_sizes",e)]=none
abbrev Zli(sp:DD)(K:K3)(d:D):List D->AC->Prop:=λds M2=>sp (d::ds) M2 K
abbrev jY(sp:DD)(u:CA)(ρ:Ev)(K:K3):D->AC->Prop:=λd M1=>(∃S,d=.code S)/\u ρ M1 (Zli sp K d)
def yR(sp:DD)(ua:AQ)(u:CA):AQ:=λρ M K=>ua ρ M (jY sp u ρ K)
def Q1{m:Str}{sp:DD}(hm:noF m)(ha:AE C Z ta ua)(hr:Ap C Z t u):AE C Z (FM C.c m (AH C sp) [] E0 ta t) (yR sp ua u):=λI α σ H ρ M K Q R E h k =>
 ha I α σ H ρ M _ _ R E h λv d I1 G H1 M1 O Y R1 r1 h1=>by
  let{{S,rfl},h1}:=h1;cases r1 with
  | @code x _ hc =>
   let{dx,tp,d1,d2,d3,d4,ex,ci}:=hc;show{x,dx,·,R1.sub _ _ ex,hm _ _ _ _ _,?_};show hr I1 G σ H1 ρ M1 _ _ R1 (E.mono O Y) h1 λvs ds I2 B H2 M2 J p2 R2 r2 h2=>?_;rw[Jx];show{Z,I2,B,M2,_,K,R2,.cons (.code (Tq.same {dx,tp,d1,d2,d3,d4,ex,ci} J)) r2,h2,k.mono (O.trans J) (Y.trans p2)}
def CY.imp{dC:Heap}{C:Addr}{m:Str}{k:Nat}{sp:Sp}(c:CY P w K mg dC C m k ps sp)(h:∀vs H Q E,sp' vs H Q E->sp vs H Q E):CY P w K mg dC C m k ps sp' :=
 let{f,fd,a,b,e,d}:=c
 {f,fd,a,b,e.imp h,d}
def AR.made{k0:Nat}{x:Addr}{q:Str}(R:AR C Z I α H M)(J:M[k0]?=some (.tab Pt dF q))(nx:H x=none)(tb:EA Pt dF q H')(g:∀b o,b≠x->b≠Pt->H b=some o->H' b=some o) :
  ∃I',AL I I'/\AR C Z I' α H' M/\∀b o,H' b=some o->b∉α->I' b=some o:=by
 let{P',eP,{rfl,a3,e0,_},iP}:=R.get J;let a0:∀b,b∈α->b≠x:=λb Y=>by
  let{k,J,rfl}:=Ge Y;show R.cellNe (Jb J) nx
 let hI:∀b o,I b=some o->b∉α:=λb o e Y=>by
  let{k,J,rfl}:=Ge Y;let a1:k<M.length:=by rw[<-R.len];show J
  rw[(R.cel k _ _ (Jb J) (Jb a1)).2]at e;cases e
 let hS:∀b o,I b=some o->H' b=some o:=λb o e=>g b o (λz=>by rw[z,R.sub.free nx]at e;cases e) (λz=>by rw[z,iP]at e;cases e) (R.sub b o e);let s:AL I (λb=>if b∈α then none else H' b):=λb o e=>by
  show(if b∈α then none else H' b)=some o;rw[D8 (hI b o e)];show hS b o e
 let hc:∀(k:Nat)(a:Addr)(m:MO),k≠k0->α[k]?=some a->M[k]?=some m->H' a=H a:=λk a m ne h1 h2=>by
  let{o,eo}:=(R.cel k a m h1 h2).1.some;let n2:a≠P':=λz=>by
   let{hj,ej}:=Jd.mp h1;let{J,ek}:=Jd.mp eP;rw[<-ej,<-ek]at z;show ne ((Bf R.nd).mp z)
  show(g a o (a0 a (G3 h1)) n2 eo).trans eo.symm
 exists _,s,{R.ai.trans s,R.aa,λb o e=>?_,R.len,R.nd,λk a m h1 h2=>?_},λb o e Y=>?_
 .let e':(if b∈α then none else H' b)=some o:=e
  split at e'
  .cases e'
  .show e'
 .show{?_,by show(if a∈α then none else H' a)=none;rw[D9 (G3 h1)]}
  by_cases ne:k=k0
  .subst ne;rw[eP]at h1;cases h1;rw[J]at h2;cases h2;let{ps,e1,t1,z}:=tb;show{W,ps,e1,t1,?_};rcases z with z|⟨c,z1,z2⟩
   .show .inl z
   .show .inr {c,z1,?_};show(if c∈α then none else H' c)=_;rw[D8,z2];intro O;let{j,hj,ec}:=Ge O;let a2:j<M.length:=by rwa[<-R.len]
    let h1:=Jb hj;let h2:=Jb a2;rw[ec]at h1
    by_cases nj:j=k
    .subst nj;rw[eP]at h1;cases h1;rw[e1]at z2;cases z2
    .let B:=hc j c _ nj h1 h2;let G:=(R.cel j c _ h1 h2).1;rw[z2]at B;cases hm:M[j]with
     |lst ds=>rw[hm]at G;let{vs,e,_}:=G;rw[e]at B;cases B
     |dct ds=>rw[hm]at G;let{vs,e,_}:=G;rw[e]at B;cases B
     |dcT ds=>rw[hm]at G;let{vs,e,_}:=G;rw[e]at B;cases B
     |drK ds=>rw[hm]at G;let{vs,e,_}:=G;rcases e with e|⟨o,e⟩<;>(rw[e]at B;cases B)
     |drT ds=>rw[hm]at G;let{vs,e,_}:=G;rcases e with e|⟨o,e⟩<;>(rw[e]at B;cases B)
     |dfT o vs ds=>rw[hm]at G;rw[G.1]at B;cases B
     |dfK o vs ds=>rw[hm]at G;rw[G.1]at B;cases B
     |ins Cl fs=>rw[hm]at G;let{dx,vs,e,_}:=G;rw[e]at B;cases B
     |hand=>rw[hm]at G;let{d,k,c,cs,e,_}:=G;rw[e]at B;cases B
     |tab P dF q=>rw[hm]at G;let{_,ps,e,_}:=G;rw[e]at B;cases B
     |dcN sh z ds =>
      rw[hm]at G;cases z with
      |none =>
       let{vs,e,_}:=G;rw[e]at B;show CC.ne {.none,none,.fields #[.none,.str q default],#[]} W (λh g=>{c,_,_,_,W,g,W,W}) (HO.ext.inj (BG B)).symm
      |some z=>rw[G.1]at B;cases B
  .show(R.cel k a m h1 h2).1.mono s (Jn _) (hc k a m ne h1 h2)
 .show(if b∈α then none else H' b)=some o;rwa[D8 Y]
def Zpx(Pt:Addr)(dF:Pos)(q:Str)(u:CA):AQ:=λρ M K=>u ρ M λds M1=>∃(h:Nat)(d:D)(L:List Pr),M1[h]?=some (.tab Pt dF q)/\ds=[d]/\AO M1 d=some (L.map pD)/\(AU L/\A6 L)/\∀S:List Pr,S.Perm L->IA S->K (.code S) M1
end
def SJ:MO->Option D
 |.lst xs=>some (.lst xs)
 |.dct kvs=>some (.dct kvs)
 |.dcT kvs=>some (.dcT kvs)
 |_=>none
def frzK(n0:Nat)(K:K3):K3:=λd h=>∃m d',d=.cell n0/\h.length=n0+1/\h[n0]?=some m/\SJ m=some d'/\(∀m∈h,Xp n0 m)/\K d' (h.take n0)
theorem wC{C:Cf}{a:Addr}{d:D}(h:BR C I α H a m)(e:SJ m=some d)(ia:I a=none):∃o,H a=some o/\AN C (upd I a o) α (.ref a) d:=by
 let B:=Jn α;cases m with
 |lst ds=>cases e;let{vs,e,r}:=h;show{_,e,.lst Zw (r.mono (Wc ia) B)}
 |dct ds=>cases e;let{vs,e,r}:=h;show{_,e,.dct Zw (r.mono (Wc ia) B)}
 |dcT ds=>cases e;let{vs,e,r}:=h;show{_,e,.dcT Zw (r.mono (Wc ia) B)}
 |_=>cases e
theorem Fin.frz{C:Cf}{Z:CP}{I:Hp}{α:List Addr}{K:K3}{Q:VK}(k:Fin C Z I α K Q){n0:Nat}(hn:α.length=n0)(Y:Z.a<+:α):Fin C Z I α (frzK n0 K) Q:=λv d I' α' H' M' s p R r h=>by
 let{m,d',rfl,hl,e,ed,hm,h}:=h;let{a,rfl,ec}:=r.inv;let{mo,ia}:=R.cel n0 a _ ec e;let O:=hm m (G3 e) _ _ _ _ _ mo;let{o,ea,ra}:=wC O ed ia;let B:=R.take n0 (by have:=Y.length_le;lia) λx hx=>hm x (Gv hx);let an:a∉α'.take n0:=λY=>by
  let{j,hj,ej}:=Ge Y;rw[Ga]at hj;rw[Br]at ej;let{a0,en}:=Jd.mp ec;rw[<-en]at ej;let:=(Bf R.nd).mp ej;lia
 let J:AL I' (upd I' a o):=Wc ia;let R2:AR C Z (upd I' a o) (α'.take n0) H' (M'.take n0):=by
  exists B.ai.trans J,B.aa,λb u G=>?_,B.len,B.nd,λk b m h1 h2=>?_
  .by_cases z:b=a
   .subst z;rw[Zw]at G;cases G;show ea
   .rw[Zq z]at G;show B.sub b u G
  .let⟨a1,a2⟩:=B.cel k b m h1 h2;let ne:b≠a:=λz=>an (z ▸ G3 h1);show{a1.mono J (Jn _) W,by rwa[Zq ne]}
 show k _ _ _ (α'.take n0) H' _ (s.trans J) (Sy p ()) R2 ra h
def uFrz(u:AQ):AQ:=λρ M K=>u ρ M (frzK M.length K)
def Ie{C:Cf}{t:TE}{u:AQ}(h:AE C Z t u):AE C Z t (uFrz u):=λI α σ H ρ M K Q R E B k=>h I α σ H ρ M _ _ R E B (k.frz R.len R.aa)
def Yl :(M++[m])[M.length]?=some m:=by simp
def Xj :(M++[m]).set M.length m'=M++[m']:=by simp
def dB(K:Cq)(Pt:Addr)(dF:Pos)(q:Str):Sp:=λvs H Q _=>∃(a:Addr)(ns:List Int),vs=[.ref a]/\Ad K H a (ns.map V.int)/\ns.length<=63/\EA Pt dF q H/\∀H',Q (.bl true) H'
inductive dLawT(Pt:Addr)(dF:Pos)(q:Str)(ds:List D)(M:AC)(K:K3):Prop
 |mk:∀ns:List Int,ds=[.frz (ns.map .int)]->(M=[.tab Pt dF q]/\ns.length<=63/\∀M',K (.bl true) M')->dLawT Pt dF q ds M K
def qO{C:Cf}{q:Str}{E:XK}(h:dB C.k Pt dF q vs H Q E):AH C (dLawT Pt dF q) vs H Q E:=by
 let{a,ns,rfl,B,hl,{ps,G,O,cp},k}:=h;let Y:AL (λb=>if b=Pt then none else H b) H:=λb o e=>by
  let J:(if b=Pt then none else H b)=some o:=e
  split at J
  .cases J
  .show J
 exists{λ_=>none,[],λ_ _ _=>False,λ_ _ _=>False},λb=>if b=Pt then none else H b,[Pt],[.tab Pt dF q],[.frz (ns.map .int)],λd _=>d=.bl true,{(λ_ _ h=>nomatch h),List.nil_prefix,Y,W,by simp,λZ a' m h1 h2=>?_},?_,{ns,W,W,hl,λ_=>rfl},λv d I' α' H' M' s p R r h=>?_
 .cases Z with
  |succ n=>simp at h1
  |zero =>
   simp at h1 h2;subst h1;subst h2;exists{W,ps,G,O,?_},D9 W;rcases cp with z|⟨c,z1,z2⟩
   .show .inl z
   .show .inr {c,z1,by
     show(if c=Pt then none else H c)=_;rwa[D8 (FC z2 G λz=>by cases z)]}
 .show .one (.frz ?_ (.ints ns));rcases B with(B|⟨o,B⟩)|B
  .show .inl (.inl (by
    show(if a=Pt then none else H a)=_;rw[D8 (FC B G λz=>by cases z)];show B))
  .show .inl (.inr {o,by
    show(if a=Pt then none else H a)=_;rw[D8 (FC B G λz=>by cases z)];show B})
  .show .inr B
 .subst h;cases r.inv;show k H'
def S5(h:(ns.map D.int)[i]?=some x):∃hi:i<ns.length,x=.int ns[i]:=by
 let{hi,e}:=Jd.mp h;rw[Ja]at hi;show{hi,?_};rw[<-e,Bc]
def Z7{f:τ->D}{as:List τ}{i:Nat}{x:D}(h:(as.map f)[i]?=some x):∃hi:i<as.length,x=f as[i]:=by
 let{hi,e}:=Jd.mp h;rw[Ja]at hi;show{hi,by rw[<-e,Bc]}
def Yj{f:τ->D}{as:List τ}{i:Int}(h:i=j)(B:j<as.length):L2.atI (as.map f) i=some (f as[j]):=by
 subst h;show IS (by rw[Gi,Jb B];rfl)
def Vw :AO (M++[.lst xs]) (.cell M.length)=some xs:=by simp[AO]
def Qp :Y8 (M++[.lst xs]) (.cell M.length)=some xs:=by simp[Y8]
def Wo(h:AO M d=some xs):AO M d≠none:=by rw[h];show λz=>nomatch z
def Sc{B:AC}{d:D}{K:K3}(p:M<+:B)(J:WfM M)(G:Ym M.length d)(h:K d M):Dk M.length K d B:=by
 let{t,rfl}:=p;show .inr {M.length,Jk _,G,by rw[Be];show J,by rwa[Be]}
def N1  :Ym n (.lst (ns.map .int)):=S9 (W4 (λ_=>Vp) ns)
end L3
variable{M:L3.AC}{Z Z':L3.CP}{m:L3.MO}{ds xs:List L3.D}{ρ:L3.Ev}{ua ub uo ue:L3.AQ}{ui:L3.TI3}
namespace L3
def xB{E:AQ}{ug:TG3}{u':BW}{En:AT}(S:D->AC->Prop)(h1:∀K:K3,(∀d h,S d h->K d h)->E ρ M K)(h2:∀d h,S d h->ug d ρ h (u' En)):uSeq (uAsg E ug) u' En ρ M:=h1 _ h2
def g_nx{i:Nat}{d:D}{K:Ev->AC->Prop}(h:K (ρ.set i (some d)) M):uG i d ρ M K:=h
end L3
namespace L3
open PySem L2
def FinX(C:Cf)(Z:CP):Prop:=∀B d vs fs I' α' H' h,AR C Z I' α' H' h->XD I' d vs->As C I' α' vs fs->Z.kx B fs h->Z.xe (.ref B) d H'
abbrev Sp3X:=List D->AC->K3->X3->Prop
def ET(C:Cf)(sp:Sp3X):Sp:=λvs H Q E=>∃Z I α M ds K B,AR C Z I α H M/\AA C I α vs ds/\sp ds M K B/\Fin C Z I α K Q /\
 ∀G d vs fs I' α' H' h,AL I I'->α<+:α'->AR C Z I' α' H' h->XD I' d vs->As C I' α' vs fs->B G fs h->E (.ref G) d H'
section
variable{C:Cf}{t:TA}{u:CA}
def AR.re(h:AR C Z' I' α' H' M')(R:AR C Z I α H M)(s:AL I I')(p:α<+:α'):AR C Z I' α' H' M':={R.ai.trans s,R.aa.trans p,h.sub,h.len,h.nd,h.cel}
def AR.here(R:AR C Z I α H M)(E:XK)(k:X3):AR C {I,α,E,k} I α H M:={.refl _,Jn _,R.sub,R.len,R.nd,R.cel}
def Fin.re{K:K3}(k:Fin C Z I α K Q)(R:AR C Z I α H M):Fin C Z' I α K Q:=λv d I' α' H' G s p B r h=>k v d I' α' H' G s p (B.re R s p) r h
def BZ.re{K:Ev->AC->Prop}{Q:St->Hp->Prop}(k:BZ C Z I α K Q)(R:AR C Z I α H M):BZ C Z' I α K Q:=λI' α' B H' G O s p J E h=>k I' α' B H' G O s p (J.re R s p) E h
def FinD.re{E:AT}{h:Ends}(k:FinD C Z I α E h)(R:AR C Z I α H M):FinD C Z' I α E h:={k.nx.re R,k.rt.re R,k.bk.re R,k.ct.re R}
abbrev xD(sp:Sp3X)(h:X3)(K:K3):List D->AC->Prop:=λds M1=>sp ds M1 K h
def rO(sp:Sp3X)(h:X3)(u:CA):AQ:=λρ M K=>u ρ M (xD sp h K)
def cG{sp:Sp3X}{E:XK}{G:X3}(he:Z.xe=E)(hk:Z.kx=G)(hx:FinX C Z)(ha:Ap C Z t u):AE C Z (GV (ET C sp) [] E t) (rO sp G u):=λI α σ H ρ M K Q R RE h k =>
 ha I α σ H ρ M _ _ R RE h λvs ds I1 B H1 M1 J Y R1 O h1=>by
  subst he hk;rw[Jx];exists Z,I1,B,M1,ds,K,Z.kx,R1,O,h1,k.mono J Y,λCe d vs fs I' α' H' M' s p R' e f g=>hx Ce d vs fs I' α' H' M' R' e f g
def CalE.calm3{dC:Heap}(c:CalE P w K mg dC x k ps (ET C sp)):Aq P w K mg dC x k ps (AH C λds M K=>sp ds M K λ_ _ _=>False) :=
 L2.CalE.calm c λvs H Q E h=>by
  let{Z,I,α,M,ds,K,R,r,h,k}:=h;exists Z,I,α,M,ds,K,_,R,r,h,k,λ_ _ _ _ _ _ _ _ _ _ _ _ _ z=>z.elim
inductive uRaise1_1(Cx:Addr)(f:Str)(kx:X3)(ds:List D)(M1:AC):Prop
 |mk:∀d,ds=[d]->kx Cx [(f,d)] M1->uRaise1_1 Cx f kx ds M1
def lM(Cx:Addr)(f:Str)(h:X3)(u:CA):BW:=λ_y0 ρ M=>u ρ M (uRaise1_1 Cx f h)
def uI{Cx:Addr}{f:Str}{E:XK}{kx:X3}(he:Z.xe=E)(hk:Z.kx=kx)(hx:FinX C Z)(ha:Ap C Z t u):A8 C Z (OV Cx (spX1 Cx f) E t) (lM Cx f kx u):=λI α σ H ρ M E3 D' R RE h F =>
 ha I α σ H ρ M _ _ R RE h λvs ds I1 J H1 M1 s1 p1 R1 O h1=>by
  subst he hk;let{d0,rfl,h1}:=h1;show AA.e1 O λ_ O=>?_
  rename_i y
  exists by simp,λea a0=>{ea,y,W,Zw,λd hd B=>{W,d,?_,?_}}
  .rw[Zq (Et B),Zw]
  .let G:H1 d=none:=by rw[Zq B]at hd;show hd
   let sH:AL H1 (upd (upd (upd (upd H1 ea (.ext (BL ea Cx none))) ea (.ext (BL ea Cx (some d)))) d (.ext (xdP d [(f,y)]))) ea (.ext (Ac ea Cx (some d)))):=λb o e=>by
    let Y:b≠ea:=Z8 e a0;let n2:b≠d:=Z8 e G;rwa[Zq Y,Zq n2,Zq Y,Zq Y]
   let{I',s',R',fl}:=(R1.same sH).full;show hx Cx (some d) [(f,y)] [(f,d0)] I' J _ M1 R' (fl d _ ?_ (R1.out G)) (.cons (O.mono s' (Jn _)) .nil) h1;rw[Zq B,Zw]
abbrev TH3:=Addr->List (Str×D)->BW
def SimH(C:Cf)(Z:CP)(th:TH)(B:TH3):Prop:=∀I α σ H ρ M(E:AT)(h:Ends)Ce d ea fs vs,AR C Z I α H M->A1 C I α σ ρ->I ea=some (.ext (Ac ea Ce d))->XD I d vs->As C I α vs fs->B Ce fs E ρ M->FinD C Z I α E h->th Ce d ea h σ H
def Zxe:TH3:=λ_ _ _ _ _=>False
def SO:SimH C Z aW Zxe:=λ_ _ _ _ _ _ _ _ _ _ _ _ _ _ _ _ _ _ h _=>h.elim
def off3(i:Nat)(E:AT):AT:={nx:=λρ M=>E.nx (ρ.set i none) M,rt:=E.rt,bk:=λρ M=>E.bk (ρ.set i none) M,ct:=λρ M=>E.ct (ρ.set i none) M}
theorem A1.unset(h:A1 C I α σ ρ)(i:Nat):A1 C I α (σ.set i none) (ρ.set i none):=by
 exists by rw[Gz,Gz];show h.1,λj e q=>?_
 by_cases z:i=j
 .subst z
  by_cases hl:i < ρ.length
  .rw[Gw hl]at q;cases q
  .rw[Bk (by rw[Gz];lia)]at q;cases q
 .rw[G2 z]at q⊢;show h.2 j e q
def BZ.off{K:Ev->AC->Prop}{Q:St->Hp->Prop}(k:BZ C Z I α K Q)(i:Nat):BZ C Z I α (λρ M=>K (ρ.set i none) M) (λσ H=>Q (σ.set i none) H):=λI' α' B H' G J s p R E h=>k I' α' _ H' _ J s p R (E.unset i) h
def FinD.off{E:AT}{h:Ends}(k:FinD C Z I α E h)(i:Nat):FinD C Z I α (off3 i E) (offD i h):={k.nx.off i,k.rt,k.bk.off i,k.ct.off i}
variable{ts:TS}{us:BW}{thr:TH}{ur:TH3}
def uhAs(K:Cq)(Dc:Addr)(i:Nat)(us:BW)(ur:TH3):TH3:=λh fs E ρ M=>∃b,Mm K h (.ref Dc)=some b/\if b=true then us (off3 i E) (ρ.set i (some (.exc h fs))) M else ur h fs E ρ M
theorem bS(hs:A8 C Z ts us)(J:SimH C Z thr ur):SimH C Z (thAs K Dc i ts thr) (uhAs K Dc i us ur):=λI α σ H ρ M E Y Ce d ea fs vs R G e1 e2 B h F=>by
 let{b,O,h}:=h;show{b,O,?_};cases b with
 |true =>
  show hs I α _ H _ M _ _ R (G.set (.exc e1 e2 B) i) h (F.off i)
 |false =>
  show J I α σ H ρ M E Y Ce d ea fs vs R G e1 e2 B h F
def uTry(ub:X3->BW)(h:TH3):BW:=λE ρ M=>ub (λG fs B=>h G fs E ρ B) E ρ M
theorem AR.extOut(R:AR C Z I α H M)(h:H l=some (.ext (Ac l Ce d))):l∉α:=λhl=>by
 let{k,G,rfl}:=Ge hl;let B:k<M.length:=by rw[<-R.len];show G
 let:=(R.cel k _ _ (Jb G) (Jb B)).1;cases hm:M[k]with
 |lst ds=>rw[hm]at this;let{vs,e,_}:=this;rw[h]at e;cases e
 |dct ds=>rw[hm]at this;let{vs,e,_}:=this;rw[h]at e;cases e
 |dcT ds=>rw[hm]at this;let{vs,e,_}:=this;rw[h]at e;cases e
 |drK ds=>rw[hm]at this;let{vs,e,_}:=this;rcases e with e|⟨o,e⟩<;>(rw[h]at e;cases e)
 |drT ds=>rw[hm]at this;let{vs,e,_}:=this;rcases e with e|⟨o,e⟩<;>(rw[h]at e;cases e)
 |dfT o vs ds=>rw[hm]at this;let e:=this.1;rw[h]at e;cases e
 |dfK o vs ds=>rw[hm]at this;let e:=this.1;rw[h]at e;cases e
 |ins Cl fs=>rw[hm]at this;let{dx,vs,e,_}:=this;rw[h]at e;cases e
 |hand=>rw[hm]at this;let{d,k,c,cs,e,_}:=this;rw[h]at e;cases e
 |tab P dF q=>rw[hm]at this;let{_,ps,e,_}:=this;rw[h]at e;cases e
 |dcN sh z ds =>
  rw[hm]at this;cases z with
  |none =>
   let{vs,e,_}:=this;rw[h]at e;show CC.ne {.ref Ce,d,.fields (Array.replicate 6 .none),#[]} W (λh g=>{_,_,g,W,W,W,by simp}) (HO.ext.inj (BG e)).symm
  |some z=>have e:=this.1;rw[h]at e;cases e
def cQ{tb:XK->TS}{ub:X3->BW}(hb:∀(E:XK)(O:X3)(Z:CP),Z.xe=E->Z.kx=O->FinX C Z->A8 C Z (tb E) (ub O))(hh:SimH C Z th uh):A8 C Z (tTry tb th) (uTry ub uh):=λI α σ H ρ M E D' R Y h F=>by
 show hb _ _ {I,α,_,_} W W ?_ I α σ H ρ M E D' (R.here _ _) Y h (F.re R);intro Ce d vs fs I' α' H' M' B e f g;exists Ce,W,λea G=>?_;let R2:=B.re R B.ai B.aa;let{I2,J,R3,fl}:=R2.full;show hh I2 α' σ H' ρ M' E D' Ce d ea fs vs R3 (Y.mono (AL.trans B.ai J) B.aa) (fl _ _ G (R2.extOut G)) (e.mono J) (f.mono J (Jn _)) g (F.mono (AL.trans B.ai J) B.aa)
inductive isiX3(K:Cq)(ds:List D)(M:AC)(Kk:K3):Prop
 |mk:∀(Ce:Addr)(fs:List (Str×D))(c:D)(b:Bool)(fI:Addr),ds=[.exc Ce fs,c]->CZ K Ce fI->((∃T,c=.ty T/\Hu K (.ref Ce) (.type T)=some b)\/(∃D,c=.at D/\Hu K (.ref Ce) (.ref D)=some b)\/∃cs:List Addr,c=.tup (cs.map .at)/\W.kitAny K (.ref Ce) (cs.map Cd)=some b)->Kk (.bl b) M->isiX3 K ds M Kk
theorem AA.of_ats :∀{vs:List V}(cs:List Addr),AA C I α vs (cs.map D.at)->vs=cs.map V.ref
 |_,[],h=>by cases h;rfl
 |_,n::r,h=>by
  cases h with
  |cons a b =>
   cases a;rw[AA.of_ats r b];rfl
theorem Ng :BK C Z (SW K) (isiX3 K):=λI α H M xs ds Kk Q R r h k=>by
 let{O,fs,c,b,fI,rfl,G,B,h}:=h;show AA.e2 r λ_ _ Y J=>?_;cases Y with
 | @exc ea _ d vs _ e1 e2 rf =>
  let fin:=k.now R (.bl b) h;rcases B with⟨T,rfl,B⟩|⟨D,rfl,B⟩|⟨cs,rfl,B⟩
  .cases J.inv;show{_,O,fI,vs,_,b,W,G,{ea,d,W,R.sub _ _ e1,e2.mono R.sub},.inl {T,W,B},fin}
  .cases J.inv;show{_,O,fI,vs,_,b,W,G,{ea,d,W,R.sub _ _ e1,e2.mono R.sub},.inr (.inl {D,W,B}),fin}
  .cases J with
   | @tup tp us _ et rt =>
    rw[AA.of_ats cs rt]at et;show{_,O,fI,vs,_,b,W,G,{ea,d,W,R.sub _ _ e1,e2.mono R.sub},.inr (.inr {tp,cs,W,R.sub _ _ et,B}),fin}
theorem As.lookup{f:Str}:∀{vs:List (Str×V)}{ds:List (Str×D)}{d:D},As C I α vs ds->ds.lookup f=some d->∃v,vs.lookup f=some v/\AN C I α v d
 |_,_,_,.nil,h=>by cases h
 |_,_,d,.cons (k:=k) (v:=v) (d:=d') a b,h=>by
  rw[Ba]at h⊢;cases e:(f==k)with
  |true=>rw[e]at h;cases h;show{v,W,a}
  |false=>rw[e]at h;show As.lookup b h
inductive uXFld_1(K:Cq)(f:Str)(Kk:K3)(d:D)(M1:AC):Prop
 |mk:∀Ce fs fI v,d=.exc Ce fs->CZ K Ce fI->C5 K (.ref Ce) f=some none->fs.lookup f=some v->Kk v M1->uXFld_1 K f Kk d M1
def Zxf(K:Cq)(f:Str)(ua:AQ):AQ:=λρ M h=>ua ρ M (uXFld_1 K f h)
def sA{f:Str}(ha:AE C Z ta ua):AE C Z (OJ K ta f) (Zxf K f ua):=λI α σ H ρ M Kk Q R RE h k =>
 ha I α σ H ρ M _ _ R RE h λv d I1 B H1 M1 Y p1 G r1 h1=>by
  let{Ce,fs,fI,w,rfl,O,na,el,h1}:=h1;cases r1 with
  | @exc ea _ d vs _ e1 e2 rf =>
   let{v,J,rv}:=rf.lookup el;cases d with
   |none =>
    let e2:vs=[]:=e2;subst e2;cases J
   |some d=>show{ea,Ce,fI,d,vs,v,W,O,na,G.sub _ _ e1,G.sub _ _ e2,J,k _ _ I1 B H1 M1 Y p1 G rv h1}
def AY.okX3{dC:Heap}(F:AY K x dH st f fd)(S:AD N ps (Zf st))(len:∀ds M K B,sp ds M K B->ds.length=ps.length)(hbody:∀(cdv:Ca)(A:Kr)(dD:List Env)(s:Cc)(H:Hp)(E:XK),AG k (A.deeper (Ho dH (Zf st) s.heap.objs.size f cdv)) ->
   ∃(t:TS)(u:X3->BW),PSs (CV P w K mg dC N dH (Zf st) f cdv A dD s H E) (Xc st) t/\(∀(O:X3)(Z:CP),Z.xe=E->Z.kx=O->FinX C Z->A8 C Z t (u O))/\∀ds M K B,WfM M->(∀d∈ds,Ym M.length d)->sp ds M K B->u B {nx:=λ_ M'=>Dk M.length K .non M',rt:=Dk M.length K} (Nd N ds) M):AK P w K mg dC (CXE P w) (k+1) f fd ps (ET C sp):=by
 show F.okE S (λvs H Q E h=>?_) (λcdv A dD s H vs Q E hr h=>?_)
 .let⟨Z,I,α,M,ds,K,B,R,r,h,_⟩:=h;rw[r.length];show len ds M K B h
 .let⟨t,u,h1,h2,h3⟩:=hbody cdv A dD s H E hr;let{Z,I,α,M,ds,K,B,R,r,h,k,O}:=h;let G:=R.here E B;let kd:=(k.re (Z':={I,α,E,B}) R).dk G.len G.aa;show{t,h1,h2 B {I,α,E,B} W W (λCe d vs fs I' α' H' M' J e f g=>O Ce d vs fs I' α' H' M' J.ai J.aa (J.re R J.ai J.aa) e f g) I α _ H _ M _ _ G (Q2 r N) (h3 ds M K B R.wf (by rw[<-R.len];show r.bel) h) {λI1 Y a0 H1 a1 M1 s1 p1 G _ h1=>kd _ _ I1 Y H1 M1 s1 p1 G .non h1,kd,λ_ _ _ _ _ _ _ _ _ _ h=>h.elim,λ_ _ _ _ _ _ _ _ _ _ h=>h.elim}}
end
def kD:AI->D
 |.inl i=>.int i
 |.inr s=>.str s
def Uz[DecidableEq κ](kvs h:List (κ×D)):List (κ×D):=h.foldl (λa z=>putD a z.1 z.2) kvs
def QF[DecidableEq κ]  :∀{kvs:List (κ×D)},Ar (putD kvs k v) k'=if k'=k then some v else Ar kvs k':=by
 let mapped:∀kvs:List (κ×D),(kvs.any λB=>decide (B.1=k))=true->Ar (kvs.map λB=>if B.1=k then(B.1,v)else B) k'=if k'=k then some v else Ar kvs k':=by
  intro kvs
  induction kvs with
  |nil=>intro h;cases h
  |cons p r G =>
   intro h;let{a,b}:=p;rw[Jm]
   by_cases e:a=k
   .subst e;simp only[if_true];rw[Xy,Xy]
    by_cases z:a=k'
    .rw[D9 z,D9 z.symm]
    .rw[D8 z,D8 (Et z),D8 z]
     by_cases J:(r.any λB=>decide (B.1=a))=true
     .rw[G J,D8 (Et z)]
     .let:r.map (λB=>if B.1=a then(B.1,v)else B)=r:=by
       show(Bj λB O=>?_).trans (List.map_id r);let:¬ B.1=a:=λz=>J (Dl.mpr {B,O,by simpa using z});rw[D8 this];rfl
      rw[this]
   .simp only[e,if_false];rw[Xy,Xy];let J:(r.any λB=>decide (B.1=k))=true:=by simpa[e]using h
    rw[G J]
    by_cases z:a=k'
    .rw[D9 z,D8 (λq=>e (z.trans q)),D9 z]
    .rw[D8 z,D8 z]
 let none_:∀kvs:List (κ×D),¬ (kvs.any λB=>decide (B.1=k))=true->Ar (kvs++[(k,v)]) k'=if k'=k then some v else Ar kvs k':=by
  intro kvs
  induction kvs with
  |nil =>
   intro _;rw[F8,Xy]
   by_cases z:k=k'
   .rw[D9 z,D9 z.symm]
   .rw[D8 z,D8 (Et z)]
  |cons p r G =>
   intro h;let{a,b}:=p;rw[B5,Bool.or_eq_true]at h;let h1:¬ a=k:=λz=>h (.inl (by simpa using z));rw[WP,Xy,Xy,G λz=>h (.inr z)]
   by_cases z:a=k'
   .rw[D9 z,D8 (λq=>h1 (z.trans q)),D9 z]
   .rw[D8 z,D8 z]
 intro kvs;unfold putD
 split
 .show mapped kvs (by assumption)
 .show none_ kvs (by assumption)
theorem Zmj[DecidableEq κ]{k:κ}{v:D}{kvs:List (κ×D)}:(putD kvs k v).length<=kvs.length+1:=by
 unfold putD
 split
 .rw[Ja];lia
 .rw[Jc];show Jk _
theorem Ru[DecidableEq κ] :∀(B kvs:List (κ×D)),(∀z∈B,z.1≠k)->Ar (Uz kvs B) k=Ar kvs k
 |[],kvs,_=>rfl
 |z::r,kvs,h=>by
  show Ar (Uz (putD kvs z.1 z.2) r) k=_;rw[Ru r _ λy G=>h y (Jg _ G),QF,D8 (λe=>h z Je e.symm)]
theorem Nw[DecidableEq κ]  :∀(B kvs:List (κ×D)),(B.map (·.1)).Nodup->(k,v)∈B->Ar (Uz kvs B) k=some v
 |[],kvs,_,h=>nomatch h
 |z::r,kvs,nd,h=>by
  show Ar (Uz (putD kvs z.1 z.2) r) k=_;rw[Jm,Fe]at nd;rcases Gd.mp h with e|h
  .subst e;rw[Ru r _ λy J e=>nd.1 (by
    let G:y.1∈r.map (·.1):=Jq.mpr {y,J,W};rw[e]at G;show G),QF,D9 W]
  .show Nw r _ nd.2 h
def vT(h:List (AI×D))(S:List Pr):Prop:=(∀p∈S,Ar h (.inl p.1)=some (wD p.2))/\∀s:Int,(∀p∈S,p.1≠s)->Ar h (.inl s)=none
def prK(p:Pr):AI×D:=(.inl p.1,wD p.2)
def Rg(B:AU L):vT (Uz [] (L.map prK)) L:=by
 let nd:((L.map prK).map (·.1)).Nodup:=by
  rw[Jy];show Jz.mpr (B.imp λ{a b}z e=>z.1 (Lm e))
 exists λp h=>Nw _ _ nd (Jq.mpr {p,h,W}),λs hs=>?_;rw[Ru _ _ λz hz e=>?_]
 .rfl
 .let⟨p,h,rfl⟩:=Jq.mp hz;show hs p h (Lm e)
section
variable{C:Cf} 
theorem JB :∀{ws:List (AI×V)}{B:List (AI×D)}{vs:List (AI×V)}{ds:List (AI×D)},AV C I α ws B->AV C I α vs ds->AV C I α (Rt vs ws) (Uz ds B)
 |_,_,_,_,.nil,h=>h
 |_,_,vs,ds,.cons (k:=k) (v:=v) (d:=d) (vs:=ws) (ds:=B) a b,h=>by
  show AV C I α (Rt (A4 vs k v) ws) (Uz (putD ds k d) B);show JB b (h.put a)
theorem VS(r:AN C I α v (kD k)):v=kV k:=by
 cases k with
 |inl i=>cases r.inv;rfl
 |inr s=>cases r.inv;rfl
theorem Rj(R:AR C Z I α H M):∀{vs:List V}(h:List (AI×D)),AA C I α vs (h.map λz=>.tup [kD z.1,z.2])->∃ws:List (AI×V),IQ C.k H vs (ws.map λz=>(kV z.1,z.2))/\AV C I α ws h
 |_,[],r=>by cases r;show{[],.nil,.nil}
 |_,z::h,r=>by
  cases r with
  |cons a b =>
   let{ws,p,q}:=Rj R h b;cases a with
   |tup e G =>
    cases G with
    |cons G B =>
     cases B with
     |cons B O =>
      cases O
      rename_i Y J
      exists(z.1,J)::ws,.cons {_,W,A2.of ?_} p,?_
      .show H _=some (.tup [kV z.1,J]);rw[<-VS G];show R.sub _ _ e
      .show .cons B q
inductive dictP3(ds:List D)(M:AC)(K:K3):Prop
 |mk:∀(d:D)(zs:List (AI×D)),ds=[d]->AO M d=some (zs.map λz=>.tup [kD z.1,z.2])->zs.length<1000->K (.dct (Uz [] zs)) M->dictP3 ds M K
theorem JD:BK C Z (Q3 C.k) dictP3:=λI α H M xs ds K Q R r h k=>by
 let{d,G,rfl,e,hl,h}:=h;show AA.e1 r λ_ Y=>?_;let{a,vs,rfl,ea,O}:=Rn R Y e;let{ws,pw,B}:=Rj R G O;exists a,vs,_,.dK [],W,.inl ea,pw,.inl W,λD hD=>{_,OG _ [] ?_,?_}
 .rw[By,B.len];show Gr (by lia:0+G.length<=1000) nofun
 .let⟨R2,J,e2⟩:=R.new (o:=.dK (Rt [] ws)) hD;show k.on J R2 (.dct e2 ((JB B .nil).mono J (Jn _))) h
def Aw(R:List En):List (Option Int):=R.map λe=>e.2
inductive dFrom(ds:List D)(M:AC)(K:K3):Prop
 |mk:∀(L:List Pr)(d:D)(ns:List Int)(pl:Nat),ds=[.lst (L.map pD),d,.int pl]->(AO M d=some (ns.map .int)/\(L.length<64/\pl<=ns.length)/\(∀p∈L,p.2<+:ns.drop pl->K (.tup [.int p.1,.int ((pl+p.2.length:Nat):Int)]) M)/\((∀p∈L,¬ p.2<+:ns.drop pl)->K .non M))->dFrom ds M K
end
def Py(h:X.K=K)(B:AG 3 X.A)(G:X.calm=true):W5 X (.type "dict") (Q3 K):=by subst h;show tJ B G
def P4{En:AT}(S:Ev->AC->Prop)(h1:∀G:Ev->AC->Prop,(∀h B,S h B->G h B)->u {En with nx:=G} ρ M)(h2:∀h B,S h B->u' En h B):uSeq u u' En ρ M:=h1 _ h2
theorem Rm(h:AO M d=some xs):AO (M++[m]) d=some xs:=by
 cases d with
 |lst ys=>show h
 |cell k =>
  simp only[AO]at h⊢
  by_cases hk:k<M.length
  .rw[Jo hk];show h
  .rw[Bk (Fi hk)]at h;show nomatch h
 |_=>show nomatch h
section
variable{C:Cf}{ui:AQ}{t:TA}
inductive sum3(ds:List D)(M:AC)(K:K3):Prop
 |mk:∀(d:D)(ns:List Int),ds=[d]->Y8 M d=some (ns.map .int)->K (.int ns.sum) M->sum3 ds M K
def rSum(K:Cq):List V->Hp->VK->Prop:=λxs H Q=>∃(p:Addr)(ns:List Int),xs=[.ref p]/\Ad K H p (ns.map V.int)/\Q (.int ns.sum) H
def lB(h:X.K=K')(B:X.calm=true):W5 X (.builtin "sum") (rSum K'):=by subst h;show sE B
def sU:BK C Z (rSum C.k) sum3:=λI α H M xs ds K Q R r h k=>by
 let{d,bs,rfl,e,h}:=h;show AA.e1 r λ_ G=>?_;let{a,vs,rfl,ea,B}:=Ur R G e;rw[B.of_ints bs]at ea;show{a,bs,W,ea,k.now R (.int _) h}
inductive uAugS_3(f:Int->Int->Int)(E:AT)(ρ:Ev)(k:Nat)(n:Nat)(x:Int)(d:D)(M3:AC):Prop
 |mk:∀(y:Int)(xs':List D)(j:Nat),d=.int y->M3[k]?=some (.lst xs')->ixN xs'.length (n:Int)=some j->E.nx ρ (M3.set k (.lst (xs'.set j (.int (f x y)))))->uAugS_3 f E ρ k n x d M3
inductive uAugS_2(ue:AQ)(f:Int->Int->Int)(E:AT)(ρ:Ev)(o:D)(i:D)(M2:AC):Prop
 |mk:∀(k n:Nat)(xs:List D)(x:Int),o=.cell k->i=.int (n:Int)->M2[k]?=some (.lst xs)->xs[n]?=some (.int x)->ue ρ M2 (uAugS_3 f E ρ k n x)->uAugS_2 ue f E ρ o i M2
abbrev yZ(ui:AQ)(ue:AQ)(f:Int->Int->Int)(E:AT)(ρ:Ev):D->AC->Prop:=λo M1=>ui ρ M1 (uAugS_2 ue f E ρ o)
def tU(uo ui ue:AQ)(f:Int->Int->Int):BW:=λE ρ M=>uo ρ M (yZ ui ue f E ρ)
def kL{f:Int->Int->Int}(ho:AE C Z to uo)(hi:AE C Z ti ui)(he:AE C Z te ue):A8 C Z (RF to ti te (QX C.k) (ipI f) KN) (tU uo ui ue f):=λI α σ H ρ M E D' R RE h F =>
 ho I α σ H ρ M _ _ R RE h λov o I1 a1 H1 M1 s1 p1 R1 r1 h1=>hi I1 a1 σ H1 ρ M1 _ _ R1 (RE.mono s1 p1) h1 λiv i I2 a0 H2 M2 Y p2 R2 r2 h2=>by
  let{k,n,xs,x,rfl,rfl,e1,e2,h2}:=h2;cases r2.inv;let{a,rfl,ec}:=(r1.mono Y p2).inv;let{us,eu,ru}:=Ws R2 ec e1;let hn:n<xs.length:=(Jd.mp e2).1;let J:n<us.length:=by rwa[ru.length]
  let ri:=ru.at J hn;rw[Jb hn]at e2;rw[BG e2]at ri;show{a,us,n,us[n],W,W,Ad.of eu,Jb J,?_};generalize us[n]=w at ri;cases ri.inv;show he I2 a0 σ H2 ρ M2 _ _ R2 (RE.mono (s1.trans Y) (p1.trans p2)) h2 λev d I3 B H3 M3 s3 p3 R3 r3 h3=>?_;let{y,a3,j,rfl,e3,e4,h3}:=h3;cases r3.inv;let O:B[k]?=some a:=by
   let{t,rfl}:=p3;rwa[Jo (Jd.mp ec).1]
  let{us3,a2,G}:=Ws R3 O e3;exists x,y,W,W,a,us3,_,j,W,W,a2,by rwa[G.length],F.nx I3 B σ _ ρ _ (s1.trans (Y.trans s3)) (p1.trans (p2.trans p3)) (R3.putL O (G.set (.int _) j)) (RE.mono (s1.trans (Y.trans s3)) (p1.trans (p2.trans p3))) h3
end
section
variable{C:Cf} 
inductive add3C(d:D)(e:D)(M:AC)(K:K3):Prop
 |mk:∀xs ys,AO M d=some xs->AO M e=some ys->xs.length+ys.length<=Cb->K (.cell M.length) (M++[.lst (xs++ys)])->add3C d e M K
def gX:BH C Z (Ic C.k) add3C:=λI α H M x y d e K Q R J G h k=>by
 let{xs,ys,e1,e2,hl,h}:=h;let{a,vs,rfl,ea,B}:=Rn R J e1;let{b,ws,rfl,Y,rb}:=Rn R G e2;show .inr (.inr (.inl {a,b,vs,ws,W,W,ea,Y,by rwa[B.length,rb.length],λp O=>?_}));let{R2,p2,e2}:=R.cell (o:=.lst (vs++ws)) (m:=.lst (xs++ys)) O λH' e=>{_,e,B.app rb};show k _ _ I _ _ _ (.refl _) p2 R2 (.cell e2) h
end
theorem wI{ns:List τ}{m:Nat}(h:pl<=ns.length):cut ns (some (pl:Int)) (some ((pl:Int)+(m:Int)))=(ns.drop pl).take m:=by
 unfold cut;rw[<-Db,HT.sIx_nat,HT.sIx_nat,Ds h];show List.take_eq_take_iff.mpr ?_;rw[Gf];lia
def P5(f:Str)(v:D):List (Str×D)->List (Str×D)
 |[]=>[(f,v)]
 |(g,x)::r=>if g=f then(g,v)::r else(g,x)::P5 f v r
section
variable{C:Cf} 
abbrev FldR(C:Cf)(I:Hp)(α:List Addr):Str×V->Str×D->Prop:=λp q=>p.1=q.1/\AN C I α p.2 q.2
theorem YF{f:Str}{d:D}:∀{vs:List (Str×V)}{fs:List (Str×D)},Paired (FldR C I α) vs fs->fs.lookup f=some d->∃v,vs.lookup f=some v/\AN C I α v d
 |_,_,.nil,h=>nomatch h
 |_,_,.cons (a:=(g,v)) (b:=(g',d')) a r,h=>by
  let{e,B}:=a;let e:g=g':=e;subst e;rw[Ba]at h⊢;cases z:f==g with
  |true=>rw[z]at h;cases h;show{v,W,B}
  |false=>rw[z]at h;show YF r h
theorem TV{f:Str}:∀{vs:List (Str×V)}{fs:List (Str×D)},Paired (FldR C I α) vs fs->fs.lookup f=none->vs.lookup f=none
 |_,_,.nil,h=>rfl
 |_,_,.cons (a:=(g,v)) (b:=(g',d')) a r,h=>by
  let{e,B}:=a;let e:g=g':=e;subst e;rw[Ba]at h⊢;cases z:f==g with
  |true=>rw[z]at h;cases h
  |false=>rw[z]at h;show TV r h
theorem YL{f:Str}(B:AN C I α v d):∀{vs:List (Str×V)}{fs:List (Str×D)},Paired (FldR C I α) vs fs->Paired (FldR C I α) (Av f v vs) (P5 f d fs)
 |_,_,.nil=>.cons {W,B} .nil
 |_,_,.cons (a:=(g,v')) (b:=(g',d')) a r=>by
  let{e,h}:=a;let e:g=g':=e;subst e;unfold Av P5
  by_cases z:g=f
  .rw[D9 z,D9 z];show .cons {W,B} r
  .rw[D8 z,D8 z];show .cons {W,h} (YL B r)
end
section
variable{C:Cf}{t:TA}{u:CA} 
inductive uFldI_1(K:Cq)(f:Str)(Kk:K3)(d:D)(M1:AC):Prop
 |mk:∀(k:Nat)(Cl:Addr)(fs:List (Str×D))(v:D),d=.cell k->M1[k]?=some (.ins Cl fs)->CQ K Cl->Y2 K Cl f->fs.lookup f=some v->Kk v M1->uFldI_1 K f Kk d M1
def HW(K:Cq)(f:Str)(ua:AQ):AQ:=λρ M h=>ua ρ M (uFldI_1 K f h)
def V7{f:Str}(ha:AE C Z ta ua):AE C Z (tFld K ta f) (HW K f ua):=λI α σ H ρ M Kk Q R E h k =>
 ha I α σ H ρ M _ _ R E h λv d I1 B H1 M1 J p1 G r1 h1=>by
  let{j,Cl,fs,w,rfl,e1,cl,na,el,h1}:=h1;let{a,rfl,ec}:=r1.inv;let{dx,vs,ea,Y}:=(G.cel j a _ ec e1).1;let{v,ev,O}:=YF Y el;show{a,Cl,dx,vs,v,W,ea,cl,na,ev,k _ _ I1 B H1 M1 J p1 G O h1}
inductive uSetI_2(K:Cq)(f:Str)(E:AT)(ρ:Ev)(dv:D)(d:D)(M2:AC):Prop
 |mk:∀(k:Nat)(Cl:Addr)(fs:List (Str×D)),d=.cell k->M2[k]?=some (.ins Cl fs)->CQ K Cl->Y2 K Cl f->fs.length<1000->E.nx ρ (M2.set k (.ins Cl (P5 f dv fs)))->uSetI_2 K f E ρ dv d M2
abbrev mD(K:Cq)(f:Str)(ua:AQ)(E:AT)(ρ:Ev):D->AC->Prop:=λh M1=>ua ρ M1 (uSetI_2 K f E ρ h)
def Iw(K:Cq)(f:Str)(ua ub:AQ):BW:=λE ρ M=>ub ρ M (mD K f ua E ρ)
def R8{f:Str}(ha:AE C Z ta ua)(hb:AE C Z tb ub):A8 C Z (sFld K ta tb f) (Iw K f ua ub):=λI α σ H ρ M E3 D' R RE h F =>
 hb I α σ H ρ M _ _ R RE h λy dv I1 G H1 M1 O Y R1 r1 h1=>ha I1 G σ H1 ρ M1 _ _ R1 (RE.mono O Y) h1 λv d I2 B H2 M2 J p2 R2 r2 h2=>by
  let{j,Cl,fs,rfl,e1,cl,na,hl,h2}:=h2;let{a,rfl,ec}:=r2.inv;let{dx,vs,ea,ra}:=(R2.cel j a _ ec e1).1;exists a,Cl,dx,vs,W,ea,cl,na,by rwa[Paired.length ra],?_;show F.nx I2 B σ _ ρ _ (O.trans J) (Y.trans p2) (R2.put (m:=.ins Cl (P5 f dv fs)) ec λH' e=>{dx,_,e,YL (r1.mono J p2) ra}) (RE.mono (O.trans J) (Y.trans p2)) h2
abbrev yC(h:K3)(M1:AC):D->AC->Prop:=λd M2=>d=.non/\h (.cell M1.length) M2
abbrev kZ(Cl:Addr)(sp:DD)(h:K3):List D->AC->Prop:=λds M1=>sp (.cell M1.length::ds) (M1++[.ins Cl []]) (yC h M1)
def uMkI(Cl:Addr)(sp:DD)(u:CA):AQ:=λρ M h=>u ρ M (kZ Cl sp h)
def UB(ha:Ap C Z t u):AE C Z (IY Cl (AH C sp) [] E0 t) (uMkI Cl sp u):=λI α σ H ρ M Kk Q R E h k =>
 ha I α σ H ρ M _ _ R E h λvs ds I1 B H1 M1 O p1 R1 Y h1=>by
  intro x dx nx G ne;let R2:=R1.same (Wc (o:=.own x) G);let{R3,J,e3}:=R2.cell (p:=x) (o:=.ins Cl dx []) (m:=.ins Cl []) (by rwa[Zq (Et ne)]) λH' e=>{dx,[],e,.nil};rw[Jx];exists Z,I1,B++[x],_,_,_,R3,.cons (.cell e3) (Y.mono (.refl _) J),h1,λv d I' α' H' M' s p R' r h'=>?_;let{rfl,h'}:=h';cases r.inv;show{W,k _ _ I' α' H' M' (O.trans s) ((p1.trans J).trans p) R' (.cell ?_) h'};let{tl,rfl}:=p;rwa[Jo (by have:=(Jd.mp e3).1;show this)]
abbrev zW(sp:DD)(h:K3)(d:D):List D->AC->Prop:=λds M2=>sp (d::ds) M2 h
abbrev qB(Cl:Addr)(m:Str)(sp:DD)(u:CA)(ρ:Ev)(h:K3):D->AC->Prop:=λd M1=>(∃(k:Nat)(fs:List (Str×D)),d=.cell k/\M1[k]?=some (.ins Cl fs)/\fs.lookup m=none)/\u ρ M1 (zW sp h d)
def jX(Cl:Addr)(m:Str)(sp:DD)(ua:AQ)(u:CA):AQ:=λρ M h=>ua ρ M (qB Cl m sp u ρ h)
def JI{Cl:Addr}{m:Str}{sp:DD}(ha:AE C Z ta ua)(hr:Ap C Z t u):AE C Z (FM Cl m (AH C sp) [] E0 ta t) (jX Cl m sp ua u):=λI α σ H ρ M Kk Q R E h k =>
 ha I α σ H ρ M _ _ R E h λv d I1 G H1 M1 O Y R1 r1 h1=>by
  let{{j,fs,rfl,e1,el},h1}:=h1;let{a,rfl,ec}:=r1.inv;let{dx,vs,ea,ra}:=(R1.cel j a _ ec e1).1;show{a,dx,vs,W,ea,TV ra el,?_};show hr I1 G σ H1 ρ M1 _ _ R1 (E.mono O Y) h1 λvs ds I2 B H2 M2 J p2 R2 r2 h2=>?_;rw[Jx];show{Z,I2,B,M2,_,Kk,R2,.cons ((AN.cell ec).mono J p2) r2,h2,k.mono (O.trans J) (Y.trans p2)}
end
section
variable{C:Cf} 
def AR.reset(R:AR C Z I α H M)(B:α[k]?=some a)(h:BR C I α H a m):AR C Z I α H (M.set k m):=by
 let{o,e}:=h.some;let u:upd H a o=H:=by
  funext b
  by_cases z:b=a
  .subst z;rw[Zw,e]
  .rw[Zq z]
 let:=R.put (m:=m) (o:=o) B λH' G=>h.mono (.refl _) (Jn _) (G.trans e.symm);rwa [u]at this
end
section
variable{C:Cf} 
abbrev Live(S:List Pr)(ns:List Int):Prop:=∃w∈S.map (λq:Pr=>q.2),ns<+:w/\ns.length<w.length
inductive dWord(ds:List D)(M:AC)(K:K3):Prop
 |mk:∀(S:List Pr)(s:Int),ds=[.code S,.int s]->((∀p∈S,p.1=s->K (wD p.2) M)/\((∀p∈S,p.1≠s)->K .non M))->dWord ds M K
def yI{E:XK}(h:AH C dWord vs H Q E):Oo C.c vs H Q E:=by
 let{Z,I,α,M,ds,K,R,r,{S,s,rfl,h1,h2},B}:=h;show AA.e2 r λ_ _ Y O=>?_;cases O.inv;let{_,rfl,hc}:=Y.inv;exists _,S,s,W,hc.same R.sub,λp hp e t G=>?_,λhn=>B _ _ I α H M (.refl _) (Jn _) R .non (h2 hn);let{I2,J,R2,f}:=R.full;show B _ _ I2 α H M J (Jn _) R2 (.tup (f _ _ G (R.tupOut G)) (.ints _)) (h1 p hp e)
end
theorem X4(h:AO M d=some xs):tyOf M d=some .list/\Y8 M d=some xs/\Qy M d=some xs:=by
 cases d with
 |lst ys=>cases h;show{W,W,W}
 |cell k =>
  simp only[AO]at h;cases hm:M[k]? with
  |none=>rw[hm]at h;cases h
  |some m =>
   rw[hm]at h;cases m with
   |lst es=>cases h;show{by simp only[tyOf,hm],by simp only[Y8,hm],by simp only[Qy,Y8,hm]}
   |_=>cases h
 |_=>cases h
theorem NZ  :Ym n (oD o):=by
 cases o with
 |none=>show Pz
 |some z=>show Vp
def nI{ns:List τ}(h:pl<=ns.length):cut ns (some (pl:Int)) none=ns.drop pl:=by
 unfold cut;rw[HT.sIx_nat,Ds h];show(ns.drop pl).take (ns.length-pl)=_;rw[Gx];rw[Gf];show Jk _
theorem I9{d:D}{K:K3}(h:AO M d=some xs)(B:K (.lst (cut xs lo hi)) M):sl3 d lo hi M K:=by
 cases d with
 |lst ys=>cases h;show{·,B}
 |cell k=>show{_,(X4 h).2.1,B}
 |_=>cases h
theorem LN{d e:D}{ys:List D}{K:K3}(h1:AO M d=some xs)(h2:AO M e=some ys)(hl:xs.length+ys.length<=Cb)(h:K (.lst (xs++ys)) M):add3 d e M K:=by
 cases d with
 |lst B=>show{_,_,h1,h2,hl,h}
 |cell k=>show{_,_,h1,h2,hl,h}
 |_=>cases h1
theorem Zrz{d:D}{K:K3}(h:AO M d=some xs)(B:K (.int xs.length) M):len3 [d] M K:=by
 cases d with
 |lst G=>show{_,(X4 h).2.2,B}
 |cell k=>show{_,(X4 h).2.2,B}
 |_=>cases h
def Qb{d:D}{K:K3}(h:AO M d=some xs)(B:K (.int xs.length) M):NT uNil ρ (KW len3 K) d M:=Zrz h B
theorem EX{d v:D}{i:Int}{K:K3}(h:AO M d=some xs)(B:L2.atI xs i=some v)(G:K v M):ix3 d (.int i) M K:=by
 cases d with
 |lst J=>show{_,_,_,(X4 h).2.2,W,B,G}
 |cell k=>show{_,_,_,(X4 h).2.2,W,B,G}
 |_=>cases h
theorem VX:∀ns:List Int,Qc (ns.map D.int)=some (wk ns)
 |[]=>rfl
 |x::r=>by
  show(match EU (D.int x),Qc (r.map D.int)with|some k,some ks=>some (k::ks)|_,_=>none)=_;rw[VX r];rfl
def wT{B:MO}{r:Nat}(h:M[r]?=some m):(M++[B])[r]?=some m:=by
 rwa[Jo (Jd.mp h).1]
def add_int{i j:Int}{K:K3}(h:K (.int (i+j)) M):add3 (.int i) (.int j) M K:=h
theorem Vy{ns:List τ} :cut ns none (some (pl:Int))=ns.take pl:=by
 unfold cut;rw[HT.sIx_nat];show(ns.drop 0).take (min pl ns.length-0)=_;rw[Nat.sub_zero,Dw,List.take_eq_take_iff];lia
theorem Vn{ns:List τ} :cut ns (some (pl:Int)) none=ns.drop pl:=by
 by_cases h:pl<=ns.length
 .show nI h
 .unfold cut;rw[HT.sIx_nat,aZ (),List.drop_length,F2 (),List.take_nil]
def encO:DG (Option Int) where
 e:=oD
 py o:=match o with|some z=>.int z|none=>.none
 n:=0
 ok:=λM o=>by cases o with|none=>show .non|some z=>show .int z
 shp:=λo=>by
  cases o with
  |none=>show{by simp only[M9],by simp only[Iv];show Jk _}
  |some z=>show VF z
 eq:=λa b=>by cases a<;>cases b<;>simp[Km,VG]
 hn:=by decide
def JC{N:AC}{t:Nat}(h:M<+:N)(B:M.length<=t):M<+:N.set t m:=by
 let{X,rfl}:=h;rw[Bv _ _ B];show Gj _ _
def Xo{N:AC}{t:Nat}(h:N[t]?=some (.lst xs)):AO N (.cell t)=some xs:=by simp only[AO,h]
def vQ{N:AC}{r:Nat}(p:M<+:N)(h:M[r]?=some m):N[r]?=some m:=by
 let{X,rfl}:=p;rwa[Jo (Jd.mp h).1]
section
variable{C:Cf} 
theorem AW.of_ints :∀{vs:List (List AI×V)}(B:List (List AI×Int)),AW C I α vs (B.map λz=>(z.1,D.int z.2))->vs=B.map λz=>(z.1,V.int z.2)
 |_,[],h=>by cases h;rfl
 |_,z::r,h=>by
  cases h with
  |cons a b =>
   cases a;rw[AW.of_ints r b];rfl
theorem Od :∀{vs:List V}(ks:List AI),AA C I α vs (ks.map kD)->vs=ks.map kV
 |_,[],h=>by cases h;rfl
 |_,k::r,h=>by
  cases h with
  |cons a b=>rw[VS a,Od r b];rfl
theorem Q8(R:AR C Z I α H M):∀{vs:List V}(B:List (List AI×Int)),AA C I α vs (B.map λz=>.tup [.tup (z.1.map kD),.int z.2]) ->
  ∃ws:List (Addr×List AI×V),IQ C.k H vs (ws.map λz=>(.ref z.1,z.2.2))/\(∀z∈ws,H z.1=some (.tup (z.2.1.map kV)))/\(ws.map λz=>(z.2.1,z.2.2))=B.map λz=>(z.1,V.int z.2)
 |_,[],r=>by cases r;show{[],.nil,(λ_ h=>nomatch h),W}
 |_,z::B,r=>by
  cases r with
  |cons a b =>
   let{ws,p,q,e}:=Q8 R B b;cases a with
   |tup e1 J =>
    cases J with
    |cons J G =>
     cases G with
     |cons G O =>
      cases O;cases G;cases J with
      | @tup t vt _ et rt =>
       rw[Od z.1 rt]at et;exists(t,z.1,V.int z.2)::ws,.cons {_,W,A2.of (R.sub _ _ e1)} p,λy Y=>?_,?_
       .rcases Gd.mp Y with w|w
        .rw[w];show R.sub _ _ et
        .show q y w
       .rw[Jm,Jm,e]
theorem Pp[DecidableEq κ]:∀(B kvs:List (κ×V)),((kvs++B).map (·.1)).Nodup->Rt kvs B=kvs++B
 |[],kvs,_=>(Jx _).symm
 |z::B,kvs,h=>by
  let e:A4 kvs z.1 z.2=kvs++[z]:=by
   unfold A4;rw[D8];intro hz;let{G,J,e}:=Dl.mp hz;let e:=Dz e;rw[Ji,Bn]at h;show h.2.2 G.1 (Jq.mpr {G,J,W}) z.1 Je e
  show Rt (A4 kvs z.1 z.2) B=_;rw[e,Pp B (kvs++[z]) (by rw[Jf];show h),Jf];rfl
theorem RB :∀(h:List (List AI×Int)),AW C I α (h.map λz=>(z.1,V.int z.2)) (h.map λz=>(z.1,D.int z.2))
 |[]=>.nil
 |z::r=>.cons (.int _) (RB r)
end
def lT:DG Pr:=UR X5 (KZ X5)
section
def Oq(K:Cq):R2:=λx y H Q=>Og K x y H Q\/LW K x y H Q
def xQ(h:X.K=K'):Ay X (Hs .Add) (Oq K'):=by
 subst h;show Ay.or yH ZL
end
theorem IK{N:AC}{d:D}(p:M<+:N)(h:AO M d=some xs):AO N d=some xs:=by
 cases d with
 |lst ys=>show h
 |cell c =>
  simp only[AO]at h⊢;cases hm:M[c]? with
  |none=>rw[hm]at h;cases h
  |some m=>rw[vQ p hm];rw[hm]at h;show h
 |_=>cases h
section
variable{C:Cf}
theorem AV.get :∀{vs:List (AI×V)}{ds:List (AI×D)},AV C I α vs ds->vs.length=ds.length/\∀(i:Nat)(B:AI×V)(G:AI×D),vs[i]?=some B->ds[i]?=some G->B.1=G.1/\AN C I α B.2 G.2:=by
 intro _ _ J;cases J with
 |nil=>
  exists W,λi B G e=>nomatch e
 |cons h r=>
  show by
    let{a,b}:=AV.get r;exists by rw[Ju,Ju,a],λi B G e1 e2=>?_;cases i with
    |zero=>cases e1;cases e2;show{W,h}
    |succ i=>show b i B G (by simpa using e1) (by simpa using e2)
end
section
variable{C:Cf} 
def aO(C:Addr):Sp:=λvs H Q _=>∃(x:Addr)(S:List Pr),vs=[.ref x]/\Tq C H x S/\S.length<64/\∀(D:Addr)(H':Hp)(ns:List Int),H D=none->AL H H'->H' D=some (.lst (ns.map V.int))->ns.Perm (S.map (·.1))->ns.Pairwise (·<=·)->Q (.ref D) H'
inductive dCSigns(ds:List D)(M:AC)(K:K3):Prop
 |mk:∀(S:List Pr),ds=[.code S]->(S.length<64/\∀ns:List Int,ns.Perm (S.map (·.1))->ns.Pairwise (·<=·)->K (.cell M.length) (M++[.lst (ns.map .int)]))->dCSigns ds M K
def uV{E:XK}(h:AH C dCSigns vs H Q E):aO C.c vs H Q E:=by
 let{Z,I,α,M,ds,K,R,r,{S,rfl,B,h},O}:=h;show AA.e1 r λ_ J=>?_;let{_,rfl,Y}:=J.inv;exists _,S,W,Y.same R.sub,B,λD H' ns G s el pm pw=>?_;let{R2,p2,e2}:=(R.same s).cellAt (l:=D) (m:=.lst (ns.map .int)) (R.sub.free G) (R.out G) {_,el,.ints _};show O _ _ I _ H' _ (.refl _) p2 R2 (.cell e2) (h ns pm pw)
inductive dCSign(ds:List D)(M:AC)(K:K3):Prop
 |mk:∀(S:List Pr)(u:List Int),ds=[.code S,wD u]->((∀p∈S,p.2=u->K (.int p.1) M)/\((∀p∈S,p.2≠u)->K .non M))->dCSign ds M K
theorem rG{E:XK}(h:AH C dCSign vs H Q E):WR C.c vs H Q E:=by
 let{Z,I,α,M,ds,K,R,r,{S,u,rfl,h1,h2},B}:=h;show AA.e2 r λ_ _ J G=>?_;let{_,rfl,Y}:=J.inv;cases G with
 | @tup t vt _ et rt =>
  rw[AA.of_ints u rt]at et;exists _,t,S,u,W,Y.same R.sub,R.sub _ _ et,λp O e=>B _ _ I α H M (.refl _) (Jn _) R (.int _) (h1 p O e),λhn=>B _ _ I α H M (.refl _) (Jn _) R .non (h2 hn)
end
theorem Zrc[DecidableEq κ](kvs:List (κ×D))(k:κ)(v:D):(putD kvs k v).length<=kvs.length+1:=by
 unfold putD
 split
 .rw[Ja];lia
 .rw[Jc];show Jk _
theorem Ow[DecidableEq κ]:∀(B kvs:List (κ×D)),(Uz kvs B).length<=kvs.length+B.length
 |[],_=>Jk _
 |z::B,kvs=>by
  let h:=Ow B (putD kvs z.1 z.2);let:=Zrc kvs z.1 z.2;show(Uz (putD kvs z.1 z.2) B).length<=_;rw[Ju];lia
section
variable{C:Cf} 
def yJ(Cx:Addr)(h:X3):BW:=λ_ _ M=>h Cx [] M
def gU{Cx:Addr}{E:XK}{G:X3}(O:Z.xe=E)(J:Z.kx=G)(hx:FinX C Z):A8 C Z (YY Cx E) (yJ Cx G):=λI α σ H ρ M E3 D' R RE h F ea B=>by
 subst O J;let{I',s',Y,fl}:=(R.same (Wc (o:=.ext (Ac ea Cx none)) B)).full;show hx Cx none [] [] I' α _ M Y W .nil h
end
section
variable{C:Cf}
theorem ZF :∀{vs:List (AI×V)}{kvs:List (AI×D)},AV C I α vs kvs->vs.map (·.1)=kvs.map (·.1):=by
 intro _ _ h;cases h with
 |nil=>
  show W
 |cons _ r=>
  show by rw[Jm,Jm,ZF r]
end
theorem iQ(h1:∀K:Bool->AC->Prop,K c1 M->t1 ρ M K)(h2:c1=true->∀K:Bool->AC->Prop,K c2 M->t2 ρ M K):∀K:Bool->AC->Prop,K (c1&&c2) M->uAnd t1 t2 ρ M K:=λK h=>by
 show h1 _ ?_;cases c1 with
 |false=>show h
 |true=>show h2 W _ h
def mX{t:CS}{a b:BW}{E:AT}{c:Bool}(h:∀K:Bool->AC->Prop,K c M->t ρ M K)(k:if c=true then a E ρ M else b E ρ M):uIfS t a b E ρ M:=h _ k
theorem GM{d:D}{X:AC}(h:Y8 M d=some xs):Y8 (M++X) d=some xs:=by
 cases d with
 |lst ys=>show h
 |frz ys=>show h
 |cell k =>
  simp only[Y8]at h⊢
  by_cases hk:k<M.length
  .rw[Jo hk];show h
  .rw[Bk (Fi hk)]at h;show nomatch h
 |_=>show nomatch h
section
variable{x y z:MO}
def two0:(M++[x,y])[M.length]?=some x:=by simp
theorem two1:(M++[x,y])[M.length+1]?=some y:=by rw[J0 ()];simp
def nL:(M++[x,y]).set M.length z=M++[z,y]:=by rw[Bv _ _ (Jk _),Bz];rfl
theorem XI:(M++[x,y]).set (M.length+1) z=M++[x,z]:=by rw[Bv _ _ (),Fc];rfl
end
theorem yS{d:D}{K:K3}(h:Y8 M d=some xs)(k:K (.int xs.length) M):len3 [d] M K:=by
 cases d with
 |lst ys=>show{_,h,k}
 |frz ys=>show{_,h,k}
 |cell c=>show{_,h,k}
 |_=>show nomatch h
def cZ{d:D}{K:K3}(h:Y8 M d=some xs)(k:K (.int xs.length) M):NT uNil ρ (KW len3 K) d M:=yS h k
theorem iG{e:D}{c:Nat}(h:Y8 M e=some xs)(ne:e≠.cell c):Y8 (M.set c m) e=some xs:=by
 cases e with
 |lst ys=>show h
 |frz ys=>show h
 |cell k =>
  simp only[Y8]at h⊢;rw[G2 (λz=>ne (by rw[z]))];show h
 |_=>show nomatch h
theorem Qn[BEq τ][LawfulBEq τ]:∀{B us:List τ},B.Nodup->(∀z∈B,z∈us)->B.length<=us.length
 |[],_,_,_=>J9 _
 |z::B,us,nd,h=>by
  let{h1,h2}:=Fe.mp nd;let hz:=h z Je;let:=Qn (us:=us.erase z) h2 λy G=>(List.mem_erase_of_ne (λ(e:y=z)=>h1 (by rw[<-e];show G))).mpr (h y (Jg _ G));rw[List.length_erase_of_mem hz]at this;let:=Fh hz;rw[Ju];lia
theorem XW:∀{a b:List (List Int)},a.Pairwise (λx y=>HT.lexLt x y=true)->b.Pairwise (λx y=>HT.lexLt x y=true)->(∀t,t∈a↔t∈b)->a=b
 |[],[],_,_,_=>rfl
 |[],y::b,_,_,h=>D0 ((h y).mpr Je) (λz=>nomatch z)
 |x::a,[],_,_,h=>D0 ((h x).mp Je) (λz=>nomatch z)
 |x::a,y::b,ha,hb,h=>by
  let G:∀{u v:List Int},HT.lexLt u v=true->HT.lexLt v u=true->False:=λp q=>by have:=S3 p q;rw[Ut]at this;cases this
  let{O,Z}:=Bo.mp ha;let{J,Y}:=Bo.mp hb;let e:x=y:=by
   rcases Gd.mp ((h x).mp Je)with z|z
   .show z
   .rcases Gd.mp ((h y).mpr Je)with w|w
    .show w.symm
    .show(G (J x z) (O y w)).elim
  subst e;let:a=b:=XW Z Y λt=>by
   constructor
   .intro B;rcases Gd.mp ((h t).mp (Jg _ B))with z|z
    .rw[z]at B;let:=O x B;rw[Ut]at this;cases this
    .show z
   .intro B;rcases Gd.mp ((h t).mpr (Jg _ B))with z|z
    .rw[z]at B;let:=J x B;rw[Ut]at this;cases this
    .show z
  rw[this]
section
variable{C:Cf}
def AY.okC3{dC:Heap}{kV:Ca}(lk:K.lookup f=some {oc,od,.func (DE x dH (X9 st) (Xc st) (Zf st) .none kV doc pm an cdv ct),osl})(G:EH K cdv dH=true)(S:AD N ps (Zf st))(len:∀ds M K,sp ds M K->ds.length=ps.length)(hbody:∀(A:Kr)(dD:List Env)(s:Cc)(H:Hp)(E:XK),AG k (A.deeper (Ho dH (Zf st) s.heap.objs.size f cdv)) ->
   ∃t u,PSs (CI A7 P w K mg dC N dH (Zf st) f cdv A dD s H E).nox (Xc st) t/\(∀Z,A8 C Z t u)/\∀ds M K,WfM M->(∀d∈ds,Ym M.length d)->sp ds M K->u {nx:=λ_ M'=>Dk M.length K .non M',rt:=Dk M.length K} (Nd N ds) M) :
  AK P w K mg dC A7 (k+1) f (DE x dH (X9 st) (Xc st) (Zf st) .none kV doc pm an cdv ct) ps (AH C sp):=by
 show L2.AY.okC lk G S (λvs H Q E h=>?_) (λA dD s H vs Q E hr h=>?_)
 .let⟨Z,I,α,M,ds,K,R,r,h,_⟩:=h;rw[r.length];show len ds M K h
 .let⟨t,u,h1,h2,h3⟩:=hbody A dD s H E hr;let{Z,I,α,M,ds,K,R,r,h,k}:=h;let J:=k.dk R.len R.aa;show{t,h1,h2 Z I α _ H _ M _ _ R (Q2 r N) (h3 ds M K R.wf (by rw[<-R.len];show r.bel) h) {λI1 B O H1 Y M1 s1 p1 R1 _ h1=>J _ _ I1 B H1 M1 s1 p1 R1 .non h1,J,λ_ _ _ _ _ _ _ _ _ _ h=>h.elim,λ_ _ _ _ _ _ _ _ _ _ h=>h.elim}}
end
def Su(bs:List Int):Nat->List (List Int)
 |0=>[[]]
 |n+1=>(Su bs n).flatMap λr=>bs.map λb=>r++[b]
theorem Qo :∀(n:Nat)(r:List Int),r∈Su bs n↔r.length=n/\∀b∈r,b∈bs
 |0,r=>by
  rw[Su,Jj]
  constructor
  .rintro rfl;exists W,λ_ z=>nomatch z
  .show λh=>List.eq_nil_of_length_eq_zero h.1
 |n+1,r=>by
  rw[Su,B3]
  constructor
  .rintro⟨q,G,B⟩;let{b,J,rfl}:=Jq.mp B;let{h1,h2}:=(Qo n q).mp G;exists by rw[Jc,h1];rfl,λx hx=>?_;rcases Jw.mp hx with z|z
   .show h2 x z
   .rw[Jj.mp z];show J
  .rintro⟨h1,h2⟩;let ne:r≠[]:=λz=>by rw[z]at h1;cases h1
   show{r.dropLast,(Qo n _).mpr {by rw[List.length_dropLast,h1];rfl,λx hx=>h2 x (List.dropLast_subset r hx)},Jq.mpr {r.getLast ne,h2 _ (List.getLast_mem ne),List.dropLast_concat_getLast ne}}
def gN(u:AQ):AQ:=λρ M K=>u ρ M λd h=>frzK M.length K d h\/K d h
def pQ{C:Cf}{t:TE}{u:AQ}(h:AE C Z t u):AE C Z t (gN u):=λI α σ H ρ M K Q R E O k=>h I α σ H ρ M _ _ R E O λv d I' α' H' J s p G r B=>by
 rcases B with B|B
 .show k.frz R.len R.aa v d I' α' H' J s p G r B
 .show k v d I' α' H' J s p G r B
structure TbK(L:List Pr)(bs:List Int):Prop where
 fr:AU L
 fi:A6 L
 by_:∀p∈L,∀b∈p.2,b∈bs
 ln:L.length<=28
inductive dWordsC(ds:List D)(M:AC)(K:K3):Prop
 |mk:∀(k:Nat)(bs:List Int)(m lg:Int),ds=[.cell k,.lst (bs.map .int),.int m,.int lg]->(M[k]?=some .hand/\(bs.Nodup/\bs≠[]/\bs.length<=24/\0<=m/\m<=6/\1<=lg/\lg<=4)/\∀ws:List (List Int),WOk ws->(∀w∈ws,∀b∈w,b∈bs)->(ws.length:Int)<=bs.length+m*(bs.length-1)->K (.lst (ws.map wD)) M)->dWordsC ds M K
end L3
namespace L2
open PySem PySem.W
def AllL :Nat->(List τ->Prop)->Prop
 |0,Q=>Q []
 |n+1,Q=>∀a,AllL n λl=>Q (a::l)
theorem allL :∀{n:Nat}{Q:List τ->Prop},AllL n Q->∀{us:List τ},us.length=n->Q us
 |0,_,h,[],_=>h
 |n+1,_,h,a::l,e=>allL (h a) (Nat.succ.inj e)
def us2{Q:List τ->Prop}(h:∀a b,Q [a,b])(us:List τ)(hl:us.length=2):Q us:=match us,hl with |[a,b],_=>h a b
structure BX(K:Frag)(x:Str)(st:Stmt)(f:Addr)(fd:Mx):Prop where
 g:nsIn K Cw x=some (some (.ref f))
 F:AY K x x st f fd
structure MtG(K:Frag)(C:Addr)(m q:Str)(st:Stmt)(f:Addr)(fd:Mx):Prop where
 a:C5 K (.ref C) m=some (some (.ref f))
 n:isFn K (.ref f)=true
 F:AY K m q st f fd
def O2(K:Frag)(xs:List Str):Bool:=xs.all λx=>match nsIn K Cw x with|some none=>true|_=>false
theorem Wt{K:Frag}{xs:List Str}(X:K.In h)(G:h.Ns Cw mg)(z:O2 K xs=true)(i:Nat){x:Str}(e:xs[i]?=some x):mg x=none:=by
 let:=List.all_eq_true.mp z x (G3 e);cases q:nsIn K Cw x with
 |none=>rw[q]at this;cases this
 |some o =>
  cases o with
  |none=>show mg_none_of X G q
  |some v=>rw[q]at this;cases this
structure MkG(K:Frag)(C:Addr):Prop where
 m:makesIn K C=true
 k:keepIn K (.ref C)=true
structure CaG(K:Frag)(C:Addr):Prop where
 t:GS K (.ref C)=some (.type "type")
 b:Mm K C (.type "BaseException")=some true
structure Tk(P:E4)(w:H9)(K:Frag)(mg:Str->Option Ca)(dC:Heap):Prop where
 m:∀{x:Str}{v:Ca},nsIn K Cw x=some (some v)->mg x=some v
section
variable{K:Frag}{dC:Heap}{x m q:Str}{k:Nat}{sp:Sp}
abbrev EV(x q:Str)(st:Stmt)(ps:List Str):Prop:=∀(kV doc pm:Ca)(an:Option Addr)(cdv ct:Ca)(us:List Ca),us.length=ps.length->FP (fnOf x q (X9 st) (Xc st) (Zf st) .none kV doc pm an cdv ct) {us,[]}=pure (ps.zip us)
def bn(h:∀(kV doc pm:Ca)(an:Option Addr)(cdv ct:Ca),AllL ps.length λus=>FP (fnOf x q (X9 st) (Xc st) (Zf st) .none kV doc pm an cdv ct) {us,[]}=pure (ps.zip us)):EV x q st ps:=λkV doc pm an cdv ct _ e=>allL (h kV doc pm an cdv ct) e
def X6(Y:Tk P w K mg dC)(g:BX K x st f fd)(ok:AK P w K mg dC A7 k f fd ps sp)(b:EV x x st ps:=by apply bn;(repeat intro _);show W) :
  Aq P w K mg dC x k ps sp:=nY g.F ok (Y.m g.g) (g.F.binds b)
def Op(Y:Tk P w K mg dC)(g:BX K x st f fd)(ok:AK P w K mg dC (CXE P w) k f fd ps sp)(b:EV x x st ps:=by apply bn;(repeat intro _);show W) :
  CalE P w K mg dC x k ps sp:=kC g.F ok (Y.m g.g) (g.F.binds b)
def FT(Y:Tk P w K mg dC)(cl:CQ K C)(g:MtG K C m q st f fd)(ok:AK P w K mg dC A7 k f fd ps sp)(b:EV m q st ps:=by apply bn;(repeat intro _);show W) :
  CY P w K mg dC C m k ps sp:={f,fd,cl,{g.a,g.n,g.F.kp},ok,g.F.binds b}
def mT(Y:Tk P w K mg dC)(mk:MkG K C)(g:MtG K C "__init__" q st f fd)(ok:AK P w K mg dC A7 k f fd ps sp)(h:nsIn K Cw x=some (some (.ref C)))(b:EV "__init__" q st ps:=by apply bn;(repeat intro _);show W) :
  FS P w K mg dC x C k ps sp:={f,fd,{mk.m,g.a,g.n,mk.k},ok,Y.m h,g.F.binds b}
def rx_g(Y:Tk P w K mg dC)(B:CZ K C f)(h:S6 K C=some (some (.ref f)))(g:MtG K C "__init__" q st f fd)(ok:AK P w K mg dC A7 k f fd ps sp)(G:nsIn K Cw x=some (some (.ref C)))(b:EV "__init__" q st ps:=by apply bn;(repeat intro _);show W) :
  Rx P w K mg dC x C k ps sp:={f,fd,B,h,ok,Y.m G,g.F.binds b}
end
end L2
namespace L3
open PySem L2
def tx(t:List Int):MO:=.lst (t.map .int)
def Xl{X:AC}{k:Nat}(h:M[k]?=some m):(M++X)[k]?=some m:=by rwa[Jo (Jd.mp h).1]
section
variable{C:Cf} 
theorem SL(R:AR C Z I α H M):∀{vs:List V}(B:List (D×List Int)),AA C I α vs (B.map (·.1))->(∀z∈B,Y8 M z.1=some (z.2.map .int))->∃P:List (BM×D×List Int),(P.map λq=>V.ref q.1.2.1)=vs/\P.map (·.2)=B/\∀q∈P,Ad C.k H q.1.2.1 (q.1.2.2.map V.int)/\q.1.2.2=q.2.2/\AN C I α (.ref q.1.2.1) q.2.1
 |_,[],r,_=>by cases r.inv;exists [],W,W,λ_ h=>nomatch h
 |_,z::B,r,hz=>by
  cases r with
  |cons a b =>
   let{P,e1,e2,e3}:=SL R B b λz h=>hz z (Jg _ h);let{c,vs,rfl,G,J}:=Ur R a (hz z Je);rw[AA.of_ints _ J]at G;exists((.non,c,z.2),z)::P,by rw[Jm,e1],by rw[Jm,e2],λq O=>?_;rcases Gd.mp O with y|y
   .rw[y];show{G,W,a}
   .show e3 q y
theorem PJ :∀(P:List (BM×D×List Int)),(∀q∈P,AN C I α (.ref q.1.2.1) q.2.1)->AA C I α (P.map λq=>V.ref q.1.2.1) (P.map λq=>q.2.1)
 |[],_=>.nil
 |q::P,h=>.cons (h q Je) (PJ P λx hx=>h x (Jg _ hx))
inductive sortM3(ds:List D)(M:AC)(K:K3):Prop
 |mk:∀(d:D)(zs:List (D×List Int)),ds=[d]->Y8 M d=some (zs.map (·.1))->(zs.length<65536/\(∀z∈zs,Y8 M z.1=some (z.2.map .int))/\(zs.map (·.2)).Nodup)->(∀ys:List (D×List Int),ys.Perm zs->ys.Pairwise (λa b=>HT.lexLt a.2 b.2=true)->K (.lst (ys.map (·.1))) M)->sortM3 ds M K
inductive sortMC3(ds:List D)(M:AC)(K:K3):Prop
 |mk:∀(d:D)(zs:List (D×List Int)),ds=[d]->Y8 M d=some (zs.map (·.1))->(zs.length<65536/\(∀z∈zs,Y8 M z.1=some (z.2.map .int))/\(zs.map (·.2)).Nodup)->(∀ys:List (D×List Int),ys.Perm zs->ys.Pairwise (λa b=>HT.lexLt a.2 b.2=true)->K (.cell M.length) (M++[.lst (ys.map (·.1))]))->sortMC3 ds M K
theorem aH{xs:List V}{d:D}{B:List (D×List Int)}(R:AR C Z I α H M)(r:AA C I α xs [d])(e:Y8 M d=some (B.map (·.1)))(a0:B.length<65536)(hz:∀z∈B,Y8 M z.1=some (z.2.map .int))(nd:(B.map (·.2)).Nodup)(h:∀(O:Addr)(G:List (BM×D×List Int)),H O=none->(G.map (·.2)).Perm B->(G.map (·.2)).Pairwise (λa b=>HT.lexLt a.2 b.2=true)->AA C I α (G.map λq=>V.ref q.1.2.1) (G.map λq=>q.2.1)->Q (.ref O) (upd H O (.lst (G.map λq=>V.ref q.1.2.1)))):Ig C.k xs H Q:=by
 show AA.e1 r λ_ r1=>?_;let{a,vs,rfl,ea,ra}:=Ur R r1 e;let{P,e1,e2,e3}:=SL R B ra hz;let ll:P.length=B.length:=by have:=congrArg Hf e2;simpa using this
 let e4:(P.map (·.1)).map (·.2.2)=B.map (·.2):=by
  rw[<-e2,Jy,Jy];show Bj λq J=>(e3 q J).2.1
 exists a,P.map (·.1),W,by rw[Jy];rw[<-e1]at ea;show ea,by rw[Ja];lia,λq J=>?_,by rwa[e4],λO L' hD pm pw=>?_
 .let⟨p,hp,rfl⟩:=Jq.mp J;show(e3 p hp).1
 .let⟨G,Y,rfl⟩:=S0 pm W;rw[Jy];show h O G hD (by rw[<-e2];show Y.map _) ?_ (PJ G λq J=>(e3 q (Y.mem_iff.mp J)).2.2);rw[Jz]at pw⊢;show pw.imp_of_mem λ{a b}ha hb hl=>?_;rwa[<-(e3 a (Y.mem_iff.mp ha)).2.1,<-(e3 b (Y.mem_iff.mp hb)).2.1]
def xI:BK C Z (Ig C.k) sortM3:=λI α H M xs ds K Q R r h k=>by
 let{d,zs,rfl,e,{B,hz,nd},h}:=h;show aH R r e B hz nd λDa P' O pm pw J=>?_;let{R4,G,Y}:=R.new (o:=.lst (P'.map λq=>V.ref q.1.2.1)) O;show k _ _ _ α _ M G (Jn _) R4 (.lst Y ?_) (h _ pm pw);rw[Jy];show J.mono G (Jn _)
def yM:BK C Z (Ig C.k) sortMC3:=λI α H M xs ds K Q R r h k=>by
 let{d,zs,rfl,e,{B,hz,nd},h}:=h;show aH R r e B hz nd λDa G Y pm pw J=>?_;let{R4,O,e4}:=R.cell (o:=.lst (G.map λq=>V.ref q.1.2.1)) (m:=.lst ((G.map (·.2)).map (·.1))) Y λH' e=>{_,e,by rw[Jy];show J};show k _ _ I _ _ _ (.refl _) O R4 (.cell e4) (h _ pm pw)
end
end L3
namespace L2
open PySem
def OF(K:Cq)(a:Addr):Bool:=match K.lookup a with
 |some o=>(match o.cls,o.data with
  |.type t,.seq its _=>t == "tuple" && (match its.toList with
   |[.int z _,.ref e]=>z==0&&(match K.lookup e with
    |some h=>(match h.cls,h.data with|.type u,.seq its2 _=>u == "tuple" && its2.toList.isEmpty|_,_=>false)
    |none=>false)
   |_=>false)
  |_,_=>false)
 |none=>false
theorem zM(h:OF K a=true):Aj K (λ_=>none) [.k 0,.t []] a:=by
 unfold OF at h;cases e1:K.lookup a with
 |none=>rw[e1]at h;cases h
 |some o =>
  rw[e1]at h;dsimp only at h
  split at h
  .rename_i t its n hc hd
   rw[B2]at h;let{ht,h}:=h
   split at h
   .rename_i z tk e hi
    rw[B2]at h;let{hz,h}:=h;cases e2:K.lookup e with
    |none=>rw[e2]at h;cases h
    |some Z =>
     rw[e2]at h;dsimp only at h
     split at h
     .rename_i u B n2 O J
      rw[B2]at h;let{hu,G}:=h;let l1:its.size<=Cb:=by rw[<-Jl,hi];show(by decide:2<=Cb)
      let Y:B.toList=[]:=List.isEmpty_iff.mp G;let l3:B.size<=Cb:=by rw[<-Jl,Y];show J9 _
      let hz:z=0:=beq_iff_eq.mp hz;show{[.int 0,.ref e],.inr {o,its,n,e1,by rw[hc,beq_iff_eq.mp ht],hd,l1,?_},.cons W (.cons {e,W,.inr {Z,B,n2,e2,by rw[O,beq_iff_eq.mp hu],J,l3,?_}} .nil)}
      .rw[hi,hz];show .cons {tk,W} (.cons W .nil)
      .rw[Y];show .nil
     .cases h
   .cases h
  .cases h
end L2
namespace L3
open PySem L2
section
variable{C:Cf} 
def itOf:D->Option (List Int)
 |.itp x=>some x
 |.tup ds=>intsOf ds
 |_=>none
 where intsOf:List D->Option (List Int)
 |[]=>some []
 |.int i::r=>(intsOf r).map (i::·)
 |_=>none
theorem WX:∀{ds:List D}{x:List Int},itOf.intsOf ds=some x->ds=x.map D.int
 |[],x,h=>by cases h;rfl
 |.int i::r,x,h=>by
  unfold itOf.intsOf at h;let{y,B,rfl}:=Gq.mp h;rw[WX B];rfl
 |.non::_,_,h|.bl _::_,_,h|.str _::_,_,h|.ty _::_,_,h|.at _::_,_,h|.tup _::_,_,h|.lst _::_,_,h|.frz _::_,_,h|.dct _::_,_,h|.dcT _::_,_,h|.code _::_,_,h|.cell _::_,_,h|.exc _ _::_,_,h|.nst _::_,_,h|.itp _::_,_,h=>nomatch h
theorem Nt:∀x:List Int,itOf.intsOf (x.map D.int)=some x
 |[]=>rfl
 |i::r=>by show(itOf.intsOf (r.map D.int)).map (i::·)=_;rw[Nt r];rfl
def oQ(x:List Int):itOf (.tup (x.map D.int))=some x:=Nt x
theorem bC(r:AN C I α v d)(h:itOf d=some x):∃a,v=.ref a/\A2 C.k I a (x.map V.int):=by
 cases r with
 |itp e=>cases h;show{·,e}
 |tup e r=>obtain rfl:=WX h;rw[AA.of_ints x r]at e;show{·,A2.of e}
 |_=>cases h
def niOf:D->Option NI
 |.int z=>some (.k z)
 |.bl t=>some (.b t)
 |d=>(itOf d).map .t
def EE:List D->Option (List NI)
 |[]=>some []
 |d::r=>match niOf d,EE r with|some k,some ks=>some (k::ks)|_,_=>none
theorem gE(r:AN C I α v d)(h:niOf d=some k):NkV C.k I k v:=by
 let B:∀{x:List Int},itOf d=some x->NkV C.k I (.t x) v:=λhx=>by
  let{a,rfl,e}:=bC r hx;show{a,W,e}
 cases r with
 |int i=>cases h;show W
 |bl b=>cases h;show W
 |itp e=>cases h;show B W
 | @tup a vs ds e r =>
  let h:(itOf (.tup ds)).map NI.t=some k:=h;let{x,hx,rfl}:=Gq.mp h;show B hx
 |_=>cases h
theorem Pv:∀{vs:List V}{ds:List D}{ks:List NI},AA C I α vs ds->EE ds=some ks->Paired (NkV C.k I) ks vs
 |_,_,_,.nil,h=>by cases h;show .nil
 |_,_,_,.cons (d:=d) (ds:=ds) r t,h=>by
  unfold EE at h;cases h1:niOf d with
  |none=>rw[h1]at h;cases h
  |some k =>
   cases h2:EE ds with
   |none=>rw[h1,h2]at h;cases h
   |some ks=>rw[h1,h2]at h;cases h;show .cons (gE r h1) (Pv t h2)
inductive uTupN_2(K:K3)(ds:List D)(M1:AC):Prop
 |mk:∀ks,EE ds=some ks->K (.nst ks) M1->uTupN_2 K ds M1
abbrev Zpm(K:K3):List D->AC->Prop:=λds M1=>ds.length<=Cb/\uTupN_2 K ds M1
def zJ(u:CA):AQ:=λρ M K=>u ρ M (Zpm K)
def Zun(ha:Ap C Z t u):AE C Z (tTup t) (zJ u):=λI α σ H ρ M K Q R E h k =>
 ha I α σ H ρ M _ _ R E h λvs ds I1 B H1 M1 O Y R1 J h1=>by
  let{hl,ks,hk,h1}:=h1;exists by rwa[J.length],λp hp=>?_;let{R2,G,e2}:=R1.new (o:=.tup vs) hp;show k _ _ _ B _ M1 (O.trans G) Y R2 (.nst {vs,A2.of e2,Pv (J.mono G (Jn _)) hk}) h1
def II(h:Aj C.k (λ_=>none) ks a):AE C Z (tC (.ref a)) (uC (.nst ks)):=EQ λI α=>.nst (h.same λ_ _ e=>by cases e)
def niD3:NI->D
 |.k z=>.int z
 |.t x=>.itp x
 |.b t=>.bl t
theorem tL(h:NkV C.k I k v):AN C I α v (niD3 k):=by
 cases k with
 |k z=>cases(show v=.int z from h);show .int z
 |t x=>obtain⟨a,rfl,e⟩:=h;show .itp e
 |b t=>cases(show v=.bl t from h);show .bl t
theorem nO(r:Paired (NkV C.k I) ks vs):AA C I α vs (ks.map niD3):=by
 induction r with
 |nil=>show .nil
 |cons a b h=>show .cons (tL a) h
inductive ixN3(d:D)(e:D)(M:AC)(K:K3):Prop
 |mk:∀ks i k,d=.nst ks->e=.int i->L2.atI ks i=some k->K (niD3 k) M->ixN3 d e M K
theorem qX(f:τ->υ){xs:List τ}{i:Int}{x:τ}(h:L2.atI xs i=some x):L2.atI (xs.map f) i=some (f x):=by
 unfold L2.atI at h⊢;rw[Ja];cases e:ixN xs.length i with
 |none=>rw[e]at h;cases h
 |some j =>
  rw[e]at h;let h:xs[j]?=some x:=h;show(xs.map f)[j]?=_;rw[Gi,h];rfl
def GL:BH C Z (rIx C.k) ixN3:=λI α H M x y d e K Q R J G h k=>by
 let{ks,i,Y,rfl,rfl,e3,h}:=h;cases G.inv;let{_,rfl,n}:=J.inv;let{vs,e,r}:=n;let{v,O,B}:=(nO (α:=α) r).atI (qX niD3 e3);show .inr (.inl {_,vs,i,v,W,W,Qg R.sub e,O,k.now R B h})
inductive addI3(d:D)(e:D)(M:AC)(K:K3):Prop
 |mk:∀x y,itOf d=some x->e=.tup (y.map D.int)->x.length+y.length<=Cb->y≠[]->K (.tup ((x++y).map D.int)) M->addI3 d e M K
def tZ:BH C Z (Oq C.k) addI3:=λI α H M x y d e K Q R Y G h k=>by
 let{xs,ys,hx,rfl,hl,hy,h}:=h;let{a,rfl,ia}:=bC Y hx;let{b,ws,rfl,J,ib,rb}:=Ue R G W
 by_cases hx:xs=[]
 .subst hx;show .inl {a,b,ws,W,W,Qg R.sub ia,A2.of J,k.now R G h}
 .let B:=AA.of_ints ys rb;show .inr {a,b,_,ws,W,W,Qg R.sub ia,A2.of J,λz=>hx (by simpa using z),by rwa[rb.length,Ja,Ja],λz=>?_,λ_ p hp=>?_}
  .rw[z]at B;show D0 (Dp.mp B.symm) hy
  .let⟨R2,O,e2⟩:=R.new (o:=.tup (xs.map V.int++ws)) hp;show k.on O R2 (.tup e2 ?_) h;rw[Ji,B];show(AA.ints xs).app (AA.ints ys)
def N5(kvs:List (List NI×D))(k:List NI):Option D:=(kvs.find? λx=>decide (x.1=k)).map (·.2)
def DS(kvs:List (List NI×D))(k:List NI)(v:D):List (List NI×D):=if(kvs.any λx=>decide (x.1=k))then kvs.map (λx=>if x.1=k then(x.1,v)else x)else kvs++[(k,v)]
def W7(M:AC):D->Option (List Nat×List (List NI×D))
 |.cell k=>match M[k]? with|some (.dcN sh _ kvs)=>some (sh,kvs)|_=>none
 |_=>none
theorem LB{sh:List Nat}{kvs:List (List NI×D)}(R:AR C Z I α H M)(r:AN C I α v d)(h:W7 M d=some (sh,kvs)):∃a vs,v=.ref a/\Rd H a (.ext (CC a vs))/\P1 C I sh vs/\BS C I α vs kvs:=by
 cases r with
 | @cell a k e =>
  unfold W7 at h;cases hm:M[k]? with
  |none=>simp only[hm]at h;cases h
  |some m =>
   cases m with
   |dcN s z es =>
    simp only[hm]at h;cases h;let q:=(R.cel k a _ e hm).1;cases z with
    |none=>obtain⟨vs,e1,n,r⟩:=q;show{_,·,.inl e1,n,r}
    |some z=>show{_,z.2,W,.inr {_,q.1},q.2.1,q.2.2}
   |_=>simp only[hm]at h;cases h
 |_=>cases h
def P1.dn{sh:List Nat}{vs:List Az}{a:Addr}(h:P1 C I sh vs)(s:AL I H)(e:Rd H a (.ext (CC a vs))):DnAt C.k H a sh vs:={e,λx hx=>{(h x hx).1.same s,(h x hx).2}}
theorem BS.val{vs:List Az}{kvs:List (List NI×D)}(r:BS C I α vs kvs)(k:List NI):(N5 kvs k=none/\valN vs k=none)\/∃x y,N5 kvs k=some x/\valN vs k=some y/\AN C I α y x:=by
 unfold N5 valN
 induction r with
 |nil=>show .inl {W,W}
 | @cons p q ps qs h t ih =>
  rw[Gu,Gu,h.1]
  by_cases e:q.1=k
  .rw[Ab e];show .inr {_,_,W,W,h.2}
  .rw[BB e];show ih
def BS.put{vs:List Az}{kvs:List (List NI×D)}{v:V}{d:D}(r:BS C I α vs kvs)(k:List NI)(b:Addr)(G:AN C I α v d):BS C I α (putN vs k b v) (DS kvs k d):=by
 let ea:(vs.any λx=>decide (x.1=k))=kvs.any λx=>decide (x.1=k):=by
  induction r with
  |nil=>rfl
  |cons h t B=>rw[B5,B5,h.1,B]
 unfold putN DS;rw[ea]
 split
 .rename_i J
  clear ea J
  induction r with
  |nil=>show .nil
  | @cons p q ps qs h t B =>
   show .cons ?_ B;dsimp only;rw[h.1]
   by_cases e:q.1=k
   .rw[D9 e,D9 e];show{W,G}
   .rw[D8 e,D8 e];show h
 .show Paired.snoc {W,G} r
def P1.put{sh:List Nat}{vs:List Az}{k:List NI}{b:Addr}{v:V}(h:P1 C I sh vs)(G:Aj C.k I k b)(hs:k.map NI.sh=sh):P1 C I sh (putN vs k b v):=λx hx=>by
 unfold putN at hx
 split at hx
 .let⟨y,B,rfl⟩:=Jq.mp hx
  split
  .show h y B
  .show h y B
 .rcases Jw.mp hx with z|z
  .show h x z
  .rw[Jj.mp z];show{G,hs}
def BS.len{vs:List Az}{kvs:List (List NI×D)}(r:BS C I α vs kvs):vs.length=kvs.length:=Paired.length r
def nGet(M:AC)(d e:D)(o:Option D):Prop:=∃sh kvs ks,W7 M d=some (sh,kvs)/\e=.nst ks/\ks.map NI.sh=sh/\o=N5 kvs ks
def MF{v w:V}{d e:D}{o:Option D}(R:AR C Z I α H M)(J:AN C I α v d)(G:AN C I α w e)(h:nGet M d e o):∃a o',v=.ref a/\NGet C.k H a w o'/\((o=none/\o'=none)\/∃x y,o=some x/\o'=some y/\AN C I α y x):=by
 let{sh,kvs,ks,e1,rfl,es,rfl}:=h;let{a,vs,rfl,ea,O,B}:=LB R J e1;let{_,rfl,n}:=G.inv;show{a,valN vs ks,W,{_,sh,vs,ks,W,O.dn R.sub ea,n.same R.sub,es,W},?_};rcases B.val ks with⟨h1,h2⟩|⟨x,y,h1,h2,h3⟩
 .show .inl {h1,h2}
 .show .inr {x,y,h1,h2,h3}
end
section
variable{C:Cf}{tc:TE}{uc:AQ}
def ZE(sh:List Nat):AQ:=λ_ M K=>K (.cell M.length) (M++[.dcN sh none []])
def Ir{sh:List Nat}:AE C Z WT (ZE sh):=λI α σ H ρ M K Q R E h k p B=>by
 let{R2,p2,e2}:=R.cell (o:=.ext (CC p [])) (m:=.dcN sh none []) B λH' e=>{[],e,(λ_ h=>nomatch h),Paired.nil};show k _ _ I _ _ _ (.refl _) p2 R2 (.cell e2) h
inductive uNGet_2(K:K3)(d:D)(e:D)(M2:AC):Prop
 |mk:∀v,nGet M2 d e (some v)->K v M2->uNGet_2 K d e M2
abbrev jQ(ub:AQ)(ρ:Ev)(K:K3):D->AC->Prop:=λd M1=>ub ρ M1 (uNGet_2 K d)
def LA(ua ub:AQ):AQ:=λρ M K=>ua ρ M (jQ ub ρ K)
def Q0(ha:AE C Z ta ua)(hb:AE C Z tb ub):AE C Z (YJ C.k ta tb) (LA ua ub):=λI α σ H ρ M K Q R E h k =>
 ha I α σ H ρ M _ _ R E h λv d I1 G H1 M1 O Y R1 r1 h1 =>
  hb I1 G σ H1 ρ M1 _ _ R1 (E.mono O Y) h1 λw e I2 B H2 M2 J p2 R2 r2 h2=>by
   let{x,g,h2}:=h2;let{a,o',rfl,g2,z}:=MF R2 (r1.mono J p2) r2 g;rcases z with⟨z,_⟩|⟨x',y,z1,z2,z3⟩
   .cases z
   .cases z1;subst z2;show{a,y,W,g2,k _ _ I2 B H2 M2 (O.trans J) (Y.trans p2) R2 z3 h2}
inductive uNNotIn_2(K:K3)(e:D)(d:D)(M2:AC):Prop
 |mk:∀o,nGet M2 d e o->K (.bl (!o.isSome)) M2->uNNotIn_2 K e d M2
abbrev qQ(ua:AQ)(ρ:Ev)(K:K3):D->AC->Prop:=λe M1=>ua ρ M1 (uNNotIn_2 K e)
def uO(ub ua:AQ):AQ:=λρ M K=>ub ρ M (qQ ua ρ K)
def iK(hb:AE C Z tb ub)(ha:AE C Z ta ua):AE C Z (RU C.k tb ta) (uO ub ua):=λI α σ H ρ M K Q R E h k =>
 hb I α σ H ρ M _ _ R E h λw e I1 G H1 M1 O Y R1 r1 h1 =>
  ha I1 G σ H1 ρ M1 _ _ R1 (E.mono O Y) h1 λv d I2 B H2 M2 J p2 R2 r2 h2=>by
   let{o,g,h2}:=h2;let{a,o',rfl,g2,z}:=MF R2 r2 (r1.mono J p2) g;let eo:o'.isSome=o.isSome:=by
    rcases z with⟨rfl,rfl⟩|⟨x',y,rfl,rfl,_⟩<;>rfl
   show{a,o',W,g2,by rw[eo];show k _ _ I2 B H2 M2 (O.trans J) (Y.trans p2) R2 (.bl _) h2}
inductive uNGet2_3(K:K3)(d:D)(e:D)(x:D)(M3:AC):Prop
 |mk:∀o,nGet M3 d e o->K (o.getD x) M3->uNGet2_3 K d e x M3
abbrev Zle(uc:AQ)(ρ:Ev)(K:K3)(d:D):D->AC->Prop:=λe M2=>uc ρ M2 (uNGet2_3 K d e)
abbrev Zlf(ub:AQ)(uc:AQ)(ρ:Ev)(K:K3):D->AC->Prop:=λd M1=>W7 M1 d≠none/\ub ρ M1 (Zle uc ρ K d)
def tQ(ua ub uc:AQ):AQ:=λρ M K=>ua ρ M (Zlf ub uc ρ K)
def kT(ha:AE C Z ta ua)(hb:AE C Z tb ub)(hc:AE C Z tc uc):AE C Z (UI C.k ta tb tc) (tQ ua ub uc):=λI α σ H ρ M K Q R E h k =>
 ha I α σ H ρ M _ _ R E h λv d I1 a1 H1 M1 O p1 R1 r1 h1=>by
  cases hd:W7 M1 d with
  |none=>show D0 hd h1.1
  |some q =>
   let{a,vs,rfl,ea,nk,ra}:=LB R1 r1 hd;exists a,W,{_,_,nk.dn R1.sub ea},hb I1 a1 σ H1 ρ M1 _ _ R1 (E.mono O p1) h1.2 λw e I2 a0 H2 M2 J p2 R2 r2 h2=>?_;show hc I2 a0 σ H2 ρ M2 _ _ R2 (E.mono (O.trans J) (p1.trans p2)) h2 λx' x I3 B H3 M3 G Y R3 r3 h3=>?_;let{o,g,h3}:=h3;let{b,o',eb,g2,z}:=MF R3 (r1.mono (J.trans G) (p2.trans Y)) (r2.mono G Y) g;cases eb;show{o',g2,?_};rcases z with⟨rfl,rfl⟩|⟨x',y,rfl,rfl,z3⟩
   .show k _ _ I3 B H3 M3 (O.trans (J.trans G)) (p1.trans (p2.trans Y)) R3 r3 h3
   .show k _ _ I3 B H3 M3 (O.trans (J.trans G)) (p1.trans (p2.trans Y)) R3 z3 h3
inductive uNPut_3(E:AT)(ρ:Ev)(v:D)(d:D)(e:D)(M3:AC):Prop
 |mk:∀j sh kvs ks,d=.cell j->M3[j]?=some (.dcN sh none kvs)->e=.nst ks->ks.map NI.sh=sh->kvs.length<Cb->E.nx ρ (M3.set j (.dcN sh none (DS kvs ks v)))->uNPut_3 E ρ v d e M3
abbrev wN(ub:AQ)(E:AT)(ρ:Ev)(v:D):D->AC->Prop:=λd M2=>ub ρ M2 (uNPut_3 E ρ v d)
abbrev gZ(ua:AQ)(ub:AQ)(E:AT)(ρ:Ev):D->AC->Prop:=λv M1=>ua ρ M1 (wN ub E ρ v)
def ZX(ua ub uc:AQ):BW:=λE ρ M=>uc ρ M (gZ ua ub E ρ)
def ML(ha:AE C Z ta ua)(hb:AE C Z tb ub)(hc:AE C Z tc uc):A8 C Z (XS C.k ta tb tc) (ZX ua ub uc):=λI α σ H ρ M E D' R RE h F =>
 hc I α σ H ρ M _ _ R RE h λv d0 I1 a2 H1 M1 J Y R1 r1 h1=>ha I1 a2 σ H1 ρ M1 _ _ R1 (RE.mono J Y) h1 λx d I2 a1 H2 M2 G p2 R2 r2 h2 =>
  hb I2 a1 σ H2 ρ M2 _ _ R2 (RE.mono (J.trans G) (Y.trans p2)) h2 λy e I3 a0 H3 M3 B O R3 r3 h3=>by
   let{j,sh,kvs,ks,rfl,e1,rfl,es,hl,h3}:=h3;let rv:=r1.mono (G.trans B) (p2.trans O);let{a,rfl,ec}:=(r2.mono B O).inv;let{vs,ea,nk,ra}:=(R3.cel j a _ ec e1).1;cases r3 with
   | @nst b _ n =>
    exists a,b,sh,vs,ks,W,W,nk.dn R3.sub (.inl ea),ea,by rwa[ra.len],n.same R3.sub,es,?_;show F.nx I3 a0 σ _ ρ _ (J.trans (G.trans B)) (Y.trans (p2.trans O)) (R3.put (m:=.dcN sh none (DS kvs ks d0)) ec λH' e=>{_,e,nk.put n es,ra.put ks b rv}) (RE.mono (J.trans (G.trans B)) (Y.trans (p2.trans O))) h3
def nIt(k:Nat)(sh:List Nat)(z:Obj×List Az)(kvs:List (List NI×D)):DH:={kvs.length,λi x=>∃h,kvs[i]?=some h/\x=.nst h.1,λM=>M[k]?=some (.dcN sh (some z) kvs)}
inductive uIDN_1(K:DH->AC->Prop)(d:D)(M1:AC):Prop
 |mk:∀k sh y kvs,d=.cell k->M1[k]?=some (.dcN sh y kvs)->(∀z,K (nIt k sh z kvs) (M1.set k (.dcN sh (some z) kvs)))->uIDN_1 K d M1
def uIDN(ue:AQ):TI3:=λρ M K=>ue ρ M (uIDN_1 K)
def QQ{k:Nat}{a:Addr}{z:Obj×List Az}{kvs:List (List NI×D)}(ea:α[k]?=some a):ItR C Z I α (ItdN C.k a z.1 z.2) (nIt k sh z kvs):=λI' α' H' O s p R ok=>by
 let m:=(R.cel k a _ (Q6 p ea) ok).1;let h:=m.2.2.len;exists λi hi=>{{m.1,by rwa[h]},λx Y y=>?_},{m.1,by rw[h];show Jk _};let{rfl,B,e1,rfl}:=y;let{G,J}:=Jd.mp e1;let{g,_}:=L2.Paired.at m.2.2 G hi;rw[J]at g;show{I',.nst B.1,.refl _,R,.nst (m.2.1 B (G3 e1)).1,kvs[i],Jb hi,by rw[g]}
def fT(he:AE C Z ta ua):SimI C Z (SN C.k ta) (uIDN ua):=λI α σ H ρ M K R' R RE h Y =>
 he I α σ H ρ M _ _ R RE h λv d I1 B H1 M1 J O G r1 h1=>by
  let{k,sh,y,kvs,rfl,e,h1}:=h1;let{a,rfl,ea}:=r1.inv;let q:=(G.cel k a _ ea e).1;cases y with
  |none =>
   let{vs,e1,n,r}:=q;show{a,vs,W,.inl {e1,λo=>Y _ _ I1 B _ _ J O (G.put (m:=.dcN sh (some (o,vs)) kvs) ea λH' e'=>{e',n,r}) (QQ (z:=(o,vs)) ea) (h1 (o,vs))}}
  |some z =>
   show{a,z.2,W,.inr {z.1,q.1,Y _ _ I1 B _ _ J O ?_ (QQ ea) (h1 z)}};show G.reset (m:=.dcN sh (some z) kvs) ea q
def decP:List Int->List NI
 |z::w=>[.k z,.t w]
 |[]=>[]
inductive sortSp3(rv:Bool)(ds:List D)(M:AC)(K:K3):Prop
 |mk:∀d kvs,ds=[d]->W7 M d=some ([0,1],kvs)->kvs.length<65536->(∀ws:List (List Int),ws.Perm (kvs.map λq=>encP q.1)->ws.Pairwise (λa b=>if rv then HT.lexLt b a=true else HT.lexLt a b=true)->K (.lst (ws.map λw=>.nst (decP w))) M)->sortSp3 rv ds M K
def vD :BK C Z (IJ C.k rv) (sortSp3 rv):=λI α H M xs ds K Q R r h k=>by
 let{d,kvs,rfl,e,J,h}:=h;show AA.e1 r λ_ r1=>?_;let{a,vs,rfl,ea,O,ra}:=LB R r1 e;show{a,vs,W,O.dn R.sub ea,by rw[ra.len];show J,λDa L0 hD G B=>?_};let pm:=(Sr rv L0).trans G;let pw:(CO rv L0).Pairwise λa b=>if rv then HT.lexLt b.2.2 a.2.2=true else HT.lexLt a.2.2 b.2.2=true:=by
  cases rv with
  |true=>show List.pairwise_reverse.mpr (B.imp λz=>by simpa using z)
  |false=>show B.imp λz=>by simpa using z
 generalize CO rv L0=L' at *
 let{R4,s4,e4}:=R.new (o:=.lst (L'.map λq=>V.ref q.2.1)) hD;let ek:kvs.map (λq=>encP q.1)=(kitN vs).map (·.2.2):=by
  unfold kitN;rw[Jy];clear e J h pm G O ea
  induction ra with
  |nil=>rfl
  |cons a b Y=>rw[Jm,Jm,Y,<-a.1];rfl
 show k _ (.lst ((L'.map (·.2.2)).map λw=>.nst (decP w))) _ α _ M s4 (Jn _) R4 (.lst e4 ?_) (h _ (by rw[ek];show pm.map _) (Jz.mpr pw));let all:∀q∈L',AN C I α (.ref q.2.1) (.nst (decP q.2.2)):=λq hq=>by
  let{x,hx,rfl}:=Jq.mp (pm.mem_iff.mp hq);let{n,es}:=O x hx;let{z,w,e}:=Ik es;show AN C I α (.ref x.2.1) (.nst (decP (encP x.1)));rw[e]at n⊢;show .nst n
 let go:∀L:List BM,(∀q∈L,AN C I α (.ref q.2.1) (.nst (decP q.2.2)))->AA C I α (L.map λq=>V.ref q.2.1) ((L.map (·.2.2)).map λw=>D.nst (decP w)):=λL=>by
  induction L with
  |nil=>show λ_=>.nil
  |cons q L Y=>show λall=>.cons (all q Je) (Y λx hx=>all x (Jg _ hx))
 show(go L' all).mono s4 (Jn _)
def vO(h:Ap C Z t u):AE C Z (RG C.k t) (uCB (sortSp3 true) u):=Ah vD h
end
abbrev AM:=Nat×List Int
abbrev IsWd(S:List Pr)(u:List Int):Prop:=∃p∈S,p.2=u
def Wh(kn:List (Option Int))(a:Nat)(h:List Int):List (List Int):=((C2 h.length).filter λk=>decide (kn[a+k]?=some none)).map h.drop
def bt(kn:List (Option Int))(S:List Pr)(p:Nat)(sw:List Int)(b:Int):Option (List Int) :=
 match kn[p]? with
 |none=>none
 |some o=>if(o.isSome=true/\o≠some b)\/(Wh kn (p+1-(sw++[b]).length) (sw++[b])).any (λu=>decide (IsWd S u))=true then none
  else some (((Wh kn (p+1-(sw++[b]).length) (sw++[b])).find? λu=>decide (Live S u)).getD [])
def wt(kn:List (Option Int))(S:List Pr):AM->List Int->Option AM
 |sp,[]=>some sp
 |sp,b::w=>(bt kn S sp.1 sp.2 b).bind λsw=>wt kn S (sp.1+1,sw) w
section
def Xs(kn:List (Option Int))(S:List Pr)(sp:AM):Prop:=sp.2.length<=sp.1/\sp.1<=kn.length/\(sp.2=[]\/Live S sp.2)
theorem QO(h:bt kn S p sw b=some sw'):p<kn.length:=by
 unfold bt at h;cases e:kn[p]? with
 |none=>rw[e]at h;cases h
 |some o=>show(Jd.mp e).1
theorem sD(h:bt kn S p sw b=some sw')(l:sw.length<=p):Xs kn S (p+1,sw'):=by
 let G:=QO h;unfold bt at h;cases e:kn[p]? with
 |none=>rw[e]at h;cases h
 |some o =>
  rw[e]at h;dsimp only at h
  split at h
  .cases h
  .cases h;show{?_,G,?_}
   .cases f:(Wh kn (p+1-(sw++[b]).length) (sw++[b])).find? (λu=>decide (Live S u))with
    |none=>show J9 _
    |some u =>
     let B:=Fo f;unfold Wh at B;let{k,_,rfl}:=Jq.mp B;show((sw++[b]).drop k).length<=p+1;rw[Gf,Jc];show sw.length+1-k<=p+1;lia
   .cases f:(Wh kn (p+1-(sw++[b]).length) (sw++[b])).find? (λu=>decide (Live S u))with
    |none=>show .inl W
    |some u =>
     let:=List.find?_some f;show .inr (Dz this)
theorem Qu:∀(u v:List Int)(sp:AM),wt kn S sp (u++v)=(wt kn S sp u).bind λsp'=>wt kn S sp' v
 |[],_,_=>rfl
 |b::u,v,sp=>by
  show(bt kn S sp.1 sp.2 b).bind _=((bt kn S sp.1 sp.2 b).bind _).bind _;cases bt kn S sp.1 sp.2 b with
  |none=>rfl
  |some sw=>show Qu u v _
theorem Yv:∀{w:List Int}{sp sp':AM},wt kn S sp w=some sp'->Xs kn S sp->Xs kn S sp'/\sp'.1=sp.1+w.length
 |[],sp,sp',h,g=>by cases h;show{g,W}
 |b::w,sp,sp',h,g=>by
  let h:(bt kn S sp.1 sp.2 b).bind (λsw=>wt kn S (sp.1+1,sw) w)=some sp':=h;cases e:bt kn S sp.1 sp.2 b with
  |none=>rw[e]at h;cases h
  |some sw =>
   rw[e]at h;let{a,c}:=Yv (w:=w) h (sD e g.1);show{a,by rw[c,Ju];show sp.1+1+_=_;lia}
def T6:Xs kn S (0,[]):={Jk _,J9 _,.inl W}
structure BO(kn:List (Option Int))(S:List Pr)(r:List Int):Prop where
 len:r.length<=kn.length
 mt:∀(i:Nat)(b:Int),kn[i]?=some (some b)->i<r.length->r[i]?=some b
 no:∀i j,kn[i]?=some none->i<j->j<=r.length->¬ IsWd S ((r.take j).drop i)
def SwOf(kn:List (Option Int))(S:List Pr)(r sw:List Int):Prop :=
 (∃i,i<r.length/\kn[i]?=some none/\sw=r.drop i/\Live S sw/\∀k,k<i->kn[k]?=some none->¬ Live S (r.drop k))\/(sw=[]/\∀k,k<r.length->kn[k]?=some none->¬ Live S (r.drop k))
theorem nU(h:Live S (u++[b])):Live S u:=by
 let{w,hw,B,l}:=h;rw[Jc]at l;show{w,hw,(Gj u [b]).trans B,by have:[b].length=1:=rfl;lia}
def wH(h:IsWd S (u++[b])):Live S u:=by
 let{p,B,e}:=h;exists p.2,Bi B,by rw[e];show Gj _ _,?_;rw[e,Jc];show B1 _
def Zqf(h:SwOf kn S r sw):∃i,i<=r.length/\sw=r.drop i/\∀k,k<i->kn[k]?=some none->¬ Live S (r.drop k):=by
 rcases h with⟨i,hi,_,e,_,n⟩|⟨e,n⟩
 .show{i,Fg hi,e,n}
 .exists r.length,Jk _,by rw[e,List.drop_length],n
theorem yG{i:Nat}(hi:i<=r.length)(u:List Int):u∈Wh kn i (r.drop i)↔∃k,i<=k/\k<r.length/\kn[k]?=some none/\u=r.drop k:=by
 unfold Wh;rw[Jq]
 constructor
 .rintro⟨k,h,rfl⟩;let{h1,h2}:=Gm.mp h;let h1:=G1.mp h1;rw[Gf]at h1;show{i+k,(),(),Dz h2,by rw[Fy]}
 .rintro⟨k,h1,h2,h3,rfl⟩;show{k-i,Gm.mpr {G1.mpr (by rw[Gf];lia),Ab (by rwa[show i+(k-i)=k by lia])},by rw[Fy,show i+(k-i)=k by lia]}
theorem xA{xs:List Nat}(f:Nat->τ)(q:τ->Bool)(hs:xs.Pairwise (· < ·)){y:τ}(h:(xs.map f).find? q=some y):∃k∈xs,f k=y/\q y=true/\∀j∈xs,j<k->q (f j)=false:=by
 induction xs with
 |nil=>cases h
 |cons x xs G =>
  rw[Jm,Gu]at h;cases e:q (f x)with
  |true =>
   rw[e]at h;cases h;exists x,Je,W,e,λj B l=>?_;rcases Gd.mp B with z|z
   .lia
   .let:=(Bo.mp hs).1 j z;lia
  |false =>
   rw[e]at h;let{k,J,e1,e2,e3}:=G (Bo.mp hs).2 h;exists k,Jg _ J,e1,e2,λj B l=>?_;rcases Gd.mp B with z|z
   .rw[z];show e
   .show e3 j z l
theorem mI{b:Int}(ok:BO kn S r)(h:SwOf kn S r sw)(hl:r.length<kn.length) :
  (∀B,bt kn S r.length sw b=some B->BO kn S (r++[b])/\SwOf kn S (r++[b]) B)/\(bt kn S r.length sw b=none->¬ BO kn S (r++[b])):=by
 let{i,hi,rfl,hn}:=Zqf h;let er:r.drop i++[b]=(r++[b]).drop i:=by rw[List.drop_append_of_le_length hi]
 let lr:(r++[b]).length=r.length+1:=by rw[Jc];rfl
 let ea:r.length+1-(r.drop i++[b]).length=i:=by rw[Jc,Gf];show r.length+1-(r.length-i+1)=i;lia
 let G:∀k,k<i->kn[k]?=some none->¬ Live S ((r++[b]).drop k)/\¬ IsWd S ((r++[b]).drop k):=λk J e=>by
  rw[List.drop_append_of_le_length ()];exists λz=>hn k J e (nU z),λz=>hn k J e (wH z)
 obtain⟨o,eo⟩:∃o,kn[r.length]?=some o:={_,Jb hl};unfold bt;rw[eo,ea,er];dsimp only;let mem:=yG (kn:=kn) (r:=r++[b]) (i:=i) ();let Z:(Wh kn i ((r++[b]).drop i)).any (λu=>decide (IsWd S u))=true↔∃k,k<r.length+1/\kn[k]?=some none/\IsWd S ((r++[b]).drop k):=by
  rw[Dl]
  constructor
  .rintro⟨u,hu,z⟩;let{k,h1,h2,h3,rfl}:=(mem u).mp hu;show{k,(),h3,Dz z}
  .rintro⟨k,h1,h2,h3⟩;show{_,(mem _).mpr {k,?_,(),h2,W},Ab h3};show Fi λz=>(G k z h2).2 h3
 constructor
 .intro B Y
  split at Y
  .cases Y
  .rename_i O
   let a2:¬ (o.isSome=true/\o≠some b):=λz=>O (.inl z);let a1:¬ _:=λz=>O (.inr (Z.mpr z));cases Y;exists{(),λk c e J=>?_,λk j e h1 h2=>?_},?_
   .by_cases z:k<r.length
    .rw[Jo z];show ok.mt k c e z
    .let:k=r.length:=by lia
     subst this;rw[eo]at e;cases e;rw[J0 (Jk _),Bz]
     by_cases hcb:c=b
     .rw[hcb];rfl
     .show D0 {W,λz=>hcb (BG z)} a2
   .by_cases z:j<=r.length
    .rw[Bu z];show ok.no k j e h1 z
    .let:j=r.length+1:=by lia
     subst this;rw[<-lr,Gc];show λy=>a1 {k,(),e,y}
   .cases f:(Wh kn i ((r++[b]).drop i)).find? (λu=>decide (Live S u))with
    |none =>
     show .inr {W,λk J e z=>?_}
     by_cases hki:k<i
     .show(G k hki e).1 z
     .show F7.mp f _ ((mem _).mpr {k,(),J,e,W}) (Ab z)
    |some u =>
     unfold Wh at f;let{k,J,rfl,e2,e3}:=xA _ _ ((List.pairwise_lt_range (n:=_)).filter _) f;let{h1,h2}:=Gm.mp J;let h1:=G1.mp h1;rw[Gf]at h1;show .inl {i+k,(),Dz h2,by rw[Fy];rfl,Dz e2,λj hj e z=>?_}
     by_cases hji:j<i
     .show(G j hji e).1 z
     .let:=e3 (j-i) (Gm.mpr {G1.mpr (by rw[Gf];lia),Ab (by rwa[show i+(j-i)=j by lia])}) ();rw[Fy,show i+(j-i)=j by lia]at this;show D1 this z
 .intro Y a0
  split at Y
  .rename_i O
   rcases O with⟨h1,h2⟩|O
   .cases o with
    |none=>cases h1
    |some c =>
     let:=a0.mt r.length c eo ();rw[J0 (Jk _),Bz]at this;show h2 this.symm
   .let⟨k,h1,h2,h3⟩:=Z.mp O;let:=a0.no k (r.length+1) h2 h1 ();rw[<-lr,Gc]at this;show this h3
  .cases Y
theorem BO.less(h:BO kn S (r++[b])):BO kn S r:=by
 let B:(r++[b]).length=r.length+1:=by rw[Jc];rfl
 exists by have:=h.len;lia,λi c e hi=>?_,λi j e h1 h2=>?_
 .let:=h.mt i c e ();rwa [Jo hi]at this
 .let:=h.no i j e h1 ();rwa [Bu h2]at this
def Oh{Q:List τ->Prop}(h0:Q [])(h1:∀r b,Q r->Q (r++[b]))(r:List τ):Q r:=by
 let B:∀r:List τ,Q r.reverse:=λr=>by
  induction r with
  |nil=>show h0
  |cons b r h=>rw[Df];show h1 _ b h
 let:=B r.reverse;rwa [List.reverse_reverse]at this
theorem WN(r:List Int):(∀sp,wt kn S (0,[]) r=some sp->sp.1=r.length/\BO kn S r/\SwOf kn S r sp.2)/\(wt kn S (0,[]) r=none->¬ BO kn S r):=by
 show Oh (Q:=λr=>(∀sp,wt kn S (0,[]) r=some sp->sp.1=r.length/\BO kn S r/\SwOf kn S r sp.2)/\(wt kn S (0,[]) r=none->¬ BO kn S r)) ?_ (λr b B=>?_) r
 .show{λsp h=>?_,λh=>by cases h};cases h;show{W,{J9 _,(λ_ _ _ h=>nomatch h),λi j _ h1 h2=>by have:j=0:=Nat.le_zero.mp h2;lia},.inr {W,λk h=>nomatch h}}
 .rw[Qu];cases e:wt kn S (0,[]) r with
  |none=>show{λsp h=>(by cases h),λ_ ok=>B.2 e ok.less}
  |some sp =>
   let{h1,h2,h3}:=B.1 sp e;let G:(r++[b]).length=r.length+1:=by rw[Jc];rfl
   show(∀sp',(bt kn S sp.1 sp.2 b).bind (λsw=>some (sp.1+1,sw))=some sp'->_)/\((bt kn S sp.1 sp.2 b).bind (λsw=>some (sp.1+1,sw))=none->_);rw[h1]
   by_cases hl:r.length<kn.length
   .let⟨a,c⟩:=mI (b:=b) h2 h3 hl;cases eb:bt kn S r.length sp.2 b with
    |none=>show{λsp' h=>(by cases h),λ_=>c eb}
    |some sw =>
     let{O,J}:=a sw eb;show{λsp' h=>?_,λh=>by cases h};cases h;exists by rw[G],O,J
   .let:bt kn S r.length sp.2 b=none:=by
     cases eb:bt kn S r.length sp.2 b with
     |none=>rfl
     |some sw=>show D0 (QO eb) hl
    rw[this];show{λsp' h=>(by cases h),λ_ ok=>by have:=ok.len;lia}
def DA(S:List Pr):Option Int->Option (List (Option Int))
 |none=>some [none]
 |some s=>(S.find? λp=>decide (p.1=s)).map λp=>p.2.map some
def Ae(S:List Pr):List (Option Int)->Option (List (Option Int))
 |[]=>some []
 |e::E=>match DA S e,Ae S E with|some a,some b=>some (a++b)|_,_=>none
theorem Rp:∀(E F:List (Option Int)),Ae S (E++F)=match Ae S E,Ae S F with|some a,some b=>some (a++b)|_,_=>none
 |[],F=>by
  show Ae S F=match some [],Ae S F with|some a,some b=>some (a++b)|_,_=>none
  cases Ae S F<;>rfl
 |e::E,F=>by
  show(match DA S e,Ae S (E++F)with|some a,some b=>some (a++b)|_,_=>none)=match(match DA S e,Ae S E with|some a,some b=>some (a++b)|_,_=>none),Ae S F with|some a,some b=>some (a++b)|_,_=>none
  rw[Rp E F];cases DA S e with
  |none=>rfl
  |some a =>
   cases Ae S E with
   |none=>rfl
   |some b =>
    cases Ae S F with
    |none=>rfl
    |some c=>show some (a++(b++c))=some (a++b++c);rw[Jf]
theorem Wk(G:AU S)(h:p∈S):S.find? (λq=>decide (q.1=p.1))=some p:=by
 induction S with
 |nil=>cases h
 |cons q S B =>
  let{h1,h2}:=Bo.mp G;rw[Gu];rcases Gd.mp h with z|z
  .subst z;rw[Ab W]
  .rw[BB (h1 p z).1];show B h2 z
def JP(B:AU S)(h:p∈S):DA S (some p.1)=some (p.2.map some):=by
 show(S.find? λq=>decide (q.1=p.1)).map (λp=>p.2.map some)=_;rw[Wk B h];rfl
theorem Ib(e:Option Int):Ae S [e]=DA S e:=by
 show(match DA S e,some []with|some a,some b=>some (a++b)|_,_=>none)=_;cases DA S e with
 |none=>rfl
 |some a=>show some (a++[])=_;rw[Jx]
def IP(R:List En)(e:En):Aw (R++[e])=Aw R++[e.2]:=by unfold Aw;rw[Ji];rfl
theorem RX(O:AU S)(h:A9 S r R pl):∃kn,Ae S (Aw R)=some kn/\kn.length=pl/\(∀(i:Nat)(b:Int),kn[i]?=some (some b)->r[i]?=some b)/\∀i,kn[i]?=some none->∀p∈S,¬ p.2<+:r.drop i:=by
 induction h with
 |nil=>show{[],W,W,(λ_ _ h=>nomatch h),(λ_ h=>nomatch h)}
 | @lost R pl w hl hn ih =>
  let{kn,e1,e2,e3,B}:=ih;exists kn++[none],?_,by rw[Jc,e2];rfl,λi b e=>?_,λi e=>?_
  .rw[IP,Rp,e1,Ib];rfl
  .by_cases z:i<kn.length
   .rw[Jo z]at e;show e3 i b e
   .rw[J0 (Fi z)]at e;cases hk:i-kn.length with
    |zero=>rw[hk]at e;cases e
    |succ k=>rw[hk]at e;cases e
  .by_cases z:i<kn.length
   .rw[Jo z]at e;show B i e
   .let⟨hi,_⟩:=Jd.mp e;rw[Jc]at hi;let:i=pl:=by have:[none (α:=Int)].length=1:=rfl;lia
    rwa[this]
 | @word R pl p w hp pre ne ih =>
  let{kn,e1,e2,e3,B}:=ih;exists kn++p.2.map some,?_,by rw[Jc,e2,Ja],λi b e=>?_,λi e=>?_
  .rw[IP,Rp,e1,Ib,JP O hp]
  .by_cases z:i<kn.length
   .rw[Jo z]at e;show e3 i b e
   .rw[J0 (Fi z),Gi]at e;let{c,G,e}:=Gq.mp e;cases e;let{t,J}:=pre;let:(r.drop pl)[i-pl]?=some b:=by
     rw[<-J,Jo (by rw[<-e2];show(Jd.mp G).1),<-e2];show G
    rw[List.getElem?_drop,show pl+(i-pl)=i by lia]at this;show this
  .by_cases z:i<kn.length
   .rw[Jo z]at e;show B i e
   .rw[J0 (Fi z),Gi]at e;let{c,_,e}:=Gq.mp e;cases e
theorem NA(fr:AU S)(ne:∀p∈S,p.2≠[]) :∀{F E:List (Option Int)}{kn kn0:List (Option Int)}{R:List En},Ae S F=some kn->kn0++kn=E->BO E S r->r.length=E.length->A9 S r R kn0.length->∃G,Aw G=Aw R++F/\Told S r G
 |[],E,kn,kn0,R,h,e,ok,hl,w=>by
  cases h;rw[Jx]at e;show{R,by rw[Jx],_,w,by rw[e,hl];show Jk _}
 |none::F,E,kn,kn0,R,h,e,ok,hl,w=>by
  let h:(match some [none],Ae S F with|some a,some b=>some (a++b)|_,_=>none)=some kn:=h;cases hF:Ae S F with
  |none=>rw[hF]at h;cases h
  |some Z =>
   rw[hF]at h;cases h;let O:(kn0++[none])++Z=E:=by rwa[Jf]
   let at0:E[kn0.length]?=some none:=by rw[<-e,J0 (Jk _),Bz];rfl
   let lt:=(Jd.mp at0).1;let Y:A9 S r (R++[(kn0.length,none)]) (kn0.length+1):=.lost w () λp J B=>by
    let{t,ht}:=B;let pl:=Gh.mpr (ne p J);let lw:kn0.length+p.2.length<=r.length:=by have:=congrArg Hf ht;rw[Jc,Gf]at this;lia
    show ok.no kn0.length (kn0.length+p.2.length) at0 () lw {p,J,?_};rw[Dv,<-ht,show kn0.length+p.2.length-kn0.length=p.2.length by lia,Be]
   let{G,a,b}:=NA fr ne (F:=F) (kn0:=kn0++[none]) hF O ok hl (by rw[Jc];show Y);exists G,by rw[a,IP,Jf];rfl,b
 |some s::F,E,kn,kn0,R,h,e,ok,hl,w=>by
  let h:(match(S.find? λp=>decide (p.1=s)).map (λp=>p.2.map some),Ae S F with|some a,some b=>some (a++b)|_,_=>none)=some kn:=h;cases h1:S.find? (λp=>decide (p.1=s))with
  |none=>rw[h1]at h;cases h
  |some p =>
   let J:=Fo h1;let es:=List.find?_some h1;let es:p.1=s:=Dz es;cases hF:Ae S F with
   |none=>rw[h1,hF]at h;cases h
   |some Z =>
    rw[h1,hF]at h;cases h;let O:(kn0++p.2.map some)++Z=E:=by rwa[Jf]
    let lw:kn0.length+p.2.length<=r.length:=by rw[hl,<-O,Jc,Jc,Ja];lia
    let B:p.2<+:r.drop kn0.length:=by
     exists(r.drop kn0.length).drop p.2.length,?_
     conv=>rhs;rw[<-J8 p.2.length (r.drop kn0.length)]
     congr 1
     apply ME
     intro i
     by_cases hi:i<p.2.length
     .rw[K2 hi,List.getElem?_drop,Jb hi];show(ok.mt (kn0.length+i) p.2[i] ?_ ()).symm;rw[<-O,Jo (by rw[Jc,Ja];lia),J0 (),Gi,show kn0.length+i-kn0.length=i by lia,Jb hi];rfl
     .rw[Bk (),Bk (by rw[Ga];lia)]
    let Y:A9 S r (R++[(kn0.length,some p.1)]) (kn0.length+p.2.length):=.word w J B (ne p J);let{G,a,b}:=NA fr ne (F:=F) (kn0:=kn0++p.2.map some) hF O ok hl (by rw[Jc,Ja];show Y);exists G,by rw[a,IP,es,Jf];rfl,b
theorem LS(B:AU S)(ne:∀p∈S,p.2≠[]){E:List (Option Int)}(h:Ae S E=some kn) :(∃R,Told S r R/\Aw R=E)↔r.length=kn.length/\(wt kn S (0,[]) r).isSome=true:=by
 constructor
 .rintro⟨R,⟨pl,w,l⟩,e⟩;let{k2,G,a2,Y,O}:=RX B w;rw[e,h]at G;cases G;let hl:r.length=kn.length:=by have:=w.le;lia
  show{hl,?_};cases q:wt kn S (0,[]) r with
  |some _=>rfl
  |none =>
   show D0 {(),λi b e _=>Y i b e,λi j e h1 h2⟨p,J,z⟩=>O i e p J ?_} ((WN r).2 q);rw[z,Dv];show Dm _ _
 .rintro⟨hl,q⟩;let{sp,q}:=Fw.mp q;let{_,ok,_}:=(WN r).1 sp q;let{Z,a,b}:=NA B ne (kn0:=[]) (R:=[]) h W ok hl .nil;show{Z,b,a}
def Ql(G:AU S){E:List (Option Int)}(B:Ae S E=none) :¬ ∃R,Told S r R/\Aw R=E:=λ⟨R,⟨pl,w,l⟩,e⟩=>by
 let{J,h,_}:=RX G w;rw[e,B]at h;cases h
end
def tx'(P:List Pr):Nat->List (List Pr)
 |0=>[[]]
 |n+1=>P.flatMap λp=>if h:p.2≠[]/\p.2.length<=n+1 then(tx' P (n+1-p.2.length)).map (p::·)else []
 termination_by n=>n
 decreasing_by have:=Gh.mpr h.1;lia
def CU(P:List Pr):Prop:=∀p∈P,p.2≠[]
theorem Uq{P:List Pr}(ne:CU P):∀(U:List Pr)(n:Nat),U∈tx' P n↔(∀p∈U,p∈P)/\(Zu U).length=n
 |[],0=>by rw[tx'];exists λ_=>{(λ_ h=>nomatch h),W},λ_=>Jj.mpr W
 |p::U,0=>by
  rw[tx',Jj];exists λh=>(nomatch h),λhz=>?_;let{h1,h2}:=hz;let:=Gh.mpr (ne p (h1 p Je));rw[Wd,Jc]at h2;lia
 |[],n+1=>by
  rw[tx',B3];exists λhz=>?_,λ⟨_,h⟩=>nomatch h;let{p,_,h}:=hz
  split at h
  .let⟨V,_,e⟩:=Jq.mp h;cases e
  .cases h
 |p::U,n+1=>by
  rw[tx',B3]
  constructor
  .rintro⟨q,G,h⟩
   split at h
   .rename_i O
    let{V,J,e}:=Jq.mp h;cases e;let{h1,h2}:=(Uq ne U _).mp J;exists λx hx=>(Gd.mp hx).elim (λz=>by rw[z];show G) (h1 x),?_;rw[Wd,Jc,h2];lia
   .cases h
  .rintro⟨h1,h2⟩;rw[Wd,Jc]at h2;let B:=h1 p Je;show{p,B,?_};rw[dif_pos {ne p B,()}];show Bi ((Uq ne U _).mpr {λx hx=>h1 x (Jg _ hx),()})
theorem RM{P:List Pr}(nd:P.Nodup):∀n,(tx' P n).Nodup:=λn=>by
 induction n using Nat.strongRecOn with
 |ind n J =>
  cases n with
  |zero=>rw[tx'];show Fd _ _
  |succ n =>
   rw[tx'];unfold List.Nodup;rw[Ly];exists λp Y=>?_,nd.imp λ{a b}G x hx y B e=>?_
   .split
    .rename_i O
     let:=Gh.mpr O.1;show Jz.mpr ((J _ ()).imp λh z=>h (List.cons.inj z).2)
    .show .nil
   .split at hx
    .split at B
     .let⟨V,_,rfl⟩:=Jq.mp hx;let{W,_,rfl}:=Jq.mp B;show G (List.cons.inj e).1
     .cases B
    .cases hx
def AU.nd{P:List Pr}(h:AU P):P.Nodup:=h.imp λa e=>a.1 (by rw[e])
theorem N7(B:AU L)(ne:CU L):∀{U V:List Pr},(∀p∈U,p∈L)->(∀p∈V,p∈L)->Zu U=Zu V->U=V
 |[],[],_,_,_=>rfl
 |[],q::V,_,hV,e=>by
  let:=congrArg Hf e;rw[Wd,Jc]at this;let:=Gh.mpr (ne q (hV q Je));let:(Zu ([]:List Pr)).length=0:=rfl;lia
 |p::U,[],hU,_,e=>by
  let:=congrArg Hf e;rw[Wd,Jc]at this;let:=Gh.mpr (ne p (hU p Je));let:(Zu ([]:List Pr)).length=0:=rfl;lia
 |p::U,q::V,hU,hV,e=>by
  rw[Wd,Wd]at e;let Z:=hU p Je;let Y:=hV q Je;let G:p=q:=by
   by_cases z:p=q
   .show z
   .let O:FB p q\/FB q p:=by
     let{i,hi,rfl}:=Ge Z;let{j,J,rfl}:=Ge Y;rcases Nat.lt_trichotomy i j with h|h|h
     .show .inl (B.get hi J h)
     .subst h;show D0 W z
     .show .inr (B.get J hi h)
    rcases Lv (show p.2<+:p.2++Zu U from Gj _ _) (by rw[e];show Gj _ _:q.2<+:p.2++Zu U)with h|h
    .rcases O with a|a
     .show D0 h a.2.1
     .show D0 h a.2.2
    .rcases O with a|a
     .show D0 h a.2.2
     .show D0 h a.2.1
  subst G;rw[N7 B ne (λx hx=>hU x (Jg _ hx)) (λx hx=>hV x (Jg _ hx)) (List.append_cancel_left e)]
def Af(kn:List (Option Int))(S P:List Pr)(sp:AM):List (Int×AM):=P.filterMap λp=>(wt kn S sp p.2).map λq=>(p.1,q)
def BC(kn:List (Option Int))(S P:List Pr)(sp:AM):Nat:=((tx' P (kn.length-sp.1)).filter λU=>(wt kn S sp (Zu U)).isSome).length
section
variable{P:List Pr}
def OK(h:sp.1=kn.length):BC kn S P sp=1:=by
 unfold BC;rw[h,Bz,tx'];rfl
def LX{sp q:AM}{s:Int}(h:(s,q)∈Af kn S P sp):∃p∈P,p.1=s/\wt kn S sp p.2=some q:=by
 let{p,B,e}:=F0.mp h;let{G,e1,e2}:=Gq.mp e;cases e2;show{p,B,W,e1}
theorem OB(ne:CU P)(g:Xs kn S sp)(h:x∈Af kn S P sp):Xs kn S x.2/\sp.1<x.2.1:=by
 let{p,B,_,e}:=LX (s:=x.1) (q:=x.2) h;let{a,b}:=Yv e g;let:=Gh.mpr (ne p B);show{a,()}
theorem JZ(ne:CU P)(g:Xs kn S sp)(h:sp.1<kn.length):BC kn S P sp=((Af kn S P sp).map λx=>BC kn S P x.2).sum:=by
 let e1:((Af kn S P sp).map λx=>BC kn S P x.2).sum=(P.map λp=>match wt kn S sp p.2 with|some q=>BC kn S P q|none=>0).sum:=by
  unfold Af;generalize BC kn S P=f
  induction P with
  |nil=>rfl
  |cons p P J =>
   rw[Jm,B6,Hq,<-J λq B=>ne q (Jg _ B)];cases wt kn S sp p.2 with
   |none=>show _=0+_;rw[Fv];rfl
   |some q=>rw[Option.map_some];dsimp only;rw[List.map_cons,List.sum_cons]
 rw[e1];show((tx' P (kn.length-sp.1)).filter λU=>(wt kn S sp (Zu U)).isSome).length=_;obtain⟨m,Y⟩:∃m,kn.length-sp.1=m+1:={kn.length-sp.1-1,()};rw[Y,tx',List.filter_flatMap,Ff]
 congr 1
 show Bj λp O=>?_
 split
 .rename_i G
  rw[List.filter_map,Ja];let Z:((λU=>(wt kn S sp (Zu U)).isSome) ∘ λx=>p::x)=λU=>((wt kn S sp p.2).bind λq=>wt kn S q (Zu U)).isSome:=by
   funext U
   show(wt kn S sp (p.2++Zu U)).isSome=_;rw[Qu]
  rw[Z];cases e:wt kn S sp p.2 with
  |none=>show(List.filter (λ_=>false) _).length=0;rw[List.filter_eq_nil_iff.mpr λ_ _ z=>Bool.noConfusion z];rfl
  |some q =>
   let B:=(Yv e g).2;show _=((tx' P (kn.length-q.1)).filter _).length;rw[B,show kn.length-(sp.1+p.2.length)=m+1-p.2.length by lia];rfl
 .rename_i G
  cases e:wt kn S sp p.2 with
  |none=>rfl
  |some q =>
   let{a,b}:=Yv e g;show D0 {ne p O,by have:=a.2.1;lia} G
def befs(S:List Pr):List (List Int):=S.flatMap λp=>(C2 p.2.length).map p.2.take
def HX(kn:List (Option Int))(S:List Pr):List AM:=(C2 (kn.length+1)).flatMap λp=>([]::befs S).map λu=>(p,u)
theorem uT(g:Xs kn S sp):sp∈HX kn S:=by
 unfold HX;rw[B3];show{sp.1,G1.mpr (by have:=g.2.1;lia),Jq.mpr {sp.2,?_,W}};rcases g.2.2 with z|⟨w,hw,pre,l⟩
 .rw[z];show Je
 .show Jg _ (B3.mpr ?_);let{p,h,rfl}:=Jq.mp hw;show{p,h,Jq.mpr {sp.2.length,G1.mpr l,(Fz.mp pre).symm}}
theorem Vj{f:τ->Nat}{n:Nat}:∀{xs:List τ},(∀x∈xs,f x<=n)->(xs.map f).sum<=xs.length*n
 |[],_=>J9 _
 |x::xs,h=>by
  rw[Jm,B6,Ju,JM];let:=Vj (λy B=>h y (Jg _ B):∀y∈xs,f y<=n);let:=h x Je;lia
theorem Zsy(B:A6 S)(G:kn.length<=200):(HX kn S).length<=51000:=by
 let h1:(befs S).length<=63*4:=by
  unfold befs;rw[Ff];show Js (Vj (n:=4) λp h=>?_) (Mc 4 (by have:=B.1;lia));rw[Ja,Bt];show(B.2 p h).2
 unfold HX;rw[Ff];show Js (Vj (n:=253) λp h=>?_) ?_
 .rw[Ja,Ju];lia
 .rw[Bt];show Js (Mc 253 (show kn.length+1<=201 by lia)) nofun
structure KeysOk(kn:List (Option Int))(S P:List Pr)(ks:List AM):Prop where
 nd:ks.Nodup
 gd:∀sp∈ks,Xs kn S sp
 st:(0,[])∈ks
 cl:∀sp∈ks,∀x∈Af kn S P sp,x.2∈ks
 rc:∀sp∈ks,∃U:List Pr,(∀p∈U,p∈P)/\wt kn S (0,[]) (Zu U)=some sp
def PV(B:A6 S)(h:kn.length<=200){ks:List AM}(nd:ks.Nodup)(gd:∀sp∈ks,Xs kn S sp):ks.length<=51000:=Js (Qn nd λx hx=>uT (gd x hx)) (Zsy B h)
end
def Yh(S:List Pr):List Pr:=S.mergeSort λa b=>decide (a.1<=b.1)
def Y0(S:List Pr):(Yh S).Perm S:=List.mergeSort_perm _ _
def bZ(S:List Pr):(Yh S).Pairwise λa b=>a.1<=b.1:=(List.pairwise_mergeSort (le:=λa b:Pr=>decide (a.1<=b.1)) (λa b c h1 h2=>Ab (SX (Dz h1) (Dz h2))) (λa b=>by rcases Int.le_total a.1 b.1 with z|z<;>simp[z]) S).imp Dz
def wK(pm:ns.Perm (S.map (·.1)))(pw:ns.Pairwise (·<=·)):ns=(Yh S).map (·.1) :=
 List.Perm.eq_of_pairwise (λa b _ _ h1 h2=>Int.le_antisymm h1 h2) pw (Jz.mpr (bZ S)) (pm.trans ((Y0 S).map _).symm)
def BP(sp:AM):List NI:=[.k sp.1,.t sp.2]
def OD(h:BP a=BP b):a=b:=by
 unfold BP at h;injection h with h1 h2
 injection h2 with h2 _
 injection h1 with h1
 injection h2 with h2
 show Prod.ext (Int.ofNat.inj h1) h2
def Au(x:Int×AM):D:=.tup [.int x.1,.nst (BP x.2)]
def Al(f:AM->D)(ks:List AM):List (List NI×D):=ks.map λsp=>(BP sp,f sp)
theorem Ve{f:AM->D}{sp:AM}:∀{ks:List AM},sp∈ks->N5 (Al f ks) (BP sp)=some (f sp)
 |k::ks,h=>by
  unfold N5 Al;rw[Jm,Gu]
  by_cases e:k=sp
  .rw[e,Ab W];rfl
  .rw[BB λz=>e (OD z)];show Ve ((Gd.mp h).resolve_left λz=>e z.symm)
theorem WJ{f:AM->D}{sp:AM}:∀{ks:List AM},sp∉ks->N5 (Al f ks) (BP sp)=none
 |[],_=>rfl
 |k::ks,h=>by
  unfold N5 Al;rw[Jm,Gu,BB λz=>h (by rw[OD z];show Je)];show WJ λz=>h (Jg _ z)
def Il{f:AM->D}{sp:AM}{ks:List AM}(h:sp∉ks):DS (Al f ks) (BP sp) (f sp)=Al f (ks++[sp]):=by
 let e:((Al f ks).any λx=>decide (x.1=BP sp))=false:=by
  rw[List.any_eq_false];intro x hx;let{k,B,rfl}:=Jq.mp hx;rw[D2];show λz=>h (by rw[<-OD z];show B)
 unfold DS;rw[e,D8 Gb];unfold Al;rw[Ji];rfl
def Ro(f:AM->D)(ks:List AM):(Al f ks).length=ks.length:=Ja _
def Am(kn:List (Option Int))(S P:List Pr)(sp:AM):D:=.lst ((Af kn S P sp).map Au)
def XG(C:Addr):Sp:=λvs H Q _=>∃(x r:Addr)(S:List Pr)(ns:List Int),vs=[.ref x,.ref r]/\Tq C H x S/\H r=some (.tup (ns.map V.int))/\Q (.bl (decide (Live S ns))) H
section
variable{C:Cf} 
inductive dLiveT(ds:List D)(M:AC)(K:K3):Prop
 |mk:∀(S:List Pr)(ns:List Int),ds=[.code S,.tup (ns.map .int)]->K (.bl (decide (Live S ns))) M->dLiveT ds M K
def qV{E:XK}(h:AH C dLiveT vs H Q E):XG C.c vs H Q E:=by
 let{Z,I,α,M,ds,K,R,r,{S,ns,rfl,h},O}:=h;show AA.e2 r λ_ _ J G=>?_;let{_,rfl,Y}:=J.inv;let{a,va,rfl,ea,_,B}:=Ue R G W;rw[B.of_ints ns]at ea;show{_,a,S,ns,W,Y.same R.sub,ea,O _ _ I α H M (.refl _) (Jn _) R (.bl _) h}
end
def VR(q:τ->Bool){xs:List τ}{i:Nat}(hi:i<xs.length)(c:Bool)(h:q xs[i]=c):(xs.take (i+1)).filter q=(xs.take i).filter q++(if c=true then [xs[i]]else []):=by
 rw[Jh hi,Fl,Fj,h];cases c<;>rfl
def Wl(q:τ->Bool)(f:τ->υ){xs:List τ}{i:Nat}(hi:i<xs.length)(c:Bool)(h:q xs[i]=c):((xs.take (i+1)).filter q).map f=((xs.take i).filter q).map f++(if c=true then [f xs[i]]else []):=by
 rw[Jh hi,Fl,Ji,Fj,h];cases c<;>rfl
theorem Zrt(h:itOf d=some x):niOf d=some (.t x):=by
 cases d with
 |itp y=>cases h;rfl
 |tup ds=>show(itOf (.tup ds)).map NI.t=_;rw[h];rfl
 |_=>cases h
def XZ{n:Nat}{xs:List (Int×AM)}:Ym n (.lst (xs.map Au)):=S9 (W4 (λ_=>bY (Rv Vp (Rv YB TU))) xs)
def Zpc{sp sp':AM}{w:List Int}{i:Nat}(hi:i<w.length)(h:wt kn S sp (w.take i)=some sp'):wt kn S sp (w.take (i+1))=(bt kn S sp'.1 sp'.2 w[i]).map (λsw=>(sp'.1+1,sw))/\(bt kn S sp'.1 sp'.2 w[i]=none->wt kn S sp w=none):=by
 let e1:wt kn S sp (w.take (i+1))=(bt kn S sp'.1 sp'.2 w[i]).map (λsw=>(sp'.1+1,sw)):=by
  rw[Jh hi,Qu,h];show(bt kn S sp'.1 sp'.2 w[i]).bind (λsw=>some (sp'.1+1,sw))=_;cases bt kn S sp'.1 sp'.2 w[i]<;>rfl
 exists e1,λe=>?_;rw[<-J8 (i+1) w,Qu,e1,e];rfl
inductive dKnown(ds:List D)(M:AC)(K:K3):Prop
 |mk:∀(S:List Pr)(d:D)(E:List (Option Int)),ds=[.code S,d]->(AO M d=some (E.map oD)/\(AU S/\A6 S/\E.length<=50)/\(Ae S E=none->K .non M)/\∀kn,Ae S E=some kn->K (.cell M.length) (M++[.lst (kn.map oD)]))->dKnown ds M K
inductive dByteT(ds:List D)(M:AC)(K:K3):Prop
 |mk:∀(S:List Pr)(d:D)(kn:List (Option Int))(p:Nat)(sw:List Int)(b:Int),ds=[.code S,.lst (kn.map oD),.int p,d,.int b]->(itOf d=some sw/\(p<kn.length/\sw.length<=p/\kn.length<=200)/\(bt kn S p sw b=none->K .non M)/\∀sw',bt kn S p sw b=some sw'->K (.tup (sw'.map .int)) M)->dByteT ds M K
inductive dWordT(ds:List D)(M:AC)(K:K3):Prop
 |mk:∀(S:List Pr)(kn:List (Option Int))(sp:AM)(w:List Int),ds=[.code S,.lst (kn.map oD),.nst (BP sp),wD w]->((Xs kn S sp/\w.length<=4/\kn.length<=200)/\(wt kn S sp w=none->K .non M)/\∀q,wt kn S sp w=some q->K (.nst (BP q)) M)->dWordT ds M K
inductive dStepsAt(ds:List D)(M:AC)(K:K3):Prop
 |mk:∀(S1 S:List Pr)(kn:List (Option Int))(sp:AM),ds=[.code S1,.code S,.lst (kn.map oD),.nst (BP sp)]->((Xs kn S sp/\AU S1/\A6 S1/\kn.length<=200)/\K (Am kn S (Yh S1) sp) M)->dStepsAt ds M K
inductive dAllSt(ds:List D)(M:AC)(K:K3):Prop
 |mk:∀(S1 S:List Pr)(kn:List (Option Int)),ds=[.code S1,.code S,.lst (kn.map oD)]->((AU S1/\A6 S1/\A6 S/\kn.length<=200)/\∀ks,KeysOk kn S (Yh S1) ks->K (.cell M.length) (M++[.dcN [0,1] none (Al (Am kn S (Yh S1)) ks)]))->dAllSt ds M K
def BY(kn:List (Option Int))(S P:List Pr)(sp:AM):D:=.int (BC kn S P sp)
inductive dCountsB(ds:List D)(M:AC)(K:K3):Prop
 |mk:∀(c:Nat)(y:Option (Obj×List Az))(S P:List Pr)(kn:List (Option Int))(ks:List AM)(n:Int),ds=[.cell c,.int n]->(M[c]?=some (.dcN [0,1] y (Al (Am kn S P) ks))/\(ks.Nodup/\(∀sp∈ks,Xs kn S sp)/\(∀sp∈ks,∀x∈Af kn S P sp,x.2∈ks)/\CU P/\P.length<64/\ks.length<=51000/\(ks≠[]->n=kn.length))/\∀kb,kb.Perm ks->K (.cell M.length) (M++[.dcN [0,1] none (Al (BY kn S P) kb)]))->dCountsB ds M K
def stL3(kn:List (Option Int))(S P:List Pr)(sp:AM):D:=.lst (((Af kn S P sp).filter λx=>decide (0<BC kn S P x.2)).map Au)
def LvAt(XL:Addr)(M:AC)(x:Nat)(S1 S:List Pr)(E:List (Option Int)):Prop:=∃(b s:Nat)(n:Int)(kn:List (Option Int))(ks B:List AM),M[x]?=some (.ins XL [("size",.int n),("behind",.cell b),("steps",.cell s)])/\M[b]?=some (.dcN [0,1] none (Al (BY kn S (Yh S1)) B))/\M[s]?=some (.dcN [0,1] none (Al (stL3 kn S (Yh S1)) ks))/\B.Perm ks /\
 (match Ae S E with|none=>n=0/\ks=[]|some h=>kn=h/\n=kn.length/\KeysOk kn S (Yh S1) ks)
def Xd(S1 S:List Pr)(E:List (Option Int)):Nat:=match Ae S E with|none=>0|some kn=>BC kn S (Yh S1) (0,[])
def LvIn(S1 S:List Pr)(E:List (Option Int)):Prop:=AU S1/\A6 S1/\AU S/\A6 S/\E.length<=50
inductive dLeav(XL:Addr)(ds:List D)(M:AC)(K:K3):Prop
 |mk:∀(x:Nat)(S1 S:List Pr)(d:D)(E:List (Option Int)),ds=[.cell x,.code S1,.code S,d]->(M[x]?=some (.ins XL [])/\AO M d=some (E.map oD)/\LvIn S1 S E/\∀M',(∃o J,M'=M.set x o++J)->LvAt XL M' x S1 S E->K .non M')->dLeav XL ds M K
inductive dTotal(XL:Addr)(ds:List D)(M:AC)(K:K3):Prop
 |mk:∀(x:Nat)(S1 S:List Pr)(E:List (Option Int)),ds=[.cell x]->(LvAt XL M x S1 S E/\K (.int (Xd S1 S E)) M)->dTotal XL ds M K
theorem Qi(bs:List Int):∀n,(Su bs n).length=bs.length ^ n
 |0=>rfl
 |n+1=>by
  rw[Su,Ff,Nat.pow_succ,<-Qi bs n];generalize Su bs n=xs
  induction xs with
  |nil=>rw[Dj,List.sum_nil,By,Nat.zero_mul]
  |cons x xs h=>rw[Jm,B6,h,Ja,Ju,JM,JO]
def FewB(bs:List Int)(n:Nat):Prop:=(bs.length<=2/\n<=6)\/(bs.length<=3/\n<=4)
theorem ZN(tb:TbK L bs)(J:FewB bs n){G:List (List Pr)}(nd:G.Nodup)(h:∀U∈G,(∀p∈U,p∈L)/\(Zu U).length<=n):G.length<=448:=by
 let ne:CU L:=λp O=>(tb.fi.2 p O).1;let Z:(G.map Zu).Nodup:=Jz.mpr (nd.imp_of_mem λ{U V}Y hV hn e=>hn (N7 tb.fr ne (h U Y).1 (h V hV).1 e));let B:∀r∈G.map Zu,r∈(C2 (n+1)).flatMap (Su bs):=λr hr=>by
  let{U,Y,rfl}:=Jq.mp hr;let{h1,h2}:=h U Y;show B3.mpr {(Zu U).length,G1.mpr (),(Qo _ _).mpr {W,λb J=>?_}};let{w,hw,J}:=List.mem_flatten.mp J;let{p,O,rfl}:=Jq.mp hw;show tb.by_ p (h1 p O) b J
 let:=Qn Z B;rw[Ja,Ff]at this;show Js this ?_;rcases J with⟨b2,n6⟩|⟨b3,n4⟩
 .show Js (Vj (n:=64) λm B=>?_) (by rw[Bt];lia);rw[Qi];let:=G1.mp B;show Js (Dq b2 m) (Js (Di nofun (show m<=6 by lia)) nofun)
 .show Js (Vj (n:=81) λm B=>?_) (by rw[Bt];lia);rw[Qi];let:=G1.mp B;show Js (Dq b3 m) (Js (Di nofun (show m<=4 by lia)) nofun)
structure DL(L:List Pr)(n k:Nat)(F G:List (List Pr)):Prop where
 fn:F.Nodup
 gn:G.Nodup
 fm:∀U,U∈F↔(∀p∈U,p∈L)/\U.length<k/\(Zu U).length=n
 gm:∀U,U∈G↔(∀p∈U,p∈L)/\U.length=k/\(Zu U).length<=n
def lg1(L:List Pr)(n:Nat)(U:List Pr):List (List Pr):=if(Zu U).length=n then []else L.map λp=>U++[p]
section
variable{n k:Nat}{F G:List (List Pr)}
def Qj(U:List Pr)(p:Pr):Zu (U++[p])=Zu U++p.2:=by unfold Zu;rw[Ji,List.flatten_append];show _++(p.2++[])=_;rw[List.append_nil]
theorem Sv(ne:CU L):∀{U:List Pr},(∀p∈U,p∈L)->U.length<=(Zu U).length
 |[],_=>Jk _
 |p::U,h=>by
  let:=Sv ne (U:=U) λq B=>h q (Jg _ B);let:=Gh.mpr (ne p (h p Je));rw[Wd,Jc,Ju];lia
def DL.zero:DL L n 0 [] [[]]:=by
 exists Fk,Fd _ _,λU=>{(λh=>nomatch h),λh=>D0 h.2.1 (G9 _)},λU=>{λh=>?_,λh=>?_}
 .rw[Jj.mp h];exists(λ_ h=>nomatch h),W,J9 _
 .rw[Bb.mp h.2.1];show Jj.mpr W
theorem DL.next(ne:CU L)(nd:L.Nodup)(h:DL L n k F G):DL L n (k+1) (F++G.filter λU=>decide ((Zu U).length=n)) ((G.flatMap (lg1 L n)).filter λU=>decide ((Zu U).length<=n)):=by
 exists ?_,?_,λU=>?_,λU=>?_
 .rw[Bn];exists h.fn,h.gn.filter _,λa ha b Z e=>?_;subst e;let h1:=((h.fm a).mp ha).2.1;let h2:=((h.gm a).mp (Gm.mp Z).1).2.1;lia
 .show List.Pairwise.filter _ ?_;rw[Ly];exists λU hU=>?_,h.gn.imp λ{U V}hn x hx y B e=>?_
  .unfold lg1
   split
   .show .nil
   .show Jz.mpr (nd.imp λhn e=>hn (List.cons.inj (List.append_cancel_left e)).1)
  .unfold lg1 at hx B
   split at hx
   .cases hx
   .split at B
    .cases B
    .let⟨p,_,rfl⟩:=Jq.mp hx;let{q,_,e2}:=Jq.mp B;rw[<-e]at e2;show hn (List.append_inj_left' e2.symm W)
 .rw[Jw,h.fm,Gm,h.gm,D2]
  constructor
  .rintro(⟨a,b,c⟩|⟨⟨a,b,c⟩,d⟩)
   .show{a,(),c}
   .show{a,(),d}
  .rintro⟨a,b,c⟩
   by_cases z:U.length<k
   .show .inl {a,z,c}
   .show .inr {{a,(),()},c}
 .rw[Gm,B3,D2]
  constructor
  .rintro⟨⟨V,hV,O⟩,hl⟩;let{a,b,c}:=(h.gm V).mp hV;unfold lg1 at O
   split at O
   .cases O
   .let⟨p,J,rfl⟩:=Jq.mp O;exists λq Y=>(Jw.mp Y).elim (a q) λz=>by rw[Jj.mp z];show J,by rw[Jc,b];rfl,hl
  .rintro⟨a,b,c⟩;rcases List.eq_nil_or_concat U with rfl|⟨V,p,e⟩
   .cases b
   .rw[List.concat_eq_append]at e;subst e;let J:p∈L:=a p (Jr _ Je);let:=Gh.mpr (ne p J);let c':=c;rw[Qj,Jc]at c';rw[Jc]at b;let:[p].length=1:=rfl;exists{V,(h.gm V).mpr {λq Y=>a q (Gs _ Y),(),()},?_},c;unfold lg1;rw[D8 ()];show Bi J
theorem DL.k_le(ne:CU L)(h:DL L n k F G)(B:G≠[]):k<=n:=by
 let{U,J}:=List.exists_mem_of_ne_nil G B;let{a,b,c}:=(h.gm U).mp J;let:=Sv ne a;lia
theorem DL.done(h:DL L n k F [])(U:List Pr):U∈F↔(∀p∈U,p∈L)/\(Zu U).length=n:=by
 rw[h.fm];exists λ⟨a,_,c⟩=>{a,c},λ⟨a,c⟩=>{a,?_,c}
 apply Nat.lt_of_not_le
 intro z;let:=(h.gm (U.take k)).mpr {λp B=>a p (Gv B),by rw[Ga];lia,?_}
 .cases this
 .rw[<-c]
  conv=>rhs;rw[<-J8 k U]
  rw[show Zu (U.take k++U.drop k)=Zu (U.take k)++Zu (U.drop k)from by unfold Zu;rw[Ji,List.flatten_append],List.length_append];lia
end
def CL(L1 L2:List Pr)(E:List (Option Int))(t:List Int):Prop:=∃(U:List Pr)(R:List En),Zi U=t/\(∀p∈U,p∈L1)/\Told L2 (Zu U) R/\Aw R=E
def CL.perm{L1 L2 B:List Pr}{E:List (Option Int)}{t:List Int}(h:CL L1 L2 E t)(G:L1.Perm S1)(p2:L2.Perm B):CL S1 B E t:=by
 let{U,R,a,b,c,d}:=h;exists U,R,a,λp J=>G.mem_iff.mp (b p J),c.perm p2,d
theorem Uf(h:AU L):∀{U V:List Pr},(∀p∈U,p∈L)->(∀p∈V,p∈L)->Zi U=Zi V->U=V
 |[],[],_,_,_=>rfl
 |[],_::_,_,_,e=>nomatch e
 |_::_,[],_,_,e=>nomatch e
 |p::U,q::V,hU,hV,e=>by
  let e:p.1::Zi U=q.1::Zi V:=e;injection e with e1 e2
  let h1:=Wk h (hU p Je);let h2:=Wk h (hV q Je);rw[e1,h2]at h1;rw[Uf h (λx hx=>hU x (Jg _ hx)) (λx hx=>hV x (Jg _ hx)) e2,BG h1]
def OO{L1 L2:List Pr}(B:AU L2)(h:CU L2){E:List (Option Int)}(G:Ae L2 E=some kn)(t:List Int):CL L1 L2 E t↔∃U,Zi U=t/\(∀p∈U,p∈L1)/\(Zu U).length=kn.length/\(wt kn L2 (0,[]) (Zu U)).isSome=true:=by
 constructor
 .rintro⟨U,R,a,b,c,d⟩;let{h1,h2}:=(LS B h G).mp {R,c,d};show{U,a,b,h1,h2}
 .rintro⟨U,a,b,h1,h2⟩;let{R,c,d}:=(LS B h G).mpr {h1,h2};show{U,R,a,b,c,d}
def wF{B:List (List Int)}(h:B.Pairwise λa b=>HT.lexLt a b=true):B.Nodup:=h.imp λz e=>by rw[e,Ut]at z;cases z
theorem Rl{E:List (Option Int)}(fr1:AU S1)(Z:A6 S1)(fr:AU S)(fi:A6 S){J:List (List Int)}(hz:J.Pairwise λa b=>HT.lexLt a b=true)(hm:∀t,t∈J↔CL S1 S E t):J.length=Xd S1 S E:=by
 let ne:CU S:=λp h=>(fi.2 p h).1;let O:CU S1:=λp h=>(Z.2 p h).1;unfold Xd;cases hk:Ae S E with
 |none =>
  cases J with
  |nil=>rfl
  |cons t J =>
   let{U,R,_,_,c,d}:=(hm t).mp Je;show D0 {R,c,d} (Ql fr hk)
 |some kn =>
  let G:=Y0 S1;let B:CU (Yh S1):=λp h=>O p (G.mem_iff.mp h);show _=((tx' (Yh S1) kn.length).filter λU=>(wt kn S (0,[]) (Zu U)).isSome).length;let nF:((tx' (Yh S1) kn.length).filter λU=>(wt kn S (0,[]) (Zu U)).isSome).Nodup:=(RM (G.nodup_iff.mpr (AU.nd fr1)) _).filter _;rw[<-Ja (f:=Zi)];show List.Perm.length_eq ((List.perm_ext_iff_of_nodup (wF hz) ?_).mpr λt=>?_)
  .show Jz.mpr (nF.imp_of_mem λ{U V}Y hV hn e=>hn (Uf fr1 (λp h=>?_) (λp h=>?_) e))
   .show G.mem_iff.mp (((Uq B U _).mp (Gm.mp Y).1).1 p h)
   .show G.mem_iff.mp (((Uq B V _).mp (Gm.mp hV).1).1 p h)
  .rw[hm,OO fr ne hk,Jq]
   constructor
   .rintro⟨U,a,b,h1,h2⟩;show{U,Gm.mpr {(Uq B U _).mpr {λp h=>G.mem_iff.mpr (b p h),h1},h2},a}
   .rintro⟨U,Y,a⟩;let{h1,h2}:=Gm.mp Y;let{h3,h4}:=(Uq B U _).mp h1;exists U,a,λp h=>G.mem_iff.mp (h3 p h),h4,h2
theorem uN(pm:S.Perm L)(G:AU L)(s:Int):S.find? (λp=>decide (p.1=s))=L.find? λp=>decide (p.1=s):=by
 cases h:L.find? (λp=>decide (p.1=s))with
 |none=>show F7.mpr λp B=>F7.mp h p (pm.mem_iff.mp B)
 |some p =>
  let e:=List.find?_some h;let e:p.1=s:=Dz e;rw[<-e];show Wk (G.perm pm) (pm.mem_iff.mpr (Fo h))
theorem TN(pm:S.Perm L)(h:AU L):∀E,Ae S E=Ae L E
 |[]=>rfl
 |e::E=>by
  let h1:DA S e=DA L e:=by
   cases e with
   |none=>rfl
   |some s =>
    show(S.find? λp=>decide (p.1=s)).map _=(L.find? λp=>decide (p.1=s)).map _;rw[uN pm h]
  show(match DA S e,Ae S E with|some a,some b=>some (a++b)|_,_=>none)=match DA L e,Ae L E with|some a,some b=>some (a++b)|_,_=>none
  rw[h1,TN pm h E]
abbrev tbl(L:List Pr):D:=.lst (L.map pD)
abbrev tLs(t:List Int):D:=.lst (t.map .int)
def szD:Option (List (Option Int))->D
 |none=>.non
 |some kn=>.int kn.length
def smB(o:Option (List (Option Int)))(m:Int):Bool:=match o with|none=>true|some kn=>decide ((kn.length:Int)<=m)
inductive dCarr(ds:List D)(M:AC)(K:K3):Prop
 |mk:∀(L1 L2:List Pr)(d:D)(U:List Pr),ds=[tbl L1,tbl L2,d]->(AO M d=some ((Zi U).map .int)/\(AU L1/\A6 L1/\A6 L2/\(∀p∈U,p∈L1)/\U.length<=200)/\∀R,Told L2 (Zu U) R->K (.cell M.length) (M++[.lst ((Aw R).map oD)]))->dCarr ds M K
inductive dSizeL(ds:List D)(M:AC)(K:K3):Prop
 |mk:∀(L:List Pr)(d:D)(E:List (Option Int)),ds=[tbl L,d]->(AO M d=some (E.map oD)/\(AU L/\A6 L/\E.length<=50)/\K (szD (Ae L E)) M)->dSizeL ds M K
inductive dSmall(ds:List D)(M:AC)(K:K3):Prop
 |mk:∀(L:List Pr)(d:D)(E:List (Option Int))(m:Int),ds=[tbl L,d,.int m]->(AO M d=some (E.map oD)/\(AU L/\A6 L/\E.length<=50)/\K (.bl (smB (Ae L E) m)) M)->dSmall ds M K
inductive dAllL(ds:List D)(M:AC)(K:K3):Prop
 |mk:∀(L1 L2:List Pr)(d:D)(E:List (Option Int))(bs:List Int),ds=[tbl L1,tbl L2,d]->(AO M d=some (E.map oD)/\(TbK L1 bs/\AU L2/\A6 L2/\E.length<=50/\∀kn,Ae L2 E=some kn->FewB bs kn.length)/\∀zs:List (List Int),zs.Pairwise (λa b=>HT.lexLt a b=true)->(∀t,t∈zs↔CL L1 L2 E t)->K (.lst (zs.map tLs)) M)->dAllL ds M K
def bG:DD:=λds M K=>∃(k:Nat)(L:List Pr)(m:Int),ds=[.cell k,tbl L,.int m]/\M[k]?=some .hand/\(A6 L/\m<=100)/\∀U:List Pr,(∀p∈U,p∈L)->((Zu U).length:Int)<=m\/U=[]->U.length<=6->K (.cell M.length) (M++[.lst ((Zi U).map .int)])
def T3Ok(bs:List Int)(h:List (List Pr)):Prop:=h.length=3/\∀L∈h,TbK L bs
def Uo(bs:List Int):Int:=if bs.length=2 then 6 else 4
inductive dTabs71(ds:List D)(M:AC)(K:K3):Prop
 |mk:∀(k:Nat),ds=[.cell k]->(M[k]?=some .hand/\∀(bs ss:List Int)(Ls:List (List Pr)),(bs.length=2\/bs.length=3)->T3Ok bs Ls->ss.length=14->K (.tup [.cell M.length,.int (Uo bs),.lst (ss.map .int)]) (M++[.lst (Ls.map tbl)]))->dTabs71 ds M K
inductive dEnts(ds:List D)(M:AC)(K:K3):Prop
 |mk:∀(k c:Nat)(bs ss:List Int)(Ls:List (List Pr)),ds=[.cell k,.cell c,.int (Uo bs),.lst (ss.map .int)]->(M[k]?=some .hand/\M[c]?=some (.lst (Ls.map tbl))/\(T3Ok bs Ls/\ss.length=14)/\∀E:List (Option Int),E.length<=8->K (.lst (E.map oD)) M)->dEnts ds M K
def cnL(kn:List (Option Int))(S P:List Pr)(q:AM):List (List Pr):=(tx' P (kn.length-q.1)).filter λU=>(wt kn S q (Zu U)).isSome
def mV(U V:List Pr):Zu (U++V)=Zu U++Zu V:=by unfold Zu;rw[Ji,List.flatten_append]
section
variable{P:List Pr}{ks:List AM}
theorem Vc(ne:CU P)(g:Xs kn S q):U∈cnL kn S P q↔(∀p∈U,p∈P)/\∃e,wt kn S q (Zu U)=some e/\e.1=kn.length:=by
 unfold cnL;rw[Gm,Uq ne,Fw]
 constructor
 .rintro⟨⟨h1,h2⟩,e,h⟩;let h3:=(Yv h g).2;let:=g.2.1;show{h1,e,h,()}
 .rintro⟨h1,e,h,h2⟩;let h3:=(Yv h g).2;exists{h1,()},e,h
def Ta{U V:List Pr} :wt kn S sp (Zu (U++V))=some e↔∃q,wt kn S sp (Zu U)=some q/\wt kn S q (Zu V)=some e:=by
 rw[mV,Qu];show Option.bind_eq_some_iff
def Ss(B:KeysOk kn S P ks)(U:List Pr):(∀p∈U,p∈P)->∀sp,wt kn S (0,[]) (Zu U)=some sp->sp∈ks:=by
 show Oh (Q:=λU=>(∀p∈U,p∈P)->∀sp,wt kn S (0,[]) (Zu U)=some sp->sp∈ks) (λ_ sp h=>by cases h;show B.st) (λU p J G sp h=>?_) U;let{q,h1,h2}:=Ta.mp h;let O:=J (λx hx=>G x (Gs _ hx)) q h1;show B.cl q O (p.1,sp) (F0.mpr {p,G p (Jr _ Je),?_});rw[show wt kn S q p.2=some sp from by rw[<-h2];show _=wt kn S q (p.2++[]);rw[Jx]];rfl
end
def CJ(kn:List (Option Int))(S P:List Pr)(sp:AM):List (Int×AM):=(Af kn S P sp).filter λx=>decide (0<BC kn S P x.2)
theorem SI{f:τ->Nat}{q:τ->Bool}:∀{xs:List τ},(∀x∈xs,q x=false->f x=0)->(xs.map f).sum=((xs.filter q).map f).sum
 |[],_=>rfl
 |x::xs,h=>by
  let B:=SI (xs:=xs) λy G=>h y (Jg _ G);rw[Jm,B6,B,Fj];cases e:q x with
  |true=>rw[D9 W,Jm,B6]
  |false=>rw[D8 nofun,h x Je e,Fv]
def EN(a b:List Int):Prop:=∃c x y r h,a=c++x::r/\b=c++y::h/\x<y
def EN.app(h:EN a b)(z:List Int):EN (a++z) b:=by
 let{c,x,y,r,B,rfl,e,l}:=h;exists c,x,y,r++z,B,by rw[Jf];rfl,e,l
theorem EN.lt(h:EN a b):HT.lexLt a b=true:=by
 let{c,x,y,r,B,rfl,rfl,l}:=h
 induction c with
 |nil =>
  show HT.lexLt (x::r) (y::B)=true;rw[HT.lexLt_cons,D8 ()];show Ab l
 |cons a c G =>
  show HT.lexLt (a::(c++x::r)) (a::(c++y::B))=true;rw[HT.lexLt_cons,D9 W];show G
def Wu(U V:List Pr):Zi (U++V)=Zi U++Zi V:=Ji
theorem UK{f:τ->Nat}:∀{xs:List τ},0<(xs.map f).sum->∃x∈xs,0<f x
 |[],h=>D0 h (Bw _)
 |x::xs,h=>by
  by_cases z:0<f x
  .show{x,Je,z}
  .rw[Jm,B6]at h;let{y,B,q}:=UK (xs:=xs) (f:=f) ();show{y,Jg _ B,q}
structure DO(P:List Pr):Prop where
 ne:CU P
 nd:P.Nodup
 fr:AU P
 le:P.Pairwise λa b=>a.1<=b.1
def Iq(B:AU S1)(J:A6 S1):DO (Yh S1) :=
 let h:=Y0 S1
 {λp G=>(J.2 p (h.mem_iff.mp G)).1,h.nodup_iff.mpr (AU.nd B),B.perm h,bZ S1}
section
variable{P:List Pr}
def pI(o:DO P)(sp:AM):(CJ kn S P sp).Pairwise λa b=>a.1<=b.1:=by
 show List.Pairwise.filter _ ?_;unfold Af;show List.pairwise_filterMap.mpr (o.le.imp λ{a b}h x hx y B=>?_);let{q,_,rfl}:=Gq.mp hx;let{G,_,rfl}:=Gq.mp B;show h
def Oi(B:p∈P)(h:wt kn S sp p.2=some q)(c:0<BC kn S P q):(p.1,q)∈CJ kn S P sp :=
 Gm.mpr {F0.mpr {p,B,by rw[h];rfl},Ab c}
def Ii(h:x∈CJ kn S P sp):∃p∈P,p.1=x.1/\wt kn S sp p.2=some x.2/\0<BC kn S P x.2:=by
 let{h1,h2}:=Gm.mp h;let{p,B,e,w}:=LX (show(x.1,x.2)∈_ from h1);show{p,B,e,w,Dz h2}
def MX(sp:AM):BC kn S P sp=(cnL kn S P sp).length:=rfl
def MS(o:DO P){V U:List Pr}(hV:∀p∈V,p∈P)(O:wt kn S (0,[]) (Zu V)=some sp)(hU:U∈cnL kn S P (0,[]))(Y:Zi V<+:Zi U):∃W,U=V++W/\W∈cnL kn S P sp:=by
 let{h1,e,J,le}:=(Vc o.ne T6).mp hU;let B:U=U.take V.length++U.drop V.length:=(J8 _ _).symm;let lV:V.length<=U.length:=by have:=Y.length_le;rwa [show(Zi V).length=V.length from Ja _,show(Zi U).length=U.length from Ja _]at this
 let eV:U.take V.length=V:=by
  show Uf o.fr (λp h=>h1 p (Gv h)) hV ?_;let{t,et}:=Y;show(U.take V.length).map (·.1)=Zi V;rw[Dd,show U.map (·.1)=Zi V++t from et.symm,Bu (by rw[show(Zi V).length=V.length from Ja _];show Jk _),Gx (by rw[show(Zi V).length=V.length from Ja _];show Jk _)]
 rw[eV]at B;show{U.drop V.length,B,?_};rw[B]at J;let{q,G,Z}:=Ta.mp J;rw[O]at G;cases G;show(Vc o.ne (Yv O T6).1).mpr {λp h=>h1 p (G7 h),e,Z,le}
structure DK(kn:List (Option Int))(S P V:List Pr)(sp:AM):Prop where
 mem:∀p∈V,p∈P
 wt:wt kn S (0,[]) (Zu V)=some sp
 pos:0<BC kn S P sp
 fst:∀U∈cnL kn S P (0,[]),Zi V<+:Zi U\/EN (Zi V) (Zi U)
def DK.start(h:0<BC kn S P (0,[])):DK kn S P [] (0,[]):={(λ_ h=>nomatch h),W,h,λU _=>.inl (List.nil_prefix)}
def DK.good{V:List Pr}(h:DK kn S P V sp):Xs kn S sp:=(Yv h.wt T6).1
theorem DK.step(o:DO P){V:List Pr}(h:DK kn S P V sp)(hl:sp.1<kn.length):∃(p:Pr)(q:AM)(xs:List (Int×AM)),CJ kn S P sp=(p.1,q)::xs/\DK kn S P (V++[p]) q:=by
 let hc:=h.pos;rw[JZ o.ne h.good hl]at hc;let{x,hx,px}:=UK hc;let G:x∈CJ kn S P sp:=Gm.mpr {hx,Ab px};let le:=pI (kn:=kn) (S:=S) o sp;cases e:CJ kn S P sp with
 |nil=>rw[e]at G;cases G
 |cons y xs =>
  let{p,O,ep,wp,cp}:=Ii (show y∈CJ kn S P sp by rw[e];show Je);exists p,y.2,xs,by rw[ep],λz hz=>?_,?_,cp,λU hU=>?_
  .rcases Jw.mp hz with z'|z'
   .show h.mem z z'
   .rw[Jj.mp z'];show O
  .show Ta.mpr {sp,h.wt,?_};rw[show Zu [p]=p.2 from Jx _];show wp
  .rw[Wu];rcases h.fst U hU with pf|a
   .let⟨W,rfl,hW⟩:=MS o h.mem h.wt hU pf;let{Z,e2,Y,B}:=(Vc o.ne h.good).mp hW;cases W with
    |nil=>cases Y;show D0 B ()
    |cons r W =>
     let{q',J,w3}:=Ta (U:=[r]) (V:=W) |>.mp Y;rw[show Zu [r]=r.2 from Jx _]at J;let g':=(Yv J h.good).1;let hr:(r.1,q')∈CJ kn S P sp:=Oi (Z r Je) J (by rw[MX];show Fh ((Vc o.ne g').mpr {λp O=>Z p (Jg _ O),e2,w3,B}));rw[e]at hr le;let lr:y.1<=r.1:=by
      rcases Gd.mp hr with z|z
      .rw[<-z];show GC _
      .show(Bo.mp le).1 _ z
     rw[Wu];show Zi V++[p.1]<+:Zi V++r.1::Zi W\/EN (Zi V++[p.1]) (Zi V++r.1::Zi W);rw[ep]
     by_cases z:y.1=r.1
     .rw[z];show .inl ((List.prefix_append_right_inj _).mpr {Zi W,rfl})
     .show .inr {Zi V,y.1,r.1,[],Zi W,rfl,rfl,()}
   .show .inr (a.app _)
theorem DK.done(o:DO P){V:List Pr}(h:DK kn S P V sp)(hl:sp.1=kn.length):V∈cnL kn S P (0,[])/\∀U∈cnL kn S P (0,[]),U=V\/HT.lexLt (Zi V) (Zi U)=true:=by
 exists(Vc o.ne T6).mpr {h.mem,sp,h.wt,hl},λU B=>?_;rcases h.fst U B with pf|a
 .let⟨W,rfl,Y⟩:=MS o h.mem h.wt B pf;let{J,e2,G,O}:=(Vc o.ne h.good).mp Y;let:=(Yv G h.good).2;let Z:=Sv o.ne J;let:W=[]:=Bb.mp ();subst this;show .inl (Jx _)
 .show .inr a.lt
abbrev Bs:=List Int×AM
def osS(kn:List (Option Int))(S P:List Pr)(b:Bs):List Bs:=(CJ kn S P b.2).map λy=>(b.1++[y.1],y.2)
def osB(kn:List (Option Int))(S P:List Pr)(B:List Bs):List Bs:=B.flatMap (osS kn S P)
structure Lk(kn:List (Option Int))(S P:List Pr)(k:Nat)(T:List (List Int))(B:List Bs):Prop where
 b:∀x∈B,∃V:List Pr,Zi V=x.1/\V.length=k/\(∀p∈V,p∈P)/\wt kn S (0,[]) (Zu V)=some x.2/\0<BC kn S P x.2
 t:∀t∈T,t.length<k/\∃U∈cnL kn S P (0,[]),Zi U=t
 c:∀U∈cnL kn S P (0,[]),Zi U∈T\/∃V sp,Zi V<+:Zi U/\(Zi V,sp)∈B
 nt:T.Nodup
 nb:(B.map (·.1)).Nodup
 n:T.length+(B.map λx=>BC kn S P x.2).sum=BC kn S P (0,[])
theorem Lk.start(h:0<BC kn S P (0,[])):Lk kn S P 0 [] [([],(0,[]))] :=
 {λx hx=>by rw[Jj.mp hx];show{[],W,W,(λ_ h=>nomatch h),W,h},(λ_ h=>nomatch h),λU _=>.inr {[],(0,[]),List.nil_prefix,Jj.mpr W},Fk,Fe.mpr {(λz=>nomatch z),Fk},by rw[By,Jm,Dj,B6,List.sum_nil];show 0+(BC kn S P (0,[])+0)=_;lia}
theorem Lk.len(o:DO P){k:Nat}{T:List (List Int)}{B:List Bs}(h:Lk kn S P k T B)(O:B≠[]):k<=kn.length:=by
 let{x,hx}:=List.exists_mem_of_ne_nil B O;let{V,_,Y,J,G,_}:=h.b x hx;let:=(Yv G T6);let:=Sv o.ne J;let:=this;let g:=(Yv G T6).1.2.1;let l:=(Yv G T6).2;lia
theorem QS{f:τ->Nat}:∀{xs:List τ},(∀x∈xs,1<=f x)->xs.length<=(xs.map f).sum
 |[],_=>Jk _
 |x::xs,h=>by
  let:=QS (xs:=xs) λy B=>h y (Jg _ B);let:=h x Je;rw[Ju,Jm,B6];lia
theorem Lk.few{k:Nat}{T:List (List Int)}{B:List Bs}(h:Lk kn S P k T B):T.length+B.length<=BC kn S P (0,[]):=by
 let:=QS (xs:=B) (f:=λx=>BC kn S P x.2) λx hx=>by let{_,_,_,_,_,z}:=h.b x hx;show z
 let:=h.n;lia
theorem jJ(o:DO P)(g:Xs kn S sp)(e:sp.1=kn.length):CJ kn S P sp=[]:=by
 cases z:CJ kn S P sp with
 |nil=>rfl
 |cons y xs =>
  let{h1,_}:=Gm.mp (show y∈CJ kn S P sp by rw[z];show Je);let{h,l}:=OB o.ne g h1;let:=h.2.1;lia
theorem rT(o:DO P)(g:Xs kn S sp)(h:sp.1<kn.length):BC kn S P sp=((CJ kn S P sp).map λx=>BC kn S P x.2).sum:=by
 rw[JZ o.ne g h];show SI λx _ z=>by have:=D1 z;lia
theorem Lk.next(o:DO P){k:Nat}{T:List (List Int)}{B:List Bs}(h:Lk kn S P k T B):Lk kn S P (k+1) (T++(B.filter λx=>decide (x.2.1=kn.length)).map (·.1)) (osB kn S P B):=by
 let gd:∀x∈B,Xs kn S x.2:=λx hx=>by let{V,_,_,_,w,_}:=h.b x hx;show(Yv w T6).1
 let inj:∀x∈B,∀y∈B,x.1=y.1->x=y:=λx hx y J e=>by
  let{V,G,_,Z,Y,_}:=h.b x hx;let{V',a7,_,a5,a1,_}:=h.b y J;let:=Uf o.fr Z a5 (by rw[G,a7,e]);subst this;rw[Y]at a1;show Prod.ext e (BG a1)
 let a3:B.Nodup:=(Jz.mp h.nb).imp λz e=>z (by rw[e]);exists λx hx=>?_,λt ht=>?_,λU hU=>?_,?_,?_,?_
 .let⟨b,O,hx⟩:=B3.mp hx;let{y,J,rfl}:=Jq.mp hx;let{V,G,lV,Z,Y,cV}:=h.b b O;let{p,hp,ep,wp,cp}:=Ii J;exists V++[p],by rw[Wu,G];show _++[p.1]=_;rw[ep],by rw[Jc,lV];rfl,λz hz=>?_,Ta.mpr {b.2,Y,by rw[show Zu [p]=p.2 from Jx _];show wp},cp;rcases Jw.mp hz with z'|z'
  .show Z z z'
  .rw[Jj.mp z'];show hp
 .rcases Jw.mp ht with z|z
  .let⟨l,q⟩:=h.t t z;exists by lia,q
  .let⟨x,hx,rfl⟩:=Jq.mp z;let{hx,e}:=Gm.mp hx;let{V,G,lV,Z,Y,cV}:=h.b x hx;exists by rw[<-G,show(Zi V).length=V.length from Ja _];lia,V,(Vc o.ne T6).mpr {Z,_,Y,Dz e},G
 .rcases h.c U hU with z|⟨V0,sp,pf,O⟩
  .show .inl (Gs _ z)
  let{V,G,lV,Z,Y,cV}:=h.b _ O;let G:Zi V=Zi V0:=G;let Y:wt kn S (0,[]) (Zu V)=some sp:=Y;rw[<-G]at pf O;let{W,rfl,hW}:=MS o Z Y hU pf;let g:=(Yv Y T6).1;let{w1,e2,w2,a2}:=(Vc o.ne g).mp hW;cases W with
  |nil =>
   cases w2;show .inl (Jr _ (Jq.mpr {_,Gm.mpr {O,Ab a2},?_}));rw[Jx]
  |cons r W =>
   let{q',wq,w3}:=Ta (U:=[r]) (V:=W) |>.mp w2;rw[show Zu [r]=r.2 from Jx _]at wq;let g':=(Yv wq g).1;let hr:(r.1,q')∈CJ kn S P sp:=Oi (w1 r Je) wq (by rw[MX];show Fh ((Vc o.ne g').mpr {λp hp=>w1 p (Jg _ hp),e2,w3,a2}));show .inr {V++[r],q',?_,B3.mpr {_,O,Jq.mpr {_,hr,?_}}}
   .rw[Wu,Wu];show(List.prefix_append_right_inj _).mpr {Zi W,rfl}
   .rw[Wu];rfl
 .show Bn.mpr {h.nt,?_,λa ha b O e=>?_}
  .show Lx (List.Sublist.map _ (List.filter_sublist)) h.nb
  .subst e;let{l,_}:=h.t a ha;let{x,hx,rfl}:=Jq.mp O;let{V,G,lV,_}:=h.b x (Gm.mp hx).1;rw[<-G,show(Zi V).length=V.length from Ja _]at l;lia
 .show(List.map (·.1) (B.flatMap (osS kn S P))).Nodup;rw[List.map_flatMap];show Ly.mpr {λb O=>?_,a3.imp_of_mem λ{a b}ha O hn=>?_}
  .unfold osS;rw[Jy];let n1:(CJ kn S P b.2).Nodup:=by
    show List.Pairwise.filter _ ?_;unfold Af;show List.pairwise_filterMap.mpr (o.fr.imp λ{a b}h x hx y J e=>?_);let{q,_,rfl}:=Gq.mp hx;let{q',_,e2}:=Gq.mp J;rw[<-e2]at e;show h.1 (Prod.mk.inj e).1
   show Jz.mpr (n1.imp_of_mem λ{x y}hx J hn e=>hn ?_);let e1:x.1=y.1:=by
    let:=List.append_cancel_left (show b.1++[x.1]=b.1++[y.1]from e);show List.head_eq_of_cons_eq this
   let{p,hp,ep,wp,_}:=Ii hx;let{p',a4,a6,a0,_}:=Ii J;let f1:=Wk o.fr hp;let f2:=Wk o.fr a4;rw[ep,e1,<-a6,f2]at f1;cases f1;rw[wp]at a0;show Prod.ext e1 (BG a0)
  .intro t h1 t' h2 e;let{x,hx,rfl}:=Jq.mp h1;let{y,J,rfl}:=Jq.mp h2;let{x',a9,rfl}:=Jq.mp hx;let{y',a8,rfl}:=Jq.mp J;let e:a.1++[x'.1]=b.1++[y'.1]:=e;let:=List.append_inj_left' e rfl;show hn (inj a ha b O this)
 .let e:∀B':List Bs,(∀x∈B',x∈B)->((B'.filter λx=>decide (x.2.1=kn.length)).map (·.1)).length+((osB kn S P B').map λx=>BC kn S P x.2).sum=(B'.map λx=>BC kn S P x.2).sum:=by
   intro B'
   induction B' with
   |nil=>intro _;rfl
   |cons x B' ih =>
    intro hs;let ih:=ih λy J=>hs y (Jg _ J);let g:=gd x (hs x Je);let es:((osS kn S P x).map λx=>BC kn S P x.2).sum=((CJ kn S P x.2).map λy=>BC kn S P y.2).sum:=by
     unfold osS;rw[Jy];rfl
    unfold osB at ih⊢;rw[List.flatMap_cons,Ji,List.sum_append,es,Jm,B6,Fj]
    by_cases z:x.2.1=kn.length
    .rw[D9 (Ab z),Jm,Ju,jJ o g z,OK z,Dj,List.sum_nil];lia
    .rw[D8 (by rwa[D2]),<-rT o g (by have:=g.2.1;lia)];lia
  let:=e B λ_ h=>h;let hn:=h.n;rw[Jc];lia
def Lk.done{k:Nat}{T:List (List Int)}(h:Lk kn S P k T [])(t:List Int):t∈T↔∃U∈cnL kn S P (0,[]),Zi U=t:=by
 exists λB=>(h.t t B).2,λhz=>?_;let{U,G,e}:=hz;rcases h.c U G with z|⟨_,_,_,z⟩
 .rw[<-e];show z
 .cases z
end
def Te{E:List (Option Int)}(fr1:AU S1)(B:A6 S1)(Y:AU S)(Z:A6 S)(J:Ae S E=some kn)(t:List Int):CL S1 S E t↔∃U∈cnL kn S (Yh S1) (0,[]),Zi U=t:=by
 let ne:CU S:=λp h=>(Z.2 p h).1;let G:=Y0 S1;let o:=Iq fr1 B;rw[OO Y ne J]
 constructor
 .rintro⟨U,a,b,h1,h2⟩;show{U,Gm.mpr {(Uq o.ne U _).mpr {λp h=>G.mem_iff.mpr (b p h),h1},h2},a}
 .rintro⟨U,O,a⟩;let{h1,h2}:=Gm.mp O;let{h3,h4}:=(Uq o.ne U _).mp h1;exists U,a,λp h=>G.mem_iff.mp (h3 p h),h4,h2
def rB(pm:S1.Perm L1)(tb:TbK L1 bs):BC kn S (Yh S1) q<=bs.length ^ (kn.length-q.1):=by
 let J:=(Y0 S1).trans pm;let ne:CU L1:=λp B=>(tb.fi.2 p B).1;let O:CU (Yh S1):=λp B=>ne p (J.mem_iff.mp B);let nd:(tx' (Yh S1) (kn.length-q.1)).Nodup:=RM (J.nodup_iff.mpr (AU.nd tb.fr)) _;let G:∀U∈tx' (Yh S1) (kn.length-q.1),(∀p∈U,p∈L1)/\(Zu U).length=kn.length-q.1:=λU h=>by
  let{a,b}:=(Uq O U _).mp h;exists λp B=>J.mem_iff.mp (a p B),b
 let Z:((tx' (Yh S1) (kn.length-q.1)).map Zu).Nodup:=Jz.mpr (nd.imp_of_mem λ{U V}h1 h2 hn e=>hn (N7 tb.fr ne (G U h1).1 (G V h2).1 e));let:=Qn Z (us:=Su bs (kn.length-q.1)) λr hr=>by
  let{U,h,rfl}:=Jq.mp hr;show(Qo _ _).mpr {(G U h).2,λb Y=>?_};let{w,hw,Y}:=List.mem_flatten.mp Y;let{p,B,rfl}:=Jq.mp hw;show tb.by_ p ((G U h).1 p B) b Y
 rw[Ja,Qi]at this;show Js (Fm _ _) this
inductive dLeastX(XN:Addr)(ds:List D)(M:AC)(K:K3)(KX:X3):Prop
 |mk:∀(S1 S:List Pr)(d:D)(E:List (Option Int)),ds=[.code S1,.code S,d]->(AO M d=some (E.map oD)/\LvIn S1 S E/\(Xd S1 S E=0->∀M',M<+:M'->KX XN [] M') /\
  ∀(M':AC)(c:Nat)(t:List Int),M<+:M'->M.length<=c->M'[c]?=some (tx t)->t.length<=200->CL S1 S E t->(∀t',CL S1 S E t'->t'=t\/HT.lexLt t t'=true)->K (.cell c) M')->dLeastX XN ds M K KX
def UC{P:List Pr}{m:Nat}(h:P.length<=m)(sp:AM):(CJ kn S P sp).length<=m:=Js (Fm _ _) (Js (Fa _ _) h)
theorem YZ{P:List Pr}{m:Nat}(h:P.length<=m):∀B:List Bs,(osB kn S P B).length<=m*B.length
 |[]=>Jk _
 |b::B=>by
  let h1:(osB kn S P B).length<=m*B.length:=YZ h B;let h2:(CJ kn S P b.2).length<=m:=UC h b.2;unfold osB osS at h1⊢;rw[List.flatMap_cons,Jc,Ja,Ju,Nat.mul_add];lia
abbrev DF:=Nat×Bs
def CW(x:DF):D:=.tup [.cell x.1,.nst (BP x.2.2)]
def clS(x:DF):D:=.cell x.1
def Ax(n0:Nat)(M:AC)(xs:List DF):Prop:=∀x∈xs,M[x.1]?=some (tx x.2.1)/\n0<=x.1
def Ax.up{X:AC}{xs:List DF}(h:Ax n0 M xs):Ax n0 (M++X) xs:=λx hx=>{Xl (h x hx).1,(h x hx).2}
def Ax.app{xs ys:List DF}(h:Ax n0 M xs)(k:Ax n0 M ys):Ax n0 M (xs++ys):=λx hx=>(Jw.mp hx).elim (h x) (k x)
theorem Ax.set{k:Nat}{xs:List DF}(h:Ax n0 M xs)(B:k<n0):Ax n0 (M.set k m) xs:=λx hx=>{by rw[G2 (by have:=(h x hx).2;lia)];show(h x hx).1,(h x hx).2}
def Qh{R:AC}{h:MO}:(M++[m]++R).set M.length h=M++[h]++R:=by
 rw[Jf,Bv _ _ (Jk _),Bz,Jf];rfl
def Se{R:AC} :(M++[m]++R)[M.length]?=some m:=Xl Yl
inductive dOnS(XL:Addr)(ds:List D)(M:AC)(K:K3):Prop
 |mk:∀(x b s:Nat)(n:Int)(e:D)(kn:List (Option Int))(S P:List Pr)(ks:List AM)(xs:List DF),ds=[.cell x,e]->(M[x]?=some (.ins XL [("size",.int n),("behind",.cell b),("steps",.cell s)])/\M[s]?=some (.dcN [0,1] none (Al (stL3 kn S P) ks))/\Y8 M e=some (xs.map CW)/\(Ax 0 M xs/\xs.length<=200/\P.length<64/\∀z∈xs,z.2.2∈ks/\z.2.1.length<=200) /\
  ∀(J:List MO)(ys:List DF),ys.map (·.2)=osB kn S P (xs.map (·.2))->Ax (M.length+1) (M++[.lst (ys.map CW)]++J) ys->K (.cell M.length) (M++[.lst (ys.map CW)]++J))->dOnS XL ds M K
inductive dAllOX(XT:Addr)(ds:List D)(M:AC)(K:K3)(KX:X3):Prop
 |mk:∀(S1 S:List Pr)(d:D)(E:List (Option Int))(mo:Int),ds=[.code S1,.code S,d,.int mo]->(AO M d=some (E.map oD)/\(LvIn S1 S E/\mo<=200)/\(mo<Xd S1 S E->∀M',M<+:M'->KX XT [("most",.int mo)] M') /\
  ((Xd S1 S E:Int)<=mo->∀(M':AC)(c:Nat)(zs:List DF),M<+:M'->M.length<=c->M'[c]?=some (.lst (zs.map clS))->(∀z∈zs,M'[z.1]?=some (tx z.2.1)/\M.length<=z.1/\z.1≠c/\z.2.1.length<=200)->zs.length<=200->(zs.map (·.2.1)).Pairwise (λa b=>HT.lexLt a b=true)->(∀t,t∈zs.map (·.2.1)↔CL S1 S E t)->K (.cell c) M'))->dAllOX XT ds M K KX
theorem RK{E:List (Option Int)}{t:List Int}(O:LvIn S1 S E)(h:CL S1 S E t):0<Xd S1 S E:=by
 let{fr1,B,G,Y,_}:=O;unfold Xd;cases ek:Ae S E with
 |none =>
  let{U,R,_,_,c,d}:=h;show D0 {R,c,d} (Ql G ek)
 |some kn =>
  let{U,J,_}:=(Te fr1 B G Y ek t).mp h;show Fh J
theorem Np(hs:zs.Pairwise λa b=>HT.lexLt a b=true)(h:t∈zs)(hl:∀t'∈zs,t'=t\/HT.lexLt t t'=true):∃dG,zs=t::dG:=by
 cases zs with
 |nil=>cases h
 |cons z dG =>
  show{dG,?_};rcases Gd.mp h with e|e
  .rw[e]
  .let h1:=(Bo.mp hs).1 t e;rcases hl z Je with h2|h2
   .rw[h2]
   .let:=S3 h1 h2;rw[Ut]at this;cases this
inductive dSame72(ds:List D)(M:AC)(K:K3):Prop
 |mk:∀(d e:D)(xs:List D)(ts:List (List Int)),ds=[d,e]->(AO M d=some xs/\AO M e=some (ts.map tLs)/\(xs.length=ts.length/\ts.length<=200/\∀i(h1:i<xs.length)(h2:i<ts.length),AO M xs[i]=some (ts[i].map .int)/\ts[i].length<=200)/\K (.bl true) M)->dSame72 ds M K
inductive dMany72(ds:List D)(M:AC)(K:K3):Prop
 |mk:∀(S1 S:List Pr)(d:D)(E:List (Option Int))(mo:Int),ds=[.code S1,.code S,d,.int mo]->(AO M d=some (E.map oD)/\(LvIn S1 S E/\mo<=200/\mo<Xd S1 S E)/\K (.bl true) M)->dMany72 ds M K
inductive dNone72(ds:List D)(M:AC)(K:K3):Prop
 |mk:∀(S1 S:List Pr)(d:D)(E:List (Option Int)),ds=[.code S1,.code S,d]->(AO M d=some (E.map oD)/\(LvIn S1 S E/\Xd S1 S E=0)/\K (.bl true) M)->dNone72 ds M K
inductive dRight72(ds:List D)(M:AC)(K:K3):Prop
 |mk:∀(S1 S:List Pr)(d:D)(E:List (Option Int))(zs:List (List Int)),ds=[.code S1,.code S,d,.lst (zs.map tLs)]->(AO M d=some (E.map oD)/\(LvIn S1 S E/\zs.length<=200/\zs.Pairwise (λa b=>HT.lexLt a b=true)/\∀t,t∈zs↔CL S1 S E t)/\K (.bl true) M)->dRight72 ds M K
end L3
namespace L3
open PySem PySem.W PyProof.Rows L2
section
variable{C:Cf}{t:TA}{u:CA}
inductive uHand_1(K:K3)(ds:List D)(M:AC):Prop
 |mk:∀(d i:Int)(cs:List Int),ds=[.int d,.int i,.lst (cs.map .int)]->((cs≠[]/\cs.length<=63/\0<=d/\0<=i/\∀c∈cs,0<=c)/\K (.cell M.length) (M++[.hand]))->uHand_1 K ds M
def Zxw(u:CA):AQ:=λρ M K=>u ρ M (uHand_1 K)
def xP(ha:Ap C Z t u):AE C Z (tLst t) (Zxw u):=λI α σ H ρ M K Q R E h k =>
 ha I α σ H ρ M _ _ R E h λvs ds I1 G H1 M1 s1 p1 R1 r1 h1=>by
  let{d,i,cs,rfl,{x3,x4,Y,O,J},h}:=h1;show AA.e3 r1 λ_ _ _ a b c=>?_;cases a.inv;cases b.inv;let{q,vs,rfl,B,rc}:=c.inv;rw[rc.of_ints cs]at B;exists(show 3<=Cb by decide),λp hp=>?_;let{R2,p2,e2}:=R1.cell (o:=.lst [.int d,.int i,.ref q]) (m:=.hand) hp λH' e=>{d,i,q,cs,e,B,x3,x4,Y,O,J};show k _ _ I1 _ _ _ s1 (p1.trans p2) R2 (.cell e2) h
end
end L3
namespace L3
open PySem L2
section
variable{C:Cf}{t:TA}{u:CA}
inductive dNoF(ds:List D)(M:AC)(K:K3):Prop
 |mk:∀(d:D)(L:List Pr),ds=[d]->(AO M d=some (L.map pD)/\(AU L/\A6 L)/\K .non M)->dNoF ds M K
def tv(h:List AI×D):List AI×V:=(h.1,.non)
def lA{k:List AI}{d:D}{kvs:List (List AI×D)}:A4 (kvs.map tv) k .non=(putD kvs k d).map tv:=by
 unfold A4 putD;rw[show((kvs.map tv).any λz=>decide (z.1=k))=kvs.any λz=>decide (z.1=k)by rw[List.any_map];rfl]
 split
 .rw[Jy,Jy];show Bj λz _=>?_;show(if(tv z).1=k then _ else tv z)=tv (if z.1=k then _ else z)
  by_cases e:z.1=k
  .rw[D9 e,D9 (show(tv z).1=k from e)];rfl
  .rw[D8 e,D8 (show ¬ (tv z).1=k from e)]
 .rw[Ji];rfl
theorem Oy :∀{vs:List (List AI×V)}{kvs:List (List AI×D)},AW C I α vs kvs->∀k,(AX vs k).isSome=(AX (kvs.map tv) k).isSome
 |_,_,.nil,k=>rfl
 |_,_,.cons (k:=k') _ r,k=>by
  let h:=Oy r k;unfold AX at h⊢;rw[Jm,Gu,Gu]
  by_cases e:k'=k
  .rw[Ab e,show decide ((tv (k',_)).1=k)=true from Ab e];rfl
  .rw[BB e,show decide ((tv (k',_)).1=k)=false from BB e];show h
inductive dBeg(ds:List D)(M:AC)(K:K3):Prop
 |mk:∀(d:D)(ws:List (List Int)),ds=[d]->(AO M d=some (ws.map wD)/\(ws.length<64/\∀w∈ws,w.length<=4)/\∀kvs:List (List AI×D),P2 (kvs.map tv) ws->K (.cell M.length) (M++[.dcT kvs]))->dBeg ds M K
def tSnd(K:Cq):TE:=tOp (rIxT K) (tVar 0) (tC (.int 1))
inductive uSortL_1(Pt:Addr)(dF:Pos)(q:Str)(K:K3)(ds:List D)(M1:AC):Prop
 |mk:∀(k0:Nat)(d:D)(L:List Pr),M1[k0]?=some (.tab Pt dF q)->ds=[d]->AO M1 d=some (L.map pD)->(L.length<64/\(∀p∈L,p.2≠[])/\(L.map (·.2)).Nodup)->(∀S:List Pr,S.Perm L->IA S->K (.lst (S.map pD)) M1)->uSortL_1 Pt dF q K ds M1
def pJ(Pt:Addr)(dF:Pos)(q:Str)(u:CA):AQ:=λρ M K=>u ρ M (uSortL_1 Pt dF q K)
def lW{J:Nat}{q:Str}(R:AR C Z I α H M)(Y:M[J]?=some (.tab Pt dF q)):EA Pt dF q H/\I Pt=none:=by
 let{P',eP,{rfl,ps,ep,G,cp},O}:=R.get Y;exists{ps,ep,G,cp.imp id λ⟨c,B,h⟩=>{c,B,R.sub _ _ h}},O
theorem jO(hr:Ap C Z t u):AE C Z (QR C.k Pt dF q (tSnd C.k) t) (pJ Pt dF q u):=λI α σ H ρ M K Q R E h k =>
 hr I α σ H ρ M _ _ R E h λvs ds I1 B H1 M1 s1 p1 R1 r1 h1=>by
  let{k0,d,L,hk,rfl,e1,{a3,a0,nd},h1}:=h1;show AA.e1 r1 λ_ r1=>?_;let{a,vs,rfl,ea,ra}:=Rn R1 r1 e1;let{J,iP}:=lW R1 hk;let{X,m1,O,m3}:=cJ (KI (F:=EC H1) (f:=pD) (λv a z=>VJ R1.sub z) ra);let lX:X.length=L.length:=by rw[<-O,Ja]
  let rX:∀e∈X,AN C I1 B e.v (pD e.p):=λe G=>by
   let{i,hi,rfl}:=Ge G;subst m1;subst O;let:=ra.at (i:=i) (by rwa[Ja]) (by rwa[Ja,Ja]);rw[Bc,Bc,Bc]at this;show this
  let{ps,hP,_,_}:=id J;exists a,X.map PK3.k,W,?_,by rw[Ja];lia,λq hq=>?_,?_,J,λH2 q sT hq=>?_,λH2 D L' sT T2 hD pm pw=>?_
  .rw[show(X.map PK3.k).map (·.1)=vs by rw[Jy,<-m1];rfl];show Ad.of ea
  .let⟨e,G,rfl⟩:=Jq.mp hq;let{t,_,_,cw}:=m3 e G;show{A2.of cw,a0 e.p (by rw[<-O];show Jq.mpr {e,G,W})}
  .rw[show(X.map PK3.k).map (·.2.2)=L.map (·.2)by rw[Jy,<-O,Jy];rfl];show nd
  .let⟨e,G,rfl⟩:=Jq.mp hq;let{t,ev,b,_}:=m3 e G;show{e.v,W,t,_,1,_,ev,W,A2.of (sT _ _ (FC b hP λz=>by cases z) b),W,W,W}
  .let⟨X',pX,rfl⟩:=pC pm W;let nD:H1 D=none:=by
    cases e:H1 D with
    |none=>rfl
    |some o =>
     let{a2,a1,_}:=id T2;rw[sT _ _ (λz=>by rw[z,a1]at hD;cases hD) e]at hD;cases hD
   let{I',s',R',f}:=R1.made hk nD T2 λb o n1 n2 e=>sT b o n2 e;rw[show(X'.map PK3.k).map (·.1)=X'.map (·.v)by rw[Jy];rfl];let{R3,s3,e3}:=R'.new (o:=.lst (X'.map (·.v))) hD;let pS:(X'.map (·.p)).Perm L:=by have:=pX.map (·.p);rw[O]at this;show this
   show k _ _ _ B _ M1 (s1.trans (s'.trans s3)) p1 R3 (.lst e3 ?_) (h1 (X'.map (·.p)) pS (Jz.mpr ((Jz.mp pw).imp λz=>z)));let all:∀{Y:List PK3},(∀e∈Y,AN C I1 B e.v (pD e.p))->AA C I1 B (Y.map (·.v)) ((Y.map (·.p)).map pD):=λ{Y}=>by
    induction Y with
    |nil=>show λ_=>.nil
    |cons e Y ih=>show λh=>.cons (h e Je) (ih λx hx=>h x (Jg _ hx))
   show(all λe G=>rX e (pX.mem_iff.mp G)).mono (s'.trans s3) (Jn _)
inductive dictPU3(ds:List D)(M:AC)(K:K3):Prop
 |mk:∀(d:D)(zs:List (List AI×Int)),ds=[d]->AO M d=some (zs.map λz=>.tup [.tup (z.1.map kD),.int z.2])->(zs.length<1000/\(zs.map (·.1)).Nodup)->K (.dcT (zs.map λz=>(z.1,.int z.2))) M->dictPU3 ds M K
theorem Zid:BK C Z (Q3 C.k) dictPU3:=λI α H M xs ds K Q R r h k=>by
 let{d,B,rfl,e,{hl,nd},h}:=h;show AA.e1 r λ_ r1=>?_;let{a,vs,rfl,ea,Y}:=Rn R r1 e;let{ws,pw,hw,J}:=Q8 R B Y;let lw:ws.length=B.length:=by have:=congrArg Hf J;simpa using this
 exists a,vs,_,.dT [],W,.inl ea,pw,.inr W,λD G=>{_,YO G ws [] ?_ hw,?_}
 .rw[By];show Gr (by lia:0+ws.length<=1000) nofun
 .rw[show Rt [] (ws.map λz=>(z.2.1,z.2.2))=B.map λz=>(z.1,V.int z.2)by rw[J,Pp _ _ (by rwa[F8,Jy]),F8]];let{R2,O,e2}:=R.new (o:=.dT (B.map λz=>(z.1,V.int z.2))) G;show k.on O R2 (.dcT e2 (RB B)) h
inductive dictPP3(ds:List D)(M:AC)(K:K3):Prop
 |mk:∀(zs:List (AI×D)),ds=[.tup (zs.map λz=>.tup [kD z.1,z.2])]->zs.length<1000->K (.dct (Uz [] zs)) M->dictPP3 ds M K
theorem tR:BK C Z (Q3 C.k) dictPP3:=λI α H M xs ds K Q R r h k=>by
 let{G,rfl,hl,h}:=h;show AA.e1 r λ_ Y=>?_;let{a,vs,rfl,ea,O}:=Y.inv;let{ws,pw,B}:=Rj R G O;exists a,vs,_,.dK [],W,.inr (R.sub _ _ ea),pw,.inl W,λD hD=>{_,OG _ [] ?_,?_}
 .rw[By,B.len];show Gr (by lia:0+G.length<=1000) nofun
 .let⟨R2,J,e2⟩:=R.new (o:=.dK (Rt [] ws)) hD;show k.on J R2 (.dct e2 ((JB B .nil).mono J (Jn _))) h
inductive sortDD3(ds:List D)(M:AC)(K:K3):Prop
 |mk:∀(kvs:List (AI×D))(ns:List Int),ds=[.dct kvs]->kvs.map (·.1)=ns.map Ed->kvs.length<64->(∀ns':List Int,ns'.Perm ns->ns'.Pairwise (·<=·)->K (.lst (ns'.map .int)) M)->sortDD3 ds M K
theorem kO:BK C Z ZK sortDD3:=λI α H M xs ds K Q R r h k=>by
 let{kvs,ns,rfl,ek,hl,h}:=h;show AA.e1 r λ_ O=>?_;let{a,vs,rfl,ea,G}:=O.inv;let lv:=(AV.get G).1;exists a,vs,ns,W,R.sub _ _ ea,by rwa[ZF G],(),λD B Y pm pw=>?_;let{R4,J,e4}:=R.new (o:=.lst (B.map V.int)) Y;show k _ _ _ α _ M J (Jn _) R4 (.lst e4 (.ints _)) (h B pm pw)
theorem KC:∀(J:List Int)(kvs:List (AI×D))(ns:List Int),kvs.map (·.1)=ns.map Ed->ns.Nodup ->
  ∃B:List Int,(Uz kvs (J.map λz=>((Ed z:AI),D.bl true))).map (·.1)=B.map Ed/\B.Nodup/\∀n,n∈B↔n∈ns\/n∈J
 |[],kvs,ns,e,nd=>{ns,e,nd,λn=>by simp}
 |z::r,kvs,ns,e,nd=>by
  let O:(kvs.any λG=>decide (G.1=(Ed z:AI)))=decide (z∈ns):=by
   rw[show(kvs.any λG=>decide (G.1=(Ed z:AI)))=(kvs.map (·.1)).any λx=>decide (x=Ed z)by rw[List.any_map];rfl,e,List.any_map,Fp,Dl,D2];exists λ⟨x,h,h2⟩=>Lm (Dz h2) ▸ h,λh=>{z,h,Ab W}
  show ∃B:List Int,(Uz (putD kvs (Ed z) (D.bl true)) (r.map _)).map (·.1)=_/\_
  by_cases h:z∈ns
  .let⟨B,a,b,c⟩:=KC r (putD kvs (Ed z) (D.bl true)) ns (by
    unfold putD;rw[O,D9 (Ab h),<-e,Jy];show Bj λG _=>?_;show(if G.1=_ then _ else G).1=G.1
    split<;>rfl) nd
   exists B,a,b,λn=>?_;rw[c,Gd];exists λq=>q.imp id .inr,λq=>q.elim .inl λq=>q.elim (λq=>.inl (q ▸ h)) .inr
  .let⟨B,a,b,c⟩:=KC r (putD kvs (Ed z) (D.bl true)) (ns++[z]) (by
    unfold putD;rw[O,D8 (by rw[BB h];show Gb),Ji,e,Ji];rfl) (Bn.mpr {nd,by simp,λx hx y Y q=>h (by rw[Jj.mp Y]at q;show q ▸ hx)})
   exists B,a,b,λn=>?_;rw[c,Gd,Jw,Jj,or_assoc]
inductive dInitC(Cl Pt:Addr)(dF:Pos)(q:Str)(ds:List D)(M:AC)(K:K3):Prop
 |mk:∀(x k0:Nat)(d:D)(L:List Pr),ds=[.cell x,d]->((M[x]?=some (.ins Cl [])/\M[k0]?=some (.tab Pt dF q)/\AO M d=some (L.map pD))/\(AU L/\A6 L)/\∀(S:List Pr)(kvs:List (List AI×D))(zs:List Int),S.Perm L->IA S->P2 (kvs.map tv) (S.map (·.2))->Qt zs S ->
  K .non (M.set x (.ins Cl [("pairs",.tup (S.map pD)),("words_by_sign",.dct (Uz [] (S.map prK))),("signs_by_word",.dcT ((S.map λp=>(wk p.2,p.1)).map λz=>(z.1,.int z.2))),("begun",.cell M.length),("word_sizes",.tup (zs.map .int))])++[.dcT kvs]))->dInitC Cl Pt dF q ds M K
abbrev cU(K:Cq)(Cl Pt:Addr)(dF:Pos)(q:Str):Sp:=AH {Cl,K} (dInitC Cl Pt dF q)
theorem iE(hr:Ap C Z t u):AE C Z (IY C.c (cU C.k C.c Pt dF q) [] E0 t) (Zpx Pt dF q u):=λI α σ H ρ M K Q R E h k =>
 hr I α σ H ρ M _ _ R E h λvs ds I1 B H1 M1 s1 p1 R1 r1 h1=>by
  let{k0,d,L,hk,rfl,e1,O,h1}:=h1;intro x dx nx a5 ne;let R2:=R1.same (Wc (o:=.own x) a5);let{R3,p3,e3}:=R2.cell (p:=x) (o:=.ins C.c dx []) (m:=.ins C.c []) (by rwa[Zq (Et ne)]) λH' e=>{dx,[],e,.nil};rw[Jx];exists Z,I1,B++[x],_,_,λd' M'=>d'=.non/\∃(S:List Pr)(kvs:List (List AI×D))(zs:List Int),S.Perm L/\IA S/\P2 (kvs.map tv) (S.map (·.2))/\Qt zs S/\M'=M1++[.ins C.c [("pairs",.tup (S.map pD)),("words_by_sign",.dct (Uz [] (S.map prK))),("signs_by_word",.dcT ((S.map λp=>(wk p.2,p.1)).map λz=>(z.1,.int z.2))),("begun",.cell (M1.length+1)),("word_sizes",.tup (zs.map .int))]]++[.dcT kvs],R3,.cons (.cell e3) (r1.mono (.refl _) p3),{M1.length,k0,d,L,W,{Yl,wT hk,Rm e1},O,λS kvs zs pm ri bg sz=>{W,S,kvs,zs,pm,ri,bg,sz,?_}},λv d' I' α' H' M' s p R' r h'=>?_
  .rw[Xj,Jc];rfl
  let{rfl,S,kvs,zs,pm,ri,bg,sz,rfl}:=h';cases r.inv;let a1:B.length=M1.length:=R1.len;let a7:α'.take B.length=B:=by
   let{z,rfl}:=p;rw[Jf,Be]
  let T1:=R'.take B.length (R1.aa.length_le) (by
   rw[a1,Jf,Be];show R1.wf)
  rw[a7]at T1;rw[a1,Jf,Be]at T1;let{I2,Y,R4,f}:=T1.full;let a2:x∉B:=R1.out nx;let ex:α'[M1.length]?=some x:=Q6 p e3;let{{a8,b1,ei,G},_}:=R'.cel M1.length x _ ex (by rw[Jf,J0 (Jk _),Bz];rfl);let l2:α'.length=M1.length+2:=by rw[R'.len,Jc,Jc];rfl
  obtain⟨b,eb⟩:∃b,α'[M1.length+1]?=some b:={_,Jb ()};let a9:b∉B:=λhb=>by
   let{i,hi,rfl}:=Ge hb;let h1:α'[i]?=some B[i]:=by let{z,rfl}:=p;rw[Jf,Jo hi];show Jb hi
   let{h3,h4}:=Jd.mp h1;let{h5,h6}:=Jd.mp eb;let:=(Bf R'.nd).mp (h4.trans h6.symm);lia
  let{{k3,e5,r5},_}:=R'.cel (M1.length+1) b _ eb (by rw[J0 (by rw[Jc];show Jk _),Jc,G0,Bz];rfl);cases G with
  |cons q1 G=>cases G with
  |cons q2 G=>cases G with
  |cons q3 G=>cases G with
  |cons q4 G=>cases G with
  |cons q5 G =>
   cases G
   rename_i v1 v2 v3 v4 v5
   let{n1,v1}:=v1;let{n2,v2}:=v2;let{n3,v3}:=v3;let{n4,v4}:=v4;let{n5,v5}:=v5;let{rfl,q1}:=q1;let{rfl,q2}:=q2;let{rfl,q3}:=q3;let{rfl,q4}:=q4;let{rfl,q5}:=q5;let{tp,w1,rfl,i1,a4}:=q1.inv;let{d1,k1,rfl,i2,r2}:=q2.inv;let{d2,k2,rfl,i3,r3}:=q3.inv;let{d3,rfl,i4}:=q4.inv;let{d4,w5,rfl,i5,a3}:=q5.inv;rw[eb]at i4;cases i4;rw[AA.of_ints _ a3]at i5;let fr:=O.1.perm pm;let wf:=Rg fr;show{W,k _ _ I2 B H' M1 (s1.trans (s.trans Y)) p1 R4 (.code {a8,tp,d1,d2,b,d4,f _ _ ei a2,{{w1,Y _ _ i1,KI (F:=EC I2) (f:=pD) (λv a z=>VJ Y z) a4},{k1,Y _ _ i2,λp hp=>?_,λsg a6=>?_},{k2,Y _ _ i3,?_},{k3,f _ _ e5 a9,λw=>?_},{zs,Y _ _ i5,sz}}}) (h1 S pm ri)}
   .rcases r2.val (k:=.inl p.1)with⟨J,_⟩|⟨x',y',J,z2,z3⟩
    .rw[wf.1 p hp]at J;cases J
    .rw[wf.1 p hp]at J;cases J;let{t,w,rfl,et,rt}:=z3.inv;rw[AA.of_ints _ rt]at et;show{t,z2,Y _ _ et}
   .rcases r2.val (k:=.inl sg)with⟨_,z2⟩|⟨x',y',J,_,_⟩
    .show z2
    .rw[wf.2 sg a6]at J;cases J
   .let a0:((S.map λp=>(wk p.2,p.1)).map (·.1)).Nodup:=by
     rw[Jy];show Jz.mpr (fr.imp λ{a b}z e=>z.2.1 (by rw[FX e];show Jn _))
    rw[AW.of_ints _ r3,<-F8 (List.map _ _),<-Pp _ _ (by rwa[F8,Jy])];exists λp hp=>SA _ _ (by rwa[Jy]) (Jq.mpr {_,Jq.mpr {p,hp,W},W}),λw hw=>?_;rw[Po _ _ λz hz=>?_]
    .rfl
    .let⟨y,hy,rfl⟩:=Jq.mp hz;let{p,hp,rfl}:=Jq.mp hy;show λe=>hw p hp (FX e)
   .rw[Oy r5];show bg w
end
section
variable{C:Cf} 
abbrev IB(d p:Int)(cs:List Int):MO:=.lst [.int d,.int p,.lst (cs.map .int)]
inductive uHandO(u:BW)(E:AT)(ρ:Ev)(M:AC):Prop
 |mk:∀(k:Nat),M[k]?=some .hand->(∀(d p:Int)(cs:List Int),cs≠[]->0<=d->0<=p ->
   u {nx:=λ_ _=>False,rt:=λv M'=>∃d' p':Int,M'=M.set k (IB d' p' cs)/\0<=d'/\0<=p'/\E.rt v M} ρ (M.set k (IB d p cs)))->uHandO u E ρ M
theorem mJ(hs:A8 C Z t u):A8 C Z t (uHandO u):=λI α σ H ρ M E D' R RE h F=>by
 let{k,G,h}:=h;let{a,ea,{d,i,c,cs,e1,e2,ne,le,hd,hi,hc},na}:=R.get G;show hs I α σ H ρ _ _ D' (R.reset (m:=IB d i cs) ea {_,e1,.cons (.int _) (.cons (.int _) (.cons (.lst e2 (.ints _)) .nil))}) RE (h d i cs ne hd hi) {λ_ _ _ _ _ _ _ _ _ _ z=>z.elim,λv dd I' α' H' M' s p Y r z=>?_,λ_ _ _ _ _ _ _ _ _ _ z=>z.elim,λ_ _ _ _ _ _ _ _ _ _ z=>z.elim};let{d',p',rfl,h1,h2,z}:=z;let O:=(Jd.mp G).1;let{{vs,ei,B},_}:=Y.cel k a _ (Q6 p ea) (Gw O);cases B with
 |cons q1 B=>cases B with
 |cons q2 B=>cases B with
 |cons q3 B =>
  cases B;cases q1.inv;cases q2.inv;let{c',w,rfl,J,r3}:=q3.inv;rw[AA.of_ints _ r3]at J;let T:=Y.reset (m:=.hand) (Q6 p ea) {d',p',c',cs,ei,J,ne,le,h1,h2,hc};rw[Dn,show M.set k .hand=M from by rw[<-(Jd.mp G).2];show List.set_getElem_self O]at T;show F.rt v dd I' α' H' M s p T r z
inductive dApart(ds:List D)(M:AC)(K:K3):Prop
 |mk:∀(p q:Pr),ds=[pD p,pD q]->(FB p q/\K .non M)->dApart ds M K
def jC(h:FB p q):¬ p.2.take (min p.2.length q.2.length)=q.2.take (min p.2.length q.2.length):=λe=>by
 rcases Nat.le_total p.2.length q.2.length with l|l
 .rw[Ds l,Gc]at e;show h.2.1 (e ▸ Dm _ _)
 .rw[aZ l,Gc]at e;show h.2.2 (e ▸ Dm _ _)
def bQ{w:List Int}{m:Nat}{K:K3}(h:K (wD (w.take m)) M):sl3 (wD w) none (some (m:Int)) M K:=by
 show K (.tup (cut (w.map .int) none (some (m:Int)))) M;rwa[Vz,Vy]
end
end L3
namespace K72
open PySem L2
abbrev q00:List Str:=["_law_hand","_law_many"]
abbrev q01:List Str:=["_law_table_here","_law_entries_here","_law_most"]
abbrev q02:List Str:=["_law_hand","_law_tables_here","_law_most","_law_signs_here"]
abbrev q03:List Str:=["_law_one","_law_other","_law_entries_here","_law_most"]
abbrev q04:List Str:=["one","other","entries","most"]
abbrev q05:List Str:=["_law_first","_law_second","_law_text"]
abbrev q06:List Str:=["_law_hand","_law_some","_law_most","_law_longest"]
abbrev q07:List Str:=["_law_table_here","_law_entries_here"]
abbrev q08:List Str:=["_law_one","_law_other","_law_handed","_law_due"]
abbrev q09:List Str:=["_law_hand","_law_words_here","_law_signs_here"]
abbrev q10:List Str:=["_law_first","_law_second","_law_entries_here"]
abbrev q11:List Str:=["_law_one","_law_other","_law_entries_here"]
abbrev q12:List Str:=["_law_hand","_law_table_here","_law_most"]
abbrev q13:List Str:=["self","one","other","entries"]
abbrev q14:List Str:=["other","known","place","swaying","byte"]
abbrev q15:List Str:=["_law_table_here","_law_row","_law_at"]
abbrev q16:List Str:=["sign","behind"]
abbrev q17:List Str:=["one","other","entries"]
abbrev q18:List Str:=["self","table"]
abbrev q19:List Str:=["other","known","spot","word"]
abbrev q20:List Str:=["one","other","known","spot"]
abbrev q21:List Str:=["_law_script","_law_place"]
abbrev q22:List Str:=["_law_hand","_law_most"]
abbrev q23:List Str:=["self","sign"]
abbrev q24:List Str:=["_law_found","_law_due"]
abbrev q25:List Str:=["self"]
abbrev q26:List Str:=["one","other","known"]
abbrev q27:List Str:=["self","most"]
abbrev q28:List Str:=["self","word"]
abbrev q29:List Str:=["_law_script"]
abbrev q30:List Str:=["sign","word"]
abbrev q31:List Str:=["other","entries"]
abbrev q32:List Str:=["leaving","begun"]
abbrev q33:List Str:=["self","row"]
def top(i:Nat):Stmt:=PySem.Challenge.pw_skewread_k72_least_and_all.main.body.getD i (.Pass {0,0,0,0})
abbrev OI:Stmt:=top 28
def SQ:AD ["_law_hand","_law_many","_law_got","_law_cell","_law_number"] q00 (Zf OI):=(by rfl')
abbrev NO:Stmt:=top 27
def ZM:AD ["_law_script","_law_place","_law_cells","_law_at","_law_digits"] q21 (Zf NO):=(by rfl')
abbrev JG:Stmt:=top 29
def Oj:AD ["_law_hand","_law_most","_law_begin","_law_step"] q22 (Zf JG):=(by rfl')
abbrev JL:Stmt:=top 30
def QJ:AD ["_law_hand","_law_some","_law_most","_law_longest","_law_words_here","_law_k","_law_at"] q06 (Zf JL):=(by rfl')
abbrev JH:Stmt:=top 32
def YC:AD ["_law_hand","_law_words_here","_law_signs_here","_law_at","_law_spun","_law_pairs"] q09 (Zf JH):=(by rfl')
abbrev X0:Stmt:=Uv (top 7) 0
def Ou:AD q27 q27 (Zf X0):=(by rfl')
abbrev Va:Stmt:=top 22
def cH:AD ["one","other","shared"] ["one","other"] (Zf Va):=(by rfl')
abbrev MJ:Stmt:=top 21
def RW:AD ["table","second","first","odds"] ["table"] (Zf MJ):=(by rfl')
abbrev W9:Stmt:=top 23
def YH:AD ["table","found"] ["table"] (Zf W9):=(by rfl')
abbrev Ui:Stmt:=top 24
def QM:AD ["words","found","word","size"] ["words"] (Zf Ui):=(by rfl')
abbrev Z2:Stmt:=Uv (top 25) 0
def aJ:AD q18 q18 (Zf Z2):=(by rfl')
abbrev Tt:Stmt:=Uv (top 25) 3
def UN:AD q23 q23 (Zf Tt):=(by rfl')
abbrev Tu:Stmt:=Uv (top 25) 4
def aA:AD q28 q28 (Zf Tu):=(by rfl')
abbrev Tv:Stmt:=Uv (top 25) 7
def VN:AD q33 q33 (Zf Tv):=(by rfl')
abbrev Uj:Stmt:=Uv (top 25) 2
def bO:AD q25 q25 (Zf Uj):=(by rfl')
abbrev MR:Stmt:=top 34
def bI:AD ["_law_table_here","_law_row","_law_at","_law_one","_law_some"] q15 (Zf MR):=(by rfl')
abbrev LH:Stmt:=top 31
def UO:AD ["_law_hand","_law_many","_law_begin","_law_step","_law_signs_here","_law_at"] q00 (Zf LH):=(by rfl')
abbrev Vt:Stmt:=top 10
def WF:AD ["other","entries","known","entry","word"] q31 (Zf Vt):=(by rfl')
abbrev Uh:Stmt:=top 11
def PU:AD ["other","known","place","swaying","byte","row","rests","swayed"] q14 (Zf Uh):=(by rfl')
abbrev Ug:Stmt:=top 12
def cT:AD ["other","known","spot","word","place","swaying","byte"] q19 (Zf Ug):=(by rfl')
abbrev Rh:Stmt:=top 13
def cY:AD ["one","other","known","spot","steps"] q20 (Zf Rh):=(by rfl')
abbrev Ts:Stmt:=top 14
def WY:AD ["one","other","known","steps","waiting","spot"] q26 (Zf Ts):=(by rfl')
abbrev Wv:Stmt:=top 15
def PX:AD ["steps","size","counts","spot"] ["steps","size"] (Zf Wv):=(by rfl')
abbrev X1:Stmt:=Uv (top 16) 0
def aV:AD ["self","one","other","entries","known","steps","spot"] q13 (Zf X1):=(by rfl')
abbrev Y4:Stmt:=Uv (top 16) 1
def OX:AD q25 q25 (Zf Y4):=(by rfl')
abbrev Wm:Stmt:=top 17
def QC:AD ["one","other","entries","leaving","text","spot","step"] q17 (Zf Wm):=(by rfl')
abbrev Vs:Stmt:=top 19
def UX:AD ["leaving","begun","further","text","spot"] q32 (Zf Vs):=(by rfl')
abbrev Wx:Stmt:=top 18
def bU:AD ["one","other","entries","most","leaving","told","begun"] q04 (Zf Wx):=(by rfl')
abbrev JR:Stmt:=top 33
def UP:AD ["_law_hand","_law_some","_law_signs_here","_law_tables_here","_law_way"] ["_law_hand"] (Zf JR):=(by rfl')
abbrev KG:Stmt:=top 35
def QE:AD ["_law_first","_law_second","_law_text","_law_words_here","_law_row","_law_one","_law_entries_here","_law_at","_law_found"] q05 (Zf KG):=(by rfl')
abbrev MZ:Stmt:=top 36
def bW:AD ["_law_table_here","_law_entries_here","_law_words_here","_law_size_here","_law_entry"] q07 (Zf MZ):=(by rfl')
abbrev Iy:Stmt:=top 37
def ZC:AD ["_law_table_here","_law_entries_here","_law_most","_law_size_here"] q01 (Zf Iy):=(by rfl')
abbrev LY:Stmt:=top 38
def O4:AD ["_law_first","_law_second","_law_entries_here","_law_size_here","_law_found","_law_growing","_law_longer","_law_text","_law_many"] q10 (Zf LY):=(by rfl')
abbrev NW:Stmt:=top 39
def XJ:AD ["_law_hand","_law_table_here","_law_most","_law_text","_law_size_here","_law_k","_law_one","_law_some"] q12 (Zf NW):=(by rfl')
abbrev OC:Stmt:=top 40
def PR:AD ["_law_hand","_law_tables_here","_law_most","_law_signs_here","_law_entries_here","_law_way","_law_at","_law_spoilt","_law_other"] q02 (Zf OC):=(by rfl')
abbrev NQ:Stmt:=top 41
def QN:AD ["_law_found","_law_due","_law_k"] q24 (Zf NQ):=(by rfl')
abbrev MP:Stmt:=top 42
def XQ:AD ["_law_one","_law_other","_law_entries_here","_law_most","e"] q03 (Zf MP):=(by rfl')
abbrev OP:Stmt:=top 43
def VM:AD ["_law_one","_law_other","_law_entries_here","e"] q11 (Zf OP):=(by rfl')
abbrev NL:Stmt:=top 44
def RQ:AD ["_law_one","_law_other","_law_handed","_law_due","_law_found","_law_most"] q08 (Zf NL):=(by rfl')
abbrev OA:Stmt:=top 45
def YA:AD ["_law_script","_law_place","_law_hand","_law_tables_here","_law_most","_law_signs_here","_law_codes","_law_entries_here","_law_handed","_law_i","_law_j","_law_due"] q29 (Zf OA):=(by rfl')
structure Txt(mg:Str->Option Ca):Prop where
 b_len:mg "len"=none
 b_abs:mg "abs"=none
 b_max:mg "max"=none
 b_min:mg "min"=none
 b_isinstance:mg "isinstance"=none
 b_any:mg "any"=none
 b_range:mg "range"=none
 b_int:mg "int"=none
 b_bool:mg "bool"=none
 b_tuple:mg "tuple"=none
 b_list:mg "list"=none
 b_dict:mg "dict"=none
 b_sum:mg "sum"=none
 b_sorted:mg "sorted"=none
 b_ValueError:mg "ValueError"=none
section
variable{dC:Heap}
local macro_rules|`(tactic|symm)=>let x:=("Zt Ak Y3 Vk Z9 BE Zs Xh Ah GI Xv Vu So s_b kP GW Zq2 qP Sq Ww RP s_sl pW MG lO s_or wM Zyi s_ir2 N9 R9 Zyh aL s_un s_if qD s_extendK Nh bE IL s_bl OQ yN s_ty s_ix ZW mW oG Zye rW Zyb s_lt s_le s_gt s_ge s_eq s_ne YK SR MT wE Wg Zqy vC mS nZ V6 oN iB oF jE".splitOn " ").toArray.map λ s=>Lean.mkIdent (.str `L3 s);`(tactic|repeat' first|with_reducible (first $[|apply $x:ident]*)|rfl)
open L3
theorem gK(T:Txt mg)(F:AY K "_law_draw" "_law_draw" OI f fd):AK P w K mg dC A7 1 f fd q00 (AH {C,K} CB):=by
 show L3.AY.ok3 F SQ (λds M K3 h=>?_) (λcdv A dD s H E Y=>?_)
 .let⟨k,n,rfl,_⟩:=h;rfl
 .let G:=SQ;let hu:=Y.units;let a0:=Xf Y;show{_,_,(Zb (Yz (Zz Qd (Z4 (Z5 (K':=K) W) #[0] Zd {}) Zd (Z6 _))
 (Zb (Zp (i:=2) G.nd W (Ci W) (Z3 Wz (Z4 (Z5 (K':=K) W) #[0] Zd {}) #[1]))
 (Zb (Nj (Z3 QZ (Z4 (Z5 (K':=K) W) #[0] Zd {}) #[1]) (IF #[0] Zd Sm))
 (Ze (Zx #[2]))))
 Z1)
 (Zb (Zrg #[0] Zd zP Zd GQ Sm)
 (Zb (Zp (i:=3) G.nd W (Ci W) (Z3 Wz (Z4 (Z5 (K':=K) W) (Z4 (Z5 (K':=K) W) #[0] Zd {}) (Z3 Wz (Z4 (Z5 (K':=K) W) #[0] Zd {}) (Zm (Yi (K:=K) W) {} T.b_len BI (Za (Z4 (Z5 (K':=K) W) #[0] Zd {}) Zc))) {}) Zd))
 (Zb (Zp (i:=4) G.nd W (Ci W) (Z3 Wz (Z3 (Yg (K':=K) W) (Z3 (Yg (K':=K) W) (Z3 Tj #[3] Zd) (Z3 Tj (Z4 (Z5 (K':=K) W) #[0] Zd {}) Zd)) Zd) Zd))
 (Zb (Zp (i:=4) G.nd W (Ci W) (Z3 Wz (Z3 (Yg (K':=K) W) (Z3 Tj #[4] #[4]) (Z4 (Z5 (K':=K) W) #[0] Zd {})) Zd))
 (Zb (Zp (i:=4) G.nd W (Ci W) (Z3 Wz (Z3 (Yg (K':=K) W) (Z3 Tj #[4] Zd) Zd) Zd))
 (Ze (Zx (Z3 Wz (Z3 QZ (Z3 Wz (Z3 Tj #[4] #[4]) Zd) Zd) #[1]))))))))),λ_=>(mJ (Zs (Vu (by symm) (Zs (by symm) (Zs (Xh (by symm) (IX (Zt 0) Vk)) (Xv (Zt 2)))) Wg) (Zs (kL (Zt 0) Vk Vk) (by symm)))),λds M Kk hM hD h=>?_}
  let{k,n,rfl,h}:=h;let{Z,{n0,n1},O}:=h;exists k,Z,λd p cs ne hd hp=>?_;let lk:=(Jd.mp Z).1;let e1:∀x,(M.set k x)[k]?=some x:=λx=>Gw lk;let B:∀d' J,Qy (M.set k (IB d' J cs)) (.cell k)=some [.int d',.int J,.lst (cs.map .int)]:=λd' J=>by simp only[Qy,Y8,e1]
  show{·,_,_,_,B d p,W,W,_,·,W,·,A5 (λh0=>?_) (λh0=>?_)}
  .show{·,_,_,_,B d p,W,W,·,_,·,W,n0,?_};show{·,_,_,_,B d p,W,W,·,_,·,W,{n0,n1},·,k,_,0,0,W,W,e1 _,W,?_};show{·,d / n,p,?_,Int.ediv_nonneg hd (),hp,.inl (O _ (Bq _ ()) (Bp _ n0))};rw[Dn];rfl
  .obtain⟨c,hc⟩:∃c,atI (cs.map D.int) ((p+1) % ((cs.map D.int).length:Nat))=some (.int c):=by
    let h0:(0:Int)<((cs.map D.int).length:Nat):=by
     rw[Ja];show Int.natCast_pos.mpr (Gh.mpr ne)
    let{v,hv,e}:=jM (Bq _ (Int.ne_of_gt h0)) (Bp (p+1) h0);let{c,_,rfl}:=Jq.mp hv;show{c,e}
   show{·,k,1,_,p,W,W,e1 _,W,_,_,·,e1 _,W,?_};rw[Dn];show{·,_,_,_,B d (p+1),W,W,·,_,_,_,B d (p+1),W,W,·,_,_,_,B d (p+1),W,W,Qb W {_,_,W,W,?_,_,_,_,W,W,hc,_,_,W,W,nofun,?_}}
   .rw[Ja];show Int.natCast_pos.mpr (Gh.mpr ne)
   show g_nx ?_
   try dsimp only
   show{·,.inr {nofun,nofun},·,_,_,_,B d (p+1),W,W,.inr {nofun,nofun},add_int (add_int {_,_,W,W,nofun,?_})};generalize hx:(c % 2147483647*48271+(p+1)*7368787+11) % 998244353=x;let x0:0<=x:=by rw[<-hx];show Bq _ nofun
   let x1:x<998244353:=by rw[<-hx];show Bp _ nofun
   show g_nx ?_
   try dsimp only
   show{·,·,.inl {(),()},·,_,_,_,B d (p+1),W,W,add_int {_,_,W,W,nofun,?_}};generalize hy:(x*x+(p+1)) % 998244353=y;show g_nx ?_
   try dsimp only
   show{·,.inr {nofun,nofun},add_int {_,_,W,W,nofun,?_}};generalize hz:(y*40503203+12345) % 2147483647=z;let z0:0<=z:=by rw[<-hz];show Bq _ nofun
   let z1:z<2147483647:=by rw[<-hz];show Bp _ nofun
   show g_nx ?_
   try dsimp only
   show{·,·,.inl {(),()},_,·,W,nofun,_,·,W,{nofun,nofun},·,_,·,W,n0,d,p+1,W,hd,(),.inl (O _ (Bq _ ()) (Bp _ n0))}
open L3
theorem rC(T:Txt mg)(F:AY K "_law_open" "_law_open" NO f fd):AK P w K mg dC A7 1 f fd q21 (AH {C,K} dOpen):=by
 show L3.AY.ok3 F ZM (λds M K3 h=>?_) (λcdv A dD s H E hr=>?_)
 .let⟨ns,i,rfl,_⟩:=h;rfl
 .let Z:=ZM;let hu:=hr.units;let a3:=Xf hr;show{_,_,(Zb (Ul (i:=2) Z.nd W W (T:=["_law_cell"]) (cs:=[]) W (CScope.ok {}) (Ye (Yn (Vi (K':=K) W) #[0] Xa (Yr Zd))) (λ_ _ _ _=>#[0,0]) (λ_ _ _ _=>Y5) (λ_ _ _ _=>(Zm gH {} T.b_abs lJ (Za #[0] Zc))) (Xb nofun))
 (Zb (Yz (Zz (Uc (K':=K) W hu) #[2] (Yk Zc) (Z6 _))
 (Ze (Zp (i:=2) Z.nd W (Ci W) (Yk (Za Zd Zc))))
 Z1)
 (Zb (Zp (i:=3) Z.nd W (Ci W) (Z3 Wz #[1] (Zm (Yi (K:=K) W) {} T.b_len BI (Za #[2] Zc))))
 (Zb (Zp (i:=4) Z.nd W (Ci W) Zd)
 (Zb (Yz (PW.pt (bK (Zz vL (Z4 (Z5 (K':=K) W) #[2] #[3] {}) (Z3 JW Zd Zd) (Z6 _)) (ZH (Zz HQ #[1] (Zm (Yi (K:=K) W) {} T.b_len BI (Za #[2] Zc)) (Z6 _)))))
 (Ze (Zp (i:=4) Z.nd W (Ci W) (Z4 (Z5 (K':=K) W) #[2] #[3] {})))
 Z1)
 (Ze (Zx (Yk (Za #[4] (Za (Z3 (Yg (K':=K) W) Zd (Z3 Tj Zd #[1])) (Za (Z3 (Yg (K':=K) W) (Yn (Vi (K':=K) W) #[2] (Yr #[3]) Xa) (Yn (Vi (K':=K) W) #[2] Xa (Yr #[3]))) Zc))))))))))),λ_=>(Zs (by symm) (Zs (by symm) (Zs (by symm) (Zs (by symm) (Zs (by symm) (Xv (xP (by symm)))))))),λds M Kk hM hD h=>?_}
  let{ns,i,rfl,h}:=h;let{{hl,i0,i1},k}:=h;show{·,·,ns.map .int,W,?_};rw[show(63:Int)=((63:Nat):Int)from W,Vy,<-Dd];let lm:(ns.take 63).length<=63:=by rw[Ga];lia
  generalize ns.take 63=ms at lm;let a0:(ms.map D.int).length=ms.length:=Ja _;exists ·,Zn (by show(ms.map D.int).length<=_;lia),λj ys G=>M=G/\ys=((ms.take j).map λz=>if z<0 then -z else z).map .int,λ_ _ _ _ _=>rfl,{W,W},?_,?_
  .rintro j x ys _ hj hx ⟨rfl,rfl⟩;let{a1,rfl}:=S5 hx;show{·,·,W,?_};rw[Jh a1,Ji,Ji];rfl
  rintro ys _ ⟨rfl,rfl⟩;rw[show ms.take _=ms from by show ms.take (ms.map D.int).length=ms;rw[a0,Gc]];let O:∀c∈ms.map λz:Int=>if z<0 then -z else z,0<=c:=λc hc=>by
   let{z,_,rfl}:=Jq.mp hc
   split<;>lia
  let lc:(ms.map λz:Int=>if z<0 then -z else z).length<=63:=by rwa[Ja]
  generalize (ms.map λz:Int=>if z<0 then -z else z)=cs at O lc;show P4 (λρ G=>ρ=[some (.frz (ns.map .int)),some (.int i),some (.lst (cs.map .int)),none,none]/\M=G) (λKn B=>B _ _ {W,W}) ?_;rintro _ _ ⟨rfl,rfl⟩;show P4 (λρ G=>∃cs:List Int,ρ=[some (.frz (ns.map .int)),some (.int i),some (.lst (cs.map .int)),none,none]/\M=G/\cs≠[]/\cs.length<=63/\∀c∈cs,0<=c) (λKn B=>?_) ?_
  .show{·,J9 _,?_};show T9 X5 (a:=cs) (b:=[]) W W {_,W,A5 (λe=>?_) λe=>?_}
   .show{Nat.succ_le_succ (J9 _),B _ _ {[0],W,W,by simp,nofun,by simp}}
   .show B _ _ {cs,W,W,by simpa using e,lc,O}
  rintro _ _ ⟨cs,rfl,rfl,ne,lc,O⟩;let lp:=Gh.mpr ne;let a2:(cs.map D.int).length=cs.length:=Ja _;obtain⟨j,ej⟩:∃j:Nat,i % ((cs.map D.int).length:Int)=(j:Int):={(i % ((cs.map D.int).length:Int)).toNat,by rw[Int.toNat_of_nonneg (Bq _ ())]};let hj:j<cs.length:=by have:=Bp i (b:=((cs.map D.int).length:Int)) ();lia
  show{·,·,·,_,·,W,(),?_};rw[ej];let ec:=Yj (f:=D.int) (as:=cs) (i:=(j:Int)) (j:=j) W hj;let c0:=O _ (Jv hj);show P4 (λρ G=>ρ=[some (.frz (ns.map .int)),some (.int i),some (.lst (cs.map .int)),some (.int j),none]/\M=G) (λKn B=>B _ _ {W,W}) ?_;rintro _ _ ⟨rfl,rfl⟩;show P4 (λρ G=>ρ=[some (.frz (ns.map .int)),some (.int i),some (.lst (cs.map .int)),some (.int j),some (.int 0)]/\M=G) (λKn B=>B _ _ {W,W}) ?_;rintro _ _ ⟨rfl,rfl⟩;show P4 (λρ G=>∃d:Int,ρ=[some (.frz (ns.map .int)),some (.int i),some (.lst (cs.map .int)),some (.int j),some (.int d)]/\M=G/\0<=d) (λKn B=>?_) ?_
  .exists ·,·,_,_,·,W,ec,_,·,W,{nofun,nofun,nofun},_,·,W,·,A5 (λ_=>?_) λ_=>AZ (B _ _ {0,W,W,nofun});exists ·,·,·,_,·,W,·,A5 (λ_=>{_,W,_,W,_,_,_,W,W,ec,B _ _ {_,W,W,c0}}) λ_=>B _ _ {0,W,W,nofun}
  rintro _ _ ⟨d,rfl,rfl,d0⟩;let Y:cut (cs.map D.int) (some (j:Int)) none++cut (cs.map D.int) none (some (j:Int))=(cs.drop j++cs.take j).map D.int:=by rw[Vn,Vy,Ji,List.map_drop,Dd]
  let J:(cs.drop j++cs.take j).length=cs.length:=by rw[Jc,Gf,Ga];lia
  show{·,·,.inl {nofun,nofun},·,·,·,cs.map .int,W,·,·,·,cs.map .int,W,_,·,W,?_,?_}
  .rw[<-Jc,Y,Ja,J];show Zn ()
  .rw[Y];show{_,_,·,{λe=>by rw[e]at J;show D0 J (by simp;lia),(),d0,(),λc hc=>O c ((Jw.mp hc).elim G7 Gv)},.inl k}
open L3
theorem wZ(T:Txt mg)(Y:Aq P w K mg dC "_law_draw" 1 q00 (AH {C,K} CB))(F:AY K "_law_bytes" "_law_bytes" JG f fd):AK P w K mg dC A7 2 f fd q22 (AH {C,K} dBytes):=by
 show L3.AY.ok3 F Oj (λds M K3 h=>?_) (λcdv A dD s H E G=>?_)
 .let⟨B,m,rfl,_⟩:=h;rfl
 .let Z:=Oj;let hu:=G.units;let a0:=Xf G;let O:AG 1 _:=G.mono nofun;show{_,_,(Zb (Zp (i:=2) Z.nd W (C4 W) (Zv Y O W (Za #[0] (Za Zd Zc))))
 (Zb (Zp (i:=3) Z.nd W (C4 W) (Z3 (Yg (K':=K) W) Zd (Zv Y O W (Za #[0] (Za Zd Zc)))))
 (Ze (Zx (Yw (T:=["_law_k"]) (cs:=[2,3]) W (CScope.ok {}) (Y6 W T.b_range (Za (Z3 (Yg (K':=K) W) Zd (Zv Y O W (Za #[0] (Za (Z3 GB #[1] Zd) Zc)))) Zc)) (λ_ _ _ _=>#[0,0]) (λ_ _ _ _=>Y5) (λ_ _ _ _=>(Z3 Wz (Z3 (Yg (K':=K) W) #[1] (Z3 Tj #[2] #[0])) Zd)) (Xb nofun)))))),λ_=>(by symm),λds M Kk hM hD h=>?_}
  let{B,m,rfl,h}:=h;let{J,{m2,m4},k}:=h;exists ·,B,256,W,J,{nofun,nofun},λb b0 b1=>?_;exists ·,B,60,W,J,{nofun,nofun},λt t0 t1=>?_;show add_int ?_;show g_nx ?_
  try dsimp only
  exists ·,·,_,·,W,B,·,J,{(),()},λn n0 n1=>?_;show add_int {(2+n:Int),W,{(),()},Zn (by show(2+n).toNat<=_;lia),λj ys M'=>M=M'/\ys=((C2 j).map λi:Nat=>(b+(1+t)*(i:Int)) % 256).map D.int,λ_ _ _ _ _=>trivial,{W,W},?_,?_}
  .rintro j x ys _ hj rfl ⟨rfl,rfl⟩;show{·,·,·,?_};show mul3 (.int (1+t)) (.int (0+(j:Int))) M _;show{.inl {(),()},?_};show add_int {_,_,W,W,nofun,W,?_};rw[Dt,Ji,Ji,Dx];rfl
  .rintro ys _ ⟨rfl,rfl⟩;let e:((2+n).toNat:Int)=2+n:=by lia
   show .inl (k _ (zF () ?_) ?_ ?_ λb hb=>?_)
   .show(1+t)*(((2+n).toNat:Nat):Int)<=_;rw[e];let h4:(1+t)*(2+n)<=(1+t)*4:=L7 () ();lia
   .rw[Ja,Bt];show 2<=(2+n).toNat;lia
   .rw[Ja,Bt];show(((2+n).toNat:Nat):Int)<=_;lia
   .let⟨i,_,rfl⟩:=Jq.mp hb;show{Bq _ nofun,Bp _ nofun}
open L3
def wL{bs:List Int}{n:Nat}(h:∀w∈ws,∀b∈w,b∈bs)(hn:n<ws.length):∀w∈ws.take n++(bs.map λb=>ws[n]++[b])++ws.drop (n+1),∀b∈w,b∈bs:=λw hw b B=>by
 rcases Jw.mp hw with z|z
 .rcases Jw.mp z with z|z
  .show h w (Gv z) b B
  .let⟨c,G,rfl⟩:=Jq.mp z;rcases Jw.mp B with y|y
   .show h _ (Jv hn) b y
   .rw[Jj.mp y];show G
 .show h w (G7 z) b B
theorem Jcf(T:Txt mg)(Zh:Aq P w K mg dC "_law_draw" 1 q00 (AH {C,K} CB))(F:AY K "_law_words" "_law_words" JL f fd):AK P w K mg dC A7 2 f fd q06 (AH {C,K} dWordsC):=by
 show L3.AY.ok3 F QJ (λds M K3 h=>?_) (λcdv A dD s H E hr=>?_)
 .let⟨Y,bs,m,lg,rfl,_⟩:=h;rfl
 .let SC:=QJ;let hu:=hr.units;let a6:=Xf hr;let Zj:AG 1 _:=hr.mono nofun;show{_,_,(Zb (Zp (i:=4) SC.nd W (C4 W) (Yw (T:=["_law_one"]) (cs:=[]) W (CScope.ok {}) (Ye #[1]) (λ_ _ _ _=>#[0,0]) (λ_ _ _ _=>Y5) (λ_ _ _ _=>(Y1 (Za #[0] Zc))) (Xb nofun)))
 (Zb (X2 Cp W (Y6 W T.b_range (Za (Zv Zh Zj W (Za #[0] (Za (Z3 (Yg (K':=K) W) #[2] Zd) Zc))) Zc)) (Zo (i:=5) SC.nd W (Ci W))
 (Zb (Zp (i:=6) SC.nd W (C4 W) (Z3 Wz (Zv Zh Zj W (Za #[0] (Za Zd Zc))) (Zm (Yi (K:=K) W) {} T.b_len BI (Za #[4] Zc))))
 (Ze (Yz (Zz HQ (Zm (Yi (K:=K) W) {} T.b_len BI (Za (Z4 (Z5 (K':=K) W) #[4] #[6] {}) Zc)) #[3] (Z6 _))
 (Ze (Zp (i:=4) SC.nd W (C4 W) (Z3 (Yg (K':=K) W) (Z3 (Yg (K':=K) W) (Yn (Vi (K':=K) W) #[4] Xa (Yr #[6])) (Yw (T:=["_law_one"]) (cs:=[4,6]) W (CScope.ok {}) (Ye #[1]) (λ_ _ _ _=>#[0,0]) (λ_ _ _ _=>Y5) (λ_ _ _ _=>(Z3 (Yg (K':=K) W) (Z4 (Z5 (K':=K) W) #[1] #[2] {}) (Y1 (Za #[0] Zc)))) (Xb nofun))) (Yn (Vi (K':=K) W) #[4] (Yr (Z3 (Yg (K':=K) W) #[6] Zd)) Xa))))
 Z1))))
 (Ze (Zx (Yw (T:=["_law_word"]) (cs:=[0]) W (CScope.ok {}) (Ye #[4]) (λ_ _ _ _=>#[0,0]) (λ_ _ _ _=>(Vb (Zz Qd (Zv Zh Zj W (Za #[1] (Za Zd Zc))) Zd (Z6 _)))) (λ_ _ _ _=>#[0]) (Xb nofun)))))),λ_=>(by symm),λds M Kk hM hD h=>?_}
  let{Y,bs,m,lg,rfl,h}:=h;let{hh,{nd,ne,lb,m0,m1,g0,g1},k}:=h;let a7:0<bs.length:=Gh.mpr ne;let lm:(bs.map D.int).length=bs.length:=Ja _;exists ·,·,?_,λj ys O=>M=O/\ys=(bs.take j).map λb=>wD [b],λ_ _ _ _ h=>(by rw[<-h.1];rfl),{W,W},?_,?_
  .show(bs.map D.int).length<=Cb;rw[lm];show Zn ()
  .rintro j x ys _ hj hx ⟨rfl,rfl⟩;let{B,rfl}:=Z7 hx;show{·,(show 1<=Cb by decide),W,?_};rw[Jh B,Ji];rfl
  rintro ys _ ⟨rfl,rfl⟩;let e0:(bs.take (bs.map D.int).length).map (λb=>wD [b])=(bs.map λb=>[b]).map wD:=by rw[lm,Gc,Jy];rfl
  rw[show List.map (λb=>wD [b]) (El _ bs)=(bs.map λb=>[b]).map wD from e0];exists ·,·,Y,m+1,W,hh,{(),()},λn0 a5 a4=>?_;exists n0,W,{(),()},λi ρ O=>M=O/\∃(ws:List (List Int))(v5 v6:Option D),ρ=[some (.cell Y),some (.lst (bs.map .int)),some (.int m),some (.int lg),some (.lst (ws.map wD)),v5,v6]/\WOk ws/\(∀w∈ws,∀b∈w,b∈bs)/\ws≠[]/\ws.length<=bs.length+i*(bs.length-1),λ_ _ _ _ _=>trivial,{W,bs.map (λb=>[b]),_,_,W,rA nd,?_,?_,?_},?_,?_
  .intro w hw b hb;let{c,hc,rfl}:=Jq.mp hw;rwa[Jj.mp hb]
  .simpa using ne
  .rw[Ja];lia
  .rintro i x ρ O hi rfl ⟨rfl,ws,v5,v6,rfl,ok,bn,nw,lw⟩;let hi:i<n0.toNat:=hi;let lp:0<ws.length:=Gh.mpr nw;let a1:ws.length<=200:=by
    let:i*(bs.length-1)<=6*24:=Nat.mul_le_mul () ();lia
   let G:(ws.map wD).length=ws.length:=Ja _;exists ·,Y,60,W,hh,{nofun,nofun},λr r0 r1=>?_;show{·,?_};show Qb (xs:=ws.map wD) W ?_;show{_,·,W,(),?_}
   try dsimp only
   rw[G];let{a,ea}:=Fb (Bq r (b:=((ws.length:Nat):Int)) ());let Z:a<ws.length:=by have:=Bp r (b:=((ws.length:Nat):Int)) ();lia
   rw[ea];let cA:cut (ws.map wD) none (some (a:Int))=(ws.take a).map wD:=by rw[Vy,Dd]
   let cB:cut (ws.map wD) (some ((a:Int)+1)) none=(ws.drop (a+1)).map wD:=by rw[show(a:Int)+1=((a+1:Nat):Int)by lia,Vn,List.map_drop]
   let a2:ws[a]∈ws:=Jv Z;let h4:=ok.2 ws[a] a2;show{·,·,_,_,·,W,Yj (f:=wD) (as:=ws) (j:=a) W Z,?_};show{·,·,_,·,W,·,A5 (λJ=>?_) (λJ=>?_)}
   .let J:((ws[a].map D.int).length:Int)<lg:=Dz J;rw[Ja]at J;show{·,·,·,?_};show I9 (d:=.lst (ws.map wD)) W ?_;rw[cA];exists ·,·,?_,λj ys O=>M=O/\ys=(bs.take j).map λb=>wD (ws[a]++[b]),λ_ _ _ _ h=>(by rw[<-h.1];rfl),{W,W},?_,?_
    .show(bs.map D.int).length<=Cb;rw[lm];show Zn ()
    .rintro j x ys _ hj hx ⟨rfl,rfl⟩;let{B,rfl}:=Z7 hx;show{·,·,_,_,·,W,Yj (f:=wD) (as:=ws) (j:=a) W Z,·,(show 1<=Cb by decide),{(λz=>h4.1 (Dp.mp z)),(by rw[Ja];show Zn (by show ws[a].length+1<=_;lia))},W,?_};rw[Jh B,Ji];unfold wD;rw[Jm,Ji];rfl
    .rintro ys _ ⟨rfl,rfl⟩;let e1:(bs.take (bs.map D.int).length).map (λb=>wD (ws[a]++[b]))=(bs.map λb=>ws[a]++[b]).map wD:=by rw[lm,Gc,Jy];rfl
     rw[show List.map (λb=>wD (ws[a]++[b])) (El _ bs)=(bs.map λb=>ws[a]++[b]).map wD from e1];show LN (xs:=(ws.take a).map wD) (ys:=(bs.map λb=>ws[a]++[b]).map wD) W W (by rw[Ja,Ja,Ja,Ga];show Zn ()) ?_;show{_,W,_,W,_,W,?_};show I9 (d:=.lst (ws.map wD)) W ?_;rw[cB,<-Ji];show LN (xs:=(ws.take a++(bs.map λb=>ws[a]++[b])).map wD) (ys:=(ws.drop (a+1)).map wD) W W (by rw[Ja,Ja,Jc,Ga,Ja,Gf];show Zn ()) ?_;rw[<-Ji];let a3:ws=ws.take a++ws[a]::ws.drop (a+1):=by
      rw[<-Bd Z,J8]
     let a0:WOk (ws.take a++(bs.map λb=>ws[a]++[b])++ws.drop (a+1)):=mO nd (a3 ▸ ok) ();show .inl {W,_,_,_,W,a0,wL bn Z,?_,?_}
     .intro z;let:=congrArg Hf z;simp only[Jc,Ja,By]at this;lia
     .rw[Jc,Jc,Ga,Gf,Ja,VU,Nat.one_mul];lia
   .show .inl {W,ws,_,_,W,ok,bn,nw,?_};rw[VU];lia
  .rintro ρ O ⟨rfl,ws,v5,v6,rfl,ok,bn,nw,lw⟩;let lw:ws.length<=bs.length+n0.toNat*(bs.length-1):=lw;let a1:ws.length<=200:=by
    let:n0.toNat*(bs.length-1)<=6*24:=Nat.mul_le_mul () ();lia
   let G:(ws.map wD).length=ws.length:=Ja _;exists ·,·,?_,λj ys O=>M=O/\∃us:List (List Int),ys=us.map wD/\us.Sublist (ws.take j),λ_ _ _ _ h=>(by rw[<-h.1];rfl),{W,[],W,List.nil_sublist _},?_,?_
   .show(ws.map wD).length<=Cb;rw[G];show Zn ()
   .rintro j x ys _ hj hx ⟨rfl,us,rfl,sb⟩;let{B,rfl}:=Z7 hx;let tk:(ws.take (j+1))=ws.take j++[ws[j]]:=Jh B;exists ·,Y,5,W,hh,{nofun,nofun},λr r0 r1=>{_,_,W,W,_,W,A5 (λ_=>?_) (λ_=>?_)}
    .show{_,W,W,us++[ws[j]],by rw[Ji];rfl,by rw[tk];show sb.append (SU _)}
    .show{W,us,W,by rw[tk];show sb.trans (List.sublist_append_left _ _)}
   .rintro ys _ ⟨rfl,us,rfl,sb⟩;let sb:us.Sublist ws:=by
     let:us.Sublist (ws.take (ws.map wD).length):=sb;rwa [G,Gc]at this
    show .inl (k us (ok.sub sb) (λw hw=>bn w (sb.subset hw)) ?_);let l1:=sb.length_le;let l2:n0.toNat*(bs.length-1)<=m.toNat*(bs.length-1):=Nat.mul_le_mul () (Jk _);let l3:((m.toNat*(bs.length-1):Nat):Int)=m*(bs.length-1):=by
     rw[Int.natCast_mul];let e1:(m.toNat:Int)=m:=by lia
     let e2:((bs.length-1:Nat):Int)=bs.length-1:=by lia
     rw[e1,e2]
    lia
open L3
theorem qA(T:Txt mg)(Zh:Aq P w K mg dC "_law_draw" 1 q00 (AH {C,K} CB))(F:AY K "_law_table" "_law_table" JH f fd):AK P w K mg dC A7 2 f fd q09 (AH {C,K} dTable):=by
 show L3.AY.ok3 F YC (λds M K3 h=>?_) (λcdv A dD s H E Z=>?_)
 .let⟨Y,ws,B,rfl,_⟩:=h;rfl
 .let SC:=YC;let hu:=Z.units;let a0:=Xf Z;let Zj:AG 1 _:=Z.mono nofun;show{_,_,(Zb (Zp (i:=3) SC.nd W (Ci W) (Z3 Wz (Zv Zh Zj W (Za #[0] (Za Zd Zc))) (Zm (Px W) {} T.b_max Lz (Za Zd (Za (Zm (Yi (K:=K) W) {} T.b_len BI (Za #[2] Zc)) Zc)))))
 (Zb (Zp (i:=4) SC.nd W (C4 W) (Z3 (Yg (K':=K) W) (Yn (Vi (K':=K) W) #[2] (Yr #[3]) Xa) (Yn (Vi (K':=K) W) #[2] Xa (Yr #[3]))))
 (Zb (Ul (i:=5) SC.nd W W (T:=["_law_k"]) (cs:=[4,1]) W (CScope.ok {}) (Y6 W T.b_range (Za (Zm (Yi (K:=K) W) {} T.b_len BI (Za #[1] Zc)) Zc)) (λ_ _ _ _=>#[0,0]) (λ_ _ _ _=>Y5) (λ_ _ _ _=>(Y1 (Za (Z4 (Z5 (K':=K) W) #[1] #[0] {}) (Za (Z4 (Z5 (K':=K) W) #[2] #[0] {}) Zc)))) (Xb nofun))
 (Zb (Yz (Zz (Uc (K':=K) W hu) (Zv Zh Zj W (Za #[0] (Za Zd Zc))) Zd (Z6 _))
 (Ze (Zx (YN #[5] (Yr (VC PY Zd)) (λ_ _=>{_,W}))))
 Z1)
 (Ze (Zx #[5])))))),λ_=>(Zs (by symm) (Zs (by symm) (Zs (by symm) (Zs (Vu (by symm) (Xv (WB (Zt 5) (by symm))) Wg) (Xv (Zt 5)))))),λds M Kk hM hD h=>?_}
  let{Y,ws,B,rfl,h}:=h;let{hh,{ok,lw,nd,l1,l2},k}:=h;let lm:(ws.map wD).length=ws.length:=Ja _;let G:(B.map D.int).length=B.length:=Ja _;exists ·,Y,60,W,hh,{nofun,nofun},λr r0 r1=>?_;show{·,?_};show Qb (xs:=B.map .int) W ?_;show{_,·,_,·,W,?_,?_}
  .rw[G]
   split<;>lia
  rw[G];let{a,ea}:=Fb (Bq r (b:=if((B.length:Nat):Int) > 1 then((B.length:Nat):Int)else 1) (by split<;>lia))
  try dsimp only
  rw[ea];show{_,W,_,W,_,W,?_};show{_,W,_,W,_,W,?_};show{_,W,?_};show I9 (d:=.lst (B.map D.int)) (xs:=B.map .int) W ?_;rw[Vn,Vy,<-List.map_drop,<-Dd];show LN (xs:=(B.drop a).map .int) (ys:=(B.take a).map .int) W W (by rw[Ja,Ja,Gf,Ga];show Zn ()) ?_;rw[<-Ji];let pm:(B.drop a++B.take a).Perm B:=by
   let:=G8 (l₁:=B.drop a) (l₂:=B.take a);rwa [J8]at this
  generalize B.drop a++B.take a=tt at pm;let nt:tt.Nodup:=pm.nodup_iff.mpr nd;let lt:tt.length=B.length:=pm.length_eq;let lz:(tt.zip ws).length=ws.length:=by rw[List.length_zip];lia
  let az:∀j(h1:j<tt.length)(h2:j<ws.length),(tt.zip ws)[j]?=some (tt[j],ws[j]):=λj h1 h2=>by rw[Jb (),List.getElem_zip]
  let fr:AU (tt.zip ws):=ok.free nt;let J:(tt.zip ws).map (·.2)=ws:=LF (l₁:=tt) (l₂:=ws) ();let O:A6 (tt.zip ws):={(),λp hp=>ok.2 _ (by rw[<-J];show Jq.mpr {p,hp,W})};generalize tt.zip ws=L at lz az fr J O;show{·,?_};show Qb (xs:=ws.map wD) W ?_;exists ·,{(),()},?_,λi ys M'=>M=M'/\ys=(L.take i).map pD,λ_ _ _ _ _=>trivial,{W,W},?_,?_
  .show Zn (by show((ws.map wD).length:Int).toNat<=_;lia)
  .rintro i x ys _ hi rfl ⟨rfl,rfl⟩;let hi:i<ws.length:=by
    let:i<((ws.map wD).length:Int).toNat:=hi;lia
   show{·,·,_,_,·,W,Yj (as:=tt) (j:=i) () (),·,·,_,_,·,W,Yj (f:=wD) (as:=ws) (j:=i) () hi,(show 2<=Cb by decide),W,?_};let ea:=az i () hi;rw[Jb ()]at ea;rw[Jh (),Ji,BG ea];rfl
  .rintro ys _ ⟨rfl,rfl⟩;let eL:L.take (GA 0 ((ws.map wD).length:Int).toNat).n=L:=by
    show L.take ((ws.map wD).length:Int).toNat=L;rw[Ja,G6,<-lz,Gc]
   rw[eL];exists ·,Y,2,W,hh,{nofun,nofun},λz _ _=>.inl {_,W,_,W,A5 (λ_=>?_) (λ_=>?_)}
   .show{·,·,·,W,·,?_};rw[<-L8];show .inl (k L.reverse fr.rev {by rw[List.length_reverse];show O.1,λp hp=>O.2 p (List.mem_reverse.mp hp)} (by rw[L8,J];show LL _))
   .show{·,.inl (k L fr O (by rw[J]))}
def tV(T:Txt mg)(G:CZ K C f)(na:C5 K (.ref C) "most"=some none)(F:AY K "__init__" "TooMany.__init__" X0 f fd):AK P w K mg dC A7 1 f fd q27 (spX1 C "most"):=by
 show F.ok Ou (λvs H Q E h=>?_) (λcdv A dD s H vs Q E J h=>?_)
 .let⟨ea,y,rfl,_⟩:=h;rfl
 .let⟨ea,y,rfl,B,k⟩:=h;let O:=Ou;show{_,(Ze (oE #[0] #[1] W)),?_};show{·,·,ea,C,f,W,G,na,.inl {B,λd hd ne=>k d hd ne}}
open L3
theorem Jea(T:Txt mg)(F:AY K "odds_between" "odds_between" Va f fd):AK P w K mg dC A7 1 f fd ["one","other"] (AH {C,K} dApart):=by
 show L3.AY.ok3 F cH (λds M K3 h=>?_) (λcdv A dD s H E G=>?_)
 .let⟨p,q,rfl,_⟩:=h;rfl
 .let SC:=cH;let B:=G.units;let Z:=Xf G;show{_,_,(Zb (Yz (Zz (Uc (K':=K) W B) (Z4 (Z5 (K':=K) W) #[0] Zd {}) (Z4 (Z5 (K':=K) W) #[1] Zd {}) (Z6 _))
 (Ze (Zx NB))
 Z1)
 (Zb (Zp (i:=2) SC.nd W (Ci W) (Zm (VT W) {} T.b_min QU (Za (Zm (Yi (K:=K) W) {} T.b_len BI (Za (Z4 (Z5 (K':=K) W) #[0] Zd {}) Zc)) (Za (Zm (Yi (K:=K) W) {} T.b_len BI (Za (Z4 (Z5 (K':=K) W) #[1] Zd {}) Zc)) Zc))))
 (Zb (Yz (Zz (Uc (K':=K) W B) (Yn (Vi (K':=K) W) (Z4 (Z5 (K':=K) W) #[0] Zd {}) Xa (Yr #[2])) (Yn (Vi (K':=K) W) (Z4 (Z5 (K':=K) W) #[1] Zd {}) Xa (Yr #[2])) (Z6 _))
 (Ze (Zx NB))
 Z1)
 (Ze (Zx Vl))))),λ_=>(by symm),λds M Kk hM hD h=>?_}
  let{p,q,rfl,h}:=h;let{J,k}:=h;show{_,W,_,_,_,W,W,W,_,W,_,_,_,W,W,W,Wp X5 (a:=p.1) (b:=q.1) {_,W,A5 (λh=>D0 (Dz h) J.1) (λ_=>?_)}};show{_,W,_,_,_,W,W,W,_,W,_,W,_,_,_,W,W,W,_,W,_,_,W,?_};let Y:(p.2.map D.int).length=p.2.length:=Ja _;let O:(q.2.map D.int).length=q.2.length:=Ja _;rw[Y,O,show(if(q.2.length:Int)<(p.2.length:Int)then(q.2.length:Int)else(p.2.length:Int))=((min p.2.length q.2.length:Nat):Int)by split<;>lia];show g_nx ?_
  try dsimp only
  show{·,_,_,·,W,W,·,·,bQ {_,W,_,_,_,W,W,W,_,W,_,W,bQ (Wp (KZ X5) (a:=p.2.take (min p.2.length q.2.length)) (b:=q.2.take (min p.2.length q.2.length)) {_,W,A5 (λh=>D0 (Dz h) (jC J)) λ_=>.inl k})}}
theorem yB(T:Txt mg)(Vg:Aq P w K mg dC "odds_between" 1 ["one","other"] (AH {C,K} dApart))(F:AY K "fault" "fault" MJ f fd):AK P w K mg dC A7 2 f fd ["table"] (AH {C,K} dNoF):=by
 show L3.AY.ok3 F RW (λds M K3 h=>?_) (λcdv A dD s H E Y=>?_)
 .let⟨d,L,rfl,_⟩:=h;rfl
 .let Z:=RW;let hu:=Y.units;let a1:=Xf Y;let Pk:AG 1 _:=Y.mono nofun;show{_,_,(Zb (X2 Cp W (Y6 W T.b_range (Za (Zm (Yi (K:=K) W) {} T.b_len BI (Za #[0] Zc)) Zc)) (Zo (i:=1) Z.nd W (Ci W))
 (Ze (X2 Cp W (Y6 W T.b_range (Za #[1] Zc)) (Zo (i:=2) Z.nd W (Ci W))
 (Zb (Zp (i:=3) Z.nd W (Ci W) (Zv Vg Pk W (Za (Z4 (Z5 (K':=K) W) #[0] #[2] {}) (Za (Z4 (Z5 (K':=K) W) #[0] #[1] {}) Zc))))
 (Ze (Yz (Wy (IT #[3]))
 (Ze (Zx (Y1 (Za #[3] (Za #[2] (Za #[1] Zc))))))
 Z1))))))
 (Ze (Zx Vl))),λ_=>(by symm),λds M Kk hM hD h=>?_}
  let{d,L,rfl,h}:=h;let{e1,{fr,a0,_},k}:=h;let lm:(L.map pD).length=L.length:=Ja _;show{·,Qb e1 {_,W,{(),()},λj ρ M'=>M=M'/\∃O G B,ρ=[some d,O,G,B],λ_ _ _ _ _=>trivial,{W,_,_,_,W},?_,?_}}
  .rintro j x ρ _ J rfl ⟨rfl,O,G,B,rfl⟩;let J:j<L.length:=lm ▸ (show j<(L.map pD).length from J);exists ·,·,{(),()},λi ρ M'=>M=M'/\∃G B,ρ=[some d,some (.int (0+(j:Int))),G,B],λ_ _ _ _ _=>trivial,{W,_,_,W},?_,?_
   .rintro i x ρ _ hi rfl ⟨rfl,G,B,rfl⟩;let hi:i<j:=by
     let hi:i<(0+(j:Int)).toNat:=hi;lia
    show{·,·,EX e1 (Yj () ()) {_,W,_,W,EX e1 (Yj () J) {_,_,W,fr.get () J hi,?_}}};show g_nx {_,W,_,W,A5 (λh=>D0 h nofun) λ_=>.inl {W,_,_,W}}
   .rintro ρ _ ⟨rfl,G,B,rfl⟩;show .inl {W,_,_,_,W}
  .rintro ρ _ ⟨rfl,O,G,B,rfl⟩;show .inl k
def sB(T:Txt mg)(J:Aq P w K mg dC "fault" 2 ["table"] (AH {C,K} dNoF))(F:AY K "refuse_fault" "refuse_fault" W9 f fd):AK P w K mg dC A7 3 f fd ["table"] (AH {C,K} dNoF):=by
 show L3.AY.ok3 F YH (λds M K3 h=>?_) (λcdv A dD s H E B=>?_)
 .let⟨d,L,rfl,_⟩:=h;rfl
 .let Z:=YH;let Y:=B.units;let O:=Xf B;let G:AG 2 _:=B.mono nofun;show{_,_,(Zb (Zp (i:=1) Z.nd W (Ci W) (Zv J G W (Za #[0] Zc)))
 (Zb (Yz (Wy (Um #[1]))
 (Ze Zre)
 Z1)
 (Zb (Yz (Zz (Uc (K':=K) W Y) (Z4 (Z5 (K':=K) W) #[1] Zd {}) NB (Z6 _))
 (Ze UA)
 Z1)
 (Ze UA)))),λ_=>(by symm),λds M Kk hM hD h=>?_}
  let{d,L,rfl,h}:=h;let{e1,h2,k}:=h;show{·,d,L,W,e1,h2,?_};show g_nx {_,W,_,W,A5 (λ_=>.inl k) (λh=>D0 W h)}
abbrev lamQ:Str:=E7 "Code.__init__"++".<locals>."++"<lambda>"
abbrev lamP:Pos:={145,45,145,65}
structure CodeT(K:Cq)(C:Addr):Prop where
 cl:CQ K C
 n_pairs:Y2 K C "pairs"
 n_words_by_sign:Y2 K C "words_by_sign"
 n_signs_by_word:Y2 K C "signs_by_word"
 n_begun:Y2 K C "begun"
 n_word_sizes:Y2 K C "word_sizes"
open L3
theorem oX(T:Txt mg)(F:AY K "beginnings" "beginnings" Ui f fd):AK P w K mg dC A7 1 f fd ["words"] (AH {C,K} dBeg):=by
 show L3.AY.ok3 F QM (λds M K3 h=>?_) (λcdv A dD s H E hr=>?_)
 .let⟨d,ws,rfl,_⟩:=h;rfl
 .let SC:=QM;let hu:=hr.units;let a0:=Xf hr;show{_,_,(Zb (Zp (i:=1) SC.nd W (Ci W) tP)
 (Zb (X2 Cp W (Ye #[0]) (Zo (i:=2) SC.nd W (Ci W))
 (Ze (X2 Cp W (Y6 W T.b_range (Za (Zm (Yi (K:=K) W) {} T.b_len BI (Za #[2] Zc)) Zc)) (Zo (i:=3) SC.nd W (Ci W))
 (Ze (tN a0 #[1] (Yn (Vi (K':=K) W) #[2] Xa (Yr #[3])) Tx W)))))
 (Ze (Zx #[1])))),λ_=>(Zs (Xh zV (Ak 1)) (Zs (Sq (BV (Zt 0)) (Ak 2) (Sq (by symm) (Ak 3) (vK (Zt 1) (by symm) s_bl))) (Xv (Zt 1)))),λds M Kk hM hD h=>?_}
  let{d,ws,rfl,h}:=h;let{hd,{hl,hw},k}:=h;let lm:(ws.map wD).length=ws.length:=Ja _;exists ·,_,(X4 (Rm hd)).2.1,λi ρ Y=>∃(Z B:Option D)(kvs:List (List AI×D)),ρ=[some d,some (.cell M.length),Z,B]/\M++[.dcT kvs]=Y/\kvs.length<=8*i/\R7 (kvs.map tv) (ws.take i) [] 0,λi ρ Y _ h=>?_,{_,_,[],W,W,Jk _,by rw[List.take_zero];show R7.nil _},?_,?_
  .let⟨_,_,_,_,rfl,_⟩:=h;show(X4 (Rm hd)).2.1
  .rintro i x ρ _ hi hx ⟨Z,B,kvs,rfl,rfl,J,G⟩;let{O,rfl}:=Z7 hx;let a1:=hw _ (Jv O);let lw:(ws[i].map D.int).length=ws[i].length:=Ja _;exists ·,·,((ws[i].length:Nat):Int),by rw[lw],{(),()},λn ρ Y=>∃(B:Option D)(kvs:List (List AI×D)),ρ=[some d,some (.cell M.length),some (wD ws[i]),B]/\M++[.dcT kvs]=Y/\kvs.length<=8*i+n/\R7 (kvs.map tv) (ws.take i) ws[i] n,λ_ _ _ _ _=>trivial,{_,kvs,W,W,J,?_},?_,?_
   .intro u;rw[G u];show decide_eq_decide.mpr {λz=>z.elim .inl λz=>D0 z.2 (G9 _),λz=>z.elim .inl λz=>D0 z.2 (G9 _)}
   .rintro n x ρ _ hn rfl ⟨B,kvs,rfl,rfl,J,G⟩;let hn:n<ws[i].length:=by have:n<((ws[i].length:Nat):Int).toNat:=hn;lia
    show{·,·,·,·,_,.inr {M.length,kvs,wk (ws[i].take n),W,Yl,?_,Gr (by lia:kvs.length<=1000) nofun,W},.inl {_,putD kvs (wk (ws[i].take n)) (.bl true),W,Xj.symm,?_,?_}}
    .show Qc (cut (ws[i].map D.int) none (some (0+(n:Int))))=_;rw[Dx,Vy,<-Dd,VX]
    .let:=Zmj (k:=wk (ws[i].take n)) (v:=D.bl true) (kvs:=kvs);lia
    .rw[<-lA];show G.put (Fg hn)
   .rintro ρ _ ⟨B,kvs,rfl,rfl,J,G⟩;let J:kvs.length<=8*i+ws[i].length:=J;show .inl {_,_,kvs,W,W,(),by rw[Jh O];show G.next _}
  .rintro ρ _ ⟨Z,B,kvs,rfl,rfl,J,G⟩;show{·,.inl (k kvs ?_)};let:=G.done;rwa [lm,Gc]at this
theorem pE(T:Txt mg)(B:CodeT K C)(a3:W.CodeHd dC c Pt)(a4:Bm mg dC)(Vf:Aq P w K mg dC "refuse_fault" 3 ["table"] (AH {C,K} dNoF))(U4:Aq P w K mg dC "beginnings" 1 ["words"] (AH {C,K} dBeg))(lk:K.lookup f=some {oc,od,.func (DE "__init__" "Code.__init__" (X9 Z2) (Xc Z2) (Zf Z2) .none kW doc pm an (.ref c) ct),osl})(a2:EH K (.ref c) "Code.__init__"=true) :
  AK P w K mg dC A7 4 f (DE "__init__" "Code.__init__" (X9 Z2) (Xc Z2) (Zf Z2) .none kW doc pm an (.ref c) ct) q18 (AH {C,K} (dInitC C Pt lamP lamQ)):=by
 show L3.AY.okC3 lk a2 aJ (λds M K3 h=>?_) (λA dD s H E J=>?_)
 .let⟨x,k0,d,L,rfl,_⟩:=h;rfl
 .let SC:=aJ;let hu:=J.units;let a9:=Xf J;let hcode:(CI A7 P w K mg dC q18 "Code.__init__" (Zf Z2) f (.ref c) A dD s H E).nox.env.code=.ref c:=rfl;let a6:AG 3 _:=J.mono nofun;let T5:AG 3 _:=J.mono nofun;let Pj:AG 3 _:=J.mono nofun;let a7:AG 1 _:=J.mono nofun;show{_,_,(Zb (Wn (Zv Vf Pj rfl (Za #[1] Zc)))
 (Zb (Qa #[0] (Xe (OH (K:=K) rfl) {} T.b_tuple H8 (Za (iO a6 rfl T.b_sorted (Za #[1] Zc) hcode a3 a4 rfl rfl (by rfl') (λ_ _ _ _=>rfl) (λ_ _ _ _ _ _=>(Z4 (yW (K:=K) rfl) #[0] Zd {}))) Zc)) rfl)
 (Zb (Qa #[0] (Xe (Py (K:=K) rfl T5 rfl) {} T.b_dict Hb (Za (Wq #[0] rfl) Zc)) rfl)
 (Zb (Qa #[0] (Xe (Py (K:=K) rfl T5 rfl) {} T.b_dict Hb (Za (Yw (T:=q30) (cs:=[]) rfl (CScope.ok {}) (Q7 (Wq #[0] rfl)) (λ_ _ _ _=>(Wj (n:=2) rfl (Zy #[0,0] (Zy #[1,0] Xk)) {})) (λ_ _ _ _=>Y5) (λ_ _ _ _=>(Y1 (Za #[1] (Za #[0] Zc)))) (Uy (Yf nofun (Yf nofun W1)))) Zc)) rfl)
 (Zb (Qa #[0] (Zv U4 a7 rfl (Za (Yw (T:=q30) (cs:=[]) rfl (CScope.ok {}) (Q7 (Wq #[0] rfl)) (λ_ _ _ _=>(Wj (n:=2) rfl (Zy #[0,0] (Zy #[1,0] Xk)) {})) (λ_ _ _ _=>Y5) (λ_ _ _ _=>#[1]) (Uy (Yf nofun (Yf nofun W1)))) Zc)) rfl)
 (Ze (Qa #[0] (Xe (OH (K:=K) rfl) {} T.b_tuple H8 (Za (Zm (zZ rfl) {} T.b_sorted Ek (Za (Xe (Py (K:=K) rfl T5 rfl) {} T.b_dict Hb (Za (Yw (T:=q30) (cs:=[]) rfl (CScope.ok {}) (Q7 (Wq #[0] rfl)) (λ_ _ _ _=>(Wj (n:=2) rfl (Zy #[0,0] (Zy #[1,0] Xk)) {})) (λ_ _ _ _=>Y5) (λ_ _ _ _=>(Y1 (Za (Zm (Yi (K:=K) rfl) {} T.b_len BI (Za #[1] Zc)) (Za Tx Zc)))) (Uy (Yf nofun (Yf nofun W1)))) Zc)) Zc)) Zc)) rfl))))))),λ_=>(Zs (by symm) (Zs (R8 (Zt 0) (Ah MT (Z9 (jO (by symm)) Y3))) (Zs (R8 (Zt 0) (Ah tR (Z9 (V7 (Zt 0)) Y3))) (Zs (R8 (Zt 0) (Ah Zid (Z9 (Ww (s_it (V7 (Zt 0))) (by symm) V6 (by symm)) Y3))) (Zs (R8 (Zt 0) (GI (Z9 (Ww (s_it (V7 (Zt 0))) (by symm) V6 (Zt 1)) Y3))) (R8 (Zt 0) (Ah MT (Z9 (Ah kO (Z9 (Ah JD (Z9 (Ww (s_it (V7 (Zt 0))) (by symm) V6 (by symm)) Y3)) Y3)) Y3)))))))),λds M Kk hM hD h=>?_}
  let{x,k0,d,L,rfl,h}:=h;let{{hx,hk,hd},{fr,Y},k}:=h;let lx:=(Jd.mp hx).1;show{·,d,L,rfl,hd,{fr,Y},?_};exists ·,k0,d,L,hk,rfl,hd,{Y.1,λp hp=>(Y.2 p hp).1,Jz.mpr (fr.imp λ{a b}z e=>z.2.1 (by rw[e];show Jn _))},λS pm ri=>?_;let lS:=pm.length_eq;let a8:=Y.1;show{_,·,rfl,·,x,C,[],rfl,hx,B.cl,B.n_pairs,nofun,?_};let g:∀{o:MO},(M.set x o)[x]?=some o:=by intro o;show Gw lx
  exists ·,x,C,_,·,g,B.cl,B.n_pairs,rfl,S.map prK,by rw[Jy];rfl,by rw[Ja];lia,·,x,C,·,g,B.cl,B.n_words_by_sign,by show 1<1000;decide,?_;rw[Dn];let lm:(S.map pD).length=S.length:=Ja _;let all:∀{f:Pr->D}{i:Nat},i=(S.map pD).length->(S.take i).map f=S.map f:=by intro f i h;rw[h,lm,Gc]
  let sz:(S.map pD).length<=Cb:=by rw[lm];show Zn ()
  exists ·,x,C,_,·,g,B.cl,B.n_pairs,rfl,·,sz,λj ys Z=>M.set x _=Z/\ys=(S.take j).map λp=>.tup [wD p.2,.int p.1],λ_ _ _ _ _=>trivial,{rfl,rfl},?_,?_
  .rintro j y ys _ hj O ⟨rfl,rfl⟩;let{G,rfl}:=Z7 O;show{·,rfl,_,·,_,·,rfl,·,·,(show 2<=Cb by decide),rfl,?_};rw[Jh G,Ji];rfl
  rintro ys _ ⟨rfl,rfl⟩;rw[all rfl];exists _,S.map λp=>(wk p.2,p.1),rfl,?_,{by rw[Ja];lia,?_},·,x,C,·,g,B.cl,B.n_signs_by_word,by show 2<1000;decide,?_
  .rw[Jy];show congrArg some (Bj λp _=>?_);show D.tup [wD p.2,_]=.tup [.tup ((wk p.2).map kD),_];unfold wD wk;rw[Jy];rfl
  .rw[Jy];show Jz.mpr ((fr.perm pm).imp λ{a b}z e=>z.2.1 (by rw[FX e];show Jn _))
  rw[Dn];exists ·,x,C,_,·,g,B.cl,B.n_pairs,rfl,·,sz,λj ys Z=>M.set x _=Z/\ys=(S.take j).map λp=>wD p.2,λ_ _ _ _ _=>trivial,{rfl,rfl},?_,?_
  .rintro j y ys _ hj O ⟨rfl,rfl⟩;let{G,rfl}:=Z7 O;show{·,rfl,_,·,_,·,rfl,·,rfl,?_};rw[Jh G,Ji];rfl
  rintro ys _ ⟨rfl,rfl⟩;rw[all rfl];exists _,S.map (·.2),rfl,congrArg some (by rw[Jy];rfl),{by rw[Ja];lia,λw hw=>?_},λkvs bg=>?_
  .let⟨p,hp,rfl⟩:=Jq.mp hw;show(Y.2 p (pm.mem_iff.mp hp)).2
  let g2:∀{o m:MO},(M.set x o++[m])[x]?=some o:=by intro o m;rw[Jo (by rwa[Gz])];show g
  let s2:∀{o o' m:MO},(M.set x o++[m]).set x o'=M.set x o'++[m]:=by intro o o' m;rw[List.set_append_left _ _ (by rwa[Gz]),Dn]
  exists ·,x,C,·,g2,B.cl,B.n_begun,by show 3<1000;decide,?_;rw[s2,Gz];exists ·,x,C,_,·,g2,B.cl,B.n_pairs,rfl,·,sz,λj ys Z=>M.set x _++[.dcT kvs]=Z/\ys=(S.take j).map λp=>.tup [.int (p.2.length:Nat),.bl true],λ_ _ _ _ _=>trivial,{rfl,rfl},?_,?_
  .rintro j y ys _ hj O ⟨rfl,rfl⟩;let{G,rfl}:=Z7 O;show{·,rfl,_,·,_,·,rfl,·,·,(show 2<=Cb by decide),rfl,?_};rw[Jh G,Ji,Ja];rfl
  rintro ys _ ⟨rfl,rfl⟩;rw[all rfl];let{ns,a5,nd,mem}:=KC (S.map λp=>((p.2.length:Nat):Int)) [] [] rfl .nil;exists _,(S.map λp=>((p.2.length:Nat):Int)).map λz=>(.inl z,.bl true),rfl,congrArg some (by rw[Jy,Jy];rfl),by rw[Ja,Ja];lia,_,ns,rfl,a5,?_,λa1 pN a0=>{_,_,rfl,rfl,_,rfl,x,C,_,rfl,g2,B.cl,B.n_word_sizes,by show 4<1000;decide,?_}
  .let:=Ow ((S.map λp=>((p.2.length:Nat):Int)).map λz=>((.inl z:AI),D.bl true)) [];rw[Ja,Ja,By]at this;lia
  rw[s2];show .inl (k S kvs a1 pm ri bg (yP nd (λn=>by rw[mem];simp only[List.not_mem_nil,false_or]) pN a0))
def wS(T:Txt mg)(Z:CodeT K C)(F:AY K "word" "Code.word" Tt f fd):AK P w K mg dC A7 1 f fd q23 (Oo C):=by
 show F.ok UN (λvs H Q E h=>?_) (λcdv A dD s H vs Q E hr h=>?_)
 .let⟨x,S,z,rfl,_⟩:=h;rfl
 .let⟨x,S,z,rfl,⟨dx,tp,d1,d2,d3,d4,ex,ci⟩,k1,k2⟩:=h;let{k3,e3,Y,O}:=ci.wb;let SC:=UN;let G:=Xf hr;show{_,(Ze (Zx (WQ G (Wq #[0] W) #[1] {W,W,W,W}))),?_};show{·,x,C,dx,_,·,ex,Z.cl,Z.n_words_by_sign,W,d1,W,.inl {_,.inl e3},·,_,DGet.k (k:=Ed z) e3,?_}
  by_cases B:∃p∈S,p.1=z
  .let⟨p,B,e⟩:=B;let{t,h1,h2}:=Y p B;rw[e]at h1;rw[h1];show k1 p B e t h2
  .rw[O z λp J e=>B {p,J,e}];show k2 λp J e=>B {p,J,e}
def Jbi(T:Txt mg)(CT:CodeT K C)(F:AY K "sign" "Code.sign" Tu f fd):AK P w K mg dC A7 1 f fd q28 (WR C):=by
 show F.ok aA (λvs H Q E h=>?_) (λcdv A dD s H vs Q E hr h=>?_)
 .let⟨x,t,S,u,rfl,_⟩:=h;rfl
 .let⟨x,t,S,u,rfl,⟨dx,tp,d1,d2,d3,d4,ex,ci⟩,et,k1,k2⟩:=h;let{k3,e3,Y,O}:=ci.sb;let SC:=aA;let G:=Xf hr;let Z:H t=some (.tup ((wk u).map kV)):=by rwa[RT]
  show{_,(Ze (Zx (WQ G (Wq #[0] W) #[1] {W,W,W,W}))),?_};show{·,x,C,dx,_,·,ex,CT.cl,CT.n_signs_by_word,W,d2,W,.inr {_,.inl e3},·,_,DGet.t e3 Z,?_}
  by_cases B:∃p∈S,p.2=u
  .let⟨p,B,e⟩:=B;let:=Y p B;rw[e]at this;rw[this];show k1 p B e
  .rw[O u λp J e=>B {p,J,e}];show k2 λp J e=>B {p,J,e}
def fO(T:Txt mg)(J:CodeT K C)(F:AY K "live" "Code.live" Tv f fd):AK P w K mg dC A7 1 f fd q33 (XG C):=by
 show F.ok VN (λvs H Q E h=>?_) (λcdv A dD s H vs Q E O h=>?_)
 .let⟨x,r,S,ns,rfl,_⟩:=h;rfl
 .let⟨x,r,S,ns,rfl,⟨dx,tp,d1,d2,d3,d4,ex,ci⟩,G,k⟩:=h;let{k3,e3,Y}:=ci.bg;let SC:=VN;let B:=Xf O;show{_,(Ze (Zx (JT (cF B (Xe S8 {} T.b_tuple H8 (Za #[1] Zc)) (Wq #[0] W))))),?_};let Z:H r=some (.tup ((wk ns).map kV)):=by rw[RT];show G
  show{·,_,·,.inr {A2.of G,?_}};show{·,x,C,dx,_,·,ex,J.cl,J.n_begun,W,d3,·,DGet.t e3 Z,?_};rwa[Y ns]
theorem yD(T:Txt mg)(CT:CodeT K C)(F:AY K "signs" "Code.signs" Uj f fd):AK P w K mg dC A7 1 f fd q25 (aO C):=by
 show F.ok bO (λvs H Q E h=>?_) (λcdv A dD s H vs Q E hr h=>?_)
 .let⟨x,S,rfl,_⟩:=h;rfl
 .let⟨x,S,rfl,⟨dx,tp,d1,d2,d3,d4,ex,ci⟩,a0,k⟩:=h;let{us,e1,ps}:=ci.pr;let SC:=bO;let hu:=hr.units;let lu:us.length=S.length:=Paired.length ps;show{_,(Ze (Zx (Zm (Zgx (K:=K) W) {} T.b_sorted Ek (Za (Yw (T:=q30) (cs:=[]) W (CScope.ok {}) (Q7 (Wq #[0] W)) (λ_ _ _ _=>(Wj (n:=2) W (Zy #[0,0] (Zy #[1,0] Xk)) {})) (λ_ _ _ _=>Y5) (λ_ _ _ _=>#[0]) (Uy (Yf nofun (Yf nofun W1)))) Zc)))),?_}
  show{_,W,x,C,dx,_,_,W,ex,CT.cl,CT.n_pairs,W,tp,W,{_,A2.of e1},yO (n:=S.length)
   (λj ys B=>ys=((S.take j).map (·.1)).map V.int/\B=H) {by rw[List.take_zero];rfl,W} ?_ (Zn ()) ?_ ?_ ?_ ?_}
  .rintro j ys B ⟨rfl,rfl⟩;rw[Ja,Ja,Ga];show Nat.min_le_left _ _
  .rintro j ys B Y ⟨rfl,rfl⟩;show{_,_,A2.of e1,Jb ()}
  .rintro ys B ⟨rfl,rfl⟩;show{_,A2.of e1,()}
  .rintro j ys B Y ⟨rfl,rfl⟩ y H' hy;let{rfl,J}:=hy;let J:=J _ (A2.of e1);let G:j<us.length:=by lia
   rw[Jb G]at J;let{t,tw,ev,b,cw}:=Paired.at ps G Y;let ey:y=.ref t:=by rwa[<-BG J]
   show{t,_,ey,A2.of b,W,_,·,_,·,W,?_};show{·,?_,W};rw[Jh Y,Ji,Ji];rfl
  .rintro ys B ⟨rfl,rfl⟩ q hq;rw[Gc];show{q,S.map (·.1),W,Ad.of Zw,by rwa[Ja],λD ns Z pm pw=>?_};let O:B D=none:=by
    by_cases z:D=q
    .rw[z];show hq
    .rw[Zq z]at Z;show Z
   show k D _ ns O ((Wc hq).trans (Wc Z)) Zw pm pw
open L3
theorem uM(T:Txt mg)(F:AY K "_law_from" "_law_from" MR f fd):AK P w K mg dC A7 1 f fd q15 (AH {C,K} dFrom):=by
 show L3.AY.ok3 F bI (λds M K3 h=>?_) (λcdv A dD s H E hr=>?_)
 .let⟨L,d,ns,a,rfl,_⟩:=h;rfl
 .let SC:=bI;let hu:=hr.units;let a0:=Xf hr;show{_,_,(Zb (X2 Cp W (Ye #[0]) (Wj (n:=2) W (Zy (Zo (i:=3) SC.nd W (Ci W)) (Zy (Zo (i:=4) SC.nd W (Ci W)) Xk)) {})
 (Ze (Yz (Zz (Uc (K':=K) W hu) (Xe (OH (K:=K) W) {} T.b_tuple H8 (Za (Yn (Vi (K':=K) W) #[1] (Yr #[2]) (Yr (Z3 (Yg (K':=K) W) #[2] (Zm (Yi (K:=K) W) {} T.b_len BI (Za #[4] Zc))))) Zc)) #[4] (Z6 _))
 (Ze (Zx (Y1 (Za #[3] (Za (Z3 (Yg (K':=K) W) #[2] (Zm (Yi (K:=K) W) {} T.b_len BI (Za #[4] Zc))) Zc)))))
 Z1)))
 (Ze (Zx Vl))),λ_=>(by symm),λds M Kk hM hD h=>?_}
  let{L,d,ns,a,rfl,h}:=h;let{hd,{lS,la},k1,k2}:=h;let lm:(L.map pD).length=L.length:=Ja _;exists ·,·,λi ρ M'=>∃O J:Option D,ρ=[some (.lst (L.map pD)),some d,some (.int a),O,J]/\M=M'/\∀j(G:j<L.length),j<i->¬ L[j].2<+:ns.drop a,λ_ _ _ _ _=>rfl,{_,_,W,W,λj _ G=>D0 G (G9 _)},?_,?_
  .rintro i x ρ _ hi hx ⟨O,J,rfl,rfl,Y⟩;let{Z,rfl}:=Z7 hx;let lw:(L[i].2.map D.int).length=L[i].2.length:=Ja _;show{·,W,_,·,_,·,W,?_};show{·,·,·,·,·,·,·,?_};show I9 hd ?_;rw[lw,Vz,show(a:Int)+(L[i].2.length:Int)=(a:Int)+((L[i].2.length:Nat):Int)from W,wI la];show{_,·,W,·,?_};show Wp (KZ X5) (a:=(ns.drop a).take L[i].2.length) (b:=L[i].2) {_,W,A5 (λh=>?_) (λh=>?_)}
   .let B:L[i].2<+:ns.drop a:=Fz.mpr (Dz h).symm;show{·,·,·,·,?_};rw[lw];show add_int {(show 2<=Cb by decide),.inl (by rw[<-Db];show k1 _ (Jv Z) B)}
   .show .inl {_,_,W,W,λj G a1 B=>?_}
    by_cases e:j=i
    .subst e;show h (Ab (Fz.mp B).symm)
    .show Y j G () B
  .rintro ρ _ ⟨O,J,rfl,rfl,Y⟩;show .inl (k2 λp hp B=>?_);let{j,G,rfl}:=Ge hp;show Y j G (by show j<(L.map pD).length;rw[lm];show G) B
open L3
theorem pV(xs:List τ)(a:Int)(h0:0<=a)(h1:a<=xs.length):cut xs (some a) none++cut xs none (some a)=xs.drop a.toNat++xs.take a.toNat:=by
 obtain⟨j,rfl⟩:∃j:Nat,a=j:={a.toNat,()};rw[Vn,Vy,G6]
theorem wA(b c:Int)(B:0<=c)(n:Nat):((C2 n).map λj:Nat=>b+(1+c)*(j:Int)).Nodup:=by
 show Jz.mpr ((List.pairwise_lt_range (n:=n)).imp λ{i j}h e=>?_);let h1:(1+c)*(i:Int)<(1+c)*(j:Int):=Int.mul_lt_mul_of_pos_left () ();lia
theorem Jdv(T:Txt mg)(O:Aq P w K mg dC "_law_draw" 1 q00 (AH {C,K} CB))(F:AY K "_law_signs" "_law_signs" LH f fd):AK P w K mg dC A7 2 f fd q00 (AH {C,K} dSigns):=by
 show L3.AY.ok3 F UO (λds M K3 h=>?_) (λcdv A dD s H E hr=>?_)
 .let⟨k,m,rfl,_⟩:=h;rfl
 .let SC:=UO;let hu:=hr.units;let b8:=Xf hr;let J:AG 1 _:=hr.mono nofun;show{_,_,(Zb (Zp (i:=2) SC.nd W (C4 W) (Z3 (Yg (K':=K) W) (Z3 Tj (Zv O J W (Za #[0] (Za Zd Zc))) (Z3 JW Zd Zd)) (Zv O J W (Za #[0] (Za Zd Zc)))))
 (Zb (Zp (i:=3) SC.nd W (C4 W) (Z3 (Yg (K':=K) W) Zd (Z4 (Z5 (K':=K) W) (Yk (Za Zd (Za (Zv O J W (Za #[0] (Za Zd Zc))) (Za (Zv O J W (Za #[0] (Za (Z3 JW Zd Zd) Zc))) Zc)))) (Zv O J W (Za #[0] (Za Zd Zc))) {})))
 (Zb (Ul (i:=4) SC.nd W W (T:=["_law_k"]) (cs:=[2,3]) W (CScope.ok {}) (Y6 W T.b_range (Za #[1] Zc)) (λ_ _ _ _=>#[0,0]) (λ_ _ _ _=>Y5) (λ_ _ _ _=>(Z3 (Yg (K':=K) W) #[1] (Z3 Tj #[2] #[0]))) (Xb nofun))
 (Zb (Zp (i:=5) SC.nd W (Ci W) (Z3 Wz (Zv O J W (Za #[0] (Za Zd Zc))) (Zm (Px W) {} T.b_max Lz (Za Zd (Za #[1] Zc)))))
 (Zb (Zp (i:=4) SC.nd W (Ci W) (Z3 (Yg (K':=K) W) (Yn (Vi (K':=K) W) #[4] (Yr #[5]) Xa) (Yn (Vi (K':=K) W) #[4] Xa (Yr #[5]))))
 (Zb (Yz (Zz (Uc (K':=K) W hu) (Zv O J W (Za #[0] (Za Zd Zc))) Zd (Z6 _))
 (Ze (Zx (YN #[4] (Yr (VC PY Zd)) (λ_ _=>{_,W}))))
 Z1)
 (Ze (Zx #[4])))))))),λ_=>(Zs (by symm) (Zs (by symm) (Zs (by symm) (Zs (by symm) (Zs (by symm) (Zs (Vu (by symm) (Xv (WB (Zt 4) (by symm))) Wg) (Xv (Zt 4)))))))),λds M Kk hM hD h=>?_}
  let{k,m,rfl,h}:=h;let{G,{m0,m1},kk}:=h;exists ·,k,500,W,G,{nofun,nofun},λr1 b7 b6=>?_;show{_,·,W,{nofun,nofun,nofun},.inl {(),()},?_};exists ·,k,1000000,W,G,{nofun,nofun},λr2 b5 b4=>?_;exists ·,k,40,W,G,{nofun,nofun},λr3 b3 b2=>?_;exists ·,_,·,W,{nofun,nofun,nofun},k,·,G,{nofun,nofun},λY b1 a0=>?_;exists(show 3<=Cb by decide),·,k,3,W,G,{nofun,nofun},λr5 a9 a8=>?_;let h5:r5.toNat < [0,r3,Y].length:=by show _<3;lia
  show{_,_,_,W,W,Yj (f:=D.int) (as:=[0,r3,Y]) (j:=r5.toNat) () h5,?_};let a3:Y<10000000:=a0;obtain⟨hc,a2⟩:0<=[0,r3,Y][r5.toNat]/\[0,r3,Y][r5.toNat]<10000000:=by
   let hv:=Jv h5;simp only[Gd,List.mem_nil_iff,or_false]at hv;rcases hv with z|z|z<;>rw[z]<;>constructor<;>lia
  generalize [0,r3,Y][r5.toNat]=c at hc a2;let lm:∀ns:List Int,(ns.map D.int).length=ns.length:=λns=>Ja _;exists ·,m,W,{(),()},?_,λj ys M'=>M=M'/\ys=((C2 j).map λj:Nat=>(r1*10 ^ Int.toNat 6+r2)+(1+c)*(j:Int)).map .int,λ_ _ _ _ _=>trivial,{W,W},?_,?_
  .show m.toNat<=Cb;show Zn ()
  .rintro j x ys _ hj rfl ⟨rfl,rfl⟩;let hj:j<m.toNat:=hj;show{·,·,·,.inl {(),()},W,?_};rw[Dt,Ji,Ji,Dx];rfl
  rintro ys _ ⟨rfl,rfl⟩;generalize r1*10 ^ Int.toNat 6+r2=b;let nd:=wA b c hc m.toNat;let ln:((C2 m.toNat).map λj:Nat=>b+(1+c)*(j:Int)).length=m.toNat:=by rw[Ja,Bt]
  rw[show(GA 0 m.toNat).n=m.toNat from W];generalize (C2 m.toNat).map (λj:Nat=>b+(1+c)*(j:Int))=ss at nd ln;show{_,W,k,60,W,G,{nofun,nofun},λZ a7 a6=>?_};show{_,W,_,_,W,_,_,W,W,by split<;>lia,?_};show uG 5 (D.int (Z % (if m > 1 then m else 1))) _ _ _;let ha:0<=Z % (if m > 1 then m else 1)/\Z % (if m > 1 then m else 1)<=ss.length:=by
   split
   .show{Bq _ (),by have:=Bp Z (show 0<m by lia);lia}
   .constructor<;>lia
  generalize Z % (if m > 1 then m else 1)=a at ha;let B:(ss.drop a.toNat++ss.take a.toNat).Nodup:=(G8.trans (by rw[J8])).nodup_iff.mpr nd;let a1:(ss.drop a.toNat++ss.take a.toNat).length=m.toNat:=by rw[Jc,Gf,Ga];lia
  show{·,·,·,·,·,·,·,·,_,·,W,?_,?_}
  .let h1:(cut (ss.map D.int) (some a) none).length<=(ss.map D.int).length:=by unfold cut;rw[List.length_take,List.length_drop];lia
   let h2:(cut (ss.map D.int) none (some a)).length<=(ss.map D.int).length:=by unfold cut;rw[List.length_take,List.length_drop];lia
   rw[lm]at h1 h2;show Zn ()
  rw[Vz,Vz,<-Ji,pV ss a ha.1 ha.2];generalize ss.drop a.toNat++ss.take a.toNat=zs at B a1;exists ·,k,2,W,G,{nofun,nofun},λr7 a5 a4=>Wp X5 (a:=r7) (b:=0) {_,W,A5 (λ_=>?_) (λ_=>{_,W,.inl (kk zs B ())})};show{·,·,·,W,·,.inl ?_};rw[<-L8];show kk _ ((LL zs).nodup_iff.mpr B) (by rw[List.length_reverse];lia)
open L3
def IM{E:List (Option Int)}{i:Nat}(hi:i<E.length){a b:List (Option Int)}(h:Ae S (E.take i)=some a)(h1:DA S E[i]=some b):Ae S (E.take (i+1))=some (a++b):=by
 rw[Jh hi,Rp,h,Ib,h1]
def TZ{E:List (Option Int)}{i:Nat}(hi:i<E.length)(h1:DA S E[i]=none):Ae S E=none:=by
 let e:E=E.take (i+1)++E.drop (i+1):=(J8 _ _).symm;rw[e,Rp,Jh hi,Rp,Ib,h1];cases Ae S (E.take i)<;>rfl
theorem GG(B:A6 S):∀{E kn:List (Option Int)},Ae S E=some kn->kn.length<=4*E.length
 |[],kn,h=>by cases h;show Jk _
 |e::E,kn,h=>by
  let h:(match DA S e,Ae S E with|some a,some b=>some (a++b)|_,_=>none)=some kn:=h;cases h1:DA S e with
  |none=>rw[h1]at h;cases h
  |some a =>
   cases h2:Ae S E with
   |none=>rw[h1,h2]at h;cases h
   |some b =>
    rw[h1,h2]at h;cases h;let:=GG B h2;let la:a.length<=4:=by
     cases e with
     |none=>cases h1;decide
     |some s =>
      let h1:(S.find? λp=>decide (p.1=s)).map (λp=>p.2.map some)=some a:=h1;let{p,G,rfl}:=Gq.mp h1;rw[Ja];show(B.2 p (Fo G)).2
    rw[Jc,Ju];lia
theorem vN(T:Txt mg)(a1:CY P w K mg dC C "word" 1 q23 (AH {C,K} dWord))(F:AY K "known_bytes" "known_bytes" Vt f fd):AK P w K mg dC A7 2 f fd q31 (AH {C,K} dKnown):=by
 show L3.AY.ok3 F WF (λds M K3 h=>?_) (λcdv A dD s H E hr=>?_)
 .let⟨S,d,E,rfl,_⟩:=h;rfl
 .let SC:=WF;let hu:=hr.units;let a2:=Xf hr;let a0:AG 1 _:=hr.mono nofun;show{_,_,(Zb (Zp (i:=2) SC.nd W (Ci W) (Yk Zc))
 (Zb (X2 Cp W (Ye #[1]) (Zo (i:=3) SC.nd W (Ci W))
 (Zb (Zp (i:=4) SC.nd W (Ci W) (Td (Wy (Um #[3])) (Y1 (Za Vl Zc)) (HB #[0] a1 a0 (Za #[3] Zc))))
 (Zb (Yz (Wy (Um #[4]))
 (Ze (Zx Vl))
 Z1)
 (Ze (Wn (P6 Ct Es Hl zH #[2] (Za #[4] Zc)))))))
 (Ze (Zx #[2])))),λ_=>(Zs (Xh (Tl Y3) (Ak 2)) (Zs (Sq (BV (Zt 1)) (Ak 3) (Zs (Xh (s_if (by symm) (by symm) (Q1 (λ_ _ _ _ _=>rfl) (Zt 0) (by symm))) (Ak 4)) (Zs (by symm) (R9 (jZ (Zt 2) (by symm)))))) (Xv (Zt 2)))),λds M Kk hM hD h=>?_}
  let{S,d,E,rfl,h}:=h;let{e1,{fr,fi,hE},kN,kS}:=h;exists J9 _,·,_,GM (X4 e1).2.1,λi ρ O=>∃Z Y kn,ρ=[some (.code S),some d,some (.cell M.length),Z,Y]/\O=M++[.lst (kn.map oD)]/\Ae S (E.take i)=some kn,λi ρ O _⟨_,_,kn,_,z,_⟩=>by rw[z];show GM (X4 e1).2.1,{_,_,[],W,W,W},?_,?_
  .rintro i x ρ O hi hx ⟨Z,Y,kn,rfl,rfl,G⟩;let{B,rfl}:=Z7 hx;let hl:kn.length<=4*50:=Js (GG fi G) (Nat.mul_le_mul_left 4 (Js (List.length_take_le _ _) ()));show{·,?_};cases he:E[i]with
   |none =>
    show{·,Aa {(show 1<=Cb by decide),?_}};show{·,·,AZ ?_};show{·,Wo (Xo Yl),·,M.length,[.non],·,W,Yl,Zn (by rw[Ja];show kn.length+1<=_;lia),.inl {_,_,kn++[none],W,?_,IM B G (by rw[he];rfl)}};rw[Xj,Ji];rfl
   |some s =>
    show{·,AZ {_,W,{S,W},_,W,S,s,W,λp J e=>?_,λhn=>?_}}
    .let lp:=(fi.2 p J).2;show{·,·,AZ ?_};show{·,Wo (Xo Yl),·,M.length,p.2.map .int,·,W,Yl,Zn (by rw[Ja,Ja];lia),.inl {_,_,kn++p.2.map some,W,?_,IM B G (by rw[he,<-e];show JP fr J)}};rw[Xj,Ji,Jy];rfl
    .show{·,·,Aa ?_};show Sc (Gj _ _) hM Pz (kN (TZ B ?_));rw[he];show(S.find? λp=>decide (p.1=s)).map _=none;rw[F7.mpr λp J z=>hn p J (Dz z)];rfl
  .rintro ρ O ⟨Z,Y,kn,rfl,rfl,G⟩;rw[show El _ E=E from by rw[show(List.map oD E).length=E.length from Ja _];show Gc]at G;show{·,.inl (kS kn G)}
open L3
def vS{b:Int}(B:kn[p]?=some o) :
  ((o.isSome=true/\o≠some b)->bt kn S p sw b=none)/\(¬ (o.isSome=true/\o≠some b)->(((Wh kn (p+1-(sw++[b]).length) (sw++[b])).any (λu=>decide (IsWd S u))=true->bt kn S p sw b=none) /\
   ((Wh kn (p+1-(sw++[b]).length) (sw++[b])).any (λu=>decide (IsWd S u))=false->bt kn S p sw b=some (((Wh kn (p+1-(sw++[b]).length) (sw++[b])).find? λu=>decide (Live S u)).getD [])))):=by
 unfold bt;rw[B]
 try dsimp only
 exists λh=>D9 (.inl h),λh=>{λz=>D9 (.inr z),λz=>D8 λy=>?_};rcases y with y|y
 .show h y
 .rw[z]at y;cases y
theorem Pn(q:τ->Bool):∀xs:List τ,xs.find? q=(xs.filter q)[0]?
 |[]=>rfl
 |x::xs=>by
  rw[Gu,Fj];cases q x with
  |true=>rfl
  |false=>show Pn q xs
theorem qR(T:Txt mg)(a4:CY P w K mg dC C "sign" 1 q28 (AH {C,K} dCSign))(a3:CY P w K mg dC C "live" 1 q33 (AH {C,K} dLiveT))(F:AY K "byte_taken" "byte_taken" Uh f fd):AK P w K mg dC A7 2 f fd q14 (AH {C,K} dByteT):=by
 show L3.AY.ok3 F PU (λds M K3 h=>?_) (λcdv A dD s H E Z=>?_)
 .let⟨S,d,kn,p,sw,b,rfl,_⟩:=h;rfl
 .let SC:=PU;let hu:=Z.units;let a6:=Xf Z;let a2:AG 1 _:=Z.mono nofun;let a1:AG 1 _:=Z.mono nofun;show{_,_,(Zb (Yz (PW.pt (bK (Wy (IT (Z4 (Z5 (K':=K) W) #[1] #[2] {}))) (ZH (Zz (EL (K':=K) W hu) (Z4 (Z5 (K':=K) W) #[1] #[2] {}) #[4] (Z6 _)))))
 (Ze (Zx Vl))
 Z1)
 (Zb (Zp (i:=5) SC.nd W (C4 W) (Z3 (xQ (K':=K) W) #[3] (Y1 (Za #[4] Zc))))
 (Zb (Ul (i:=6) SC.nd W W (T:=["skip"]) (cs:=[5,1,2]) W (CScope.ok {}) (Y6 W T.b_range (Za (Zm (Yi (K:=K) W) {} T.b_len BI (Za #[5] Zc)) Zc)) (λ_ _ _ _=>#[0,0]) (λ_ _ _ _=>(Vb (Wy (Um (Z4 (Z5 (K':=K) W) #[2] (Z3 (Yg (K':=K) W) (Z3 GB (Z3 (Yg (K':=K) W) #[3] Zd) (Zm (Yi (K:=K) W) {} T.b_len BI (Za #[1] Zc))) #[0]) {}))))) (λ_ _ _ _=>(Yn (Vi (K':=K) W) #[1] (Yr #[0]) Xa)) (Xb nofun))
 (Zb (Yz (V8 (Zm (UM (K:=K) W W) {} T.b_any PyProof.Rows.boot_any (Za (Yw (T:=["rest"]) (cs:=[0]) W (CScope.ok {}) (Ye #[6]) (λ_ _ _ _=>#[0,0]) (λ_ _ _ _=>Y5) (λ_ _ _ _=>(JT (IT (HB #[1] a4 a2 (Za #[0] Zc))))) (Xb nofun)) Zc)))
 (Ze (Zx Vl))
 Z1)
 (Zb (Ul (i:=7) SC.nd W W (T:=["rest"]) (cs:=[0]) W (CScope.ok {}) (Ye #[6]) (λ_ _ _ _=>#[0,0]) (λ_ _ _ _=>(Vb (V8 (HB #[1] a3 a1 (Za #[0] Zc))))) (λ_ _ _ _=>#[0]) (Xb nofun))
 (Ze (Zx (Td (Zz Qd (Zm (Yi (K:=K) W) {} T.b_len BI (Za #[7] Zc)) Zd (Z6 _)) (Z4 (Z5 (K':=K) W) #[7] Zd {}) (Y1 Zc))))))))),λ_=>(Zs (by symm) (Zs (Xh (BE tZ (Zt 3) (by symm)) (Ak 5)) (Zs (by symm) (Zs (Vu (s_b (Ah On (Z9 (Ww (BV (Zt 6)) (Ak 0) V6 (aL (Q1 (λ_ _ _ _ _=>rfl) (Zt 1) (by symm)))) Y3))) (Xv OQ) Wg) (Zs (Xh (Ww (BV (Zt 6)) (Ak 0) (s_b (Q1 (λ_ _ _ _ _=>rfl) (Zt 1) (by symm))) (Zt 0)) (Ak 7)) (by symm)))))),λds M Kk hM hD h=>?_}
  let{S,d,kn,p,sw,b,rfl,h}:=h;let{e2,{hp,hs,hn},kN,kS}:=h;let eo:kn[p]?=some kn[p]:=Jb hp;let{c1,c2}:=vS (S:=S) (sw:=sw) (b:=b) eo;generalize ho:kn[p]=o at eo c1 c2;let Y:L2.atI (kn.map oD) (p:Int)=some (oD o):=by rw[<-ho];show Yj (j:=p) W hp
  show mX (c:=o.isSome&&decide (o≠some b)) (iQ (λK z=>{_,W,_,W,_,_,_,W,W,Y,_,W,?_}) λht K z=>{_,W,_,W,_,_,_,W,W,Y,_,W,?_}) ?_
  .cases o<;>show z
  .cases o with
   |none=>cases ht
   |some c =>
    show Wp X5 (a:=c) (b:=b) {_,W,?_};let:(!decide (c=b))=decide (some c≠some b):=by
     by_cases e:c=b
     .rw[e];simp
     .simp[e]
    rwa[this]
  show A5 (λhz=>?_) (λhz=>?_)
  .rw[B2]at hz;show .inl (kN (c1 {hz.1,Dz hz.2}))
  let a0:¬ (o.isSome=true/\o≠some b):=λy=>hz (by rw[B2];show{y.1,Ab y.2});let{c3,c4}:=c2 a0;let lr:(sw++[b]).length=sw.length+1:=by rw[Jc];rfl
  show{·,·,(show 1<=Cb by decide),sw,[b],e2,W,Zn (by show sw.length+1<=_;lia),(λz=>nomatch z),?_};let O:((sw++[b]).map D.int).length=(sw++[b]).length:=Ja _;generalize a5:sw++[b]=row at *
  exists ·,·,(row.length:Int),by rw[O],{(),()},?_;generalize hF:(λk=>decide (kn[p+1-row.length+k]?=some none))=F;let eR:Wh kn (p+1-row.length) row=((C2 row.length).filter F).map row.drop:=by unfold Wh;rw[hF]
  exists ?_,λj ys J=>M=J/\ys=(((C2 j).filter F).map row.drop).map λu=>D.tup (u.map .int),λ_ _ _ _ _=>trivial,{W,W},?_,?_
  .show((row.length:Int)).toNat<=Cb;rw[G6];show Zn ()
  .rintro j x ys J hj rfl ⟨rfl,rfl⟩;let hj:j<row.length:=by
    let:j<((row.length:Int)).toNat:=hj;rwa [G6]at this
   let hi:p+1-row.length+j<kn.length:=by lia
   show{_,W,_,W,_,W,_,W,_,_,W,W,_,W,_,_,_,W,W,Yj (f:=oD) (as:=kn) (j:=p+1-row.length+j) (by rw[O];lia) hi,_,W,?_};let eF:F j=decide (kn[p+1-row.length+j]=none):=by
    rw[<-hF];simp only[Jb hi,JQ]
   by_cases z:kn[p+1-row.length+j]=none
   .rw[show(oD kn[p+1-row.length+j]).isN=true from by rw[z];rfl];show Aa {_,W,_,W,_,W,W,?_};rw[Dt,Fl,Ji,Ji,List.filter_cons_of_pos (by rw[eF];show Ab z),Vz,Dx,Vn];rfl
   .let:(oD kn[p+1-row.length+j]).isN=false:=by
     cases h:kn[p+1-row.length+j]with
     |none=>show D0 h z
     |some c=>rfl
    rw[this];show AZ {W,?_};rw[Dt,Fl,Ji,Ji,List.filter_cons_of_neg (by rw[eF];show λy=>z (Dz y)),Mr,Dj,Dj,Jx]
  rintro ys _ ⟨rfl,rfl⟩;let e0:(GA 0 ((row.length:Int)).toNat).n=row.length:=by show((row.length:Int)).toNat=_;rw[G6]
  rw[e0,<-eR];let lR:(Wh kn (p+1-row.length) row).length<=201:=by
   rw[eR,Ja];show Js (Fm _ _) (by rw[Bt];lia)
  generalize a7:Wh kn (p+1-row.length) row=rs at *
  clear hF eR e0 c2 c1;let G:(rs.map λu=>D.tup (u.map .int)).length=rs.length:=Ja _;let eT:rs.take (rs.map λu=>D.tup (u.map .int)).length=rs:=by rw[G,Gc]
  exists ·,·,?_,λi ys J=>M=J/\ys=((rs.take i).map λu=>decide (IsWd S u)).map .bl,λ_ _ _ _ _=>rfl,{W,W},?_,?_
  .show(rs.map λu=>D.tup (u.map .int)).length<=Cb;rw[G];show Zn ()
  .rintro i x ys _ hi hx ⟨rfl,rfl⟩;let{B,rfl}:=Z7 hx;let eb:∀c,decide (IsWd S rs[i])=c->((rs.take i).map λu=>decide (IsWd S u)).map D.bl++[.bl c]=((rs.take (i+1)).map λu=>decide (IsWd S u)).map D.bl:=λc e=>by
    rw[Jh B,Ji,Ji,<-e];rfl
   exists ·,{S,W},·,S,rs[i],W,λq hq e=>{W,eb _ (Ab {q,hq,e})},λhn=>{W,eb _ (BB λ⟨q,hq,e⟩=>hn q hq e)}
  rintro ys _ ⟨rfl,rfl⟩;rw[show El _ rs=rs from eT];exists _,rs.map λu=>decide (IsWd S u),W,W,·,?_;rw[List.any_map,show(id ∘ λu=>decide (IsWd S u))=λu=>decide (IsWd S u)from W];show A5 (λhw=>.inl (kN (c3 hw))) (λhw=>?_);let hb:=c4 (B4 _ ▸ hw);exists ·,·,?_,λi ys J=>M=J/\ys=((rs.take i).filter λu=>decide (Live S u)).map λu=>D.tup (u.map .int),λ_ _ _ _ _=>rfl,{W,W},?_,?_
  .show(rs.map λu=>D.tup (u.map .int)).length<=Cb;rw[G];show Zn ()
  .rintro i x ys _ hi hx ⟨rfl,rfl⟩;let{B,rfl}:=Z7 hx;show{·,{S,W},·,S,rs[i],W,·,?_};show A5 (λhl=>{_,W,W,?_}) (λhl=>{W,?_})
   .show(Wl (λu=>decide (Live S u)) _ B true hl).symm
   .show((Wl (λu=>decide (Live S u)) _ B false (B4 _ ▸ hl)).trans (Jx _)).symm
  rintro ys _ ⟨rfl,rfl⟩;rw[show El _ rs=rs from eT];rw[Pn]at hb;generalize (rs.filter λu=>decide (Live S u))=fs at hb;show{·,·,_,·,W,·,?_};cases fs with
  |nil=>show AZ {J9 _,.inl (kS _ hb)}
  |cons u fs =>
   rw[Ab (by rw[Jm,Ju];lia)];show Aa {_,W,_,_,_,W,W,Yj (f:=λu:List Int=>D.tup (u.map .int)) (as:=u::fs) (j:=0) W (Nat.zero_lt_succ _),.inl (kS _ hb)}
open L3
theorem iF(T:Txt mg)(U3:Aq P w K mg dC "byte_taken" 2 q14 (AH {C,K} dByteT))(F:AY K "word_taken" "word_taken" Ug f fd):AK P w K mg dC A7 3 f fd q19 (AH {C,K} dWordT):=by
 show L3.AY.ok3 F cT (λds M K3 h=>?_) (λcdv A dD s H E Y=>?_)
 .let⟨S,kn,sp,w,rfl,_⟩:=h;rfl
 .let J:=cT;let hu:=Y.units;let a1:=Xf Y;let a0:AG 2 _:=Y.mono nofun;show{_,_,(Zb (Zp (i:=4) J.nd W (Ci W) (Z4 (Z5 (K':=K) W) #[2] Zd {}))
 (Zb (Zp (i:=5) J.nd W (Ci W) (Z4 (Z5 (K':=K) W) #[2] Zd {}))
 (Zb (Yz (Zz Qd (Z3 (Yg (K':=K) W) #[4] (Zm (Yi (K:=K) W) {} T.b_len BI (Za #[3] Zc))) (Zm (Yi (K:=K) W) {} T.b_len BI (Za #[1] Zc)) (Z6 _))
 (Ze (Zx Vl))
 Z1)
 (Zb (X2 Cp W (Q7 #[3]) (Zo (i:=6) J.nd W (Ci W))
 (Zb (Zp (i:=5) J.nd W (Ci W) (Zv U3 a0 W (Za #[0] (Za #[1] (Za #[4] (Za #[5] (Za #[6] Zc)))))))
 (Zb (Yz (Wy (Um #[5]))
 (Ze (Zx Vl))
 Z1)
 (Ze (IH (i:=4) J.nd W (Ci W) Zd GQ)))))
 (Ze (Zx (Y1 (Za #[4] (Za #[5] Zc))))))))),λ_=>(Zs (Xh (BE GL (Zt 2) Vk) (Ak 4)) (Zs (Xh (BE GL (Zt 2) Vk) (Ak 5)) (Zs (by symm) (Zs (Sq (s_it (Zt 3)) (Ak 6) (Zs (by symm) (Zs (by symm) (HK Vk)))) (Xv (Zun (by symm))))))),λds M Kk hM hD h=>?_}
  let{S,kn,sp,w,rfl,h}:=h;let{{g,lw,hn},kN,kS}:=h;let lk:(kn.map oD).length=kn.length:=Ja _;let G:(w.map D.int).length=w.length:=Ja _;show{·,_,_,·,W,W,·,_,_,·,W,W,?_};show{·,·,·,·,·,_,·,W,·,?_};rw[lk,G];show A5 (λhz=>.inl (kN ?_)) (λhz=>?_)
  .let hz:=Dz hz;cases e:wt kn S sp w with
   |none=>rfl
   |some q =>
    let{a,b}:=Yv e g;let:=a.2.1;lia
  let hz:sp.1+w.length<=kn.length:=by have:=D1 (B4 _ ▸ hz);lia
  exists ·,·,λi ρ M'=>∃d O sp',ρ=[some (.code S),some (.lst (kn.map oD)),some (.nst (BP sp)),some (wD w),some (.int ((sp'.1:Nat):Int)),some d,O]/\M=M'/\itOf d=some sp'.2/\wt kn S sp (w.take i)=some sp',λ_ _ _ _ _=>trivial,{_,_,sp,W,W,W,W},?_,?_
  .rintro i x ρ _ hi hx ⟨d,O,sp',rfl,rfl,ed,hw⟩;let{Z,rfl}:=S5 hx;let{g',hp}:=Yv hw g;rw[Ga]at hp;let{w1,w2}:=Zpc Z hw;exists ·,·,·,·,·,S,d,kn,sp'.1,sp'.2,w[i],W,ed,{(),g'.1,hn},λe=>?_,λB e=>?_
   .show{·,·,Aa (.inl (kN (w2 e)))}
   .show{·,·,AZ {_,W,_,W,.inl {_,_,(sp'.1+1,B),W,W,oQ B,?_}}};rw[w1,e];rfl
  .rintro ρ _ ⟨d,O,sp',rfl,rfl,ed,hw⟩;rw[show El _ w=w from by rw[show(List.map D.int w).length=w.length from G];show Gc]at hw;show{_,W,_,W,(show 2<=Cb by decide),BP sp',?_,.inl (kS sp' hw)};show(match niOf (.int _),EE [d]with|some k,some ks=>some (k::ks)|_,_=>none)=_;let:EE [d]=some [.t sp'.2]:=by
    show(match niOf d,some []with|some k,some ks=>some (k::ks)|_,_=>none)=_;rw[Zrt ed]
   rw[this];rfl
theorem pB(T:Txt mg)(U2:Aq P w K mg dC "word_taken" 3 q19 (AH {C,K} dWordT))(a3:CY P w K mg dC C "word" 1 q23 (AH {C,K} dWord))(a1:CY P w K mg dC C "signs" 1 q25 (AH {C,K} dCSigns))(F:AY K "steps_at" "steps_at" Rh f fd):AK P w K mg dC A7 5 f fd q20 (AH {C,K} dStepsAt):=by
 show L3.AY.ok3 F cY (λds M K3 h=>?_) (λcdv A dD s H E J=>?_)
 .let⟨S1,S,kn,sp,rfl,_⟩:=h;rfl
 .let SC:=cY;let hu:=J.units;let a5:=Xf J;let a4:AG 3 _:=J.mono nofun;let a2:AG 1 _:=J.mono nofun;let a0:AG 1 _:=J.mono nofun;show{_,_,(Zb (Ul (i:=4) SC.nd W W (T:=["sign"]) (cs:=[1,2,3,0]) W (CScope.ok {}) (Ye (HP #[0] a1 a0)) (λ_ _ _ _=>#[0,0]) (λ_ _ _ _=>Y5) (λ_ _ _ _=>(Y1 (Za #[0] (Za (Zv U2 a4 W (Za #[1] (Za #[2] (Za #[3] (Za (HB #[4] a3 a2 (Za #[0] Zc)) Zc))))) Zc)))) (Xb nofun))
 (Ze (Zx (Yw (T:=q16) (cs:=[]) W (CScope.ok {}) (Ye #[4]) (λ_ _ _ _=>(Wj (n:=2) W (Zy #[0,0] (Zy #[1,0] Xk)) {})) (λ_ _ _ _=>(Vb (Wy (IT #[1])))) (λ_ _ _ _=>(Y1 (Za #[0] (Za #[1] Zc)))) (Uy (Yf nofun (Yf nofun W1))))))),λ_=>(Zs (Xh (Ww (BV (Q1 (λ_ _ _ _ _=>rfl) (Zt 0) Y3)) (Ak 0) V6 (GW (Z9 (Zt 0) (Z9 (GI (Z9 (Zt 1) (Z9 (Zt 2) (Z9 (Zt 3) (Z9 (Q1 (λ_ _ _ _ _=>rfl) (Zt 4) (by symm)) Y3))))) Y3)))) (Ak 4)) (by symm)),λds M Kk hM hD h=>?_}
  let{S1,S,kn,sp,rfl,h}:=h;let{{g,fr,fi,hn},k}:=h;exists ·,{S1,W},S1,W,fi.1,λns pm pw=>?_;let pn:=Y0 S1;obtain rfl:=wK pm pw;generalize hP:Yh S1=P at *
  let lP:P.length<64:=by rw[pn.length_eq];show fi.1
  let' G:Pr->D:=λp=>match wt kn S sp p.2 with|none=>.non|some q=>.nst (BP q)
  let lm:((P.map (·.1)).map D.int).length=P.length:=by rw[Ja,Ja]
  exists _,Qp,?_,λi ys M'=>M'=M++[.lst ((P.map (·.1)).map .int)]/\ys=(P.take i).map λp=>D.tup [.int p.1,G p],λ_ _ _ _ z=>by rw[z.1];show Qp,{W,W},?_,?_
  .show((P.map (·.1)).map D.int).length<=Cb;rw[lm];show Zn ()
  .rintro i x ys _ hi hx ⟨rfl,rfl⟩;let{B,rfl}:=S5 hx;let hi2:i<P.length:=by rwa [Ja]at B
   let Z:P[i]∈S1:=pn.mem_iff.mp (Jv hi2);rw[Bc];let fin:∀d,d=G P[i]->(M++[MO.lst ((P.map (·.1)).map .int)]=M++[MO.lst ((P.map (·.1)).map .int)])/\(P.take i).map (λp=>D.tup [.int p.1,G p])++[D.tup [.int P[i].1,d]]=(P.take (i+1)).map λp=>D.tup [.int p.1,G p]:=λd e=>by
    subst e;rw[Jh hi2,Ji];show{W,W}
   show{_,W,_,W,_,W,_,W,_,W,{S1,W},_,W,S1,P[i].1,W,λp hp e=>?_,λY=>D0 W (Y _ Z)};let ep:p=P[i]:=by
    let:=Wk fr hp;rw[e,Wk fr Z]at this;show(BG this).symm
   subst ep;exists S,kn,sp,P[i].2,W,{g,(fi.2 _ Z).2,hn},λe=>{(show 2<=Cb by decide),fin _ (by show _=(match wt kn S sp P[i].2 with|none=>D.non|some q=>.nst (BP q));rw[e])},λq e=>{(show 2<=Cb by decide),fin _ (by show _=(match wt kn S sp P[i].2 with|none=>D.non|some q=>.nst (BP q));rw[e])}
  rintro ys _ ⟨rfl,rfl⟩;rw[show El _ P=P from by rw[show((P.map (·.1)).map D.int).length=P.length from lm];show Gc];exists ·,·,?_,λi ys M'=>M'=M++[.lst ((P.map (·.1)).map .int)]/\ys=(Af kn S (P.take i) sp).map Au,λ_ _ _ _ _=>rfl,{W,W},?_,?_
  .show(P.map _).length<=Cb;rw[Ja];show Zn ()
  .rintro i x ys _ hi hx ⟨rfl,rfl⟩;let{B,rfl}:=Z7 hx;show{_,W,W,_,_,W,_,_,W,W,_,W,_,W,?_};let O:Af kn S (P.take (i+1)) sp=Af kn S (P.take i) sp++((wt kn S sp P[i].2).map λq=>(P[i].1,q)).toList:=by
    unfold Af;rw[Jh B,List.filterMap_append,Hq,List.filterMap_nil];cases wt kn S sp P[i].2<;>rfl
   show if(!(G P[i]).isN)=true then _ else _;cases e:wt kn S sp P[i].2 with
   |none =>
    rw[show(!(G P[i]).isN)=false from by show(!(match wt kn S sp P[i].2 with|none=>D.non|some q=>.nst (BP q)).isN)=_;rw[e];rfl];show AZ {rfl,?_};rw[O,e];show congrArg _ (Jx _).symm
   |some q =>
    rw[show(!(G P[i]).isN)=true from by show(!(match wt kn S sp P[i].2 with|none=>D.non|some q=>.nst (BP q)).isN)=_;rw[e];rfl];show Aa {_,rfl,_,rfl,(show 2<=Cb by decide),rfl,?_};rw[O,e,Ji];show _++[D.tup [.int P[i].1,(match wt kn S sp P[i].2 with|none=>D.non|some q=>.nst (BP q))]]=_;rw[e];rfl
  rintro ys _ ⟨rfl,rfl⟩;rw[show El _ P=P from by rw[Ja];show Gc];show Sc (Gj _ _) hM XZ k
open L3
def RcS(kn:List (Option Int))(S P:List Pr)(sp:AM):Prop:=∃U:List Pr,(∀p∈U,p∈P)/\wt kn S (0,[]) (Zu U)=some sp
def RcS.good{P:List Pr}{sp:AM}(h:RcS kn S P sp):Xs kn S sp:=let{_,_,e}:=h;(Yv e T6).1
def row_app(U V:List Pr):Zu (U++V)=Zu U++Zu V:=by unfold Zu;rw[Ji,List.flatten_append]
def RcS.step{P:List Pr}{sp:AM}(h:RcS kn S P sp){x:Int×AM}(hx:x∈Af kn S P sp):RcS kn S P x.2:=by
 let{U,J,e}:=h;let{p,G,_,e2}:=LX (s:=x.1) (q:=x.2) hx;exists U++[p],λq B=>(Jw.mp B).elim (J q) λz=>by rw[Jj.mp z];show G,?_;rw[row_app,Qu,e];show wt kn S sp (p.2++[])=_;rwa[Jx]
structure AllSt(kn:List (Option Int))(S P:List Pr)(ks ws:List AM):Prop where
 nd:ks.Nodup
 st:(0,[])∈ks\/(0,[])∈ws
 cl:∀sp∈ks,∀x∈Af kn S P sp,x.2∈ks\/x.2∈ws
 rk:∀sp∈ks,RcS kn S P sp
 rw:∀sp∈ws,RcS kn S P sp
 len:ws.length<=64*ks.length+1
section
variable{P:List Pr}{ks ws:List AM}{sp:AM}
theorem AllSt.old(h:AllSt kn S P ks (ws++[sp]))(hs:sp∈ks):AllSt kn S P ks ws:=by
 let out:∀x,x∈ks\/x∈ws++[sp]->x∈ks\/x∈ws:=λx hx=>hx.elim .inl λz=>(Jw.mp z).elim .inr λz=>.inl (by rwa[Jj.mp z]);exists h.nd,out _ h.st,λq B x hx=>out _ (h.cl q B x hx),h.rk,λq B=>h.rw q (Gs _ B),?_;let:=h.len;rw[Jc]at this;lia
theorem AllSt.new(h:AllSt kn S P ks (ws++[sp]))(hs:sp∉ks)(Y:P.length<64):AllSt kn S P (ks++[sp]) (ws++(Af kn S P sp).map (·.2)):=by
 let G:=h.rw sp (Jr _ Je);let out:∀x,x∈ks\/x∈ws++[sp]->x∈ks++[sp]\/x∈ws++(Af kn S P sp).map (·.2):=λx hx=>hx.elim (λz=>.inl (Gs _ z)) λz=>(Jw.mp z).elim (λz=>.inr (Gs _ z)) λz=>.inl (Jr _ z);exists ?_,out _ h.st,λq B x hx=>?_,λq B=>?_,λq B=>?_,?_
 .rw[Bn];exists h.nd,Fd _ _,λa O b J e=>hs (by rw[<-Jj.mp J,<-e];show O)
 .rcases Jw.mp B with z|z
  .show out _ (h.cl q z x hx)
  .rw[Jj.mp z]at hx;show .inr (Jr _ (Bi hx))
 .rcases Jw.mp B with z|z
  .show h.rk q z
  .rw[Jj.mp z];show G
 .rcases Jw.mp B with z|z
  .show h.rw q (Gs _ z)
  .let⟨x,hx,rfl⟩:=Jq.mp z;show G.step hx
 .let h1:=h.len;let h2:(Af kn S P sp).length<=P.length:=Fa _ _;rw[Jc]at h1;rw[Jc,Jc,Ja];let:[sp].length=1:=rfl;lia
end
theorem pA(T:Txt mg)(Yd:mg "FIRST_SPOT"=some (.ref Z0))(dI:Aj K (λ_=>none) [.k 0,.t []] Z0)(Ry:Aq P w K mg dC "steps_at" 5 q20 (AH {C,K} dStepsAt))(F:AY K "all_steps" "all_steps" Ts f fd):AK P w K mg dC A7 6 f fd q26 (AH {C,K} dAllSt):=by
 show L3.AY.ok3 F WY (λds M K3 h=>?_) (λcdv A dD s H E G=>?_)
 .let⟨S1,S,kn,rfl,_⟩:=h;rfl
 .let Z:=WY;let hu:=G.units;let a0:=Xf G;let Y:AG 5 _:=G.mono nofun;show{_,_,(Zb (Zp (i:=3) Z.nd W (Ci W) Qk)
 (Zb (Zp (i:=4) Z.nd W (Ci W) (Yk (Za (Vv (v:=.ref Z0) W Yd W) Zc)))
 (Zb (Sx Cp (Zz Qd (Zm (Yi (K:=K) W) {} T.b_len BI (Za #[4] Zc)) Zd (Z6 _))
 (Zb (Zp (i:=5) Z.nd W (Ci W) (O3 Ct PySem.F.slot_list_pop PySem.F.type_list_pop zS #[4]))
 (Ze (Yz (Wy (Zi8 (K:=K) W (Tr G) #[5] #[3]))
 (Zb (LK (K:=K) W (Tr G) #[3] #[5] (Zv Ry Y W (Za #[0] (Za #[1] (Za #[2] (Za #[5] Zc))))) W)
 (Ze (Wn (P6 Ct Es Hl Q9 #[4] (Za (Yw (T:=q16) (cs:=[]) W (CScope.ok {}) (Ye (Tw (K:=K) W (Tr G) #[3] #[5] {})) (λ_ _ _ _=>(Wj (n:=2) W (Zy #[0,0] (Zy #[1,0] Xk)) {})) (λ_ _ _ _=>Y5) (λ_ _ _ _=>#[1]) (Uy (Yf nofun (Yf nofun W1)))) Zc)))))
 Z1))))
 (Ze (Zx #[3]))))),λ_=>(Zs (Xh (Ir (sh:=[0,1])) (Ak 3)) (Zs (Xh (Tl (Z9 (II dI) Y3)) (Ak 4)) (Zs (N9 (by symm) (Zs (Xh (zU (Zt 4)) (Ak 5)) (Vu (s_b (iK (Zt 5) (Zt 3))) (Zs (ML (Zt 3) (Zt 5) (by symm)) (R9 (JK (Zt 4) (Z9 (Ww (BV (Q0 (Zt 3) (Zt 5))) (by symm) V6 (Zt 1)) Y3)))) Wg))) (Xv (Zt 3))))),λds M Kk hM hD h=>?_}
  let{S1,S,kn,rfl,h}:=h;let{{fr1,J,fi,hn},k}:=h;exists(show 1<=Cb by decide),?_;let el:(M++[MO.dcN [0,1] none []]).length=M.length+1:=by rw[Jc];rfl
  rw[el,Jf];generalize hP:Yh S1=P at k;let lP:P.length<64:=by rw[<-hP,(Y0 S1).length_eq];show J.1
  let few:∀{ks ws:List AM},AllSt kn S P ks ws->ks.length<=51000:=λh=>PV fi hn h.nd λsp hs=>(h.rk sp hs).good;show{λm ρ M'=>∃ks ws v5,ρ=[some (.code S1),some (.code S),some (.lst (kn.map oD)),some (.cell M.length),some (.cell (M.length+1)),v5]/\M'=M++[.dcN [0,1] none (Al (Am kn S P) ks),.lst (ws.map λsp=>.nst (BP sp))]/\AllSt kn S P ks ws/\m=(51000-ks.length)*64+ws.length,
   {_,[],[(0,[])],_,W,W,{Fk,.inr Je,(λ_ h=>nomatch h),(λ_ h=>nomatch h),λsp hs=>by rw[Jj.mp hs];show{[],(λ_ h=>nomatch h),W},nofun},W},?_}
  rintro m ρ _ ⟨ks,ws,v5,rfl,rfl,as,rfl⟩;show{·,_,(X4 (Xo two1)).2.2,_,·,W,·,?_};rcases List.eq_nil_or_concat ws with rfl|⟨ws,sp,rfl⟩
  .show AZ {_,W,.inr {M.length+1,Bg _,N2 (B1 _),?_,?_}}
   .rw[show(M++[MO.dcN [0,1] none (Al (Am kn S P) ks),MO.lst ([].map λsp=>D.nst (BP sp))]).take (M.length+1)=M++[MO.dcN [0,1] none (Al (Am kn S P) ks)]from by rw[List.take_append,Gx ()];simp];intro m hm;rcases Jw.mp hm with z|z
    .show(hM m z).up (Bg _)
    .rw[Jj.mp z];show MB λd hd=>?_;let{sp,_,rfl}:=Jq.mp hd;show XZ
   .rw[show(M++[MO.dcN [0,1] none (Al (Am kn S P) ks),MO.lst ([].map λsp=>D.nst (BP sp))]).take (M.length+1)=M++[MO.dcN [0,1] none (Al (Am kn S P) ks)]from by rw[List.take_append,Gx ()];simp];show k ks {as.nd,λsp hs=>(as.rk sp hs).good,as.st.resolve_right (λz=>nomatch z),λsp hs x hx=>(as.cl sp hs x hx).resolve_right (λz=>nomatch z),as.rk}
  rw[List.concat_eq_append]at as⊢;let lw:((ws++[sp]).map λsp=>D.nst (BP sp)).length=ws.length+1:=by rw[Ja,Jc];rfl
  rw[Ab (by rw[lw];lia)];show Aa {_,W,M.length+1,_,_,W,W,two1,by rw[lw,Ji,Nat.add_sub_cancel,J0 (by rw[Ja];show Jk _),Ja,Bz];rfl,?_};rw[XI,show((ws++[sp]).map λsp=>D.nst (BP sp)).dropLast=ws.map λsp=>D.nst (BP sp)from by rw[Ji];show List.dropLast_concat];let dc:∀(ks:List AM)(m:MO),W7 (M++[.dcN [0,1] none (Al (Am kn S P) ks),m]) (.cell M.length)=some ([0,1],Al (Am kn S P) ks):=λks m=>by simp only[W7,two0]
  show{·,·,_,{_,_,_,dc _ _,W,W,W},·,?_};let B:(ws++[sp]).length=ws.length+1:=by rw[Jc];rfl
  by_cases hs:sp∈ks
  .rw[Ve hs];show AZ {_,by rw[B];show B1 _,.inl {ks,ws,_,W,W,as.old hs,W}}
  rw[WJ hs];let rs:=as.rw sp (Jr _ Je);show Aa {_,W,_,W,_,W,_,W,S1,S,kn,sp,W,{rs.good,fr1,J,hn},_,W,_,W,M.length,_,_,_,W,two0,W,W,?_,?_}
  .rw[Ro];show Gr (few as) nofun
  let an:=as.new hs lP;let ln:=few an;rw[nL,hP,Il hs];show{·,Wo (Xo two1),?_};show{·,·,Am kn S P sp,{_,_,_,dc _ _,W,W,(Ve (Jr _ Je)).symm},?_};let l2:(Af kn S P sp).length<=P.length:=Fa _ _;let lm:((Af kn S P sp).map Au).length=(Af kn S P sp).length:=Ja _;exists ·,?_,λi ys M'=>M'=M++[.dcN [0,1] none (Al (Am kn S P) (ks++[sp])),.lst (ws.map λsp=>.nst (BP sp))]/\ys=((Af kn S P sp).take i).map λx=>D.nst (BP x.2),λ_ _ _ _ _=>rfl,{W,W},?_,?_
  .show((Af kn S P sp).map Au).length<=Cb;rw[lm];show Zn ()
  .rintro i x ys _ hi hx ⟨rfl,rfl⟩;let{O,rfl}:=Z7 hx;show{·,W,_,·,_,·,W,·,W,?_};rw[Jh O,Ji];rfl
  rintro ys _ ⟨rfl,rfl⟩;rw[show El _ (Af kn S P sp)=Af kn S P sp from by rw[show((Af kn S P sp).map Au).length=(Af kn S P sp).length from lm];show Gc];let l3:=as.len;show{M.length+1,_,_,·,W,two1,W,?_,?_}
  .rw[Ja,Ja];show Js (show _<=64*51000+100 from ?_) nofun;let:=few as;rw[B]at l3;lia
  .rw[XI];exists(51000-(ks++[sp]).length)*64+(ws++(Af kn S P sp).map (·.2)).length,?_,.inl {ks++[sp],ws++(Af kn S P sp).map (·.2),_,W,?_,an,W}
   .let:(ks++[sp]).length=ks.length+1:=by rw[Jc];rfl
    rw[this]at ln⊢;rw[B,Jc,Ja];lia
   .rw[Ji,Jy];rfl
open L3
def EK(sp:AM):List Int:=(sp.1:Int)::sp.2
def iU(f:AM->D)(ks:List AM):(Al f ks).map (λq=>encP q.1)=ks.map EK:=by
 unfold Al;rw[Jy];rfl
theorem QB(f:τ->Nat):∀xs:List τ,((xs.map f).sum:Int)=(xs.map λx=>((f x:Nat):Int)).sum
 |[]=>rfl
 |x::xs=>by
  rw[Jm,B6,Jm,B6,Db,QB f xs]
theorem nW{B:List AM}(pw:B.Pairwise λa b=>HT.lexLt (EK b) (EK a)=true){i:Nat}(hi:i<B.length){q:AM}(G:q∈B)(l:B[i].1<q.1):q∈B.take i:=by
 let{j,J,rfl}:=Ge G
 by_cases z:j<i
 .show List.mem_take_iff_getElem.mpr {j,(),W}
 .let:i≠j:=λe=>by subst e;lia
  let h:=Gy.mp pw i j hi J ();unfold EK at h;rw[HT.lexLt_cons,D8 ()]at h;let:=Dz h;lia
theorem lE(T:Txt mg)(F:AY K "counts_behind" "counts_behind" Wv f fd):AK P w K mg dC A7 1 f fd ["steps","size"] (AH {C,K} dCountsB):=by
 show L3.AY.ok3 F PX (λds M K3 h=>?_) (λcdv A dD s H E J=>?_)
 .let⟨c,y,S,P,kn,ks,n,rfl,_⟩:=h;rfl
 .let SC:=PX;let hu:=J.units;let a1:=Xf J;show{_,_,(Zb (Zp (i:=2) SC.nd W (C4 W) Qk)
 (Zb (X2 Cp W (Ye (zT (K:=K) W W (Tr J) W T.b_sorted (Za #[0] Zc) (tH Tx Zvk))) (Zo (i:=3) SC.nd W (Ci W))
 (Ze (LK (K:=K) W (Tr J) #[2] #[3] (Td (Zz (Uc (K':=K) W hu) (Z4 (Z5 (K':=K) W) #[3] Zd {}) #[1] (Z6 _)) Zd (Zm (lB (K':=K) W W) {} T.b_sum PyProof.Rows.boot_sum (Za (Yw (T:=q16) (cs:=[2]) W (CScope.ok {}) (Ye (Tw (K:=K) W (Tr J) #[0] #[3] {})) (λ_ _ _ _=>(Wj (n:=2) W (Zy #[0,0] (Zy #[1,0] Xk)) {})) (λ_ _ _ _=>Y5) (λ_ _ _ _=>(Tw (K:=K) W (Tr J) #[2] #[1] {})) (Uy (Yf nofun (Yf nofun W1)))) Zc))) W)))
 (Ze (Zx #[2])))),λ_=>(Zs (Xh (Ir (sh:=[0,1])) (Ak 2)) (Zs (Sq (BV (vO (by symm))) (Ak 3) (ML (Zt 2) (Zt 3) (s_if (So (BE s_eq (BE GL (Zt 3) Vk) (Zt 1))) Vk (Ah sU (Z9 (Ww (BV (Q0 (Zt 0) (Zt 3))) (by symm) V6 (Q0 (Zt 2) (Zt 1))) Y3))))) (Xv (Zt 2)))),λds M Kk hM hD h=>?_}
  let{c,y,S,P,kn,ks,n,rfl,h}:=h;let{hc,{nd,gd,cl,ne,lP,lk,hn},k}:=h;let dc:∀m:MO,W7 (M++[m]) (.cell c)=some ([0,1],Al (Am kn S P) ks):=λm=>by simp only[W7,Xl hc]
  let dn:∀B:List AM,W7 (M++[.dcN [0,1] none (Al (BY kn S P) B)]) (.cell M.length)=some ([0,1],Al (BY kn S P) B):=λB=>by simp only[W7,Yl]
  exists ·,_,·,dc _,by rw[Ro];lia,λws pm pw=>?_;rw[iU]at pm;let{B,O,rfl}:=L2.S0 pm W;let pw:B.Pairwise λa b=>HT.lexLt (EK b) (EK a)=true:=(Jz.mp pw).imp λh=>by simpa using h
  let lb:B.length=ks.length:=O.length_eq;rw[show(B.map EK).map (λw=>D.nst (decP w))=B.map λsp=>D.nst (BP sp)from by rw[Jy];rfl];let lm:(B.map λsp=>D.nst (BP sp)).length=B.length:=Ja _;exists ·,λi ρ M'=>∃v3,ρ=[some (.cell c),some (.int n),some (.cell M.length),v3]/\M'=M++[.dcN [0,1] none (Al (BY kn S P) (B.take i))],λ_ _ _ _ _=>rfl,{_,W,W},?_,?_
  .rintro i x ρ _ hi hx ⟨v3,rfl,rfl⟩;let{G,rfl}:=Z7 hx;let hs:B[i]∈ks:=O.mem_iff.mp (Jv G);let a2:=hn (λz=>by rw[z]at hs;cases hs);let g:=gd _ hs;let Y:B[i]∉B.take i:=λz=>by
    let{j,hj,e}:=List.mem_take_iff_getElem.mp z;let:=(Bf (O.nodup_iff.mpr nd)).mp e;lia
   let lt:(Al (BY kn S P) (B.take i)).length<Cb:=by
    rw[Ro];show Gr (Js (List.length_take_le _ _) (by lia:_<=51000)) nofun
   show{·,_,_,·,W,W,·,Wp X5 (a:=(B[i].1:Int)) (b:=n) {_,W,?_}}
   by_cases he:(B[i].1:Int)=n
   .rw[Ab he];show Aa {_,W,_,W,M.length,_,_,_,W,Yl,W,W,lt,.inl {_,W,?_}};rw[Xj,show D.int 1=BY kn S P B[i]from by unfold BY;rw[OK ()];rfl,Il Y,List.take_succ_eq_append_getElem G]
   rw[BB he];let l2:(Af kn S P B[i]).length<=P.length:=Fa _ _;let Z:((Af kn S P B[i]).map Au).length=(Af kn S P B[i]).length:=Ja _;show AZ {_,W,_,W,Am kn S P B[i],{_,_,_,dc _,W,W,(Ve hs).symm},_,W,?_,λj ys M'=>M'=M++[.dcN [0,1] none (Al (BY kn S P) (B.take i))]/\ys=(((Af kn S P B[i]).take j).map λx=>((BC kn S P x.2:Nat):Int)).map .int,λ_ _ _ _ _=>rfl,{W,W},?_,?_}
   .show((Af kn S P B[i]).map Au).length<=Cb;rw[Z];show Zn ()
   .rintro j x ys _ hj hx ⟨rfl,rfl⟩;let{a0,rfl}:=Z7 hx;let hm:=Jv a0;let up:=(OB ne g hm).2;let ha:=nW pw G (O.mem_iff.mpr (cl _ hs _ hm)) up;show{·,W,_,·,_,·,W,·,·,_,{_,_,_,dn _,W,W,(Ve ha).symm},W,?_};rw[Jh a0,Ji,Ji];rfl
   rintro ys _ ⟨rfl,rfl⟩;rw[show El _ (Af kn S P B[i])=Af kn S P B[i]from by rw[show((Af kn S P B[i]).map Au).length=(Af kn S P B[i]).length from Z];show Gc];show{_,·,W,?_};show{·,·,M.length,_,_,·,Yl,W,W,lt,.inl {_,W,?_}};rw[<-QB,<-JZ ne g (by have:=g.2.1;lia),Xj];show M++[MO.dcN [0,1] none (DS _ (BP B[i]) (BY kn S P B[i]))]=_;rw[Il Y,Jh G]
  .rintro ρ _ ⟨v3,rfl,rfl⟩;rw[show El _ B=B from by rw[show(B.map λsp=>D.nst (BP sp)).length=B.length from lm];show Gc];show{·,.inl (k B O)}
open L3
section
variable{N:AC}{a b c:MO}{n:Nat}
def tri0(h:N.length=n):(N++[a,b,c])[n]?=some a:=by rw[<-h,J0 (Jk _),Bz];rfl
theorem tri1(h:N.length=n):(N++[a,b,c])[n+1]?=some b:=by rw[<-h,J0 (),show N.length+1-N.length=1 by lia];rfl
theorem tri2(h:N.length=n):(N++[a,b,c])[n+2]?=some c:=by rw[<-h,J0 (),show N.length+2-N.length=2 by lia];rfl
def kQ(h:N.length=n):(N++[a,b,c]).set n m=N++[m,b,c]:=by rw[<-h,Bv _ _ (Jk _),Bz];rfl
theorem rN(h:N.length=n):(N++[a,b,c]).set (n+2) m=N++[a,b,m]:=by rw[<-h,Bv _ _ (),show N.length+2-N.length=2 by lia];rfl
end
theorem VZ(cl:CQ K XL)(n1:Y2 K XL "size")(n2:Y2 K XL "behind")(n3:Y2 K XL "steps"){x:Nat}{P:List Pr}{d dk:D}{E:List (Option Int)}{ks:List AM}{n:Int}{Kk:K3}{v6:Option D}(hx:M[x]?=some (.ins XL []))(a3:A6 S1)(fi:A6 S)(hP:Yh S1=P)(hc:(dk=.non/\n=0/\ks=[]/\Ae S E=none)\/(dk=.lst (kn.map oD)/\n=kn.length/\Ae S E=some kn/\KeysOk kn S P ks/\kn.length<=200))(k:∀B,(∃o J,B=M.set x o++J)->LvAt XL B x S1 S E->Kk D.non B) :
  uSeq (Iw K "size" (Ao 0) (uIf (uB3 (uIsN (Ao 4))) (uC (D.int 0)) (uCB len3 (N6 (Ao 4) uNil))))
   (uSeq (Iw K "behind" (Ao 0) (NS dCountsB (N6 (Ao 5) (N6 (HW K "size" (Ao 0)) uNil))))
    (uSeq (Iw K "steps" (Ao 0) (ZE [0,1]))
     (uFor (uIDN (Ao 5)) (uG 6) (ZX (HW K "steps" (Ao 0)) (Ao 6) (UH (uIL (LA (Ao 5) (Ao 6))) (uGTup 2 (uGCons (uG 0) (uGCons (uG 1) UZ)))
      (uB3 (uOp (CH λi j=>D.bl (decide (j<i))) (LA (HW K "behind" (Ao 2)) (Ao 1)) (uC (D.int 0)))) (uTup (N6 (Ao 0) (N6 (Ao 1) uNil))) q16 [0])))))
   {nx:=λ_ B=>Dk n0 Kk D.non B,rt:=Dk n0 Kk} [some (.cell x),some (.code S1),some (.code S),some d,some dk,some (.cell M.length),v6] (M++[.dcN [0,1] none (Al (Am kn S P) ks)]):=by
 let hl:=(Jd.mp hx).1;let a9:M.length≠x:=by lia
 let lP:P.length<64:=by rw[<-hP,(Y0 S1).length_eq];show a3.1
 let a1:CU P:=λp hp=>(a3.2 p (by rw[<-hP]at hp;show(Y0 S1).mem_iff.mp hp)).1;let O:ks.Nodup/\(∀sp∈ks,Xs kn S sp)/\(∀sp∈ks,∀y∈Af kn S P sp,y.2∈ks)/\CU P/\P.length<64/\ks.length<=51000/\(ks≠[]->n=kn.length):=by
  rcases hc with⟨_,_,rfl,_⟩|⟨_,e,_,ko,lk⟩
  .exists Fk,(λ_ h=>nomatch h),(λ_ h=>nomatch h),a1,lP,J9 _,λh=>D0 W h
  .exists ko.nd,ko.gd,ko.cl,a1,lP,PV fi lk ko.nd ko.gd,λ_=>e
 let Y:∀{o:MO}{J:AC},(M.set x o++J)[x]?=some o:=by intro o J;rw[Jo (by rwa[Gz]),Gw hl]
 let a5:∀{o:MO}{J J':AC},(M.set x o++J++J')[x]?=some o:=by intro o J J';rw[Jf];show Y
 let sx:∀{o o':MO}{J:AC},(M.set x o++J).set x o'=M.set x o'++J:=by intro o o' J;rw[List.set_append_left _ _ (by rwa[Gz]),Dn]
 let ln:∀{o:MO},(M.set x o).length=M.length:=by intro o;show Gz
 generalize hA:MO.dcN [0,1] none (Al (Am kn S P) ks)=A0;let e0:M++[A0]=M.set x (.ins XL [])++[A0]:=by let{h1,h2}:=Jd.mp hx;rw[<-h2,List.set_getElem_self]
 rw[e0];let sz:∀{K':K3},K' (.int n) (M.set x (.ins XL [])++[A0])->uIf (uB3 (uIsN (Ao 4))) (uC (D.int 0)) (uCB len3 (N6 (Ao 4) uNil)) [some (.cell x),some (.code S1),some (.code S),some d,some dk,some (.cell M.length),v6] (M.set x (.ins XL [])++[A0]) K':=by
  intro K' hk;rcases hc with⟨rfl,rfl,_,_⟩|⟨rfl,rfl,_,_,_⟩
  .show{·,·,Aa hk}
  .show{·,·,AZ {_,W,_,W,?_}};rwa[Ja]
 show sz {_,W,x,XL,[],W,Y,cl,n1,(show 0<1000 by decide),?_};rw[sx];exists ·,·,x,XL,_,·,Y,cl,n1,W,M.length,none,S,P,kn,ks,n,W,?_,O,λkb pk=>?_
 .rw[<-hA];let:=Yl (M:=M.set x (.ins XL (P5 "size" (.int n) []))) (m:=MO.dcN [0,1] none (Al (Am kn S P) ks));rwa [ln]at this
 generalize hB:MO.dcN [0,1] none (Al (BY kn S P) kb)=B0;rw[Jf];show{·,x,XL,·,Y,cl,n2,(show 1<1000 by decide),?_};rw[sx];show{·,x,XL,·,a5,cl,n3,(show 2<1000 by decide),?_};rw[Jf,sx];let l1:(M.set x (.ins XL (P5 "size" (.int n) []))++[A0]).length=M.length+1:=by rw[Jc,ln];rfl
 let l2:∀fs,(M.set x (.ins XL fs)++([A0]++[B0])).length=M.length+2:=λfs=>by rw[Jc,ln];rfl
 rw[l2,l1];generalize hN:M.set x (.ins XL (P5 "steps" (D.cell (M.length+2)) (P5 "behind" (D.cell (M.length+1)) (P5 "size" (D.int n) []))))=N0;let Y:∀{J:AC},(N0++J)[x]?=some (.ins XL [("size",.int n),("behind",.cell (M.length+1)),("steps",.cell (M.length+2))]):=by intro J;rw[<-hN];show Y
 let G:N0.length=M.length:=by rw[<-hN];show ln
 rw[show [A0]++[B0]++[MO.dcN [0,1] none []]=[A0,B0,MO.dcN [0,1] none []]from W];exists ·,M.length,[0,1],none,·,by rw[<-hA];show tri0 G,λz=>?_;rw[kQ G];let a7:∀{b c:MO},W7 (N0++[MO.dcN [0,1] (some z) (Al (Am kn S P) ks),b,c]) (.cell M.length)=some ([0,1],Al (Am kn S P) ks):=by intro b c;simp only[W7,tri0 G]
 let a6:∀{a c:MO},W7 (N0++[a,B0,c]) (.cell (M.length+1))=some ([0,1],Al (BY kn S P) kb):=by intro a c;simp only[W7,tri1 G,<-hB]
 exists λi ρ B=>∃v6,ρ=[some (.cell x),some (.code S1),some (.code S),some d,some dk,some (.cell M.length),v6]/\B=N0++[.dcN [0,1] (some z) (Al (Am kn S P) ks),B0,.dcN [0,1] none (Al (stL3 kn S P) (ks.take i))],λi ρ B _⟨_,_,e⟩=>by rw[e];show tri0 G,{_,W,W},?_,?_
 .rintro i y ρ _ hi hy ⟨v6,rfl,rfl⟩;let{kv,e,rfl}:=hy;let a0:i<ks.length:=by
   let:i<(Al (Am kn S P) ks).length:=hi;rwa [Ro]at this
  unfold Al at e;rw[Gi,Jb a0]at e;cases e;let hs:=Jv a0;let a8:(Af kn S P ks[i]).length<=P.length:=Fa _ _;let a2:((Af kn S P ks[i]).map Au).length=(Af kn S P ks[i]).length:=Ja _;let a4:ks[i]∉ks.take i:=λz=>by
   let{j,hj,e}:=List.mem_take_iff_getElem.mp z;let:=(Bf O.1).mp e;lia
  exists ·,·,Am kn S P ks[i],{_,_,_,a7,W,W,(Ve hs).symm},·,?_,λj ys B=>B=N0++[.dcN [0,1] (some z) (Al (Am kn S P) ks),B0,.dcN [0,1] none (Al (stL3 kn S P) (ks.take i))]/\ys=(((Af kn S P ks[i]).take j).filter λy=>decide (0<BC kn S P y.2)).map Au,λ_ _ _ _ _=>rfl,{W,W},?_,?_
  .show((Af kn S P ks[i]).map Au).length<=Cb;rw[a2];show Zn ()
  .rintro j y ys _ hj hy ⟨rfl,rfl⟩;let{Z,rfl}:=Z7 hy;let hm:=Jv Z;let ha:(Af kn S P ks[i])[j].2∈kb:=pk.mem_iff.mpr (O.2.2.1 _ hs _ hm);show{·,W,_,·,_,·,W,?_};show{·,x,XL,_,·,Y,cl,n2,W,·,BY kn S P (Af kn S P ks[i])[j].2,{_,_,_,a6,W,W,(Ve ha).symm},_,·,W,·,?_};rw[show decide ((0:Int)<((BC kn S P (Af kn S P ks[i])[j].2:Nat):Int))=decide (0<BC kn S P (Af kn S P ks[i])[j].2)from decide_eq_decide.mpr ()];show A5 (λhl=>{_,W,_,W,(show 2<=Cb by decide),W,?_}) (λhl=>{W,?_})
   .show(Wl (λy:Int×AM=>decide (0<BC kn S P y.2)) Au Z true hl).symm
   .show((Wl (λy:Int×AM=>decide (0<BC kn S P y.2)) Au Z false (B4 _ ▸ hl)).trans (Jx _)).symm
  rintro ys _ ⟨rfl,rfl⟩;rw[show El _ (Af kn S P ks[i])=Af kn S P ks[i]from by rw[show((Af kn S P ks[i]).map Au).length=(Af kn S P ks[i]).length from a2];show Gc];show{·,x,XL,_,·,Y,cl,n3,W,·,M.length+2,_,_,·,tri2 G,W,W,?_,.inl {_,W,?_}}
  .rw[Ro];show Gr (Js (List.length_take_le _ _) (by have:=O.2.2.2.2.2.1;lia:_<=51000)) nofun
  .rw[rN G];show N0++[_,_,MO.dcN [0,1] none (DS _ (BP ks[i]) (stL3 kn S P ks[i]))]=_;rw[Il a4,Jh a0]
 .rintro ρ _ ⟨v6,rfl,rfl⟩;rw[show El _ ks=ks from by rw[show(nIt M.length [0,1] z (Al (Am kn S P) ks)).n=ks.length from Ro _ _];show Gc];show .inl (k _ {_,_,by rw[hN]} {M.length+1,M.length+2,n,kn,ks,kb,Y,by rw[hP,hB];show tri1 G,by rw[hP];show tri2 G,pk,?_});rcases hc with⟨_,e1,e2,e3⟩|⟨_,e1,e2,e3,_⟩
  .rw[e3];show{e1,e2}
  .rw[e2];show{W,e1,by rwa[hP]}
def fX(T:Txt mg)(cl:CQ K Zl)(n1:Y2 K Zl "size")(n2:Y2 K Zl "behind")(n3:Y2 K Zl "steps")(V4:Aq P w K mg dC "known_bytes" 2 q31 (AH {C,K} dKnown))(Sf:Aq P w K mg dC "all_steps" 6 q26 (AH {C,K} dAllSt))(W6:Aq P w K mg dC "counts_behind" 1 ["steps","size"] (AH {C,K} dCountsB))(F:AY K "__init__" "Leaving.__init__" X1 f fd):AK P w K mg dC A7 7 f fd q13 (AH {C,K} (dLeav Zl)):=by
 show L3.AY.ok3 F aV (λds M K3 h=>?_) (λcdv A dD s H E B=>?_)
 .let⟨x,S1,S,d,E,rfl,_⟩:=h;rfl
 .let Z:=aV;let hu:=B.units;let a0:=Xf B;let P9:AG 2 _:=B.mono nofun;let Y:AG 6 _:=B.mono nofun;let Qe:AG 1 _:=B.mono nofun;show{_,_,(Zb (Zp (i:=4) Z.nd W (Ci W) (Zv V4 P9 W (Za #[2] (Za #[3] Zc))))
 (Zb (Zp (i:=5) Z.nd W (Ci W) (Td (Wy (Um #[4])) Qk (Zv Sf Y W (Za #[1] (Za #[2] (Za #[4] Zc))))))
 (Zb (Qa #[0] (Td (Wy (Um #[4])) Zd (Zm (Yi (K:=K) W) {} T.b_len BI (Za #[4] Zc))) W)
 (Zb (Qa #[0] (Zv W6 Qe W (Za #[5] (Za (Wq #[0] W) Zc))) W)
 (Zb (Qa #[0] Qk W)
 (Ze (X2 Cp W (vG (K:=K) W #[5]) (Zo (i:=6) Z.nd W (Ci W))
 (Ze (LK (K:=K) W (Tr B) (Wq #[0] W) #[6] (Yw (T:=q16) (cs:=[0]) W (CScope.ok {}) (Ye (Tw (K:=K) W (Tr B) #[5] #[6] {})) (λ_ _ _ _=>(Wj (n:=2) W (Zy #[0,0] (Zy #[1,0] Xk)) {})) (λ_ _ _ _=>(Vb (Zz Qd (Tw (K:=K) W (Tr B) (Wq #[2] W) #[1] {}) Zd (Z6 _)))) (λ_ _ _ _=>(Y1 (Za #[0] (Za #[1] Zc)))) (Uy (Yf nofun (Yf nofun W1)))) W))))))))),λ_=>(Zs (Xh (pQ (by symm)) (Ak 4)) (Zs (Xh (s_if (by symm) (Ir (sh:=[0,1])) (by symm)) (Ak 5)) (Zs (R8 (Zt 0) (by symm)) (Zs (R8 (Zt 0) (GI (Z9 (Zt 5) (Z9 (V7 (Zt 0)) Y3)))) (Zs (R8 (Zt 0) (Ir (sh:=[0,1]))) (Sq (fT (Zt 5)) (Ak 6) (ML (V7 (Zt 0)) (Zt 6) (Ww (BV (Q0 (Zt 5) (Zt 6))) (by symm) (So (BE s_gt (Q0 (V7 (Zt 2)) (Zt 1)) Vk)) (by symm))))))))),λds M Kk hM hD h=>?_}
  let{x,S1,S,d,E,rfl,h}:=h;let{hx,hd,{fr1,G,fr,J,hE},k}:=h;exists ·,·,S,d,E,W,hd,{fr,J,hE},λO=>.inr ?_,λkn O=>.inl {_,_,W,by rw[Jc];rfl,Yl,W,?_,?_}
  .show{·,·,Aa ?_};show VZ (kn:=[]) (ks:=[]) (n:=0) cl n1 n2 n3 hx G J W (.inl {W,W,W,O}) k
  .intro m hm;rcases Jw.mp hm with z|z
   .show hM m z
   .rw[Jj.mp z];show FU (W4 (λ_=>NZ) kn)
  .let lk:kn.length<=200:=Js (GG J O) (Nat.mul_le_mul_left 4 hE);rw[Be];show{·,·,AZ {_,W,_,W,_,W,S1,S,kn,W,{fr1,G,J,lk},λks ko=>?_}};show VZ cl n1 n2 n3 hx G J W (.inr {W,W,O,ko,lk}) k
open L3
def Jcs(T:Txt mg)(cl:CQ K Zl)(n1:Y2 K Zl "size")(Z:Y2 K Zl "behind")(n3:Y2 K Zl "steps")(Yd:mg "FIRST_SPOT"=some (.ref Z0))(dI:Aj K (λ_=>none) [.k 0,.t []] Z0)(F:AY K "original_total" "Leaving.original_total" Y4 f fd):AK P w K mg dC A7 1 f fd q25 (AH {C,K} (dTotal Zl)):=by
 show L3.AY.ok3 F OX (λds M K3 h=>?_) (λcdv A dD s H E O=>?_)
 .let⟨x,S1,S,E,rfl,_⟩:=h;rfl
 .let SC:=OX;let hu:=O.units;let a1:=Xf O;exists _,_,(Ze (Zx (rM (K:=K) W (Tr O) (Wq #[0] W) (Vv (v:=.ref Z0) W Yd W) Zd {W,W,W,W}))),λ_=>(Xv (kT (V7 (Zt 0)) (II dI) Vk)),λds M Kk hM hD h=>?_;let{x,S1,S,E,rfl,h}:=h;let{{b,s,n,kn,ks,Y,hx,hb,hs,J,G},k}:=h;let B:W7 M (.cell b)=some ([0,1],Al (BY kn S (Yh S1)) Y):=by simp only[W7,hb]
  exists ·,x,Zl,_,·,hx,cl,Z,W,by rw[B];show(λz=>nomatch z),_,{_,_,_,B,W,W,W},.inl ?_;unfold Xd at k;cases e:Ae S E with
  |none =>
   rw[e]at G k;rw[G.2]at J;rwa[List.perm_nil.mp J]
  |some a0 =>
   rw[e]at G k;let{rfl,_,ko}:=G;rw[show N5 (Al (BY kn S (Yh S1)) Y) [.k 0,.t []]=some (BY kn S (Yh S1) (0,[]))from Ve (sp:=(0,[])) (J.mem_iff.mpr ko.st)];show k
open L3
theorem yE(T:Txt mg)(Yd:mg "FIRST_SPOT"=some (.ref Z0))(dI:Aj K (λ_=>none) [.k 0,.t []] Z0)(cl:CQ K Zl)(n1:Y2 K Zl "size")(n3:Y2 K Zl "steps")(dM:CZ K Zk fN)(eE:L2.S6 K Zk=some none)(Yy:mg "NoOriginal"=some (.ref Zk))(Vq:FS P w K mg dC "Leaving" Zl 7 q13 (AH {C,K} (dLeav Zl)))(Yp:CY P w K mg dC Zl "original_total" 1 q25 (AH {C,K} (dTotal Zl)))(F:AY K "least_original" "least_original" Wm f fd):AK P w K mg dC (CXE P w) 9 f fd q17 (ET {C,K} (dLeastX Zk)):=by
 show L3.AY.okX3 F QC (λds M K3 KX h=>?_) (λcdv A dD s H E O=>?_)
 .let⟨S1,S,d,E,rfl,_⟩:=h;rfl
 .let Z:=QC;let hu:=O.units;let a7:=Xf O;let Rr:AG 8 _:=O.mono nofun;let Xm:AG 1 _:=O.mono nofun;show{_,_,(Zb (Zp (i:=3) Z.nd W (Ci W) (KU Vq Rr W (Za #[0] (Za #[1] (Za #[2] Zc)))))
 (Zb (Yz (Zz (Uc (K':=K) W hu) (HP #[3] Yp Xm) Zd (Z6 _))
 (Ze (Ziy dM eE Yy W))
 Z1)
 (Zb (Zp (i:=4) Z.nd W (Ci W) (Yk Zc))
 (Zb (Zp (i:=5) Z.nd W (Ci W) (Vv (v:=.ref Z0) W Yd W))
 (Zb (Sx UV (Zz HQ (Z4 (Z5 (K':=K) W) #[5] Zd {}) (Wq #[3] W) (Z6 _))
 (Zb (Zp (i:=6) Z.nd W (Ci W) (Z4 (Z5 (K':=K) W) (Tw (K:=K) W (Tr O) (Wq #[3] W) #[5] {}) Zd {}))
 (Zb (Wn (P6 Ct Em Eo Vm #[4] (Za (Z4 (Z5 (K':=K) W) #[6] Zd {}) Zc)))
 (Ze (Zp (i:=5) Z.nd W (Ci W) (Z4 (Z5 (K':=K) W) #[6] Zd {}))))))
 (Ze (Zx #[4]))))))),λ_ _ he hk hx=>(Zs (Xh (UB (by symm)) (Ak 3)) (Zs (Vu (So (BE s_eq (JI (Zt 3) Y3) Vk)) (gU he hk hx) Wg) (Zs (Xh (Tl Y3) (Ak 4)) (Zs (Xh (II dI) (Ak 5)) (Zs (N9 (So (BE s_lt (BE GL (Zt 5) Vk) (V7 (Zt 3)))) (Zs (Xh (BE s_ix (Q0 (V7 (Zt 3)) (Zt 5)) Vk) (Ak 6)) (by symm))) (Xv (Zt 4))))))),λds M Kk KX hM hD h=>?_}
  let{S1,S,d,E,rfl,h}:=h;let{hd,hI,kN,kY}:=h;exists ·,·,·,M.length,S1,S,d,E,W,Yl,Rm hd,hI,λM1⟨o,J,e⟩hL=>{W,?_};let p:M<+:M1:=by rw[e,Xj,Jf];show Gj _ _
  let a2:=hL;let{b,s,n,kn,ks,kb,hx,hb,hs,pk,hk}:=a2;show{·,{M.length,_,W,hx,W},M.length,S1,S,E,W,hL,Wp X5 (a:=((Xd S1 S E:Nat):Int)) (b:=0) {_,W,A5 (λhz=>?_) (λhz=>?_)}}
  .show kN (by have:=Dz hz;lia) M1 p
  let hz:0<Xd S1 S E:=by have:=D1 (B4 _ ▸ hz);lia
  cases ek:Ae S E with
  |none=>unfold Xd at hz;rw[ek]at hz;show absurd hz (Nat.lt_irrefl _)
  |some a6 =>
   rw[ek]at hk;let{rfl,hn,ko}:=hk;unfold Xd at hz;rw[ek]at hz;let hz:0<BC kn S (Yh S1) (0,[]):=hz;let{fr1,G,fr,fi,hE}:=hI;let ok:=Iq fr1 G;let a4:kn.length<=200:=Js (GG fi ek) ();let pl:=p.length_le;show{J9 _,?_};exists λm a0 M'=>∃(V:List Pr)(sp:AM)(v6:Option D),a0=[some (.code S1),some (.code S),some d,some (.cell M.length),some (.cell M1.length),some (.nst (BP sp)),v6]/\M'=M1++[tx (Zi V)]/\DK kn S (Yh S1) V sp/\m=kn.length-sp.1,{_,[],(0,[]),_,W,W,DK.start hz,W},?_;rintro m a5 _ ⟨V,sp,v6,rfl,rfl,B,rfl⟩;let g:=B.good;let g2:=g.2.1;show{·,_,_,·,W,W,·,M.length,Zl,_,·,Xl hx,cl,n1,W,_,·,W,·,?_}
   by_cases hl:sp.1<kn.length
   .rw[Ab ()];show Aa ?_;let{q,r,xs,Y,a1}:=B.step ok hl;let e3:stL3 kn S (Yh S1) sp=.lst (((q.1,r)::xs).map Au):=by rw[<-Y];rfl
    let up:sp.1<r.1:=(OB ok.ne g (Gm.mp (show(q.1,r)∈CJ kn S (Yh S1) sp by rw[Y];show Je)).1).2;let a3:W7 (M1++[tx (Zi V)]) (.cell s)=some ([0,1],Al (stL3 kn S (Yh S1)) ks):=by simp only[W7,Xl hs]
    let hm:sp∈ks:=Ss ko V B.mem sp B.wt;show{_,W,M.length,Zl,_,_,W,Xl hx,cl,n3,W,_,W,.lst (((q.1,r)::xs).map Au),{_,_,_,a3,W,W,by rw[<-e3];show(Ve hm).symm},_,_,_,W,W,IS (j:=0) W,?_};let lV:V.length<=kn.length:=by
     let h1:=Sv ok.ne B.mem;let h2:=(Yv B.wt T6).2;lia
    exists ·,Wo Vw,·,_,_,·,W,W,M1.length,_,·,W,Yl,by rw[Ja,show(Zi V).length=V.length from Ja _];show Gr (by lia:_<=200) nofun,?_;rw[Xj];show{·,_,_,·,W,W,kn.length-r.1,(),.inl {V++[q],r,_,W,?_,a1,W}};rw[Wu];unfold tx;rw[Ji];rfl
   .rw[BB ()];show AZ ?_;let hl:sp.1=kn.length:=by lia
    let{d1,d2}:=B.done ok hl;let lV:(Zi V).length<=200:=by
     let h1:=Sv ok.ne B.mem;let h2:=(Yv B.wt T6).2;rw[show(Zi V).length=V.length from Ja _];lia
    show{·,.inl (kY _ _ (Zi V) (p.trans (Gj _ _)) pl Yl lV ((Te fr1 G fr fi ek _).mpr {V,d1,W}) λt' h'=>?_)};let{U,hU,rfl}:=(Te fr1 G fr fi ek _).mp h';show(d2 U hU).imp (λz=>by rw[z]) id
open L3
theorem yV(T:Txt mg)(cl:CQ K Zl)(n1:Y2 K Zl "size")(n3:Y2 K Zl "steps")(F:AY K "one_step_on" "one_step_on" Vs f fd):AK P w K mg dC A7 2 f fd q32 (AH {C,K} (dOnS Zl)):=by
 show L3.AY.ok3 F UX (λds M K3 h=>?_) (λcdv A dD s H E hr=>?_)
 .let⟨x,b,s,n,e,kn,S,B,ks,xs,rfl,_⟩:=h;rfl
 .let SC:=UX;let hu:=hr.units;let a4:=Xf hr;show{_,_,(Zb (Zp (i:=2) SC.nd W (Ci W) (Yk Zc))
 (Zb (X2 Cp W (Ye #[1]) (Wj (n:=2) W (Zy (Zo (i:=3) SC.nd W (C4 W)) (Zy (Zo (i:=4) SC.nd W (Ci W)) Xk)) {})
 (Ze (Wn (P6 Ct Es Hl Q9 #[2] (Za (Yw (T:=q16) (cs:=[3]) W (CScope.ok {}) (Ye (Tw (K:=K) W (Tr hr) (Wq #[0] W) #[4] {})) (λ_ _ _ _=>(Wj (n:=2) W (Zy #[0,0] (Zy #[1,0] Xk)) {})) (λ_ _ _ _=>Y5) (λ_ _ _ _=>(Y1 (Za (Z3 (Yg (K':=K) W) #[2] (Yk (Za #[0] Zc))) (Za #[1] Zc)))) (Uy (Yf nofun (Yf nofun W1)))) Zc)))))
 (Ze (Zx #[2])))),λ_=>(Zs (Xh (Tl Y3) (Ak 2)) (Zs (Sq (BV (Zt 1)) (by symm) (R9 (JK (Zt 2) (Z9 (Ww (BV (Q0 (V7 (Zt 0)) (Zt 4))) (by symm) V6 (GW (Z9 (BE gX (Zt 2) (by symm)) (by symm)))) Y3)))) (Xv (Zt 2)))),λds M Kk hM hD h=>?_}
  let{x,b,s,n,e,kn,S,B,ks,xs,rfl,h}:=h;let{hx,hs,he,{hC,lx,lP,hk},k}:=h;show{J9 _,?_};exists ·,_,GM he,λj ρ G=>∃(v3 v4:Option D)(J:List MO)(ys:List DF),ρ=[some (.cell x),some e,some (.cell M.length),v3,v4]/\G=M++[.lst (ys.map CW)]++J/\ys.map (·.2)=osB kn S B ((xs.take j).map (·.2))/\Ax (M.length+1) G ys,λ_ _ _ _ z=>by let{_,_,_,_,_,rfl,_}:=z;show GM (GM he),{_,_,[],[],W,(Jx _).symm,W,λ_ h=>nomatch h},?_,?_
  .rintro j x' ρ G hj a1 ⟨v3,v4,J,acc,rfl,rfl,ea,hA⟩;let{Z,rfl}:=Z7 a1;let{b1,b2}:=hk _ (Jv Z);let hc:=(hC _ (Jv Z)).1;show{_,W,W,_,_,W,_,_,W,W,?_};let eT:osB kn S B ((xs.take (j+1)).map (·.2))=acc.map (·.2)++osS kn S B xs[j].2:=by
    rw[Jh Z,Ji,ea];unfold osB;rw[List.flatMap_append];show _++(osS kn S B xs[j].2++[])=_;rw[Jx]
   let la:acc.length<=64*200:=by
    let h1:(osB kn S B ((xs.take j).map (·.2))).length<=64*((xs.take j).map (·.2)).length:=YZ () _;rw[<-ea,Ja,Ja,Ga]at h1;lia
   generalize xs[j]=z at b1 b2 hc eT;let lst:(CJ kn S B z.2.2).length<=64:=UC () _;let a3:W7 (M++[.lst (acc.map CW)]++J) (.cell s)=some ([0,1],Al (stL3 kn S B) ks):=by simp only[W7,Xl (Xl hs)]
   exists ·,Wo (Xo Se),·,x,Zl,_,·,Xl (Xl hx),cl,n3,W,·,.lst ((CJ kn S B z.2.2).map Au),{_,_,_,a3,W,W,(Ve (f:=stL3 kn S B) b1).symm},·,?_,λi Y G=>∃(J':List MO)(O:List DF),G=M++[.lst (acc.map CW)]++J'/\Y=O.map CW/\O.map (·.2)=((CJ kn S B z.2.2).take i).map (λy=>(z.2.1++[y.1],y.2))/\Ax (M.length+1) G acc/\Ax (M.length+1) G O,λ_ _ _ _ _=>rfl,{J,[],W,W,W,hA,λ_ h=>nomatch h},?_,?_
   .show((CJ kn S B z.2.2).map Au).length<=Cb;rw[Ja];show Zn ()
   .rintro i y Y G hi hy ⟨J',O,rfl,rfl,ez,a0,hZ⟩;let{a2,rfl}:=Z7 hy;generalize ey:(CJ kn S B z.2.2)[i]=y;show{·,W,_,·,_,·,W,?_};show{·,·,(show 1<=Cb by decide),_,_,Xo (Xl (Xl hc)),W,?_,·,(show 2<=Cb by decide),?_}
    .rw[Ja];show Zn (by show _+1<=_;lia)
    generalize eN:(M++[MO.lst (acc.map CW)]++J').length=N;let hN:M.length+1<=N:=by rw[<-eN,Jc,Jc];show _<=_+1+_;lia
    let et:MO.lst (z.2.1.map D.int++[D.int y.1])=tx (z.2.1++[y.1]):=by unfold tx;rw[Ji];rfl
    exists J'++[tx (z.2.1++[y.1])],O++[(N,(z.2.1++[y.1],y.2))],by rw[<-Jf];show congrArg (λo=>M++[MO.lst (acc.map CW)]++J'++[o]) et,by rw[Ji];rfl,?_,?_,?_
    .rw[Jh a2,Ji,Ji,ez,ey];rfl
    .show a0.up
    .show Ax.app hZ.up λw hw=>?_;rw[Jj.mp hw];show{?_,hN};show(_++[MO.lst (z.2.1.map D.int++[D.int y.1])])[N]?=_;rw[et,<-eN];show Yl
   .rintro Y G ⟨J',O,rfl,rfl,ez,a0,hZ⟩;let e2:(CJ kn S B z.2.2).take ((CJ kn S B z.2.2).map Au).length=CJ kn S B z.2.2:=by rw[Ja,Gc]
    rw[show El _ (CJ kn S B z.2.2)=CJ kn S B z.2.2 from e2]at ez;let lz:O.length<=64:=by have:=congrArg Hf ez;rw[Ja,Ja]at this;lia
    exists M.length,_,_,·,W,Se,W,by rw[Ja,Ja];show Zn (),?_;rw[<-Ji,Qh];let h2:=(a0.app hZ).set (k:=M.length) (m:=.lst ((acc++O).map CW)) (B1 _);rw[Qh]at h2;show .inl {_,_,J',acc++O,W,W,by rw[eT,Ji,ez];rfl,h2}
  .rintro ρ G ⟨v3,v4,J,ys,rfl,rfl,ey,hY⟩;rw[show xs.take _=xs from(by rw[show(DH.n _)=(xs.map CW).length from W,Ja,Gc])]at ey;show{·,.inl (k J ys ey hY)}
open L3
theorem wQ(T:Txt mg)(Yd:mg "FIRST_SPOT"=some (.ref Z0))(dI:Aj K (λ_=>none) [.k 0,.t []] Z0)(cl:CQ K Zl)(n1:Y2 K Zl "size")(n3:Y2 K Zl "steps")(Rw:Rx P w K mg dC "TooMany" Zr 1 q27 (spX1 Zr "most"))(Vq:FS P w K mg dC "Leaving" Zl 7 q13 (AH {C,K} (dLeav Zl)))(Yp:CY P w K mg dC Zl "original_total" 1 q25 (AH {C,K} (dTotal Zl)))(V3:Aq P w K mg dC "one_step_on" 2 q32 (AH {C,K} (dOnS Zl)))(F:AY K "all_originals" "all_originals" Wx f fd):AK P w K mg dC (CXE P w) 9 f fd q04 (ET {C,K} (dAllOX Zr)):=by
 show L3.AY.okX3 F bU (λds M K3 KX h=>?_) (λcdv A dD s H E hr=>?_)
 .let⟨S1,S,d,E,mo,rfl,_⟩:=h;rfl
 .let SC:=bU;let hu:=hr.units;let b9:=Xf hr;let b7:AG 2 _:=hr.mono nofun;let Rr:AG 8 _:=hr.mono nofun;let Xm:AG 1 _:=hr.mono nofun;let P8:AG 2 _:=hr.mono nofun;show{_,_,(Zb (Zp (i:=4) SC.nd W (C4 W) (KU Vq Rr W (Za #[0] (Za #[1] (Za #[2] Zc)))))
 (Zb (Yz (Zz Qd (HP #[4] Yp Xm) #[3] (Z6 _))
 (Ze (sI Rw b7 W (Za #[3] Zc)))
 Z1)
 (Zb (Zp (i:=5) SC.nd W (Ci W) (Yk Zc))
 (Zb (Zp (i:=6) SC.nd W (Ci W) (Td (Zz Qd (HP #[4] Yp Xm) Zd (Z6 _)) (Yk (Za (Y1 (Za (Yk Zc) (Za (Vv (v:=.ref Z0) W Yd W) Zc))) Zc)) (Yk Zc)))
 (Zb (Sx UV (Zz Qd (Zm (Yi (K:=K) W) {} T.b_len BI (Za #[6] Zc)) Zd (Z6 _))
 (Zb (Wn (P6 Ct Es Hl Q9 #[5] (Za (Yw (T:=["text","spot"]) (cs:=[4]) W (CScope.ok {}) (Ye #[6]) (λ_ _ _ _=>(Wj (n:=2) W (Zy #[0,0] (Zy #[1,0] Xk)) {})) (λ_ _ _ _=>(Vb (Zz (Uc (K':=K) W hu) (Z4 (Z5 (K':=K) W) #[1] Zd {}) (Wq #[2] W) (Z6 _)))) (λ_ _ _ _=>#[0]) (Uy (Yf nofun (Yf nofun W1)))) Zc)))
 (Ze (Zp (i:=6) SC.nd W (Ci W) (Zv V3 P8 W (Za #[4] (Za #[6] Zc)))))))
 (Ze (Zx (Zm (Pw (K:=K) W (Tr hr)) {} T.b_sorted Ek (Za #[5] Zc))))))))),λ_ _ he hk hx=>(Zs (Xh (UB (by symm)) (Ak 4)) (Zs (Vu (So (BE s_gt (JI (Zt 4) Y3) (Zt 3))) (uI he hk hx (by symm)) Wg) (Zs (Xh (Tl Y3) (Ak 5)) (Zs (Xh (s_if (So (BE s_gt (JI (Zt 4) Y3) Vk)) (RP (Z9 (GW (Z9 (Tl Y3) (Z9 (II dI) Y3))) Y3)) (Tl Y3)) (Ak 6)) (Zs (N9 (by symm) (Zs (R9 (JK (Zt 5) (Z9 (Ww (BV (Zt 6)) (by symm) (So (BE s_eq (BE GL (Zt 1) Vk) (V7 (Zt 2)))) (Zt 0)) Y3))) (by symm))) (Xv (Ah yM (by symm)))))))),λds M Kk KX hM hD h=>?_}
  let{S1,S,d,E,mo,rfl,h}:=h;let{hd,{hI,m1},kN,kY}:=h;exists ·,·,·,M.length,S1,S,d,E,W,Yl,Rm hd,hI,λM1⟨o,J,e⟩hL=>{W,?_};let p:M<+:M1:=by rw[e,Xj,Jf];show Gj _ _
  let pl:=p.length_le;let b6:=hL;let{b,s,n,kn,ks,kb,hx,hb,hs,pk,hk}:=b6;show{·,{M.length,_,W,hx,W},M.length,S1,S,E,W,hL,·,_,·,W,·,A5 (λhz=>?_) (λhz=>?_)}
  .show{·,·,kN (Dz hz) M1 p}
  let hz:((Xd S1 S E:Nat):Int)<=mo:=by have:=D1 (B4 _ ▸ hz);lia
  let kY:=kY hz;show{J9 _,?_};let b4:(M1++[MO.lst []])[M.length]?=some (.ins Zl [("size",.int n),("behind",.cell b),("steps",.cell s)]):=Xl hx;let b5:LvAt Zl (M1++[.lst []]) M.length S1 S E:={b,s,n,kn,ks,kb,Xl hx,Xl hb,Xl hs,pk,hk};let{fr1,Z,fr,fi,hE}:=hI;let el:(M1++[MO.lst []]).length=M1.length+1:=by rw[Jc];rfl
  show{·,{M.length,_,W,b4,W},M.length,S1,S,E,W,b5,_,·,W,·,A5 (λB=>?_) (λB=>?_)}
  .let B:0<Xd S1 S E:=by have:=Dz B;lia
   cases ek:Ae S E with
   |none=>unfold Xd at B;rw[ek]at B;show absurd B (Nat.lt_irrefl _)
   |some a1 =>
    rw[ek]at hk;let{rfl,hn,ko}:=hk;unfold Xd at B hz;rw[ek]at B hz;let B:0<BC kn S (Yh S1) (0,[]):=B;let hz:((BC kn S (Yh S1) (0,[]):Nat):Int)<=mo:=hz;let ok:=Iq fr1 Z;let lP:(Yh S1).length<64:=by rw[(Y0 S1).length_eq];show Z.1
    let b8:kn.length<=200:=Js (GG fi ek) ();show{J9 _,(show 2<=Cb by decide),(show 1<=Cb by decide),?_};rw[el];show{λm a0 M'=>∃(tc xs:List DF)(e:D)(X:AC)(k:Nat),a0=[some (.code S1),some (.code S),some d,some (.int mo),some (.cell M.length),some (.cell M1.length),some e]/\M'=M1++[.lst (tc.map clS)]++X/\(Y8 M' e=some (xs.map CW)/\e≠.cell M1.length)/\(Ax (M1.length+1) M' xs/\Ax (M1.length+1) M' tc)/\Lk kn S (Yh S1) k (tc.map (·.2.1)) (xs.map (·.2))/\m=kn.length+2-k,
     {_,[],[(M1.length+1,([],(0,[])))],_,[tx []],0,W,W,{W,λz=>nomatch z},{λw hw=>?_,λ_ h=>nomatch h},.start B,W},?_}
    .rw[Jj.mp hw];show{?_,Jk _};show(_++[_])[M1.length+1]?=_;rw[<-el];show Yl
    rintro m b1 M2 ⟨tc,xs,e,X,kk,rfl,rfl,⟨eb,ne⟩,⟨hxs,ht⟩,lk,em⟩;let few:=lk.few;rw[Ja,Ja]at few;show{_,W,?_};show cZ eb {_,_,W,W,_,W,?_};let a4:∀t∈tc.map (·.2.1),t.length<=200:=λt h=>by
     let{_,U,hU,rfl}:=lk.t t h;let{u1,u2,u3,u4}:=(Vc ok.ne T6).mp hU;let h1:=Sv ok.ne u1;let h2:=(Yv u3 T6).2;rw[show(Zi U).length=U.length from Ja _];lia
    by_cases be:xs=[]
    .subst be;show AZ ?_;exists ·,_,tc.map λx=>(clS x,x.2.1),W,by rw[Jy];show(X4 (Xo Se)).2.1,{by rw[Ja];lia,λz hz=>?_,by rw[Jy];show lk.nt},λys pm pw=>?_
     .let⟨x,a2,rfl⟩:=Jq.mp hz;show Y8 _ (.cell x.1)=_;simp only[Y8,(ht x a2).1,tx]
     let{b2,Y,rfl}:=L2.S0 pm W;rw[Jy];rw[Jz]at pw;show .inl (kY _ _ b2 ?_ ?_ List.getElem?_concat_length (λz hz=>?_) (by rw[Y.length_eq];lia) (by rwa[Jz]) λt=>?_)
     .rw[Jf,Jf];show p.trans (Gj _ _)
     .rw[Jf,Jc];lia
     .let⟨g1,g2⟩:=ht z (Y.mem_iff.mp hz);let:=(Jd.mp g1).1;show{Xl g1,(),(),a4 _ (Bi (Y.mem_iff.mp hz))}
     .rw[(Y.map _).mem_iff,lk.done,Te fr1 Z fr fi ek]
    let bp:=Gh.mpr be;rw[Ab (by rw[Ja];lia)];show Aa ?_;let a1:=lk.len ok (λz=>be (Dp.mp z));let a5:∀{X:AC}{m:MO},(M1++[m]++X)[M.length]?=some (.ins Zl [("size",.int n),("behind",.cell b),("steps",.cell s)]):=Xl (Xl hx);generalize a3:M1++[MO.lst (tc.map clS)]++X=M2 at eb hxs ht;exists ·,Wo (Xo (by rw[<-a3];show Se)),·,_,eb,?_,λi ys M'=>M'=M2/\ys=((xs.take i).filter λb=>decide (b.2.2.1=kn.length)).map clS,λ_ _ _ _ z=>by rwa[z.1],{W,W},?_,?_
    .show(xs.map CW).length<=Cb;rw[Ja];show Zn ()
    .rintro i x ys _ hi a2 ⟨rfl,rfl⟩;let{a8,rfl}:=Z7 a2;show{·,W,_,·,_,·,W,?_};exists ·,_,_,·,W,W,·,M.length,Zl,_,·,by rw[<-a3];show a5,cl,n1,W,.inl {_,W,_,W,?_}
     by_cases z:xs[i].2.2.1=kn.length
     .rw[Ab (by rw[hn,z])];show Aa {_,W,W,?_};rw[Jh a8,Fl,Fj,D9 (Ab z),Mr,Ji];rfl
     .rw[BB (by rw[hn];lia)];show AZ {W,?_};rw[Jh a8,Fl,Fj,D8 (by rwa[D2]),Mr,Jx]
    rintro ys _ ⟨rfl,rfl⟩;let eB:xs.take (xs.map CW).length=xs:=by rw[Ja,Gc]
    rw[show El _ xs=xs from eB];let G:=lk.next ok;let O:=G.few;let eU:((xs.map (·.2)).filter λx=>decide (x.2.1=kn.length)).map (·.1)=(xs.filter λb=>decide (b.2.2.1=kn.length)).map (·.2.1):=by
     rw[List.filter_map,Jy];rfl
    rw[eU,<-Ji]at G O;rw[Ja,Jc]at O;let a6:Ax (M1.length+1) _ (xs.filter λb=>decide (b.2.2.1=kn.length)):=λx h=>hxs x (Gm.mp h).1;let b3:∀z∈xs,z.2.2∈ks/\z.2.1.length<=200:=λz hz=>by
     let{V,eV,lV,hV,wV,_}:=lk.b z.2 (Bi hz);show{Ss ko V hV _ wV,by rw[<-eV,show(Zi V).length=V.length from Ja _];lia}
    generalize (xs.filter λb=>decide (b.2.2.1=kn.length))=us at G O a6;subst a3;show{M1.length,_,_,·,W,Se,W,?_,?_}
    .rw[Ja,Ja];show Zn ()
    rw[<-Ji,Qh];let a9:=iG (m:=.lst ((tc++us).map clS)) eb ne;let hx2:=hxs.set (k:=M1.length) (m:=.lst ((tc++us).map clS)) (B1 _);let a7:=(ht.app a6).set (k:=M1.length) (m:=.lst ((tc++us).map clS)) (B1 _);rw[Qh]at a9 hx2 a7;exists ·,·,M.length,b,s,n,e,kn,S,Yh S1,ks,xs,W,a5,Xl (Xl hs),a9,{λx h=>{(hx2 x h).1,J9 _},(),lP,b3},λJ ys ey hY=>?_;let lX:M1.length+1<=(M1++[MO.lst ((tc++us).map clS)]++X).length:=by rw[Jc,Jc];show _<=M1.length+1+X.length;lia
    rw[<-ey]at G;let f1:Y8 (M1++[MO.lst ((tc++us).map clS)]++X++[.lst (ys.map CW)]++J) (.cell (M1++[MO.lst ((tc++us).map clS)]++X).length)=some (ys.map CW):=(X4 (Xo Se)).2.1;let f2:Ax (M1.length+1) _ ys:=λx h=>{(hY x h).1,by have:=(hY x h).2;lia};let f3:=(a7.up (X:=[.lst (ys.map CW)])).up (X:=J);rw[Jf (M1++_),Jf (M1++_)]at f1 f2 f3⊢;show{kn.length+2-(kk+1),(),.inl {tc++us,ys,_,X++[.lst (ys.map CW)]++J,kk+1,W,W,{f1,λz=>by have:=D.cell.inj z;lia},{f2,f3},G,W}}
  .let B:Xd S1 S E=0:=by have:=D1 (B4 _ ▸ B);lia
   show{J9 _,?_};rw[el];let e1:(M1++[MO.lst []]++[MO.lst []])[M1.length+1]?=some (.lst []):=by rw[<-el];show Yl
   exists λm a0 M'=>a0=[some (.code S1),some (.code S),some d,some (.int mo),some (.cell M.length),some (.cell M1.length),some (.cell (M1.length+1))]/\M'=M1++[.lst []]++[.lst []],{0,W,W},?_;rintro m b1 M2 ⟨rfl,rfl⟩;show{·,?_};show cZ (X4 (Xo e1)).2.1 {_,_,W,W,_,W,?_};show AZ ?_;exists ·,_,[],W,(X4 (Xo Se)).2.1,{nofun,(λ_ h=>nomatch h),Fk},λys pm pw=>?_;cases List.perm_nil.mp pm;show .inl (kY _ _ [] ?_ ?_ List.getElem?_concat_length (λz hz=>nomatch hz) (J9 _) Lu λt=>{λh=>(nomatch h),λh=>?_})
   .rw[Jf,Jf];show p.trans (Gj _ _)
   .rw[Jf,Jc];lia
   .exfalso
    unfold Xd at B;cases ek:Ae S E with
    |none =>
     let{U,R,_,_,c,dd}:=h;show Ql fr ek {R,c,dd}
    |some a1 =>
     rw[ek]at B;let{U,hU,_}:=(Te fr1 Z fr fi ek t).mp h;let:=Fh hU;rw[<-MX]at this;let B:BC a1 S (Yh S1) (0,[])=0:=B;lia
open L3
def uR(h:TbK L bs)(s:L'.Sublist L):TbK L' bs:={Lx s h.fr,{Gr s.length_le h.fi.1,λp B=>h.fi.2 p (s.subset B)},λp B=>h.by_ p (s.subset B),Js s.length_le h.ln}
theorem qC{xs:List τ}(B:j<xs.length):L2.atI xs ((j:Int)-1)=xs[(j+xs.length-1) % xs.length]?:=by
 unfold L2.atI ixN
 by_cases h:j=0
 .subst h;rw[D8 (),D9 (),show(0+xs.length-1) % xs.length=xs.length-1 from by rw[Fv];show Do ()];show xs[_]?=_
  congr 1
  lia
 .rw[D9 (),D9 (),show(j+xs.length-1) % xs.length=j-1 from by rw[show j+xs.length-1=(j-1)+xs.length by lia,Nat.add_mod_right];show Do ()];show xs[_]?=_
  congr 1
  lia
def turned(L:List Pr):List Pr:=(C2 L.length).map λj=>(((L[(j+L.length-1) % L.length]?).getD (0,[])).1,((L[j]?).getD (0,[])).2)
def Xr(L:List Pr):(turned L).length=L.length:=by unfold turned;rw[Ja,List.length_range]
def Sk(B:j<(turned L).length):(turned L)[j]=(((L[(j+L.length-1) % L.length]?).getD (0,[])).1,((L[j]?).getD (0,[])).2):=by
 show(List.getElem_eq_iff B).mpr ?_;let h:j<L.length:=by rwa [Xr]at B
 unfold turned;rw[Gi,List.getElem?_range h];rfl
theorem rH(h:TbK L bs):TbK (turned L) bs:=by
 let wm:∀p∈turned L,∃q∈L,p.2=q.2:=λp G=>by
  let{j,J,rfl}:=Ge G;let B:j<L.length:=by rwa [Xr]at J
  rw[Sk J];show{L[j],Jv B,by rw[Jb B];rfl}
 show{?_,{by rw[Xr];show h.fi.1,λp G=>?_},λp G=>?_,by rw[Xr];show h.ln}
 .unfold AU;rw[Gy];intro i j hi J a0;let O:i<L.length:=by rwa [Xr]at hi
  let B:j<L.length:=by rwa [Xr]at J
  let Z:=Nat.mod_lt (i+L.length-1) (show 0<L.length by lia);let Y:=Nat.mod_lt (j+L.length-1) (show 0<L.length by lia);rw[Sk hi,Sk J,Jb O,Jb B,Jb Z,Jb Y];let ap:=h.fr.get O B a0;show{?_,ap.2};let ne:(i+L.length-1) % L.length≠(j+L.length-1) % L.length:=λe=>by
   let e2:(j+L.length-1) % L.length=j-1:=by rw[show j+L.length-1=(j-1)+L.length by lia,Nat.add_mod_right];show Do ()
   by_cases z:i=0
   .subst z;rw[e2,show(0+L.length-1) % L.length=L.length-1 from by rw[Fv];show Do ()]at e;lia
   .rw[e2,show(i+L.length-1) % L.length=i-1 from by rw[show i+L.length-1=(i-1)+L.length by lia,Nat.add_mod_right];show Do ()]at e;lia
  show(L[(i+L.length-1) % L.length]).1≠(L[(j+L.length-1) % L.length]).1;rcases Nat.lt_or_gt_of_ne ne with z|z
  .show(h.fr.get Z Y z).1
  .show λe=>(h.fr.get Y Z z).1 e.symm
 .let⟨q,hq,e⟩:=wm p G;rw[e];show h.fi.2 q hq
 .let⟨q,hq,e⟩:=wm p G;rw[e];show h.by_ q hq
def KP(h:T3Ok bs Ls)(i:Nat)(G:TbK L bs):T3Ok bs (Ls.set i L):={by rw[Gz];show h.1,λX B=>(List.mem_or_eq_of_mem_set B).elim (h.2 X) λe=>by rw[e];show G}
theorem Jbs(T:Txt mg)(Zh:Aq P w K mg dC "_law_draw" 1 q00 (AH {C,K} CB))(U9:Aq P w K mg dC "_law_bytes" 2 q22 (AH {C,K} dBytes))(U5:Aq P w K mg dC "_law_words" 2 q06 (AH {C,K} dWordsC))(U7:Aq P w K mg dC "_law_signs" 2 q00 (AH {C,K} dSigns))(U6:Aq P w K mg dC "_law_table" 2 q09 (AH {C,K} dTable))(F:AY K "_law_tables" "_law_tables" JR f fd):AK P w K mg dC A7 4 f fd ["_law_hand"] (AH {C,K} dTabs71):=by
 show L3.AY.ok3 F UP (λds M K3 h=>?_) (λcdv A dD s H E hr=>?_)
 .let⟨k,rfl,_⟩:=h;rfl
 .let SC:=UP;let hu:=hr.units;let b1:=Xf hr;let Zj:AG 1 _:=hr.mono nofun;let a6:AG 2 _:=hr.mono nofun;let a9:AG 2 _:=hr.mono nofun;let a7:AG 2 _:=hr.mono nofun;let a8:AG 2 _:=hr.mono nofun;show{_,_,(Zb (Zp (i:=1) SC.nd W (C4 W) (Zv U9 a6 W (Za #[0] (Za Zd Zc))))
 (Zb (Zp (i:=2) SC.nd W (C4 W) (Zv U7 a7 W (Za #[0] (Za Zd Zc))))
 (Zb (Zp (i:=3) SC.nd W (C4 W) (Yw (T:=["_law_k"]) (cs:=[0,1,2]) W (CScope.ok {}) (Y6 W T.b_range (Za Zd Zc)) (λ_ _ _ _=>#[0,0]) (λ_ _ _ _=>Y5) (λ_ _ _ _=>(Zv U6 a8 W (Za #[1] (Za (Zv U5 a9 W (Za #[1] (Za #[2] (Za Zd (Za Zd Zc))))) (Za #[3] Zc))))) (Xb nofun)))
 (Zb (Yz (Zz (Uc (K':=K) W hu) (Zv Zh Zj W (Za #[0] (Za Zd Zc))) Zd (Z6 _))
 (Ze (Nj (Yw (T:=["_law_pair"]) (cs:=[0]) W (CScope.ok {}) (Ye (Z4 (Z5 (K':=K) W) #[3] Zd {})) (λ_ _ _ _=>#[0,0]) (λ_ _ _ _=>(Vb (Zz Qd (Zv Zh Zj W (Za #[1] (Za Zd Zc))) Zd (Z6 _)))) (λ_ _ _ _=>#[0]) (Xb nofun)) (IF #[3] Zd Sm)))
 Z1)
 (Zb (Zp (i:=4) SC.nd W (Ci W) (Zv Zh Zj W (Za #[0] (Za Zd Zc))))
 (Zb (Yz (Zz Qd #[4] Zd (Z6 _))
 (Ze (Nj (Yw (T:=["_law_k"]) (cs:=[3]) W (CScope.ok {}) (Y6 W T.b_range (Za (Zm (Yi (K:=K) W) {} T.b_len BI (Za (Z4 (Z5 (K':=K) W) #[3] Zd {}) Zc)) Zc)) (λ_ _ _ _=>#[0,0]) (λ_ _ _ _=>Y5) (λ_ _ _ _=>(Y1 (Za (Z4 (Z5 (K':=K) W) (Z4 (Z5 (K':=K) W) (Z4 (Z5 (K':=K) W) #[1] Zd {}) (Z3 GB #[0] Zd) {}) Zd {}) (Za (Z4 (Z5 (K':=K) W) (Z4 (Z5 (K':=K) W) (Z4 (Z5 (K':=K) W) #[1] Zd {}) #[0] {}) Zd {}) Zc)))) (Xb nofun)) (IF #[3] Zd Sm)))
 Z1)
 (Zb (Yz (Zz (Uc (K':=K) W hu) #[4] Zd (Z6 _))
 (Ze (Nj (Yw (T:=["_law_pair"]) (cs:=[0]) W (CScope.ok {}) (Ye (Z4 (Z5 (K':=K) W) #[3] Zd {})) (λ_ _ _ _=>#[0,0]) (λ_ _ _ _=>(Vb (Zz Qd (Zv Zh Zj W (Za #[1] (Za Zd Zc))) Zd (Z6 _)))) (λ_ _ _ _=>#[0]) (Xb nofun)) (IF #[3] Zd Sm)))
 Z1)
 (Ze (Zx (Y1 (Za #[3] (Za (Z4 (Z5 (K':=K) W) (Yk (Za Zd (Za Zd Zc))) (Z3 GB (Zm (Yi (K:=K) W) {} T.b_len BI (Za #[1] Zc)) Zd) {}) (Za #[2] Zc))))))))))))),λ_=>(Zs (by symm) (Zs (by symm) (Zs (Xh (lD (by symm) (Ak 0) V6 (by symm)) (Ak 3)) (Zs (Vu (by symm) (Xh (by symm) (IX (Zt 3) Vk)) Wg) (Zs (by symm) (Zs (Vu (by symm) (Xh (by symm) (IX (Zt 3) Vk)) Wg) (Zs (Vu (by symm) (Xh (by symm) (IX (Zt 3) Vk)) Wg) (by symm)))))))),λds M Kk hM hD h=>?_}
  let{k,rfl,h}:=h;let{hk,kk}:=h;let a0:∀{X:AC},(M++X)[k]?=some .hand:=Xl hk;exists ·,k,3,W,hk,{nofun,nofun},λbs nd b2 b3 _=>?_;let hb:bs.length=2\/bs.length=3:=by lia
  exists ·,k,14,W,hk,{nofun,nofun},λss a4 ls=>?_;exists 3,W,{nofun,nofun},(show 3<=Cb by decide),λj ys Y=>M=Y/\∃B:List (List Pr),ys=B.map tbl/\B.length=j/\∀L∈B,TbK L bs,λ_ _ _ _ _=>trivial,{W,[],W,W,λ_ h=>nomatch h},?_,?_
  .rintro j x ys _ hj rfl ⟨rfl,B,rfl,rfl,J⟩;exists ·,·,·,k,bs,2,3,W,hk,{nd,(λe=>by rw[e]at b2;simp at b2),(),nofun,nofun,nofun,nofun},λws wo hw wl=>?_;exists ·,k,ws,ss,W,hk,{wo,(),a4,(),()},λL fr fi pm=>{W,B++[L],by rw[Ji];rfl,by rw[Jc];rfl,λX hX=>?_};rcases Jw.mp hX with hX|hX
   .show J X hX
   .rw[Jj.mp hX];exists fr,fi,λp hp=>hw p.2 (pm.mem_iff.mp (Bi hp)),?_;let:=pm.length_eq;rw[Ja]at this;lia
  rintro ys _ ⟨rfl,B,rfl,a1,J⟩;let G:T3Ok bs B:={a1,J};clear a1 J
  let' St:Ev->AC->Prop:=λZ Y=>∃(B:List (List Pr))(v4:Option D),Z=[some (.cell k),some (.lst (bs.map .int)),some (.lst (ss.map .int)),some (.cell M.length),v4]/\Y=M++[.lst (B.map tbl)]/\T3Ok bs B
  let part:∀{B:List (List Pr)}{F:List D->AC->Prop}{ρ:Ev}{sc:List Str}{cs:List Nat},T3Ok bs B->(∀x,(sg3 ρ sc cs).set 0 x=[x,some (.cell k)])->ρ[3]?=some (some (.cell M.length))->(∀L:List Pr,TbK L bs->F (L.map pD) (M++[.lst (B.map tbl)]))->cmp3 (uIL (uOp ix3 (Ao 3) (uC (D.int 1)))) (uG 0) (uB3 (uOp (CH λi j=>D.bl (decide (j<i))) (NS CB (N6 (Ao 1) (N6 (uC (D.int 3)) uNil))) (uC (D.int 0)))) (Ao 0) sc cs ρ (M++[.lst (B.map tbl)]) F:=by
   intro B F ρ sc cs G hs h3 hF;let h1:1<B.length:=by rw[G.1];decide
   exists _,h3,_,_,_,(X4 Vw).2.2,W,Yj (f:=tbl) (as:=B) (j:=1) W h1,·,?_,λi ys Y=>Y=M++[.lst (B.map tbl)]/\∃L',ys=L'.map pD/\L'.Sublist (B[1].take i),λ_ _ _ _ _=>rfl,{W,[],W,List.nil_sublist _},?_,?_
   .show(B[1].map pD).length<=Cb;rw[Ja];let:=(G.2 _ (Jv h1)).ln;show Zn ()
   .rintro i x ys _ hi hx ⟨rfl,L',rfl,sl⟩;let{a2,rfl}:=Z7 hx;show uB3 _ ((sg3 ρ sc cs).set 0 (some (pD B[1][i]))) _ _;rw[hs];exists ·,k,3,W,a0,{nofun,nofun},λr r0 r1=>{_,_,W,W,_,W,A5 (λ_=>?_) (λ_=>?_)}
    .show{_,W,W,L'++[B[1][i]],by rw[Ji];rfl,by rw[Jh a2];show sl.append (SU _)}
    .show{W,L',W,by rw[Jh a2];show sl.trans (List.sublist_append_left _ _)}
   .rintro ys _ ⟨rfl,L',rfl,sl⟩;show hF L' (uR (G.2 _ (Jv h1)) (sl.trans (B7 _ _)))
  let put:∀{B:List (List Pr)}{L:List Pr}{i:Nat}{K':Ev->AC->Prop}{ρ:Ev},T3Ok bs B->i<3->ρ[3]?=some (some (.cell M.length))->K' ρ (M++[.lst ((B.set i L).map tbl)])->Ol (Ao 3) (uC (D.int (i:Int))) (.lst (L.map pD)) ρ (M++[.lst (B.map tbl)]) K':=by
   intro B L i K' ρ G hi h3 hk;show{_,h3,M.length,_,_,i,W,W,Yl,?_,?_}
   .rw[Ja,G.1];show(mE () ()).trans (by rw[G6])
   .rw[Xj,<-List.map_set];show hk
  show g_nx ?_
  try dsimp only
  show P4 St (λKn hn=>?_) ?_
  .exists ·,k,2,W,a0,{nofun,nofun},λr r0 r1=>Wp X5 (a:=r) (b:=0) {_,W,A5 (λ_=>?_) (λ_=>hn _ _ {B,_,W,W,G})};show part G (λ_=>rfl) W λL tb=>put (i:=1) G nofun W (hn _ _ {_,_,W,W,KP G 1 tb})
  rintro _ _ ⟨B,v4,rfl,rfl,G⟩;exists ·,k,3,W,a0,{nofun,nofun},λr r0 r1=>g_nx ?_
  try dsimp only
  let' a3:Ev->AC->Prop:=λZ Y=>∃(B:List (List Pr)),Z=[some (.cell k),some (.lst (bs.map .int)),some (.lst (ss.map .int)),some (.cell M.length),some (.int r)]/\Y=M++[.lst (B.map tbl)]/\T3Ok bs B
  show P4 a3 (λKn hn=>?_) ?_
  .show{·,_,·,W,·,A5 (λ_=>?_) (λ_=>hn _ _ {B,W,W,G})};let h1:1<B.length:=by rw[G.1];decide
   let O:=Yj (f:=tbl) (as:=B) (i:=1) (j:=1) W h1;let tb:=G.2 _ (Jv h1);generalize hL:B[1]=L at O tb;let lm:(L.map pD).length=L.length:=Ja _;exists ·,_,_,_,(X4 Vw).2.2,W,O,·,(L.length:Int),by rw[lm],{(),by have:=tb.ln;lia},?_,λj ys Y=>Y=M++[.lst (B.map tbl)]/\ys=((turned L).take j).map pD,λ_ _ _ _ _=>trivial,{W,W},?_,?_
   .show((L.length:Int)).toNat<=Cb;rw[G6];let:=tb.ln;show Zn ()
   .rintro j x ys _ hj rfl ⟨rfl,rfl⟩;let hj:j<L.length:=by
     let:j<((L.length:Int)).toNat:=hj;rwa [G6]at this
    let mj:=Nat.mod_lt (j+L.length-1) (show 0<L.length by lia);let pv:L2.atI (L.map pD) ((0+(j:Int))-1)=some (pD L[(j+L.length-1) % L.length]):=by
     rw[Dx];let:=qC (xs:=L.map pD) (j:=j) (by rwa[lm]);rw[lm,Gi,Jb mj]at this;show this
    show{·,_,_,_,(X4 Vw).2.2,W,O,·,_,·,W,_,_,·,W,pv,_,_,·,W,W,?_};show{·,_,_,_,(X4 Vw).2.2,W,O,·,_,_,·,W,Yj (f:=pD) (as:=L) (j:=j) () hj,_,_,·,W,W,(show 2<=Cb by decide),W,?_};rw[Jh (by rwa[Xr]),Ji,Sk,Jb hj,Jb mj];rfl
   rintro ys _ ⟨rfl,rfl⟩;rw[show El _ (turned L)=turned L from Gx (by rw[Xr];show _<=((L.length:Int)).toNat;rw[G6];show Jk _)];show put (i:=2) G nofun W (hn _ _ {_,W,W,KP G 2 (rH tb)})
  rintro _ _ ⟨B,rfl,rfl,G⟩;show P4 a3 (λKn hn=>?_) ?_
  .show{·,Wp X5 (a:=r) (b:=2) {_,W,A5 (λ_=>?_) (λ_=>hn _ _ {B,W,W,G})}};show part G (λ_=>rfl) W λL tb=>put (i:=2) G nofun W (hn _ _ {_,W,W,KP G 2 tb})
  rintro _ _ ⟨B,rfl,rfl,G⟩;let a5:(bs.map D.int).length=bs.length:=Ja _;show{_,W,(show 2<=Cb by decide),_,W,_,W,_,_,W,W,_,_,.int (Uo bs),W,W,?_,_,W,(show 3<=Cb by decide),.inl (kk bs ss B hb G ())};rw[a5];unfold Uo;rcases hb with z|z<;>rw[z]<;>rfl
open L3
theorem jS(T:Txt mg)(Si:Aq P w K mg dC "_law_from" 1 q15 (AH {C,K} dFrom))(F:AY K "_law_carried" "_law_carried" KG f fd):AK P w K mg dC A7 4 f fd q05 (AH {C,K} dCarr):=by
 show L3.AY.ok3 F QE (λds M K3 h=>?_) (λcdv A dD s H E hr=>?_)
 .let⟨L1,L2,d,U,rfl,_⟩:=h;rfl
 .let B:=QE;let hu:=hr.units;let a5:=Xf hr;let a9:AG 1 _:=hr.mono nofun;let T5:AG 3 _:=hr.mono nofun;show{_,_,(Zb (Zp (i:=3) B.nd W (Ci W) (Xe (Py (K:=K) W T5 W) {} T.b_dict Hb (Za #[0] Zc)))
 (Zb (Zp (i:=4) B.nd W (Ci W) (Yk Zc))
 (Zb (X2 Cp W (Ye #[2]) (Zo (i:=5) B.nd W (Ci W))
 (Ze (Zp (i:=4) B.nd W (Ci W) (Z3 (Yg (K':=K) W) #[4] (Xe (JJ (K:=K) W) {} T.b_list Hc (Za (UJ a5 #[3] #[5] {}) Zc))))))
 (Zb (Zp (i:=6) B.nd W (Ci W) (Yk Zc))
 (Zb (Zp (i:=7) B.nd W (Ci W) Zd)
 (Zb (Sx Cp (Zz HQ #[7] (Zm (Yi (K:=K) W) {} T.b_len BI (Za #[4] Zc)) (Z6 _))
 (Zb (Zp (i:=8) B.nd W (Ci W) (Zv Si a9 W (Za #[1] (Za #[4] (Za #[7] Zc)))))
 (Zb (Yz (Wy (Um #[8]))
 (Ze (Zp (i:=8) B.nd W (Ci W) (Y1 (Za Vl (Za (Z3 (Yg (K':=K) W) #[7] Zd) Zc)))))
 Z1)
 (Zb (Wn (P6 Ct Em Eo Vm #[6] (Za (Z4 (Z5 (K':=K) W) #[8] Zd {}) Zc)))
 (Ze (Zp (i:=7) B.nd W (Ci W) (Z4 (Z5 (K':=K) W) #[8] Zd {})))))))
 (Ze (Zx #[6])))))))),λ_=>(Zs (Xh (Ah JD (by symm)) (Ak 3)) (Zs (by symm) (Zs (Sq (BV (Zt 2)) (Ak 5) (Xh (BE ZW (Zt 4) (Ah SR (Z9 (UY (Zt 3) (Zt 5)) Y3))) (Ak 4))) (Zs (Xh (Tl Y3) (Ak 6)) (by symm))))),λds M Kk hM hD h=>?_}
  let{L1,L2,d,U,rfl,h}:=h;let{hd,{fr,fi,Y,hU,lU},k}:=h;let wb:=Rg fr;exists ·,_,L1.map prK,W,by rw[Jy];rfl,by rw[Ja];let:=fi.1;lia,?_;generalize Uz [] (L1.map prK)=kd at wb;let b1:(Zi U).length=U.length:=Ja _;let rl:=SY fi hU;exists J9 _,·,_,(X4 hd).2.1,λi ρ M'=>∃v5 v6 v7 G,ρ=[some (tbl L1),some (tbl L2),some d,some (.dct kd),some (.lst ((Zu (U.take i)).map .int)),v5,v6,v7,G]/\M=M',λi ρ M' _⟨_,_,_,_,_,z⟩=>by rw[<-z];show(X4 hd).2.1,{_,_,_,_,W,W},?_,?_
  .rintro i x ρ _ hi hx ⟨v5,v6,v7,G,rfl,rfl⟩;let{b3,rfl}:=S5 hx;let a3:i<U.length:=by lia
   let eU:(Zi U)[i]=U[i].1:=Bc _;let hv:=wb.1 _ (hU _ (Jv a3));let a1:=sR a3;let a6:=nG U (i+1);rw[a1,Jc]at a6;let a2:(Zu (U.take (i+1))).map D.int=(Zu (U.take i)).map D.int++U[i].2.map D.int:=by rw[a1,Ji]
   rw[eU];show{·,·,·,_,.inl {_,_,W,W,hv.symm},_,·,W,_,·,W,?_,.inl {_,v6,v7,G,by rw[a2];rfl,W}};rw[Ja,Ja];show Fg (Gr (by lia:_<=1000) nofun)
  rintro ρ _ ⟨v5,v6,v7,G,rfl,rfl⟩;let eU:U.take ((Zi U).map D.int).length=U:=Gx (by rw[Ja];lia);rw[show Zu (U.take _)=Zu U from by rw[eU]];generalize b2:Zu U=ns at *
  let ln:ns.length<=1000:=by lia
  let a0:(ns.map D.int).length=ns.length:=Ja _;show{J9 _,?_};exists λm ρ M'=>∃G R pl,ρ=[some (tbl L1),some (tbl L2),some d,some (.dct kd),some (.lst (ns.map .int)),v5,some (.cell M.length),some (.int ((pl:Nat):Int)),G]/\M'=M++[.lst ((Aw R).map oD)]/\A9 L2 ns R pl/\m=ns.length-pl,{_,_,[],0,W,W,.nil,W},?_;rintro m ρ _ ⟨G,R,pl,rfl,rfl,wt,rfl⟩;let a7:=wt.le;let lR:=wt.len;show{·,·,·,_,·,W,·,A5 (λJ=>?_) (λO=>?_)}
  .let J:pl<ns.length:=by
    let:=Dz J;rw[a0]at this;lia
   exists ·,·,·,L2,_,ns,pl,W,W,{Y.1,a7},λp hp a4=>?_,λa8=>?_
   .let Z:=A9.word wt hp a4 (Y.2 p hp).1;let hq:=Z.le;let h0:0<p.2.length:=Gh.mpr (Y.2 p hp).1;show{·,·,AZ ?_};show{·,Wo Vw,·,_,_,·,W,W,M.length,_,·,W,Yl,?_,?_}
    .rw[Ja];unfold Aw;rw[Ja];show Gr (by lia:_<=1000) nofun
    rw[Xj];show{·,_,_,·,W,W,ns.length-(pl+p.2.length),(),.inl {_,_,_,W,by unfold Aw;rw[Ji,Ji];rfl,Z,W}}
   .let Z:=A9.lost wt J a8;let hq:=Z.le;show{·,·,Aa ?_};show{·,(show 2<=Cb by decide),?_};show{·,Wo Vw,·,_,_,·,W,W,M.length,_,·,W,Yl,?_,?_}
    .rw[Ja];unfold Aw;rw[Ja];show Gr (by lia:_<=1000) nofun
    rw[Xj];show{·,_,_,·,W,W,ns.length-(pl+1),(),.inl {_,_,_,W,by unfold Aw;rw[Ji,Ji];rfl,Z,W}}
  .let O:ns.length<=pl:=by
    let:¬ ((pl:Int)<((ns.map D.int).length:Int)):=λz=>O (Ab z);rw[a0]at this;lia
   show{·,.inl (k R {pl,wt,O})}
open L3
theorem Jdy(T:Txt mg)(F:AY K "_law_size" "_law_size" MZ f fd):AK P w K mg dC A7 4 f fd q07 (AH {C,K} dSizeL):=by
 show L3.AY.ok3 F bW (λds M K3 h=>?_) (λcdv A dD s H E hr=>?_)
 .let⟨L,d,E,rfl,_⟩:=h;rfl
 .let Z:=bW;let hu:=hr.units;let J:=Xf hr;let T5:AG 3 _:=hr.mono nofun;show{_,_,(Zb (Zp (i:=2) Z.nd W (Ci W) (Xe (Py (K:=K) W T5 W) {} T.b_dict Hb (Za #[0] Zc)))
 (Zb (Zp (i:=3) Z.nd W (Ci W) Zd)
 (Zb (X2 Cp W (Ye #[1]) (Zo (i:=4) Z.nd W (Ci W))
 (Ze (Yz (Wy (Um #[4]))
 (Ze (IH (i:=3) Z.nd W (Ci W) Zd GQ))
 (Ze (Yz (Wy (cF J #[4] #[2]))
 (Ze (IH (i:=3) Z.nd W (Ci W) (Zm (Yi (K:=K) W) {} T.b_len BI (Za (UJ J #[2] #[4] {}) Zc)) GQ))
 (Ze (Zx Vl)))))))
 (Ze (Zx #[3]))))),λ_=>(Zs (Xh (Ah JD (by symm)) (Ak 2)) (Zs (by symm) (Zs (Sq (BV (Zt 1)) (Ak 4) (Vu (by symm) (HK Vk) (Vu (s_b (vX (Zt 4) (Zt 2))) (HK (Ah YK (Z9 (UY (Zt 2) (Zt 4)) Y3))) (Xv OQ)))) (Xv (Zt 3))))),λds M Kk hM hD h=>?_}
  let{L,d,E,rfl,h}:=h;let{hd,{fr,fi,hE},k}:=h;let wb:=Rg fr;exists ·,_,L.map prK,W,by rw[Jy];rfl,by rw[Ja];let:=fi.1;lia,?_;generalize Uz [] (L.map prK)=kd at wb;exists ·,_,(X4 hd).2.1,λi ρ M'=>∃v4 kn,ρ=[some (tbl L),some d,some (.dct kd),some (.int ((kn.length:Nat):Int)),v4]/\M=M'/\Ae L (E.take i)=some kn,λi ρ M' _⟨_,kn,_,z,_⟩=>by rw[<-z];show(X4 hd).2.1,{_,[],W,W,W},?_,?_
  .rintro i x ρ _ hi hx ⟨v4,kn,rfl,rfl,Y⟩;let{G,rfl}:=Z7 hx;show{·,?_};cases he:E[i]with
   |none =>
    show{·,Aa {_,W,_,W,.inl {_,kn++[none],by rw[Jc];rfl,W,IM G Y (by rw[he];rfl)}}}
   |some s =>
    show{·,AZ {_,W,_,W,_,.inl {_,_,W,W,W},_,W,?_}}
    by_cases B:∃p∈L,p.1=s
    .let⟨p,B,e⟩:=B;let hv:=wb.1 p B;rw[e]at hv;rw[hv];show Aa {_,W,_,W,_,W,_,.inl {_,_,W,W,hv.symm},_,W,_,W,.inl {some (.int s),kn++p.2.map some,?_,W,IM G Y (by rw[he,<-e];show JP fr B)}};rw[Jc,Ja,Ja];rfl
    .let O:∀p∈L,p.1≠s:=λp hq e=>B {p,hq,e};rw[wb.2 _ O];show AZ (.inl ?_);rw[TZ G ?_]at k
     .show k
     .rw[he];show(L.find? λp=>decide (p.1=s)).map _=none;rw[F7.mpr λp B z=>O p B (Dz z)];rfl
  .rintro ρ _ ⟨v4,kn,rfl,rfl,Y⟩;rw[show El _ E=E from by rw[show(List.map oD E).length=E.length from Ja _];show Gc]at Y;rw[Y]at k;show{·,.inl k}
def zC(T:Txt mg)(Z:Aq P w K mg dC "_law_size" 4 q07 (AH {C,K} dSizeL))(F:AY K "_law_small" "_law_small" Iy f fd):AK P w K mg dC A7 5 f fd q01 (AH {C,K} dSmall):=by
 show L3.AY.ok3 F ZC (λds M K3 h=>?_) (λcdv A dD s H E B=>?_)
 .let⟨L,d,E,m,rfl,_⟩:=h;rfl
 .let SC:=ZC;let hu:=B.units;let G:=Xf B;let Ux:AG 4 _:=B.mono nofun;show{_,_,(Zb (Zp (i:=3) SC.nd W (Ci W) (Zv Z Ux W (Za #[0] (Za #[1] Zc))))
 (Ze (Zx (aS (JT (Um #[3])) (GH (cM OS #[3] #[2] (Z6 _))))))),λ_=>(by symm),λds M Kk hM hD h=>?_}
  let{L,d,E,m,rfl,h}:=h;let{hd,{O,Y,J},k}:=h;show{·,·,L,d,E,W,hd,{O,Y,J},?_};cases hk:Ae L E with
  |none =>
   rw[hk]at k;show{·,·,Aa (.inl k)}
  |some kn =>
   rw[hk]at k;show{·,·,AZ {_,W,_,W,_,_,W,W,.inl k}}
open L3
def gD(U:List Pr):D:=.tup [.lst ((Zi U).map .int),.int (((Zu U).length:Nat):Int)]
def uD(U:List Pr):D:=.lst ((Zi U).map .int)
def uE(U:List Pr)(p:Pr):Zi (U++[p])=Zi U++[p.1]:=by unfold Zi;rw[Ji];rfl
def O8{n:Nat}{G:List (List Pr)}{i:Nat}(hi:i<G.length):(G.take (i+1)).flatMap (lg1 L n)=(G.take i).flatMap (lg1 L n)++lg1 L n G[i]:=by
 rw[Jh hi,List.flatMap_append];simp
theorem qT(T:Txt mg)(Wa:Aq P w K mg dC "_law_size" 4 q07 (AH {C,K} dSizeL))(Xg:Aq P w K mg dC "_law_carried" 4 q05 (AH {C,K} dCarr))(F:AY K "_law_all" "_law_all" LY f fd):AK P w K mg dC A7 6 f fd q10 (AH {C,K} dAllL):=by
 show L3.AY.ok3 F O4 (λds M K3 h=>?_) (λcdv A dD s H E hr=>?_)
 .let⟨L1,L2,d,E,bs,rfl,_⟩:=h;rfl
 .let SC:=O4;let hu:=hr.units;let b1:=Xf hr;let Ux:AG 4 _:=hr.mono nofun;let W0:AG 4 _:=hr.mono nofun;show{_,_,(Zb (Zp (i:=3) SC.nd rfl (C4 rfl) (Zv Wa Ux rfl (Za #[1] (Za #[2] Zc))))
 (Zb (Yz (Wy (Um #[3]))
 (Ze (Zx (Yk Zc)))
 Z1)
 (Zb (Zp (i:=4) SC.nd rfl (Ci rfl) (Yk Zc))
 (Zb (Zp (i:=5) SC.nd rfl (Ci rfl) (Yk (Za (Y1 (Za (Yk Zc) (Za Zd Zc))) Zc)))
 (Zb (Sx Cp (Zz (EL (K':=K) rfl hu) #[5] (Yk Zc) (Z6 _))
 (Zb (Zp (i:=6) SC.nd rfl (Ci rfl) (Yk Zc))
 (Zb (X2 Cp rfl (Ye #[5]) (Wj (n:=2) rfl (Zy (Zo (i:=7) SC.nd rfl (C4 rfl)) (Zy (Zo (i:=8) SC.nd rfl (C4 rfl)) Xk)) {})
 (Ze (Yz (Zz (Uc (K':=K) rfl hu) #[8] #[3] (Z6 _))
 (Ze (Wn (P6 Ct Em Eo Vm #[4] (Za #[7] Zc))))
 (Ze (Zp (i:=6) SC.nd rfl (Ci rfl) (Z3 (Yg (K':=K) rfl) #[6] (Yw (T:=["_law_one","_law_some"]) (cs:=[7,8]) rfl (CScope.ok {}) (Ye #[0]) (λ_ _ _ _=>(Wj (n:=2) rfl (Zy #[0,0] (Zy #[1,0] Xk)) {})) (λ_ _ _ _=>Y5) (λ_ _ _ _=>(Y1 (Za (Z3 (Yg (K':=K) rfl) #[2] (Yk (Za #[0] Zc))) (Za (Z3 (Yg (K':=K) rfl) #[3] (Zm (Yi (K:=K) rfl) {} T.b_len BI (Za #[1] Zc))) Zc)))) (Uy (Yf nofun (Yf nofun W1))))))))))
 (Ze (Ul (i:=5) SC.nd rfl rfl (T:=["_law_pair"]) (cs:=[3]) rfl (CScope.ok {}) (Ye #[6]) (λ_ _ _ _=>#[0,0]) (λ_ _ _ _=>(Vb (Zz OS (Z4 (Z5 (K':=K) rfl) #[0] Zd {}) #[1] (Z6 _)))) (λ_ _ _ _=>#[0]) (Xb nofun))))))
 (Ze (Zx (Zm (Pw (K:=K) rfl (Tr hr)) {} T.b_sorted Ek (Za (Yw (T:=["_law_text"]) (cs:=[0,1,2]) rfl (CScope.ok {}) (Ye #[4]) (λ_ _ _ _=>#[0,0]) (λ_ _ _ _=>(Vb (Zz (Uc (K':=K) rfl hu) (Zv Xg W0 rfl (Za #[1] (Za #[2] (Za #[0] Zc)))) #[3] (Z6 _)))) (λ_ _ _ _=>#[0]) (Xb nofun)) Zc))))))))),λ_=>(Zs (by symm) (Zs (by symm) (Zs (Xh (Tl Y3) (Ak 4)) (Zs (by symm) (Zs (by symm) (Xv (Ah xI (Z9 (Ww (BV (Zt 4)) (Ak 0) (So (BE s_eq (Ie (by symm)) (Zt 3))) (Zt 0)) Y3)))))))),λds M Kk hM hD h=>?_}
  let{L1,L2,d,E,bs,rfl,h}:=h;let{hd,{tb,J,a1,hE,hb},k}:=h;let a0:CU L1:=λp hp=>(tb.fi.2 p hp).1;let a2:CU L2:=λp hp=>(a1.2 p hp).1;show{·,·,L2,d,E,rfl,hd,{J,a1,hE},?_};cases hk:Ae L2 E with
  |none =>
   show{·,·,Aa {J9 _,.inl (k [] .nil λt=>{(λh=>nomatch h),λ⟨U,R,_,_,c,e⟩=>D0 {R,c,e} (Ql J hk)})}}
  |some kn =>
  let few:=hb kn hk;let oi:=OO (L1:=L1) J a2 hk;let oo:=λr=>LS J a2 hk (r:=r);let kb:kn.length<=6:=by rcases few with z|z<;>lia
  generalize hn:kn.length=n at *
  show{·,·,AZ ?_};show{J9 _,J9 _,(show 2<=Cb by decide),(show 1<=Cb by decide),?_};exists λm ρ M'=>∃kk F G v6 v7 v8,ρ=[some (tbl L1),some (tbl L2),some d,some (.int ((n:Nat):Int)),some (.cell M.length),some (.lst (G.map gD)),v6,v7,v8]/\M'=M++[.lst (F.map uD)]/\DL L1 n kk F G/\m=n+2-kk,{_,0,[],[[]],_,_,_,by rw[<-hn];rfl,rfl,.zero,rfl},?_;rintro m ρ _ ⟨kk,F,G,v6,v7,v8,rfl,rfl,Y,rfl⟩;let lF:F.length<=448:=ZN tb few Y.fn λU O=>by let{a,_,c}:=(Y.fm U).mp O;show{a,()}
  let lG:G.length<=448:=ZN tb few Y.gn λU O=>by let{a,_,c}:=(Y.gm U).mp O;show{a,c}
  let a8:(G.map gD).length=G.length:=Ja _;show{·,J9 _,T9 (UR (Pq X5) X5) (a:=G.map λU=>(Zi U,(((Zu U).length:Nat):Int))) (b:=[]) (by rw[Jy];rfl) rfl {_,rfl,?_}}
  by_cases hG:G=[]
  .subst hG;show AZ ?_;let fm:=Y.done;let a6:(F.map uD).length=F.length:=Ja _;let wf:∀m∈M++[MO.lst (F.map uD)],Xp (M++[MO.lst (F.map uD)]).length m:=λm hm=>by
    rw[Jc];rcases Jw.mp hm with z|z
    .show(hM m z).up (Nat.le_add_right _ _)
    .rw[Jj.mp z];show FU (W4 (λ_=>N1) F)
   exists ·,_,Qp,?_,λi ys M'=>M'=M++[.lst (F.map uD)]/\ys=((F.take i).filter λU=>(wt kn L2 (0,[]) (Zu U)).isSome).map uD,λ_ _ _ _ z=>by rw[z.1];show Qp,{rfl,rfl},?_,?_
   .show(F.map uD).length<=Cb;rw[a6];show Zn ()
   .rintro i x ys _ hi hx ⟨rfl,rfl⟩;let{B,rfl}:=Z7 hx;let{O,hr}:=(fm _).mp (Jv B);let lU:=Sv a0 O;exists ·,·,·,L1,L2,_,F[i],rfl,rfl,{tb.fr,tb.fi,a1,O,()},λR tl=>{_,_,rfl,by rw[Jc];rfl,Yl,rfl,?_,?_}
    .intro m hm;rcases Jw.mp hm with z|z
     .show wf m z
     .rw[Jj.mp z];show FU (W4 (λ_=>NZ) _)
    rw[Be];show{_,rfl,T9 encO (a:=Aw R) (b:=E) rfl (X4 (Rm hd)).2.1 {_,rfl,?_}};let eq:decide (Aw R=E)=(wt kn L2 (0,[]) (Zu F[i])).isSome:=by
     rw[Fp,D2];exists λe=>((oo _).mp {R,tl,e}).2,λz=>?_;let{R',t',e'}:=(oo _).mpr {hr,z};rwa[Told.uniq J tl t']
    rw[eq];show A5 (λhl=>{_,rfl,rfl,?_}) (λhl=>{rfl,?_})
    .show(Wl (λU=>(wt kn L2 (0,[]) (Zu U)).isSome) uD B true hl).symm
    .show((Wl (λU=>(wt kn L2 (0,[]) (Zu U)).isSome) uD B false (B4 _ ▸ hl)).trans (Jx _)).symm
   rintro ys _ ⟨rfl,rfl⟩;rw[show El _ F=F from by rw[show(F.map uD).length=F.length from a6];show Gc];generalize hQ:(F.filter λU=>(wt kn L2 (0,[]) (Zu U)).isSome)=Q;let Z:∀U,U∈Q↔((∀p∈U,p∈L1)/\(Zu U).length=n)/\(wt kn L2 (0,[]) (Zu U)).isSome=true:=λU=>by rw[<-hQ,Gm,fm]
   let nQ:Q.Nodup:=by rw[<-hQ];show Y.fn.filter _
   let lQ:Q.length<=448:=by rw[<-hQ];show Js (Fm _ _) lF
   exists _,Q.map λU=>(uD U,Zi U),rfl,by rw[Jy];rfl,{by rw[Ja];lia,λz hz=>?_,?_},λys pm pw=>?_
   .let⟨U,_,rfl⟩:=Jq.mp hz;rfl
   .rw[Jy];show Jz.mpr (nQ.imp_of_mem λ{U V}O hV hn e=>hn (Uf tb.fr ((Z U).mp O).1.1 ((Z V).mp hV).1.1 e))
   .let⟨Us,pU,rfl⟩:=_root_.L2.S0 pm rfl;rw[Jy,show(Prod.fst ∘ λU=>(uD U,Zi U))=tLs ∘ Zi from rfl,<-Jy];show Sc (Gj _ _) hM (S9 (W4 (λ_=>N1) _)) (k (Us.map Zi) (Jz.mpr (Jz.mp pw)) λt=>?_);rw[oi,Jq]
    constructor
    .rintro⟨U,O,e⟩;let{{a,b},c}:=(Z U).mp (pU.mem_iff.mp O);show{U,e,a,b,c}
    .rintro⟨U,e,a,b,c⟩;show{U,pU.mem_iff.mpr ((Z U).mpr {{a,b},c}),e}
  rw[BB (by rw[Dp];show hG)];let kn_le:=Y.k_le a0 hG;let a3:=Y.next a0 (AU.nd tb.fr);let a5:(L1.map pD).length=L1.length:=Ja _;let lL:=tb.ln;show Aa {J9 _,?_};let a7:∀i,((G.take i).flatMap (lg1 L1 n)).length<=448*28:=λi=>by
   rw[Ff];show Js (Vj (n:=28) λU _=>?_) (Mc 28 (Js (List.length_take_le' _ _) lG));unfold lg1
   split
   .show J9 _
   .rw[Ja];show lL
  exists ·,·,λi ρ M'=>∃v7 v8,ρ=[some (tbl L1),some (tbl L2),some d,some (.int ((n:Nat):Int)),some (.cell M.length),some (.lst (G.map gD)),some (.lst (((G.take i).flatMap (lg1 L1 n)).map gD)),v7,v8]/\M'=M++[.lst ((F++(G.take i).filter λU=>decide ((Zu U).length=n)).map uD)],λ_ _ _ _ _=>rfl,{_,_,rfl,by rw[List.take_zero,Mr,Jx]},?_,?_
  .rintro i x ρ _ hi hx ⟨v7,v8,rfl,rfl⟩;let{B,rfl}:=Z7 hx;show{·,rfl,_,·,_,·,rfl,?_};show{·,·,Wp X5 (a:=(((Zu G[i]).length:Nat):Int)) (b:=((n:Nat):Int)) {_,rfl,?_}}
   by_cases he:(Zu G[i]).length=n
   .rw[show decide ((((Zu G[i]).length:Nat):Int)=((n:Nat):Int))=true from Ab ()];show Aa {_,rfl,Wo Vw,_,rfl,M.length,_,_,rfl,rfl,Yl,?_,.inl {some (.lst ((Zi G[i]).map .int)),some (.int (((Zu G[i]).length:Nat):Int)),?_,?_}}
    .rw[Ja,Jc];let:((G.take i).filter λU=>decide ((Zu U).length=n)).length<=G.length:=Js (Fm _ _) (List.length_take_le' _ _);show Gr (by lia:_<=1000) nofun
    .rw[O8 B,show lg1 L1 n G[i]=[]from D9 he,Jx];rfl
    .rw[Xj,VR (λU:List Pr=>decide ((Zu U).length=n)) B true (Ab he),D9 rfl,<-Jf,Ji (l₂:=[G[i]])];rfl
   .rw[show decide ((((Zu G[i]).length:Nat):Int)=((n:Nat):Int))=false from BB ()];show AZ {_,rfl,_,rfl,_,rfl,?_,λj ys M'=>M'=M++[.lst ((F++(G.take i).filter λU=>decide ((Zu U).length=n)).map uD)]/\ys=((L1.take j).map λp=>G[i]++[p]).map gD,λ_ _ _ _ _=>rfl,{rfl,rfl},?_,?_}
    .show(L1.map pD).length<=Cb;rw[a5];show Zn ()
    .rintro j x ys _ hj hx ⟨rfl,rfl⟩;let{a9,rfl}:=Z7 hx;let lU:(Zi G[i]).length<=6:=by
      let{a,b,c}:=(Y.gm _).mp (Jv B);rw[show(Zi G[i]).length=G[i].length from Ja _];lia
     show{·,rfl,_,·,_,·,rfl,?_};show{·,·,(show 1<=Cb by decide),_,·,rfl,Zn (by rw[Ja];show _+1<=_;lia),·,·,·,(show 2<=Cb by decide),rfl,?_};rw[Jh a9,Ji,Ji];show _=_++[gD (G[i]++[L1[j]])];unfold gD;rw[uE,Qj,Jc,Db,Ji,Ja];rfl
    rintro ys _ ⟨rfl,rfl⟩;rw[show El _ L1=L1 from by rw[show(L1.map pD).length=L1.length from a5];show Gc];show{_,·,rfl,?_,.inl {some (.lst ((Zi G[i]).map .int)),some (.int (((Zu G[i]).length:Nat):Int)),?_,?_}}
    .rw[Ja,Ja,Ja];let:=a7 i;show Js (by lia:_<=448*28+28) nofun
    .rw[O8 B,show lg1 L1 n G[i]=L1.map λp=>G[i]++[p]from D8 he,Ji];rfl
    .rw[VR (λU:List Pr=>decide ((Zu U).length=n)) B false (BB he),D8 Gb,Jx]
  rintro ρ _ ⟨v7,v8,rfl,rfl⟩;rw[show El _ G=G from by rw[show(G.map gD).length=G.length from a8];show Gc];let l3:=a7 G.length;rw[Gc]at l3;generalize hW:G.flatMap (lg1 L1 n)=W at a3 l3;let a4:(W.map gD).length=W.length:=Ja _;exists ·,·,?_,λi ys M'=>M'=M++[.lst ((F++G.filter λU=>decide ((Zu U).length=n)).map uD)]/\ys=((W.take i).filter λU=>decide ((Zu U).length<=n)).map gD,λ_ _ _ _ _=>rfl,{rfl,rfl},?_,?_
  .show(W.map gD).length<=Cb;rw[a4];show Js l3 nofun
  .rintro i x ys _ hi hx ⟨rfl,rfl⟩;let{B,rfl}:=Z7 hx;show{·,_,_,·,rfl,rfl,·,_,·,rfl,·,?_};rw[show decide ((((Zu W[i]).length:Nat):Int)<=((n:Nat):Int))=decide ((Zu W[i]).length<=n)from decide_eq_decide.mpr ()];show A5 (λhl=>{_,rfl,rfl,?_}) (λhl=>{rfl,?_})
   .show(Wl (λU=>decide ((Zu U).length<=n)) gD B true hl).symm
   .show((Wl (λU=>decide ((Zu U).length<=n)) gD B false (B4 _ ▸ hl)).trans (Jx _)).symm
  rintro ys _ ⟨rfl,rfl⟩;rw[show El _ W=W from by rw[show(W.map gD).length=W.length from a4];show Gc];show{n+2-(kk+1),(),.inl {kk+1,_,_,_,_,_,rfl,rfl,a3,rfl}}
open L3
theorem pY(T:Txt mg)(Zh:Aq P w K mg dC "_law_draw" 1 q00 (AH {C,K} CB))(F:AY K "_law_text_of" "_law_text_of" NW f fd):AK P w K mg dC A7 2 f fd q12 (AH {C,K} bG):=by
 show L3.AY.ok3 F XJ (λds M K3 h=>?_) (λcdv A dD s H E B=>?_)
 .let⟨k,L,m,rfl,_⟩:=h;rfl
 .let G:=XJ;let hu:=B.units;let a0:=Xf B;let Zj:AG 1 _:=B.mono nofun;show{_,_,(Zb (Zp (i:=3) G.nd W (Ci W) (Yk Zc))
 (Zb (Zp (i:=4) G.nd W (Ci W) Zd)
 (Zb (X2 Cp W (Y6 W T.b_range (Za (Zv Zh Zj W (Za #[0] (Za Zd Zc))) Zc)) (Zo (i:=5) G.nd W (Ci W))
 (Ze (Yz (Zz (EL (K':=K) W hu) #[1] (Yk Zc) (Z6 _))
 (Zb (Nj (Z4 (Z5 (K':=K) W) #[1] (Z3 Wz (Zv Zh Zj W (Za #[0] (Za Zd Zc))) (Zm (Yi (K:=K) W) {} T.b_len BI (Za #[1] Zc))) {}) (Wj (n:=2) W (Zy (Zo (i:=6) G.nd W (Ci W)) (Zy (Zo (i:=7) G.nd W (Ci W)) Xk)) {}))
 (Ze (Yz (Zz OS (Z3 (Yg (K':=K) W) #[4] (Zm (Yi (K:=K) W) {} T.b_len BI (Za #[7] Zc))) #[2] (Z6 _))
 (Zb (Wn (P6 Ct Em Eo Vm #[3] (Za #[6] Zc)))
 (Ze (IH (i:=4) G.nd W (Ci W) (Zm (Yi (K:=K) W) {} T.b_len BI (Za #[7] Zc)) GQ)))
 Z1)))
 Z1)))
 (Ze (Zx #[3]))))),λ_=>(Zs (Xh (Tl Y3) (Ak 3)) (Zs (by symm) (Zs (Sq (by symm) (Ak 5) (Vu (by symm) (Zs (by symm) (Vu (by symm) (Zs (by symm) (HK (by symm))) Wg)) Wg)) (Xv (Zt 3))))),λds M Kk hM hD h=>?_}
  let{k,L,m,rfl,h}:=h;let{hk,{fi,hm},kk}:=h;let J:∀{X:AC},(M++X)[k]?=some .hand:=Xl hk;let lm:(L.map pD).length=L.length:=Ja _;show{J9 _,?_};exists ·,k,7,W,J,{nofun,nofun},λr r0 r1=>{r,W,{(),()},?_};exists λi ρ M'=>∃v5 Z Y U,ρ=[some (.cell k),some (tbl L),some (.int m),some (.cell M.length),some (.int (((Zu U).length:Nat):Int)),v5,Z,Y]/\M'=M++[.lst ((Zi U).map .int)]/\(∀p∈U,p∈L)/\(((Zu U).length:Int)<=m\/U=[])/\U.length<=i,λ_ _ _ _ _=>trivial,{_,_,_,[],W,W,(λ_ h=>nomatch h),.inr W,Jk _},?_,?_
  .rintro i x ρ _ hi hx ⟨v5,Z,Y,U,rfl,rfl,O,B,lU⟩;let a1:i<7:=by
    let:i<r.toNat:=hi;lia
   show{·,J9 _,T9 lT (a:=L) (b:=[]) W W {_,W,?_}}
   by_cases hL:L=[]
   .rw[Ab hL];show AZ (.inl {_,_,_,U,W,W,O,B,()})
   rw[BB hL];let h0:=Gh.mpr hL;show Aa {_,W,_,W,k,60,W,J,{nofun,nofun},λq q0 q1=>?_};let hq:q % (L.length:Int)=((q.toNat % L.length:Nat):Int):=by
    rw[Int.natCast_emod,Int.toNat_of_nonneg q0]
   let hj:q.toNat % L.length<L.length:=Nat.mod_lt _ h0;exists ·,·,_,·,W,by rw[lm];lia,_,_,·,W,Yj (f:=pD) (as:=L) (j:=q.toNat % L.length) (by rwa[lm]) hj,?_;let hp:=Jv hj;generalize L[q.toNat % L.length]=p at hp;show{·,W,_,·,_,·,W,?_};let lp:(p.2.map D.int).length=p.2.length:=Ja _;show{·,·,·,·,_,·,W,·,?_};show A5 (λhz=>?_) (λhz=>.inl {_,_,_,U,W,W,O,B,()});let hz:=Dz hz;rw[lp]at hz;show{·,Wo Vw,·,M.length,_,·,W,Yl,?_,?_}
   .rw[Ja];unfold Zi;rw[Ja];show Gr (by lia:_<=1000) nofun
   rw[Xj];show{·,·,·,·,.inl {some x,some (.int p.1),some (wD p.2),U++[p],?_,?_,λz hz=>(Jw.mp hz).elim (O z) λy=>by rwa[Jj.mp y],.inl ?_,?_}}
   .rw[Qj,Jc,lp,Db];rfl
   .unfold Zi;rw[Ji,Ji];rfl
   .rw[Qj,Jc,Db];show hz
   .rw[Jc];show U.length+1<=_;lia
  .rintro ρ _ ⟨v5,Z,Y,U,rfl,rfl,O,B,lU⟩;show{·,.inl (kk U O B ?_)};let:U.length<=r.toNat:=lU;lia
open L3
theorem GU(xs:List τ)(lo hi:Option Int):(cut xs lo hi).length<=xs.length:=by
 unfold cut;rw[Ga,Gf];lia
theorem ZD(xs:List τ)(h:0<=a)(B:a<=b):(cut xs none (some a)).length+(cut xs (some b) none).length<=xs.length:=by
 let{m,rfl}:=Fb h;let{n,rfl}:=Fb (SX h B);rw[Vy,Vn,Ga,Gf];lia
theorem qF(T:Txt mg)(Zh:Aq P w K mg dC "_law_draw" 1 q00 (AH {C,K} CB))(Xg:Aq P w K mg dC "_law_carried" 4 q05 (AH {C,K} dCarr))(Wf:Aq P w K mg dC "_law_text_of" 2 q12 (AH {C,K} bG))(Xt:Aq P w K mg dC "_law_small" 5 q01 (AH {C,K} dSmall))(F:AY K "_law_entries" "_law_entries" OC f fd):AK P w K mg dC A7 6 f fd q02 (AH {C,K} dEnts):=by
 show L3.AY.ok3 F PR (λds M K3 h=>?_) (λcdv A dD s H E hr=>?_)
 .let⟨k,c,bs,ss,Z,rfl,_⟩:=h;rfl
 .let J:=PR;let hu:=hr.units;let a9:=Xf hr;let Zj:AG 1 _:=hr.mono nofun;let W0:AG 4 _:=hr.mono nofun;let Uw:AG 2 _:=hr.mono nofun;let Vx:AG 5 _:=hr.mono nofun;show{_,_,(Zb (Zp (i:=4) J.nd W (Ci W) (Zv Xg W0 W (Za (Z4 (Z5 (K':=K) W) #[1] Zd {}) (Za (Z4 (Z5 (K':=K) W) #[1] Zd {}) (Za (Zv Wf Uw W (Za #[0] (Za (Z4 (Z5 (K':=K) W) #[1] Zd {}) (Za #[2] Zc)))) Zc)))))
 (Zb (Zp (i:=5) J.nd W (Ci W) (Zv Zh Zj W (Za #[0] (Za Zd Zc))))
 (Zb (Zp (i:=6) J.nd W (Ci W) (Z3 Wz (Zv Zh Zj W (Za #[0] (Za Zd Zc))) (Z3 (Yg (K':=K) W) (Zm (Yi (K:=K) W) {} T.b_len BI (Za #[4] Zc)) Zd)))
 (Zb (Zp (i:=7) J.nd W (Ci W) #[4])
 (Zb (Yz (Zz (Uc (K':=K) W hu) #[5] Zd (Z6 _))
 (Zb (Zp (i:=8) J.nd W (Ci W) (Z4 (Z5 (K':=K) W) (Yk (Za Vl (Za (Z4 (Z5 (K':=K) W) #[3] (Zv Zh Zj W (Za #[0] (Za Zd Zc))) {}) Zc))) (Zv Zh Zj W (Za #[0] (Za Zd Zc))) {}))
 (Ze (Zp (i:=7) J.nd W (Ci W) (Z3 (Yg (K':=K) W) (Z3 (Yg (K':=K) W) (Yn (Vi (K':=K) W) #[4] Xa (Yr #[6])) (Yk (Za #[8] Zc))) (Yn (Vi (K':=K) W) #[4] (Yr (Z3 (Yg (K':=K) W) #[6] (Zv Zh Zj W (Za #[0] (Za Zd Zc))))) Xa)))))
 Z1)
 (Zb (Yz (Zz (Uc (K':=K) W hu) #[5] Zd (Z6 _))
 (Zb (Zp (i:=7) J.nd W (Ci W) (Zv Wf Uw W (Za #[0] (Za (Z4 (Z5 (K':=K) W) #[1] Zd {}) (Za #[2] Zc)))))
 (Ze (Zp (i:=7) J.nd W (Ci W) (Z3 (Yg (K':=K) W) (Z3 (Yg (K':=K) W) (Yn (Vi (K':=K) W) #[7] Xa (Yr #[6])) (Z3 Tj (Yk (Za Vl Zc)) (Zv Zh Zj W (Za #[0] (Za Zd Zc))))) (Yn (Vi (K':=K) W) #[7] (Yr #[6]) Xa)))))
 Z1)
 (Zb (Yz (V8 (Zv Xt Vx W (Za (Z4 (Z5 (K':=K) W) #[1] Zd {}) (Za #[7] (Za #[2] Zc)))))
 (Ze (Zx #[7]))
 Z1)
 (Ze (Zx #[4]))))))))),λ_=>(Zs (Xh (Ie (GI (Z9 (by symm) (Z9 (by symm) (Z9 (Ie (by symm)) Y3))))) (Ak 4)) (Zs (by symm) (Zs (by symm) (Zs (by symm) (Zs (by symm) (Zs (Vu (by symm) (Zs (Xh (Ie (by symm)) (Ak 7)) (by symm)) Wg) (by symm))))))),λds M Kk hM hD h=>?_}
  let{k,c,bs,ss,Z,rfl,h}:=h;let{G,hc,{ht,hs},kk}:=h;let sq:=(X4 (Xo hc)).2.2;let l3:=ht.1;let at0:=Yj (f:=tbl) (as:=Z) (i:=0) (j:=0) W ();let B:=Yj (f:=tbl) (as:=Z) (i:=1) (j:=1) W ();let t0:=ht.2 _ (Jv (show 0<Z.length by lia));let t1:=ht.2 _ (Jv (show 1<Z.length by lia));generalize Z[0]=L0 at at0 t0;generalize Z[1]=L1 at B t1;let a5:Uo bs<=6:=by unfold Uo;split<;>decide
  let mb:Uo bs<=100:=by lia
  let frz:∀{τ:Type}{f:τ->D}(as:List τ){K':K3},(∀a,Ym M.length (f a))->K' (.lst (as.map f)) M->frzK M.length K' (.cell M.length) (M++[.lst (as.map f)]):=by
   intro τ f as K' hb hK;show{_,_,W,by rw[Jc];rfl,Yl,W,λm hm=>?_,by rwa[Be]};rcases Jw.mp hm with z|z
   .show hM m z
   .rw[Jj.mp z];show FU (W4 hb as)
  show{_,W,_,_,_,sq,W,at0,_,W,_,_,_,sq,W,B,_,W,_,W,_,_,_,sq,W,at0,_,W,k,L0,_,W,G,{t0.fi,mb},λU hU hm lU=>frz _ (λ_=>Vp) ?_};show{L0,L1,_,U,W,W,{t0.fr,t0.fi,t1.fi,hU,()},λR tl=>frz _ (λ_=>NZ) ?_};let lR:(Aw R).length<=6:=by
   let h1:=tl.len;rw[show(Aw R).length=R.length from Ja _];rcases hm with z|z
   .lia
   .let:(Zu U).length=0:=by rw[z];rfl
    lia
  generalize Aw R=E0 at lR;let a8:(E0.map oD).length=E0.length:=Ja _;exists ·,k,5,W,G,{nofun,nofun},λw w0 w1=>?_;exists ·,k,60,W,G,{nofun,nofun},λa a0 a1=>?_;show{·,·,_,·,W,(),?_};show uG 6 (D.int (a % (((E0.map oD).length:Int)+1))) _ _ _;let Y:0<=a % (((E0.map oD).length:Int)+1):=Bq _ ();generalize a % (((E0.map oD).length:Int)+1)=at_ at Y;show{·,g_nx ?_}
  try dsimp only
  let' St:Ev->AC->Prop:=λa2 M'=>∃(E1:List (Option Int))(v8:Option D),a2=[some (.cell k),some (.cell c),some (.int (Uo bs)),some (.lst (ss.map .int)),some (.lst (E0.map oD)),some (.int w),some (.int at_),some (.lst (E1.map oD)),v8]/\M=M'/\E1.length<=8
  show P4 St (λKn hn=>?_) ?_
  .show{·,Wp X5 (a:=w) (b:=0) {_,W,A5 (λ_=>?_) (λ_=>hn _ _ {E0,_,W,W,()})}};show xB (λd M'=>∃o:Option Int,d=oD o/\M=M') (λKq hq=>?_) ?_
   .exists ·,·,k,14,W,G,{nofun,nofun},λr r0 r1=>?_;show{_,_,·,W,Yj (f:=D.int) (as:=ss) (j:=r.toNat) () (),(show 2<=Cb by decide),?_};exists ·,k,2,W,G,{nofun,nofun},λq q0 q1=>?_;show{_,_,·,W,Yj (f:=oD) (as:=[none,some ss[r.toNat]]) (j:=q.toNat) () (by show q.toNat<2;lia),hq _ _ {_,W,W}}
   rintro _ _ ⟨o,rfl,rfl⟩;show{·,·,·,·,·,(show 1<=Cb by decide),_,·,W,?_,?_}
   .let:=GU (E0.map oD) none (some at_);show Zn (by show _+1<=_;lia)
   exists ·,·,·,k,2,W,G,{nofun,nofun},λq q0 q1=>{_,W,_,W,_,_,W,W,?_,?_}
   .let:=GU (E0.map oD) none (some at_);let:=GU (E0.map oD) (some (at_+q)) none;rw[Jc];show Zn (by show _+1+_<=_;lia)
   show hn _ _ {cut E0 none (some at_)++[o]++cut E0 (some (at_+q)) none,some (oD o),?_,W,?_}
   .rw[Ji,Ji,Vz,Vz];rfl
   .let:=ZD E0 Y (show at_<=at_+q by lia);rw[Jc,Jc];show _+1+_<=_;lia
  rintro _ _ ⟨E1,v8,rfl,rfl,O⟩;show P4 St (λKn hn=>?_) ?_
  .show{·,Wp X5 (a:=w) (b:=1) {_,W,A5 (λ_=>?_) (λ_=>hn _ _ {E1,_,W,W,O})}};exists ·,·,_,_,_,sq,W,B,·,k,L1,·,G,{t1.fi,mb},λU hU _ lU=>frz _ (λ_=>Vp) ?_;let a3:(Zi U).length<=6:=by rwa[show(Zi U).length=U.length from Ja _]
   rw[show(Zi U).map D.int=((Zi U).map some).map oD from by rw[Jy];rfl];let a4:((Zi U).map some).length<=6:=by rwa[Ja]
   generalize (Zi U).map some=E2 at a4;let a7:(E2.map oD).length=E2.length:=Ja _;let c1:=GU (E2.map oD) none (some at_);let c2:=GU (E2.map oD) (some at_) none;show{_,W,_,W,_,W,_,W,(show 1<=Cb by decide),_,W,k,2,W,G,{nofun,nofun},λq q0 q1=>?_};let eN:(Co q.toNat [D.non]).flatten=(Co q.toNat (none:Option Int)).map oD:=by
    generalize q.toNat=n
    induction n with
    |zero=>rfl
    |succ n ih=>rw[Bh,Bl,ih,Bh];rfl
   let lN:(Co q.toNat (none:Option Int)).length<=1:=by rw[List.length_replicate];lia
   show{_,·,W,{(),(),Zn (by show 1*_<=_;lia)},?_};rw[eN];generalize Co q.toNat (none:Option Int)=Ns at lN;let a6:(Ns.map oD).length=Ns.length:=Ja _;show{_,·,W,Zn (),·,·,·,·,_,·,W,?_,?_}
   .rw[Jc];show Zn ()
   show hn _ _ {cut E2 none (some at_)++Ns++cut E2 (some at_) none,v8,?_,W,?_}
   .rw[Ji,Ji,Vz,Vz];rfl
   .let:=ZD E2 Y (GC at_);rw[Jc,Jc];lia
  rintro _ _ ⟨E1,v8,rfl,rfl,O⟩;show{·,_,_,_,sq,W,B,·,·,L1,_,E1,·,W,{t1.fr,t1.fi,()},·,A5 (λ_=>{_,W,.inl (kk E1 O)}) (λ_=>{_,W,.inl (kk E0 ())})}
open L3
theorem zG(T:Txt mg)(F:AY K "_law_same" "_law_same" NQ f fd):AK P w K mg dC A7 4 f fd q24 (AH {C,K} dSame72):=by
 show L3.AY.ok3 F QN (λds M K3 h=>?_) (λcdv A dD s H E hr=>?_)
 .let⟨d,e,xs,ts,rfl,_⟩:=h;rfl
 .let SC:=QN;let hu:=hr.units;let a0:=Xf hr;show{_,_,(Zb (Yz (PW.pt (IG (Q5 (V8 (Zm (Iu (K:=K) W) {} T.b_isinstance Cs (Za #[0] (Za (Ri (v:=.ty "list") W T.b_list Hc W) Zc))))) (HE (Zz (EL (K':=K) W hu) (Zm (Yi (K:=K) W) {} T.b_len BI (Za #[0] Zc)) (Zm (Yi (K:=K) W) {} T.b_len BI (Za #[1] Zc)) (Z6 _)))))
 (Ze (Zx Tx))
 Z1)
 (Zb (X2 Cp W (Y6 W T.b_range (Za (Zm (Yi (K:=K) W) {} T.b_len BI (Za #[1] Zc)) Zc)) (Zo (i:=2) SC.nd W (Ci W))
 (Zb (Yz (PW.pt (IG (Q5 (V8 (Zm (Iu (K:=K) W) {} T.b_isinstance Cs (Za (Z4 (Z5 (K':=K) W) #[0] #[2] {}) (Za (Ri (v:=.ty "list") W T.b_list Hc W) Zc))))) (HE (Zz (EL (K':=K) W hu) (Z4 (Z5 (K':=K) W) #[0] #[2] {}) (Z4 (Z5 (K':=K) W) #[1] #[2] {}) (Z6 _)))))
 (Ze (Zx Tx))
 Z1)
 (Ze (Yz (V8 (Zm (UM (K:=K) W W) {} T.b_any PyProof.Rows.boot_any (Za (Yw (T:=["_law_one"]) (cs:=[]) W (CScope.ok {}) (Ye (Z4 (Z5 (K':=K) W) #[0] #[2] {})) (λ_ _ _ _=>#[0,0]) (λ_ _ _ _=>Y5) (λ_ _ _ _=>(aS (Zm (Iu (K:=K) W) {} T.b_isinstance Cs (Za #[0] (Za (Ri (v:=.ty "bool") W T.b_bool gQ W) Zc))) (GH (ND (Zm (Iu (K:=K) W) {} T.b_isinstance Cs (Za #[0] (Za (Ri (v:=.ty "int") W T.b_int yU W) Zc))))))) (Xb nofun)) Zc)))
 (Ze (Zx Tx))
 Z1))))
 (Ze (Zx Tx)))),λ_=>(Zs (Vu (s_or (MG (s_b (Ah (IC (T:=.list)) (by symm)))) (by symm)) (Xv s_bl) Wg) (Zs (Sq (by symm) (Ak 2) (Zs (Vu (s_or (MG (s_b (Ah (IC (T:=.list)) (by symm)))) (by symm)) (Xv s_bl) Wg) (Vu (s_b (Ah On (Z9 (Ww (by symm) (Ak 0) V6 (bE (Ah (IC (T:=.bool)) (by symm)) (IL (Ah (IC (T:=.int)) (by symm))))) Y3))) (Xv s_bl) Wg))) (Xv s_bl))),λds M Kk hM hD h=>?_}
  let{d,e,xs,ts,rfl,h}:=h;let{hd,he,{hl,l2,hx},kk}:=h;let t1:=(X4 hd).1;let lm:(ts.map tLs).length=ts.length:=Ja _;show{·,_,·,t1,·,AZ ?_};show{·,Qb hd {_,W,Qb he (.inl {_,W,_,W,?_})}};rw[Ab (by rw[lm,hl])];show AZ ?_;show{·,Qb he {((ts.map tLs).length:Int),W,{(),()},λi ρ M'=>∃Y:Option D,ρ=[some d,some e,Y]/\M=M',λ_ _ _ _ _=>trivial,{_,W,W},?_,?_}}
  .rintro j x ρ _ O rfl ⟨Y,rfl,rfl⟩;let O:j<ts.length:=by
    let:j<(((ts.map tLs).length:Int)).toNat:=O;lia
   let B:L2.atI xs (0+(j:Int))=some (xs[j]'()):=by rw[Dx];show IS (Jb _)
   let J:L2.atI (ts.map tLs) (0+(j:Int))=some (tLs ts[j]):=Yj (j:=j) () O;let{Z,lv}:=hx j () O;let{ty,G,_}:=X4 Z;generalize xs[j]'()=v at B Z ty G;generalize ts[j]=t at J Z lv ty G;show{·,·,EX hd B {_,_,W,ty,_,W,AZ ?_}};show{·,·,EX hd B {_,W,_,W,EX he J (T9 X5 (a:=t) (b:=t) G W {_,W,?_})}};rw[Ab W];show AZ ?_;show{·,·,EX hd B {_,G,?_,λi ys M'=>M=M'/\ys=((C2 i).map λ_=>false).map .bl,λ_ _ _ _ z=>by rw[<-z.1];show G,{W,W},?_,?_}}
   .show(t.map D.int).length<=Cb;rw[Ja];show Zn ()
   .rintro i x ys _ hi hx ⟨rfl,rfl⟩;let{a1,rfl}:=S5 hx;show{·,_,·,W,·,AZ ?_};show{·,_,·,W,·,W,?_};rw[Dt,Ji,Ji];rfl
   rintro ys _ ⟨rfl,rfl⟩;show{_,·,W,·,?_};rw[show((C2 _).map λ_=>false).any id=false from by simp];show AZ (.inl {_,W,W})
  .rintro ρ _ ⟨Y,rfl,rfl⟩;show .inl kk
open L3
theorem Jax(T:Txt mg)(Vr:mg "TooMany"=some (.ref Zr))(Yy:mg "NoOriginal"=some (.ref Zk))(dW:CZ K Zr fW)(dX:C5 K (.ref Zr) "most"=some none)(Xu:HD K mg "SkewError" Yt)(mts:Mm K Zr (.ref Yt)=some true)(ktt:Hu K (.ref Zr) (.ref Zr)=some true)(ktv:Hu K (.ref Zr) (.type "ValueError")=some true)(ktn:Hu K (.ref Zr) (.ref Zk)=some false)(Ya:CalE P w K mg dC "all_originals" 9 q04 (ET {C,K} (dAllOX Zr)))(F:AY K "_law_too_many" "_law_too_many" MP f fd):AK P w K mg dC A7 10 f fd q03 (AH {C,K} dMany72):=by
 show L3.AY.ok3 F XQ (λds M K3 h=>?_) (λcdv A dD s H E B=>?_)
 .let⟨S1,S,d,E,G,rfl,_⟩:=h;rfl
 .let SC:=XQ;let Z:=B.units;let Y:=Xf B;let Yx:AG 9 _:=B.mono nofun;show{_,_,(Zb (bF W W (λ_ _ _ _ hx=>YT (aK (TX Ya Yx W hx (Za #[0] (Za #[1] (Za #[2] (Za #[3] Zc))))))) (SS (i:=4) Xu W SC.nd W W (λ_=>(Ze (Zx (Nk (Zm (Vo (K:=K) W) {} T.b_isinstance Cs (Za #[4] (Za (Vv (v:=.ref Zr) W Vr W) Zc))) (Nk (Zm (Vo (K:=K) W) {} T.b_isinstance Cs (Za #[4] (Za (Ri (v:=.ty "ValueError") W T.b_ValueError U1 W) Zc))) (Nk (ND (Zm (Vo (K:=K) W) {} T.b_isinstance Cs (Za #[4] (Za (Vv (v:=.ref Zk) W Yy W) Zc)))) (GH (cM (Uc (K':=K) W Z) (gC (K:=K) W #[4] W) #[3] (Z6 _))))))))) bD))
 (Ze (Zx Tx))),λ_=>(Zs (cQ (λ_ _ _ he hk hx=>(R9 (cG he hk hx (by symm)))) (bS (Xv (Nh (Ah Ng (Z9 (Zt 4) (Z9 s_at Y3))) (Nh (Ah Ng (by symm)) (Nh (IL (Ah Ng (Z9 (Zt 4) (Z9 s_at Y3)))) (BE s_eq (sA (Zt 4)) (Zt 3)))))) SO)) (Xv s_bl)),λds M Kk hM hD h=>?_}
  let{S1,S,d,E,G,rfl,h}:=h;let{hd,{hI,O,J},k}:=h;exists ·,·,·,·,S1,S,d,E,G,W,hd,{hI,O},λ_ M' pm=>?_,λhz=>D0 J ();show{true,mts,?_};rw[D9 W];show{·,Zr,_,_,true,fW,W,dW,.inr (.inl {_,W,ktt}),·,Aa ?_};show{·,Zr,_,_,true,fW,W,dW,.inl {_,W,ktv},·,Aa ?_};show{·,Zr,_,_,false,fW,W,dW,.inr (.inl {_,W,ktn}),·,·,Aa ?_};show{·,Zr,_,_,·,dW,dX,W,·,.inl {_,W,?_}};rw[Ab W];show Sc pm hM Rc k
open L3
theorem nV(T:Txt mg)(Vr:mg "TooMany"=some (.ref Zr))(Yy:mg "NoOriginal"=some (.ref Zk))(G:mg "NoSign"=some (.ref V2))(dM:CZ K Zk fN)(Xu:HD K mg "SkewError" Yt)(mns:Mm K Zk (.ref Yt)=some true)(knn:Hu K (.ref Zk) (.ref Zk)=some true)(knv:Hu K (.ref Zk) (.type "ValueError")=some true)(knt:W.kitAny K (.ref Zk) [.ref Zr,.ref V2]=some false)(Yq:CalE P w K mg dC "least_original" 9 q17 (ET {C,K} (dLeastX Zk)))(F:AY K "_law_none" "_law_none" OP f fd):AK P w K mg dC A7 10 f fd q11 (AH {C,K} dNone72):=by
 show L3.AY.ok3 F VM (λds M K3 h=>?_) (λcdv A dD s H E B=>?_)
 .let⟨S1,S,d,E,rfl,_⟩:=h;rfl
 .let SC:=VM;let hu:=B.units;let O:=Xf B;let Xn:AG 9 _:=B.mono nofun;show{_,_,(Zb (bF rfl rfl (λ_ _ _ _ hx=>YT (aK (TX Yq Xn rfl hx (Za #[0] (Za #[1] (Za #[2] Zc)))))) (SS (i:=3) Xu rfl SC.nd rfl rfl (λ_=>(Ze (Zx (Nk (Zm (Vo (K:=K) rfl) {} T.b_isinstance Cs (Za #[3] (Za (Vv (v:=.ref Zk) rfl Yy rfl) Zc))) (Nk (Zm (Vo (K:=K) rfl) {} T.b_isinstance Cs (Za #[3] (Za (Ri (v:=.ty "ValueError") rfl T.b_ValueError U1 rfl) Zc))) (GH (ND (Zm (Vo (K:=K) rfl) {} T.b_isinstance Cs (Za #[3] (Za (Y1 (Za (Vv (v:=.ref Zr) rfl Vr rfl) (Za (Vv (v:=.ref V2) rfl G rfl) Zc))) Zc)))))))))) bD))
 (Ze (Zx Tx))),λ_=>(Zs (cQ (λ_ _ _ he Z hx=>(R9 (cG he Z hx (by symm)))) (bS (Xv (Nh (Ah Ng (Z9 (Zt 3) (Z9 s_at Y3))) (Nh (Ah Ng (by symm)) (IL (Ah Ng (Z9 (Zt 3) (Z9 (GW (Z9 s_at (Z9 s_at Y3))) Y3))))))) SO)) (Xv s_bl)),λds M Kk hM hD h=>?_}
  let{S1,S,d,E,rfl,h}:=h;let{hd,{J,hz},k}:=h;exists ·,·,·,S1,S,d,E,rfl,hd,J,λ_ M' pm=>?_,λ_ _ _ _ _ _ _ Y=>D0 (RK J Y) ();show{true,mns,?_};rw[D9 rfl];show{·,Zk,_,_,true,fN,rfl,dM,.inr (.inl {_,rfl,knn}),·,Aa ?_};show{·,Zk,_,_,true,fN,rfl,dM,.inl {_,rfl,knv},·,Aa ?_};show{·,(show 2<=Cb by decide),Zk,_,_,false,fN,rfl,dM,.inr (.inr {[Zr,V2],rfl,knt}),·,Sc pm hM Rc k}
open L3
theorem zR(T:Txt mg)(Sh:Aq P w K mg dC "_law_none" 10 q11 (AH {C,K} dNone72))(Wb:Aq P w K mg dC "_law_same" 4 q24 (AH {C,K} dSame72))(Ya:Aq P w K mg dC "all_originals" 9 q04 (AH {C,K} (λds M K=>dAllOX Zr ds M K λ_ _ _=>False)))(Yq:Aq P w K mg dC "least_original" 9 q17 (AH {C,K} (λds M K=>dLeastX Zk ds M K λ_ _ _=>False)))(X7:Aq P w K mg dC "_law_too_many" 10 q03 (AH {C,K} dMany72))(F:AY K "_law_right" "_law_right" NL f fd):AK P w K mg dC A7 11 f fd q08 (AH {C,K} dRight72):=by
 show L3.AY.ok3 F RQ (λds M K3 h=>?_) (λcdv A dD s H E J=>?_)
 .let⟨S1,S,d,E,zs,rfl,_⟩:=h;rfl
 .let SC:=RQ;let hu:=J.units;let b8:=Xf J;let a9:AG 10 _:=J.mono nofun;let W8:AG 4 _:=J.mono nofun;let Yx:AG 9 _:=J.mono nofun;let Xn:AG 9 _:=J.mono nofun;let Ua:AG 10 _:=J.mono nofun;show{_,_,(Zb (Yz (Zz (Uc (K':=K) W hu) #[3] (Yk Zc) (Z6 _))
 (Ze (Zx (Nk (Zv Sh a9 W (Za #[0] (Za #[1] (Za #[2] Zc)))) (GH (Zv Wb W8 W (Za (Zv Ya Yx W (Za #[0] (Za #[1] (Za #[2] (Za Zd Zc))))) (Za (Yk Zc) Zc)))))))
 Z1)
 (Zb (Zp (i:=4) SC.nd W (Ci W) (Zv Yq Xn W (Za #[0] (Za #[1] (Za #[2] Zc)))))
 (Zb (Yz (Q5 (V8 (Zv Wb W8 W (Za (Yk (Za #[4] Zc)) (Za (Yn (Vi (K':=K) W) #[3] Xa (Yr Zd)) Zc)))))
 (Ze (Zx Tx))
 Z1)
 (Zb (Wn (P6 Ct Em Eo Vm #[4] (Za Zd Zc)))
 (Zb (Yz (PW.pt (IG (Q5 (V8 (Zv X7 Ua W (Za #[0] (Za #[1] (Za #[2] (Za (Z3 GB (Zm (Yi (K:=K) W) {} T.b_len BI (Za #[3] Zc)) Zd) Zc))))))) (HE (Q5 (V8 (Zv X7 Ua W (Za #[0] (Za #[1] (Za #[2] (Za Zd Zc))))))))))
 (Ze (Zx Tx))
 Z1)
 (Zb (X2 Cp W (Q7 (Y1 (Za (Zm (Yi (K:=K) W) {} T.b_len BI (Za #[3] Zc)) (Za Zd Zc)))) (Zo (i:=5) SC.nd W (Ci W))
 (Zb (Zp (i:=4) SC.nd W (Ci W) (Zv Ya Yx W (Za #[0] (Za #[1] (Za #[2] (Za #[5] Zc))))))
 (Zb (Yz (Q5 (V8 (Zv Wb W8 W (Za #[4] (Za #[3] Zc)))))
 (Ze (Zx Tx))
 Z1)
 (Zb (Wn (P6 Ct Em Eo Vm (Z4 (Z5 (K':=K) W) #[4] Zd {}) (Za Zd Zc)))
 (Ze (Wn (O3 Ct PySem.F.slot_list_clear PySem.F.type_list_clear wW #[4])))))))
 (Ze (Zx (Zv Wb W8 W (Za (Yk (Za (Zv Yq Xn W (Za #[0] (Za #[1] (Za #[2] Zc)))) Zc)) (Za (Yn (Vi (K':=K) W) #[3] Xa (Yr Zd)) Zc))))))))))),λ_=>(Zs (by symm) (Zs (by symm) (Zs (by symm) (Zs (by symm) (Zs (by symm) (Zs (Sq (by symm) (Ak 5) (Zs (by symm) (Zs (by symm) (Zs (by symm) (R9 (wG (Zt 4))))))) (by symm))))))),λds M Kk hM hD h=>?_}
  let{S1,S,d,E,zs,rfl,h}:=h;let{hd,{B,lz,hs,Y},k}:=h;let hc:zs.length=Xd S1 S E:=Rl B.1 B.2.1 B.2.2.1 B.2.2.2.1 hs Y;show{·,J9 _,T9 (Pq X5) (a:=zs) (b:=[]) W W {_,W,?_}}
  by_cases hz:zs=[]
  .rw[Ab hz];let h0:Xd S1 S E=0:=by rw[<-hc,hz];rfl
   show Aa {_,W,_,W,_,W,S1,S,d,E,W,hd,{B,h0},_,W,Aa ?_};show{_,W,_,W,_,W,S1,S,d,E,0,W,hd,{B,nofun},λh=>D0 h (),λ_ M' c ws a1 a2 a3 a4 a5 a6 a7=>?_};let hw:ws=[]:=by
    cases ws with
    |nil=>rfl
    |cons w ws=>show D0 (RK B ((a7 _).mp (Je ..))) ()
   subst hw;show{J9 _,.cell c,.lst [],[],[],W,Xo a3,W,{W,J9 _,λi h1=>D0 h1 (G9 _)},Sc a1 hM Rc k}
  rw[BB hz];show AZ ?_;let lp:=Gh.mpr hz;exists ·,·,·,S1,S,d,E,W,hd,B,λh=>D0 h (),λM1 c t a1 a2 a3 a4 a5 a6=>?_;let{dG,rfl}:=Np hs ((Y t).mpr a5) λt' h'=>a6 t' ((Y t').mp h');let G:cut ((t::dG).map tLs) none (some 1)=[t].map tLs:=Vy (pl:=1);show{·,(show 1<=Cb by decide),·,·,·,.lst [.cell c],_,[.cell c],[t],W,W,congrArg some G,{W,(show 1<=200 by decide),λi h1 h2=>?_},·,AZ ?_}
  .match i,h1 with
   |0,_=>show{Xo a3,a4}
  exists ·,Wo (Xo a3),c,_,·,W,a3,by rw[Ja];show Gr a4 nofun,?_;let p2:M<+:M1.set c (.lst (t.map D.int++[.int 0])):=JC a1 a2;generalize M1.set c (.lst (t.map D.int++[.int 0]))=M2 at p2;let lm:((t::dG).map tLs).length=(t::dG).length:=Ja _;show{·,·,·,·,·,_,·,W,S1,S,d,E,·,IK p2 hd,{B,(),()},·,AZ ?_};show{·,·,·,S1,S,d,E,0,W,IK p2 hd,{B,nofun,()},·,AZ ?_};exists ·,·,(show 2<=Cb by decide),·,λ_ ρ M'=>∃v4 v5:Option D,ρ=[some (.code S1),some (.code S),some d,some (.lst ((t::dG).map tLs)),v4,v5]/\M<+:M',λ_ _ _ _ _=>trivial,{_,_,W,p2},?_,?_
  .rintro j x ρ Mj hj hx ⟨v4,v5,rfl,O⟩;obtain⟨Z,rfl,m1,m2⟩:∃Z:Int,x=.int Z/\((t::dG).length:Int)<=Z/\Z<=200:=by
    let a8:[D.int (((t::dG).map tLs).length:Int),.int 200][j]?=some x:=hx
    match j,a8 with
    |0,e=>show{_,(BG e).symm,(),()}
    |1,e=>show{200,(BG e).symm,(),nofun}
   let lj:=O.length_le;exists ·,·,·,·,S1,S,d,E,Z,W,IK O hd,{B,m2},λh=>D0 h (),λ_ M' c' ws b1 b2 b3 b4 b5 b6 b7=>?_;let ew:ws.map (·.2.1)=t::dG:=XW b6 hs λz=>(b7 z).trans (Y z).symm;let lw:ws.length=(t::dG).length:=by rw[<-ew,Ja]
   show{·,·,.cell c',_,ws.map clS,t::dG,W,Xo b3,W,{by rw[Ja,lw],lz,λi h1 h2=>?_},·,AZ ?_}
   .let hi:i<ws.length:=by lia
    let{g1,_,_,g4}:=b4 _ (Jv hi);let e2:(t::dG)[i]=ws[i].2.1:=by
     let:=Gi (f:=λx:DF=>x.2.1) (l:=ws) (i:=i);rw[ew,Jb h2,Jb hi]at this;show BG this
    rw[Bc,e2];show{Xo g1,g4}
   let a0:0<ws.length:=by rw[lw];show Nat.succ_pos _
   let{g1,g2,g3,g4}:=b4 _ (Jv a0);let at0:=Yj (f:=clS) (as:=ws) (i:=0) (j:=0) W a0;generalize ws[0]=w0 at g1 g2 g3 g4 at0;exists ·,_,_,_,(X4 (Xo b3)).2.2,W,at0,Wo (Xo g1),w0.1,_,·,W,g1,by rw[Ja];show Gr g4 nofun,?_;exists ·,c',·,W,by rwa[G2 g3],.inl {_,_,W,JC (JC (O.trans b1) ()) ()}
  .rintro ρ Mj ⟨v4,v5,rfl,O⟩;exists ·,·,·,S1,S,d,E,W,IK O hd,B,λh=>D0 h (),λM' c' t' b1 b2 b3 b4 b5 b6=>?_;let{rest',e'}:=Np hs ((Y t').mpr b5) λz h'=>b6 z ((Y z).mp h');cases e';exists(show 1<=Cb by decide),·,·,·,.lst [.cell c'],_,[.cell c'],[t],W,W,congrArg some G,{W,(show 1<=200 by decide),λi h1 h2=>?_},Sc (O.trans b1) hM Rc k
   match i,h1 with
   |0,_=>show{Xo b3,b4}
open L3
abbrev spLaw(K:Cq)(Pt:Addr):Sp:=dB K Pt lamP lamQ
theorem kF(T:Txt mg)(c7:FS P w K mg dC "Code" C 4 q18 (cU K C Pt lamP lamQ))(Sg:Aq P w K mg dC "_law_open" 1 q21 (AH {C,K} dOpen))(V5:Aq P w K mg dC "_law_tables" 4 ["_law_hand"] (AH {C,K} dTabs71))(Vh:Aq P w K mg dC "_law_entries" 6 q02 (AH {C,K} dEnts))(Xt:Aq P w K mg dC "_law_small" 5 q01 (AH {C,K} dSmall))(Rz:Aq P w K mg dC "_law_all" 6 q10 (AH {C,K} dAllL))(U8:Aq P w K mg dC "_law_right" 11 q08 (AH {C,K} dRight72))(Ya:Aq P w K mg dC "all_originals" 9 q04 (AH {C,K} (λds M K=>dAllOX Zr ds M K λ_ _ _=>False)))(F:AY K "law" "law" OA f fd):AK P w K mg dC A7 12 f fd q29 (AH {C,K} (dLawT Pt lamP lamQ)):=by
 show L3.AY.ok3 F YA (λds M K3 h=>?_) (λcdv A dD s H E hr=>?_)
 .let⟨ns,rfl,_⟩:=h;rfl
 .let SC:=YA;let hu:=hr.units;let d1:=Xf hr;let c6:AG 5 _:=hr.mono nofun;let c9:AG 1 _:=hr.mono nofun;let Na:AG 4 _:=hr.mono nofun;let Pl:AG 6 _:=hr.mono nofun;let Vx:AG 5 _:=hr.mono nofun;let c8:AG 6 _:=hr.mono nofun;let d0:AG 11 _:=hr.mono nofun;let Yx:AG 9 _:=hr.mono nofun;show{_,_,(Zb (X2 Cp W (Y6 W T.b_range (Za (Zm (Px W) {} T.b_max Lz (Za Zd (Za (Zm (VT W) {} T.b_min QU (Za (Zm (Yi (K:=K) W) {} T.b_len BI (Za #[0] Zc)) (Za Zd Zc))) Zc))) Zc)) (Zo (i:=1) SC.nd W (Ci W))
 (Zb (Zp (i:=2) SC.nd W (Ci W) (Zv Sg c9 W (Za #[0] (Za #[1] Zc))))
 (Zb (Nj (Zv V5 Na W (Za #[2] Zc)) (Wj (n:=3) W (Zy (Zo (i:=3) SC.nd W (Ci W)) (Zy (Zo (i:=4) SC.nd W (Ci W)) (Zy (Zo (i:=5) SC.nd W (Ci W)) Xk))) {}))
 (Zb (Ul (i:=6) SC.nd W W (T:=["_law_table_here"]) (cs:=[]) W (CScope.ok {}) (Ye #[3]) (λ_ _ _ _=>#[0,0]) (λ_ _ _ _=>Y5) (λ_ _ _ _=>(KU c7 c6 W (Za (Xe (JJ (K:=K) W) {} T.b_list Hc (Za #[0] Zc)) Zc))) (Xb nofun))
 (Zb (Zp (i:=7) SC.nd W (Ci W) (Zv Vh Pl W (Za #[2] (Za #[3] (Za #[4] (Za #[5] Zc))))))
 (Zb (Zp (i:=8) SC.nd W (Ci W) (Xe (JJ (K:=K) W) {} T.b_list Hc (Za #[7] Zc)))
 (Zb (X2 Cp W (Q7 (Y1 (Za (Y1 (Za Zd (Za Zd Zc))) (Za (Y1 (Za Zd (Za Zd Zc))) (Za (Y1 (Za Zd (Za Zd Zc))) (Za (Y1 (Za Zd (Za Zd Zc))) Zc)))))) (Wj (n:=2) W (Zy (Zo (i:=9) SC.nd W (Ci W)) (Zy (Zo (i:=10) SC.nd W (Ci W)) Xk)) {})
 (Ze (Yz (V8 (Zv Xt Vx W (Za (Z4 (Z5 (K':=K) W) #[3] #[10] {}) (Za #[7] (Za #[4] Zc)))))
 (Zb (Zp (i:=11) SC.nd W (Ci W) (Zv Rz c8 W (Za (Z4 (Z5 (K':=K) W) #[3] #[9] {}) (Za (Z4 (Z5 (K':=K) W) #[3] #[10] {}) (Za #[7] Zc)))))
 (Ze (Yz (PW.pt (IG (Q5 (V8 (Zv U8 d0 W (Za (Z4 (Z5 (K':=K) W) #[6] #[9] {}) (Za (Z4 (Z5 (K':=K) W) #[6] #[10] {}) (Za #[8] (Za #[11] Zc))))))) (HE (Zz (EL (K':=K) W hu) #[8] #[7] (Z6 _)))))
 (Ze (Zx Tx))
 Z1)))
 Z1)))
 (Ze (Yz (Zz (EL (K':=K) W hu) (Zv Ya Yx W (Za (Z4 (Z5 (K':=K) W) #[6] Zd {}) (Za (Z4 (Z5 (K':=K) W) #[6] Zd {}) (Za (Yk Zc) (Za Zd Zc))))) (Yk (Za (Yk Zc) Zc)) (Z6 _))
 (Ze (Zx Tx))
 Z1)))))))))
 (Ze (Zx Tx))),λ_=>(Zs (Sq (by symm) (Ak 1) (Zs (by symm) (Zs (by symm) (Zs (Xh (Ww (BV (Zt 3)) (Ak 0) V6 (iE (by symm))) (Ak 6)) (by symm))))) (Xv s_bl)),λds M Kk hM hD h=>?_}
  let{ns,rfl,h}:=h;let{rfl,b9,k}:=h;let lm:∀ns:List Int,(ns.map D.int).length=ns.length:=λns=>Ja _;exists ·,·,_,·,_,·,·,?_,λi ρ M'=>∃v1 v2 v3 v4 v5 v6 v7 v8 v9 a0 Z,ρ=[some (.frz (ns.map .int)),v1,v2,v3,v4,v5,v6,v7,v8,v9,a0,Z]/\[.tab Pt lamP lamQ]=M',λ_ _ _ _ _=>trivial,{_,_,_,_,_,_,_,_,_,_,_,W,W},?_,?_
  .rw[lm]
   constructor<;>(split<;>(try split)<;>lia)
  .rintro i x ρ M' hi rfl ⟨v1,v2,v3,v4,v5,v6,v7,v8,v9,a0,Z,rfl,rfl⟩;let hb:i<63:=by
    let h1:i<Int.toNat _:=hi;rw[lm]at h1
    revert h1
    split<;>(try split)<;>lia
   show{·,·,ns,·,{b9,(),()},?_};exists ·,1,W,W,λbs ss Y hb t3 c4=>?_;show{·,W,_,·,_,·,_,·,W,?_};let lL:=t3.1;let hL:∀i(hi:i<Y.length),TbK Y[i] bs:=λi hi=>t3.2 _ (Jv hi);let zL:(Y.map tbl).length<=Cb:=by rw[Ja,lL];decide
   exists ·,·,zL,λj ys M'=>[.tab Pt lamP lamQ,.hand,.lst (Y.map tbl)]=M'/\∃B:List (List Pr),ys=B.map D.code/\B.length=j/\∀i(h1:i<B.length)(h2:i<Y.length),B[i].Perm Y[i],λ_ _ _ _ z=>by rw[<-z.1];rfl,{W,[],W,W,λi h=>D0 h (G9 _)},?_,?_
   .rintro j x ys _ hj hx ⟨rfl,B,rfl,rfl,a3⟩;let{c0,rfl}:=Z7 (f:=tbl) hx;exists ·,_,·,W,0,_,·,W,W,{(hL _ c0).fr,(hL _ c0).fi},λS pm ri=>{W,B++[S],by rw[Ji];rfl,by rw[Jc];rfl,λi h1 h2=>?_}
    by_cases hi:i<B.length
    .rw[List.getElem_append_left hi];show a3 i hi h2
    .let:i=B.length:=by rw[Jc,G0]at h1;lia
     subst this;rw[List.getElem_append_right (Jk _)];simpa using pm
   rintro ys _ ⟨rfl,B,rfl,a9,a3⟩;let a9:B.length=3:=by rw[a9];show(Y.map tbl).length=_;rw[Ja,lL]
   let hS:∀i(h1:i<B.length)(h2:i<Y.length),AU B[i]/\A6 B[i]:=λi h1 h2=>{(hL i h2).fr.perm (a3 i h1 h2),(hL i h2).fi.perm (a3 i h1 h2)};exists ·,·,·,·,1,2,bs,ss,Y,W,W,W,{t3,c4},λE d4=>?_;let hE:E.length<=50:=by lia
   show{·,_,·,W,?_};let d2:2<=Cb:=by decide
   exists d2,d2,d2,d2,(show 4<=Cb by decide),·,λ_ ρ M'=>∃v9 a0 Z,ρ=[some (.frz (ns.map .int)),some (.int (0+(i:Int))),some (.cell 1),some (.cell 2),some (.int (Uo bs)),some (.lst (ss.map .int)),some (.lst (B.map D.code)),some (.lst (E.map oD)),some (.lst (E.map oD)),v9,a0,Z]/\[.tab Pt lamP lamQ,.hand,.lst (Y.map tbl)]=M',λ_ _ _ _ _=>trivial,{_,_,_,W,W},?_,?_
   .rintro j x ρ _ hj hx ⟨v9,a0,Z,rfl,rfl⟩;obtain⟨a,b,rfl,ha,d3⟩:∃a b:Nat,x=.tup [.int a,.int b]/\a<3/\b<3:=by
     let c5:[D.tup [.int 0,.int 1],.tup [.int 0,.int 2],.tup [.int 2,.int 1],.tup [.int 0,.int 1]][j]?=some x:=hx
     match j,c5 with
     |0,e=>show{0,1,(BG e).symm,nofun,nofun}
     |1,e=>show{0,2,(BG e).symm,nofun,nofun}
     |2,e=>show{2,1,(BG e).symm,nofun,nofun}
     |3,e=>show{0,1,(BG e).symm,nofun,nofun}
    let haL:a<Y.length:=by lia
    let a4:b<Y.length:=by lia
    let a7:a<B.length:=by lia
    let a6:b<B.length:=by lia
    let{J,O}:=hS a a7 haL;let{a1,a2}:=hS b a6 a4;let pa:=a3 a a7 haL;let pb:=a3 b a6 a4;let ta:=hL a haL;let tb:=hL b a4;let c1:=Yj (f:=tbl) (as:=Y) (i:=(a:Int)) (j:=a) W haL;let a8:=Yj (f:=tbl) (as:=Y) (i:=(b:Int)) (j:=b) W a4;let c3:=Yj (f:=D.code) (as:=B) (i:=(a:Int)) (j:=a) W a7;let c2:=Yj (f:=D.code) (as:=B) (i:=(b:Int)) (j:=b) W a6;generalize Y[a]=La at pa ta c1;generalize Y[b]=Lb at pb tb a8;generalize B[a]=Sa at pa J O c3;generalize B[b]=Sb at pb a1 a2 c2;show{·,W,_,·,_,·,W,?_};show{·,·,_,_,·,W,a8,·,·,Lb,_,E,·,W,{tb.fr,tb.fi,hE},·,A5 (λG=>?_) (λ_=>.inl {_,_,_,W,W})}
    let a5:∀kn,Ae Lb E=some kn->FewB bs kn.length:=λkn hk=>by
     rw[hk]at G;let G:decide ((kn.length:Int)<=Uo bs)=true:=G;let G:=Dz G;unfold Uo at G;rcases hb with z|z
     .rw[D9 z]at G;show .inl {(),()}
     .rw[D8 ()]at G;show .inr {(),()}
    show{_,W,_,W,_,_,_,W,W,c1,_,W,_,W,_,_,_,W,W,a8,_,W,La,Lb,_,E,bs,W,W,{ta,tb.fr,tb.fi,hE,a5},λzs hz hm=>?_};let b8:∀t,t∈zs↔CL Sa Sb E t:=λt=>(hm t).trans {λh=>h.perm pa.symm pb.symm,λh=>h.perm pa pb};let lz:zs.length<=200:=by
     rw[Rl J O a1 a2 hz b8];unfold Xd;cases ek:Ae Sb E with
     |none=>show J9 _
     |some kn =>
      rw[TN pb tb.fr]at ek;show Js (rB pa ta) ?_;show bs.length ^ (kn.length-0)<=200;rcases a5 kn ek with⟨b2,n6⟩|⟨b3,n4⟩
      .show Js (Dq b2 _) (Js (Di nofun (show _<=6 by lia)) nofun)
      .show Js (Dq b3 _) (Js (Di nofun (show _<=4 by lia)) nofun)
    show{·,·,_,_,·,W,c3,·,·,_,_,·,W,c2,·,·,Sa,Sb,_,E,zs,W,W,{{J,O,a1,a2,hE},lz,hz,b8},·,AZ ?_};show{·,·,T9 encO (a:=E) (b:=E) W W {_,W,?_}};rw[Ab W];show AZ (.inl {_,_,_,W,W})
   .rintro ρ _ ⟨v9,a0,Z,rfl,rfl⟩;let h0:0<B.length:=by lia
    let h1:1<B.length:=by lia
    let{J,O}:=hS 0 h0 ();let{a1,a2}:=hS 1 h1 ();let h11:Xd B[0] B[1] []=1:=OK W;show{_,W,_,_,_,W,W,Yj (f:=D.code) (j:=0) W h0,_,W,_,_,_,W,W,Yj (f:=D.code) (j:=1) W h1,J9 _,B[0],B[1],_,[],1,W,W,{{J,O,a1,a2,J9 _},nofun},λh=>D0 h (),λ_ M' c ws b1 b2 b3 b4 b5 b6 b7=>?_};let l1:ws.length=1:=by
     let:=Rl J O a1 a2 b6 b7;rw[Ja,h11]at this;show this
    let{X,rfl}:=b1
    match ws,l1 with
    |[w],_ =>
     let ew:w.2.1=[]:=by
      let{U,hU,e}:=(Te J O a1 a2 (show Ae B[1] []=some []from W) w.2.1).mp ((b7 _).mp (Jj.mpr W));let ok:=Iq J O;let{h3,h4}:=(Uq ok.ne U _).mp (Gm.mp hU).1;let h5:=Sv ok.ne h3;let h6:(Zu U).length=0:=h4;let:U=[]:=Bb.mp ();rw[<-e,this];rfl
     let hw:=(b4 w (Jj.mpr W)).1;rw[ew]at hw;show{J9 _,(show 1<=Cb by decide),.inr {.list [.list []],.list [.list []],.seq (X4 (Xo b3)).2.1 (.cons (.seq (X4 (Xo hw)).2.1 .nil) .nil),.seq W (.cons (.seq W .nil) .nil),nofun,nofun,_,W,?_}};show AZ (.inr (.inl {_,{[.hand,.lst (Y.map tbl)]++X,W},.same <|.skip <|.skip <|.skip <|.skip <|.skip <|.skip <|.skip <|.skip <|.skip <|.skip <|.skip .nil,_,_,_,_,_,_,_,_,_,_,_,W,W}))
  .rintro ρ M' ⟨v1,v2,v3,v4,v5,v6,v7,v8,v9,a0,Z,rfl,rfl⟩;show .inl (k _)
end
def all_mk{l:ON}{fa:Addr}(X:K.In h)(G:h.Ns Cw mg)(a0:mg "law"=some (.ref fa)){C:Addr}(aC:EM K Cw "Code"=some (some (.ref C)))(eM:EM K Cw "TooMany"=some (some (.ref Zr)))(eQ:EM K Cw "NoOriginal"=some (some (.ref Zk)))(eS:EM K Cw "FIRST_SPOT"=some (some (.ref Z0)))(eO:EM K Cw "Leaving"=some (some (.ref Zl)))(eZ:EM K Cw "SkewError"=some (some (.ref Yt)))(fH:EM K Cw "NoSign"=some (some (.ref V2)))(h0:BX K "_law_draw" OI f0 d0)(h1:BX K "_law_open" NO f1 d1)(h2:BX K "_law_bytes" JG f2 d2)(h3:BX K "_law_words" JL f3 d3)(h4:BX K "_law_table" JH f4 d4)(h5:MtG K Zr "__init__" "TooMany.__init__" X0 f5 d5)(h6:BX K "odds_between" Va f6 d6)(h7:BX K "fault" MJ f7 d7)(h8:BX K "refuse_fault" W9 f8 d8)(h9:BX K "beginnings" Ui f9 d9)(a10:C5 K (.ref C) "__init__"=some (some (.ref f10)))(l10:K.lookup f10=some {oc10,od10,.func (DE "__init__" "Code.__init__" (X9 Z2) (Xc Z2) (Zf Z2) .none kV10 dc10 pm10 an10 (.ref c) ct10),sl10})(c10:EH K (.ref c) "Code.__init__"=true)(k10:DW K (.ref f10)=true)(n10:W.isFn K (.ref f10)=true)(h11:MtG K C "word" "Code.word" Tt f11 d11)(h12:MtG K C "sign" "Code.sign" Tu f12 d12)(h13:MtG K C "live" "Code.live" Tv f13 d13)(h14:MtG K C "signs" "Code.signs" Uj f14 d14)(h15:BX K "_law_from" MR f15 d15)(h16:BX K "_law_signs" LH f16 d16)(h17:BX K "known_bytes" Vt f17 d17)(h18:BX K "byte_taken" Uh f18 d18)(h19:BX K "word_taken" Ug f19 d19)(h20:BX K "steps_at" Rh f20 d20)(h21:BX K "all_steps" Ts f21 d21)(h22:BX K "counts_behind" Wv f22 d22)(h23:MtG K Zl "__init__" "Leaving.__init__" X1 f23 d23)(h24:MtG K Zl "original_total" "Leaving.original_total" Y4 f24 d24)(h25:BX K "least_original" Wm f25 d25)(h26:BX K "one_step_on" Vs f26 d26)(h27:BX K "all_originals" Wx f27 d27)(h28:BX K "_law_tables" JR f28 d28)(h29:BX K "_law_carried" KG f29 d29)(h30:BX K "_law_size" MZ f30 d30)(h31:BX K "_law_small" Iy f31 d31)(h32:BX K "_law_all" LY f32 d32)(h33:BX K "_law_text_of" NW f33 d33)(h34:BX K "_law_entries" OC f34 d34)(h35:BX K "_law_same" NQ f35 d35)(h36:BX K "_law_too_many" MP f36 d36)(h37:BX K "_law_none" OP f37 d37)(h38:BX K "_law_right" NL f38 d38)(h39:BX K "law" OA f39 d39)(dW:CZ K Zr f5)(fB:L2.S6 K Zr=some (some (.ref f5)))(dX:C5 K (.ref Zr) "most"=some none)(dM:CZ K Zk f39)(eE:L2.S6 K Zk=some none)(eG:CaG K Yt)(eW:L2.OF K Z0=true)(mts:Mm K Zr (.ref Yt)=some true)(ktt:Hu K (.ref Zr) (.ref Zr)=some true)(ktv:Hu K (.ref Zr) (.type "ValueError")=some true)(ktn:Hu K (.ref Zr) (.ref Zk)=some false)(mns:Mm K Zk (.ref Yt)=some true)(knn:Hu K (.ref Zk) (.ref Zk)=some true)(knv:Hu K (.ref Zk) (.type "ValueError")=some true)(knt:W.kitAny K (.ref Zk) [.ref Zr,.ref V2]=some false)(dZ:CQ K Zl)(fE:MkG K Zl)(dQ:C5 K (.ref Zl) "size"=some none)(eC:C5 K (.ref Zl) "behind"=some none)(dP:C5 K (.ref Zl) "steps"=some none)(hd:IZ K c Pt=true)(cl:CQ K C)(mk:MkG K C)(fJ:C5 K (.ref C) "pairs"=some none)(eJ:C5 K (.ref C) "words_by_sign"=some none)(eK:C5 K (.ref C) "signs_by_word"=some none)(fL:C5 K (.ref C) "begun"=some none)(fA:C5 K (.ref C) "word_sizes"=some none)(z:O2 K ["len","abs","max","min","isinstance","any","range","int","bool","tuple","list","dict","sum","sorted","ValueError"]=true)
   :∃fd:Mx,(∃c,IZ K c Pt=true)/\(∀(s:Cc)(v:Ca),ES s fd {[v],[]} [("_law_script",v)])/\∀dC:Heap,K.In dC->dC.Ns Cw mg->Bm mg dC->AK l.prog w K mg dC A7 12 fa fd q29 (spLaw K Pt):=by
  let e:=a0.symm.trans (W.mg_of X G h39.g);cases e;let T:Txt mg:={Wt X G z 0 rfl,Wt X G z 1 rfl,Wt X G z 2 rfl,Wt X G z 3 rfl,Wt X G z 4 rfl,Wt X G z 5 rfl,Wt X G z 6 rfl,Wt X G z 7 rfl,Wt X G z 8 rfl,Wt X G z 9 rfl,Wt X G z 10 rfl,Wt X G z 11 rfl,Wt X G z 12 rfl,Wt X G z 13 rfl,Wt X G z 14 rfl};let O:CodeT K C:={cl,fJ,eJ,eK,fL,fA};let b6:=Zj5 (st:=Z2) l10 c10 k10;let a3:=b6.binds (ps:=q18) λ_ _ _ _ _ _=>us2 λ_ _=>rfl;let bl:∀(s:Cc)(v:Ca),ES s d39 {[v],[]} [("_law_script",v)]:=by
    let{_,_,_,_,_,_,_,_,_,rfl,_,_}:=h39.F.ex;show λs v=>.of_eq rfl
  exists d39,{c,hd},bl,λdC kb _ a2=>?_;let Y:Tk l.prog w K mg dC:={λe=>W.mg_of X G e};let a1:=ZG kb hd;let Vr:=Y.m eM;let Yy:=Y.m eQ;let Z:=Y.m eS;let b7:=Y.m eO;let b2:=Y.m eZ;let b5:=Y.m fH;let dI:=L2.zM eW;let Xu:HD K mg "SkewError" Yt:={b2,eG.t,eG.b};let B:=X6 Y h0 (gK (C:=C) T  h0.F);let Sg:=X6 Y h1 (rC (C:=C) T  h1.F);let U9:=X6 Y h2 (wZ (C:=C) T B h2.F);let U5:=X6 Y h3 (Jcf (C:=C) T B h3.F);let U6:=X6 Y h4 (qA (C:=C) T B h4.F);let Rw:=rx_g Y dW fB h5 (tV T dW dX h5.F) eM
  let Vg:=X6 Y h6 (Jea (C:=C) T  h6.F);let b1:=X6 Y h7 (yB (C:=C) T Vg h7.F);let Vf:=X6 Y h8 (sB (C:=C) T b1 h8.F);let U4:=X6 Y h9 (oX (C:=C) T  h9.F);let a7:FS l.prog w K mg dC "Code" C 4 _ _:={f10,_,{mk.m,a10,n10,mk.k},pE T O a1 a2 Vf U4 l10 c10,Y.m aC,a3};let b4:=FT Y cl h11 (wS T O  h11.F);let J:=L3.CY.imp b4 λ_ _ _ _ h=>L3.yI (C:={C,K}) h;let a9:=FT Y cl h12 (Jbi T O  h12.F);let a5:=L3.CY.imp a9 λ_ _ _ _ h=>L3.rG (C:={C,K}) h;let a8:=FT Y cl h13 (fO T O  h13.F);let a4:=L3.CY.imp a8 λ_ _ _ _ h=>L3.qV (C:={C,K}) h;let b3:=FT Y cl h14 (yD T O  h14.F)
  let a6:=L3.CY.imp b3 λ_ _ _ _ h=>L3.uV (C:={C,K}) h;let Si:=X6 Y h15 (uM (C:=C) T  h15.F);let U7:=X6 Y h16 (Jdv (C:=C) T B h16.F);let V4:=X6 Y h17 (vN (C:=C) T J h17.F);let U3:=X6 Y h18 (qR (C:=C) T a5 a4 h18.F);let U2:=X6 Y h19 (iF (C:=C) T U3 h19.F);let Ry:=X6 Y h20 (pB (C:=C) T U2 J a6 h20.F);let Sf:=X6 Y h21 (pA (C:=C) T Z dI Ry h21.F);let W6:=X6 Y h22 (lE (C:=C) T  h22.F);let Vq:=mT Y fE h23 (fX T (C:=C) dZ dQ eC dP V4 Sf W6 h23.F) eO;let Yp:=FT Y dZ h24 (Jcs T (C:=C) dZ dQ eC dP Z dI h24.F)
  let Yq:=Op Y h25 (yE (C:=C) T Z dI dZ dQ dP dM eE Yy Vq Yp h25.F);let V3:=X6 Y h26 (yV (C:=C) T dZ dQ dP h26.F);let Ya:=Op Y h27 (wQ (C:=C) T Z dI dZ dQ dP Rw Vq Yp V3 h27.F);let V5:=X6 Y h28 (Jbs (C:=C) T B U9 U5 U7 U6 h28.F);let Xg:=X6 Y h29 (jS (C:=C) T Si h29.F);let Wa:=X6 Y h30 (Jdy (C:=C) T  h30.F);let Xt:=X6 Y h31 (zC (C:=C) T Wa h31.F);let Rz:=X6 Y h32 (qT (C:=C) T Wa Xg h32.F);let Wf:=X6 Y h33 (pY (C:=C) T B h33.F);let Vh:=X6 Y h34 (qF (C:=C) T B Xg Wf Xt h34.F)
  let Wb:=X6 Y h35 (zG (C:=C) T  h35.F);let X7:=X6 Y h36 (Jax (C:=C) T Vr Yy dW dX Xu mts ktt ktv ktn Ya h36.F);let Sh:=X6 Y h37 (nV (C:=C) T Vr Yy b5 dM Xu mns knn knv knt Yq h37.F);let U8:=X6 Y h38 (zR (C:=C) T Sh Wb (L3.CalE.calm3 Ya) (L3.CalE.calm3 Yq) X7 h38.F);show(kF T a7 Sg V5 Vh Xt Rz U8 (L3.CalE.calm3 Ya) h39.F).imp λ_ _ _ _ h=>L3.qO (C:={C,K}) h
def walk{l:ON}{q:E4}{loose:List Str}{XP:(Str->Option Ca)->Heap->Prop}{O:H9->Heap->Prop}{d:DefRec}{K:Params->Cq}(hn:l.most=some 63)(B:d.params.defaults=[])(Z:∀(w:H9)(h:Heap),O w h->(K w.params).In h)(G:∀(w:H9)(h:Heap),O w h->h.get? Pt=some (NX #[]))(J:∀w:H9,(K w.params).lookup Pt=none)(F:∀(w:H9)(mg:Str->Option Ca)(Y:Addr)(h:Heap),(K w.params).In h->h.Ns Cw mg->mg d.name=some (.ref Y) ->
   ∃fd:Mx,(∃c,IZ (K w.params) c Pt=true)/\(∀(s:Cc)(u:Ca),ES s fd {[u],[]} [("_law_script",u)])/\∀dC:Heap,(K w.params).In dC->dC.Ns Cw mg->Bm mg dC->AK l.prog w (K w.params) mg dC A7 12 Y fd q29 (spLaw (K w.params) Pt)) :
  W.WalkO q loose XP O l.row.toRowW d [] (λf vs=>JN f vs) :=
 L2.tO (n:=63) (k:=12) (x:="_law_script") (CX:=λ_=>A7) (sp:=λw=>spLaw (K w.params) Pt) hn nofun B {rfl,nofun,nofun} Z G J F (λ_ _ a ns hl hO hS=>{a,ns,rfl,hS,hl,hO.tab _ _,λ_=>rfl}) λ_ _ _ _ _ z=>z
end K72
end
namespace PySem.W.Fast
local macro_rules|`(#print $s:str)=>return Lean.mkNullNode (<-((s.getString.replace "!" "@").foldl (λ(r,i,n) c=>let n:=n*85+c.toNat-if c<'\\' then 41 else 42;if i<9 then (r,i+1,n) else (r.push n,0,0)) (#[],0,0)).1.mapM λ x=>`(def $(Lean.mkIdent (.mkSimple s!"tw{x}")):ident:=0))
#print "I8HYbS!nn9oBAiT!W,b7Ogld-0+BfIPV{UliFMfZCZDX4m)W7xZh+Ga7XvLvVh-?Wi*ZV,_228St|f2qyRN_O//[8l?P9wn09sg+])t~U*<vlK=ub5Ns|JWKQ+CSdZjBO30zU~tz!MpKI{-5~yMijUh`4;JTW=[!3Pc{{lt-INY)vzkp>/n`3tx!+`}Ln2!ZJ`B;}iNh_X-T=Nsn1ppOMyPFlo=wst{)5Ou9iVN}n[g<6J[6.BymqVzf:qOdJfI?pOFvBs+AElfpbO+CQ]bAGbeIoj=*bec8LOB`[~rRFU{jrq0ZXX2oSs=mu]J{{d^Yk)+Q5Mr8_`0h=8|4tvi:s,.f;UkF6]Yeu<<yrUQN:SdrGAwRNWfFsg/mLc^3Yd;i~2c4GSr]9|6-UufPd_-;eE/qsE[zf+F6eTSlZk}2T]{S|wME{8I}7BNFX3aZ06Tkl,5b/T8f;YM]xs>Ehod5i6F3vNz,WGEpyU=TV?![z+jB,Wj7jhENUC:mD:RyBw,:fO_R}r.,/W`L}+t]SZ.>YS6uS4>ASI;C-H{=v*G5GM?cW:c{!,2EptH+i+Z/rNs=sgEb?Db8Fs!>*?O3>Ye:PJN2>LgD+d.1gomJCA4h0`Cu>;!wP:3`N?]jkcr]mr/H=zbTiApkn}i7k3X-Mb|;j!As8dmXXaXYv_>>r4.:=stNshw;5t.^{x``h+lJY_CZw>Bx.[ol3P|p>|Lw3|,+B48enSFtKJwiLUI8P{)5n,i5^9!Kcl`3pEHAVLbW,{G>-Gnyv.rVNC~pm1sb}YQrpCLSX.-aQMTGl<=FN~VixjPpfQ!14SChf{^*A9a);cq4FfRB*,ypLX+Bq-<XmOs)Qg05yvl-kgWodf.V~wZz<UfYfta.lv6xl!MA)GxaxMrWbSw}L0uk2^ai3ak]sN:dQ9R7kC0EljFL.zr[L`DflE!fC7IpRci!gp[h*<t6=5ol7rWxv-;ZvAY84D?Vu7FGO;u?Y+nL~X5T9Oo2950i1TXNnWxmnrX3)<`/dq+02Zz??NRhSo4}4?PW.>qs7RQ)z;gdxs-]z_4aTC|e[{!qLwx:hR^Dn{|PN<ks)o~TJYW/{GXT|kDyl.jmNGy<X,.3GW*{A]24|;x|GKKR;2g}MdRus4xRz)l+MJsP=B=JeVQvl:TB/{R~*Ch,7:}kQfplbo+A)pBuUT|Bo9jc7XSd1z:5oPMVY=lcTt3o6<61f+^Qaag/[-FWpK|Kg,6p<UD4,}~iwi_:MpI+y:Ue2_Fgj;Oa:?P:Th0S[;/kDDT}b]gf9Wy^~.c4TVvxiTKJwAdRpE}xo5fFO]nK`<^PWi.i`.DI<VoLuESRd:CpRlTMNF1ZDMit88W8pR>2?|BJwsXz}KjOhs76EvaqIX!zxKb{NgS!6LDTYJ_qz^EBSJ`nM0]21?:G:*J<2>95YR.Z]0;~1n?`F5Rf9YpP0aJj!:ved^MW{Y7kf~NsAO/~2Oi+]!w+-S={g`jLAWR!`5wVWPrZt7Y?DX=`0x)1dQQ1!ZmdLtfjosMGk/wtb76S*-YVL>)`VymCPCM3lZMt!cXNDz`)Z]-pIs+~+BO/,z/2RF-?-Q+L=N}kBbTCv|i,F1Mw7{Xd`fM{_Hj~35ZE<DDN_+Q]!zj}/FcPX!nmkc_qfOvH2S4p[ySfkw31<~sdJK,.:dl!4R,>I1!O6|HDnsxf+40QlX*]vwcj~sB^kG}_dER2:l1E?UG_aIGz2,+c,mRM5BX=nE)MO_bm~}m:Y)x]Xu{uecTAXMoWkWmsc0CwB)^ZuoKZKnOyHn-!/1duhoyn0d=ipZ*X<ix*g~V_az^v-;ogmMZMNDTHI>Iti^um`XjY]jysPeZQHTX9Li+jIR6;5F=VnO459t_VLDOx,c+2{U~Sl]r,LJ_rWBHMlhk45;mcir2CniTzY3-|/Zu1J4ixB~seh`<eoS)_9WTDgwo?0*<7`UaDUFu3I`0d0R)AvW|K^]rQ./tpC>g=sF>aV2-QS`gELMhhTN+`}p//nWI!TTa|A^8iwp-y}`HrsXmG!GKHrg.0{V26M67lhkPzBOIXh3xPVYHBqTzm!2g6wirR32~g7`S)G5ldRTOxRP>_aWOWGIx;`/{zRMv*IOcOVb|+LBU6{0AcqHL+0[ITE)ou5qsKz0x/Ug:vW`rF/SW,D)5uGZx_J`w5>mvTIl5TgrcuX.?sW6_SUs5;/vkDFd_U:>b:ple{PiX`EN<J9E.rccN>6pVa_oa-pmpgbp9Z~7L0MwIr)Qj^f`g,C-ul8o:Qm{z0RJE4UFZMI~QRhPvm>f~q1j}lLd>jRI,D)3bCzwEn7FQm8kP=F4lkQHwcHBl2pqx!ktt]Yz?v2GXT=PR2V|6P,SP+oi1_lQ<uRAW9DiZd*-e;8LFKJQ2JSaUspi{OS1l.d:.;GWwZJvQJ1*f|d},qA`c<t+:^08JEJ6wq{Qg8z/EpwoVhfsAR5Lgww9n[WUtuXq0Ut10l5PNW}l~XNKGw!J9*VJRLqm^5^8K-p*[E=G4paHHHX|=[Xvc~CAws`3wS=S^BVRQn*ysK*SwJf`L1PNUtL4m7OM9m`74PqTLioCAw9~{3dbTVPGOQ5Z<wbIY~!jyaPz,^;ltYUM0:twDT1dsx+NUjrOx/ywEWutr>o4*L`q!R<VUQzm]p7,eIO<HiE0ZO)lQV2<Z6J+ZQcn|/N{uep{UEBIovO>e.)n*vmk6A/ZH,4FAK}>B/=Iw+O,|U]:m:*Oz8FWIiO~XDv}OOkvq_8EsM{)BCQyvXuG9gT98^+T+^nR9<N,h*lUW/1U_rk[vjFspX+Hs0D?POQ?sV=avQU1u`)]F?K)x}fi8zP9BxF5g4EHZuC,PANFMN:3C_exo7ibkZO8JDqaj_iZsu,?d]A*)e=|yg}nRTOHNw<UVSua:)IG>q;-]?hdHz:L|noSTJUu/{QAjj7]1lkBv2Ac|.nTtLOzA>OyqSE]!VKIKHt[v;Qky0=8!Jvbdlu`l]^woscxMd8*u=,OuOWn:l1g{ixG:Yv4RW`QdlWU2nCiNK9De`-rJ|g[B-?3J5^f7?MFCY:5YXZ4/9U}jE4|j{Ujvj,BMU|UIU]HaZVBOU0bg];;n)m!riv4Fz2y9X0hSi^Q<]G;oDk_!]>n[lZ.Ad{e+?SM5u9xC{+ide{}uHxj?v[GDA_^V_1ptOkPgCS6`=vW^[:2]<BML;W*AD:2Jh5xtt!Ok})-db[V.jWd-FNzyhuvj2Ci;75Y;ggUw-:^5GOZDzB.uBu71cf}6uX]2V7*3GN?c[*Qh{61BEa[YjZ~9uU:aP`hPxp6rV.V;sR,7HOFC)6d0;K6[Q9UUm.PSoojb0{7JAym;?Wqj?klZ/pv,5JWL1>UL)FJz,5RqaYV1;GbT}9m0kt[nJf{:q~oeZmus{:>t<fUy1]UnpU>bDX63lEct{Zhr-ou.[)E3a-Zm5S|FNe9xMTH:a;C0f09P]3SvIG8k^Rl,)G7Iv:fM=5^tMq.C+*-vK~SY8.6H8Pn;x=:mDRcF!/[cg=OM}EX7YFKuJ9Bg7=BYx0lR2)]l_9rExGSk-D?KVN6A)l?N3:Yka4UN2BHE_QdPi+h4/PMa}Ta!^1g`=O}2Vy_lsxfZjdHDu+OTjgnqf5drD}.p,LN2y+P8/nlEARA6JgY]iMy|!i>xeg7j*q:G?<1*nuuH[_nhJ3ss38[?`_s2/+~eDj7nB1)L/_c]H}1JB7qgUuHO3=}ajM.}55l;h>3F:or;4wrpO^Q=zUqu=f2r5SyMP},ul)6OiU2azlc-pg|v9``Nz8hSmDw;{I0~/kCZ/Gr^p^zNfmh6zVi73yxm4XCbg<tgAd);mkLYKmo`v~FMO+BWE9,6a;BDoHq~8))q?1!i[~W.`8obiEwYt,mVIk0p7>W2^F.{)eRyG4pAA>2u5afj3tia+*KD!vqu0hT93ml:Z"
end PySem.W.Fast
open PySem PySem.W PyProof.Rows
set_option maxRecDepth 100000 in
set_option maxHeartbeats 0 in
theorem PySem.Challenge.cw_skewread_k72_least_and_all_holds : PySem.Challenge.rw_skewread_k72_least_and_all.Holds := by
  w_on; o_law; k_head; (case hw=>w_witness2)
  k_fill
  refine K72.walk (l:=PySem.Challenge.rw_skewread_k72_least_and_all) rfl rfl (fun w h Y=>PySem.W.km_in_of Y) (fun w h Y=>PySem.W.km_tabs_of Y _ (by k_mem)) ?hpk ?F
  case hpk=>exact fun w=>by kernel_rfl
  case F =>
    intro w mg fa h KX G hmg
    refine' K72.all_mk KX G hmg ?_ ?_ ?_ ?_ ?_ ?_ ?_ ?_ ?_ ?_ ?_ ?_ ?_ ?_ ?_ ?_ ?_ ?_ ?_ ?_ ?_ ?_ ?_ ?_ ?_ ?_ ?_ ?_ ?_ ?_ ?_ ?_ ?_ ?_ ?_ ?_ ?_ ?_ ?_ ?_ ?_ ?_ ?_ ?_ ?_ ?_ ?_ ?_ ?_ ?_ ?_ ?_ ?_ ?_ ?_ ?_ ?_ ?_ ?_ ?_ ?_ ?_ ?_ ?_ ?_ ?_ ?_ ?_ ?_ ?_ ?_ ?_ ?_ ?_ ?_ ?_ ?_ ?_ ?_ ?_
    any_goals first | (refine' {?g,L2.Zj5 ?l ?c ?k}; (case g=>k_is); (case l=>k_is); (case c=>k_is); case k=>k_is) | (refine' {?g,?n,L2.Zj5 ?l ?c ?k}; (case g=>k_is); (case n=>k_is); (case l=>k_is); (case c=>k_is); case k=>k_is) | k_is | kernel_rfl | (first | apply L2.CQ.mk | apply L2.MkG.mk | apply L2.CZ.mk | apply L2.CaG.mk) <;> first | k_is | kernel_rfl
#print axioms PySem.Challenge.cw_skewread_k72_least_and_all_holds