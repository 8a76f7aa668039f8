import PyProof.Rows.All
import Wide.All
import OpenK.AllK
import Wide.FinOn
import Lean
import PyProof.EqAt
import PyProof.EqKinds
import PyProof.TupleCall
import PyProof.DictItems
import KE.KPairComp
import KE.KDictList
import PyProof.ListRange
import KE.KUnpack
import KE.KEqDict
import PyProof.DictFindH
import KE.KDictSum
import PyProof.AutoListH
import PyProof.SumAny
import PyProof.Rows.Range3
import KE.KStateDown
import KE.KSortTup
import KE.KLam
import KE.KNestM
import KE.KDictOf
import PyProof.AttrMissHeap
import KE.KRevSl
import PyProof.RaisesMany
import PyProof.ExcInit
import PyProof.ExcClass2
import PyProof.RulesTry
import PyProof.PassesOwn
import OpenK.KOwn
import PyProof.RulesDel
import KE.KIsAll
import PyProof.EnumMake
import PyProof.LayNew
import PyProof.ZipIter
import PyProof.Rows.ZipGen
import KE.KIntText
import KE.KMinKey
import PySem.Challenge.RW_skewread_k65_whole_mendings_in_order
set_option Elab.async false
set_option linter.all false
set_option maxRecDepth 100000
def qp:Nat->Lean.TSyntax `term->Lean.MacroM (Lean.TSyntax `rcasesPat)
 |0,_=>Lean.Macro.throwUnsupported
 |n+1,t=>match t with
  |`(_)=>`(rcasesPat|_)
  |`(⟨$ts,*⟩)=>do
   let ps<-ts.getElems.mapM fun t=>do
    let p<-qp n t
    `(Lean.Parser.Tactic.rcasesPatLo|$p:rcasesPat)
   `(rcasesPat|⟨$ps,*⟩)
  |`($i:ident)=>`(rcasesPat|$i:ident)
  |_=>Lean.Macro.throwUnsupported
theorem rd{α:Sort u}{a p:α->Prop}{w:α}(h:a w)(k:p w):∃x,a x/\p x:=⟨w,h,k⟩
theorem rd2{α:Sort u}{β:Sort v}{a:α->Prop}{b p:α->β->Prop}{w:α}{y:β}(h:a w)(i:b w y)(k:p w y):∃x,a x/\∃z,b x z/\p x z:=⟨w,h,y,i,k⟩
theorem rd3{α:Sort u}{β:Sort v}{γ:Sort t}{a:α->Prop}{b:α->β->Prop}{c p:α->β->γ->Prop}{w:α}{y:β}{v:γ}(h:a w)(i:b w y)(j:c w y v)(k:p w y v):∃x,a x/\∃z,b x z/\∃q,c x z q/\p x z q:=⟨w,h,y,i,v,j,k⟩
def rdw(t:Lean.TSyntax `term):Nat->Lean.MacroM (Lean.TSyntax `term)
 |0=>pure t
 |1=>`(rd rfl $t)
 |2=>`(rd2 rfl rfl $t)
 |n+3=>do
  let r<-rdw t n
  `(rd3 rfl rfl rfl $r)
def rdb(r:Array (Lean.TSyntax `term)):Lean.MacroM (Lean.TSyntax `term):=if h:r.size=1 then pure r[0] else `(⟨$r,*⟩)
local macro_rules | `(def $n:declId $s:optDeclSig $v:declVal)=>`(noncomputable def $n:declId $s:optDeclSig $v:declVal)
local macro_rules | `(abbrev $n:declId $s:optDeclSig $v:declVal)=>`(noncomputable abbrev $n:declId $s:optDeclSig $v:declVal)
open List renaming length_map->Ja,getElem?_eq_getElem->Jb,length_append->Jc,getElem?_eq_some_iff->Je,take_succ_eq_append_getElem->Jf,map_append->Jg,prefix_refl->Jh,length_take->Ji,mem_singleton->Jj,mem_cons_of_mem->Jk,getElem_mem->Jl,size_toArray->Jm,mem_cons_self->Jn,mem_map->Jo,mem_cons->Jp,getElem?_append_left->Jq,map_cons->Js,mem_append_right->Jt,getElem_of_mem->Ju,prefix_append->Jv,take_length->Jw,getElem?_map->Jx,length_cons->Jz,getElem?_set_self->J0,getElem?_append_right->J9,getElem?_set_ne->Ga,mem_append->Gb,take_of_length_le->Gd,length_drop->Ge,append_assoc->Gg,append_nil->Gh,pairwise_map->Gj,map_map->Gk,length_pos_iff->Gm,length_set->Go,length_singleton->Gp,getD_eq_getElem?_getD->Gq,mem_of_getElem?->Gr,getElem_zip->Gs,nodup_append->Gu,take_append_of_le_length->Gx,nodup_cons->Gy,take_append_drop->Gz,getElem_inj->G3,lookup_cons->G4,mem_of_mem_take->G5,pairwise_iff_getElem->G6,find?_cons->G7,take_zero->G9,length_zip->Bc,getElem_map->Bd,not_mem_nil->Be,flatMap_append->Bf,flatten_cons->Bg,mem_append_left->Bh,drop_eq_getElem_cons->Bi,length_range->Bj,mem_flatMap->Bo,getElem?_concat_length->Bp,map_take->Bq,replicate_succ->Bt,flatMap_cons->Bx,getElem_take->By,length_nil->B0,any_cons->B4,any_eq_true->B5,take_left->B7,nodup_iff_pairwise_ne->B9,filter_append->Fb,mem_filter->Fd,reverse_cons->Fe,length_reverse->Ff,nodup_nil->Fg,mem_filterMap->Fh,map_drop->Fk,getElem?_eq_none->Fl,take_sublist->Fn,mem_range->Fs,drop_zero->Ft,pairwise_append->Fu,set_append_left->Fv,all_eq_true->Fy,take_prefix->Fz,zip_cons_cons->F5,replicate->Ck,range->Eb,zipWith->Es,length->Ez,filterMap_cons->Hg,lookup->Kv,prefix_or_prefix_of_prefix->K0,set_append_right->K7,getElem?_reverse->K8,take->Lb,length_filter_le->Lc,flatMap_nil->Lh,filter_cons->Lj,mem_of_mem_drop->Ll,of_mem_zip->Lz,range_succ->Ma,filter_nil->Mb,map_nil->Ml,getElem_range->Mn,pairwise_cons->Mo,getElem?_take->Mp,filterMap_nil->Mq,mem_or_eq_of_mem_set->Mu,getElem?_take_of_lt->Ja2,getElem_append_left->Jb0,getElem?_replicate->Jb8,pairwise_singleton->Jc7,map_reverse->Jds,getElem_cons_drop->Jd2,filterMap_append->Jec,pairwise_flatMap->Jed,getElem_toArray->Jep,toList_toArray->Jey,mem_map_of_mem->Je3,take_nil->Jfr,push_toArray->Jf7,reverse_perm->Jgf,ext_getElem?->Jgg,set_set->Jgu,cons_append->Jgz,countP_cons->Jg3,map_snd_zip->Jg4,ext_getElem->Jg5,flatten_nil->Jha,mem_nil_iff->Jhb,forIn_cons->Jhl,foldl->Jis,all_cons->Jjb
open Nat renaming le_refl->Jd,lt_of_lt_of_le->Jy,le_trans->J8,zero_le->Gc,ne_of_lt->Gi,not_lt_zero->G0,lt_irrefl->Bl,lt_of_le_of_lt->Bn,le_of_eq->Bv,le_succ->Bw,le_of_lt->B3,mul_le_mul->B8,min_eq_left->Fj,lt_trichotomy->Fp,pow_le_pow_right->Fw,lt_succ_self->Fx,sub_self->F3,ne_of_gt->F6,min_le_right->Le,sub_zero->Mm,lt_succ_of_lt->Ja7,zero_add->Jd6,mul_le_mul_right->Jeq,succ_mul->Jgp,succ_pos->Jgs,pow_succ->Jgt,le_of_not_lt->Jg1,min_eq_right->Jg6,succ_lt_succ->Jg9,mul_assoc->Jji,add_comm->Jjp,mul_comm->Jjq,add_mul->Jki
open Bool renaming false_ne_true->Jr,false_eq_true->Gv,and_eq_true->Bu,eq_iff_iff->Fi,beq_eq_decide_eq->K6,not_eq_true->Li,not_eq_true'->Jf6,false_and->Jhz,and_false->Jib,false_or->Jjc,not_true->Jjh
open Int renaming eq_ofNat_of_zero_le->Gn,emod_lt_of_pos->Gw,emod_nonneg->G8,toNat_natCast->Fo,mul_le_mul_of_nonneg_left->Lg,natCast_add->L7,le_refl->Jc4,le_trans->Jd7,natCast_nonneg->Jfs,zero_add->Jgq,mul_sub->Jhr,le_of_lt->Jjs,mul_one->Jj4,mul_pos->Jkf
open Array renaming getElem?_eq_some_iff->Br,length_toList->Bs,perm_iff_toList_perm->B6,getElem?_setIfInBounds_self->Fc,getD_eq_getD_getElem?->L6,find?_toList->Mh,getElem?_toList->Jea,getD->Jei,toList_append->Jez,forIn_toList->Jfk,toList->Jgh
open Option renaming map_some->Bz,isSome_map->Ja5,isNone_none->Jfn,getD_none->Jgy,getD_some->Jg2,map->Jkp
open PySem renaming wpAny_bind->F7,wpAny_pure->F8,boot_len->Di,wpAny_mono->Dj,Shared->Ca,wpAny->Cc,model->Ch,starEach->Ci,World->C0,wpAny_loadPart'->C6,wpAny_loadPart_at->C8,wpAny_holding->C9,compareOp->Ee,sizeLine_eq->Eg,wpAny_truthy_bool->Eh,wpAny_Call_Name_kw->Em,Program->Ew,NameKind->E2,sysModules->E5,ExceptHandler->E6,wpAny_execs_nil->E8,wpAny_passesOwn->E9,wpAny_newObj_type->Hb,mem_of_lookup->Hh,wpAny_getItem_str_slice->Hi,binaryOp->Hk,tupleKind_room_in1->Hm,Within->Ho,rawInt->Hq,codeAny_builtin->Ht,behindInMarks->Hv,wpAny_standAt->Hw,backTo->Hy,codeAny->Hz,codeAny_mono->Kf,wpAny_typeOf->Kg,attributeBase->Kj,getattributeRaised->Km,plainId_quiet->Kp,wpAny_pyIter_list->Ku,plainObj_wpAny_Assign_Attribute->Kw,wpAny_field->Kx,sliceBounds->Ky,call_meets->Kz,bootBuiltins->K1,Around->K2,wpAny_execs_cons->Ld,wpAny_call_entry->Lf,unbindBehindTheSuite->Lm,wpAny_call->Lp,holding->Lu,getItem->Lv,letOwnedTupleGo->Lw,keywordEach->Ly,post_val_or_str->L5,wpAny_updateSeq->L8,wpAny_newFunctionEnv_cells->Me,FuncData->Mi,wpAny_tryCatch->Mt,tupleKind->Mw,swapsWith->Mx,assignEach->My,foldedSetIterable->Mz,wpAny_getItem_list_slice->Ja4,noteFrame->Ja6,wpAny_comprehension_free->Ja8,wpAny_rule->Ja9,setFlight->Jb1,wpAny_pyNext_tuple_item->Jb6,wpAny_callSpecial?_slot->Jc0,subscripted->Jc2,wpAny_letGo->Jc6,wpAny_newList->Jc8,wpAny_lookBehind->Jdq,pastItsLine_dict->Jdr,wpAny_pyNext_list_item->Jdt,wpAny_pyNext_tuple_end->Jdu,wpAny_isTrue_Compare1->Jd3,wpAny_pyNext_list_end->Jd4,getMethod->Jd5,builtinLookup_eq_fast->Jd9,codeAny_handlers_test->Jeb,builtinsNs->Jeg,typeLookup->Jeh,wpAny_loadName_local->Jej,wpAny_setFlight_none->Jem,codeAny_call_builtin->Jen,Value->Jet,wpAny_loadName_cell->Jeu,wpAny_Tuple_spliced->Jev,wpAny_isSubtype_exc->Je1,wpAny_handleBy_cons->Je2,wpAny_pyIter_tuple->Je7,wpAny_List_spliced->Jfa,bindArgs->Jfb,backToKw->Jfc,IsPart->Jfe,evalPart_none->Jfg,Fin->Jfj,wpAny_attempt->Jfl,sub_AttributeError->Jfm,wpAny_tupleItemsOf->Jfq,Addr->Jft,standAt->Jfu,wpAny_Return_some->Jfv,wpAny_assign_Name->Jfw,wpAny_Assign_Name->Jfx,wpAny_load->Jfy,BindsTo->Jf0,wpAny_sequenceKey->Jf1,valueAt->Jf3,callerA->Jf4,isInstance->Jgb,excMatches->Jgc,wpAny_pyIter_enum->Jgd,assign->Jgi,pyNext->Jgj,wpAny_nsSet1->Jgk,seqIndex_neg->Jgo,wpAny_eqBool_int->Jgv,noFill_tuple_add->Jgx,wpAny_Dict_empty->Jg0,wpAny_Try_except->Jg7,wpAny_pyIter_zip->Jg8,Result->Jhh,seqIndex_of->Jhj,theTreesLotGoes->Jhn,codeAmong->Jhp,typeLookup_type->Jhq,codeAny_of_tree->Jhs,getAttrByItsOwn->Jht,wpAny_Name->Jid,typeIs_str->Jiq,typeIs_int->Jir,call->Jit,closureFor->Jiu,Model->Ji1,spliced->Ji2,CmpOp->Ji3,Operator->Ji4,getAttr->Ji7,callWith->Ji9,getAttr?->Jjf,Str->Jjl,storeName->Jjm,cellsFrom->Jjo,atKey->Jjr,getAttrBy->Jju,seqItems?->Jjv,setItem->Jj2,setAttr->Jj5,bindL->Jj7,bindC->Jj8,leaving->Jj9,operate->Jka,Keyword->Jkb,relabel->Jkc,Stmt->Jkl,Expr->Jkm,Obj->Jks
open PySem.Heap renaming get?_push_of_some->F9,get?_push_size->Da,lt_size->Db,get?_update_other->Ct,get?_update_self->Er,SameBut->Hf,size_push->Hj,get?_none_of_le->Lk,get?_push_cases->Jeo,MadeExcOf->Jes,get?_push_ne->Jf8,NewExcOf->Jje
open Option.some renaming inj->Dh,injEq->Jga
open Or renaming inl->Cb,inr->Ef
open PySem.PassesOwn renaming never->Cd,leaving->Jb4
open PySem.Value renaming ref->Cg,int->Ek,bool->Lo,str->Mv,builtin->Jc9,float->Jhd,isStrOf->Ji0,isInt->Jjz,bytes->Jj0,type->Jkn
open PySem.F renaming plainAttrs_list->Cj,slot_list_append->Cy,type_list_append->Cz,plain_max_loop->Ep,slot_list_extend->E4,type_list_extend->Ki,slot_list_index->Kq,plainAttrs_str->Ks,slot_dict_get->K4,args_tuple_add_2->Ja3,entry_tuple_add->Jb9,args_dict_get_2->Jc3,type_list_index->Jdp,slot_tuple_add->Jdv,entry_dict_get->Jdy,entry_max_loop->Jd0,slot_str_find->Jee,type_str_find->Jef,args_list_extend_2->Jel,entry_list_extend->Jex,slot_int_rmul->Jhk,slot_tuple_lt->Jhu
open PySem.W renaming Frag->Cm,findIn->C1,mroIn->Ey,kia_one->Ka,looks_mroIn->Ke,instObj->Lr,callWith_K->Mj,keepIn->Jb7,fnOf->Jer,plainGet_of->Je8,codeIn->Jfd,plainGet->Jfz,codeHdIn->Jf9,looks_findIn->Jgr,cellsFrom_some->Jgw,methodObj->Jhe,hasDictIn->Jhf,set_plain->Jhg,methodCall_KW->Jhi,isNs_of_in->Jiy,typeIn->Jiz,lookIn->Ji6,kitOne->Ji8,callWith_K0->Jja,codeHd_of_K->Jjd,takerIn->Jjn,OpenLaw->Jjt,kas_rev->Jkd,tabObj->Jkj,nsIn->Jkk
open PySem.PyData renaming eqv->Co,eqvAll->Cs,int->C7,strOk->Ec,canLay0->Eu,canLayAll0->Hd,depthAll->Hr,depth->Kh,list->Jkh
open PyProof.Rows renaming boot_isinstance->Cp,boot_list->Cu,slot_tuple_getitem->C3,boot_tuple->C4,callWith_type1->El,boot_sorted->He,seqObj->Hs,boot_max->Hu,envOfC->Kd,boot_dict->Kr,boot_int->K9,boot_min->La,IntsAre->Ms,AllBare->Jb5,subscriptTail->Jc1,listUpdate_at->Jc5,subscriptTail_builtinR->Jdw,boot_bool->Jd1,get?_update_seq->Jd8,entry_tuple_getitem->Jew,Constant_none->Je6,args_tuple_getitem->Jff,Subscript_->Jf2,callWith_builtin1->Jgn,entry_list_sort->Jho,size_push'->Jiv,join_ones->Jjk,boot_abs->Jjx,boot_all->Jjy,lt_int->Jke,gt_int->Jkg
open False renaming elim->Cq
open PySem.Str renaming ofString->Cv,empty->Je9
open Ne renaming symm->Cw
open PySem.Obj renaming mapSeq->C2,isFreed_of_fields->K5,mapFields->Jdo,data_mapFields->Jfo
open Sum renaming inl->C5,inr->Mr
open PySem.NameKind renaming free->Ea,cell->Ln
open PySem.SeqAt renaming EqAt->Ed,shaped->Ej
open PySem.Builtin.List renaming listTooLong->Ei
open True renaming intro->Eo
open PySem.Around renaming under_plainId->Et,under->Jgl
open PySem.Heap.SameBut renaming update->E1
open PySem.Builtin.Slice renaming slicePlaces->E7,sliceAdjust->Kb,sliceApplied->Mf,slicePartIndex->Jhc,sliceFields->Jia
open PySem.Builtin.Tuple renaming tupleExact->Ha,tupleItemsOf->Mg,tupleCompareSizes->Jge,tupleIsExact->Jhx
open PySem.Calls renaming spliced_cons->Hl,Name_function_global->Mc,spliced_nil->Ja1,callWith_builtin->Jdx,evalArgs_plain->Jek
open PySem.W.KasT renaming kasWp_bind->Kl
open PySem.Code renaming quiet_builtin->Ko,isFrame->Jgm,frames->Jj6
open Sum.inl renaming inj->Kt
open Sum.inr renaming inj->Lq
open PySem.Builtin.Builtins renaming bindParams->L9
open PySem.Within renaming cons->Ja0
open PySem.AutoSeq1 renaming sub_tuple_tuple->Jb2,wpAny_loadPart'->Jb3,sub_list_list->Jdz
open PySem.Builtin.Dict renaming updateFrom->Jdn,addKeywords->Jiw,selfAndRest->Jix,pairItems->Jjj
open PySem.EntryCells renaming newEntry->Je0
open PySem.SeqAt.EqAt renaming int_str->Je4,str_int->Je5,str_str->Jfi
open PySem.Heap.IsSliceOf renaming new->Jfh
open ToString renaming toString->Jfp
open List.Pairwise renaming nil->Jf5,sublist->Jjw
open ForInStep renaming yield->Jhm
open PySem.Builtin.Str renaming strSliceIndices->Jhv,glued->Jkq
open PyProof.Rows.LSm renaming kept_iter->Jhw
open List.IsPrefix renaming eq_of_length->Jhy
open PySem.EqNone renaming eq_none_none->Jh0,eq_none_bool->Jh1,eq_bool_none->Jh2,ne_none_none->Jh5,ne_none_bool->Jh6,ne_bool_none->Jh7,eq_none_int->Jie,eq_none_str->Jif,eq_int_none->Jig,eq_str_none->Jii,ne_none_int->Jik,ne_none_str->Jil,ne_int_none->Jim,ne_str_none->Jio
open PySem.EqMixed renaming eq_bool_str->Jh3,eq_str_bool->Jh4,ne_bool_str->Jh8,ne_str_bool->Jh9,eq_int_str->Jih,eq_str_int->Jij,ne_int_str->Jin,ne_str_int->Jip
open List.Perm renaming refl->Jic
open PySem.Builtin.Range renaming rangeSize->Ji5
open PySem.Shared renaming TypeIs->Jjg
open PySem.CmpOp renaming NotIn->Jj1
open PySem.Data renaming fields->Jj3
open PySem.W.WShape renaming has->Jko
open List.Sublist renaming refl->Jkr
open PySem.Heap.DictOf renaming new->Jkt
open PySem.W.WData renaming int->Jku
theorem Dd:type_of% @if_neg:=@if_neg
theorem De:type_of% @if_pos:=@if_pos
theorem Df:type_of% @decide_eq_true:=@decide_eq_true
theorem Dg:type_of% @decide_eq_false:=@decide_eq_false
local macro_rules | `(tactic| rfl')=>`(tactic| refine ⟨rfl,rfl,rfl,?_,rfl,?_,?_⟩<;>decide +kernel)
local macro_rules | `(nofun)=>`(term| by decide)
local macro_rules | `(tactic| exists $es,*)=>do
 let mut a:Array (Lean.TSyntax `term):=#[]
 for e in es.getElems do
  if e.raw.isOfKind ``Lean.Parser.Term.cdot then a:=a++#[<-`(_),<-`(rfl)] else a:=a.push e
 let mut r:Array (Lean.TSyntax `term):=#[]
 let mut c:=0
 for e in es.getElems.reverse do
  if e.raw.isOfKind ``Lean.Parser.Term.cdot then
   if r.isEmpty then r:=#[<-`(_),<-`(rfl)] else c:=c+1
  else if c=0 then r:=#[e]++r
  else
   r:=#[e,<-rdw (<-rdb r) c]
   c:=0
 let t<-rdw (<-rdb r) c
 `(tactic| first | refine $t | refine ⟨$a,*⟩)
local macro_rules |`(tactic|let $d:letDecl)=>match d with
 |`(Lean.Parser.Term.letDecl|$p:term:=$e:term)=>do
  let q<-qp 9 p
  `(tactic|obtain $q:rcasesPat:=$e:term)
 |_=>`(tactic|have $d:letDecl)
local macro_rules |`(())=>`(by lia)
variable{s:Ca}{α α' fp ch:List Jft}{C ea l Pt dx Zj it fI XF tp:Jft}{fd:PySem.FuncData}{K K':PySem.W.Frag}{pos pos' apos:PySem.Pos}{A:PySem.Around}{pq:List (Jft×Jks)}{P prog:PySem.Program}{E:Jet->Ca->Prop}{h h':PySem.Heap}{τ β κ:Type}{mg mA:Jjl->Option Jet}{ns ts:List Int}{ps N nm T:List Jjl}{j t' pl x1 pa pb:Nat}{cs:List Nat}{us its:List Jet}{st b0:Jkl}{es elts:List Jkm}{qual name:Jjl}{oe ox:Jks}{tg value:Jkm}{ws:List (List Int)}{body:List Jkl}{B:Prop}{lo hi:Option Int}{pm:Jet}{T0:Option Jft}
namespace L2
open PySem PySem.Spec PyProof.Rows
abbrev Key:=Sum Int Str
def Nu:Key->Value->Bool
 |.inl k,v=>Jjz k v
 |.inr x,v=>Ji0 x v
def keyH(w:C0):Key->Int
 |.inl k=>hashInt k
 |.inr x=>hashStr w x
theorem Yk:∀{k:Key}{v:Value},Nu k v=true->(∃i t,k=C5 i/\v=Ek i t)\/(∃x t,k=Mr x/\v=Mv x t)
 |.inl i,v,h=>by
  let⟨t,e⟩:=Value.isInt_shape (k:=i) (v:=v) h;exact .inl ⟨i,t,rfl,e⟩
 |.inr x,v,h=>by
  let⟨t,e⟩:=Value.isStrOf_shape (x:=x) (v:=v) h;exact .inr ⟨x,t,rfl,e⟩
def Zi1(i:Int)(t:Tok):Nu (.inl i) (.int i t)=true:=by simp[Nu,Jjz]
def Zi0(x:Str)(t:Tok):Nu (.inr x) (.str x t)=true:=by simp[Nu,Ji0]
def Ztu(a b:Int):decide ((C5 a:Key)=C5 b)=(a==b):=by
 by_cases e:a=b
 .subst e;simp
 .let h:¬ (C5 a:Key)=C5 b:=λq=>e (Kt q);rw[Dg h];exact(beq_eq_false_iff_ne.mpr e).symm
def Ztr(a b:Str):decide ((Mr a:Key)=Mr b)=decide (a=b):=by
 by_cases e:a=b
 .subst e;simp
 .let h:¬ (Mr a:Key)=Mr b:=λq=>e (Lq q);rw[Dg h,Dg e]
def Ztt(a:Int)(b:Str):decide ((C5 a:Key)=Mr b)=false:=Dg (λq=>nomatch q)
def Zts(a:Str)(b:Int):decide ((Mr a:Key)=C5 b)=false:=Dg (λq=>nomatch q)
def Y4(prog:Ew)(w:C0):PySem.KeyKind prog w Key where
 is:=Nu
 hash:=keyH w
 inj:=λv a b ha hb=>by
  rcases Yk ha with⟨i,t,rfl,rfl⟩|⟨x,t,rfl,rfl⟩
  .rcases Yk hb with⟨j,u,rfl,e⟩|⟨y,u,rfl,e⟩
   .injection e with e1 _;rw[e1]
   .exact nomatch e
  .rcases Yk hb with⟨j,u,rfl,e⟩|⟨y,u,rfl,e⟩
   .exact nomatch e
   .injection e with e1 _;rw[e1]
 byValue:=λk v h=>by
  rcases Yk h with⟨i,t,rfl,rfl⟩|⟨x,t,rfl,rfl⟩<;>rfl
 pyHash:=λhv h=>by
  rcases Yk hv with⟨i,t,rfl,rfl⟩|⟨x,t,rfl,rfl⟩
  .exact wpAny_pyHash_int h
  .exact wpAny_pyHash_str h
 eqBool:=λhu hv h=>by
  rcases Yk hu with⟨i,t,rfl,rfl⟩|⟨x,t,rfl,rfl⟩
  .rcases Yk hv with⟨j,u,rfl,rfl⟩|⟨y,u,rfl,rfl⟩
   .rw[Ztu]at h;exact Jgv h
   .rw[Ztt]at h;exact Je4 i t y u _ _ _ _ h
  .rcases Yk hv with⟨j,u,rfl,rfl⟩|⟨y,u,rfl,rfl⟩
   .rw[Zts]at h;exact Je5 x t j u _ _ _ _ h
   .rw[Ztr]at h;exact wpAny_eqBool_str h
 «strs»:=λk x t v h=>by
  rcases Yk h with⟨i,u,rfl,e⟩|⟨y,u,rfl,e⟩
  .exact nomatch e
  .injection e with e1 _
   subst e1;cases v<;>rfl
def Zc2(prog:Ew)(w:C0)(i:Int)(t:Tok):(Y4 prog w).is (.inl i) (.int i t)=true:=Zi1 i t
def Zc1(prog:Ew)(w:C0)(x:Str)(t:Tok):(Y4 prog w).is (.inr x) (.str x t)=true:=Zi0 x t
inductive V where
 |non|bl (b:Bool)|int (i:Int)|str (x:Str)|byt (b:Array UInt8)|flt (b:UInt64)|ref (a:Addr)|ty (n:String)
 deriving DecidableEq
variable{v:L2.V}{vs xs ys:List L2.V}{kvs:List (List L2.Key×L2.V)}
def RelV:V->Value->Prop
 |.non,u=>u=Value.none
 |.bl b,u=>u=Lo b
 |.int i,u=>∃t,u=Ek i t
 |.str x,u=>∃t,u=Mv x t
 |.byt b,u=>∃t,u=Jj0 b t
 |.flt b,u=>∃t,u=Jhd b t
 |.ref a,u=>u=Cg a
 |.ty n,u=>u=Jkn n
abbrev Vals:List V->List Value->Prop:=Paired RelV
def Vals.length(r:Vals xs us):xs.length=us.length:=Paired.length r
theorem Vals.get:∀{xs:List V}{us:List Value}{i:Nat}{x:V},Vals xs us->xs[i]?=some x->∃u,us[i]?=some u/\RelV x u
 |_,_,_,_,.nil,e=>by simp at e
 |_,_,0,_,.cons r _,e=>by simp at e;subst e;exists ·,r
 |_,_,i+1,x,.cons _ t,e=>by
  let⟨u,h1,h2⟩:=Vals.get (i:=i) (x:=x) t (by simpa using e);exists u,by simpa using h1,h2
theorem Vals.set{x:V}{u:Value}(r:RelV x u):∀{xs:List V}{us:List Value}(i:Nat),Vals xs us->Vals (xs.set i x) (us.set i u)
 |_,_,_,.nil=>.nil
 |_,_,0,.cons _ t=>.cons r t
 |_,_,i+1,.cons q t=>.cons q (Vals.set r i t)
theorem Vals.append:∀{xs ys:List V}{us ws:List Value},Vals xs us->Vals ys ws->Vals (xs++ys) (us++ws):=by
 intro _ _ _ _ hz9 s;cases hz9 with
 |nil=>
  exact s
 |cons r t=>
  exact .cons r (Vals.append t s)
theorem Vals.take:∀{xs:List V}{us:List Value}(n:Nat),Vals xs us->Vals (xs.take n) (us.take n)
 |_,_,0,_=>.nil
 |_,_,_+1,.nil=>.nil
 |_,_,n+1,.cons r t=>.cons r (Vals.take n t)
theorem Vals.drop:∀{xs:List V}{us:List Value}(n:Nat),Vals xs us->Vals (xs.drop n) (us.drop n)
 |_,_,0,r=>r
 |_,_,_+1,.nil=>.nil
 |_,_,n+1,.cons _ t=>Vals.drop n t
def RelO:Option V->Option Value->Prop
 |some v,some u=>RelV v u
 |none,none=>True
 |_,_=>False
def KV :List (κ×V)->List (κ×Value)->Prop:=Paired λ(p:κ×V)(q:κ×Value)=>p.1=q.1/\RelV p.2 q.2
def kV:Key->V
 |.inl i=>.int i
 |.inr x=>.str x
def Ui(h:Heap)(a:Addr)(items:Array Value):Prop:=∃o,h.get? a=some o/\o.cls=.type "tuple"/\∃n,o.data=.seq items n/\o.dict=none
def Ui.tup{h:Heap}{a:Addr}{items:Array Value}(x:Ui h a items):IsTup h a items:=let⟨o,e,c,n,d,_⟩:=x;⟨o,e,c,n,d⟩
def Ui.new(h:Heap)(items:Array Value):Ui (h.push {cls:=.type "tuple",data:=.seq items}) h.objs.size items:=⟨_,Da _ rfl,rfl,_,rfl,rfl⟩
def Ui.lt{a:Addr}{items:Array Value}(x:Ui h a items):a<h.objs.size:=let⟨_,e,_⟩:=x;Db e
inductive HO where
 |lst (xs:List V)
 |tup (xs:List V)
 |dK (kvs:List (Key×V))|dT (kvs:List (List Key×V))
 |set (S:Int->Bool) (n:Nat)
 |ins (C dx:Addr) (fs:List (Str×V))
 |own (x:Addr)
 |xd (fs:List (Str×V))
 |met (f x:Addr)
 |rng (lo hi:Int)
 |frz (o:Obj) (u:HO)
 |tbl (ps:Array Value)
 |ext (φ:Heap->Prop)
variable{o:L2.HO}
abbrev Hp:=Addr->Option HO
variable{H I H' I' H1 H2:L2.Hp}
def upd(H:Hp)(a:Addr)(o:HO):Hp:=λb=>if b=a then some o else H b
def Zg{a:Addr} :upd H a o a=some o:=by unfold upd;rw[if_pos rfl]
def Zn{a b:Addr}(h:b≠a):upd H a o b=H b:=by unfold upd;rw[if_neg h]
def Zgj{a:Addr}{u:HO}:upd (upd H a o) a u=upd H a u:=by
 funext b;unfold upd;split<;>rfl
def Wa{a b:Addr}{u:HO}(h:H a=some o)(h':H b=some u)(d:o≠u):a≠b:=by
 intro e;subst e;rw[h]at h';exact d (Dh h')
def Zr{a b:Addr}(h:H a=some o)(h':H b=none):a≠b:=by
 intro e;subst e;rw[h]at h';cases h'
section
variable(P:Ew)(w:C0)
def Y5(H:Hp)(h:Heap)(a:Addr):HO->Prop
 |.lst xs=>xs.length<=sizeLine/\∃(its:List Value)(n:Nat),Vals xs its/\h.get? a=some {cls:=.type "list",data:=.seq its.toArray n}
 |.tup xs=>xs.length<=sizeLine/\∃its:List Value,Vals xs its/\Ui h a its.toArray
 |.dK kvs=>kvs.length<=sizeLine/\(a==E5)=false/\∃vs,KV kvs vs/\h.DictOf (Y4 P w) a vs
 |.dT kvs=>kvs.length<=sizeLine/\(a==E5)=false/\∃xs:List (List Key×Addr×Value),
   Paired (λ(p:List Key×V)(q:List Key×Addr×Value)=>p.1=q.1/\H q.2.1=some (.tup (p.1.map kV))/\RelV p.2 q.2.2) kvs xs /\
   ∃o es ep,h.get? a=some o/\o.ExactDict/\o.data=.dict es ep/\es.toList=xs.map (entryOfKey (Mw (Y4 P w)))/\(xs.map (·.1)).Nodup
 |.set S n=>h.SetOf (intKind P w) a S n
 |.ins C dx fs=>H dx=some (.own a)/\fs.length<=1000/\dx≠a/\h.get? a=some (Lr C dx) /\
   ∃mA,h.Ns1 dx mA/\(∀f,RelO (fs.lookup f) (mA f))/\Ho mA (fs.map (·.1))
 |.own _=>∃o,h.get? a=some o
 |.xd fs=>∃mA,h.Ns1 a mA/\∀f,RelO (fs.lookup f) (mA f)
 |.rng lo hi=>∃t u v,h.get? a=some {cls:=.type "range",data:=.fields #[.int lo t,.int hi u,.int 1 v]}
 |.frz o u=>h.get? a=some o/\Y5 H h a u
 |.tbl ps=>h.get? a=some {cls:=.none,data:=.fields ps}
 |.met f x=>h.get? a=some (Jhe (.ref f) (.ref x))
 |.ext φ=>φ h/\(∃o,h.get? a=some o)/\∀h1 h2:Heap,φ h1->(∀o,h1.get? a=some o->h2.get? a=some o)->φ h2
def HOk(H:Hp)(h:Heap):Prop:=∀a o,H a=some o->Y5 P w H h a o
end
section
variable{w:C0}{a:Addr} 
theorem Y5.lt(x:Y5 P w H h a o):a<h.objs.size:=by
 cases o with
 |lst xs=>obtain⟨_,_,_,_,e⟩:=x;exact Db e
 |tup xs=>obtain⟨_,_,_,p⟩:=x;exact p.lt
 |dK kvs=>obtain⟨_,_,_,_,o,_,_,e,_⟩:=x;exact Db e
 |dT kvs=>obtain⟨_,_,_,_,o,_,_,e,_⟩:=x;exact Db e
 |set S n=>obtain⟨o,_,_,_,e,_⟩:=x;exact Db e
 |ins C dx fs=>obtain⟨_,_,_,e,_⟩:=x;exact Db e
 |own y=>obtain⟨_,e⟩:=x;exact Db e
 |xd fs=>obtain⟨_,⟨_,_,_,e,_⟩,_⟩:=x;exact Db e
 |rng lo hi=>obtain⟨_,_,_,e⟩:=x;exact Db e
 |frz ob u=>obtain⟨e,_⟩:=x;exact Db e
 |tbl ps=>exact Db (show h.get? a=some _ from x)
 |met f y=>exact Db (show h.get? a=some _ from x)
 |ext φ=>obtain⟨_,⟨_,e⟩,_⟩:=x;exact Db e
theorem Paired.mapP{α:Type}{F G:α->β->Prop}:∀{l₁:List α}{l₂:List β},Paired F l₁ l₂->(∀a b,F a b->G a b)->Paired G l₁ l₂
 |_,_,.nil,_=>.nil
 |_,_,.cons r t,f=>.cons (f _ _ r) (Paired.mapP t f)
theorem Y5.stay(x:Y5 P w H h a o)(k:∀b u,(b=a\/H b=some (.own a))->h.get? b=some u->h'.get? b=some u)(ho:∀b,H b=some (.own a)->H' b=some (.own a))(ht:∀b xs,H b=some (.tup xs)->H' b=some (.tup xs)):Y5 P w H' h' a o:=by
 induction o with
 |lst xs=>obtain⟨z,its,n,r,e⟩:=x;exists z,its,n,r,k _ _ (.inl rfl) e
 |tup xs=>obtain⟨z,its,r,ob,e,c⟩:=x;exists z,its,r,ob,k _ _ (.inl rfl) e,c
 |dK kvs=>obtain⟨z,y,vs,r,ob,es,ep,e,c⟩:=x;exists z,y,vs,r,ob,es,ep,k _ _ (.inl rfl) e,c
 |dT kvs =>
  let⟨z,y,xs,r,ob,es,ep,e,c⟩:=x;exists z,y,xs,Paired.mapP r λp q z=>⟨z.1,ht _ _ z.2.1,z.2.2⟩,ob,es,ep,k _ _ (.inl rfl) e,c
 |set S n=>obtain⟨ob,es,ep,t,e,c⟩:=x;exists ob,es,ep,t,k _ _ (.inl rfl) e,c
 |ins C dx fs =>
  let⟨d,z,ne,e,mA,⟨od,es,ep,e2,c⟩,r⟩:=x;exists ho _ d,z,ne,k _ _ (.inl rfl) e,mA,⟨od,es,ep,k _ _ (.inr d) e2,c⟩,r
 |own y=>obtain⟨ob,e⟩:=x;exists ob,k _ _ (.inl rfl) e
 |xd fs=>obtain⟨mA,⟨od,es,ep,e,c⟩,r⟩:=x;exists mA,⟨od,es,ep,k _ _ (.inl rfl) e,c⟩,r
 |rng lo hi=>obtain⟨t,u,v,e⟩:=x;exists t,u,v,k _ _ (.inl rfl) e
 |frz ob u ih=>obtain⟨e,q⟩:=x;exists k _ _ (.inl rfl) e,ih q
 |tbl ps =>
  let e:h.get? a=some {cls:=.none,data:=.fields ps}:=x;show h'.get? a=some {cls:=.none,data:=.fields ps};exact k a _ (.inl rfl) e
 |met f y =>
  let e:h.get? a=some (Jhe (.ref f) (.ref y)):=x;show h'.get? a=some (Jhe (.ref f) (.ref y));exact k a _ (.inl rfl) e
 |ext φ=>obtain⟨p,⟨o,e⟩,st⟩:=x;exists st _ _ p λo q=>k _ _ (.inl rfl) q,⟨o,k _ _ (.inl rfl) e⟩,st
def HOk.lt(x:HOk P w H h)(e:H a=some o):a<h.objs.size:=(x a o e).lt
theorem HOk.fresh(x:HOk P w H h)(e:h.objs.size<=a):H a=none:=by
 cases q:H a with
 |none=>rfl
 |some u=>exact absurd (Jy (x.lt q) e) (Bl _)
def HOk.kept(x:HOk P w H h)(k:∀b u,h.get? b=some u->h'.get? b=some u):HOk P w H h':=λa o e =>
 (x a o e).stay (λb u _ q=>k b u q) (λ_ q=>q) λ_ _ q=>q
def HOk.laid(x:HOk P w H h)(k:∀b u,h.get? b=some u->h'.get? b=some u)(hp:h.objs.size<=a)(new:Y5 P w (upd H a o) h' a o):HOk P w (upd H a o) h':=λb u e=>by
 let hn:=x.fresh hp
 by_cases hb:b=a
 .subst hb;rw[Zg]at e;cases e;exact new
 .rw[Zn hb]at e;exact(x b u e).stay (λc v _ q=>k c v q) (λc q=>by rw[Zn (Zr q hn)];exact q) λc xs q=>by rw[Zn (Zr q hn)];exact q
end
def Rd(H:Hp)(a:Addr)(u:HO):Prop:=H a=some u\/∃o,H a=some (.frz o u)
def Rd.ok{w:C0}{a:Addr}{u:HO}(r:Rd H a u)(x:HOk P w H h):Y5 P w H h a u:=by
 rcases r with r|⟨o,r⟩
 .exact x a u r
 .let⟨_,q⟩:=x a _ r;exact q
def Mut:Option HO->Prop
 |some (.lst _)=>True
 |some (.dK _)=>True
 |some (.dT _)=>True
 |some (.set _ _)=>True
 |some (.ins _ _ _)=>True
 |some (.ext _)=>True
 |_=>False
section
variable{w:C0}{x e:Addr}{o':HO}
def HOk.write(ok:HOk P w H h)(mu:Mut (H x))(he:e=x\/H e=some (.own x))(k:∀b u,b≠e->h.get? b=some u->h'.get? b=some u)(heo:∃u,h'.get? e=some u)(new:Y5 P w (upd H x o') h' x o'):HOk P w (upd H x o') h':=λb u q=>by
 let nown:∀c y,H c=some (.own y)->c≠x:=λc y r z=>by subst z;rw[r]at mu;exact mu
 let ntup:∀c xs,H c=some (.tup xs)->c≠x:=λc xs r z=>by subst z;rw[r]at mu;exact mu
 by_cases hb:b=x
 .subst hb;rw[Zg]at q;cases q;exact new
 .rw[Zn hb]at q
  by_cases hbe:b=e
  .let q':H b=some (.own x):=by
    rcases he with z|z
    .exact absurd (hbe.trans z) hb
    .rw[hbe];exact z
   rw[q]at q';cases q';let⟨v,hv⟩:=heo;exact⟨v,by rw[hbe];exact hv⟩
  .refine(ok b u q).stay (λc v hc r=>k c v ?_ r) (λc r=>by rw[Zn (nown c b r)];exact r) λc xs r=>by rw[Zn (ntup c xs r)];exact r
   rcases hc with rfl|hc
   .exact hbe
   .rintro rfl;rcases he with z|z
    .exact nown c b hc z
    .rw[hc]at z;cases z;exact hb rfl
end
structure Un(fs ex:List Addr)(H H':Hp)(h h':Heap):Prop where
 keep:∀b o,h.get? b=some o->H b=none->b∉fs->b∉ex->h'.get? b=some o
 slot:∀b o,h.get? b=some o->H b=none->b∈fs->b∉ex->∃sl,h'.get? b=some {o with slots:=sl}
 free:∀b o,h.get? b=some o->H b=none->b∉ex->H' b=none
 there:∀b o,h.get? b=some o->b∉ex->∃o',h'.get? b=some o'
 tups:∀b xs,H b=some (.tup xs)->H' b=some (.tup xs)
 frzs:∀b o u,H b=some (.frz o u)->H' b=some (.frz o u)
 tbls:∀b ps,H b=some (.tbl ps)->∃more,H' b=some (.tbl (ps++more))
section
variable{fs ex:List Addr}{h1:Heap}{a x e:Addr} 
def Un.any(u:Un fs ex H H1 h h1){b:Addr}{ob:Obj}(q:h.get? b=some ob)(n:H b=none)(hx:b∉ex):∃sl,h1.get? b=some {ob with slots:=sl}:=by
 by_cases hb:b∈fs
 .exact u.slot b ob q n hb hx
 .exists ob.slots,u.keep b ob q n hb hx
def Un.kept(k:∀b u,h.get? b=some u->h'.get? b=some u):Un fs ex H H h h' :=
 ⟨λb ob q _ _ _=>k b ob q,λb ob q _ _ _=>⟨ob.slots,k b ob q⟩,λ_ _ _ n _=>n,λb ob q _=>⟨ob,k b ob q⟩,λ_ _ q=>q,λ_ _ _ q=>q,λ_ ps q=>⟨#[],by rw[q];simp⟩⟩
def Un.refl:Un fs ex H H h h:=Un.kept λ_ _ q=>q
def Un.laid(k:∀b u,h.get? b=some u->h'.get? b=some u)(hp:h.objs.size<=a)(hn:H a=none):Un fs ex H (upd H a o) h h' where
 keep:=λb u q _ _ _=>k b u q
 slot:=λb u q _ _ _=>⟨u.slots,k b u q⟩
 free:=λb u q n _=>by rw[Zn (Gi (Jy (Db q) hp))];exact n
 there:=λb u q _=>⟨u,k b u q⟩
 tups:=λb xs q=>by rw[Zn (Zr q hn)];exact q
 frzs:=λb u xs q=>by rw[Zn (Zr q hn)];exact q
 tbls:=λb ps q=>⟨#[],by rw[Zn (Zr q hn),q];simp⟩
def Un.write(mu:Mut (H x))(he:e=x\/H e=some (.own x))(k:∀b u,b≠e->h.get? b=some u->h'.get? b=some u)(heo:∃u,h'.get? e=some u):Un fs ex H (upd H x o) h h':=by
 let hx:∀b,H b=none->b≠x:=λb n z=>by subst z;rw[n]at mu;exact mu
 let hb:∀b,H b=none->b≠e:=λb n z=>by
  subst z;rcases he with r|r
  .exact hx b n r
  .rw[n]at r;cases r
 let hm:∀b u,H b=some u->¬ Mut (some u)->b≠x:=λb u q nm z=>by subst z;rw[q]at mu;exact nm mu
 refine⟨λb u q n _ _=>k b u (hb b n) q,λb u q n _ _=>⟨u.slots,k b u (hb b n) q⟩,λb u q n _=>by rw[Zn (hx b n)];exact n,λb u q _=>?_,
  λb xs q=>by rw[Zn (hm b _ q λz=>z)];exact q,λb u xs q=>by rw[Zn (hm b _ q λz=>z)];exact q,λb ps q=>⟨#[],by rw[Zn (hm b _ q λz=>z),q];simp⟩⟩
 by_cases hbe:b=e
 .subst hbe;exact heo
 .exists u,k b u hbe q
end
def trk(h:Heap)(H:Hp):List Addr:=(Eb h.objs.size).filter λa=>(H a).isSome
def hidT(h:Heap)(H:Hp):Heap:=W.hideAll h (trk h H)
def Zjc(h:Heap)(H:Hp):(hidT h H).objs.size=h.objs.size:=W.hideAll_size _ _
def Zmb{b:Addr}{o:Obj}(e:h.get? b=some o)(n:H b=none):(hidT h H).get? b=some o :=
 W.hideAll_get _ e λhm=>by
  let q:(H b).isSome=true:=(Fd.mp hm).2;rw[n]at q;simp at q
theorem Zpn{b:Addr}{o:Obj}(e:(hidT h H).get? b=some o):h.get? b=some o/\H b=none:=by
 let e':h.get? b=some o:=W.of_hideAll (trk h H) e;exists e',?_;cases q:H b with
 |none=>rfl
 |some x =>
  let hm:b∈trk h H:=Fd.mpr ⟨Fs.mpr (Db e'),by simp[q]⟩;let z:(hidT h H).get? b=none:=W.hideAll_none (trk h H) hm;rw[z]at e;cases e
structure Mod(K:Cm)(mg:Str->Option Value)(base:Heap):Prop where
 kin:K.In base
 glob:base.Ns mainGlobals mg
 blt:∃mb,base.Ns Jeg mb/\∀x:Str,x≠"__name__"->mb x=K1 x
 nolimit:base.NoLimit
structure Cx where
 prog:Ew
 w:C0
 K:Cm
 mg:Str->Option Value
 base:Heap
 A:K2
 N:List Str
 s₀:Ca
 H₀:Hp
 env:Env
 outer:List Env
 stack:List Env
 ex:List Addr
 fn:Str->Bool
 calm:Bool
 pn:List (Addr×Obj)
 xe:Value->Ca->Prop
variable{X:L2.Cx}
def frs(l:List Env):List Addr:=l.filterMap (·.frame)
abbrev Cx.fs(X:Cx):List Addr:=frs X.outer
def Vis(sc:Scope)(x:Str):Prop:=sc.names.lookup x=some .local\/sc.names.lookup x=some .cell\/sc.names.lookup x=some .free
def Loc(sc:Scope)(x:Str):Prop:=sc.names.lookup x=some .local\/sc.names.lookup x=some .cell
def Look(env:Env)(h:Heap)(m:Str->Option Value)(x:Str)(u:Value):Prop :=
 (env.kindOf x=some .local/\m x=some u)\/((env.kindOf x=some .cell\/env.kindOf x=some .free)/\∃c,env.cells.lookup x=some c/\h.IsCell c (some u))
structure Cx.Ok(X:Cx):Prop where
 mod:Mod X.K X.mg X.base
 kind:X.env.scope.kind=.function
 glob:X.env.globals=mainGlobals
 blt:X.env.builtins=Jeg
 above:X.s₀.heap.objs.size<=X.env.locals
 inj:∀x y c,X.env.cells.lookup x=some c->X.env.cells.lookup y=some c->x=y
 has:∀x,(X.env.kindOf x=some .cell\/X.env.kindOf x=some .free)->∃c,X.env.cells.lookup x=some c
 cab:∀x c,X.fn x=true->X.env.cells.lookup x=some c->X.s₀.heap.objs.size<=c
 hd:X.calm=true->X.A.handled=none
 frames:X.A.frames=some X.stack
 stk:X.stack=X.outer\/(X.stack=X.env::X.outer/\X.env.frame=some X.env.locals)
 exf:∀b∈X.ex,b≠X.env.locals/\∀x c,X.env.cells.lookup x=some c->c≠b
 bs:∀b o,X.base.get? b=some o->X.s₀.heap.get? b=some o/\X.H₀ b=none
 bsz:X.base.objs.size<=X.s₀.heap.objs.size
 noex:∀b o,X.base.get? b=some o->b∉X.ex
 exfs:∀b∈X.ex,b∉X.fs
 funs:X.s₀.heap.FunFrames X.base X.outer
 frf:∀b∈X.fs,X.H₀ b=none
structure Inv(X:Cx)(pq:List (Addr×Obj))(σ:List (Option V))(H:Hp)(s:Ca):Prop where
 ok:X.Ok
 os:s.os=X.s₀.os
 bare:Jb5 s.gens
 base:Un X.fs X.ex X.H₀ H X.s₀.heap s.heap
 loc:∃m,s.heap.Ns X.env.locals m/\∀(i:Nat)(x:Str)(v:V),X.N[i]?=some x->σ[i]?=some (some v)->Vis X.env.scope x->∃u,RelV v u/\Look X.env s.heap m x u
 cell:∀x c,X.env.cells.lookup x=some c->∃v,s.heap.IsCell c v
 free:H X.env.locals=none
 freeC:∀x c,X.env.cells.lookup x=some c->H c=none
 pin:∀p∈X.pn++pq,s.heap.get? p.1=some p.2/\H p.1=none/\p.1≠X.env.locals/\p.1∉X.fs/\∀v,p.2.data≠.cell v
 hok:HOk X.prog X.w H s.heap
 len:σ.length=X.N.length
section
variable{σ:List (Option V)} 
def Cx.Ok.nofr(ok:X.Ok){b:Addr}{o:Obj}(e:X.base.get? b=some o):b∉X.fs:=λhb=>by
 let:=(ok.funs.mem hb).1;rw[e]at this;cases this
def Inv.bs(I:Inv X pq σ H s):∀b o,X.base.get? b=some o->s.heap.get? b=some o/\H b=none:=λb o e =>
 ⟨I.base.keep b o (I.ok.bs b o e).1 (I.ok.bs b o e).2 (I.ok.nofr e) (I.ok.noex b o e),I.base.free b o (I.ok.bs b o e).1 (I.ok.bs b o e).2 (I.ok.noex b o e)⟩
def Inv.bk(I:Inv X pq σ H s):∀b o,X.base.get? b=some o->s.heap.get? b=some o:=λb o e=>(I.bs b o e).1
def Inv.mod(I:Inv X pq σ H s):Mod X.K X.mg X.base:=I.ok.mod
def Inv.kIn(I:Inv X pq σ H s):X.K.In s.heap:=I.ok.mod.kin.keeps I.bk
def Inv.lt(I:Inv X pq σ H s):X.env.locals<s.heap.objs.size:=let⟨_,hn,_⟩:=I.loc;hn.lt
def Inv.sz(I:Inv X pq σ H s):X.s₀.heap.objs.size<=s.heap.objs.size:=J8 I.ok.above (B3 I.lt)
def Inv.nofs(I:Inv X pq σ H s){a:Addr}(h:s.heap.objs.size<=a):a∉X.fs:=λhb=>by
 let⟨_,o,ho,_⟩:=I.ok.funs.mem hb;exact absurd (Jy (Db ho) (J8 I.sz h)) (Bl _)
def Inv.cne(I:Inv X pq σ H s):∀x c,X.env.cells.lookup x=some c->c≠X.env.locals:=λx c e z=>by
 let⟨v,o,ho,hd⟩:=I.cell x c e;let⟨m,⟨o',es,ep,ho',hd',_⟩,_⟩:=I.loc;rw[z,ho']at ho;cases ho;rw[hd']at hd;cases hd
def Inv.funs(I:Inv X pq σ H s):s.heap.FunFrames X.base X.outer:=by
 let all:∀(l:List Env),(∀b∈frs l,b∈X.fs)->X.s₀.heap.FunFrames X.base l->s.heap.FunFrames X.base l:=by
  intro l
  induction l with
  |nil=>intro _ _;trivial
  |cons env r ih =>
   intro hs hl;let⟨hk,⟨L,o,hf,hn,ho,hd⟩,hr⟩:=hl;let hL:L∈X.fs:=hs L (by unfold frs;rw[Hg,hf];exact List.mem_cons_self);let⟨sl,e⟩:=I.base.slot L o ho (I.ok.frf L hL) hL λz=>I.ok.exfs L z hL;exists hk,⟨L,_,hf,hn,e,hd⟩,ih (λb hb=>hs b (by unfold frs;rw[Hg,hf];exact List.mem_cons_of_mem _ hb)) hr
 exact all X.outer (λ_ hb=>hb) I.ok.funs
def Inv.stack(I:Inv X pq σ H s):s.heap.FunFrames X.base X.stack:=by
 rcases I.ok.stk with e|⟨e,hf⟩
 .rw[e];exact I.funs
 .rw[e];let⟨m,hn,_⟩:=I.loc;refine .cons (by rw[I.ok.kind];decide) hf hn ?_ I.funs;exact Lk (J8 I.ok.bsz I.ok.above)
def Inv.stkSub(I:Inv X pq σ H s):∀b∈frs X.stack,b∈X.env.locals::X.fs:=λb hb=>by
 rcases I.ok.stk with e|⟨e,hf⟩
 .rw[e]at hb;exact Jk _ hb
 .rw[e]at hb;unfold frs at hb;rw[Hg,hf]at hb;exact hb
def Inv.stkFree(I:Inv X pq σ H s):∀b∈frs X.stack,H b=none:=λb hb=>by
 rcases Jp.mp (I.stkSub b hb)with e|hb
 .rw[e];exact I.free
 .let⟨_,o,ho,_⟩:=I.ok.funs.mem hb;exact I.base.free b o ho (I.ok.frf b hb) λz=>I.ok.exfs b z hb
def Inv.step{g':Array GenState}{d':Drawn}(I:Inv X pq σ H s)(hch:∀b∈ch,(b∈X.ex\/X.s₀.heap.objs.size<=b)/\b≠X.env.locals/\(∀x c,X.env.cells.lookup x=some c->c≠b)/\∀p∈X.pn++pq,p.1≠b)(keep:∀b o,b≠X.env.locals->b∉X.fs->b∉ch->s.heap.get? b=some o->H b=none->h'.get? b=some o)(slot:∀b o,b≠X.env.locals->b∈X.fs->b∉ch->s.heap.get? b=some o->H b=none->∃sl,h'.get? b=some {o with slots:=sl})(free:∀b o,b∉ch->s.heap.get? b=some o->H b=none->H' b=none)(there:∀b o,b∉ch->s.heap.get? b=some o->∃o',h'.get? b=some o')(tups:∀b xs,H b=some (.tup xs)->H' b=some (.tup xs))(frzs:∀b o u,H b=some (.frz o u)->H' b=some (.frz o u))(tbls:∀b ps,H b=some (.tbl ps)->∃more,H' b=some (.tbl (ps++more)))(ns:∀m,s.heap.Ns X.env.locals m->h'.Ns X.env.locals m)(hok:HOk X.prog X.w H' h')(hg:Jb5 g') :
  Inv X pq σ H' {s with heap:=h',gens:=g',drawn:=d',toks:=t'}:=by
 let neL:∀b o,X.s₀.heap.get? b=some o->b≠X.env.locals:=λb o e=>Gi (Jy (Db e) I.ok.above);let neC:∀b o,X.s₀.heap.get? b=some o->b∉X.ex->b∉ch:=λb o e hx hb=>by
  rcases(hch b hb).1 with z|z
  .exact hx z
  .exact absurd (Jy (Db e) z) (Bl _)
 let cellK:∀x c,X.env.cells.lookup x=some c->∀v,s.heap.IsCell c v->h'.IsCell c v:=λx c e v⟨o,ho,hd⟩=>by
  let nch:c∉ch:=λz=>(hch c z).2.2.1 x c e rfl
  by_cases hc:c∈X.fs
  .let⟨sl,q⟩:=slot c o (I.cne x c e) hc nch ho (I.freeC x c e);exists _,q,hd
  .exists o,keep c o (I.cne x c e) hc nch ho (I.freeC x c e),hd
 exists I.ok,I.os,hg,⟨λb o e n hb hx=>?_,λb o e n hb hx=>?_,λb o e n hx=>?_,λb o e hx=>?_,λb xs e=>tups b xs (I.base.tups b xs e),λb o xs e=>frzs b o xs (I.base.frzs b o xs e),λb ps e=>?_⟩,?_,λx c e=>?_,?_,λx c e=>?_,λp hp=>?_,hok,I.len
 .exact keep b o (neL b o e) hb (neC b o e hx) (I.base.keep b o e n hb hx) (I.base.free b o e n hx)
 .let⟨sl,e1⟩:=I.base.slot b o e n hb hx;let⟨sl',e2⟩:=slot b _ (neL b o e) hb (neC b o e hx) e1 (I.base.free b o e n hx);exists sl',e2
 .let⟨o',e1⟩:=I.base.there b o e hx;exact free b o' (neC b o e hx) e1 (I.base.free b o e n hx)
 .let⟨o',e1⟩:=I.base.there b o e hx;exact there b o' (neC b o e hx) e1
 .let⟨m1,e1⟩:=I.base.tbls b ps e;let⟨m2,e2⟩:=tbls b _ e1;exact⟨m1++m2,by rw[e2,Array.append_assoc]⟩
 .let⟨m,hn,hl⟩:=I.loc;exists m,ns m hn,λi x v e1 e2 e3=>?_;let⟨u,r,l⟩:=hl i x v e1 e2 e3;exists u,r,?_;rcases l with l|⟨k,c,e,z⟩
  .exact .inl l
  .exact .inr ⟨k,c,e,cellK x c e _ z⟩
 .let⟨v,z⟩:=I.cell x c e;exists v,cellK x c e v z
 .let⟨m,⟨o,_,_,ho,_⟩,_⟩:=I.loc;exact free _ o (λz=>(hch _ z).2.1 rfl) ho I.free
 .let⟨v,o,ho,hd⟩:=I.cell x c e;exact free c o (λz=>(hch c z).2.2.1 x c e rfl) ho (I.freeC x c e)
 .let⟨e,n,ne,nf,d⟩:=I.pin p hp;let nch:p.1∉ch:=λz=>(hch p.1 z).2.2.2 p hp rfl;exists keep p.1 p.2 ne nf nch e n,free p.1 p.2 nch e n,ne,nf,d
def Inv.un(I:Inv X pq σ H s)(u:Un X.fs [] H H' s.heap h')(hok:HOk X.prog X.w H' h'):Inv X pq σ H' {s with heap:=h',toks:=t'}:=by
 let⟨m,⟨o,es,ep,ho,r⟩,_⟩:=id I.loc;let⟨sl,hL⟩:=u.any ho I.free (by simp);exact I.step (g':=s.gens) (d':=s.drawn) (ch:=[]) (λ_ z=>nomatch z) (λb o _ hb _ e n=>u.keep b o e n hb (by simp)) (λb o _ hb _ e n=>u.slot b o e n hb (by simp)) (λb o _ e n=>u.free b o e n (by simp)) (λb o _ e=>u.there b o e (by simp)) u.tups u.frzs u.tbls (λm' hm=>by
  let⟨o',es',ep',ho',r'⟩:=hm;rw[ho]at ho';cases ho';exact⟨_,es',ep',hL,r'⟩) hok I.bare
def Inv.call{g':Array GenState}{d':Drawn}(I:Inv X pq σ H s)(u:Un (frs X.stack) ch H H' s.heap h')(hok:HOk X.prog X.w H' h')(hg:Jb5 g')(hch:∀b∈ch,(b∈X.ex\/X.s₀.heap.objs.size<=b)/\b≠X.env.locals/\(∀x c,X.env.cells.lookup x=some c->c≠b)/\∀p∈X.pn++pq,p.1≠b) :
  Inv X pq σ H' {s with heap:=h',gens:=g',drawn:=d',toks:=t'}:=by
 let⟨m,⟨o,es,ep,ho,r⟩,_⟩:=id I.loc;let⟨sl,hL⟩:=u.any ho I.free λz=>(hch _ z).2.1 rfl;exact I.step (ch:=ch) hch (λb o hL hb hc e n=>u.keep b o e n (λz=>(Jp.mp (I.stkSub b z)).elim hL hb) hc) (λb o _ _ hc e n=>u.any e n hc) (λb o hc e n=>u.free b o e n hc) (λb o hc e=>u.there b o e hc) u.tups u.frzs u.tbls (λm' hm=>by
  let⟨o',es',ep',ho',r'⟩:=hm;rw[ho]at ho';cases ho';exact⟨_,es',ep',hL,r'⟩) hok hg
def Inv.turned(I:Inv X pq σ H s)(k:∀b o,b≠it->s.heap.get? b=some o->h'.get? b=some o)(hn:H it=none)(hL:it≠X.env.locals)(h1:it∈X.ex\/X.s₀.heap.objs.size<=it)(h2:∀x c,X.env.cells.lookup x=some c->c≠it)(h3:∀p∈X.pn++pq,p.1≠it):Inv X pq σ H {s with heap:=h',toks:=t'}:=by
 let nit:∀b u,H b=some u->b≠it:=λb u e z=>by rw[z,hn]at e;cases e
 refine I.step (g':=s.gens) (d':=s.drawn) (ch:=[it]) (λb hb=>?_) (λb o _ _ hc e _=>k b o (λz=>hc (by simp[z])) e) (λb o _ _ hc e _=>⟨o.slots,k b o (λz=>hc (by simp[z])) e⟩) (λ_ _ _ _ n=>n)
  (λb o hc e=>⟨o,k b o (λz=>hc (by simp[z])) e⟩) (λ_ _ e=>e) (λ_ _ _ e=>e) (λb ps e=>⟨#[],by rw[e];simp⟩) (λm hm=>?_) (λb u e=>?_) I.bare
 .let e:b=it:=by simpa using hb
  subst e;exists h1,hL,h2,h3
 .let⟨o,es,ep,ho,r⟩:=hm;exists o,es,ep,k _ o (Cw hL) ho,r
 .refine(I.hok b u e).stay (λc v hc q=>k c v ?_ q) (λ_ q=>q) λ_ _ q=>q;rcases hc with z|z
  .rw[z];exact nit b u e
  .exact nit c _ z
def Inv.tok(I:Inv X pq σ H s)(t:Nat):Inv X pq σ H {s with toks:=t}:=I.un (h':=s.heap) (t':=t) Un.refl I.hok
def Inv.kept(I:Inv X pq σ H s)(k:∀b u,s.heap.get? b=some u->h'.get? b=some u):Inv X pq σ H {s with heap:=h',toks:=t'}:=I.un (Un.kept k) (I.hok.kept k)
def Inv.laid{a:Addr}(I:Inv X pq σ H s)(k:∀b u,s.heap.get? b=some u->h'.get? b=some u)(hp:s.heap.objs.size<=a)(new:Y5 X.prog X.w (upd H a o) h' a o) :
  Inv X pq σ (upd H a o) {s with heap:=h',toks:=t'}:=I.un (Un.laid k hp (I.hok.fresh hp)) (I.hok.laid k hp new)
def Inv.write{x e:Addr}(I:Inv X pq σ H s)(mu:Mut (H x))(he:e=x\/H e=some (.own x))(k:∀b u,b≠e->s.heap.get? b=some u->h'.get? b=some u)(heo:∃u,h'.get? e=some u)(new:Y5 X.prog X.w (upd H x o) h' x o):Inv X pq σ (upd H x o) {s with heap:=h',toks:=t'}:=I.un (Un.write mu he k heo) (I.hok.write mu he k heo new)
def Inv.weak{σ':List (Option V)}(I:Inv X pq σ H s)(hl:σ'.length=σ.length)(w:∀(i:Nat)v,σ'[i]?=some (some v)->σ[i]?=some (some v)):Inv X pq σ' H s :=
 ⟨I.ok,I.os,I.bare,I.base,let⟨m,hn,hl'⟩:=I.loc;⟨m,hn,λi x v e1 e2 e3=>hl' i x v e1 (w i v e2) e3⟩,I.cell,I.free,I.freeC,I.pin,I.hok,hl.trans I.len⟩
def Inv.pins_of{pins':List (Addr×Obj)}(I:Inv X pq σ H s)(h:∀p∈pins',s.heap.get? p.1=some p.2/\H p.1=none/\p.1≠X.env.locals/\p.1∉X.fs/\∀v,p.2.data≠.cell v):Inv X pins' σ H s :=
 ⟨I.ok,I.os,I.bare,I.base,I.loc,I.cell,I.free,I.freeC,λp hp=>(Gb.mp hp).elim (λz=>I.pin p (Bh _ z)) (h p),I.hok,I.len⟩
def Zen(hN:N.Nodup){i:Nat}{x:Str}(a:N[i]?=some x)(b:N[j]?=some x):i=j:=by
 let⟨h1,e1⟩:=Je.mp a;let⟨h2,e2⟩:=Je.mp b;exact(G3 hN).mp (e1.trans e2.symm)
def Zal{M:Ji1}{i:Nat}{x:Str}{u:Value}{Q:Unit->Ca->Prop}(I:Inv X pq σ H s)(hN:X.N.Nodup)(hi:X.N[i]?=some x)(hx:Loc X.env.scope x)(r:RelV v u)(h:∀s',Inv X pq (σ.set i (some v)) H s'->(∃a,Hf a s.heap s'.heap/\(a=X.env.locals\/X.env.cells.lookup x=some a))->Q ⟨⟩ s')(hf:X.fn x=true\/X.env.scope.names.lookup x=some .local:=by first|left;rfl|right;rfl|assumption):Cc M A (Jjm X.env x u) Q E s:=by
 let⟨m,hn,hl⟩:=id I.loc;let hcls:(X.env.scope.kind == .class ||(X.env.scope.kind == .module&&X.env.locals != X.env.globals))=false:=by rw[I.ok.kind];rfl
 let hiσ:i < σ.length:=by rw[I.len];exact(Je.mp hi).1
 let cne:=I.cne;let tracked:∀{a:Addr}{h':Heap},(∃o,s.heap.get? a=some o/\H a=none)->Hf a s.heap h'->HOk X.prog X.w H h':=λ{a h'}ha hs b ob e=>by
  let⟨_,_,hfree⟩:=ha;refine(I.hok b ob e).stay (λc w' hc q=>(hs.2 c ?_).trans q) (λ_ q=>q) λ_ _ q=>q;rintro rfl;rcases hc with rfl|hc
  .rw[hfree]at e;cases e
  .rw[hfree]at hc;cases hc
 rcases hx with hk|hk
 .refine wpAny_storeName_local hk hn (λh' hn' hs=>?_) hcls;let⟨oL,_,_,hoL,_⟩:=id hn;refine h _ ⟨I.ok,I.os,I.bare,⟨λb o e n hb hx=>?_,λb o e n hb hx=>?_,I.base.free,λb o e hx=>?_,I.base.tups,I.base.frzs,I.base.tbls⟩,⟨_,hn',λj y v' e1 e2 e3=>?_⟩,λy c e=>?_,I.free,I.freeC,λp hp=>?_,tracked ⟨oL,hoL,I.free⟩ hs,by simpa using I.len⟩ ⟨_,hs,.inl rfl⟩
  .exact(hs.2 b (Gi (Jy (Db e) I.ok.above))).trans (I.base.keep b o e n hb hx)
  .let⟨sl,e1⟩:=I.base.slot b o e n hb hx;exists sl,(hs.2 b (Gi (Jy (Db e) I.ok.above))).trans e1
  .let⟨o',e1⟩:=I.base.there b o e hx;exists o',(hs.2 b (Gi (Jy (Db e) I.ok.above))).trans e1
  .by_cases hj:j=i
   .subst hj;rw[hi]at e1;cases e1;rw[J0 hiσ]at e2;cases e2;exists u,r,.inl ⟨hk,by simp⟩
   .rw[Ga (Cw hj)]at e2;let⟨u',r',q⟩:=hl j y v' e1 e2 e3;exists u',r',?_;rcases q with⟨k,e⟩|⟨k,c,e,z⟩
    .refine .inl ⟨k,?_⟩;let:y≠x:=λe=>hj (Zen hN e1 (e ▸ hi));simp[this,e]
    .exact .inr ⟨k,c,e,z.sameBut hs (cne y c e)⟩
  .let⟨w',z⟩:=I.cell y c e;exists w',z.sameBut hs (cne y c e)
  .let⟨e,n,ne,nf,d⟩:=I.pin p hp;exists(hs.2 p.1 ne).trans e,n,ne,nf,d
 .let hfn:X.fn x=true:=by
   rcases hf with z|z
   .exact z
   .rw[z]at hk;cases hk
  let⟨c,hc⟩:=I.ok.has x (.inl hk);let⟨w',z⟩:=I.cell x c hc;refine wpAny_storeName_cell I.ok.kind hk hc z (λh' hc' hs=>?_);let⟨oc,hoc,hocd⟩:=id z;refine h {s with heap:=h'} ⟨I.ok,I.os,I.bare,⟨λb o e n hb hx=>?_,λb o e n hb hx=>?_,I.base.free,λb o e hx=>?_,I.base.tups,I.base.frzs,I.base.tbls⟩,⟨m,hn.sameBut hs (Cw (cne x c hc)),λj y v' e1 e2 e3=>?_⟩,λy c' e=>?_,I.free,I.freeC,λp hp=>?_,tracked ⟨oc,hoc,I.freeC x c hc⟩ hs,by simpa using I.len⟩ ⟨c,hs,.inr hc⟩
  .exact(hs.2 b (Gi (Jy (Db e) (I.ok.cab x c hfn hc)))).trans (I.base.keep b o e n hb hx)
  .let⟨sl,e1⟩:=I.base.slot b o e n hb hx;exists sl,(hs.2 b (Gi (Jy (Db e) (I.ok.cab x c hfn hc)))).trans e1
  .let⟨o',e1⟩:=I.base.there b o e hx;exists o',(hs.2 b (Gi (Jy (Db e) (I.ok.cab x c hfn hc)))).trans e1
  .by_cases hj:j=i
   .subst hj;rw[hi]at e1;cases e1;rw[J0 hiσ]at e2;cases e2;exists u,r,.inr ⟨.inl hk,c,hc,hc'⟩
   .rw[Ga (Cw hj)]at e2;let⟨u',r',q⟩:=hl j y v' e1 e2 e3;exists u',r',?_;rcases q with q|⟨k,c',e,z'⟩
    .exact .inl q
    .refine .inr ⟨k,c',e,z'.sameBut hs ?_⟩;rintro rfl;exact hj (Zen hN e1 (I.ok.inj _ _ _ e hc ▸ hi))
  .by_cases hcc:c'=c
   .subst hcc;exists _,hc'
   .let⟨w2,z2⟩:=I.cell y c' e;exists w2,z2.sameBut hs hcc
  .let⟨e,n,ne,nf,d⟩:=I.pin p hp;exists(hs.2 p.1 ?_).trans e,n,ne,nf,d;intro q;rw[q,hoc]at e;let q':oc=p.2:=Dh e;exact d w' (by rw[<-q'];exact hocd)
def Uu{M:Ji1}{i:Nat}{x:Str}{u:Value}{Q:Unit->Ca->Prop}(I:Inv X pq σ H s)(hN:X.N.Nodup)(hi:X.N[i]?=some x)(hx:Loc X.env.scope x)(r:RelV v u)(h:∀s',Inv X pq (σ.set i (some v)) H s'->Q ⟨⟩ s')(hf:X.fn x=true\/X.env.scope.names.lookup x=some .local:=by first|left;rfl|right;rfl|assumption):Cc M A (Jjm X.env x u) Q E s :=
 Zal I hN hi hx r (λs' I' _=>h s' I') hf
def Inv.call'{s':Ca}(I:Inv X pq σ H s)(ho:s'.os=s.os)(u:Un (frs X.stack) ch H H' s.heap s'.heap)(hok:HOk X.prog X.w H' s'.heap)(hg:Jb5 s'.gens)(hch:∀b∈ch,(b∈X.ex\/X.s₀.heap.objs.size<=b)/\b≠X.env.locals/\(∀x c,X.env.cells.lookup x=some c->c≠b)/\∀p∈X.pn++pq,p.1≠b):Inv X pq σ H' s':=by
 let⟨h',g',d',t',o'⟩:=s';let e:o'=s.os:=ho;subst e;exact I.call (g':=g') (t':=t') (d':=d') u hok hg hch
end
abbrev XK:=Value->Option Addr->Hp->Prop
abbrev St:=List (Option V)
variable{σ:L2.St}
abbrev VK:=V->Hp->Prop
variable{Q:L2.VK}
abbrev TE:=St->Hp->VK->Prop
variable{ta te tb to:L2.TE}
abbrev TT:=St->Hp->(Bool->Hp->Prop)->Prop
abbrev TA:=St->Hp->(List V->Hp->Prop)->Prop
structure Ends where
 nx:St->Hp->Prop
 rt:VK
 bk:St->Hp->Prop:=λ_ _=>False
 ct:St->Hp->Prop:=λ_ _=>False
abbrev TS:=Ends->St->Hp->Prop
def EP(X:Cx)(pq:List (Addr×Obj))(σ:St)(Q:VK)(u:Value)(s':Ca):Prop:=∃v H',Inv X pq σ H' s'/\RelV v u/\Q v H'
def TP(X:Cx)(pq:List (Addr×Obj))(σ:St)(Q:Bool->Hp->Prop)(b:Bool)(s':Ca):Prop:=∃H',Inv X pq σ H' s'/\Q b H'
def AP(X:Cx)(pq:List (Addr×Obj))(σ:St)(Q:List V->Hp->Prop)(us:List Value)(s':Ca):Prop:=∃vs H',Inv X pq σ H' s'/\Vals vs us/\Q vs H'
def SP(X:Cx)(pq:List (Addr×Obj))(D:Ends)(f:Flow)(s':Ca):Prop :=
 match f with
 |.next=>∃σ' H',Inv X pq σ' H' s'/\D.nx σ' H'
 |.brk=>∃σ' H',Inv X pq σ' H' s'/\D.bk σ' H'
 |.cont=>∃σ' H',Inv X pq σ' H' s'/\D.ct σ' H'
 |.ret u=>∃v σ' H',Inv X pq σ' H' s'/\RelV v u/\D.rt v H'
def PE(X:Cx)(e:Expr)(t:TE):Prop :=
 ∀(pq:List (Addr×Obj))(s:Ca)(σ:St)(H:Hp)(Q:VK),Inv X pq σ H s->t σ H Q->Cc (Ch X.prog X.w) X.A (eval e X.env) (EP X pq σ Q) X.xe s
def PT(X:Cx)(e:Expr)(t:TT):Prop :=
 ∀(pq:List (Addr×Obj))(s:Ca)(σ:St)(H:Hp)(Q:Bool->Hp->Prop),Inv X pq σ H s->t σ H Q->Cc (Ch X.prog X.w) X.A (isTrue e X.env (eval e X.env)) (TP X pq σ Q) X.xe s
def PW(X:Cx)(e:Expr)(t:TT):Prop :=
 ∀(whole:Sem Value)(pq:List (Addr×Obj))(s:Ca)(σ:St)(H:Hp)(Q:Bool->Hp->Prop),Inv X pq σ H s->t σ H Q->Cc (Ch X.prog X.w) X.A (isTrue e X.env whole) (TP X pq σ Q) X.xe s
def PW.pt{e:Expr}{t:TT}(h:PW X e t):PT X e t:=h _
def PA(X:Cx)(es:List Expr)(t:TA):Prop :=
 ∀(pos:Pos)(pq:List (Addr×Obj))(s:Ca)(σ:St)(H:Hp)(Q:List V->Hp->Prop),Inv X pq σ H s->t σ H Q->Cc (Ch X.prog X.w) X.A (Ji2 (Hy pos (Ci es X.env))) (AP X pq σ Q) X.xe s
def PS(X:Cx)(st:Stmt)(t:TS):Prop :=
 ∀(pq:List (Addr×Obj))(s:Ca)(σ:St)(H:Hp)(D:Ends),Inv X pq σ H s->t D σ H->Cc (Ch X.prog X.w) X.A (exec st X.env) (SP X pq D) X.xe s
def PSs(X:Cx)(st:List Stmt)(t:TS):Prop :=
 ∀(pq:List (Addr×Obj))(s:Ca)(σ:St)(H:Hp)(D:Ends),Inv X pq σ H s->t D σ H->Cc (Ch X.prog X.w) X.A (execs st X.env) (SP X pq D) X.xe s
def thn{α:Type}{t:Sem α}{Q Q':α->Ca->Prop}{M:Ji1}(h:Cc M A t Q E s)(hQ:∀a s,Q a s->Q' a s):Cc M A t Q' E s:=Dj h hQ λ_ _ x=>x
section
def tVar(i:Nat):TE:=λσ H Q=>∃v,σ[i]?=some (some v)/\Q v H
def tC(v:V):TE:=λ_ H Q=>Q v H
def Zs8{i:Nat}{x:Str}(hN:X.N[i]?=some x)(hv:Vis X.env.scope x)(hd:(x==("__debug__":Str))=false:=by decide)(hcd:(x==("__classdict__":Str))=false:=by decide):PE X (.Name x pos) (tVar i):=by
 intro pq s σ H Q I h;let⟨v,e,h⟩:=h;let⟨m,hn,hl⟩:=I.loc;let⟨u,r,l⟩:=hl i x v hN e hv;let fin:EP X pq σ Q u s:=⟨v,H,I,r,h⟩;rcases l with⟨hk,hm⟩|⟨hk,c,hc,hcell⟩
 .exact Jid (Jej I.ok.kind hk hn hm fin) hd
 .rcases hk with hk|hk
  .exact Jid (Jeu I.ok.kind hk hc hcell fin) hd
  .exact Jid (wpAny_loadName_free I.ok.kind hk hc hcell fin hcd) hd
def Zh{i j pos}:PE X (.Constant (.int i) j pos) (tC (.int i)):=λ_ _ _ H _ I h=>wpAny_Constant_int ⟨.int i,H,I.tok _,⟨_,rfl⟩,h⟩
def V2{b j pos}:PE X (.Constant (.bool b) j pos) (tC (.bl b)):=λ_ _ _ H _ I h=>Constant_bool ⟨.bl b,H,I,rfl,h⟩
def S0{j pos}:PE X (.Constant .none j pos) (tC .non):=λ_ _ _ H _ I h=>Je6 ⟨.non,H,I,rfl,h⟩
def Wk{x j pos}:PE X (.Constant (.str x) j pos) (tC (.str x)):=λ_ _ _ H _ I h=>Calls.Constant_str ⟨.str x,H,I.tok _,⟨_,rfl⟩,h⟩
def Gl(X:Cx)(x:Str):Prop:=X.env.kindOf x=some .globalImplicit
def Ua{x:Str}{u:Value}{Q:Value->Ca->Prop}(I:Inv X pq σ H s)(hg:Gl X x)(hm:X.mg x=some u)(h:Q u s)(hd:(x==("__debug__":Str))=false:=by decide):Cc (Ch X.prog X.w) X.A (eval (.Name x pos) X.env) Q E s :=
 Mc I.ok.kind hg (Calls.loadGlobal_global (by rw[I.ok.glob];exact I.mod.glob.keeps I.bk) hm h) hd
def Ra{x:Str}{u:Value}{Q:Value->Ca->Prop}(I:Inv X pq σ H s)(hg:Gl X x)(hm:X.mg x=none)(hv:K1 x=some u)(h:Q u s)(hn:x≠"__name__":=by decide)(hd:(x==("__debug__":Str))=false:=by decide):Cc (Ch X.prog X.w) X.A (eval (.Name x pos) X.env) Q E s:=by
 let⟨mb,h1,h2⟩:=I.mod.blt;exact Mc I.ok.kind hg (Calls.loadGlobal_builtin (by rw[I.ok.glob];exact I.mod.glob.keeps I.bk) hm (by rw[I.ok.blt];exact h1.keeps I.bk) ((h2 x hn).trans hv) h) hd
def Vj{x:Str}{u:Value}(hg:Gl X x)(hm:X.mg x=none)(hv:K1 x=some u)(r:RelV v u)(hn:x≠"__name__":=by decide)(hd:(x==("__debug__":Str))=false:=by decide):PE X (.Name x pos) (tC v) :=
 λ_ _ _ H _ I h=>Ra I hg hm hv ⟨v,H,I,r,h⟩ hn hd
variable{a b:Expr} 
def PC(X:Cx)(op:Ji3)(a b:Expr)(t:TE):Prop :=
 ∀(pq:List (Addr×Obj))(s:Ca)(σ:St)(H:Hp)(Q:VK),Inv X pq σ H s->t σ H Q ->
  Cc (Ch X.prog X.w) X.A (eval a X.env) (λv s₁=>Cc (Ch X.prog X.w) X.A (eval b X.env) (λu s₂=>Cc (Ch X.prog X.w) X.A (Ee op v u) (EP X pq σ Q) X.xe s₂) X.xe s₁) X.xe s
def Zly(b:Expr){op:Ji3}(h:op≠.In)(h2:op≠.NotIn):Hv op b=false:=by
 let e1:(op==Ji3.In)=false:=by cases op<;>first|rfl|exact absurd rfl h
 let e2:(op==Jj1)=false:=by cases op<;>first|rfl|exact absurd rfl h2
 cases b<;>simp[Hv,e1,e2]
def tIsN(ta:TE):TE:=λσ H Q=>ta σ H λx H1=>Q (.bl (decide (x=.non))) H1
def Zr6(ta:TE):TE:=λσ H Q=>ta σ H λx H1=>Q (.bl (!decide (x=.non))) H1
theorem RelV.none_iff{x:V}{v:Value}(r:RelV x v):(v==Value.none)=decide (x=.non):=by
 cases x with
 |non=>cases r;rfl
 |bl _=>cases r;rfl
 |int _=>obtain⟨t,rfl⟩:=r;rfl
 |str _=>obtain⟨t,rfl⟩:=r;rfl
 |byt _=>obtain⟨t,rfl⟩:=r;rfl
 |flt _=>obtain⟨t,rfl⟩:=r;rfl
 |ref _=>cases r;rfl
 |ty _=>cases r;rfl
def Za0{j pos'}(ha:PE X a ta):PC X .Is a (.Constant .none j pos') (tIsN ta):=by
 intro pq s σ H Q I h;refine thn (ha pq s σ H _ I h) λv s1 hz=>?_;let⟨x,H1,I1,r1,q1⟩:=hz;exact Je6 (is_none_gen ⟨.bl _,H1,I1,by rw[r1.none_iff];rfl,q1⟩)
def Nm{j pos'}(ha:PE X a ta):PC X .IsNot a (.Constant .none j pos') (Zr6 ta):=by
 intro pq s σ H Q I h;refine thn (ha pq s σ H _ I h) λv s1 hz=>?_;let⟨x,H1,I1,r1,q1⟩:=hz;exact Je6 (isnot_none_gen ⟨.bl _,H1,I1,by rw[r1.none_iff];rfl,q1⟩)
def tB(t:TE):TT:=λσ H Q=>t σ H λx H1=>∃c,x=.bl c/\Q c H1
def Va{op:Ji3}{t:TE}(h:PC X op a b t)(h1:Hv op b=false:=by first|exact Zly _ nofun nofun|rfl):PT X (.Compare a [op] [b] pos) (tB t):=by
 intro pq s σ H Q I hw;refine Jd3 (thn (h pq s σ H _ I hw) λv s1 h1=>thn h1 λu s2 h2=>thn h2 λc s3 hz=>?_) h1;let⟨x,H1,I1,r1,q1⟩:=hz;let⟨d,rfl,q⟩:=q1;cases r1;exact Eh ⟨H1,I1,q⟩
def Vv{e:Expr}{t:TE}(h:PE X e t)(he:∀whole,isTrue e X.env whole=(do let v <-whole;Jfu e.pos;Lu [v] (truthy v)):=by intro _;rfl):PT X e (tB t):=by
 intro pq s σ H Q I hw;refine isTrue_plain (thn (h pq s σ H _ I hw) λv s1 hz=>?_) (he _);let⟨x,H1,I1,r1,q1⟩:=hz;let⟨d,rfl,q⟩:=q1;cases r1;exact Eh ⟨H1,I1,q⟩
variable{tA tB':TT}{rest:List Expr}
def tAnd(t u:TT):TT:=λσ H Q=>t σ H λc H1=>if c=true then u σ H1 Q else Q false H1
def tOr(t u:TT):TT:=λσ H Q=>t σ H λc H1=>if c=true then Q true H1 else u σ H1 Q
def tNot(t:TT):TT:=λσ H Q=>t σ H λc H1=>Q (!c) H1
theorem Zcq(ha:PT X a tA):PW X (.BoolOp .And [a] pos) tA:=by
 intro wh pq s σ H Q I h;refine isTrue_and (thn (ha pq s σ H Q I h) λc s1 e=>?_);cases c with
 |true=>exact isTrue_and_nil e
 |false=>exact e
theorem Tp(ha:PT X a tA):PW X (.BoolOp .Or [a] pos) tA:=by
 intro wh pq s σ H Q I h;refine isTrue_or (thn (ha pq s σ H Q I h) λc s1 e=>?_);cases c with
 |false=>exact isTrue_or_nil e
 |true=>exact e
theorem Zhz(ha:PT X a tA)(hb:PW X (.BoolOp .And (b::rest) pos) tB'):PW X (.BoolOp .And (a::b::rest) pos) (tAnd tA tB'):=by
 intro wh pq s σ H Q I h;refine isTrue_and (thn (ha pq s σ H _ I h) λc s1 hz=>?_);let⟨H1,I1,q1⟩:=hz;cases c with
 |true=>exact hb wh pq s1 σ H1 Q I1 q1
 |false=>exact⟨H1,I1,q1⟩
theorem Sb(ha:PT X a tA)(hb:PW X (.BoolOp .Or (b::rest) pos) tB'):PW X (.BoolOp .Or (a::b::rest) pos) (tOr tA tB'):=by
 intro wh pq s σ H Q I h;refine isTrue_or (thn (ha pq s σ H _ I h) λc s1 hz=>?_);let⟨H1,I1,q1⟩:=hz;cases c with
 |true=>exact⟨H1,I1,q1⟩
 |false=>exact hb wh pq s1 σ H1 Q I1 q1
def Vw(ha:PT X a tA):PT X (.UnaryOp .Not a pos) (tNot tA):=by
 intro pq s σ H Q I h;exact isTrue_not (ha pq s σ H (λc H1=>Q (!c) H1) I h)
def Zsb(ta tb:TE):TE:=λσ H Q=>ta σ H λx H1=>∃c,x=.bl c/\if c=true then tb σ H1 Q else Q (.bl false) H1
def Zr5(ta:TE):TE:=λσ H Q=>ta σ H λx H1=>∃c,x=.bl c/\Q (.bl (!c)) H1
def Zs9{op}{t:TE}(h:PE X a t):PE X (.BoolOp op [a] pos) t:=λpq s σ H Q I hw=>BoolOp_one (h pq s σ H Q I hw)
theorem Ztd(ha:PE X a ta)(hb:PE X (.BoolOp .And (b::rest) pos) tb):PE X (.BoolOp .And (a::b::rest) pos) (Zsb ta tb):=by
 intro pq s σ H Q I h;refine BoolOp_and (thn (ha pq s σ H _ I h) λv s1 hz=>?_);let⟨x,H1,I1,r1,q1⟩:=hz;let⟨c,rfl,q1⟩:=q1;cases r1;refine Eh ?_;cases c with
 |true=>exact hb pq s1 σ H1 Q I1 q1
 |false=>exact⟨.bl false,H1,I1,rfl,q1⟩
def Zta(ha:PE X a ta):PE X (.UnaryOp .Not a pos) (Zr5 ta):=by
 intro pq s σ H Q I h;refine UnaryOp_ (thn (ha pq s σ H _ I h) λv s1 hz=>?_);let⟨x,H1,I1,r1,q1⟩:=hz;let⟨c,rfl,q1⟩:=q1;cases r1;exact not_of (Eh ⟨.bl (!c),H1,I1,rfl,q1⟩)
end
def SqL(K:Cm)(H:Hp)(a:Addr)(xs:List V):Prop :=
 Rd H a (.lst xs) \/
  ∃(o:Obj)(its:Array Value)(n:Nat),K.lookup a=some o/\o.cls=.type "list"/\o.dict=none/\o.data=.seq its n/\its.size<=sizeLine/\Vals xs its.toList
def SqT(K:Cm)(H:Hp)(a:Addr)(xs:List V):Prop :=
 Rd H a (.tup xs) \/
  ∃(o:Obj)(its:Array Value)(n:Nat),K.lookup a=some o/\o.cls=.type "tuple"/\o.data=.seq its n/\its.size<=sizeLine/\Vals xs its.toList
def absV:Value->Option V
 |.none=>some .non
 |.bool b=>some (.bl b)
 |.int i _=>some (.int i)
 |.str x _=>some (.str x)
 |.bytes b _=>some (.byt b)
 |.float b _=>some (.flt b)
 |.ref a=>some (.ref a)
 |.type n=>some (.ty n)
 |_=>none
theorem RelV.abs{x:V}{u:Value}(r:RelV x u):absV u=some x:=by
 cases x with
 |non=>cases r;rfl
 |bl _=>cases r;rfl
 |int _=>obtain⟨t,rfl⟩:=r;rfl
 |str _=>obtain⟨t,rfl⟩:=r;rfl
 |byt _=>obtain⟨t,rfl⟩:=r;rfl
 |flt _=>obtain⟨t,rfl⟩:=r;rfl
 |ref _=>cases r;rfl
 |ty _=>cases r;rfl
def RelV.inj{x y:V}{u:Value}(r:RelV x u)(q:RelV y u):x=y:=Dh (r.abs.symm.trans q.abs)
theorem Vals.inj:∀{xs ys:List V}{us:List Value},Vals xs us->Vals ys us->xs=ys:=by
 intro _ _ _ hz9 hz8;cases hz9 with
 |nil=>
  cases hz8 with
  |nil=>
   exact rfl
 |cons r t=>
  cases hz8 with
  |cons r' t'=>
   exact by rw[r.inj r',Vals.inj t t']
section
variable{a:Addr} 
def SqL.of(h:H a=some (.lst xs)):SqL K H a xs:=.inl (.inl h)
def SqT.of(h:H a=some (.tup xs)):SqT K H a xs:=.inl (.inl h)
theorem Inv.list(I:Inv X pq σ H s)(h:SqL X.K H a xs):∃its:List Value,Vals xs its/\PlainL s.heap a its.toArray/\xs.length<=sizeLine:=by
 rcases h with h|⟨o,its,n,hk,hc,hd,hs,hz,r⟩
 .let⟨z,its,n,r,e⟩:=h.ok I.hok;exists its,r,⟨_,n,e,rfl,rfl,rfl⟩,z
 .exists its.toList,r,⟨o,n,I.kIn a o hk,hc,hd,by simpa using hs⟩,?_;let e:=r.length;simp only[Bs]at e;lia
theorem Inv.tuple(I:Inv X pq σ H s)(h:SqT X.K H a xs):∃its:List Value,Vals xs its/\IsTup s.heap a its.toArray/\xs.length<=sizeLine:=by
 rcases h with h|⟨o,its,n,hk,hc,hs,hz,r⟩
 .let⟨z,its,r,p⟩:=h.ok I.hok;exists its,r,p.tup,z
 .exists its.toList,r,⟨o,I.kIn a o hk,hc,n,by simpa using hs⟩,?_;let e:=r.length;simp only[Bs]at e;lia
def Inv.list_inj(I:Inv X pq σ H s)(h:SqL X.K H a xs)(h':SqL X.K H a ys):xs=ys:=by
 let⟨its,r,⟨o,n,e,_,_,d⟩,_⟩:=I.list h;let⟨its',r',⟨o',n',e',_,_,d'⟩,_⟩:=I.list h';rw[e]at e';cases e';rw[d]at d';injection d' with d1 _
 let:its=its':=by simpa using congrArg Jgh d1
 subst this;exact r.inj r'
def Inv.tuple_inj(I:Inv X pq σ H s)(h:SqT X.K H a xs)(h':SqT X.K H a ys):xs=ys:=by
 let⟨its,r,⟨o,e,_,n,d⟩,_⟩:=I.tuple h;let⟨its',r',⟨o',e',_,n',d'⟩,_⟩:=I.tuple h';rw[e]at e';cases e';rw[d]at d';injection d' with d1 _
 let:its=its':=by simpa using congrArg Jgh d1
 subst this;exact r.inj r'
end
abbrev Cx.wish(X:Cx)(E:Value->Ca->Prop):Cx:={X with xe:=E}
abbrev Cx.nox(X:Cx):Cx:=X.wish λ_ _=>False
def Cx.Ok.wish(ok:X.Ok)(E:Value->Ca->Prop):(X.wish E).Ok :=
 ⟨ok.mod,ok.kind,ok.glob,ok.blt,ok.above,ok.inj,ok.has,ok.cab,ok.hd,ok.frames,ok.stk,ok.exf,ok.bs,ok.bsz,ok.noex,ok.exfs,ok.funs,ok.frf⟩
def Cx.Ok.unwish(ok:(X.wish E).Ok):X.Ok :=
 ⟨ok.mod,ok.kind,ok.glob,ok.blt,ok.above,ok.inj,ok.has,ok.cab,ok.hd,ok.frames,ok.stk,ok.exf,ok.bs,ok.bsz,ok.noex,ok.exfs,ok.funs,ok.frf⟩
section
def Inv.wish(I:Inv X pq σ H s)(E:Value->Ca->Prop):Inv (X.wish E) pq σ H s:=⟨I.ok.wish E,I.os,I.bare,I.base,I.loc,I.cell,I.free,I.freeC,I.pin,I.hok,I.len⟩
def Inv.unwish(I:Inv (X.wish E) pq σ H s):Inv X pq σ H s:=⟨I.ok.unwish,I.os,I.bare,I.base,I.loc,I.cell,I.free,I.freeC,I.pin,I.hok,I.len⟩
theorem SP.unwish{D:Ends}{f:Flow}{s':Ca}(h:SP (X.wish E) pq D f s'):SP X pq D f s':=by
 cases f with
 |next=>obtain⟨σ',H',I,q⟩:=h;exists σ',H',I.unwish,q
 |brk=>obtain⟨σ',H',I,q⟩:=h;exists σ',H',I.unwish,q
 |cont=>obtain⟨σ',H',I,q⟩:=h;exists σ',H',I.unwish,q
 |ret u=>obtain⟨v,σ',H',I,r,q⟩:=h;exists v,σ',H',I.unwish,r,q
def PSs.nox{st:List Stmt}{t:TS}(h:PSs X.nox st t):PSs X st t:=λpq s σ H D I hw =>
 Dj (h pq s σ H D (I.wish _) hw) (λ_ _ q=>q.unwish) λ_ _ z=>Cq z
end
section
variable{rest:List Stmt}{t u:TS}{e:Expr} 
def Zr7:TS:=λD σ H=>D.nx σ H
def tSeq(t u:TS):TS:=λD σ H=>t {D with nx:=u D} σ H
def Zz:PSs X [] Zr7:=λ_ _ σ H _ I h=>E8 ⟨σ,H,I,h⟩
theorem Zd(h1:PS X st t)(h2:PSs X rest u):PSs X (st::rest) (tSeq t u):=by
 intro pq s σ H D I h;refine Ld (thn (h1 pq s σ H {D with nx:=u D} I h) λf s1 q=>?_);cases f with
 |next =>
  let⟨σ',H',I',q⟩:=q;exact h2 pq s1 σ' H' D I' q
 |ret v=>exact q
 |brk=>exact q
 |cont=>exact q
theorem Zi(h1:PS X st t):PSs X [st] t:=by
 intro pq s σ H D I h;refine Ld (thn (h1 pq s σ H D I h) λf s1 q=>?_);cases f with
 |next=>exact E8 q
 |ret v=>exact q
 |brk=>exact q
 |cont=>exact q
def Inv.quiet(I:Inv X pq σ H s):interactive X.env=false:=by simp[interactive,I.ok.kind]
def Zr8(te:TE):TS:=λD σ H=>te σ H λ_ H1=>D.nx σ H1
def Xj(he:PE X e te)(hs:Mx e none pos.line X.env=pure false:=by rfl):PS X (.Expr e pos) (Zr8 te):=by
 intro pq s σ H D I h;exact wpAny_Expr_any (thn (he pq s σ H _ I h) λv s1⟨x,H1,I1,r1,q1⟩=>⟨σ,H1,I1,q1⟩) I.quiet hs
def tRet(te:TE):TS:=λD σ H=>te σ H D.rt
def Zx(he:PE X e te):PS X (.Return (some e) pos) (tRet te):=by
 intro pq s σ H D I h;exact Jfv (thn (he pq s σ H _ I h) λv s1⟨x,H1,I1,r1,q1⟩=>⟨x,σ,H1,I1,r1,q1⟩)
def Zvt:TS:=λD _ H=>D.rt .non H
def Zpd:PS X (.Return none pos) Zvt:=λ_ _ σ H _ I h=>wpAny_Return_none ⟨.non,σ,H,I,rfl,h⟩
def tIfS(c:TT)(t u:TS):TS:=λD σ H=>c σ H λb H1=>if b=true then t D σ H1 else u D σ H1
theorem Yt{c:Expr}{a b:List Stmt}{tc:TT}(hc:PT X c tc)(ha:PSs X a t)(hb:PSs X b u):PS X (.If c a b pos) (tIfS tc t u):=by
 intro pq s σ H D I h;refine wpAny_If (thn (hc pq s σ H _ I h) λd s1 hz=>?_);let⟨H1,I1,q1⟩:=hz;cases d with
 |true=>exact ha pq s1 σ H1 D I1 q1
 |false=>exact hb pq s1 σ H1 D I1 q1
def Zmw:TS:=λ_ _ _=>False
def Ru:PS X st Zmw:=λ_ _ _ _ _ _ h=>h.elim
end
abbrev TG:=V->St->Hp->(St->Hp->Prop)->Prop
variable{g:L2.TG}
abbrev TGs:=List V->St->Hp->(St->Hp->Prop)->Prop
def PG(X:Cx)(target:Expr)(t:TG):Prop :=
 ∀(pq:List (Addr×Obj))(s:Ca)(σ:St)(H:Hp)(v:V)(u:Value)(Q:St->Hp->Prop),Inv X pq σ H s->RelV v u->t v σ H Q ->
  Cc (Ch X.prog X.w) X.A (Jgi target X.env u) (λ_ s'=>∃σ' H',Inv X pq σ' H' s'/\Q σ' H') X.xe s
def PGs(X:Cx)(ts:List Expr)(t:TGs):Prop :=
 ∀(pq:List (Addr×Obj))(s:Ca)(σ:St)(H:Hp)(vs:List V)(us:List Value)(Q:St->Hp->Prop),Inv X pq σ H s->Vals vs us->t vs σ H Q ->
  Cc (Ch X.prog X.w) X.A (assignInOrder ((My ts X.env).map (·.2)) us) (λ_ s'=>∃σ' H',Inv X pq σ' H' s'/\Q σ' H') X.xe s
abbrev TSet:=V->V->V->Hp->(Hp->Prop)->Prop
def PSet(X:Cx)(t:TSet):Prop :=
 ∀(pq:List (Addr×Obj))(s:Ca)(σ:St)(H:Hp)(o i v:V)(ov iv u:Value)(Q:Hp->Prop),Inv X pq σ H s->RelV o ov->RelV i iv->RelV v u->t o i v H Q ->
  Cc (Ch X.prog X.w) X.A (Jj2 ov iv u) (λ_ s'=>∃H',Inv X pq σ H' s'/\Q H') X.xe s
abbrev TIp:=V->V->Hp->VK->Prop
def PIp(X:Cx)(op:Ji4)(t:TIp):Prop :=
 ∀(pq:List (Addr×Obj))(s:Ca)(σ:St)(H:Hp)(x y:V)(v u:Value)(Q:VK),Inv X pq σ H s->RelV x v->RelV y u->t x y H Q ->
  Cc (Ch X.prog X.w) X.A (inplaceOp op v u) (EP X pq σ Q) X.xe s
section
def Zbk(i:Nat):TG:=λv σ H Q=>Q (σ.set i (some v)) H
def Zt{i:Nat}{x:Str}(hN:X.N.Nodup)(hi:X.N[i]?=some x)(hx:Loc X.env.scope x)(hf:X.fn x=true\/X.env.scope.names.lookup x=some .local:=by first|left;rfl|right;rfl|assumption):PG X (.Name x pos) (Zbk i):=by
 intro pq s σ H v u Q I r h;exact Jfw (Uu I hN hi hx r (λs' I'=>⟨_,H,I',h⟩) hf)
def gNil:TGs:=λvs σ H Q=>vs=[]/\Q σ H
def Zqb(t:TG)(u:TGs):TGs:=λvs σ H Q=>∃v r,vs=v::r/\t v σ H λσ' H'=>u r σ' H' Q
def X9:PGs X [] gNil:=by
 intro pq s σ H vs us Q I r h;let⟨e,h⟩:=h;subst e;cases r;exact assignInOrder_nil ⟨σ,H,I,h⟩
theorem Yc{e:Expr}{t:TG}{u:TGs}(h1:PG X e t)(h2:PGs X es u)(hs:(My (e::es) X.env).map (·.2)=Jgi e X.env::(My es X.env).map (·.2):=by rfl):PGs X (e::es) (Zqb t u):=by
 intro pq s σ H vs us Q I r h;let⟨v,vr,e1,h⟩:=h;subst e1;cases r with
 |cons r rr =>
  rw[hs];refine assignInOrder_cons (thn (h1 pq s σ H _ _ _ I r h) λ_ s1 hz=>?_);let⟨σ1,H1,I1,q1⟩:=hz;exact h2 pq s1 σ1 H1 _ _ Q I1 rr q1
def gTup(K:Cm)(n:Nat)(t:TGs):TG:=λv σ H Q=>∃a xs,v=.ref a/\SqT K H a xs/\xs.length=n/\t xs σ H Q
def Vx{k:Nat}{t:TGs}{n:Nat}(hc:X.calm=true)(h:PGs X es t)(hn:(My es X.env).length=n:=by rfl)(hst:(My es X.env).findIdx? (·.1)=none:=by rfl):PG X (.Tuple es k pos) (gTup X.K n t):=by
 intro pq s σ H v u Q I r hw;let⟨a,xs,e1,hq,hl,hw⟩:=hw;subst e1;cases r;let⟨its,rv,ht,hz⟩:=I.tuple hq;refine assign_Tuple_tuple (I.ok.hd hc) ht (by simp[hn,<-hl,rv.length]) hst λh' hx=>?_;let I1:Inv X pq σ H {s with heap:=h'}:=I.kept (t':=s.toks) λb o e=>hx b o (Gi (Db e)) e;exact h pq _ σ H xs _ Q I1 (by simpa using rv) hw
def gSub(to ti:TE)(t:TSet):TG:=λv σ H Q=>to σ H λo H1=>ti σ H1 λi H2=>t o i v H2 λH3=>Q σ H3
def Zh6{o i:Expr}{ti:TE}{t:TSet}(ho:PE X o to)(hi:PE X i ti)(hs:PSet X t)(ha:∀v,Jgi (.Subscript o i pos) X.env v=(do
   let ov <-Lu [v] (eval o X.env)
   let iv <-Lu [v,ov] (eval i X.env)
   Jfu pos
   Lu [v,ov,iv] (Jj2 ov iv v)
   release [v,ov,iv] []):=by intro _;rfl):PG X (.Subscript o i pos) (gSub to ti t):=by
 intro pq s σ H v u Q I r h;rw[ha];refine F7 (C9 (thn (ho pq s σ H _ I h) λov s1 hz=>?_));let⟨x,H1,I1,r1,q1⟩:=hz;refine F7 (C9 (thn (hi pq s1 σ H1 _ I1 q1) λiv s2 hz=>?_));let⟨y,H2,I2,r2,q2⟩:=hz;refine F7 (Hw (F7 (C9 (thn (hs pq s2 σ H2 x y v ov iv u _ I2 r1 r2 r q2) λ_ s3 hz=>?_))));let⟨H3,I3,q3⟩:=hz;exact wpAny_release ⟨σ,H3,I3,q3⟩
def tAsg(te:TE)(g:TG):TS:=λD σ H=>te σ H λx H1=>g x σ H1 D.nx
def Zh2{e:Expr}(he:PE X e te)(hg:PG X tg g)(hs:swapsWithSole [tg] e pos.line X.env=pure false:=by rfl)(hw:swappedStores [tg] e X.env=pure none:=by rfl)(h1:(My [tg] X.env).map (·.2)=[Jgi tg X.env]:=by rfl):PS X (.Assign [tg] e pos) (tAsg te g):=by
 intro pq s σ H D I h;refine wpAny_Assign_stores (thn (he pq s σ H _ I h) λv s1 hz=>?_) hs hw;let⟨x,H1,I1,r1,q1⟩:=hz;rw[h1];exact thn (hg pq s1 σ H1 x v _ I1 r1 q1) λ_ s2 q=>q
def Zs{i:Nat}{x:Str}{e:Expr}(hN:X.N.Nodup)(hi:X.N[i]?=some x)(hx:Loc X.env.scope x)(he:PE X e te)(hs:Mx e (some (.Name x pos')) pos.line X.env=pure false:=by rfl)(hf:X.fn x=true\/X.env.scope.names.lookup x=some .local:=by first|left;rfl|right;rfl|assumption) :
  PS X (.Assign [.Name x pos'] e pos) (tAsg te (Zbk i)):=by
 intro pq s σ H D I h;refine Jfx (thn (he pq s σ H _ I h) λv s1 hz=>?_) hs;let⟨y,H1,I1,r1,q1⟩:=hz;exact Uu I1 hN hi hx r1 (λs2 I2=>⟨_,H1,I2,q1⟩) hf
def tAug(i:Nat)(te:TE)(ti:TIp):TS:=λD σ H=>∃x,σ[i]?=some (some x)/\te σ H λy H1=>ti x y H1 λz H2=>D.nx (σ.set i (some z)) H2
def Zs6{i:Nat}{x:Str}{e:Expr}{op:Ji4}{ti:TIp}(hN:X.N.Nodup)(hi:X.N[i]?=some x)(hx:Loc X.env.scope x)(he:PE X e te)(ho:PIp X op ti)(hf:X.fn x=true\/X.env.scope.names.lookup x=some .local:=by first|left;rfl|right;rfl|assumption) :
  PS X (.AugAssign (.Name x pos') op e pos) (tAug i te ti):=by
 intro pq s σ H D I h;let⟨v,e1,h⟩:=h;let⟨m,hn,hl⟩:=I.loc;let vis:Vis X.env.scope x:=by rcases hx with k|k;exact .inl k;exact .inr (.inl k)
 let⟨u,r,l⟩:=hl i x v hi e1 vis;refine wpAny_AugAssign_Name ?_;let go:Cc (Ch X.prog X.w) X.A (eval e X.env) (λw s₂=>Cc (Ch X.prog X.w) X.A (inplaceOp op u w) (λr s₃=>Cc (Ch X.prog X.w) X.A (Jjm X.env x r) (λ_=>SP X pq D .next) X.xe s₃) X.xe s₂) X.xe s:=by
  refine thn (he pq s σ H _ I h) λw s1 hz=>?_;let⟨y,H1,I1,r1,q1⟩:=hz;refine thn (ho pq s1 σ H1 v y u w _ I1 r r1 q1) λz s2 hz=>?_;let⟨zv,H2,I2,r2,q2⟩:=hz;exact Uu I2 hN hi hx r2 (λs3 I3=>⟨_,H2,I3,q2⟩) hf
 rcases l with⟨hk,hm⟩|⟨hk,c,hc,hcell⟩
 .exact Jej I.ok.kind hk hn hm go
 .rcases hk with hk|hk
  .exact Jeu I.ok.kind hk hc hcell go
  .rcases hx with k|k
   .let:X.env.scope.names.lookup x=some .free:=hk;rw[k]at this;cases this
   .let:X.env.scope.names.lookup x=some .free:=hk;rw[k]at this;cases this
def Zvu(to ti te:TE)(tget:V->V->Hp->VK->Prop)(tip:TIp)(tset:TSet):TS:=λD σ H=>to σ H λo H1=>ti σ H1 λi H2=>tget o i H2 λx H3=>te σ H3 λy H4=>tip x y H4 λz H5=>tset o i z H5 λH6=>D.nx σ H6
def PGet(X:Cx)(t:V->V->Hp->VK->Prop):Prop :=
 ∀(pq:List (Addr×Obj))(s:Ca)(σ:St)(H:Hp)(o i:V)(ov iv:Value)(Q:VK),Inv X pq σ H s->RelV o ov->RelV i iv->t o i H Q ->
  Cc (Ch X.prog X.w) X.A (Lv ov iv) (EP X pq σ Q) X.xe s
def Zpe{o i e:Expr}{ti:TE}{tget:V->V->Hp->VK->Prop}{tip:TIp}{tset:TSet}{op:Ji4}{tpos:Pos}(ho:PE X o to)(hi:PE X i ti)(hg:PGet X tget)(he:PE X e te)(hp:PIp X op tip)(hs:PSet X tset)(ha:∀ov iv new,augStore i ov iv new=(do Lu [new,ov,iv] (Jj2 ov iv new);release [new,ov,iv] [];pure .next):=by intros;rfl):PS X (.AugAssign (.Subscript o i tpos) op e pos) (Zvu to ti te tget tip tset):=by
 intro pq s σ H D I h;refine wpAny_AugAssign_SubscriptAny (thn (ho pq s σ H _ I h) λov s1 hz=>?_) ha;let⟨x1,H1,I1,r1,q1⟩:=hz;refine thn (hi pq s1 σ H1 _ I1 q1) λiv s2 hz=>?_;let⟨x2,H2,I2,r2,q2⟩:=hz;refine thn (hg pq s2 σ H2 x1 x2 ov iv _ I2 r1 r2 q2) λold s3 hz=>?_;let⟨x3,H3,I3,r3,q3⟩:=hz;refine thn (he pq s3 σ H3 _ I3 q3) λv s4 hz=>?_;let⟨x4,H4,I4,r4,q4⟩:=hz;refine thn (hp pq s4 σ H4 x3 x4 old v _ I4 r3 r4 q4) λnew s5 hz=>?_;let⟨x5,H5,I5,r5,q5⟩:=hz;exact thn (hs pq s5 σ H5 x1 x2 x5 ov iv new _ I5 r1 r2 r5 q5) λ_ s6⟨H6,I6,q6⟩=>⟨σ,H6,I6,q6⟩
def ipI(f:Int->Int->Int):TIp:=λx y H Q=>∃i j,x=.int i/\y=.int j/\Q (.int (f i j)) H
def Znr:PIp X .Add (ipI λi j=>i+j):=by
 intro pq s σ H x y v u Q I r1 r2 h;let⟨i,j,e1,e2,q⟩:=h;subst e1;subst e2;let⟨t,rfl⟩:=r1;let⟨t',rfl⟩:=r2;exact iadd_int ⟨.int _,H,I.tok _,⟨_,rfl⟩,q⟩
end
section
def Zgx(c:TT)(tb:TS):TS:=λD σ H=>∃W:Nat->St->Hp->Prop,(∃m,W m σ H)/\∀m σ H,W m σ H ->
 c σ H λb H1=>if b=true then ∃N:St->Hp->Prop,(∀σ' H',N σ' H'->∃m',m'<m/\W m' σ' H')/\tb {D with nx:=N,ct:=N,bk:=D.nx} σ H1 else D.nx σ H1
theorem Zei{c:Expr}{tc:TT}{tb:TS}(hp:PassesOwn (Ch X.prog X.w) X.A X.env X.xe)(hc:PT X c tc)(hb:PSs X body tb):PS X (.While c body [] pos) (Zgx tc tb):=by
 intro pq s σ H D I h;let⟨W,⟨m0,w0⟩,turn⟩:=h;refine wpAny_While (codeAny_whileLoop (λn s'=>∃σ' H',Inv X pq σ' H' s'/\W n σ' H') ?_ m0 ⟨σ,H,I,w0⟩);rintro n s1 ⟨σ1,H1,I1,w1⟩;refine E9 hp (thn (hc pq s1 σ1 H1 _ I1 (turn n σ1 H1 w1)) λb s2 hz=>?_);let⟨H2,I2,q2⟩:=hz;cases b with
 |true =>
  let⟨N,hN,q2⟩:=q2;rw[De rfl];refine E9 hp (thn (hb pq s2 σ1 H2 _ I2 q2) λf s3 q3=>?_);cases f with
  |next =>
   let⟨σ3,H3,I3,n3⟩:=q3;let⟨m',hm,w3⟩:=hN σ3 H3 n3;exists m',hm,σ3,H3,I3,w3
  |cont =>
   let⟨σ3,H3,I3,n3⟩:=q3;let⟨m',hm,w3⟩:=hN σ3 H3 n3;exists m',hm,σ3,H3,I3,w3
  |brk=>exact q3
  |ret v=>exact q3
 |false =>
  rw[Dd Jr];exact E8 ⟨σ1,H2,I2,q2⟩
end
structure It where
 go:Nat->Hp->Prop
 yld:Nat->Hp->V->Hp->Prop
 stop:Nat->Hp->Prop
def FpOk(X:Cx)(pq:List (Addr×Obj))(H:Hp)(b:Addr):Prop :=
 H b=none/\b≠X.env.locals/\b∉X.fs/\(b∈X.ex\/X.s₀.heap.objs.size<=b)/\(∀x c,X.env.cells.lookup x=some c->c≠b)/\∀p∈X.pn++pq,p.1≠b
def Inv.fpOk{b:Addr}(I:Inv X pq σ H s)(hb:s.heap.objs.size<=b)(hn:H' b=none):FpOk X pq H' b:=by
 exists hn,F6 (Jy I.lt hb),I.nofs hb,.inr (J8 I.sz hb),λx c e z=>?_,λp hp z=>?_
 .let⟨v,q⟩:=I.cell x c e;exact absurd (Jy q.lt (by rw[z];exact hb)) (Bl _)
 .exact absurd (Jy (Db (I.pin p hp).1) (by rw[z];exact hb)) (Bl _)
structure Turn(P:Ew)(w:C0)(K:Cm)(tg:Expr)(J:It)(fp:List Addr)(it:Addr)(tn:Nat->Heap->Prop):Prop where
 mem:it∈fp
 obj:∀i h,tn i h->∀b∈fp,∃o,h.get? b=some o/\∀v,o.data≠.cell v
 keep:∀i h h',tn i h->(∀b∈fp,∀o,h.get? b=some o->h'.get? b=some o)->tn i h'
 item:∀(X:Cx),X.prog=P->X.w=w->X.K=K->X.calm=true->∀(i:Nat)(pq:List (Addr×Obj))(s:Ca)(σ:St)(H:Hp)(E:Value->Ca->Prop),Inv X pq σ H s->(∀b∈fp,FpOk X pq H b)->tn i s.heap->J.go i H ->
  Cc (Ch P w) X.A (Jgj (.ref it)) (λr s1=>∃u,r=some u /\
   Cc (Ch P w) X.A (Lw tg (.ref it) u) (λ_ s2=>∃x H',Inv X pq σ H' s2/\RelV x u/\J.yld i H x H'/\tn (i+1) s2.heap/\∀b∈fp,H' b=none) E s1) E s
 done:∀(X:Cx),X.prog=P->X.w=w->X.K=K->X.calm=true->∀(i:Nat)(pq:List (Addr×Obj))(s:Ca)(σ:St)(H:Hp)(E:Value->Ca->Prop),Inv X pq σ H s->(∀b∈fp,FpOk X pq H b)->tn i s.heap->J.stop i H ->
  Cc (Ch P w) X.A (Jgj (.ref it)) (λr s1=>r=none/\Inv X pq σ H s1) E s
 self:∀(A:K2)(i:Nat)(s:Ca)(Q:Value->Ca->Prop)(E:Value->Ca->Prop),tn i s.heap->Q (.ref it) s->Cc (Ch P w) A (pyIter (.ref it)) Q E s
abbrev TI:=St->Hp->(It->Hp->Prop)->Prop
variable{wi:L2.TI}
def PIE(X:Cx)(pq:List (Addr×Obj))(σ:St)(tg:Expr)(R:It->Hp->Prop)(itv:Value)(s2:Ca):Prop :=
 ∃(it:Addr)(fp:List Addr)(tn:Nat->Heap->Prop)(J:It)(H':Hp),itv=.ref it/\Inv X pq σ H' s2/\Turn X.prog X.w X.K tg J fp it tn/\tn 0 s2.heap/\(∀b∈fp,FpOk X pq H' b)/\R J H'
def PI(X:Cx)(tg iter:Expr)(wi:TI):Prop :=
 ∀(pq:List (Addr×Obj))(s:Ca)(σ:St)(H:Hp)(R:It->Hp->Prop),Inv X pq σ H s->wi σ H R ->
  Cc (Ch X.prog X.w) X.A (eval iter X.env) (λv s1=>Cc (Ch X.prog X.w) X.A (pyIter v) (PIE X pq σ tg R) X.xe s1) X.xe s
def Zmc{M:Ji1}{u:Value}{o:Obj}{n:String}{vs:Array Value}{Q:Unit->Ca->Prop}(ho:s.heap.get? it=some o)(hc:o.cls=.type n)(hd:o.data=.fields vs)(hn:["enumerate","zip","dict_itemiterator","dict_reverseitemiterator","odict_iterator","itertools.zip_longest","itertools.pairwise"].contains n=false)(hQ:Q ⟨⟩ s):Cc M A (Lw tg (.ref it) u) Q E s:=by
  unfold Lw;cases tg<;>first
    |exact F8 hQ
    | (cases u <;> first
        |exact F8 hQ
        | (refine F7 (Jfy ho ?_)
           rw[hc,hd];show Cc M A (if(["enumerate","zip","dict_itemiterator","dict_reverseitemiterator","odict_iterator","itertools.zip_longest","itertools.pairwise"].contains n&&vs[0]? == some (Hq _))=true then _ else _) Q E s;rw[Dd (by intro h;rw[hn,Jhz]at h;cases h)];exact F8 hQ))
def Itl(K:Cm)(a:Addr):It :=
 ⟨λi H=>∃xs x,SqL K H a xs/\xs[i]?=some x,λi H x H'=>H'=H/\∀xs,SqL K H a xs->xs[i]?=some x,λi H=>∃xs,SqL K H a xs/\xs.length<=i⟩
def Itt(K:Cm)(a:Addr):It :=
 ⟨λi H=>∃xs x,SqT K H a xs/\xs[i]?=some x,λi H x H'=>H'=H/\∀xs,SqT K H a xs->xs[i]?=some x,λi H=>∃xs,SqT K H a xs/\xs.length<=i⟩
def Itr(lo:Int)(n:Nat):It:=⟨λi _=>i<n,λi H x H'=>H'=H/\x=.int (lo+i),λi _=>n<=i⟩
theorem Zgs{w:C0}(a it:Addr):Turn P w K tg (Itl K a) [it] it (λi h=>h.IsListIter it a i) where
 mem:=by simp
 obj:=λi h st b hb=>by
  let e:b=it:=by simpa using hb
  subst e;let⟨o,e,c,d⟩:=st;exact⟨o,e,λv z=>by rw[d]at z;cases z⟩
 keep:=λi h h' st k=>st.at λo e=>k it (by simp) o e
 item:=by
  intro X hP hw hK hc i pq s σ H E I hf st hg;subst hP hw hK;let⟨xs,x,hq,hx⟩:=hg;let⟨its,rv,p,hz⟩:=I.list hq;let⟨u,hu,ru⟩:=rv.get hx;let⟨f0,f1,f2,f3,f4,f5⟩:=hf it (by simp);refine Jdt st p.isList (x:=u) (by simpa using hu) λh' st' sb=>?_;let I1:Inv X pq σ H {s with heap:=h'}:=I.turned (t':=s.toks) (λb o hb e=>(sb.2 b hb).trans e) f0 f1 f3 f4 f5;let⟨o,e,c,d⟩:=id st';exists u,rfl,Zmc (s:={s with heap:=h'}) e c d nofun ⟨x,H,I1,ru,⟨rfl,λys hy=>by rw[I.list_inj hy hq];exact hx⟩,st',λb hb=>(hf b hb).1⟩
 done:=by
  intro X hP hw hK hc i pq s σ H E I hf st hg;subst hP hw hK;let⟨xs,hq,hx⟩:=hg;let⟨its,rv,p,hz⟩:=I.list hq;let⟨f0,f1,f2,f3,f4,f5⟩:=hf it (by simp);let hl:=rv.length;exact Jd4 (I.ok.hd hc) st p.isList (by simp;lia) λh' eb=>⟨rfl,I.turned (t':=s.toks) (λb o hb e=>eb b o hb e) f0 f1 f3 f4 f5⟩
 self:=λ_ _ _ _ _ st h=>wpAny_pyIter_listiter st h
theorem Zfi{w:C0}(a it:Addr):Turn P w K tg (Itt K a) [it] it (λi h=>h.IsTupleIter it a i) where
 mem:=by simp
 obj:=λi h st b hb=>by
  let e:b=it:=by simpa using hb
  subst e;let⟨o,e,c,d⟩:=st;exact⟨o,e,λv z=>by rw[d]at z;cases z⟩
 keep:=λi h h' st k=>st.at λo e=>k it (by simp) o e
 item:=by
  intro X hP hw hK hc i pq s σ H E I hf st hg;subst hP hw hK;let⟨xs,x,hq,hx⟩:=hg;let⟨its,rv,p,hz⟩:=I.tuple hq;let⟨u,hu,ru⟩:=rv.get hx;let⟨f0,f1,f2,f3,f4,f5⟩:=hf it (by simp);refine Jb6 st (show s.heap.IsTuple a its.toArray from p) (x:=u) (by simpa using hu) λh' st' sb=>?_;let I1:Inv X pq σ H {s with heap:=h'}:=I.turned (t':=s.toks) (λb o hb e=>(sb.2 b hb).trans e) f0 f1 f3 f4 f5;let⟨o,e,c,d⟩:=id st';exists u,rfl,Zmc (s:={s with heap:=h'}) e c d nofun ⟨x,H,I1,ru,⟨rfl,λys hy=>by rw[I.tuple_inj hy hq];exact hx⟩,st',λb hb=>(hf b hb).1⟩
 done:=by
  intro X hP hw hK hc i pq s σ H E I hf st hg;subst hP hw hK;let⟨xs,hq,hx⟩:=hg;let⟨its,rv,p,hz⟩:=I.tuple hq;let⟨f0,f1,f2,f3,f4,f5⟩:=hf it (by simp);let hl:=rv.length;exact Jdu (I.ok.hd hc) st (show s.heap.IsTuple a its.toArray from p) (by simp;lia) λh' eb=>⟨rfl,I.turned (t':=s.toks) (λb o hb e=>eb b o hb e) f0 f1 f3 f4 f5⟩
 self:=λ_ _ _ _ _ st h=>wpAny_pyIter_tupleiter st h
theorem Zfj{w:C0}(it:Addr)(lo:Int)(n:Nat):Turn P w K tg (Itr lo n) [it] it (λi h=>IsRangeIter h it (lo+(i:Nat)*1) ((n:Int)-(i:Nat)) 1) where
 mem:=by simp
 obj:=λi h st b hb=>by
  let e:b=it:=by simpa using hb
  subst e;exact⟨_,st,λv z=>by
   let z':Jj3 _=Data.cell v:=z;cases z'⟩
 keep:=λi h h' st k=>k it (by simp) _ st
 item:=by
  intro X hP hw hK hc i pq s σ H E I hf st hg;subst hP hw hK;let⟨f0,f1,f2,f3,f4,f5⟩:=hf it (by simp);let W:=Walks.range (prog:=X.prog) (w:=X.w) (I.ok.hd hc) it lo 1 n;refine W.item i s _ _ hg st λv h' tk hv st' kk=>?_;let⟨t,rfl⟩:=hv;let I1:Inv X pq σ H {s with heap:=h',toks:=tk}:=I.turned (λb o hb e=>kk b o (by simpa using hb) e) f0 f1 f3 f4 f5;exists ·,Zmc (s:={s with heap:=h',toks:=tk}) (n:="range_iterator") st' rfl rfl nofun ⟨.int (lo+i),H,I1,⟨t,?_⟩,⟨rfl,rfl⟩,st',λb hb=>(hf b hb).1⟩;rw[Jj4]
 done:=by
  intro X hP hw hK hc i pq s σ H E I hf st hg;subst hP hw hK;let⟨f0,f1,f2,f3,f4,f5⟩:=hf it (by simp);exact wpAny_pyNext_range_end (I.ok.hd hc) st (by have:n<=i:=hg;lia) λh' eb=>⟨rfl,I.turned (t':=s.toks) (λb o hb e=>eb b o hb e) f0 f1 f3 f4 f5⟩
 self:=λ_ _ _ _ _ st h=>wpAny_pyIter_rangeiter st h
section
def Zt5(K:Cm)(tl:TE):TI:=λσ H R=>tl σ H λx H1=>∃a,x=.ref a/\(∃xs,SqL K H1 a xs)/\R (Itl K a) H1
def iTup(K:Cm)(tl:TE):TI:=λσ H R=>tl σ H λx H1=>∃a,x=.ref a/\(∃xs,SqT K H1 a xs)/\R (Itt K a) H1
def Yv{l:Expr}{tl:TE}(hl:PE X l tl):PI X tg l (Zt5 X.K tl):=by
 intro pq s σ H R I h;refine thn (hl pq s σ H _ I h) λv s1 hz=>?_;let⟨x,H1,I1,r1,q1⟩:=hz;let⟨a,e,⟨xs,hq⟩,q⟩:=q1;subst e;cases r1;let⟨its,rv,p,hz⟩:=I1.list hq;refine Ku p.isList ?_;exists s1.heap.objs.size,[s1.heap.objs.size],_,_,H1,rfl,I1.kept (t':=s1.toks) λb o e=>F9 _ e,Zgs a _,⟨_,Da _ rfl,rfl,rfl⟩,λb hb=>?_,q;let e:b=s1.heap.objs.size:=by simpa using hb
 subst e;exact I1.fpOk (Jd _) (I1.hok.fresh (Jd _))
def Pw{l:Expr}{tl:TE}(hl:PE X l tl):PI X tg l (iTup X.K tl):=by
 intro pq s σ H R I h;refine thn (hl pq s σ H _ I h) λv s1 hz=>?_;let⟨x,H1,I1,r1,q1⟩:=hz;let⟨a,e,⟨xs,hq⟩,q⟩:=q1;subst e;cases r1;let⟨its,rv,p,hz⟩:=I1.tuple hq;refine Je7 (show s1.heap.IsTuple a its.toArray from p) ?_;exists s1.heap.objs.size,[s1.heap.objs.size],_,_,H1,rfl,I1.kept (t':=s1.toks) λb o e=>F9 _ e,Zfi a _,⟨_,Da _ rfl,rfl,rfl⟩,λb hb=>?_,q;let e:b=s1.heap.objs.size:=by simpa using hb
 subst e;exact I1.fpOk (Jd _) (I1.hok.fresh (Jd _))
theorem Zeh{R:It->Hp->Prop}{lo hi:Int}{t u v:Tok}{tk:Nat}(I:Inv X pq σ H s)(h1:-(2 ^ 62)<=lo)(h2:lo<2 ^ 62)(h3:-(2 ^ 62)<=hi)(h4:hi<2 ^ 62)(q:R (Itr lo (hi-lo).toNat) H):Cc (Ch X.prog X.w) X.A (pyIter (.ref s.heap.objs.size)) (PIE X pq σ tg R) E {s with heap:=s.heap.push {cls:=.type "range",data:=.fields #[.int lo t,.int hi u,.int 1 v]},toks:=tk}:=by
 refine wpAny_pyIter_range (IsRange.new ..) (small_one h1 h2 h3 h4) ?_;let I1:Inv X pq σ H {s with heap:=s.heap.push {cls:=.type "range",data:=.fields #[.int lo t,.int hi u,.int 1 v]},toks:=tk}:=I.kept λb o e=>F9 _ e;refine⟨(s.heap.push {cls:=.type "range",data:=.fields #[.int lo t,.int hi u,.int 1 v]}).objs.size,[(s.heap.push {cls:=.type "range",data:=.fields #[.int lo t,.int hi u,.int 1 v]}).objs.size],_,_,H,rfl,
  I1.kept (t':=tk) λb o e=>F9 _ e,Zfj _ lo (hi-lo).toNat,?_,λb hb=>?_,q⟩
 .let e1:lo+((0:Nat):Int)*1=lo:=by simp
  let e2:(((hi-lo).toNat:Nat):Int)-((0:Nat):Int)=Ji5 lo hi 1:=by rw[rangeSize_one];split<;>lia
  show IsRangeIter _ _ (lo+((0:Nat):Int)*1) ((((hi-lo).toNat:Nat):Int)-((0:Nat):Int)) 1;rw[e1,e2];exact Da _ rfl
 .let e:b=(s.heap.push {cls:=.type "range",data:=.fields #[.int lo t,.int hi u,.int 1 v]}).objs.size:=by simpa using hb
  subst e;exact I1.fpOk (Jd _) (I1.hok.fresh (Jd _))
def Zt4(ta:TA):TI:=λσ H R=>ta σ H λvs H1=>∃j:Int,vs=[.int j]/\-(2 ^ 62)<=j/\j<2 ^ 62/\R (Itr 0 j.toNat) H1
def Zt3(ta:TA):TI:=λσ H R=>ta σ H λvs H1=>∃i j:Int,vs=[.int i,.int j]/\(-(2 ^ 62)<=i/\i<2 ^ 62/\-(2 ^ 62)<=j/\j<2 ^ 62)/\R (Itr i (j-i).toNat) H1
theorem Yg{a:Expr}{ta:TA}{p:Pos}(hg:Gl X "range")(hm:X.mg "range"=none)(ha:PA X [a] ta)(hs:Ci [a] X.env=[(false,eval a X.env)]:=by rfl):PI X tg (.Call (.Name "range" p) [a] [] pos) (Zt4 ta):=by
 intro pq s σ H R I h;refine Call_ (Ra I hg hm boot_range (El (thn (ha pos pq s σ H _ I h) λus s1 hz=>?_) hs rfl));let⟨vs,H1,I1,r1,q1⟩:=hz;let⟨j,e,q1,q2,q⟩:=q1;subst e;cases r1 with
 |cons r rr =>
  cases rr;let⟨t,rfl⟩:=r;exact call_range_1 (Zeh I1 () () q1 q2 (by simpa using q))
theorem Zaz{a b:Expr}{ta:TA}{p:Pos}(hg:Gl X "range")(hm:X.mg "range"=none)(ha:PA X [a,b] ta)(hs:Ci [a,b] X.env=[(false,eval a X.env),(false,eval b X.env)]:=by rfl)(hs2:Ci [b] X.env=[(false,eval b X.env)]:=by rfl) :
  PI X tg (.Call (.Name "range" p) [a,b] [] pos) (Zt3 ta):=by
 intro pq s σ H R I h;refine Call_ (Ra I hg hm boot_range (El (thn (ha pos pq s σ H _ I h) λus s1 hz=>?_) (by rw[hs,hs2]) (by rw[hs2];rfl)));let⟨vs,H1,I1,r1,q1⟩:=hz;let⟨i,j,e,⟨q1,q2,q3,q4⟩,q⟩:=q1;subst e;cases r1 with
 |cons r rr =>
  cases rr with
  |cons r' rr =>
   cases rr;let⟨t,rfl⟩:=r;let⟨t',rfl⟩:=r';exact call_range_2 (Zeh I1 q1 q2 q3 q4 q)
def tFor(wi:TI)(g:TG)(tb:TS):TS:=λD σ H=>wi σ H λJ H1=>∃W:Nat->Nat->St->Hp->Prop,(∃m,W 0 m σ H1)/\∀i m σ H,W i m σ H ->
 (J.stop i H/\D.nx σ H)\/(J.go i H/\∃N:St->Hp->Prop,(∀σ' H',N σ' H'->∃m',m'<m/\W (i+1) m' σ' H')/\∀x H',J.yld i H x H'->g x σ H' λσ2 H2=>tb {D with nx:=N,ct:=N,bk:=D.nx} σ2 H2)
def Zay(fp:List Addr)(h:Heap):List (Addr×Obj):=fp.filterMap λb=>(h.get? b).map λo=>(b,o)
def Uw{b:Addr}{o:Obj}(hb:b∈fp)(e:h.get? b=some o):(b,o)∈Zay fp h:=Fh.mpr ⟨b,hb,by rw[e];rfl⟩
theorem Zif{p:Addr×Obj}(hp:p∈Zay fp h):p.1∈fp/\h.get? p.1=some p.2:=by
 let⟨b,hb,e⟩:=Fh.mp hp;cases q:h.get? b with
 |none=>rw[q]at e;cases e
 |some o =>
  rw[q]at e;let e':(b,o)=p:=Dh e;subst e';exists hb,q
def Inv.pinned(I:Inv X pq σ H s)(hf:∀b∈fp,FpOk X pq H b)(ho:∀b∈fp,∃o,s.heap.get? b=some o/\∀v,o.data≠.cell v):Inv X (pq++Zay fp s.heap) σ H s :=
 I.pins_of λp hp=>(Gb.mp hp).elim (λz=>I.pin p (Jt _ z)) λz=>by
  let⟨hb,e⟩:=Zif z;let⟨f0,f1,f2,_⟩:=hf p.1 hb;let⟨o,e',d⟩:=ho p.1 hb;rw[e]at e';cases e';exists e,f0,f1,f2,d
def Inv.unpinned{pl:List (Addr×Obj)}(I:Inv X (pq++pl) σ H s):Inv X pq σ H s:=I.pins_of λp hp=>I.pin p (Jt _ (Bh _ hp))
def Yr{iter:Expr}{tb:TS}(hp:PassesOwn (Ch X.prog X.w) X.A X.env X.xe)(hc:X.calm=true)(hi:PI X tg iter wi)(hg:PG X tg g)(hb:PSs X body tb)(hs:∀x,Mz iter X.env x=pure x:=by intro _;rfl):PS X (.For tg iter body [] pos) (tFor wi g tb):=by
 intro pq s σ H D I h;refine wpAny_For (thn (hi pq s σ H _ I h) λv s1 h1=>thn h1 λitv s2 h2=>?_) hs;let⟨it,fp,tn,J,H2,e,I2,T,st2,f2,W,⟨m0,w0⟩,turn⟩:=h2;subst e;let stat:∀{H':Hp},(∀b∈fp,H' b=none)->∀b∈fp,FpOk X pq H' b:=λhn b hb=>⟨hn b hb,(f2 b hb).2⟩;refine codeAny_forLoop_any (λn s'=>∃i σ' H',Inv X pq σ' H' s'/\tn i s'.heap/\(∀b∈fp,H' b=none)/\W i n σ' H') ?_ m0 ⟨0,σ,H2,I2,st2,λb hb=>(f2 b hb).1,w0⟩;rintro n s3 ⟨i,σ3,H3,I3,st3,fr3,w3⟩;rcases turn i n σ3 H3 w3 with⟨stop,qn⟩|⟨go,N,hN,step⟩
 .refine E9 hp (thn (T.done X rfl rfl rfl hc i pq s3 σ3 H3 X.xe I3 (stat fr3) st3 stop) λr s4 hz=>?_);let⟨hr,I4⟩:=hz;subst hr;exact E8 ⟨σ3,H3,I4,qn⟩
 .refine E9 hp (thn (T.item X rfl rfl rfl hc i pq s3 σ3 H3 X.xe I3 (stat fr3) st3 go) λr s4 hz=>?_);let⟨u,hr,h4⟩:=hz;subst hr;refine E9 hp (thn h4 λ_ s5 hz=>?_);let⟨x,H5,I5,r5,y5,st5,fr5⟩:=hz;let I5':=I5.pinned (stat fr5) (T.obj _ _ st5);refine E9 hp (thn (hg _ s5 σ3 H5 x u _ I5' r5 (step x H5 y5)) λ_ s6 hz=>?_);let⟨σ6,H6,I6,q6⟩:=hz;refine E9 hp (thn (hb _ s6 σ6 H6 _ I6 q6) λf s7 q7=>?_);let again:∀{σ7:St}{H7:Hp},Inv X (pq++Zay fp s5.heap) σ7 H7 s7->N σ7 H7->∃m,m<n/\∃i σ' H',Inv X pq σ' H' s7/\tn i s7.heap/\(∀b∈fp,H' b=none)/\W i m σ' H':=λ{σ7 H7}I7 n7=>by
   let⟨m',hm,w7⟩:=hN σ7 H7 n7;exists m',hm,i+1,σ7,H7,I7.unpinned,T.keep _ _ _ st5 λb hb o e=>(I7.pin (b,o) (Jt _ (Jt _ (Uw hb e)))).1,λb hb=>?_,w7;let⟨o,e,d⟩:=T.obj _ _ st5 b hb;exact(I7.pin (b,o) (Jt _ (Jt _ (Uw hb e)))).2.1
  cases f with
  |next=>obtain⟨σ7,H7,I7,n7⟩:=q7;exact again I7 n7
  |cont=>obtain⟨σ7,H7,I7,n7⟩:=q7;exact again I7 n7
  |brk=>obtain⟨σ7,H7,I7,q7⟩:=q7;exists σ7,H7,I7.unpinned,q7
  |ret v=>obtain⟨x7,σ7,H7,I7,r7,q7⟩:=q7;exists x7,σ7,H7,I7.unpinned,r7,q7
end
theorem Zme{a:Addr}{tb:TS}{D:Ends}(Pv:Nat->St->Hp->Prop)(h0:Pv 0 σ H)(hl:∀i σ H,i<=xs.length->Pv i σ H->SqL K H a xs)(hs:∀i x σ H,xs[i]?=some x->Pv i σ H->g x σ H λσ2 H2=>tb {D with nx:=Pv (i+1),ct:=Pv (i+1),bk:=D.nx} σ2 H2)(hd:∀σ H,Pv xs.length σ H->D.nx σ H) :
  ∃W:Nat->Nat->St->Hp->Prop,(∃m,W 0 m σ H)/\∀i m σ H,W i m σ H ->
   ((Itl K a).stop i H/\D.nx σ H)\/((Itl K a).go i H/\∃N:St->Hp->Prop,(∀σ' H',N σ' H'->∃m',m'<m/\W (i+1) m' σ' H')/\∀x H',(Itl K a).yld i H x H'->g x σ H' λσ2 H2=>tb {D with nx:=N,ct:=N,bk:=D.nx} σ2 H2):=by
 exists λi m σ H=>m=xs.length-i/\i<=xs.length/\Pv i σ H,⟨xs.length,by simp,Gc _,h0⟩,?_;rintro i m σ H ⟨rfl,hi,p⟩;let q:=hl i σ H hi p
 by_cases hlt:i<xs.length
 .refine .inr ⟨⟨xs,xs[i],q,by simp[hlt]⟩,Pv (i+1),λσ' H' p'=>⟨xs.length-(i+1),(),rfl,hlt,p'⟩,λx H' y=>?_⟩;let⟨e,y⟩:=y;subst e;exact hs i x σ _ (y xs q) p
 .let e:i=xs.length:=by lia
  subst e;exact .inl ⟨⟨xs,q,Jd _⟩,hd σ H p⟩
theorem Zqc{a:Addr}{tb:TS}{D:Ends}(Pv:Nat->St->Hp->Prop)(h0:Pv 0 σ H)(hl:∀i σ H,i<=xs.length->Pv i σ H->SqT K H a xs)(hs:∀i x σ H,xs[i]?=some x->Pv i σ H->g x σ H λσ2 H2=>tb {D with nx:=Pv (i+1),ct:=Pv (i+1),bk:=D.nx} σ2 H2)(hd:∀σ H,Pv xs.length σ H->D.nx σ H) :
  ∃W:Nat->Nat->St->Hp->Prop,(∃m,W 0 m σ H)/\∀i m σ H,W i m σ H ->
   ((Itt K a).stop i H/\D.nx σ H)\/((Itt K a).go i H/\∃N:St->Hp->Prop,(∀σ' H',N σ' H'->∃m',m'<m/\W (i+1) m' σ' H')/\∀x H',(Itt K a).yld i H x H'->g x σ H' λσ2 H2=>tb {D with nx:=N,ct:=N,bk:=D.nx} σ2 H2):=by
 exists λi m σ H=>m=xs.length-i/\i<=xs.length/\Pv i σ H,⟨xs.length,by simp,Gc _,h0⟩,?_;rintro i m σ H ⟨rfl,hi,p⟩;let q:=hl i σ H hi p
 by_cases hlt:i<xs.length
 .refine .inr ⟨⟨xs,xs[i],q,by simp[hlt]⟩,Pv (i+1),λσ' H' p'=>⟨xs.length-(i+1),(),rfl,hlt,p'⟩,λx H' y=>?_⟩;let⟨e,y⟩:=y;subst e;exact hs i x σ _ (y xs q) p
 .let e:i=xs.length:=by lia
  subst e;exact .inl ⟨⟨xs,q,Jd _⟩,hd σ H p⟩
theorem Tv{lo:Int}{n:Nat}{tb:TS}{D:Ends}(Pv:Nat->St->Hp->Prop)(h0:Pv 0 σ H)(hs:∀i σ H,i<n->Pv i σ H->g (.int (lo+i)) σ H λσ2 H2=>tb {D with nx:=Pv (i+1),ct:=Pv (i+1),bk:=D.nx} σ2 H2)(hd:∀σ H,Pv n σ H->D.nx σ H) :
  ∃W:Nat->Nat->St->Hp->Prop,(∃m,W 0 m σ H)/\∀i m σ H,W i m σ H ->
   ((Itr lo n).stop i H/\D.nx σ H)\/((Itr lo n).go i H/\∃N:St->Hp->Prop,(∀σ' H',N σ' H'->∃m',m'<m/\W (i+1) m' σ' H')/\∀x H',(Itr lo n).yld i H x H'->g x σ H' λσ2 H2=>tb {D with nx:=N,ct:=N,bk:=D.nx} σ2 H2):=by
 exists λi m σ H=>m=n-i/\i<=n/\Pv i σ H,⟨n,by simp,Gc _,h0⟩,?_;rintro i m σ H ⟨rfl,hi,p⟩
 by_cases hlt:i<n
 .refine .inr ⟨hlt,Pv (i+1),λσ' H' p'=>⟨n-(i+1),(),rfl,hlt,p'⟩,λx H' y=>?_⟩;let⟨e,y⟩:=y;subst e y;exact hs i σ _ hlt p
 .let e:i=n:=by lia
  subst e;exact .inl ⟨Jd _,hd σ H p⟩
theorem Zky{c:TT}{tb:TS}{D:Ends}(Pv:St->Hp->Prop)(μ:St->Hp->Nat)(h0:Pv σ H)(hs:∀σ H,Pv σ H->c σ H λb H1=>if b=true then tb {D with nx:=λσ' H'=>Pv σ' H'/\μ σ' H' < μ σ H,ct:=λσ' H'=>Pv σ' H'/\μ σ' H' < μ σ H,bk:=D.nx} σ H1 else D.nx σ H1)(mono:∀σ H Q Q',(∀b H1,Q b H1->Q' b H1)->c σ H Q->c σ H Q'):Zgx c tb D σ H:=by
 exists λm σ H=>m=μ σ H/\Pv σ H,⟨_,rfl,h0⟩,?_;rintro m σ H ⟨rfl,p⟩;refine mono σ H _ _ (λb H1 q=>?_) (hs σ H p);cases b with
 |true=>exact⟨_,λσ' H'⟨p',l⟩=>⟨_,l,rfl,p'⟩,q⟩
 |false=>exact q
abbrev R2:=V->V->Hp->VK->Prop
variable{r r':L2.R2}
def OpR(X:Cx)(f:Value->Value->Sem Value)(r:R2):Prop :=
 ∀(pq:List (Addr×Obj))(s:Ca)(σ:St)(H:Hp)(x y:V)(v u:Value)(Q:VK),Inv X pq σ H s->RelV x v->RelV y u->r x y H Q ->
  Cc (Ch X.prog X.w) X.A (f v u) (EP X pq σ Q) X.xe s
def UnR(X:Cx)(f:Value->Sem Value)(r:V->Hp->VK->Prop):Prop :=
 ∀(pq:List (Addr×Obj))(s:Ca)(σ:St)(H:Hp)(x:V)(v:Value)(Q:VK),Inv X pq σ H s->RelV x v->r x H Q ->
  Cc (Ch X.prog X.w) X.A (f v) (EP X pq σ Q) X.xe s
def W6(X:Cx)(f:Value)(r:List V->Hp->VK->Prop):Prop :=
 ∀(pq:List (Addr×Obj))(s:Ca)(σ:St)(H:Hp)(xs:List V)(us:List Value)(Q:VK),Inv X pq σ H s->Vals xs us->r xs H Q ->
  Cc (Ch X.prog X.w) X.A (call f us) (EP X pq σ Q) X.xe s
def tOp(r:R2)(ta tb:TE):TE:=λσ H Q=>ta σ H λx H1=>tb σ H1 λy H2=>r x y H2 Q
def tUn(r:V->Hp->VK->Prop)(ta:TE):TE:=λσ H Q=>ta σ H λx H1=>r x H1 Q
def rI(C:Int->Int->Prop)(g:Int->Int->V):R2:=λx y H Q=>∃i j,x=.int i/\y=.int j/\C i j/\Q (g i j) H
def rI0(g:Int->Int->V):R2:=λx y H Q=>∃i j,x=.int i/\y=.int j/\Q (g i j) H
def rU(g:Int->V):V->Hp->VK->Prop:=λx H Q=>∃i,x=.int i/\Q (g i) H
section
variable{a b:Expr} 
def binT(ha:PE X a ta)(hb:PE X b tb){R:V->V->Hp->Prop}(I:Inv X pq σ H s)(h:ta σ H λx H1=>tb σ H1 λy H2=>R x y H2){Q:Value->Ca->Prop}{f:Value->Value->Sem Value}(hf:∀v u s2 x y H2,Inv X pq σ H2 s2->RelV x v->RelV y u->R x y H2->Cc (Ch X.prog X.w) X.A (f v u) Q X.xe s2) :
  Cc (Ch X.prog X.w) X.A (eval a X.env) (λv s₁=>Cc (Ch X.prog X.w) X.A (eval b X.env) (λu s₂=>Cc (Ch X.prog X.w) X.A (f v u) Q X.xe s₂) X.xe s₁) X.xe s:=by
 refine thn (ha pq s σ H _ I h) λv s1 hz=>?_;let⟨x,H1,I1,r1,q1⟩:=hz;refine thn (hb pq s1 σ H1 _ I1 q1) λu s2 hz=>?_;let⟨y,H2,I2,r2,q2⟩:=hz;exact hf v u s2 x y H2 I2 r1 r2 q2
def Z0{op:Ji4}(ho:OpR X (Hk op) r)(ha:PE X a ta)(hb:PE X b tb):PE X (.BinOp a op b pos) (tOp r ta tb):=by
 intro pq s σ H Q I h;exact wpAny_BinOp (binT ha hb I h λv u s2 x y H2 I2 rx ry q=>ho pq s2 σ H2 x y v u Q I2 rx ry q)
def Pj{op:UnaryOp}{r:V->Hp->VK->Prop}(ho:UnR X (unaryOp op) r)(ha:PE X a ta):PE X (.UnaryOp op a pos) (tUn r ta):=by
 intro pq s σ H Q I h;exact UnaryOp_ (thn (ha pq s σ H _ I h) λv s1⟨x,H1,I1,r1,q1⟩=>ho pq s1 σ H1 x v Q I1 r1 q1)
def opI{f:Value->Value->Sem Value}{C:Int->Int->Prop}{g:Int->Int->Int}(rule:∀(i j:Int)(t u:Tok)(s:Ca)(Q:Value->Ca->Prop)(E:Value->Ca->Prop),C i j->Q (.int (g i j) s.toks) {s with toks:=s.toks+1}->Cc (Ch X.prog X.w) X.A (f (.int i t) (.int j u)) Q E s) :
  OpR X f (rI C λi j=>.int (g i j)):=by
 intro pq s σ H x y v u Q I rx ry h;let⟨i,j,rfl,rfl,hc,q⟩:=h;let⟨t,rfl⟩:=rx;let⟨t',rfl⟩:=ry;exact rule i j t t' s _ _ hc ⟨.int (g i j),H,I.tok _,⟨_,rfl⟩,q⟩
def opI0{f:Value->Value->Sem Value}{g:Int->Int->Int}(rule:∀(i j:Int)(t u:Tok)(s:Ca)(Q:Value->Ca->Prop)(E:Value->Ca->Prop),Q (.int (g i j) s.toks) {s with toks:=s.toks+1}->Cc (Ch X.prog X.w) X.A (f (.int i t) (.int j u)) Q E s) :
  OpR X f (rI0 λi j=>.int (g i j)):=by
 intro pq s σ H x y v u Q I rx ry h;let⟨i,j,rfl,rfl,q⟩:=h;let⟨t,rfl⟩:=rx;let⟨t',rfl⟩:=ry;exact rule i j t t' s _ _ ⟨.int (g i j),H,I.tok _,⟨_,rfl⟩,q⟩
def opB0{f:Value->Value->Sem Value}{g:Int->Int->Bool}(rule:∀(i j:Int)(t u:Tok)(s:Ca)(Q:Value->Ca->Prop)(E:Value->Ca->Prop),Q (.bool (g i j)) s->Cc (Ch X.prog X.w) X.A (f (.int i t) (.int j u)) Q E s) :
  OpR X f (rI0 λi j=>.bl (g i j)):=by
 intro pq s σ H x y v u Q I rx ry h;let⟨i,j,rfl,rfl,q⟩:=h;let⟨t,rfl⟩:=rx;let⟨t',rfl⟩:=ry;exact rule i j t t' s _ _ ⟨.bl (g i j),H,I,rfl,q⟩
def CDiv(i j:Int):Prop:=0<j/\j<1073741824
def CPow(i j:Int):Prop:=0<=j/\j<=1000000/\i.natAbs<2 ^ 64
def CMul(i j:Int):Prop:=(-(2 ^ 64)<i/\i<2 ^ 64)\/(-(2 ^ 64)<j/\j<2 ^ 64)
def CMul.ok{i j:Int}(h:CMul i j):IntMulOk i j:=by
 rcases h with⟨h1,h2⟩|⟨h1,h2⟩
 .exact .of_left (intBits_le_64 h1 h2)
 .exact .of_right (intBits_le_64 h1 h2)
def Wd:OpR X (Hk .Add) (rI0 λi j=>.int (i+j)):=opI0 λ_ _ _ _ _ _ _ q=>add_int q
def Za2:OpR X (Hk .Sub) (rI0 λi j=>.int (i-j)):=opI0 λ_ _ _ _ _ _ _ q=>sub_int q
def V9:OpR X (Hk .Mult) (rI CMul λi j=>.int (i*j)):=opI λ_ _ _ _ _ _ _ hc q=>mul_int q hc.ok
theorem Zic:OpR X (Hk .FloorDiv) (rI CDiv λi j=>.int (i / j)):=opI λi j _ _ _ _ _ hc q=>by
 let h1:(0:Int)<j:=hc.1;let h2:j<1073741824:=hc.2;exact floordiv_int () (by rw[Int.fdiv_eq_ediv_of_nonneg i ()];exact q) (.inl (PyProof.noPylong_small ()))
theorem Xh:OpR X (Hk .Mod) (rI (λ_ j=>0<j) λi j=>.int (i % j)):=opI λi j _ _ _ _ _ hc q=>by
 let h1:(0:Int)<j:=hc;exact mod_int' () (by rw[Int.fmod_eq_emod_of_nonneg i ()];exact q)
def Zib:OpR X (Hk .Pow) (rI CPow λi j=>.int (i ^ j.toNat)):=opI λ_ _ _ _ _ _ _ hc q=>pow_int_small hc.1 hc.2.1 hc.2.2 q
def unI{f:Value->Sem Value}{g:Int->Int}(rule:∀(i:Int)(t:Tok)(s:Ca)(Q:Value->Ca->Prop)(E:Value->Ca->Prop),Q (.int (g i) s.toks) {s with toks:=s.toks+1}->Cc (Ch X.prog X.w) X.A (f (.int i t)) Q E s) :
  UnR X f (rU λi=>.int (g i)):=by
 intro pq s σ H x v Q I rx h;let⟨i,rfl,q⟩:=h;let⟨t,rfl⟩:=rx;exact rule i t s _ _ ⟨.int (g i),H,I.tok _,⟨_,rfl⟩,q⟩
def U2:UnR X (unaryOp .USub) (rU λi=>.int (-i)):=unI λ_ _ _ _ _ q=>neg_int q
end
def scal:V->V->Bool
 |.non,.non=>true|.non,.int _=>true|.int _,.non=>true|.non,.bl _=>true|.bl _,.non=>true|.non,.str _=>true|.str _,.non=>true
 |.int _,.int _=>true|.bl _,.bl _=>true|.str _,.str _=>true|.byt _,.byt _=>true
 |.int _,.str _=>true|.str _,.int _=>true|.bl _,.str _=>true|.str _,.bl _=>true
 |_,_=>false
def rEq:R2:=λx y H Q=>scal x y=true/\Q (.bl (decide (x=y))) H
def rNe:R2:=λx y H Q=>scal x y=true/\Q (.bl (!decide (x=y))) H
def Zjq{i j:Int}:decide (V.int i=V.int j)=(i==j):=by
 rw[Fi];simp
def Znw{i j:Bool}:decide (V.bl i=V.bl j)=(i==j):=by
 rw[Fi];simp
def Zjp{i j:Str}:decide (V.str i=V.str j)=(i==j):=by
 rw[Fi];simp
def Zjr{i j:Array UInt8}:decide (V.byt i=V.byt j)=(i.toList==j.toList):=by
 rw[Fi];cases i;cases j;simp
section
variable{a b c:Expr}{tc:TE} 
def Ys{k k':Bool}(I:Inv X pq σ H s)(q:Q (.bl k) H)(e:k=k'):EP X pq σ Q (.bool k') s:=by
 subst e;exists .bl k,H,I,rfl,q
theorem Zid:OpR X (Ee .Eq) rEq:=by
 intro pq s σ H x y v u Q I rx ry h;let⟨hs,q⟩:=h;cases x with
 |non =>
  cases rx;cases y with
  |non=>cases ry;exact Jh0 (Ys I q (by simp))
  |bl j=>cases ry;exact Jh1 (Ys I q (by simp))
  |int j=>obtain⟨t',rfl⟩:=ry;exact Jie (Ys I q (by simp))
  |str j=>obtain⟨t',rfl⟩:=ry;exact Jif (Ys I q (by simp))
  |_=>exact absurd (show false=true from hs) Jr
 |bl i =>
  cases rx;cases y with
  |non=>cases ry;exact Jh2 (Ys I q (by simp))
  |bl j=>cases ry;exact eq_bool (Ys I q Znw)
  |str j=>obtain⟨t',rfl⟩:=ry;exact Jh3 (Ys I q (by simp))
  |_=>exact absurd (show false=true from hs) Jr
 |int i =>
  let⟨t,rfl⟩:=rx;cases y with
  |non=>cases ry;exact Jig (Ys I q (by simp))
  |int j=>obtain⟨t',rfl⟩:=ry;exact eq_int (Ys I q Zjq)
  |str j=>obtain⟨t',rfl⟩:=ry;exact Jih (Ys I q (by simp))
  |_=>exact absurd (show false=true from hs) Jr
 |str i =>
  let⟨t,rfl⟩:=rx;cases y with
  |non=>cases ry;exact Jii (Ys I q (by simp))
  |bl j=>cases ry;exact Jh4 (Ys I q (by simp))
  |int j=>obtain⟨t',rfl⟩:=ry;exact Jij (Ys I q (by simp))
  |str j=>obtain⟨t',rfl⟩:=ry;exact eq_str (Ys I q Zjp)
  |_=>exact absurd (show false=true from hs) Jr
 |byt i =>
  let⟨t,rfl⟩:=rx;cases y with
  |byt j=>obtain⟨t',rfl⟩:=ry;exact W.eq_bytes (Ys I q Zjr)
  |_=>exact absurd (show false=true from hs) Jr
 |_=>cases y<;>exact absurd (show false=true from hs) Jr
theorem Zwa:OpR X (Ee .NotEq) rNe:=by
 intro pq s σ H x y v u Q I rx ry h;let⟨hs,q⟩:=h;cases x with
 |non =>
  cases rx;cases y with
  |non=>cases ry;exact Jh5 (Ys I q (by simp))
  |bl j=>cases ry;exact Jh6 (Ys I q (by simp))
  |int j=>obtain⟨t',rfl⟩:=ry;exact Jik (Ys I q (by simp))
  |str j=>obtain⟨t',rfl⟩:=ry;exact Jil (Ys I q (by simp))
  |_=>exact absurd (show false=true from hs) Jr
 |bl i =>
  cases rx;cases y with
  |non=>cases ry;exact Jh7 (Ys I q (by simp))
  |bl j=>cases ry;exact ne_bool (Ys I q (congrArg not Znw))
  |str j=>obtain⟨t',rfl⟩:=ry;exact Jh8 (Ys I q (by simp))
  |_=>exact absurd (show false=true from hs) Jr
 |int i =>
  let⟨t,rfl⟩:=rx;cases y with
  |non=>cases ry;exact Jim (Ys I q (by simp))
  |int j=>obtain⟨t',rfl⟩:=ry;exact ne_int (Ys I q (congrArg not Zjq))
  |str j=>obtain⟨t',rfl⟩:=ry;exact Jin (Ys I q (by simp))
  |_=>exact absurd (show false=true from hs) Jr
 |str i =>
  let⟨t,rfl⟩:=rx;cases y with
  |non=>cases ry;exact Jio (Ys I q (by simp))
  |bl j=>cases ry;exact Jh9 (Ys I q (by simp))
  |int j=>obtain⟨t',rfl⟩:=ry;exact Jip (Ys I q (by simp))
  |str j=>obtain⟨t',rfl⟩:=ry;exact ne_str (Ys I q (congrArg not Zjp))
  |_=>exact absurd (show false=true from hs) Jr
 |byt i =>
  let⟨t,rfl⟩:=rx;cases y with
  |byt j=>obtain⟨t',rfl⟩:=ry;exact W.ne_bytes (Ys I q (congrArg not Zjr))
  |_=>exact absurd (show false=true from hs) Jr
 |_=>cases y<;>exact absurd (show false=true from hs) Jr
def Zfr:OpR X (Ee .Lt) (rI0 λi j=>.bl (decide (i<j))):=opB0 λ_ _ _ _ _ _ _ q=>lt_int q
def Zti:OpR X (Ee .LtE) (rI0 λi j=>.bl (decide (i<=j))):=opB0 λ_ _ _ _ _ _ _ q=>le_int q
def Zcx:OpR X (Ee .Gt) (rI0 λi j=>.bl (decide (j<i))):=opB0 λ_ _ _ _ _ _ _ q=>gt_int q
def Zwb:OpR X (Ee .GtE) (rI0 λi j=>.bl (decide (j<=i))):=opB0 λ_ _ _ _ _ _ _ q=>ge_int q
def Z6(b:Expr){op:Ji3}(h:op≠.In:=by decide)(h2:op≠.NotIn:=by decide):Hv op b=false:=by
 let e1:(op==Ji3.In)=false:=by cases op<;>first|rfl|exact absurd rfl h
 let e2:(op==Jj1)=false:=by cases op<;>first|rfl|exact absurd rfl h2
 cases b<;>simp[Hv,e1,e2]
def Nl{op:Ji3}(ho:OpR X (Ee op) r)(ha:PE X a ta)(hb:PE X b tb)(hm:Hv op b=false):PE X (.Compare a [op] [b] pos) (tOp r ta tb):=by
 intro pq s σ H Q I h;exact wpAny_Compare1 (binT ha hb I h λv u s2 x y H2 I2 rx ry q=>ho pq s2 σ H2 x y v u Q I2 rx ry q) hm
def Zoo(t:TE):TT:=λσ H Q=>t σ H λx H'=>∃k,x=.bl k/\Q k H'
def Z2{op:Ji3}(ho:OpR X (Ee op) r)(ha:PE X a ta)(hb:PE X b tb)(hm:Hv op b=false):PT X (.Compare a [op] [b] pos) (Zoo (tOp r ta tb)):=by
 intro pq s σ H Q I h;refine Jd3 (thn (ha pq s σ H _ I h) λv s1⟨x,H1,I1,r1,q1⟩=>thn (hb pq s1 σ H1 _ I1 q1) λu s2 ⟨y,H2,I2,r2,q2⟩ =>
  thn (ho pq s2 σ H2 x y v u _ I2 r1 r2 q2) λc s3⟨z,H3,I3,r3,k,e,q3⟩=>?_) hm
 subst e;cases r3;exact Eh ⟨H3,I3,q3⟩
def Zmz(r r':R2)(ta tb tc:TE):TE:=λσ H Q=>ta σ H λx H1=>tb σ H1 λy H2=>r x y H2 λz H3=>∃k,z=.bl k /\
 (if k=true then tc σ H3 λw' H4=>r' y w' H4 Q else Q (.bl false) H3)
theorem Zls{op op':Ji3}(ho:OpR X (Ee op) r)(ho':OpR X (Ee op') r')(ha:PE X a ta)(hb:PE X b tb)(hc:PE X c tc)(hm:lastMarks [op,op'] [b,c]=false:=by with_unfolding_all rfl):PT X (.Compare a [op,op'] [b,c] pos) (Zoo (Zmz r r' ta tb tc)):=by
 intro pq s σ H Q I h;refine isTrue_chain (thn (ha pq s σ H _ I h) λv s1⟨x,H1,I1,r1,q1⟩=>test_link (thn (hb pq s1 σ H1 _ I1 q1) λu s2 ⟨y,H2,I2,r2,q2⟩ =>
  thn (ho pq s2 σ H2 x y v u _ I2 r1 r2 q2) λd s3⟨z,H3,I3,r3,k,e,q3⟩=>?_)) hm
 subst e;cases r3;refine Eh ?_;cases k with
 |false =>
  let⟨k',e',q'⟩:=q3;cases e';exact ite_ff ⟨H3,I3,q'⟩
 |true =>
  refine ite_tt (test_last (thn (hc pq s3 σ H3 _ I3 q3) λw' s4⟨z',H4,I4,r4,q4⟩=>thn (ho' pq s4 σ H4 y z' u w' _ I4 r2 r4 q4) λd' s5 hz=>?_));let⟨z2,H5,I5,r5,k2,e2,q5⟩:=hz;subst e2;cases r5;exact Eh ⟨H5,I5,q5⟩
def Pz:(sizeLine:Nat)<2 ^ 63:=by rw[Eg];decide
def Zfs:OpR X (Hk .Add) (λx y H Q=>∃i j,x=.str i/\y=.str j/\i.length+j.length<=sizeLine/\Q (.str (i++j)) H):=by
 intro pq s σ H x y v u Q I rx ry h;let⟨i,j,rfl,rfl,hz,q⟩:=h;let⟨t,rfl⟩:=rx;let⟨t',rfl⟩:=ry;exact add_str (λt' tk=>⟨.str (i++j),H,I.tok _,⟨_,rfl⟩,q⟩) hz
theorem Tj{x:V}(r:Vals [x] us):∃u,us=[u]/\RelV x u:=by
 cases r with
 |cons r1 r2=>cases r2;exists ·,r1
theorem Zn5{x y:V}(r:Vals [x,y] us):∃u w',us=[u,w']/\RelV x u/\RelV y w':=by
 cases r with
 |cons r1 r2 =>
  cases r2 with
  |cons r3 r4=>cases r4;exists _,·,r1,r3
def Zmn:W6 X (.builtin "abs") (λxs H Q=>∃i,xs=[.int i]/\Q (.int (if i<0 then -i else i)) H):=by
 intro pq s σ H xs us Q I r h;let⟨i,rfl,q⟩:=h;let⟨u,rfl,t,rfl⟩:=Tj r;exact call_abs_int λu tk=>⟨.int (if i<0 then -i else i),H,I.tok _,⟨_,rfl⟩,q⟩
def Q7(hc:X.calm=true):W6 X (.builtin "max") (λxs H Q=>∃i j,xs=[.int i,.int j]/\Q (.int (if j > i then j else i)) H):=by
 intro pq s σ H xs us Q I r h;let⟨i,j,rfl,q⟩:=h;let⟨u,w',rfl,⟨t,rfl⟩,⟨t',rfl⟩⟩:=Zn5 r;refine max_two_ints (I.ok.hd hc) λh' tk k=>⟨_,H,I.kept k,?_,q⟩
 by_cases hj:j > i
 .rw[De hj,De hj];exists ·
 .rw[Dd hj,Dd hj];exists ·
def Q6(hc:X.calm=true):W6 X (.builtin "min") (λxs H Q=>∃i j,xs=[.int i,.int j]/\Q (.int (if j<i then j else i)) H):=by
 intro pq s σ H xs us Q I r h;let⟨i,j,rfl,q⟩:=h;let⟨u,w',rfl,⟨t,rfl⟩,⟨t',rfl⟩⟩:=Zn5 r;refine min_two_ints (I.ok.hd hc) λh' tk k=>⟨_,H,I.kept k,?_,q⟩
 by_cases hj:j<i
 .rw[De hj,De hj];exists ·
 .rw[Dd hj,Dd hj];exists ·
def Zby:W6 X (.type "int") (λxs H Q=>(∃i,xs=[.int i]/\Q (.int i) H)\/∃k,xs=[.bl k]/\Q (.int (if k then 1 else 0)) H):=by
 intro pq s σ H xs us Q I r h;rcases h with⟨i,rfl,q⟩|⟨k,rfl,q⟩
 .let⟨u,rfl,t,rfl⟩:=Tj r;exact call_int_int ⟨.int i,H,I,⟨_,rfl⟩,q⟩
 .let⟨u,rfl,r1⟩:=Tj r;cases r1;exact call_int_bool ⟨.int (if k then 1 else 0),H,I.tok _,⟨_,rfl⟩,q⟩
def LenV(K:Cm)(x:V)(H:Hp)(n:Nat):Prop :=
 match x with
 |.str y=>y.length<=sizeLine/\n=y.length
 |.byt y=>y.size<=sizeLine/\n=y.size
 |.ref p=>(∃xs,SqL K H p xs/\n=xs.length)\/∃xs,SqT K H p xs/\n=xs.length
 |_=>False
theorem Y9:W6 X (.builtin "len") (λxs H Q=>∃x n,xs=[x]/\LenV X.K x H n/\Q (.int n) H):=by
 intro pq s σ H xs us Q I r h;let⟨x,n,rfl,e,q⟩:=h;let⟨u,rfl,rx⟩:=Tj r;let hl:=Pz;let hs:sizeLine=16777216:=Eg;cases x with
 |str y =>
  let⟨t,rfl⟩:=rx;obtain⟨hy,e'⟩:y.length<=sizeLine/\n=y.length:=e;subst e';exact len_str () ⟨.int _,H,I.tok _,⟨_,rfl⟩,q⟩
 |byt y =>
  let⟨t,rfl⟩:=rx;obtain⟨hy,e'⟩:y.size<=sizeLine/\n=y.size:=e;subst e';exact W.len_bytes () ⟨.int _,H,I.tok _,⟨_,rfl⟩,q⟩
 |ref p =>
  cases rx;let e':(∃xs,SqL X.K H p xs/\n=xs.length)\/∃xs,SqT X.K H p xs/\n=xs.length:=e;rcases e' with⟨xs,hx,e'⟩|⟨xs,hx,e'⟩
  .subst e';let⟨its,r',pl,hz⟩:=I.list hx;let hlen:=r'.length;exact Calls.call_len_list pl.isList (by simp only[Jm];lia) ⟨.int xs.length,H,I.tok _,⟨_,by simp only[Jm];rw[hlen]⟩,q⟩
  .subst e';let⟨its,r',pl,hz⟩:=I.tuple hx;let hlen:=r'.length;exact len_tuple pl (by simp only[Jm];lia) ⟨.int xs.length,H,I.tok _,⟨_,by simp only[Jm];rw[hlen]⟩,q⟩
 |_=>exact(show False from e).elim
end
structure ObjM(h:Heap)(x dx C:Addr)(mA:Str->Option Value):Prop where
 obj:h.get? x=some (Lr C dx)
 ns:h.Ns1 dx mA
 ne:dx≠x
def Za7(n:h.Ns1 dx mA):∃od,h.get? dx=some od/\∀name,Ji6 name od=some (mA name):=by
 let⟨o,es,ep,ho,hd,hk,_,hm⟩:=n;exists o,ho,λname=>?_;let e:=hm name;unfold nsFind findBy at e;rw[<-Mh]at e;unfold Ji6;rw[hd];dsimp only
 split
 .rename_i y q
  rw[q]at e;exact congrArg some e
 .rename_i q
  rw[q]at e;let a:es.toList.any (·.refKey)=false:=by
   rw[List.any_eq_false];intro y hy;let⟨z,t,hkey⟩:=hk y (Array.mem_toList_iff.mp hy);simp[DictEntry.refKey,hkey]
  let a':¬ es.toList.any (·.refKey)=true:=by rw[a];exact Jr
  rw[Dd a'];exact congrArg some e
def ObjM.look{x:Addr}(I:ObjM h x dx C mA):∃od,W.InstAt h x (Lr C dx) C (some od)/\∀name,Ji6 name od=some (mA name) :=
 let⟨od,ho,hl⟩:=Za7 I.ns
 ⟨od,⟨I.obj,rfl,rfl,ho⟩,hl⟩
section
variable{w:C0}{x f:Addr}{v:Value}
def Zp9{expr:Bool}{Q:Value->Ca->Prop}(X:K.In s.heap)(I:ObjM s.heap x dx C mA)(hg:Jfz K C name=true)(hh:Jhf K C=true)(ha:C1 K (.ref C) name=some none)(hv:mA name=some v)(hv':W.handedIn v=true)(h:Q v {s with toks:=s.toks+1}) :
  Cc (Ch prog w) A (Ji7 (.ref x) name expr) Q E s:=by
 let⟨od,J,hl⟩:=I.look;exact W.get_value X J (Je8 hg).1 (W.findObj_own hh ha rfl (by rw[hl,hv])) hv' h
def Zmd{pl:Sem Bool}{Q:Value×List Value->Ca->Prop}(X:K.In s.heap)(I:ObjM s.heap x dx C mA)(hg:Jfz K C name=true)(hf:C1 K (.ref C) name=some (some (.ref f)))(ht:W.isFn K (.ref f)=true)(hv:mA name=none)(h:Q (.ref f,[.ref x]) s) :
  Cc (Ch prog w) A (Jd5 (.ref x) name pl) Q E s:=by
 let⟨od,J,hl⟩:=I.look;exact W.method_fn X J (Je8 hg).1 (Je8 hg).2 hf (beq_iff_eq.mp ht) (by show(Ji6 name od).map (·.isSome)=some false;rw[hl,hv];rfl) h
theorem Zos{ns:List Str}{Q:Unit->Ca->Prop}(X:K.In s.heap)(I:ObjM s.heap x dx C mA)(hs:C1 K (.ref C) "__setattr__"=some (some (.builtin "object.__setattr__")))(hp:W.plainOver K C=true)(ht:Jjn K C name=some none)(hh:Jhf K C=true)(hw:Ho mA ns)(hsz:ns.length<=sizeLine)(h:∀h',ObjM h' x dx C (λy=>if y=name then some v else mA y)->Hf dx s.heap h'->Q ⟨⟩ {s with heap:=h',toks:=s.toks+2}) :
  Cc (Ch prog w) A (Jj5 (.ref x) name v) Q E s:=by
 let⟨od,J,hl⟩:=I.look;refine Jhg X J hs (W.osa_open (s:={s with toks:=s.toks+1}) (r:=none) X J hp ht λb=>?_);let⟨cd,hc,hd'⟩:=W.any_some hh;let hx:s.heap.get? x=some ⟨.ref C,some dx,.plain,#[]⟩:=I.obj;refine F7 (F8 (F7 (F7 (wpAny_loadPart hx (F7 (W.Looks.here (s:={s with toks:=s.toks+1}) (W.looks_clsIn X hc) ?_))))));rw[hd'];refine F8 (a:=some dx) (F7 (F8 (F7 ?_)));refine Jgk (s:={s with toks:=s.toks+1}) I.ns λh' hn2 hs2=>?_;let⟨oD,esD,epD,hoD,hdD,hcD⟩:=hn2.count (Ja0 name v hw);refine F7 (Jdq hoD (by rw[hdD];exact Jdr (J8 hcD (by rw[Jz];lia))) ?_)
 exact F8 (h _ ⟨(hs2.2 _ (Cw I.ne)).trans I.obj,hn2,I.ne⟩ hs2)
def Zl2{R:Jhh->Ca->Prop}{vs:List Value}{kw:List (Str×Value)}(X:K.In s.heap)(hm:W.makesIn K C=true)(hi:C1 K (.ref C) "__init__"=some (some (.ref f)))(hf:W.typeIn K (.ref f)=some (.type "function"))(h:Hz (Ch prog w) (A.under (.builtin "type.__call__" ⟨.ref C::vs,kw⟩)) (.call (.ref f) ⟨.ref (s.heap.objs.size+1)::vs,kw⟩) (W.InitBack (s.heap.objs.size+1) R)
   {s with heap:=(s.heap.push W.emptyDict).push (Lr C s.heap.objs.size)}) :
  Hz (Ch prog w) A (.call (.ref C) ⟨vs,kw⟩) R s:=by
 let⟨hh,g,d,t,os⟩:=s;exact W.make_core (W.makes_of X hm) (W.looks_findIn X hi) (λself=>W.bind_fn X self hf) (.inl rfl) h
end
def putF(f:Str)(v:V):List (Str×V)->List (Str×V)
 |[]=>[(f,v)]
 |(g,x)::r=>if g=f then(g,v)::r else(g,x)::putF f v r
theorem Ta(f g:Str)(v:V):∀fs:List (Str×V),(putF f v fs).lookup g=if g=f then some v else fs.lookup g
 |[]=>by
  show Kv g [(f,v)]=_
  by_cases h:g=f
  .let hb:(g==f)=true:=beq_iff_eq.mpr h;simp only[Kv,hb,De h]
  .let hb:(g==f)=false:=beq_eq_false_iff_ne.mpr h;simp only[Kv,hb,Dd h]
 |(k,x)::r=>by
  let ih:=Ta f g v r;rw[show putF f v ((k,x)::r)=(if k=f then(k,v)::r else(k,x)::putF f v r)from rfl]
  by_cases hk:k=f
  .rw[De hk]
   by_cases h:g=k
   .let hb:(g==k)=true:=beq_iff_eq.mpr h;simp only[Kv,hb,De (h.trans hk)]
   .let hb:(g==k)=false:=beq_eq_false_iff_ne.mpr h;simp only[Kv,hb,Dd (λe:g=f=>h (e.trans hk.symm))]
  .rw[Dd hk]
   by_cases h:g=k
   .let hb:(g==k)=true:=beq_iff_eq.mpr h;simp only[Kv,hb,Dd (λe:g=f=>hk (h.symm.trans e))]
   .let hb:(g==k)=false:=beq_eq_false_iff_ne.mpr h;simp only[Kv,hb];exact ih
theorem Ub(f:Str)(v:V):∀fs:List (Str×V),f∈(putF f v fs).map (·.1)/\∀g,g∈fs.map (·.1)->g∈(putF f v fs).map (·.1)
 |[]=>⟨by simp[putF],λg h=>by simp at h⟩
 |(k,x)::r=>by
  let⟨i1,i2⟩:=Ub f v r;rw[show putF f v ((k,x)::r)=(if k=f then(k,v)::r else(k,x)::putF f v r)from rfl]
  by_cases hk:k=f
  .rw[De hk];subst hk;exact⟨by simp,λg h=>by simpa using h⟩
  .rw[Dd hk];exists ?_,λg h=>?_
   .rw[Js];exact Jk _ i1
   .rw[Js]at h⊢;rcases Jp.mp h with e|e
    .exact Jp.mpr (.inl e)
    .exact Jk _ (i2 g e)
theorem Qm(f:Str)(v:V):∀fs:List (Str×V),(putF f v fs).length<=fs.length+1
 |[]=>by simp[putF]
 |(k,x)::r=>by
  let ih:=Qm f v r;rw[show putF f v ((k,x)::r)=(if k=f then(k,v)::r else(k,x)::putF f v r)from rfl]
  by_cases hk:k=f
  .rw[De hk,Jz,Jz];lia
  .rw[Dd hk,Jz,Jz];lia
theorem RelO.some_of{o:Option Value}(r:RelO (some v) o):∃u,o=some u/\RelV v u:=by
 cases o with
 |none=>exact(show False from r).elim
 |some u=>exact⟨u,rfl,r⟩
theorem RelO.none_of{o:Option Value}(r:RelO none o):o=none:=by
 cases o with
 |none=>rfl
 |some u=>exact(show False from r).elim
theorem Zbi{u:Value}(r:RelV v u):W.handedIn u=true:=by
 cases v with
 |non=>cases(show u=Value.none from r);rfl
 |bl b=>cases(show u=Lo b from r);rfl
 |int i=>obtain⟨t,e⟩:=(show ∃t,u=Ek i t from r);cases e;rfl
 |str x=>obtain⟨t,e⟩:=(show ∃t,u=Mv x t from r);cases e;rfl
 |byt b=>obtain⟨t,e⟩:=(show ∃t,u=Jj0 b t from r);cases e;rfl
 |flt b=>obtain⟨t,e⟩:=(show ∃t,u=Jhd b t from r);cases e;rfl
 |ref a=>cases(show u=Cg a from r);rfl
 |ty n=>cases(show u=Jkn n from r);rfl
section
variable{w:C0}{a:Addr}{fs:List (Str×V)}
def Nw(hok:HOk P w H h)(e:H a=some (.ins C dx fs)):∃mA,ObjM h a dx C mA/\(∀f,RelO (fs.lookup f) (mA f))/\Ho mA (fs.map (·.1))/\fs.length<=1000/\H dx=some (.own a):=by
 let⟨d,z,ne,ob,mA,n,r,q⟩:=(show Y5 P w H h a (.ins C dx fs)from hok a _ e);exists mA,⟨ob,n,ne⟩,r,q,z,d
end
structure Cls(K:Cm)(C:Addr):Prop where
 pg:Jfz K C Je9=true
 hd:Jhf K C=true
 po:W.plainOver K C=true
 sa:C1 K (.ref C) "__setattr__"=some (some (.builtin "object.__setattr__"))
def Cls.get(c:Cls K C)(f:Str):Jfz K C f=true:=c.pg
def Xi(K:Cm)(C:Addr)(f:Str):Prop:=C1 K (.ref C) f=some none
def Xi.taker{f:Str}(n:Xi K C f):Jjn K C f=some none:=by
 unfold Jjn;rw[show C1 K (.ref C) f=some none from n];rfl
structure Meth(K:Cm)(C:Addr)(m:Str)(f:Addr):Prop where
 at_:C1 K (.ref C) m=some (some (.ref f))
 fn:W.isFn K (.ref f)=true
 kp:Jb7 K (.ref f)=true
section
variable{a:Addr}{fs:List (Str×V)}{f:Str} 
def Zf7{b:Bool}{Q:Value->Ca->Prop}(I:Inv X pq σ H s)(e:H a=some (.ins C dx fs))(c:Cls X.K C)(n:Xi X.K C f)(l:fs.lookup f=some v)(h:∀u s',Inv X pq σ H s'->RelV v u->Q u s'):Cc (Ch X.prog X.w) A (Ji7 (.ref a) f b) Q E s:=by
 let⟨mA,O,r,_,_,_⟩:=Nw I.hok e;let⟨u,hu,ru⟩:=RelO.some_of (v:=v) (o:=mA f) (by rw[<-l];exact r f);exact Zp9 I.kIn O (c.get f) c.hd n hu (Zbi ru) (h u _ (I.tok _) ru)
def P1{m:Str}{g:Addr}{pl:Sem Bool}{Q:Value×List Value->Ca->Prop}(I:Inv X pq σ H s)(e:H a=some (.ins C dx fs))(c:Cls X.K C)(k:Meth X.K C m g)(l:fs.lookup m=none)(h:Q (.ref g,[.ref a]) s):Cc (Ch X.prog X.w) A (Jd5 (.ref a) m pl) Q E s:=by
 let⟨mA,O,r,_,_,_⟩:=Nw I.hok e;let hn:mA m=none:=RelO.none_of (by rw[<-l];exact r m);exact Zmd I.kIn O (c.get m) k.at_ k.fn hn h
theorem Zfn{y:V}{u:Value}{Q:Unit->Ca->Prop}(I:Inv X pq σ H s)(e:H a=some (.ins C dx fs))(c:Cls X.K C)(n:Xi X.K C f)(hl:fs.length<1000)(ry:RelV y u)(h:∀s',Inv X pq σ (upd H a (.ins C dx (putF f y fs))) s'->Q ⟨⟩ s'):Cc (Ch X.prog X.w) A (Jj5 (.ref a) f u) Q E s:=by
 let⟨mA,O,r,wi,_,ho⟩:=Nw I.hok e;let hz:(fs.map (·.1)).length<=sizeLine:=by rw[Ja,Eg];lia
 refine Zos I.kIn O c.sa c.po n.taker c.hd wi hz λh' O' sb=>h _ ?_;let hd:∃o,h'.get? dx=some o:=let⟨o,_,_,e',_⟩:=O'.ns;⟨o,e'⟩
 refine I.write (x:=a) (e:=dx) (by rw[e];exact Eo) (.inr ho) (λb q hb z=>(sb.2 b hb).trans z) hd ?_;exists by rw[Zn O.ne];exact ho,?_,O.ne,O'.obj,_,O'.ns,λg=>?_,λg hg=>?_
 .let:=Qm f y fs;lia
 .show RelO ((putF f y fs).lookup g) (if g=f then some u else mA g);rw[Ta]
  by_cases q:g=f
  .rw[De q,De q];exact ry
  .rw[Dd q,Dd q];exact r g
 .by_cases q:g=f
  .rw[q];exact(Ub f y fs).1
  .refine(Ub f y fs).2 g (wi g λz=>hg ?_);show(if g=f then some u else mA g)=none;rw[Dd q];exact z
def Inv.made(I:Inv X pq σ H s):Inv X pq σ (upd (upd H s.heap.objs.size (.own (s.heap.objs.size+1))) (s.heap.objs.size+1) (.ins C s.heap.objs.size []))
  {s with heap:=(s.heap.push W.emptyDict).push (Lr C s.heap.objs.size)}:=by
 let e1:(s.heap.push W.emptyDict).get? s.heap.objs.size=some W.emptyDict:=Da s.heap rfl;let e2:((s.heap.push W.emptyDict).push (Lr C s.heap.objs.size)).get? (s.heap.objs.size+1)=some (Lr C s.heap.objs.size):=by
  let:=Da (s.heap.push W.emptyDict) (o:=Lr C s.heap.objs.size) rfl;rwa [Hj]at this
 let e3:(s.heap.push W.emptyDict).Ns s.heap.objs.size (λ_=>none):=⟨W.emptyDict,#[],_,e1,rfl,(λe he=>absurd he (by simp)),λ_=>rfl⟩;let I1:=I.laid (a:=s.heap.objs.size) (o:=.own (s.heap.objs.size+1)) (h':=s.heap.push W.emptyDict) (t':=s.toks) (λb u q=>F9 _ q) (Jd _) ⟨_,e1⟩;refine I1.laid (a:=s.heap.objs.size+1) (o:=.ins C s.heap.objs.size []) (t':=s.toks) (λb u q=>F9 _ q) (Bv (Hj _ _)) ?_;let ne:s.heap.objs.size≠s.heap.objs.size+1:=Gi (Fx _);exists by rw[Zn ne,Zg],Gc _,ne,e2,λ_=>none,(Heap.Ns1.of_empty e3).at λo q=>F9 _ q,λ_=>Eo,λy hy=>absurd rfl hy
def Zko{w:C0}{env:Env}{e:Expr}{f:Str}{Q:Value->Ca->Prop}(hb:Kj e f env (eval e env)=eval e env)(h:Cc (Ch prog w) A (eval e env) (λo s₁=>Cc (Ch prog w) A (Ji7 o f true) Q E s₁) E s):Cc (Ch prog w) A (eval (.Attribute e f pos) env) Q E s :=
 Attribute_any_ h (by rw[arm_eval_Attribute,hb])
end
def tFld(K:Cm)(ta:TE)(f:Str):TE:=λσ H Q=>ta σ H λx H1=>∃a C dx fs v,x=.ref a/\H1 a=some (.ins C dx fs)/\Cls K C/\Xi K C f/\fs.lookup f=some v/\Q v H1
def sFld(K:Cm)(ta tv:TE)(f:Str):TS:=λD σ H=>tv σ H λy H1=>ta σ H1 λx H2=>∃a C dx fs,x=.ref a/\H2 a=some (.ins C dx fs)/\Cls K C/\Xi K C f/\fs.length<1000 /\
 D.nx σ (upd H2 a (.ins C dx (putF f y fs)))
section
variable{o e:Expr}{f:Str}{tv:TE}
def Vb(he:PE X e ta)(hb:Kj e f X.env (eval e X.env)=eval e X.env):PE X (.Attribute e f pos) (tFld X.K ta f):=by
 intro pq s σ H Q I h;refine Zko hb (thn (he pq s σ H _ I h) λu s1 hz=>?_);let⟨x,H1,I1,rx,a,C,dx,fs,v,ex,ea,c,n,l,q⟩:=hz;subst ex;obtain rfl:u=Cg a:=rx;exact Zf7 I1 ea c n l λu' s2 I2 ru=>⟨v,H1,I2,ru,q⟩
def Qh(ha:PE X o ta)(hv:PE X value tv)(hs:Mx value (some (.Attribute o f pos')) pos.line X.env=pure false):PS X (.Assign [.Attribute o f pos'] value pos) (sFld X.K ta tv f):=by
 intro pq s σ H D I h;refine Kw (thn (hv pq s σ H _ I h) λu s1⟨y,H1,I1,ry,q⟩=>thn (ha pq s1 σ H1 _ I1 q) λov s2 hz=>?_) hs;let⟨x,H2,I2,rx,a,C,dx,fs,ex,ea,c,n,l,q2⟩:=hz;subst ex;obtain rfl:ov=Cg a:=rx;exact Zfn I2 ea c n l ry λs3 I3=>⟨σ,_,I3,q2⟩
end
section
variable{Q:Value->Ca->Prop}{c:Value}{b:Bool}
inductive TyOf(K:Cm)(H:Hp):V->Value->Prop where
 |non:TyOf K H .non (.type "NoneType")
 |bl (x:Bool):TyOf K H (.bl x) (.type "bool")
 |int (i:Int):TyOf K H (.int i) (.type "int")
 |str (x:Str):TyOf K H (.str x) (.type "str")
 |flt (x:UInt64):TyOf K H (.flt x) (.type "float")
 |lst {a:Addr} {xs:List V} (e:H a=some (.lst xs)):TyOf K H (.ref a) (.type "list")
 |frz {a:Addr} {o:Obj} {xs:List V} (e:H a=some (.frz o (.lst xs))):TyOf K H (.ref a) (.type "list")
 |tup {a:Addr} {xs:List V} (e:H a=some (.tup xs)):TyOf K H (.ref a) (.type "tuple")
 |dK {a:Addr} {kvs:List (Key×V)} (e:H a=some (.dK kvs)):TyOf K H (.ref a) (.type "dict")
 |dT {a:Addr} {kvs:List (List Key×V)} (e:H a=some (.dT kvs)):TyOf K H (.ref a) (.type "dict")
 |ins {a C dx:Addr} {fs:List (Str×V)} (e:H a=some (.ins C dx fs)) (cl:Cls K C) (ha:C1 K (.ref C) "__class__"=some (some (.builtin "object.__class__")))
   (hn:W.specialIn K (.builtin "object.__class__") "__get__"=some (some (.builtin "getset_descriptor.__get__"))) (htk:W.takesIn K (.builtin "object.__class__")=some true)
   (hm:Ey K C (.type "object")=some true):TyOf K H (.ref a) (.ref C)
theorem Zi5{x:V}{u t:Value}(I:Inv X pq σ H s)(rx:RelV x u)(ty:TyOf X.K H x t)(e:Ji8 X.K t c=some b)(h:∀tk,Q (.bool b) {s with toks:=tk}) :
  Cc (Ch X.prog X.w) A (call (.builtin "isinstance") [u,c]) Q E s:=by
 cases ty with
 |non=>cases(show u=Value.none from rx);exact Ka W.kitx_none I.kIn Eo e (λz=>nomatch z) h
 |bl y=>cases(show u=Lo y from rx);exact Ka W.kitx_bool I.kIn Eo e (λz=>nomatch z) h
 |int i=>obtain⟨t,q⟩:=(show ∃t,u=Ek i t from rx);cases q;exact Ka W.kitx_int I.kIn Eo e (λz=>nomatch z) h
 |str y=>obtain⟨t,q⟩:=(show ∃t,u=Mv y t from rx);cases q;exact Ka W.kitx_str I.kIn Eo e (λz=>nomatch z) h
 |flt y=>obtain⟨t,q⟩:=(show ∃t,u=Jhd y t from rx);cases q;exact Ka W.kitx_float I.kIn Eo e (λz=>nomatch z) h
 | @lst a xs ea =>
  cases(show u=Cg a from rx);let⟨_,_,n,_,h1⟩:=(show Y5 X.prog X.w H s.heap a (.lst xs)from I.hok a _ ea);exact Ka W.kitx_list I.kIn ⟨_,h1,rfl⟩ e (λz=>nomatch z) h
 | @frz a ob xs ea =>
  cases(show u=Cg a from rx);let⟨_,_,_,n,_,h1⟩:=(show Y5 X.prog X.w H s.heap a (.frz ob (.lst xs))from I.hok a _ ea);exact Ka W.kitx_list I.kIn ⟨_,h1,rfl⟩ e (λz=>nomatch z) h
 | @tup a xs ea =>
  cases(show u=Cg a from rx);let⟨_,_,_,p⟩:=(show Y5 X.prog X.w H s.heap a (.tup xs)from I.hok a _ ea);let⟨o,h1,h2,_⟩:=p;exact Ka W.kitx_tuple I.kIn ⟨o,h1,h2⟩ e (λz=>nomatch z) h
 | @dK a kvs ea =>
  cases(show u=Cg a from rx);let⟨_,_,vs,_,p⟩:=(show Y5 X.prog X.w H s.heap a (.dK kvs)from I.hok a _ ea);let⟨o,es,ep,h1,h2,_⟩:=p;exact Ka W.kitx_dict I.kIn ⟨o,h1,h2.1⟩ e (λz=>nomatch z) h
 | @dT a kvs ea =>
  cases(show u=Cg a from rx);let⟨_,_,xs,_,o,es,ep,h1,h2,_⟩:=(show Y5 X.prog X.w H s.heap a (.dT kvs)from I.hok a _ ea);exact Ka W.kitx_dict I.kIn ⟨o,h1,h2.1⟩ e (λz=>nomatch z) h
 | @ins a C dx fs ea cl ha hn htk hm =>
  cases(show u=Cg a from rx);let⟨mA,O,_⟩:=Nw I.hok ea;let⟨od,J,_⟩:=O.look;exact Ka (W.kitx_own (cl.get _) cl.hd ha hn htk hm) I.kIn J e (λz=>nomatch z) h
end
structure Room(k:Nat)(A:K2):Prop where
 hd:A.handled=none
 dp:A.depth+3*k+5<recursionLimit
 un:A.units+16*k+200<cLine
theorem Room.mono{k:Nat}(r:Room k A)(h:j<=k):Room j A:=⟨r.hd,by have:=r.dp;lia,by have:=r.un;lia⟩
theorem Room.deeper{k:Nat}(r:Room (k+1) A)(env:Env):Room k (A.deeper env) :=
 ⟨r.hd,by have:=r.dp;show A.depth+1+3*k+5<_;lia,by have:=r.un;show A.units+3+16*k+200<_;lia⟩
theorem Room.in1{k:Nat}(r:Room (k+1) A):Room k A.in1 :=
 ⟨r.hd,by have:=r.dp;show A.depth+3*k+5<_;lia,by have:=r.un;show A.units+1+16*k+200<_;lia⟩
def Zfz{kw:List (Str×Value)}:(A.under (.builtin "type.__call__" ⟨.ref C::us,kw⟩)).depth=A.depth+1:=by
 first|rfl|simp[Jgl,Code.weight,Code.isCreation,Code.isGuard,Code.isCaller,Jj6,Jgm,guardIds]
def Zfy{kw:List (Str×Value)}:(A.under (.builtin "type.__call__" ⟨.ref C::us,kw⟩)).units=A.units+1:=by
 first|rfl|simp[Jgl,Code.cUnits,Jj6,Jgm]
theorem Room.make{k:Nat}(r:Room (k+1) A)(C:Addr)(us:List Value)(kw:List (Str×Value)):Room k (A.under (.builtin "type.__call__" ⟨.ref C::us,kw⟩)) :=
 ⟨r.hd,by have:=r.dp;rw[Zfz];lia,by have:=r.un;rw[Zfy];lia⟩
theorem Room.depth{k:Nat}(r:Room k A):A.depth<recursionLimit:=by have:=r.dp;lia
theorem Room.units{k:Nat}(r:Room k A):A.units+64<cLine:=by have:=r.un;lia
def tNil:TA:=λ_ H Q=>Q [] H
def Zop(ta:TE)(tr:TA):TA:=λσ H Q=>ta σ H λx H1=>tr σ H1 λxs H2=>Q (x::xs) H2
section
variable{e:Expr}{t:TA} 
def Zc:PA X [] tNil:=λ_ _ _ _ H Q I h=>Ja1 ⟨[],H,I,.nil,h⟩
def Za(ha:PE X e te)(hr:PA X es t)(hs:Ci (e::es) X.env=(false,eval e X.env)::Ci es X.env:=by rfl):PA X (e::es) (Zop te t):=by
 intro pos pq s σ H Q I h;rw[hs];show Cc _ _ (Ji2 ((false,eval e X.env)::Hy pos (Ci es X.env))) _ _ s;refine Hl (thn (ha pq s σ H _ I h) λu s1 hz=>?_);let⟨x,H1,I1,r1,q1⟩:=hz;exact thn (hr pos pq s1 σ H1 _ I1 q1) λus s2⟨xs,H2,I2,r2,q2⟩=>⟨x::xs,H2,I2,.cons r1 r2,q2⟩
def tTup(t:TA):TE:=λσ H Q=>t σ H λxs H1=>xs.length<=sizeLine/\∀p,H1 p=none->Q (.ref p) (upd H1 p (.tup xs))
def tLst(t:TA):TE:=λσ H Q=>t σ H λxs H1=>xs.length<=sizeLine/\∀p,H1 p=none->Q (.ref p) (upd H1 p (.lst xs))
def Y6{x1}(h:PA X es t):PE X (.Tuple es x1 pos) (tTup t):=by
 intro pq s σ H Q I hq;refine Jev (thn (h pos pq s σ H _ I hq) λus s1⟨xs,H1,I1,r,z,q⟩=>⟨by rw[<-r.length];exact z,?_⟩);let hf:H1 s1.heap.objs.size=none:=I1.hok.fresh (Jd _);exists .ref s1.heap.objs.size,upd H1 s1.heap.objs.size (.tup xs),I1.laid (t':=s1.toks) (λb u e=>F9 _ e) (Jd _) ?_,rfl,q _ hf;exists z,us,r,⟨_,Da _ rfl,rfl,_,rfl,rfl⟩
def Yl(h:PA X es t):PE X (.List es pos) (tLst t):=by
 intro pq s σ H Q I hq;refine Jfa (thn (h pos pq s σ H _ I hq) λus s1⟨xs,H1,I1,r,z,q⟩=>⟨by rw[<-r.length];exact z,?_⟩);let hf:H1 s1.heap.objs.size=none:=I1.hok.fresh (Jd _);exists .ref s1.heap.objs.size,upd H1 s1.heap.objs.size (.lst xs),I1.laid (t':=s1.toks) (λb u e=>F9 _ e) (Jd _) ?_,rfl,q _ hf;exists z,us,0,r,Da _ rfl
end
abbrev Sp:=List V->Hp->VK->XK->Prop
variable{sp sp':L2.Sp}
abbrev CXT:=List Env->Hp->Ca->XK->Value->Ca->Prop
variable{CX:L2.CXT}
structure Env0(P:Ew)(w:C0)(K:Cm)(mg:Str->Option Value)(base:Heap)(A:K2)(outer:List Env)(s:Ca)(H:Hp):Prop where
 frames:A.frames=some outer
 mod:Mod K mg base
 bs:∀b o,base.get? b=some o->s.heap.get? b=some o/\H b=none
 bsz:base.objs.size<=s.heap.objs.size
 funs:s.heap.FunFrames base outer
 frf:∀b∈frs outer,H b=none
 hok:HOk P w H s.heap
 bare:Jb5 s.gens
def CE(outer:List Env)(P:Ew)(w:C0)(H:Hp)(s:Ca)(Q:VK)(u:Value)(s':Ca):Prop :=
 ∃v H',s'.os=s.os/\Jb5 s'.gens/\Un (frs outer) [] H H' s.heap s'.heap/\HOk P w H' s'.heap/\RelV v u/\Q v H'
def CR(CX:CXT)(outer:List Env)(P:Ew)(w:C0)(H:Hp)(s:Ca)(Q:VK)(E:XK)(r:Jhh)(s':Ca):Prop :=
 match r with
 |.ok (.ret u)=>CE outer P w H s Q u s'
 |.ok _=>False
 |.error e=>CX outer H s E e s'
structure FnOk(P:Ew)(w:C0)(K:Cm)(mg:Str->Option Value)(base:Heap)(CX:CXT)(k:Nat)(f:Addr)(fd:Mi)(ps:List Str)(sp:Sp):Prop where
 len:∀vs H Q E,sp vs H Q E->vs.length=ps.length
 run:∀(A:K2)(outer:List Env)(s:Ca)(H:Hp)(args:Args)(us:List Value)(vs:List V)(Q:VK)(E:XK),Room k A->Env0 P w K mg base A outer s H->Jf0 s fd args (ps.zip us)->Vals vs us->sp vs H Q E ->
  Hz (Ch P w) A (.call (.ref f) args) (CR CX outer P w H s Q E) s
def FnOk.imp{w:C0}{base:Heap}{k:Nat}{f:Addr}(F:FnOk P w K mg base CX k f fd ps sp)(h:∀vs H Q E,sp' vs H Q E->sp vs H Q E):FnOk P w K mg base CX k f fd ps sp' :=
 ⟨λvs H Q E q=>F.len vs H Q E (h _ _ _ _ q),λA outer s H args us vs Q E hr he hb hv hs=>F.run A outer s H args us vs Q E hr he hb hv (h _ _ _ _ hs)⟩
def Env0.make{w:C0}{base:Heap}{outer:List Env}(e:Env0 P w K mg base A outer s H)(C:Addr)(us:List Value)(kw:List (Str×Value)) :
  Env0 P w K mg base (A.under (.builtin "type.__call__" ⟨.ref C::us,kw⟩)) outer s H:=⟨by first|exact e.frames|(simpa[Jgl,Code.envs,Jgm,pushEnvs]using e.frames),e.mod,e.bs,e.bsz,e.funs,e.frf,e.hok,e.bare⟩
def Env0.in1{w:C0}{base:Heap}{outer:List Env}(e:Env0 P w K mg base A outer s H) :
  Env0 P w K mg base A.in1 outer s H:=⟨e.frames,e.mod,e.bs,e.bsz,e.funs,e.frf,e.hok,e.bare⟩
section
variable{s':Ca}
def Inv.env0(I:Inv X pq σ H s):Env0 X.prog X.w X.K X.mg X.base X.A X.stack s H :=
 ⟨I.ok.frames,I.ok.mod,I.bs,J8 I.ok.bsz I.sz,I.stack,I.stkFree,I.hok,I.bare⟩
def Inv.after{u:Value}(I:Inv X pq σ H s)(h:CE X.stack X.prog X.w H s Q u s'):EP X pq σ Q u s':=by
 let⟨v,H',os,bare,un,hok,r,q⟩:=h;let⟨hh,g,d,t,os'⟩:=s';obtain rfl:os'=s.os:=os;exists v,H',I.call (h':=hh) (g':=g) (d':=d) (t':=t) (ch:=[]) un hok bare (λb z=>absurd z (by simp)),r,q
end
def Zg2(sp:Sp)(dvs:List V)(E:XK)(t:TA):TE:=λσ H Q=>t σ H λvs H1=>sp (vs++dvs) H1 Q E
def Zgz(C:Addr)(m:Str)(sp:Sp)(dvs:List V)(E:XK)(ta:TE)(t:TA):TE:=λσ H Q=>ta σ H λx H1=>∃a dx fs,x=.ref a/\H1 a=some (.ins C dx fs)/\fs.lookup m=none /\
 t σ H1 λvs H2=>sp (x::(vs++dvs)) H2 Q E
def Zfl(C:Addr)(sp:Sp)(dvs:List V)(E:XK)(t:TA):TE:=λσ H Q=>t σ H λvs H1=>∀x dx,H1 x=none->H1 dx=none->dx≠x ->
 sp (.ref x::(vs++dvs)) (upd (upd H1 dx (.own x)) x (.ins C dx [])) (λv H2=>v=.non/\Q (.ref x) H2) E
def Vt(K:Cm)(fd:Mi)(ps:List Str)(ds:List Value):Prop :=
 ∀(s:Ca)(us:List Value),K.In s.heap->(us++ds).length=ps.length->Jf0 s fd ⟨us,[]⟩ (ps.zip (us++ds))
def Vt.all(h:∀us:List Value,us.length=ps.length->Jfb fd ⟨us,[]⟩=pure (ps.zip us)):Vt K fd ps []:=λs us _ hl=>by
 rw[Gh]at hl⊢;exact .of_eq (h us hl)
def Re(CX:CXT)(X:Cx)(E:XK):Prop:=∀(pq:List (Addr×Obj))(σ:St)(H:Hp)(s:Ca)(e:Value)(s':Ca),Inv X pq σ H s->CX X.stack H s E e s'->X.xe e s'
section
variable{k:Nat}{f:Addr}{dvs:List V}{ds:List Value}{E:XK}{x m:Str}{p:Pos}{e o:Expr}{t:TA}
theorem Zhp(F:FnOk X.prog X.w X.K X.mg X.base CX k f fd ps sp)(hr:Room k X.A)(hb:Vt X.K fd ps ds)(hd:Vals dvs ds)(hx:Re CX X E)(I:Inv X pq σ H s)(r:Vals vs us)(h:sp (vs++dvs) H Q E):Cc (Ch X.prog X.w) X.A (call (.ref f) us) (EP X pq σ Q) X.xe s:=by
 let r2:Vals (vs++dvs) (us++ds):=r.append hd;let hl:(us++ds).length=ps.length:=by rw[<-r2.length];exact F.len _ _ _ _ h
 refine Lp (Kf (F.run X.A X.stack s H ⟨us,[]⟩ (us++ds) (vs++dvs) Q E hr I.env0 (hb s us I.kIn hl) r2 h) λr s' hq=>?_);cases r with
 |error e=>exact hx pq σ H s e s' I hq
 |ok fl =>
  cases fl with
  |ret u=>exact I.after hq
  |next=>exact Cq hq
  |brk=>exact Cq hq
  |cont=>exact Cq hq
def Zpl(F:FnOk X.prog X.w X.K X.mg X.base CX k f fd ps sp)(hr:Room k X.A)(hg:Gl X x)(hm:X.mg x=some (.ref f))(hk:Jb7 X.K (.ref f)=true)(hb:Vt X.K fd ps ds)(hd:Vals dvs ds)(hx:Re CX X E)(ha:PA X (e::es) t)(hdb:(x==("__debug__":Str))=false:=by decide)(he:Ci (e::es) X.env=(false,eval e X.env)::Ci es X.env:=by rfl)(hpl:(Hy pos (Ci es X.env)).any (·.1)=false:=by rfl) :
  PE X (.Call (.Name x p) (e::es) [] pos) (Zg2 sp dvs E t):=by
 intro pq s σ H Q I h;refine Em (Ua I hg hm ?_ hdb);refine Mj (h₀:=X.base) I.ok.mod.kin hk (thn (ha pos pq s σ H _ I h) λus s1⟨vs,H1,I1,r,q⟩=>⟨I1.kIn,?_⟩) he hpl;exact Zhp F hr hb hd hx I1 r q
def Zpj{pl:Sem Bool}(he:PE X o ta)(c:Cls X.K C)(hm:Meth X.K C m f)(F:FnOk X.prog X.w X.K X.mg X.base CX k f fd ps sp)(hr:Room k X.A)(hb:Vt X.K fd ps ds)(hd:Vals dvs ds)(hx:Re CX X E)(ha:PA X (e::es) t)(hst:Ci (e::es) X.env=(false,eval e X.env)::Ci es X.env:=by rfl)(hpl:(Hy pos (Ci es X.env)).any (·.1)=false:=by rfl)(ht:eval (.Call (.Attribute o m apos) (e::es) [] pos) X.env=(do
   let ov <-eval o X.env
   Jfu apos.atName
   let(f,first) <-Lu [ov] (Jd5 ov m pl)
   Ji9 pos f first (Hy pos (Ci (e::es) X.env)) (Jfc pos (Ly [] X.env))):=by rfl) :
  PE X (.Call (.Attribute o m apos) (e::es) [] pos) (Zgz C m sp dvs E ta t):=by
 intro pq s σ H Q I h;refine Jhi (pl:=pl) (thn (he pq s σ H _ I h) λu s1 hz=>?_) ht;let⟨x,H1,I1,rx,a,dx,fs,ex,ea,l,q⟩:=hz;subst ex;obtain rfl:u=Cg a:=rx;refine P1 I1 ea c hm l ?_;refine Mj (first:=[.ref a]) (h₀:=X.base) I.ok.mod.kin hm.kp (thn (ha pos pq s1 σ H1 _ I1 q) λus s2⟨vs,H2,I2,r,q2⟩=>⟨I2.kIn,?_⟩) hst hpl;exact Zhp (us:=.ref a::us) (vs:=.ref a::vs) F hr hb hd hx I2 (.cons rfl r) q2
def Zlw{pl:Sem Bool}(he:PE X o ta)(c:Cls X.K C)(hm:Meth X.K C m f)(F:FnOk X.prog X.w X.K X.mg X.base CX k f fd ps sp)(hr:Room k X.A)(hb:Vt X.K fd ps ds)(hd:Vals dvs ds)(hx:Re CX X E)(ht:eval (.Call (.Attribute o m apos) [] [] pos) X.env=(do
   let ov <-eval o X.env
   Jfu apos.atName
   let(f,first) <-Lu [ov] (Jd5 ov m pl)
   Ji9 pos f first (Hy pos (Ci [] X.env)) (Jfc pos (Ly [] X.env))):=by rfl) :
  PE X (.Call (.Attribute o m apos) [] [] pos) (Zgz C m sp dvs E ta tNil):=by
 intro pq s σ H Q I h;refine Jhi (pl:=pl) (thn (he pq s σ H _ I h) λu s1 hz=>?_) ht;let⟨x,H1,I1,rx,a,dx,fs,ex,ea,l,q⟩:=hz;subst ex;obtain rfl:u=Cg a:=rx;refine P1 I1 ea c hm l ?_;exact Jja (first:=[.ref a]) I1.kIn hm.kp (Zhp (us:=[.ref a]) (vs:=[.ref a]) F hr hb hd hx I1 (.cons rfl .nil) q)
structure Mk(K:Cm)(C f:Addr):Prop where
 makes:W.makesIn K C=true
 init:C1 K (.ref C) "__init__"=some (some (.ref f))
 fn:W.isFn K (.ref f)=true
 kp:Jb7 K (.ref C)=true
theorem Zed(M:Mk X.K C f)(F:FnOk X.prog X.w X.K X.mg X.base CX k f fd ps sp)(hr:Room (k+1) X.A)(hb:Vt X.K fd ps ds)(hd:Vals dvs ds)(hx:Re CX X E)(I:Inv X pq σ H s)(r:Vals vs us)(h:∀x dx,H x=none->H dx=none->dx≠x->sp (.ref x::(vs++dvs)) (upd (upd H dx (.own x)) x (.ins C dx [])) (λv H2=>v=.non/\Q (.ref x) H2) E) :
  Cc (Ch X.prog X.w) X.A (call (.ref C) us) (EP X pq σ Q) X.xe s:=by
 let hq:=h (s.heap.objs.size+1) s.heap.objs.size (I.hok.fresh (Bw _)) (I.hok.fresh (Jd _)) (Gi (Fx _));let I2:=Inv.made (C:=C) I;let r2:Vals (V.ref (s.heap.objs.size+1)::(vs++dvs)) (Cg (s.heap.objs.size+1)::(us++ds)):=.cons rfl (r.append hd);let hl:(Cg (s.heap.objs.size+1)::us++ds).length=ps.length:=by
  let e:=r2.length;rw[F.len _ _ _ _ hq]at e;exact e.symm
 refine Lp (Zl2 (f:=f) I.kIn M.makes M.init (beq_iff_eq.mp M.fn) (Kf (F.run _ X.stack _ _ ⟨Cg (s.heap.objs.size+1)::us,[]⟩ (Cg (s.heap.objs.size+1)::(us++ds)) _ _ E (hr.make C us [])
  (I2.env0.make C us []) (hb _ (Cg (s.heap.objs.size+1)::us) I2.kIn hl) r2 hq) λr s' hq'=>?_))
 cases r with
 |error e=>exact hx pq σ _ _ e s' I2 hq'
 |ok fl =>
  cases fl with
  |ret u =>
   let⟨v,H',I3,rv,ev,q3⟩:=I2.after hq';subst ev;exists rv,⟨V.ref (s.heap.objs.size+1),H',I3,rfl,q3⟩
  |next=>exact Cq hq'
  |brk=>exact Cq hq'
  |cont=>exact Cq hq'
def Zpk(M:Mk X.K C f)(F:FnOk X.prog X.w X.K X.mg X.base CX k f fd ps sp)(hr:Room (k+1) X.A)(hg:Gl X x)(hm:X.mg x=some (.ref C))(hb:Vt X.K fd ps ds)(hd:Vals dvs ds)(hx:Re CX X E)(ha:PA X (e::es) t)(hdb:(x==("__debug__":Str))=false:=by decide)(he:Ci (e::es) X.env=(false,eval e X.env)::Ci es X.env:=by rfl)(hpl:(Hy pos (Ci es X.env)).any (·.1)=false:=by rfl) :
  PE X (.Call (.Name x p) (e::es) [] pos) (Zfl C sp dvs E t):=by
 intro pq s σ H Q I h;refine Em (Ua I hg hm ?_ hdb);refine Mj (h₀:=X.base) I.ok.mod.kin M.kp (thn (ha pos pq s σ H _ I h) λus s1⟨vs,H1,I1,r,q⟩=>⟨I1.kIn,?_⟩) he hpl;exact Zed M F hr hb hd hx I1 r q
def Zlx(M:Mk X.K C f)(F:FnOk X.prog X.w X.K X.mg X.base CX k f fd ps sp)(hr:Room (k+1) X.A)(hg:Gl X x)(hm:X.mg x=some (.ref C))(hb:Vt X.K fd ps ds)(hd:Vals dvs ds)(hx:Re CX X E)(hdb:(x==("__debug__":Str))=false:=by decide):PE X (.Call (.Name x p) [] [] pos) (Zfl C sp dvs E tNil):=by
 intro pq s σ H Q I h;refine Em (Ua I hg hm ?_ hdb);exact Jja I.kIn M.kp (Zed (us:=[]) M F hr hb hd hx I .nil h)
end
structure FnScope(N P:List Str)(sc:Scope):Prop where
 kind:sc.kind=.function
 co:sc.isCoroutine=false
 gen:sc.isGenerator=false
 nd:N.Nodup
 pre:N.take P.length=P
 par:∀x∈P,sc.names.lookup x=some .local\/sc.names.lookup x=some .cell
 nofree:∀y∈sc.names,y.2≠.free
theorem Zbz{kindOf:Str->Option E2}{x:Str}:∀{binds:List (Str×Value)}{m:Str->Option Value},(∀v,(x,v)∉binds)->Jj7 kindOf binds m x=m x
 |[],_,_=>rfl
 |(n,v)::r,m,h=>by
  unfold Jj7;rw[Zbz λw hw=>h w (Jk _ hw)]
  split
  .let:x≠n:=by rintro rfl;exact h v Jn
   simp[this]
  .rfl
theorem Zb1{kindOf:Str->Option E2}{x:Str}:∀{binds:List (Str×Value)}{m:Str->Option Value},(∀v,(x,v)∉binds)->Jj8 kindOf binds m x=m x
 |[],_,_=>rfl
 |(n,v)::r,m,h=>by
  unfold Jj8;rw[Zb1 λw hw=>h w (Jk _ hw)]
  split
  .rfl
  .let:x≠n:=by rintro rfl;exact h v Jn
   simp[this]
theorem Zb0{kindOf:Str->Option E2}{x:Str}{v:Value}:∀{P:List Str}{vs:List Value}{i:Nat}{m:Str->Option Value},P.Nodup->P[i]?=some x->vs[i]?=some v->kindOf x=some .local ->
  Jj7 kindOf (P.zip vs) m x=some v
 |[],_,_,_,_,h,_,_=>by simp at h
 |_::_,[],_,_,_,_,h,_=>by simp at h
 |p::P,w::vs,0,m,nd,h1,h2,hk=>by
  simp at h1 h2;subst h1;subst h2;show Jj7 kindOf ((p,w)::P.zip vs) m p=_;unfold Jj7;rw[Zbz λv hv=>(Gy.mp nd).1 (Lz hv).1,De hk];simp
 |p::P,w::vs,i+1,m,nd,h1,h2,hk=>by
  show Jj7 kindOf ((p,w)::P.zip vs) m x=_;unfold Jj7;exact Zb0 (i:=i) (Gy.mp nd).2 (by simpa using h1) (by simpa using h2) hk
theorem Zb2{kindOf:Str->Option E2}{x:Str}{v:Value}:∀{P:List Str}{vs:List Value}{i:Nat}{m:Str->Option Value},P.Nodup->P[i]?=some x->vs[i]?=some v->kindOf x≠some .local ->
  Jj8 kindOf (P.zip vs) m x=some v
 |[],_,_,_,_,h,_,_=>by simp at h
 |_::_,[],_,_,_,_,h,_=>by simp at h
 |p::P,w::vs,0,m,nd,h1,h2,hk=>by
  simp at h1 h2;subst h1;subst h2;show Jj8 kindOf ((p,w)::P.zip vs) m p=_;unfold Jj8;rw[Zb1 λv hv=>(Gy.mp nd).1 (Lz hv).1,Dd hk];simp
 |p::P,w::vs,i+1,m,nd,h1,h2,hk=>by
  show Jj8 kindOf ((p,w)::P.zip vs) m x=_;unfold Jj8;exact Zb2 (i:=i) (Gy.mp nd).2 (by simpa using h1) (by simpa using h2) hk
def U6(N:List Str)(vs:List V):St:=vs.map some++Ck (N.length-vs.length) none
def cxOf(CX:CXT)(P:Ew)(w:C0)(K:Cm)(mg:Str->Option Value)(base:Heap)(N:List Str)(qual:Str)(scope:Scope)(f:Addr)(cd:Value)(A:K2)(outer:List Env)(s:Ca)(H:Hp)(E:XK):Cx where
 prog:=P
 w:=w
 K:=K
 mg:=mg
 base:=base
 A:=A.deeper (Kd qual scope s.heap.objs.size f cd)
 N:=N
 s₀:=s
 H₀:=H
 env:=Kd qual scope s.heap.objs.size f cd
 outer:=outer
 stack:=Kd qual scope s.heap.objs.size f cd::outer
 ex:=[]
 calm:=true
 fn:=λ_=>true
 pn:=[]
 xe:=λe s'=>Cc (Ch P w) (A.deeper (Kd qual scope s.heap.objs.size f cd)) (Jj9 (Kd qual scope s.heap.objs.size f cd) e) (λ_ s''=>CX outer H s E e s'') (λe' s''=>CX outer H s E e' s'') s'
def Ze9{sc:Scope}{n:Nat}{x:Str}(h:sc.names.lookup x=some .cell):∃c,(Jjo n sc.names []).lookup x=some c:=by
 let q:=Jgw sc.names n [] (.inl h);exact Option.isSome_iff_exists.mp q
theorem Zbd{w:C0}{base:Heap}{scope:Scope}{f:Addr}{cd:Value}{outer:List Env}{s1:Ca}{E:XK}(S:FnScope N ps scope)(hd:A.handled=none)(e0:Env0 P w K mg base A outer s H)(hl:vs.length=ps.length)(r:Vals vs us)(x:InCallC s s.heap.objs.size (Jj7 (Kd qual scope s.heap.objs.size f cd).kindOf (ps.zip us) λ_=>none) (Jjo (s.heap.objs.size+1) scope.names []) (Jj8 (Kd qual scope s.heap.objs.size f cd).kindOf (ps.zip us) λ_=>none) s1) :
  Inv (cxOf CX P w K mg base N qual scope f cd A outer s H E) [] (U6 N vs) H s1:=by
 let hpl:ps.length<=N.length:=by have:=congrArg Ez S.pre;rw[Ji]at this;lia
 let⟨h1,tk,rfl,hk⟩:=x.done;let noA:∀b:Addr,b∉(cxOf CX P w K mg base N qual scope f cd A outer s H E).ex:=λb z=>absurd (show b∈([]:List Addr)from z) (by simp);refine⟨⟨e0.mod,S.kind,rfl,rfl,Jd _,λy z c h1 h2=>?_,λy hy=>?_,λy c _ h=>?_,λ_=>hd,K2.frames_deeper e0.frames,.inr ⟨rfl,rfl⟩,λb z=>absurd z (noA b),e0.bs,e0.bsz,λb _ _=>noA b,λb z=>absurd z (noA b),e0.funs,e0.frf⟩,
  rfl,e0.bare,Un.kept hk,⟨_,x.toInCall.ns,λi y v h1 h2 h3=>?_⟩,λy c h=>⟨_,x.cell y c h⟩,e0.hok.fresh (Jd _),λy c h=>?_,λp hp=>absurd (show p∈([]:List (Addr×Obj))from hp) (by simp),e0.hok.kept hk,?_⟩
 .exact name_of_addr x.apart (Hh h1) (Hh h2)
 .let hy:scope.names.lookup y=some .cell\/scope.names.lookup y=some .free:=hy;rcases hy with hy|hy
  .exact Ze9 hy
  .exact absurd rfl (S.nofree _ (Hh hy))
 .exact B3 (x.above y c (Hh h))
 .let hi:i<vs.length:=by
   unfold U6 at h2
   by_cases hi:i<vs.length
   .exact hi
   .rw[J9 (by simpa using hi)]at h2;rw[Jb8]at h2
    split at h2<;>cases h2
  let ha:vs[i]?=some v:=by
   unfold U6 at h2;rw[Jq (by simpa using hi),Jx]at h2;cases e:vs[i]? with
   |none=>rw[e]at h2;cases h2
   |some a=>rw[e]at h2;cases h2;rfl
  let⟨u,hu,rv⟩:=r.get ha;let hp:ps[i]?=some y:=by
   rw[<-S.pre,Ja2 ()];exact h1
  let ndP:ps.Nodup:=by rw[<-S.pre];exact S.nd.sublist (Fn _ _)
  exists u,rv,?_;rcases S.par y (Gr hp)with k|k
  .exact .inl ⟨k,Zb0 ndP hp hu k⟩
  .let⟨c,e⟩:=Ze9 (n:=s.heap.objs.size+1) k;refine .inr ⟨.inl k,c,e,?_⟩;let q:=x.cell y c e;rw[Zb2 ndP hp hu (by show scope.names.lookup y≠_;rw[k];decide)]at q;exact q
 .exact e0.hok.fresh (B3 (x.above y c (Hh h)))
 .unfold U6;show _=N.length;rw[Jc,Ja,List.length_replicate];lia
theorem Zqd{w:C0}{base:Heap}{k:Nat}{f:Addr}{params:Arguments}{scope:Scope}{dV kV doc cdv ct oc:Value}{an od:Option Addr}{osl:Array (Option Value)}{N ps:List Str}{sp:Sp}(lk:K.lookup f=some ⟨oc,od,.func (Jer name qual params body scope dV kV doc pm an cdv ct),osl⟩)(hcd:Jfd K cdv qual=true)(S:FnScope N ps scope)(len:∀vs H Q E,sp vs H Q E->vs.length=ps.length)(hbody:∀(A:K2)(outer:List Env)(s:Ca)(H:Hp)(vs:List V)(Q:VK)(E:XK),Room k (A.deeper (Kd qual scope s.heap.objs.size f cdv))->sp vs H Q E ->
   ∃t,PSs (cxOf CX P w K mg base N qual scope f cdv A outer s H E) body t/\t {nx:=λ_ H'=>Q .non H',rt:=Q} (U6 N vs) H) :
  FnOk P w K mg base CX (k+1) f (Jer name qual params body scope dV kV doc pm an cdv ct) ps sp:=by
 refine⟨len,λA outer s H args us vs Q E hr e0 hb r hsp=>?_⟩;let hl:=len _ _ _ _ hsp;let KX:K.In s.heap:=e0.mod.kin.keeps λb o e=>(e0.bs b o e).1;let lim:s.heap.NoLimit:=e0.mod.nolimit.keeps λb o e=>(e0.bs b o e).1;let hkind:∀y∈ps.zip us,scope.names.lookup y.1=some .local\/(scope.names.lookup y.1=some .cell/\((Jjo (s.heap.objs.size+1) scope.names []).lookup y.1).isSome=true):=λ⟨n,v⟩hy=>by
  rcases S.par n (Lz hy).1 with q|q
  .exact .inl q
  .exact .inr ⟨q,Jgw _ _ _ (.inl q)⟩
 refine codeAny_call_function hr.depth (KX _ _ lk) rfl S.co S.gen rfl (W.codeRec_of KX hcd) (hb _ _ _ _ ?_);refine Me S.kind hkind λenv he s1 x=>?_;subst he;refine⟨lim.keeps x.toInCall.keep,codeAny_func ?_⟩;let⟨t,ht,hq⟩:=hbody A outer s H vs Q E (hr.deeper _) hsp;let I:Inv (cxOf CX P w K mg base N qual scope f cdv A outer s H E) [] (U6 N vs) H s1:=Zbd S hr.hd e0 hl r x;refine Dj (ht [] s1 (U6 N vs) H _ I hq) (λfl s' hs=>?_) λe s' hs=>hs;let fin:∀{σ':St}{H':Hp}{v:V}{u:Value},Inv (cxOf CX P w K mg base N qual scope f cdv A outer s H E) [] σ' H' s'->RelV v u->Q v H'->CE outer P w H s Q u s' :=
  λ{σ' H' v u}J rv q=>⟨v,H',J.os,J.bare,J.base,J.hok,rv,q⟩
 cases fl with
 |ret u =>
  let⟨v,σ',H',J,rv,q⟩:=hs;exact fin J rv q
 |next =>
  let⟨σ',H',J,q⟩:=hs;exact fin (v:=V.non) (u:=Value.none) J rfl q
 |brk =>
  let⟨_,_,_,q⟩:=hs;exact Cq q
 |cont =>
  let⟨_,_,_,q⟩:=hs;exact Cq q
section
variable{x:Str}{p:Pos}{e:Expr}{t:TA}{id T:String}{r:List V->Hp->VK->Prop}
def tCB(r:List V->Hp->VK->Prop)(t:TA):TE:=λσ H Q=>t σ H λvs H1=>r vs H1 Q
def Zq(hc:W6 X (.builtin id) r)(hg:Gl X x)(hm:X.mg x=none)(hv:K1 x=some (.builtin id))(ha:PA X (e::es) t)(hn:x≠"__name__":=by decide)(hdb:(x==("__debug__":Str))=false:=by decide)(he:Ci (e::es) X.env=(false,eval e X.env)::Ci es X.env:=by rfl)(hpl:(Hy pos (Ci es X.env)).any (·.1)=false:=by rfl):PE X (.Call (.Name x p) (e::es) [] pos) (tCB r t):=by
 intro pq s σ H Q I h;refine Em (Ra I hg hm hv ?_ hn hdb);exact Jgn (thn (ha pos pq s σ H _ I h) λus s1⟨vs,H1,I1,r1,q1⟩=>hc pq s1 σ H1 vs us Q I1 r1 q1) he hpl
def Yh(hc:W6 X (.type T) r)(hg:Gl X x)(hm:X.mg x=none)(hv:K1 x=some (.type T))(ha:PA X (e::es) t)(hn:x≠"__name__":=by decide)(hdb:(x==("__debug__":Str))=false:=by decide)(he:Ci (e::es) X.env=(false,eval e X.env)::Ci es X.env:=by rfl)(hpl:(Hy pos (Ci es X.env)).any (·.1)=false:=by rfl):PE X (.Call (.Name x p) (e::es) [] pos) (tCB r t):=by
 intro pq s σ H Q I h;refine Em (Ra I hg hm hv ?_ hn hdb);exact El (thn (ha pos pq s σ H _ I h) λus s1⟨vs,H1,I1,r1,q1⟩=>hc pq s1 σ H1 vs us Q I1 r1 q1) he hpl
end
end L2
variable{H I H' I' H1 H2:L2.Hp}{X:L2.Cx}{σ:L2.St}{v:L2.V}{Q:L2.VK}{vs xs ys:List L2.V}{sp sp':L2.Sp}{o:L2.HO}{ta te tb to:L2.TE}{kvs:List (List L2.Key×L2.V)}{g:L2.TG}{r r':L2.R2}{wi:L2.TI}{CX:L2.CXT}
namespace HT
open PySem PyProof.Rows
def lexLt:List Int->List Int->Bool
 |[],[]=>false
 |[],_::_=>true
 |_::_,[]=>false
 |x::xs,y::ys=>if x=y then lexLt xs ys else decide (x<y)
def Ux(x y:Int)(xs ys:List Int):lexLt (x::xs) (y::ys)=if x=y then lexLt xs ys else decide (x<y):=rfl
def Nq:lexLt [] []=false:=rfl
def U4(y:Int)(ys:List Int):lexLt [] (y::ys)=true:=rfl
def W3(x:Int)(xs:List Int):lexLt (x::xs) []=false:=rfl
section
variable{w:C0} 
def cat_tup{t b:Addr}{vs ws:List Value}{Q:Value->Ca->Prop}(ht:IsTup s.heap t vs.toArray)(hb:IsTup s.heap b ws.toArray)(hv:vs≠[])(h1:ws=[]->Q (.ref t) s)(h2:ws≠[]->Q (.ref s.heap.objs.size) {s with heap:=s.heap.push {cls:=.type "tuple",data:=.seq (vs++ws).toArray} })(hsz:vs.length+ws.length<=sizeLine):Cc (Ch prog w) A (Hk .Add (.ref t) (.ref b)) Q E s:=by
 let⟨⟨cls,dd,data,sl⟩,ho,hc,n,hd⟩:=id ht;let⟨⟨cls2,dd2,data2,sl2⟩,ho2,hc2,n2,hd2⟩:=id hb;simp only at hc hd hc2 hd2;subst hc hd hc2 hd2;let e:vs.toArray++ws.toArray=(vs++ws).toArray:=by simp
 by_cases hw:ws=[]
 .exact concat_meets ⟨_,ho,rfl⟩ ⟨_,ho2,rfl⟩ Jgx seq_tuple_add Jdv Jb9 (Ja3 _ _)
   (tuple_addW1 t b vs.toArray ws.toArray n n2 dd dd2 sl sl2 (by simpa using hv) (by simp[hw])) ⟨ho,ho2,h1 hw⟩
 .refine concat_meets ⟨_,ho,rfl⟩ ⟨_,ho2,rfl⟩ Jgx seq_tuple_add Jdv Jb9 (Ja3 _ _)
   (tuple_addW2 t b vs.toArray ws.toArray n n2 dd dd2 sl sl2 (by simpa using hv) (by simpa using hw) (by rw[Jm,Jm];exact hsz)) ⟨ho,ho2,?_⟩
  rw[e];exact h2 hw
def sIx(n d:Nat):Option Int->Nat
 |none=>d
 |some v=>if v<0 then(v+(n:Int)).toNat else min v.toNat n
def sIx_none(n d:Nat):sIx n d none=d:=rfl
theorem sIx_nat(n d k:Nat):sIx n d (some (k:Int))=min k n:=by
 show(if(k:Int)<0 then((k:Int)+(n:Int)).toNat else min (k:Int).toNat n)=min k n;rw[Dd (),Fo]
theorem Zsy(n d:Nat)(hd:d<=n)(o:Option Int):sIx n d o<=n:=by
 cases o with
 |none=>exact hd
 |some v =>
  show(if v<0 then(v+(n:Int)).toNat else min v.toNat n)<=n
  by_cases hv:v<0
  .rw[De hv];lia
  .rw[Dd hv];exact Le _ _
theorem Zj7(v:Int)(n d:Nat):(if v<0 then max (v+(n:Int)) 0 else min v (n:Int))=((sIx n d (some v):Nat):Int):=by
 show(if v<0 then max (v+(n:Int)) 0 else min v (n:Int))=(((if v<0 then(v+(n:Int)).toNat else min v.toNat n):Nat):Int)
 by_cases hv:v<0
 .simp only[De hv];lia
 .simp only[Dd hv];lia
theorem Zgb(lo hi:Option Int)(n:Nat):Kb lo hi 1 (n:Int)=(((sIx n 0 lo:Nat):Int),((sIx n n hi:Nat):Int)):=by
 let h1:¬ ((1:Int)<0):=by lia
 unfold Kb;simp only[h1,if_false];refine Prod.ext ?_ ?_
 .cases lo with
  |none=>rfl
  |some v=>exact Zj7 v n 0
 .cases hi with
  |none=>rfl
  |some v=>exact Zj7 v n n
theorem Zfq(i j:Nat):E7 (i:Int) (j:Int) 1=j-i:=by
 unfold E7;let h1:(1:Int) > 0:=by lia
 simp only[h1,if_true,Int.ediv_one]
 split<;>lia
theorem Ps{v:Value}{o:Option Int}{Q:Option Int->Ca->Prop}(p:Jfe v o)(h:Q o s):Cc (Ch prog w) A (Jhc v) Q E s:=by
 cases p with
 |none=>exact slicePart_none h
 |int i t=>exact slicePart_int h
def sliceApplied_gen{sl:Addr}{vl vu:Value}{n:Nat}{Q:Int×Int×Nat->Ca->Prop}(hs:s.heap.IsSliceOf sl vl vu .none)(pl:Jfe vl lo)(pu:Jfe vu hi)(h:Q (((sIx n 0 lo:Nat):Int),1,sIx n n hi-sIx n 0 lo) s):Cc (Ch prog w) A (Mf (.ref sl) (pure (n:Int))) Q E s:=by
 let⟨os,hos,hcs,hds⟩:=id hs;unfold Mf Jia;refine F7 (F7 (Kx hos hds (x:=vl) rfl (F7 (Kx hos hds (x:=vu) rfl (F7 (Kx hos hds (x:=.none) rfl (F8 ?_)))))));refine F7 (slicePart_none ?_);show Cc _ _ (if((1:Int)==0)=true then _ else _) _ _ s;rw[Dd nofun];refine F7 (Ps pl (F7 (Ps pu (F7 (F8 ?_)))));show Cc _ _ (match Kb lo hi 1 (n:Int)with|(lo,hi)=>pure (lo,(1:Int),E7 lo hi 1)) _ _ s;rw[Zgb lo hi n];show Cc _ _ (pure (((sIx n 0 lo:Nat):Int),(1:Int),E7 ((sIx n 0 lo:Nat):Int) ((sIx n n hi:Nat):Int) 1)) _ _ s
 rw[Zfq];exact F8 h
theorem Zlt(xs:Array Value)(i k:Nat):((Eb k).filterMap λ(m:Nat)=>xs[((i:Int)+(m:Int)*1).toNat]?).toArray=((xs.toList.drop i).take k).toArray:=by
 let e:(λ(m:Nat)=>xs[((i:Int)+(m:Int)*1).toNat]?)=λm=>xs[i+m]?:=by
  funext m
  let:((i:Int)+(m:Int)*1).toNat=i+m:=by lia
  rw[this]
 rw[e];let:=pick_run xs i k;rw[List.filterMap_map]at this;let e2:((λx=>xs[x]?) ∘ λx=>i+x)=λm=>xs[i+m]?:=rfl;rw[e2]at this;rw[this]
theorem getItem_tuple_cut{t sl:Addr}{items:Array Value}{vl vu:Value}{Q:Value->Ca->Prop}(ht:IsTup s.heap t items)(hs:s.heap.IsSliceOf sl vl vu .none)(pl:Jfe vl lo)(pu:Jfe vu hi)(hw:¬ (sIx items.size 0 lo=0/\sIx items.size items.size hi=items.size))(h:Q (.ref s.heap.objs.size) {s with heap:=s.heap.push {cls:=.type "tuple",data:=.seq ((items.toList.drop (sIx items.size 0 lo)).take (sIx items.size items.size hi-sIx items.size 0 lo)).toArray} })(hsz:items.size<=sizeLine):Cc (Ch prog w) A (Lv (.ref t) (.ref sl)) Q E s:=by
 let htake:sizeOk (.seq ((items.toList.drop (sIx items.size 0 lo)).take (sIx items.size items.size hi-sIx items.size 0 lo)).toArray):=by
  show((items.toList.drop (sIx items.size 0 lo)).take (sIx items.size items.size hi-sIx items.size 0 lo)).toArray.size<=sizeLine;rw[Jm,Ji,Ge,Bs];lia
 let hj:sIx items.size items.size hi<=items.size:=Zsy _ _ (Jd _) hi;let⟨os,hos,hcs,hds⟩:=id hs;let hTs:s.TypeIs (.ref sl) "slice":=⟨os,hos,hcs⟩;unfold Lv
 try with_reducible refine C9 ?_
 first|refine F7 (F8 ?_)|skip
 refine F7 (Jf1 ht.typeIs nofun ?_);refine F7 (Jc0 (name:=Cv "__getitem__") ht.typeIs C3
  (Lf C3 ht.typeIs Jew ?_ (Jff _ _)))
 show Cc _ _ (Mg (.ref t) >>= _) _ _ s;refine F7 (tupleItemsOf_ ht ?_);refine F7 (Kg hTs ?_);rw[De nofun];refine F7 (sliceApplied_gen hs pl pu ?_);let hno:¬ ((((sIx items.size 0 lo:Nat):Int)==0&&(1:Int)==1&&(sIx items.size items.size hi-sIx items.size 0 lo)==items.size)=true):=by
  intro q;rw[Bu,Bu]at q;let q1:((sIx items.size 0 lo:Nat):Int)=0:=eq_of_beq q.1.1;let q2:sIx items.size items.size hi-sIx items.size 0 lo=items.size:=eq_of_beq q.2;exact hw ⟨(),()⟩
 show Cc _ _ (if(((sIx items.size 0 lo:Nat):Int)==0&&(1:Int)==1&&(sIx items.size items.size hi-sIx items.size 0 lo)==items.size)=true then _ else _) _ _ s;rw[Dd hno,Zlt]
 first
  |exact F7 (m:=Ha _) (Hb (F8 ⟨_,rfl,F8 h⟩) htake)
  |exact F7 (m:=Ha _) (Hb (F7 (F8 (F8 ⟨_,rfl,F8 h⟩))) htake)
  |exact F7 (F7 (m:=Ha _) (Hb (F8 (F8 ⟨_,rfl,F8 h⟩)) htake))
  |exact F7 (F7 (m:=Ha _) (Hb (F8 ⟨_,rfl,F8 h⟩) htake))
end
end HT
namespace L2
open PySem PySem.Spec PyProof.Rows
abbrev TO:=St->Hp->(Option Int->Hp->Prop)->Prop
def PO(X:Cx)(e:Option Expr)(t:TO):Prop :=
 ∀(pq:List (Addr×Obj))(s:Ca)(σ:St)(H:Hp)(Q:Option Int->Hp->Prop),Inv X pq σ H s->t σ H Q ->
  Cc (Ch X.prog X.w) X.A (evalPart e X.env) (λu s'=>∃o H',Inv X pq σ H' s'/\Jfe u o/\Q o H') X.xe s
def Zgy:TO:=λ_ H Q=>Q none H
def Zr4(t:TE):TO:=λσ H Q=>t σ H λx H1=>∃i,x=.int i/\Q (some i) H1
section
variable{e:Expr}{lo hi:Option Expr}{tl th:TO}{p2:Pos}
def Yu:PO X none Zgy:=by
 intro pq s σ H Q I h;rw[Jfg];exact F8 ⟨none,H,I,.none,h⟩
def Yb(h:PE X e te):PO X (some e) (Zr4 te):=by
 intro pq s σ H Q I hw;rw[evalPart_some];refine thn (h pq s σ H _ I hw) λu s1 hz=>?_;let⟨x,H1,I1,r1,q1⟩:=hz;let⟨i,rfl,q⟩:=q1;let⟨t,rfl⟩:=r1;exists some i,H1,I1,.int i t,q
def SlR(X:Cx)(r:V->Option Int->Option Int->Hp->VK->Prop):Prop :=
 ∀(pq:List (Addr×Obj))(s:Ca)(σ:St)(H:Hp)(x:V)(v vl vu:Value)(lo hi:Option Int)(sl:Addr)(Q:VK),Inv X pq σ H s->RelV x v->s.heap.IsSliceOf sl vl vu .none->Jfe vl lo->Jfe vu hi->r x lo hi H Q ->
  ∃T id,Jeh (.type T) "__getitem__"=pure (some (.builtin id))/\s.TypeIs v T/\Cc (Ch X.prog X.w) X.A (Lv v (.ref sl)) (EP X pq σ Q) X.xe s
def tSl(r:V->Option Int->Option Int->Hp->VK->Prop)(te:TE)(tl th:TO):TE:=λσ H Q=>te σ H λx H1=>tl σ H1 λl H2=>th σ H2 λu H3=>r x l u H3 Q
def Ya{r:V->Option Int->Option Int->Hp->VK->Prop}(hr:SlR X r)(he:PE X e te)(hl:PO X lo tl)(hu:PO X hi th):PE X (.Subscript e (.Slice lo hi none p2) pos) (tSl r te tl th):=by
 intro pq s σ H Q I h;refine Jf2 (thn (he pq s σ H _ I h) λv s1 hz=>?_);let⟨x,H1,I1,r1,q1⟩:=hz;refine wpAny_Slice (thn (hl pq s1 σ H1 _ I1 q1) λvl s2⟨l,H2,I2,pl,q2⟩=>thn (hu pq s2 σ H2 _ I2 q2) λvu s3 hz=>?_);let⟨u,H3,I3,pu,q3⟩:=hz;rw[Jfg];refine F8 ?_;let I4:Inv X pq σ H3 {s3 with heap:=s3.heap.push {cls:=.type "slice",data:=.fields #[vl,vu,.none]} }:=I3.kept (t':=s3.toks) λb ob q=>F9 _ q;let⟨T,id,hT,ht,hg⟩:=hr pq {s3 with heap:=s3.heap.push {cls:=.type "slice",data:=.fields #[vl,vu,.none]} } σ H3 x v vl vu l u s3.heap.objs.size Q I4 r1 (Jfh ..) pl pu q3
 show Cc (Ch X.prog X.w) X.A (Jc1 e (.Slice lo hi none p2) v (.ref s3.heap.objs.size)) (EP X pq σ Q) X.xe {s3 with heap:=s3.heap.push {cls:=.type "slice",data:=.fields #[vl,vu,.none]} };exact tail_any (ops:=[.ref s3.heap.objs.size,v]) ht hT hg (by with_unfolding_all rfl)
def cutV(xs:List V)(lo hi:Option Int):List V:=(xs.drop (HT.sIx xs.length 0 lo)).take (HT.sIx xs.length xs.length hi-HT.sIx xs.length 0 lo)
theorem Tc(xs:List V)(lo hi:Option Int):(cutV xs lo hi).length<=xs.length:=by
 unfold cutV;rw[Ji,Ge];lia
def rSlT(K:Cm):V->Option Int->Option Int->Hp->VK->Prop:=λx lo hi H Q=>∃a xs,x=.ref a/\SqT K H a xs /\
 ¬ (HT.sIx xs.length 0 lo=0/\HT.sIx xs.length xs.length hi=xs.length)/\∀p,H p=none->Q (.ref p) (upd H p (.tup (cutV xs lo hi)))
def Zse:SlR X (rSlT X.K):=by
 intro pq s σ H x v vl vu lo hi sl Q I rx hs pl pu h;let⟨a,xs,rfl,hx,hw,q⟩:=h;cases rx;let⟨its,r,ht,hz⟩:=I.tuple hx;let hlen:its.toArray.size=xs.length:=by rw[Jm];exact r.length.symm
 exists "tuple",_,C3.lookup,ht.typeIs,?_;refine HT.getItem_tuple_cut ht hs pl pu (by rw[hlen];exact hw) ?_ (by rw[hlen];exact hz);rw[hlen];exists .ref s.heap.objs.size,_,I.laid (t':=s.toks) (o:=.tup (cutV xs lo hi)) (λb ob q=>F9 _ q) (Jd _) ?_,rfl,q _ (I.hok.fresh (Jd _));exists J8 (Tc xs lo hi) hz,_,(r.drop (HT.sIx xs.length 0 lo)).take (HT.sIx xs.length xs.length hi-HT.sIx xs.length 0 lo),Ui.new _ _
def Zo7(K:Cm):R2:=λx y H Q=>∃a b xs ys,x=.ref a/\y=.ref b/\SqT K H a xs/\SqT K H b ys/\xs≠[]/\xs.length+ys.length<=sizeLine /\
 (ys=[]->Q (.ref a) H)/\(ys≠[]->∀p,H p=none->Q (.ref p) (upd H p (.tup (xs++ys))))
theorem Vals.nil_iff(r:Vals xs us):us=[]↔xs=[]:=by
 cases r with
 |nil=>simp
 |cons _ _=>simp
def Zie:OpR X (Hk .Add) (Zo7 X.K):=by
 intro pq s σ H x y v u Q I rx ry h;let⟨a,b,xs,ys,rfl,rfl,ha,hb,hx,hz,q1,q2⟩:=h;cases rx;cases ry;let⟨its,r1,p1,_⟩:=I.tuple ha;let⟨its2,r2,p2,_⟩:=I.tuple hb;refine HT.cat_tup p1 p2 (λz=>hx (r1.nil_iff.mp z)) (λz=>⟨.ref a,H,I,rfl,q1 (r2.nil_iff.mp z)⟩) (λz=>?_) (by rw[<-r1.length,<-r2.length];exact hz);exists .ref s.heap.objs.size,_,I.laid (t':=s.toks) (o:=.tup (xs++ys)) (λb ob q=>F9 _ q) (Jd _) ?_,rfl,q2 (λw=>z (r2.nil_iff.mpr w)) _ (I.hok.fresh (Jd _));exists by rw[Jc];exact hz,_,r1.append r2,Ui.new _ _
end
def ixN(n:Nat)(i:Int):Option Nat:=if 0<=i then(if i<n then some i.toNat else none)else if -(n:Int)<=i then some (i+n).toNat else none
def atI{α:Type}(xs:List α)(i:Int):Option α:=(ixN xs.length i).bind λj=>xs[j]?
theorem Zi2{n:Nat}{i:Int}(h:ixN n i=some j):seqIndex? i n=some j/\j<n/\-(n:Int)<=i/\i<n:=by
 unfold ixN at h
 by_cases h0:0<=i
 .rw[De h0]at h
  by_cases h1:i<n
  .rw[De h1]at h;let e:i.toNat=j:=Dh h;exists by rw[Jhj h0 h1,e],(),(),h1
  .rw[Dd h1]at h;cases h
 .rw[Dd h0]at h
  by_cases h1:-(n:Int)<=i
  .rw[De h1]at h;let e:(i+n).toNat=j:=Dh h;exact⟨by rw[Jgo () h1,e],(),h1,()⟩
  .rw[Dd h1]at h;cases h
theorem Zdo{α:Type}{xs:List α}{i:Int}{v:α}(h:atI xs i=some v):∃j,seqIndex? i xs.length=some j/\xs[j]?=some v/\j<xs.length/\-(xs.length:Int)<=i/\i<xs.length:=by
 unfold atI at h;cases e:ixN xs.length i with
 |none=>rw[e]at h;cases h
 |some j =>
  rw[e]at h;let⟨h1,h2,h3,h4⟩:=Zi2 e;exists j,h1,h,h2,h3,h4
theorem Sl{α:Type}{xs:List α}{v:α}(h:xs[j]?=some v):atI xs (j:Int)=some v:=by
 let hj:j<xs.length:=(Je.mp h).1;let e:ixN xs.length (j:Int)=some j:=by
  unfold ixN;rw[De (),De ()];simp
 unfold atI;rw[e];exact h
def Zq4(b:Expr):Prop:=∀o i,Jc2 b false o i=Jka [o,i] (Lv o i)
def IxR(X:Cx)(r:R2):Prop :=
 ∀(value slice:Expr)(pq:List (Addr×Obj))(s:Ca)(σ:St)(H:Hp)(x y:V)(v u:Value)(Q:VK),Inv X pq σ H s->RelV x v->RelV y u->r x y H Q ->
  Jc2 slice false v u=Jka [v,u] (Lv v u)->Cc (Ch X.prog X.w) X.A (Jc1 value slice v u) (EP X pq σ Q) X.xe s
def MtR(X:Cx)(id:String)(r:V->List V->Hp->VK->Prop):Prop :=
 ∀(pq:List (Addr×Obj))(s:Ca)(σ:St)(H:Hp)(x:V)(xs:List V)(v:Value)(us:List Value)(Q:VK),Inv X pq σ H s->RelV x v->Vals xs us->r x xs H Q ->
  Cc (Ch X.prog X.w) X.A (call (.builtin id) (v::us)) (EP X pq σ Q) X.xe s
section
variable{a b:Expr} 
def IxR.or(h:IxR X r)(h':IxR X r'):IxR X (λx y H Q=>r x y H Q\/r' x y H Q):=by
 intro value slice pq s σ H x y v u Q I rx ry q hs;rcases q with q|q
 .exact h value slice pq s σ H x y v u Q I rx ry q hs
 .exact h' value slice pq s σ H x y v u Q I rx ry q hs
def Z1(hr:IxR X r)(ha:PE X a ta)(hb:PE X b tb)(hs:Zq4 b):PE X (.Subscript a b pos) (tOp r ta tb):=by
 intro pq s σ H Q I h;exact Jf2 (binT ha hb I h λv u s2 x y H2 I2 rx ry q=>hr a b pq s2 σ H2 x y v u Q I2 rx ry q (hs _ _))
def rIxL(K:Cm):R2:=λx y H Q=>∃p xs i v,x=.ref p/\y=.int i/\SqL K H p xs/\atI xs i=some v/\Q v H
def rIxT(K:Cm):R2:=λx y H Q=>∃p xs i v,x=.ref p/\y=.int i/\SqT K H p xs/\atI xs i=some v/\Q v H
def rIxS:R2:=λx y H Q=>∃z i c,x=.str z/\y=.int i/\z.length<=sizeLine/\atI z.cps.toList i=some c/\Q (.str ⟨#[c]⟩) H
theorem Xb:IxR X (rIxL X.K):=by
 intro value slice pq s σ H x y v u Q I rx ry h hs;let⟨p,xs,i,z,rfl,rfl,hq,he,q⟩:=h;cases rx;let⟨t,rfl⟩:=ry;let⟨its,r,pl,hz⟩:=I.list hq;let⟨j,h1,h2,h3,h4,h5⟩:=Zdo he;let⟨w,ew,rw'⟩:=r.get h2;let hl:=r.length;let hn:=Pz;let fin:EP X pq σ Q w s:=⟨z,H,I,rw',q⟩
 by_cases h0:0<=i
 .let hj:i.toNat=j:=by
   rw[Jhj h0 h5]at h1;exact Dh h1
  exact item_listR pl.isList h0 () (by rw[hj];simpa using ew) fin hs
 .let hj:(i+(its.toArray.size:Int)).toNat=j:=by
   rw[Jgo () h4]at h1;rw[Jm,<-hl];exact Dh h1
  exact Jdw (x:=w) pl.isList.typeIs slot_list_getitem.lookup
   (wpAny_getItem_list_neg (Q:=λr s'=>r=w/\EP X pq σ Q r s') pl.isList () (by rw[Jm]<;>lia) () (by rw[hj];simpa using ew) ⟨rfl,fin⟩) hs
theorem Ts:IxR X (rIxT X.K):=by
 intro value slice pq s σ H x y v u Q I rx ry h hs;let⟨p,xs,i,z,rfl,rfl,hq,he,q⟩:=h;cases rx;let⟨t,rfl⟩:=ry;let⟨its,r,pl,hz⟩:=I.tuple hq;let⟨j,h1,h2,h3,h4,h5⟩:=Zdo he;let⟨w,ew,rw'⟩:=r.get h2;let hl:=r.length;let hn:=Pz;let fin:EP X pq σ Q w s:=⟨z,H,I,rw',q⟩;exact Jdw (x:=w) pl.typeIs slot_tuple_getitem.lookup
  (getItem_tuple (j:=j) (Q:=λr s'=>r=w/\EP X pq σ Q r s') pl () () (by rw[Jm,<-hl];exact h1) (by simpa using ew) ⟨rfl,fin⟩) hs
theorem Ztv:IxR X rIxS:=by
 intro value slice pq s σ H x y v u Q I rx ry h hs;let⟨z,i,c,rfl,rfl,hz,he,q⟩:=h;let⟨t,rfl⟩:=rx;let⟨t',rfl⟩:=ry;let⟨j,h1,h2,h3,h4,h5⟩:=Zdo he;let hl:z.cps.toList.length=z.length:=by simp[Str.length]
 rw[hl]at h1 h4 h5;let hn:=Pz;exact tail_any (Jiq s z t) slot_str_getitem.lookup (getItem_str (c:=c) (by
  let e1:decide (i < -(2 ^ 63:Int))=false:=Dg ();let e2:decide (i≥2 ^ 63)=false:=Dg ();rw[e1,e2,Bool.or_false]) (by rw[h1];simpa using h2) ⟨.str ⟨#[c]⟩,H,I.tok _,⟨_,rfl⟩,q⟩) hs
def rIx(K:Cm):R2:=λx y H Q=>rIxL K x y H Q\/rIxT K x y H Q\/rIxS x y H Q
def Ztw:IxR X (rIx X.K):=Xb.or (Ts.or Ztv)
def Zfx(its:List Value)(n j:Nat)(u:Value):C2 (·.setIfInBounds j u) {cls:=.type "list",data:=.seq its.toArray n}={cls:=.type "list",data:=.seq (its.set j u).toArray n}:=by
 simp[C2]
def Inv.lst{pq:List (Addr×Obj)}{σ:St}{H:Hp}{s:Ca}{p:Addr}{xs:List V}(I:Inv X pq σ H s)(h:H p=some (.lst xs)) :
  ∃(its:List Value)(n:Nat),Vals xs its/\s.heap.get? p=some {cls:=.type "list",data:=.seq its.toArray n}/\xs.length<=sizeLine:=by
 let⟨z,its,n,r,e⟩:=I.hok p _ h;exists its,n,r,e,z
def Inv.lstUpd{p:Addr}{its':List Value}{n n':Nat}{f:Obj->Obj}(I:Inv X pq σ H s)(h:H p=some (.lst xs))(ho:s.heap.get? p=some {cls:=.type "list",data:=.seq its.toArray n})(hf:f {cls:=.type "list",data:=.seq its.toArray n}={cls:=.type "list",data:=.seq its'.toArray n'})(r:Vals ys its')(hz:ys.length<=sizeLine)(t:Nat) :
  Inv X pq σ (upd H p (.lst ys)) {s with heap:=s.heap.update p f,toks:=t}:=by
 let e:(s.heap.update p f).get? p=some {cls:=.type "list",data:=.seq its'.toArray n'}:=by
  rw[Er f ho (by rw[hf]<;>rfl),hf]
 refine I.write (x:=p) (e:=p) (by rw[h];trivial) (.inl rfl) (λb u hb q=>(Ct _ _ (Cw hb)).trans q) ⟨_,e⟩ ?_;exists hz,its',n',r,e
def Zs1:V->V->V->Hp->(Hp->Prop)->Prop:=λo i v H Q=>∃p xs k j,o=.ref p/\i=.int k/\H p=some (.lst xs)/\ixN xs.length k=some j/\Q (upd H p (.lst (xs.set j v)))
theorem Rp:PSet X Zs1:=by
 intro pq s σ H o i v ov iv u Q I ro ri rv h;let⟨p,xs,k,j,rfl,rfl,hp,hj,q⟩:=h;cases ro;let⟨t,rfl⟩:=ri;let⟨its,n,r,ho,hz⟩:=I.lst hp;let⟨h1,h2,h3,h4⟩:=Zi2 hj;let hl:=r.length;let hn:=Pz;let I':Inv X pq σ (upd H p (.lst (xs.set j v))) {s with heap:=s.heap.update p (C2 (·.setIfInBounds j u))} :=
  I.lstUpd hp ho (Zfx its n j u) (r.set rv j) (by rw[Go];exact hz) s.toks
 by_cases h0:0<=k
 .let hk:k.toNat=j:=by
   rw[Jhj h0 h4]at h1;exact Dh h1
  exact W.ki_setAt ho h0 () (by rw[Jm,<-hl];exact h4) (by rw[hk];exact⟨_,I',q⟩)
 .let hk:(k+(its.toArray.size:Int)).toNat=j:=by
   rw[Jgo () h3]at h1;rw[Jm,<-hl];exact Dh h1
  exact W.ki_setBack ho () (by rw[Jm,<-hl];exact h3) () (by rw[hk];exact⟨_,I',q⟩)
theorem Zap(lo hi:Option Int)(n:Nat):(Ky lo hi none n).1=((HT.sIx n 0 lo:Nat):Int)/\(Ky lo hi none n).2.1=((HT.sIx n n hi:Nat):Int)/\(Ky lo hi none n).2.2=1:=by
 exists ?_,?_,rfl
 .cases lo with
  |none=>simp[Ky,HT.sIx]
  |some i =>
   simp only[Ky,HT.sIx,Jgy,show(1:Int) > 0 by decide,if_true]
   by_cases h:i<0
   .simp only[h,if_true]<;>lia
   .simp only[h,if_false]<;>lia
 .cases hi with
  |none=>simp[Ky,HT.sIx]
  |some i =>
   simp only[Ky,HT.sIx,Jgy,show(1:Int) > 0 by decide,if_true]
   by_cases h:i<0
   .simp only[h,if_true]<;>lia
   .simp only[h,if_false]<;>lia
def Nc(its:List Value)(lo hi:Option Int):slicePick its.toArray lo hi none=((its.drop (HT.sIx its.length 0 lo)).take (HT.sIx its.length its.length hi-HT.sIx its.length 0 lo)).toArray:=by
 let⟨h1,h2,h3⟩:=Zap lo hi its.toArray.size;unfold slicePick;rw[h1,h2,h3];simp only[sliceRange_one,pick_run,Jm]<;>rfl
def rSlL(K:Cm):V->Option Int->Option Int->Hp->VK->Prop:=λx lo hi H Q=>∃a xs,x=.ref a/\SqL K H a xs/\∀p,H p=none->Q (.ref p) (upd H p (.lst (cutV xs lo hi)))
theorem Wh:SlR X (rSlL X.K):=by
 intro pq s σ H x v vl vu lo hi sl Q I rx hs pl pu h;let⟨a,xs,rfl,hx,q⟩:=h;cases rx;let⟨its,r,ht,hz⟩:=I.list hx;let hlen:=r.length;refine⟨"list",_,slot_list_getitem.lookup,ht.isList.typeIs,?_⟩;refine Ja4 ht.isList hs pl pu .none (by simp) ?_ (by rw[Jm]<;>lia);rw[Nc,<-hlen];refine⟨.ref s.heap.objs.size,_,I.laid (t':=s.toks) (o:=.lst (cutV xs lo hi)) (λb ob q=>F9 _ q) (Jd _) ?_,rfl,q _ (I.hok.fresh (Jd _))⟩;exact⟨J8 (Tc xs lo hi) hz,_,0,(r.drop (HT.sIx xs.length 0 lo)).take (HT.sIx xs.length xs.length hi-HT.sIx xs.length 0 lo),Da _ rfl⟩
def N6:V->Bool
 |.non=>true
 |.bl _=>true
 |.int _=>true
 |.str _=>true
 |_=>false
def eqV:V->V->Bool
 |.non,.non=>true
 |.bl a,.bl b=>a==b
 |.bl a,.int b=>(if a then 1 else 0)==b
 |.int a,.bl b=>a==(if b then 1 else 0)
 |.int a,.int b=>a==b
 |.str a,.str b=>a==b
 |_,_=>false
theorem Zua{y x:V}{u v:Value}(ry:RelV y u)(rx:RelV x v)(fy:N6 y=true)(fx:N6 x=true):Ed A s u v (eqV y x):=by
 cases y with
 |non =>
  cases ry;cases x with
  |non=>cases rx;exact Ed.same _
  |bl b=>cases rx;exact Ed.none_bool b
  |int b=>obtain⟨t,rfl⟩:=rx;exact Ed.none_int b t
  |str b=>obtain⟨t,rfl⟩:=rx;exact Ed.none_str b t
  |_=>exact absurd (show false=true from fx) Jr
 |bl a =>
  cases ry;cases x with
  |non=>cases rx;exact Ed.bool_none a
  |bl b=>cases rx;exact Ed.bool_bool a b
  |int b=>obtain⟨t,rfl⟩:=rx;exact Ed.bool_int a b t
  |str b=>obtain⟨t,rfl⟩:=rx;exact Ed.bool_str a b t
  |_=>exact absurd (show false=true from fx) Jr
 |int a =>
  let⟨t',rfl⟩:=ry;cases x with
  |non=>cases rx;exact Ed.int_none a t'
  |bl b=>cases rx;exact Ed.int_bool a t' b
  |int b=>obtain⟨t,rfl⟩:=rx;exact Ed.int_int a t' b t
  |str b=>obtain⟨t,rfl⟩:=rx;exact Je4 a t' b t
  |_=>exact absurd (show false=true from fx) Jr
 |str a =>
  let⟨t',rfl⟩:=ry;cases x with
  |non=>cases rx;exact Ed.str_none a t'
  |bl b=>cases rx;exact Ed.str_bool a t' b
  |int b=>obtain⟨t,rfl⟩:=rx;exact Je5 a t' b t
  |str b=>obtain⟨t,rfl⟩:=rx;exact Jfi a t' b t
  |_=>exact absurd (show false=true from fx) Jr
 |_=>exact absurd (show false=true from fy) Jr
def eqU(x:V)(u:Value):Bool:=match u with
 |.none=>eqV .non x
 |.bool b=>eqV (.bl b) x
 |.int i _=>eqV (.int i) x
 |.str z _=>eqV (.str z) x
 |_=>false
theorem Znt{x y:V}{u:Value}(r:RelV y u)(f:N6 y=true):eqU x u=eqV y x:=by
 cases y with
 |non=>cases r;rfl
 |bl b=>cases r;rfl
 |int i=>obtain⟨t,rfl⟩:=r;rfl
 |str z=>obtain⟨t,rfl⟩:=r;rfl
 |_=>exact absurd (show false=true from f) Jr
theorem Zdp{x:V}:∀{xs:List V}{us:List Value},Vals xs us->xs.all N6=true->us.any (eqU x)=xs.any λy=>eqV y x
 |_,_,.nil,_=>rfl
 |y::xs,u::us,.cons r t,f=>by
  rw[Jjb,Bu]at f;rw[B4,B4,Znt r f.1,Zdp t f.2]
theorem Np{x:V}{v:Value}(rx:RelV x v)(fx:N6 x=true):∀{xs:List V}{us:List Value},Vals xs us->xs.all N6=true->∀u∈us,Ed A s u v (eqU x u)
 |_,_,.nil,_=>λu hu=>by cases hu
 |y::xs,u::us,.cons r t,f=>λu' hu=>by
  rw[Jjb,Bu]at f;rcases Jp.mp hu with rfl|hu
  .rw[Znt r f.1];exact Zua r rx f.1 fx
  .exact Np rx fx t f.2 u' hu
def inV(x:V)(xs:List V):Bool:=xs.any λy=>eqV y x
def rIn(K:Cm)(neg:Bool):R2:=λx y H Q=>∃p xs,y=.ref p/\(SqL K H p xs\/SqT K H p xs)/\N6 x=true/\xs.all N6=true/\Q (.bl (if neg then !inV x xs else inV x xs)) H
def Za3:OpR X (Ee .NotIn) (rIn X.K true):=by
 intro pq s σ H x y v u Q I rx ry h;let⟨p,xs,rfl,hq,fx,fs,q⟩:=h;cases ry;rcases hq with hq|hq
 .let⟨its,r,pl,hz⟩:=I.list hq;refine SeqAt.notIn_listAt (eqU x) pl.isList (λw hw=>Np rx fx r fs w (by simpa using hw)) ⟨.bl _,H,I,rfl,?_⟩;rw[show its.toArray.any (eqU x)=its.any (eqU x)by simp,Zdp r fs];exact q
 .let⟨its,r,pl,hz⟩:=I.tuple hq;refine SeqAt.notIn_tupleAt (eqU x) pl (λw hw=>Np rx fx r fs w (by simpa using hw)) ⟨.bl _,H,I,rfl,?_⟩;rw[show its.toArray.any (eqU x)=its.any (eqU x)by simp,Zdp r fs];exact q
theorem Zbx:W6 X (.type "list") (λxs H Q=>∃p ys,xs=[.ref p]/\(SqL X.K H p ys\/SqT X.K H p ys)/\∀l,H l=none->Q (.ref l) (upd H l (.lst ys))):=by
 intro pq s σ H xs us Q I r h;let⟨p,ys,rfl,hq,q⟩:=h;let⟨u,rfl,rx⟩:=Tj r;cases rx;let fin:∀(its:List Value),Vals ys its->ys.length<=sizeLine->∀(h':Heap)(c':Nat),(∀b o',s.heap.get? b=some o'->h'.get? b=some o') ->
   h'.get? s.heap.objs.size=some {cls:=.type "list",dict:=none,data:=.seq its.toArray c',slots:=#[]}->EP X pq σ Q (.ref s.heap.objs.size) {s with heap:=h'}:=λits r' hz h' c' kp e =>
  ⟨.ref s.heap.objs.size,_,I.laid (t':=s.toks) kp (Jd _) (show Y5 X.prog X.w _ h' _ (.lst ys)from⟨hz,its,c',r',e⟩),rfl,q _ (I.hok.fresh (Jd _))⟩
 rcases hq with hq|hq
 .let⟨its,r',pl,hz⟩:=I.list hq;let hlen:=r'.length;let⟨o,ho,hc,n,hd⟩:=pl.isList;exact call_list_seq p (.inl rfl) ho hc hd (λh' c' kp e=>fin its r' hz h' c' kp e) (by simp only[Jm]<;>lia)
 .let⟨its,r',pl,hz⟩:=I.tuple hq;let hlen:=r'.length;let⟨o,ho,hc,n,hd⟩:=pl;exact call_list_seq p (.inr rfl) ho hc hd (λh' c' kp e=>fin its r' hz h' c' kp e) (by simp only[Jm]<;>lia)
theorem Wf:W6 X (.type "tuple") (λxs H Q=>∃p ys,xs=[.ref p]/\((SqL X.K H p ys/\∀l,H l=none->Q (.ref l) (upd H l (.tup ys)))\/(SqT X.K H p ys/\Q (.ref p) H))):=by
 intro pq s σ H xs us Q I r h;let⟨p,ys,rfl,h⟩:=h;let⟨u,rfl,rx⟩:=Tj r;cases rx;rcases h with⟨hq,q⟩|⟨hq,q⟩
 .let⟨its,r',pl,hz⟩:=I.list hq;let hlen:=r'.length;refine call_tuple_list pl.isList (λh' kp=>?_) (by simp only[Jm]<;>lia);let I1:Inv X pq σ H {s with heap:=h'}:=I.kept (t':=s.toks) kp;let I2:Inv X pq σ (upd H h'.objs.size (.tup ys)) {s with heap:=h'.push {cls:=.type "tuple",data:=.seq its.toArray} } :=
   I1.laid (t':=s.toks) (λb o e=>F9 _ e) (Jd _) (show Y5 X.prog X.w _ _ _ (.tup ys)from⟨hz,its,r',Ui.new _ _⟩)
  exists .ref h'.objs.size,_,I2,rfl,q _ (I1.hok.fresh (Jd _))
 .let⟨its,r',pl,hz⟩:=I.tuple hq;exact call_tuple_same pl ⟨.ref p,H,I,rfl,q⟩
def tyV(K:Cm)(T:String)(x:V)(H:Hp):Prop:=match x with
 |.str _=>T="str"
 |.int _=>T="int"
 |.ref p=>(T="list"/\∃xs,SqL K H p xs)\/(T="tuple"/\∃o,K.lookup p=some o/\o.cls=.type "tuple"/\o.dict=none) \/
   (T="dict"/\((∃kvs,H p=some (.dK kvs))\/∃kvs,H p=some (.dT kvs)))\/(T="set"/\∃S n,H p=some (.set S n))
 |_=>False
theorem Zrx{T:String}{x:V}{v:Value}(I:Inv X pq σ H s)(r:RelV x v)(ty:tyV X.K T x H) :
  s.TypeIs v T/\∀a,v=.ref a->∃ob,s.heap.get? a=some ob/\ob.dict=none:=by
 cases x with
 |str z =>
  let⟨t,rfl⟩:=r;cases(show T="str" from ty);exists Jiq s z t,λ_ e=>nomatch e
 |int i =>
  let⟨t,rfl⟩:=r;cases(show T="int" from ty);exists Jir s i t,λ_ e=>nomatch e
 |ref p =>
  cases r;rcases ty with⟨rfl,xs,hq⟩|⟨rfl,o,hk,hc,hd⟩|⟨rfl,hk⟩|⟨rfl,S,n,hk⟩
  .let⟨its,_,pl,_⟩:=I.list hq;exists pl.isList.typeIs,λa e=>?_;cases e;let⟨o,n,e,c,hd,_⟩:=pl;exists o,e,hd
  .exists⟨o,I.kIn p o hk,hc⟩,λa e=>?_;cases e;exists o,I.kIn _ o hk,hd
  .let z:∃o,s.heap.get? p=some o/\o.ExactDict:=by
    rcases hk with⟨kvs,hk⟩|⟨kvs,hk⟩
    .let⟨_,_,_,_,o,_,_,e,ex,_⟩:=I.hok p _ hk;exists o,e,ex
    .let⟨_,_,_,_,o,_,_,e,ex,_⟩:=I.hok p _ hk;exists o,e,ex
   let⟨o,e,ex⟩:=z;exists⟨o,e,ex.1⟩,λa e2=>?_;cases e2;exists o,e,ex.2.1
  .let⟨o,_,_,_,e,ex,_⟩:=I.hok p _ hk;exists⟨o,e,ex.1⟩,λa e2=>?_;cases e2;exists o,e,ex.2.1
 |_=>exact Cq ty
def tBM(K:Cm)(T:String)(r:V->List V->Hp->VK->Prop)(to:TE)(t:TA):TE:=λσ H Q=>to σ H λx H1=>tyV K T x H1/\t σ H1 λxs H2=>r x xs H2 Q
variable{o e:Expr}{t:TA}{cpos:Pos}{T id:String}{r:V->List V->Hp->VK->Prop}
def V8(pa:PlainAttrs T)(slot:Slot T name id)(hty:typeOf (.builtin id)=pure (.type "method_descriptor"))(hm:MtR X id r)(ho:PE X o to)(ha:PA X (e::es) t)(hbase:Kj o name X.env (eval o X.env)=eval o X.env:=by rfl)(hfew:((Hy cpos (Ci (e::es) X.env)).all (λx=>!x.1)&&(Jfc cpos (Ly [] X.env)).all (λx=>x.1.isSome)
   && decide ((e::es).length+([]:List Jkb).length+(if([]:List Jkb).isEmpty then 0 else 1)<30))=true:=by rfl)(hline:(apos.endLine==cpos.line)=true:=by rfl)(hs:Ci (e::es) X.env=(false,eval e X.env)::Ci es X.env:=by rfl)(hplain:(Hy cpos (Ci es X.env)).any (·.1)=false:=by rfl) :
  PE X (.Call (.Attribute o name apos) (e::es) [] cpos) (tBM X.K T r to t):=by
 intro pq s σ H Q I h;refine wpAny_Call_method_late hbase hfew hline rfl (thn (ho pq s σ H _ I h) λv s1 hz=>?_);let⟨x,H1,I1,r1,ty,q1⟩:=hz;let⟨h1,h2⟩:=Zrx I1 r1 ty;refine⟨T,id,pa,slot,hty,h1,h2,?_⟩;let hA:=ha cpos pq s1 σ H1 _ I1 q1;rw[hs]at hA⊢;refine Jdx (by show(false ||(Hy cpos (Ci es X.env)).any (·.1))=false;rw[hplain]<;>rfl) (Jek ?_);exact thn hA λus s2⟨vs,H2,I2,r2,q2⟩=>hm pq s2 σ H2 x vs v us Q I2 r1 r2 q2
end
def MtM(X:Cx)(id:String)(r:V->List V->Hp->VK->Prop):Prop :=
 ∀(pq:List (Addr×Obj))(s:Ca)(σ:St)(H:Hp)(x:V)(xs:List V)(v:Value)(us:List Value)(Q:VK),Inv X pq σ H s->RelV x v->Vals xs us->r x xs H Q ->
  Cc (Ch X.prog X.w) X.A (call (.builtin id) (v::us)) (EP X pq σ Q) X.xe s
theorem Vals.one:∀{x:V}{us:List Value},Vals [x] us->∃u,us=[u]/\RelV x u
 |_,_,.cons r .nil=>⟨_,rfl,r⟩
theorem Vals.rep(h:Vals xs us):∀k:Nat,Vals (Ck k xs).flatten (Ck k us).flatten
 |0=>.nil
 |k+1=>by
  rw[Bt,Bt,Bg,Bg];exact Vals.append h (Vals.rep h k)
theorem Zbl(its:List Value):∀(k:Nat)(acc:List Value),
  Jis (λx1 x2=>x1++x2) acc.toArray (Ck k its.toArray)=(acc++(Ck k its).flatten).toArray
 |0,acc=>by simp
 |k+1,acc=>by
  let e:acc.toArray++its.toArray=(acc++its).toArray:=by simp
  let e2:(acc++its)++(Ck k its).flatten=acc++(Ck (k+1) its).flatten:=by
   rw[Bt,Bg,Gg]
  rw[<-e2,<-Zbl its k (acc++its),<-e,Bt,List.foldl_cons]
section
def Inv.lset{its':List Value}{n:Nat}{f:Array Value->Array Value}(I:Inv X pq σ H s)(hH:H l=some (.lst xs))(e:s.heap.get? l=some {cls:=.type "list",data:=.seq its.toArray n})(hf:f its.toArray=its'.toArray)(hv:Vals ys its')(hz:ys.length<=sizeLine) :
  Inv X pq σ (upd H l (.lst ys)) {s with heap:=s.heap.update l (C2 f),toks:=t'}:=by
 let q:=PySem.IsL.update e f;rw[hf]at q;refine I.write (x:=l) (e:=l) (by rw[hH];exact trivial) (.inl rfl) (λb' u hb hu=>(Ct s.heap (C2 f) (Cw hb)).trans hu) ⟨_,q⟩ ?_;exists hz,its',_,hv,q
def Inv.lnew(I:Inv X pq σ H s)(hv:Vals ys its)(hz:ys.length<=sizeLine) :
  Inv X pq σ (upd H s.heap.objs.size (.lst ys)) {s with heap:=s.heap.push {cls:=.type "list",data:=.seq its.toArray},toks:=t'} :=
 I.laid (λ_ _ q=>F9 _ q) (Jd _) ⟨hz,its,0,hv,Da _ rfl⟩
def Inv.fresh(I:Inv X pq σ H s):H s.heap.objs.size=none:=I.hok.fresh (Jd _)
def Inv.lstM(I:Inv X pq σ H s)(hH:H l=some (.lst xs)):xs.length<=sizeLine/\∃(its:List Value)(n:Nat),Vals xs its/\xs.length=its.length/\s.heap.get? l=some {cls:=.type "list",data:=.seq its.toArray n}:=by
 let⟨z,its,n,r,e⟩:=I.hok l _ hH;exists z,its,n,r,r.length,e
theorem Nn{n:Nat}(h:n<=sizeLine):Ei n=false:=by
 unfold Ei;exact Dg ()
end
section
def Zhy:V->List V->Hp->VK->Prop:=λx vs H Q=>∃l xs y,x=.ref l/\vs=[y]/\H l=some (.lst xs)/\xs.length<sizeLine/\Q .non (upd H l (.lst (xs++[y])))
theorem Xv:MtM X "list.append" Zhy:=by
 intro pq s σ H x vs v us Q I rx rv h;let⟨l,xs,y,rfl,rfl,hH,hz,q⟩:=h;cases rx;let⟨u,rfl,ru⟩:=rv.one;let⟨z,its,n,r,hl,e⟩:=I.lstM hH;refine Kz F.slot_list_append ⟨_,e,rfl⟩ F.entry_list_append (F.args_list_append_2 _ _) (PySem.list_append l its.toArray n u (by rw[Jm];lia)) ⟨e,?_⟩;exists .non,_,I.lset (its':=its++[u]) hH e (by simp) (r.append (.cons ru .nil)) ?_,rfl,q;rw[Jc,Gp];lia
def Zhx:V->List V->Hp->VK->Prop:=λx vs H Q=>∃l b xs zs,x=.ref l/\vs=[.ref b]/\H l=some (.lst xs)/\H b=some (.lst zs)/\xs.length+zs.length<=sizeLine/\Q .non (upd H l (.lst (xs++zs)))
theorem Za5:MtM X "list.extend" Zhx:=by
 intro pq s σ H x vs v us Q I rx rv h;let⟨l,b,xs,zs,rfl,rfl,hH,hB,hz,q⟩:=h;cases rx;let⟨u,rfl,ru⟩:=rv.one;cases ru;let⟨z,its,n,r,hl,e⟩:=I.lstM hH;let⟨z2,its2,n2,r2,hl2,e2⟩:=I.lstM hB;let hsz:its.toArray.size+its2.toArray.size<=sizeLine:=by rw[Jm,Jm];lia
 let hlong:¬ (!its.toArray.isEmpty&&Ei (its.toArray.size+its2.toArray.size))=true:=by
  rw[Nn hsz,Jib];exact Jr
 refine Kz E4 ⟨_,e,rfl⟩ Jex (Jel _ _)
  (AutoSeq1.list_extend_list_list_0 l its.toArray n b its2.toArray n2 hlong (by rw[Jm];lia) ()) ⟨e,e2,?_⟩
 exists .non,_,I.lset (its':=its++its2) hH e (by simp) (r.append r2) ?_,rfl,q;rw[Jc];lia
def rCat:R2:=λx y H Q=>∃l b xs zs,x=.ref l/\y=.ref b/\H l=some (.lst xs)/\H b=some (.lst zs)/\xs.length+zs.length<=sizeLine/\∀p,H p=none->Q (.ref p) (upd H p (.lst (xs++zs)))
theorem Px:OpR X (Hk .Add) rCat:=by
 intro pq s σ H x y v u Q I rx ry h;let⟨l,b,xs,zs,rfl,rfl,hH,hB,hz,q⟩:=h;cases rx;cases ry;let⟨z,its,n,r,hl,e⟩:=I.lstM hH;let⟨z2,its2,n2,r2,hl2,e2⟩:=I.lstM hB;refine PySem.P.add_list e e2 ?_ (by rw[Jm,Jm];lia);let ea:its.toArray++its2.toArray=(its++its2).toArray:=by simp
 rw[ea];exists .ref _,_,I.lnew (t':=s.toks) (r.append r2) (by rw[Jc];lia),rfl,q _ I.fresh
def rRep:R2:=λx y H Q=>∃l k xs,x=.ref l/\y=.int k/\H l=some (.lst xs)/\-(2 ^ 63)<=k/\k<2 ^ 63/\xs.length*k.toNat<=sizeLine /\
 ∀p,H p=none->Q (.ref p) (upd H p (.lst (Ck k.toNat xs).flatten))
theorem Zpw{α:Type}(xs:List α)(k:Nat):(Ck k xs).flatten.length=k*xs.length:=by
 induction k with
 |zero=>simp
 |succ k ih=>rw[Bt,Bg,Jc,ih,Jgp,Jjp]
theorem Ztf:OpR X (Hk .Mult) rRep:=by
 intro pq s σ H x y v u Q I rx ry h;let⟨l,k,xs,rfl,rfl,hH,h1,h2,hz,q⟩:=h;cases rx;let⟨t,rfl⟩:=ry;let⟨z,its,n,r,hl,e⟩:=I.lstM hH;let hlen:its.toArray.size*k.toNat<=sizeLine:=by rw[Jm,<-hl];exact hz
 let hcap:¬ its.toArray.size*k.toNat > (2 ^ 63-1) / 8:=by
  let:(sizeLine:Nat)<=(2 ^ 63-1) / 8:=by decide
  lia
 let hfit:¬ (!Builtin.List.listFitsIndex k)=true:=by
  rw[fitsIndex_both h1 h2];exact Jr
 let hlong:¬ Ei (its.toArray.size*k.toNat)=true:=by
  rw[Nn hlen];exact Jr
 let hnew:Jis (λx1 x2=>x1++x2) #[] (Ck (if its.toArray.isEmpty=true then 0 else k.toNat) its.toArray)=(Ck k.toNat its).flatten.toArray:=by
  let f0:∀m:Nat,Jis (λx1 x2=>x1++x2) #[] (Ck m its.toArray)=(Ck m its).flatten.toArray:=λm=>by
   let:=Zbl its m [];rw[List.nil_append]at this;exact this
  rw[f0];cases its with
  |nil=>simp
  |cons a r'=>rw[Dd (by simp)]
 refine wpAny_binaryOp_repeat_ref (T:="list") (U:="int") nofun ⟨_,e,rfl⟩ (λs'=>Jir s' k t) noFill_list_mul F.fills_int_mul Jhk repeat_list F.slot_int_index.lookup
  (Kz Jhk (Jir s k t) F.entry_int_rmul (F.args_int_rmul_2 _ _) (int___rmul___int_list k t l its.toArray n)
   ⟨e,rfl,⟨_,e,rfl⟩,Kz F.slot_list_mul ⟨_,e,rfl⟩ F.entry_list_mul (F.args_list_mul_2 _ _) (AutoListH.list___mul___list_int_3 l its.toArray n k t hfit hcap hlong) ⟨e,?_⟩⟩)
 rw[hnew];exists .ref _,_,I.lnew (t':=s.toks) (r.rep k.toNat) (by rw[Zpw,Jjq];exact hz),rfl,q _ I.fresh
end
section
variable[DecidableEq κ]
def valV(kvs:List (κ×V))(k:κ):Option V:=(kvs.find? λkv=>decide (kv.1=k)).map (·.2)
def putK(kvs:List (κ×V))(k:κ)(v:V):List (κ×V) :=
 if(kvs.any λkv=>decide (kv.1=k))=true then kvs.map (λkv=>if kv.1=k then(kv.1,v)else kv)else kvs++[(k,v)]
def Zk0{k:κ}:valV ([]:List (κ×V)) k=none:=rfl
def Xr{p:κ×V}{r:List (κ×V)}{k:κ}(e:p.1=k):valV (p::r) k=some p.2:=by simp[valV,G7,e]
def Xs{p:κ×V}{r:List (κ×V)}{k:κ}(e:¬ p.1=k):valV (p::r) k=valV r k:=by simp[valV,G7,e]
theorem Rm(k:κ):∀kvs:List (κ×V),(kvs.any λkv=>decide (kv.1=k))=(valV kvs k).isSome
 |[]=>rfl
 |p::r=>by
  rw[B4]
  by_cases e:p.1=k
  .simp only[Xr e,Df e,Bool.true_or,Option.isSome_some]
  .rw[Xs e,Dg e,Jjc];exact Rm k r
theorem Zdz(k j:κ)(y:V):∀kvs:List (κ×V),valV (kvs.map λkv=>if kv.1=k then(kv.1,y)else kv) j=(valV kvs j).map λx=>if j=k then y else x
 |[]=>rfl
 |p::r=>by
  let ih:=Zdz k j y r;rw[Js]
  by_cases h:p.1=k
  .rw[De h]
   by_cases e:p.1=j
   .rw[Xr (p:=(p.1,y)) e,Xr e,Bz,De (e.symm.trans h)]
   .rw[Xs (p:=(p.1,y)) e,Xs e,ih]
  .rw[Dd h]
   by_cases e:p.1=j
   .rw[Xr (p:=p) e,Xr e,Bz,Dd (λz=>h (e.trans z))]
   .rw[Xs (p:=p) e,Xs e,ih]
theorem Zai(k j:κ)(y:V):∀kvs:List (κ×V),valV kvs k=none->valV (kvs++[(k,y)]) j=if j=k then some y else valV kvs j
 |[],_=>by
  by_cases e:k=j
  .rw[De e.symm];exact Xr (p:=(k,y)) e
  .rw[Dd (λz=>e z.symm)];exact Xs (p:=(k,y)) e
 |p::r,hn=>by
  rw[Jgz];let hk:¬ p.1=k:=λz=>by rw[Xr z]at hn;cases hn
  rw[Xs hk]at hn;let ih:=Zai k j y r hn
  by_cases e:p.1=j
  .rw[Xr e,Xr e,Dd (λz=>hk (e.trans z))]
  .rw[Xs e,Xs e,ih]
def Na(kvs:List (κ×V))(k j:κ)(y:V):valV (putK kvs k y) j=if j=k then some y else valV kvs j:=by
 unfold putK
 by_cases a:(kvs.any λkv=>decide (kv.1=k))=true
 .rw[De a,Zdz];rw[Rm]at a
  by_cases e:j=k
  .let⟨x,hx⟩:=Option.isSome_iff_exists.mp a;rw[De e,e,hx,Bz,De rfl]
  .rw[Dd e];cases valV kvs j with
   |none=>rfl
   |some x=>rw[Bz,Dd e]
 .rw[Dd a];refine Zai k j y kvs ?_;rw[Rm]at a;cases q:valV kvs k with
  |none=>rfl
  |some x=>rw[q]at a;exact(a rfl).elim
theorem Xa(kvs:List (κ×V))(k:κ)(v:V):(putK kvs k v).length<=kvs.length+1:=by
 unfold putK
 split
 .rw[Ja];lia
 .rw[Jc,Jz,B0];lia
theorem RelO.isSome_eq{o:Option V}{u:Option Value}(r:RelO o u):o.isSome=u.isSome:=by
 cases o with
 |none=>cases u with
  |none=>rfl
  |some _=>exact(show False from r).elim
 |some _=>cases u with
  |none=>exact(show False from r).elim
  |some _=>rfl
theorem RelO.getD{o:Option V}{u:Option Value}{d:V}{d':Value}(r:RelO o u)(rd:RelV d d'):RelV (o.getD d) (u.getD d'):=by
 cases o with
 |none=>cases u with
  |none=>exact rd
  |some _=>exact(show False from r).elim
 |some _=>cases u with
  |none=>exact(show False from r).elim
  |some _=>exact r
theorem KV.val{kvs:List (κ×V)}{vs:List (κ×Value)}(r:KV kvs vs)(k:κ):RelO (valV kvs k) (Jf3 vs k):=by
 unfold KV at r
 induction r with
 |nil=>exact Eo
 | @cons p q ps qs h t ih =>
  let⟨h1,h2⟩:=h
  by_cases e:p.1=k
  .let e':q.1=k:=h1.symm.trans e;let b:Jf3 (q::qs) k=some q.2:=by simp[Jf3,G7,e']
   rw[Xr e,b];exact h2
  .let e':¬ q.1=k:=λz=>e (h1.trans z);let b:Jf3 (q::qs) k=Jf3 qs k:=by simp[Jf3,G7,e']
   rw[Xs e,b];exact ih
theorem KV.any{kvs:List (κ×V)}{vs:List (κ×Value)}(r:KV kvs vs)(k:κ):(kvs.any λkv=>decide (kv.1=k))=vs.any λkv=>decide (kv.1=k):=by
 unfold KV at r
 induction r with
 |nil=>rfl
 |cons h t ih=>rw[B4,B4,ih,h.1]
theorem KV.repl{kvs:List (κ×V)}{vs:List (κ×Value)}(r:KV kvs vs)(k:κ){y:V}{u:Value}(ry:RelV y u) :
  KV (kvs.map λkv=>if kv.1=k then(kv.1,y)else kv) (vs.map λkv=>if kv.1=k then(kv.1,u)else kv):=by
 unfold KV at r⊢
 induction r with
 |nil=>exact .nil
 | @cons p q ps qs h t ih =>
  rw[Js,Js];refine .cons ?_ ih;let⟨h1,h2⟩:=h
  by_cases e:p.1=k
  .rw[De e,De (h1.symm.trans e)];exists h1,ry
  .rw[Dd e,Dd (λz=>e (h1.trans z))];exists h1,h2
def KV.put{kvs:List (κ×V)}{vs:List (κ×Value)}(r:KV kvs vs)(k:κ){y:V}{u:Value}(ry:RelV y u):KV (putK kvs k y) (stored vs k u):=by
 unfold putK stored;rw[r.any k]
 by_cases e:(vs.any λkv=>decide (kv.1=k))=true
 .rw[De e,De e];exact r.repl k ry
 .rw[Dd e,Dd e];exact Paired.snoc r ⟨rfl,ry⟩
def KV.length{kvs:List (κ×V)}{vs:List (κ×Value)}(r:KV kvs vs):kvs.length=vs.length:=Paired.length r
end
theorem Zc4{w:C0}{k:Key}{u:Value}(r:RelV (kV k) u):(Y4 P w).is k u=true:=by
 cases k with
 |inl i=>obtain⟨t,e⟩:=(show ∃t,u=Ek i t from r);subst e;exact Zc2 P w i t
 |inr x=>obtain⟨t,e⟩:=(show ∃t,u=Mv x t from r);subst e;exact Zc1 P w x t
theorem Zbc{w:C0}:∀{ks:List Key}{us:List Value},Vals (ks.map kV) us->ItemsAre (Y4 P w) ks us
 |[],_,r=>by rw[Ml]at r;cases r;exact .nil
 |k::ks,_,r=>by
  rw[Js]at r;cases r with
  |cons h t=>exact .cons (Zc4 h) (Zbc t)
abbrev KT(H:Hp):List (List Key×V)->List (List Key×Addr×Value)->Prop:=Paired λp q=>p.1=q.1/\H q.2.1=some (.tup (p.1.map kV))/\RelV p.2 q.2.2
theorem KT.val{xs:List (List Key×Addr×Value)}(r:KT H kvs xs)(k:List Key):RelO (valV kvs k) ((Jjr xs k).map (·.2)):=by
 induction r with
 |nil=>exact Eo
 | @cons p q ps qs h t ih =>
  let⟨h1,_,h2⟩:=h
  by_cases e:p.1=k
  .let e':q.1=k:=h1.symm.trans e;let b:Jjr (q::qs) k=some q.2:=by simp[Jjr,G7,e']
   rw[Xr e,b];exact h2
  .let e':¬ q.1=k:=λz=>e (h1.trans z);let b:Jjr (q::qs) k=Jjr qs k:=by simp[Jjr,G7,e']
   rw[Xs e,b];exact ih
theorem KT.repl{xs:List (List Key×Addr×Value)}(r:KT H kvs xs)(k:List Key){y:V}{u:Value}(ry:RelV y u) :
  KT H (kvs.map λkv=>if kv.1=k then(kv.1,y)else kv) (xs.map (putAt k u)):=by
 induction r with
 |nil=>exact .nil
 | @cons p q ps qs h t ih =>
  rw[Js,Js];refine .cons ?_ ih;let⟨h1,h2,h3⟩:=h;unfold putAt
  by_cases e:p.1=k
  .rw[De e,De (h1.symm.trans e)];exists h1,h2,ry
  .rw[Dd e,Dd (λz=>e (h1.trans z))];exists h1,h2,h3
def KT.put{xs:List (List Key×Addr×Value)}(r:KT H kvs xs)(k:List Key){b:Addr}{y:V}{u:Value}(hb:H b=some (.tup (k.map kV)))(ry:RelV y u) :
  KT H (putK kvs k y) (storedH xs k b u):=by
 let e:(kvs.any λkv=>decide (kv.1=k))=(Jjr xs k).isSome:=by
  rw[Rm,(r.val k).isSome_eq,Ja5]
 unfold putK storedH;rw[e]
 by_cases q:(Jjr xs k).isSome=true
 .rw[De q,De q];exact r.repl k ry
 .rw[Dd q,Dd q];exact Paired.snoc r ⟨rfl,hb,ry⟩
def KT.keeps{xs:List (List Key×Addr×Value)}(r:KT H kvs xs)(ht:∀b ys,H b=some (.tup ys)->H' b=some (.tup ys)):KT H' kvs xs :=
 Paired.mapP r λ_ _ z=>⟨z.1,ht _ _ z.2.1,z.2.2⟩
section
variable{w:C0}{a:Addr}
def Zs0{u:HO}(ok:HOk P w H h)(e:Rd H a u):Y5 P w H h a u:=e.ok ok
def Zbq{kvs:List (Key×V)}(ok:HOk P w H h)(e:Rd H a (.dK kvs)):kvs.length<=sizeLine/\(a==E5)=false/\∃vs,KV kvs vs/\h.DictOf (Y4 P w) a vs :=
 show Y5 P w H h a (.dK kvs)from Zs0 ok e
def Zqk{kvs:List (Key×V)}(ok:HOk P w H h)(e:H a=some (.dK kvs)):kvs.length<=sizeLine/\(a==E5)=false/\∃vs,KV kvs vs/\h.DictOf (Y4 P w) a vs:=Zbq ok (.inl e)
def Qr{ks:List Key}(ok:HOk P w H h)(e:H a=some (.tup (ks.map kV))):(Mw (Y4 P w)).is h ks a:=by
 let⟨_,its,r,o,h1,h2,n,h3,_⟩:=(show Y5 P w H h a (.tup (ks.map kV))from ok a _ e);exact⟨o,its.toArray,n,h1,h2,h3,by simpa using Zbc r⟩
def Zdh(ok:HOk P w H h)(e:Rd H a (.dT kvs)):kvs.length<=sizeLine/\(a==E5)=false /\
  ∃xs,KT H kvs xs/\h.DictOfH (Mw (Y4 P w)) a xs:=by
 let⟨z,y,xs,r,o,es,ep,h1,h2,h3,h4,h5⟩:=(show Y5 P w H h a (.dT kvs)from Zs0 ok e);refine⟨z,y,xs,r,o,es,ep,h1,h2,h3,h4,λx hx=>?_,h5⟩;let all:∀{l:List (List Key×V)}{m:List (List Key×Addr×Value)},KT H l m->∀x∈m,(Mw (Y4 P w)).is h x.1 x.2.1:=by
  intro l m q
  induction q with
  |nil=>intro x hx;exact nomatch hx
  | @cons p q ps qs hq t ih =>
   intro x hx;rcases Jp.mp hx with e|hx
   .subst e;exact Qr ok (by rw[<-hq.1];exact hq.2.1)
   .exact ih x hx
 exact all r x hx
def Zuc(ok:HOk P w H h)(e:H a=some (.dT kvs)):kvs.length<=sizeLine/\(a==E5)=false /\
  ∃xs,KT H kvs xs/\h.DictOfH (Mw (Y4 P w)) a xs:=Zdh ok (.inl e)
end
def DGet(H:Hp)(a:Addr)(y:V)(r:Option V):Prop :=
 (∃kvs k,Rd H a (.dK kvs)/\y=kV k/\r=valV kvs k)\/∃kvs k b,Rd H a (.dT kvs)/\y=.ref b/\H b=some (.tup (k.map kV))/\r=valV kvs k
def DPut(H:Hp)(a:Addr)(y v:V)(H':Hp):Prop :=
 (∃kvs k,H a=some (.dK kvs)/\y=kV k/\kvs.length<sizeLine/\H'=upd H a (.dK (putK kvs k v))) \/
 ∃kvs k b,H a=some (.dT kvs)/\y=.ref b/\H b=some (.tup (k.map kV))/\kvs.length<sizeLine/\H'=upd H a (.dT (putK kvs k v))
theorem DGet.k{a:Addr}{kvs:List (Key×V)}{k:Key}(e:H a=some (.dK kvs)):DGet H a (kV k) (valV kvs k):=.inl ⟨kvs,k,.inl e,rfl,rfl⟩
def DGet.t{a b:Addr}{k:List Key}(e:H a=some (.dT kvs))(eb:H b=some (.tup (k.map kV))):DGet H a (.ref b) (valV kvs k):=.inr ⟨kvs,k,b,.inl e,rfl,eb,rfl⟩
theorem DPut.k{a:Addr}{kvs:List (Key×V)}{k:Key}(e:H a=some (.dK kvs))(hl:kvs.length<sizeLine):DPut H a (kV k) v (upd H a (.dK (putK kvs k v))):=.inl ⟨kvs,k,e,rfl,hl,rfl⟩
def DPut.t{a b:Addr}{k:List Key}(e:H a=some (.dT kvs))(eb:H b=some (.tup (k.map kV)))(hl:kvs.length<sizeLine) :
  DPut H a (.ref b) v (upd H a (.dT (putK kvs k v))):=.inr ⟨kvs,k,b,e,rfl,eb,hl,rfl⟩
section
variable{a:Addr}{y:V}{u r:Value}{o:Option V} 
def Inv.big(I:Inv X pq σ H s):E5<s.heap.objs.size:=by
 let h:mainGlobals<s.heap.objs.size:=(I.mod.glob.keeps I.bk).lt;exact Nat.lt_trans nofun h
def Zju{Q:Value->Ca->Prop}(hu:A.units+1<cLine)(I:Inv X pq σ H s)(g:DGet H a y (some v))(ry:RelV y u)(h:∀w' s',Inv X pq σ H s'->RelV v w'->Q w' s') :
  Cc (Ch X.prog X.w) A (Lv (.ref a) u) Q E s:=by
 rcases g with⟨kvs,k,e,ey,l⟩|⟨kvs,k,b,e,ey,eb,l⟩
 .subst ey;let⟨z,hd,vs,rel,dd⟩:=Zbq I.hok e;let⟨w',hw,rw'⟩:=RelO.some_of (v:=v) (o:=Jf3 vs k) (by rw[l];exact rel.val k);exact wpAny_getItem_of (Zc4 ry) dd.mapOf hw (h w' _ (I.tok _) rw')
 .subst ey;cases(show u=Cg b from ry);let⟨z,hd,xs,rel,dd⟩:=Zdh I.hok e;let⟨w',hw,rw'⟩:=RelO.some_of (v:=v) (o:=(Jjr xs k).map (·.2)) (by rw[l];exact rel.val k);let⟨p,hp,hp2⟩:=Option.map_eq_some_iff.mp hw;refine wpAny_getItem_heap (Hm hu) (Qr I.hok eb) dd hp ?_;rw[hp2];exact h w' _ (I.tok _) rw'
def d_in{Q:Value->Ca->Prop}(hu:A.units+1<cLine)(I:Inv X pq σ H s)(g:DGet H a y o)(ry:RelV y u)(h:∀s',Inv X pq σ H s'->Q (.bool o.isSome) s') :
  Cc (Ch X.prog X.w) A (Ee .In u (.ref a)) Q E s:=by
 rcases g with⟨kvs,k,e,ey,l⟩|⟨kvs,k,b,e,ey,eb,l⟩
 .subst ey;let⟨z,hd,vs,rel,dd⟩:=Zbq I.hok e;refine wpAny_in_of (Zc4 ry) hd dd.mapOf ?_;rw[<-(rel.val k).isSome_eq,<-l];exact h _ (I.tok _)
 .subst ey;cases(show u=Cg b from ry);let⟨z,hd,xs,rel,dd⟩:=Zdh I.hok e;refine wpAny_in_heap (Hm hu) (Qr I.hok eb) hd dd ?_;let q:=(rel.val k).isSome_eq;rw[Ja5]at q;rw[<-q,<-l];exact h _ (I.tok _)
def Zql{Q:Value->Ca->Prop}(hu:A.units+1<cLine)(I:Inv X pq σ H s)(g:DGet H a y o)(ry:RelV y u)(h:∀s',Inv X pq σ H s'->Q (.bool (!o.isSome)) s') :
  Cc (Ch X.prog X.w) A (Ee .NotIn u (.ref a)) Q E s:=by
 rcases g with⟨kvs,k,e,ey,l⟩|⟨kvs,k,b,e,ey,eb,l⟩
 .subst ey;let⟨z,hd,vs,rel,dd⟩:=Zbq I.hok e;refine wpAny_notIn_of (Zc4 ry) hd dd.mapOf ?_;rw[<-(rel.val k).isSome_eq,<-l];exact h _ (I.tok _)
 .subst ey;cases(show u=Cg b from ry);let⟨z,hd,xs,rel,dd⟩:=Zdh I.hok e;refine wpAny_notIn_heap (Hm hu) (Qr I.hok eb) hd dd ?_;let q:=(rel.val k).isSome_eq;rw[Ja5]at q;rw[<-q,<-l];exact h _ (I.tok _)
def N8{ob:HO}(I:Inv X pq σ H s)(mu:Mut (H a))(hs:Hf a s.heap h')(he:∃q,h'.get? a=some q)(new:Y5 X.prog X.w (upd H a ob) h' a ob) :
  Inv X pq σ (upd H a ob) {s with heap:=h',toks:=t'} :=
 I.write (x:=a) (e:=a) mu (.inl rfl) (λb q hb z=>(hs.2 b hb).trans z) he new
def Znu{w:C0}{kvs:List (Key×V)}{vs:List (Key×Value)}(z:kvs.length<=sizeLine)(hd:(a==E5)=false)(rel:KV kvs vs)(dd:h'.DictOf (Y4 P w) a vs) :
  Y5 P w H' h' a (.dK kvs):=⟨z,hd,vs,rel,dd⟩
theorem Zjt{Q:Unit->Ca->Prop}(hu:A.units+1<cLine)(I:Inv X pq σ H s)(g:DPut H a y v H')(ry:RelV y u)(rv:RelV v r)(h:∀s',Inv X pq σ H' s'->Q ⟨⟩ s') :
  Cc (Ch X.prog X.w) A (Jj2 (.ref a) u r) Q E s:=by
 rcases g with⟨kvs,k,e,ey,l,eH⟩|⟨kvs,k,b,e,ey,eb,l,eH⟩
 .subst ey eH;let⟨z,hd,vs,rel,dd⟩:=Zqk I.hok e;let hz:vs.length<=sizeLine:=by rw[<-rel.length];exact z
  let hl:(putK kvs k v).length<=sizeLine:=by have:=Xa kvs k v;lia
  refine wpAny_setItem_pairs (hsz:=hz) (Zc4 ry) dd λh' dd' hs=>h _ ?_;let he:∃q,h'.get? a=some q:=let⟨q,_,_,hq,_⟩:=dd';⟨q,hq⟩
  exact N8 I (by rw[e];exact Eo) hs he (Znu hl hd (rel.put k rv) dd')
 .subst ey eH;cases(show u=Cg b from ry);let⟨z,hd,xs,rel,dd⟩:=Zuc I.hok e;let hz:xs.length<=sizeLine:=by rw[<-Paired.length rel];exact z
  let hl:(putK kvs k v).length<=sizeLine:=by have:=Xa kvs k v;lia
  refine wpAny_setItem_heap (hsz:=hz) (Hm hu) (Qr I.hok eb) dd λh' dd' hs=>h _ ?_;let⟨q,es,ep,hq,h2,h3,h4,_,h5⟩:=dd';refine N8 I (by rw[e];exact Eo) hs ⟨q,hq⟩ ⟨hl,hd,_,(rel.put k eb rv).keeps λc ys ec=>?_,q,es,ep,hq,h2,h3,h4,h5⟩;rw[Zn (Wa ec e (λz=>nomatch z))];exact ec
end
def NoSl(i:Expr):Prop:=∀ov iv,Jc2 i false ov iv=Jka [ov,iv] (Lv ov iv)
def Zoq{w:C0}{env:Env}{slice:Expr}{T id:String}{Q:Value->Ca->Prop}(hl:Jeh (.type T) "__getitem__"=pure (some (.builtin id)))(hs:NoSl slice)(h:Cc (Ch prog w) A (eval value env) (λo s₁=>Cc (Ch prog w) A (eval slice env) (λi s₂=>s₂.TypeIs o T/\Cc (Ch prog w) A (Lv o i) Q E s₂) E s₁) E s) :
  Cc (Ch prog w) A (eval (.Subscript value slice pos) env) Q E s:=by
 refine Jf2 (Dj h (λo s₁ h₁=>Dj h₁ (λi s₂ h₂=>?_) λ_ _ x=>x) λ_ _ x=>x);let⟨hT,h₂⟩:=h₂;unfold Jc1;refine F7 ?_;rw[getitemInPython_of_ne hT.not_modules];refine F7 (wpAny_specialOf hT hl ?_);let fin:Cc (Ch prog w) A (Jc2 slice false o i) (λr s₃=>Cc (Ch prog w) A (letTemporaryGo value o r >>= λ_=>pure r) Q E s₃) E s₂:=by
  rw[hs o i];exact wpAny_operating (Dj h₂ (λr s₃ h₃=>F7 (wpAny_letTemporaryGo (F8 h₃))) λ_ _ x=>x)
 first
  |exact F8 (F7 fin)
  |exact F7 (F8 (F7 fin))
  |exact F7 fin
def Zdi{a:Addr}{y:V}{o:Option V}(I:Inv X pq σ H s)(g:DGet H a y o):s.TypeIs (.ref a) "dict":=by
 rcases g with⟨kvs,k,e,_,_⟩|⟨kvs,k,b,e,_,_,_⟩
 .let⟨_,_,vs,_,dd⟩:=Zbq I.hok e;exact dd.typeIs
 .let⟨_,_,xs,_,dd⟩:=Zdh I.hok e;exact dd.typeIs
def Zsa(td ty:TE):TE:=λσ H Q=>td σ H λx H1=>ty σ H1 λy H2=>∃a v,x=.ref a/\DGet H2 a y (some v)/\Q v H2
def tDIn(ty td:TE):TE:=λσ H Q=>ty σ H λy H1=>td σ H1 λx H2=>∃a o,x=.ref a/\DGet H2 a y o/\Q (.bl o.isSome) H2
def Zg0(ty td:TE):TE:=λσ H Q=>ty σ H λy H1=>td σ H1 λx H2=>∃a o,x=.ref a/\DGet H2 a y o/\Q (.bl (!o.isSome)) H2
def Zsz(td ty tv:TE):TS:=λD σ H=>tv σ H λv H1=>td σ H1 λx H2=>ty σ H2 λy H3=>∃a H4,x=.ref a/\DPut H3 a y v H4/\D.nx σ H4
section
variable{o i:Expr}{td ty tv:TE}
def Wl(hu:X.A.units+1<cLine)(ho:PE X o td)(hi:PE X i ty)(hs:NoSl i):PE X (.Subscript o i pos) (Zsa td ty):=by
 intro pq s σ H Q I h;refine Zoq PySem.F.slot_dict_getitem.lookup hs (thn (ho pq s σ H _ I h) λu s1⟨x,H1,I1,rx,q1⟩=>thn (hi pq s1 σ H1 _ I1 q1) λiv s2 hz=>?_);let⟨y,H2,I2,ry,a,v,ex,g,q2⟩:=hz;subst ex;obtain rfl:u=Cg a:=rx;exists Zdi I2 g,Zju hu I2 g ry λw' s3 I3 rw'=>⟨v,H2,I3,rw',q2⟩
def Znl(hu:X.A.units+1<cLine)(hi:PE X i ty)(ho:PE X o td):PC X .In i o (tDIn ty td):=by
 intro pq s σ H Q I h;refine thn (hi pq s σ H _ I h) λiv s1⟨y,H1,I1,ry,q1⟩=>thn (ho pq s1 σ H1 _ I1 q1) λu s2 hz=>?_;let⟨x,H2,I2,rx,a,ov,ex,g,q2⟩:=hz;subst ex;obtain rfl:u=Cg a:=rx;exact d_in hu I2 g ry λs3 I3=>⟨.bl ov.isSome,H2,I3,rfl,q2⟩
def Za1(hu:X.A.units+1<cLine)(hi:PE X i ty)(ho:PE X o td):PC X .NotIn i o (Zg0 ty td):=by
 intro pq s σ H Q I h;refine thn (hi pq s σ H _ I h) λiv s1⟨y,H1,I1,ry,q1⟩=>thn (ho pq s1 σ H1 _ I1 q1) λu s2 hz=>?_;let⟨x,H2,I2,rx,a,ov,ex,g,q2⟩:=hz;subst ex;obtain rfl:u=Cg a:=rx;exact Zql hu I2 g ry λs3 I3=>⟨.bl (!ov.isSome),H2,I3,rfl,q2⟩
def Sc(hu:X.A.units+1<cLine)(ho:PE X o td)(hi:PE X i ty)(hv:PE X value tv)(hs:Mx value (some (.Subscript o i pos')) pos.line X.env=pure false) :
  PS X (.Assign [.Subscript o i pos'] value pos) (Zsz td ty tv):=by
 intro pq s σ H D I h;refine wpAny_Assign_Subscript (thn (hv pq s σ H _ I h) λr s1⟨v,H1,I1,rv,q1⟩=>thn (ho pq s1 σ H1 _ I1 q1) λu s2⟨x,H2,I2,rx,q2⟩=>thn (hi pq s2 σ H2 _ I2 q2) λiv s3 hz=>?_) hs;let⟨y,H3,I3,ry,a,H4,ex,g,q3⟩:=hz;subst ex;obtain rfl:u=Cg a:=rx;exact Zjt hu I3 g ry rv λs4 I4=>⟨σ,H4,I4,q3⟩
end
def Ze2{w:C0}(h:Heap)(hb:E5<h.objs.size):Y5 P w H (h.push {cls:=.type "dict",data:=.dict #[]}) h.objs.size (.dK []) :=
 ⟨Gc _,beq_eq_false_iff_ne.mpr (Cw (Gi hb)),[],.nil,Jkt h⟩
def Ze1{w:C0}(h:Heap)(hb:E5<h.objs.size):Y5 P w H (h.push {cls:=.type "dict",data:=.dict #[]}) h.objs.size (.dT []) :=
 ⟨Gc _,beq_eq_false_iff_ne.mpr (Cw (Gi hb)),[],.nil,_,#[],0,Da _ rfl,⟨rfl,rfl,rfl⟩,rfl,rfl,Fg⟩
def Zmy:TE:=λ_ H Q=>∀p,H p=none->Q (.ref p) (upd H p (.dK []))
def Zmx:TE:=λ_ H Q=>∀p,H p=none->Q (.ref p) (upd H p (.dT []))
section
def Rw:PE X (.Dict [] [] pos) Zmy:=λpq s σ H Q I h =>
 Jg0 ⟨.ref s.heap.objs.size,_,I.laid (a:=s.heap.objs.size) (o:=.dK []) (t':=s.toks) (λ_ _ q=>F9 _ q) (Jd _) (Ze2 s.heap I.big),rfl,h _ (I.hok.fresh (Jd _))⟩
def Zej:PE X (.Dict [] [] pos) Zmx:=λpq s σ H Q I h =>
 Jg0 ⟨.ref s.heap.objs.size,_,I.laid (a:=s.heap.objs.size) (o:=.dT []) (t':=s.toks) (λ_ _ q=>F9 _ q) (Jd _) (Ze1 s.heap I.big),rfl,h _ (I.hok.fresh (Jd _))⟩
end
structure M1(X:Cx)(o:Expr)(m:Str)(apos:Pos)(e:Expr)(cpos:Pos):Prop where
 base:Kj o m X.env (eval o X.env)=eval o X.env
 few:((Hy cpos (Ci [e] X.env)).all (λx=>!x.1)&&(Jfc cpos (Ly [] X.env)).all (λx=>x.1.isSome)
  && decide (([e]:List Expr).length+([]:List Jkb).length+(if([]:List Jkb).isEmpty then 0 else 1)<30))=true
 line:(apos.endLine==cpos.line)=true
 trees:Hy cpos (Ci [e] X.env)=[(false,eval e X.env)]
def IsD(H:Hp)(a:Addr):Prop:=(∃kvs,Rd H a (.dK kvs))\/∃kvs,Rd H a (.dT kvs)
def Zt2{a:Addr}(I:Inv X pq σ H s)(d:IsD H a) :
  s.TypeIs (.ref a) "dict"/\(∀b,Cg a=.ref b->∃ob,s.heap.get? b=some ob/\ob.dict=none)/\(a==E5)=false:=by
 rcases d with⟨kvs,e⟩|⟨kvs,e⟩
 .let⟨_,hd,vs,_,dd⟩:=Zbq I.hok e;exists dd.typeIs,λb q=>?_,hd;cases q;let⟨ob,_,_,h1,h2,_⟩:=dd;exists ob,h1,h2.2.1
 .let⟨_,hd,xs,_,dd⟩:=Zdh I.hok e;exists dd.typeIs,λb q=>?_,hd;cases q;let⟨ob,_,_,h1,h2,_⟩:=dd;exists ob,h1,h2.2.1
section
variable{a:Addr}{y:V}{u:Value}{o:Option V} 
def Zue{Q:Value->Ca->Prop}(hu:A.units+1<cLine)(I:Inv X pq σ H s)(g:DGet H a y o)(ry:RelV y u)(h:∀w' s',Inv X pq σ H s'->RelV (o.getD .non) w'->Q w' s') :
  Cc (Ch X.prog X.w) A (call (.builtin "dict.get") [.ref a,u]) Q E s:=by
 rcases g with⟨kvs,k,e,ey,l⟩|⟨kvs,k,b,e,ey,eb,l⟩
 .subst ey;let⟨z,hd,vs,rel,dd⟩:=Zbq I.hok e;refine call_meetsIn K4 dd.typeIs Jdy (Jc3 _ _) (meets_dict_get (Y4 X.prog X.w) a (Zc4 ry) hd) ⟨_,dd.mapOf,h _ _ (I.tok _) ?_⟩;rw[l];exact(rel.val k).getD rfl
 .subst ey;cases(show u=Cg b from ry);let⟨z,hd,xs,rel,dd⟩:=Zdh I.hok e;refine call_meetsIn K4 dd.typeIs Jdy (Jc3 _ _) (meetsH_dict_get (Mw (Y4 X.prog X.w)) a b hd) ⟨Hm hu,k,xs,Qr I.hok eb,dd,h _ _ (I.tok _) ?_⟩;rw[l];exact(rel.val k).getD rfl
end
def Zr9(td ty:TE):TE:=λσ H Q=>td σ H λx H1=>∃a,x=.ref a/\IsD H1 a/\ty σ H1 λy H2=>∃o,DGet H2 a y o/\Q (o.getD .non) H2
section
variable{o e:Expr}{cpos:Pos}{td ty:TE}
def Zek(hu:X.A.units+1<cLine)(ho:PE X o td)(he:PE X e ty)(m:M1 X o "get" apos e cpos):PE X (.Call (.Attribute o "get" apos) [e] [] cpos) (Zr9 td ty):=by
 intro pq s σ H Q I h;refine wpAny_Call_method m.base m.few m.line PySem.F.plainAttrs_dict K4 PySem.F.type_dict_get (thn (ho pq s σ H _ I h) λu s1 hz=>?_);let⟨x,H1,I1,rx,a,ex,d,q1⟩:=hz;subst ex;obtain rfl:u=Cg a:=rx;let⟨t1,t2,_⟩:=Zt2 I1 d;exists t1,t2,?_;rw[m.trees];refine Jdx rfl (Jek (Hl (thn (he pq s1 σ H1 _ I1 q1) λiv s2⟨y,H2,I2,ry,ov,g,q2⟩=>Ja1 ?_)));exact Zue hu I2 g ry λw' s3 I3 rw'=>⟨_,H2,I3,rw',q2⟩
end
end L2
namespace Att
open PySem PySem.W PySem.Calls PyProof.Rows
theorem Qt{P:Params} :∀(ns:List Int)(vs:List Value),WellAll P h vs (ns.map Jku)->Ms vs ns:=by
 intro ns
 induction ns with
 |nil =>
  intro vs w;rw[Ml]at w;cases w;exact .nil
 |cons n ns ih =>
  intro vs w;rw[Js]at w;cases w with
  |cons a b =>
   cases a;exact .cons _ _ (ih _ b)
theorem Zhi{l:OpenLaw}{n:Nat}(hn:l.most=some n){P:Params}{args:List WData}{vals:List Value}(hpre:l.row.toRowW.claim.pre args=true)(hwl:WellAll P h vals args) :
  ∃a vs ns,vals=[Cg a]/\args=[WData.list (ns.map Jku)]/\h.get? a=some {cls:=.type "list",data:=.seq vs.toArray}/\Ms vs ns/\ns.length<=n:=by
 let hsh:WShape.hasAll [] args [.list .int]=true:=(pre_splitW hpre).1;let hc:l.pre.holds [] {args:=args}=true:=(pre_splitW hpre).2;let⟨d,r,rfl,h1,h2⟩:=hasAllW_cons hsh;obtain rfl:=hasAllW_nil h2;let⟨xs,rfl,h3⟩:=hasW_list h1;let⟨ns,rfl⟩:=items_int h3;let hlen:ns.length<=n:=by
  unfold OpenLaw.pre at hc;let h4:(WTm.not (.lt (.lit (.int (n:Int))) (.len (.arg 0)))).holds [] {args:=[.list (ns.map .int)]}=true:=by
   let h4:=(holds_andW hc).1;rw[hn]at h4;exact h4
  let h5:=condW_of h4 (w_not (w_lt w_lit (w_len_list (w_arg rfl))));rw[Ja]at h5;refine Jg1 λq=>?_;let q':(n:Int)<((ns.length:Nat):Int):=by lia
  first
   |(rw[Df q']at h5;exact absurd h5 nofun)
   |(simp at h5;lia)
 cases hwl with
 |cons w1 w2 =>
  cases w2;cases w1 with
  |list ho hall=>exact⟨_,_,ns,rfl,rfl,ho,Qt ns _ hall,hlen⟩
def Zh4(l:OpenLaw)(args:List WData):l.row.toRowW.claim.post args (.bool true) args=true :=
 postW_of (r:=l.row.toRowW) (X:=(true==true))
  (show Jko [] (.bool true) .bool=true by first|rfl|decide|simp[Jko,WShape.arms,WShape.armsAll])
  (show(WTm.eq .res (.lit (.bool true))).value [] {args:=args,res:=some (.bool true),after:=args}=some (.bool (true==true))from w_eq_bool (w_res rfl) w_lit) rfl
def attach_call{l:OpenLaw}{n:Nat}{q:Ew}{loose:List Str}{XP:(Str->Option Value)->Heap->Prop}{YP:C0->Heap->Prop}{d:DefRec}(hn:l.most=some n)(hdf:d.params.defaults=[])(call:∀(w:C0)(s₀ s₁:Ca)(mg mb:Str->Option Value)(fa:Addr)(o:Obj)(pm cd doc:Value)(a:Addr)(vs:List Value)(ns:List Int),
   Ground q loose [] XP w s₀ mg mb s₁.heap->YP w s₁.heap ->
   s₁.heap.get? fa=some o->o.data=.func (docDef d.name d.params d.body d.scope pm cd doc)->s₁.heap.CodeRec cd d.name->mg d.name=some (.ref fa) ->
   s₁.heap.get? a=some {cls:=.type "list",data:=.seq vs.toArray}->Ms vs ns->ns.length<=n->s₁.gens=#[] ->
   Hz (Ch l.prog w) Jf4 (.call (.ref fa) ⟨[.ref a],[]⟩) (λr s'=>r=.ok (.ret (.bool true))/\OldK s₁.heap s'.heap/\s'.os=s₁.os/\Jb5 s'.gens) s₁) :
  WalkO q loose XP YP l.row.toRowW d [] (λf vs=>Jit f vs):=by
 intro w s₀ s₁ mg mb G Y fa o pm cd doc dV kV ho hd hcd hD hmg hg args vals as hpre hlay hrd hwl hlo;obtain rfl:dV=.none:=Dflts.none hD hdf;obtain rfl:kV=.none:=Dflts.noKw hD;let⟨a,vs,ns,rfl,rfl,hobj,hints,hlen⟩:=Zhi hn hpre hwl;refine enter_call (Kf (call w s₀ s₁ mg mb fa o pm cd doc a vs ns G Y ho (fd_plain hd) hcd hmg hobj hints hlen hg) λr s' hq=>?_);let⟨rfl,h2,h3,h4⟩:=hq;exists .inl ⟨.bool true,.bool true,[],rfl,λ_=>rfl,.bool true,Zh4 l _,λ_=>⟨Jf5,λ_ hm=>(nomatch hm)⟩⟩,h2,h3,h4
end Att
namespace L2
open PySem PySem.Spec PyProof.Rows
theorem Zah:∀{vs:List Value}{ns:List Int},Ms vs ns->Vals (ns.map V.int) vs:=by
 intro _ _ hz9;cases hz9 with
 |nil=>
  exact .nil
 |cons n t h=>
  exact .cons ⟨t,rfl⟩ (Zah h)
def W5(s:Stmt)(j:Nat):Stmt:=match s with
 |.ClassDef _ _ _ body _ _ _ _ _ _ _=>body.getD j (.Pass ⟨0,0,0,0⟩)
 |_=>.Pass ⟨0,0,0,0⟩
def Wn(s:Stmt):Arguments:=match s with
 |.FunctionDef _ a _ _ _ _ _ _ _ _=>a
 |_=>{posonlyargs:=[],args:=[],vararg:=none,kwonlyargs:=[],kw_defaults:=[],kwarg:=none,defaults:=[]}
def Xg(s:Stmt):List Stmt:=match s with
 |.FunctionDef _ _ b _ _ _ _ _ _ _=>b
 |_=>[]
def Zp(s:Stmt):Scope:=match s with
 |.FunctionDef _ _ _ _ _ _ sc _ _ _=>sc
 |_=>{kind:=.function,names:=[],isGenerator:=false,isCoroutine:=false}
abbrev CX0:CXT:=λ_ _ _ _ _ _=>False
abbrev E0:XK:=λ_ _ _=>False
def Zh9 :Re CX0 X E0:=λ_ _ _ _ _ _ _ h=>h.elim
structure Fun(K:Cm)(x qual:Str)(st:Stmt)(f:Addr)(fd:Mi):Prop where
 ex:∃(oc:Value)(od:Option Addr)(kV doc pm:Value)(an:Option Addr)(cdv ct:Value)(osl:Array (Option Value)),
  fd=Jer x qual (Wn st) (Xg st) (Zp st) .none kV doc pm an cdv ct/\K.lookup f=some ⟨oc,od,.func fd,osl⟩/\Jfd K cdv qual=true
 kp:Jb7 K (.ref f)=true
section
variable{w:C0}{base:Heap}
def Fun.ok{x:Str}{f:Addr}{k:Nat}(F:Fun K x qual st f fd)(S:FnScope N ps (Zp st))(len:∀vs H Q E,sp vs H Q E->vs.length=ps.length)(hbody:∀(cdv:Value)(A:K2)(outer:List Env)(s:Ca)(H:Hp)(vs:List V)(Q:VK)(E:XK),Room k (A.deeper (Kd qual (Zp st) s.heap.objs.size f cdv))->sp vs H Q E ->
   ∃t,PSs (cxOf CX0 P w K mg base N qual (Zp st) f cdv A outer s H E).nox (Xg st) t/\t {nx:=λ_ H'=>Q .non H',rt:=Q} (U6 N vs) H):FnOk P w K mg base CX0 (k+1) f fd ps sp:=by
 let⟨oc,od,kV,doc,pm,an,cdv,ct,osl,rfl,lk,hcd⟩:=F.ex;refine Zqd lk hcd S len λA outer s H vs Q E hr hsp=>?_;let⟨t,h,q⟩:=hbody cdv A outer s H vs Q E hr hsp;exists t,h.nox,q
def Fun.binds{x:Str}{f:Addr}(F:Fun K x qual st f fd)(h:∀(kV doc pm:Value)(an:Option Addr)(cdv ct:Value)(us:List Value),us.length=ps.length->Jfb (Jer x qual (Wn st) (Xg st) (Zp st) .none kV doc pm an cdv ct) ⟨us,[]⟩=pure (ps.zip us)):Vt K fd ps []:=by
 let⟨oc,od,kV,doc,pm,an,cdv,ct,osl,rfl,lk,hcd⟩:=F.ex;exact .all (h kV doc pm an cdv ct)
def Zjh{x:Str}{f:Addr}{oc:Value}{od an:Option Addr}{osl:Array (Option Value)}{kV doc cdv ct:Value}(l:K.lookup f=some ⟨oc,od,.func (Jer x qual (Wn st) (Xg st) (Zp st) .none kV doc pm an cdv ct),osl⟩)(c:Jfd K cdv qual=true)(k:Jb7 K (.ref f)=true):Fun K x qual st f (Jer x qual (Wn st) (Xg st) (Zp st) .none kV doc pm an cdv ct):=⟨⟨oc,od,kV,doc,pm,an,cdv,ct,osl,rfl,l,c⟩,k⟩
end
def X0{k:Nat}(hr:Room k A):A.units+1<cLine:=Bn (Nat.add_le_add_left (by decide:1<=64) _) hr.units
section
def pv(i:Nat){x:Str}(hN:X.N[i]?=some x:=by rfl)(hv:Vis X.env.scope x:=by first|left;rfl|right;left;rfl|right;right;rfl)(hd:(x==("__debug__":Str))=false:=by decide)(hcd:(x==("__classdict__":Str))=false:=by decide):PE X (.Name x pos) (tVar i):=Zs8 hN hv hd hcd
end
def iteF{A:Prop}(h:B):if false=true then A else B:=by
 rw[Dd Jr];exact h
def iteT{A:Prop}(h:A):if true=true then A else B:=by
 rw[De rfl];exact h
def ite2{c A:Prop}[Decidable c](h1:c->A)(h2:¬ c->B):if c then A else B:=by
 by_cases h:c
 .rw[De h];exact h1 h
 .rw[Dd h];exact h2 h
def Ztz{c A:Prop}[Decidable c](hc:c)(h:B):if(!decide c)=true then A else B:=by
 rw[Df hc];exact iteF h
def Same(H H':Hp):Prop:=∀b o,H b=some o->H' b=some o
def Same.refl(H:Hp):Same H H:=λ_ _ h=>h
def Same.trans(a:Same H H1)(b:Same H1 H2):Same H H2:=λc o h=>b c o (a c o h)
theorem Same.free(e:Same H H')(h:H' l=Option.none):H l=Option.none:=by
 cases q:H l with
 |none=>rfl
 |some o =>
  rw[e l o q]at h;cases h
def Same.seq{a:Addr}(e:Same H H')(h:SqL K H a xs):SqL K H' a xs:=by
 rcases h with(h|⟨o,h⟩)|h
 .exact .inl (.inl (e _ _ h))
 .exact .inl (.inr ⟨o,e _ _ h⟩)
 .exact .inr h
end L2
namespace L2
open PySem
def Wp(cells:List (Str×Addr)):List (Str×E2)->List (Str×Addr)->List (Str×Addr)
 |[],acc=>acc
 |(n,k)::r,acc=>if k == .free then Wp cells r ((n,(cells.lookup n).getD 0)::acc)else Wp cells r acc
def Zj6(env:Env)(l:List (Str×E2))(acc:List (Str×Addr)):Sem (List (Str×Addr)):=do
 let mut cs:=acc
 for (name,kind) in l do
  if kind == .free then cs:=(name,<-cellOf env name)::cs
 return cs
theorem P6{env:Env}:∀(l:List (Str×E2))(acc:List (Str×Addr)),(∀y∈l,y.2=.free->∃c,env.cells.lookup y.1=some c) ->
  Zj6 env l acc=pure (Wp env.cells l acc)
 |[],acc,_=>rfl
 |(n,k)::r,acc,h=>by
  let ih:=λacc=>P6 r acc λy hy=>h y (Jk _ hy);unfold Zj6 at ih⊢;rw[Wp];cases hk:(k==Ea)with
  |false =>
   simp only[Jhl,hk,Gv,if_false,pure_bind]at ih⊢;exact ih acc
  |true =>
   let⟨c,hc⟩:=h (n,k) Jn (by simpa using hk);let hc':env.cells.lookup n=some c:=hc;simp only[Jhl,hk,if_true,cellOf,hc',pure_bind,Jg2]at ih⊢;exact ih _
def P5{scope:Scope}{env:Env}(h:∀y∈scope.names,y.2=.free->∃c,env.cells.lookup y.1=some c):Jiu scope env=pure (Wp env.cells scope.names []) :=
 P6 scope.names [] h
theorem Td{cells:List (Str×Addr)}{x:Str}{c:Addr}:∀{l:List (Str×E2)}{acc:List (Str×Addr)},(∀y∈l,y.2=.free->∃c,cells.lookup y.1=some c) ->
  (Wp cells l acc).lookup x=some c->acc.lookup x=some c\/cells.lookup x=some c
 |[],acc,_,h=>.inl h
 |(n,k)::r,acc,hl,h=>by
  rw[Wp]at h
  by_cases hk:(k==Ea)=true
  .rw[De hk]at h;let⟨c',hc⟩:=hl (n,k) Jn (by simpa using hk);let hc':cells.lookup n=some c':=hc;rcases Td (λy hy=>hl y (Jk _ hy)) h with z|z
   .rw[G4,hc']at z;cases hx:(x==n)with
    |true =>
     rw[hx]at z;let e:x=n:=by simpa using hx
     subst e;let z':c'=c:=by simpa using z
     subst z';exact .inr hc'
    |false=>rw[hx]at z;exact .inl z
   .exact .inr z
  .rw[Dd hk]at h;exact Td (λy hy=>hl y (Jk _ hy)) h
theorem Ud{cells:List (Str×Addr)}{x:Str}:∀{l:List (Str×E2)}{acc:List (Str×Addr)},(∃c,acc.lookup x=some c)->∃c,(Wp cells l acc).lookup x=some c
 |[],acc,h=>h
 |(n,k)::r,acc,h=>by
  rw[Wp]
  by_cases hk:(k==Ea)=true
  .rw[De hk];refine Ud ?_;rw[G4];cases hx:(x==n)with
   |true=>exact⟨_,rfl⟩
   |false=>exact h
  .rw[Dd hk];exact Ud h
theorem Uy{cells:List (Str×Addr)}{x:Str}:∀{l:List (Str×E2)}{acc:List (Str×Addr)},(x,Ea)∈l->∃c,(Wp cells l acc).lookup x=some c
 |[],acc,h=>nomatch h
 |(n,k)::r,acc,h=>by
  rw[Wp];rcases Jp.mp h with e|h
  .cases e;rw[De (by rfl)];refine Ud ?_;rw[G4,beq_self_eq_true];exists ·
  .by_cases hk:(k==Ea)=true
   .rw[De hk];exact Uy h
   .rw[Dd hk];exact Uy h
def V7{scope:Scope}{env:Env}(nc:∀y∈scope.names,y.2≠.cell){x:Str}(h:(Jkc scope env).names.lookup x=some .cell\/(Jkc scope env).names.lookup x=some .free):(x,Ea)∈scope.names:=by
  let go:∀(l:List (Str×E2)),(∀y∈l,y.2≠.cell) ->
      ((l.map λ(n,k)=>if(k==Ea&&env.scope.kind == .function&&env.kindOf n==some .cell)then(n,Ln)else(n,k)).lookup x=some .cell \/
       (l.map λ(n,k)=>if(k==Ea&&env.scope.kind == .function&&env.kindOf n==some .cell)then(n,Ln)else(n,k)).lookup x=some .free)->(x,Ea)∈l:=by
    intro l
    induction l with
    |nil=>intro _ h;rcases h with h|h<;>cases h
    |cons a r ih =>
      let⟨n,k⟩:=a;intro nc h;let nck:k≠.cell:=nc (n,k) Jn;simp only[Js]at h
      by_cases hx:(x==n)=true
      · let e:x=n:=by simpa using hx
        subst e
        by_cases hk:k=.free
        · subst hk;exact Jn
        · let hb:(k==Ea)=false:=by simpa using hk
          simp only[hb,Jhz,Gv,if_false,G4,beq_self_eq_true]at h;rcases h with h|h
          · exact absurd (Dh h) nck
          · exact absurd (Dh h) hk
      · let hx':(x==n)=false:=by simpa using hx
        refine Jk _ (ih (λy hy=>nc y (Jk _ hy)) ?_);let el:∀(p:Str×E2)(t:List (Str×E2)),p.1=n->(p::t).lookup x=t.lookup x:=by
          intro p t e;let⟨a,b⟩:=p;let e':a=n:=e;subst e';rw[G4,hx']
        rw[el _ _ (by split<;>rfl)]at h;exact h
  exact go scope.names nc h
def To{scope:Scope}{env:Env}{x:Str}(h:(Jkc scope env).names.lookup x=some .local):scope.names.lookup x=some .local:=by
 let go:∀(l:List (Str×E2)),
   (l.map λ(n,k)=>if(k==Ea&&env.scope.kind == .function&&env.kindOf n==some .cell)then(n,Ln)else(n,k)).lookup x=some .local->l.lookup x=some .local:=by
  intro l
  induction l with
  |nil=>intro h;cases h
  |cons a r ih =>
   let⟨n,k⟩:=a;intro h;simp only[Js]at h
   by_cases hx:(x==n)=true
   .let e:x=n:=by simpa using hx
    subst e
    by_cases hc:(k==Ea&&env.scope.kind == .function&&env.kindOf x==some .cell)=true
    .rw[De hc,G4,beq_self_eq_true]at h;cases h
    .rw[Dd hc,G4,beq_self_eq_true]at h;rw[G4,beq_self_eq_true];exact h
   .let hx':(x==n)=false:=by simpa using hx
    let el:∀(p:Str×E2)(t:List (Str×E2)),p.1=n->(p::t).lookup x=t.lookup x:=by
     intro p t e;let⟨a,b⟩:=p;let e':a=n:=e;subst e';rw[G4,hx']
    rw[el _ _ (by split<;>rfl)]at h;rw[el _ _ rfl];exact ih h
 exact go scope.names h
end L2
namespace L2
open PySem PySem.Spec PyProof.Rows
def nbOf(N T:List Str)(cs:List Nat):List Str:=T++cs.map λi=>N.getD i Je9
def sgOf(σ:St)(T:List Str)(cs:List Nat):St:=T.map (λ_=>none)++cs.map λi=>σ.getD i none
structure CScope(outer scope:Scope)(N T:List Str)(cs:List Nat):Prop where
 kind:scope.kind=.function
 nocell:∀y∈scope.names,y.2≠.cell
 names:∀y∈scope.names,y.2=.local->scope.names.lookup y.1=some .local
 free:∀y∈scope.names,y.2=.free->outer.names.lookup y.1=some .cell\/outer.names.lookup y.1=some .free
 cap:∀i∈cs,scope.names.lookup (N.getD i Je9)≠some .local
def Zj4(outer scope:Scope)(N:List Str)(cs:List Nat):Bool :=
 decide (scope.kind=.function)&&(scope.names.all (λy=>!decide (y.2=Ln))&&(scope.names.all (λy=>!decide (y.2=E2.local) ||decide (scope.names.lookup y.1=some E2.local)) &&
  (scope.names.all (λy=>!decide (y.2=Ea) ||(decide (outer.names.lookup y.1=some Ln) ||decide (outer.names.lookup y.1=some Ea)))&&cs.all (λi=>!decide (scope.names.lookup (N.getD i Je9)=some E2.local)))))
def CScope.ok{outer scope:Scope}(h:Zj4 outer scope N cs=true):CScope outer scope N T cs:=by
 unfold Zj4 at h;simp only[Bu,Fy,Bool.or_eq_true,decide_eq_true_eq,Jf6,decide_eq_false_iff_not]at h;let⟨h1,h2,h3,h4,h5⟩:=h;exists h1,h2,λy hy e=>(h3 y hy).resolve_left (λq=>q e),λy hy e=>(h4 y hy).resolve_left (λq=>q e),h5
def X7{l:List Str}(h:decide l.Nodup=true):l.Nodup:=of_decide_eq_true h
def blk(X:Cx)(T:List Str)(cs:List Nat)(scope:Scope)(C:Addr)(s₀:Ca)(H₀:Hp)(ex:List Addr):Cx where
 prog:=X.prog
 w:=X.w
 K:=X.K
 mg:=X.mg
 base:=X.base
 A:=X.A
 N:=nbOf X.N T cs
 s₀:=s₀
 H₀:=H₀
 env:=compEnvC scope (Wp X.env.cells scope.names []) C X.env
 outer:=X.stack
 stack:=X.stack
 ex:=ex
 fn:=λ_=>false
 calm:=X.calm
 pn:=[]
 xe:=λ_ _=>False
section
variable{scope:Scope} 
def Inv.hl(I:Inv X pq σ H s)(S:CScope X.env.scope scope X.N T cs):∀y∈scope.names,y.2=.free->∃c,X.env.cells.lookup y.1=some c :=
 λy hy e=>I.ok.has y.1 (S.free y hy e)
def Inv.clo(I:Inv X pq σ H s)(S:CScope X.env.scope scope X.N T cs){x:Str}{c:Addr}(h:(Wp X.env.cells scope.names []).lookup x=some c):X.env.cells.lookup x=some c :=
 (Td (I.hl S) h).resolve_left (by simp)
theorem Zp5(I:Inv X pq σ H s)(S:CScope X.env.scope scope X.N T cs)(hf:∀b∈fp,FpOk X pq H b)(hfe:∀b∈fp,∃o,s.heap.get? b=some o){h1:Heap}{m:Str->Option Value}{tk:Nat}(hC:s.heap.objs.size<=C)(ns:h1.Ns C m)(k:∀b o,s.heap.get? b=some o->h1.get? b=some o) :
  Inv (blk X T cs scope C s H fp) [] (sgOf σ T cs) H {s with heap:=h1,toks:=tk}:=by
 let fr:H C=none:=I.hok.fresh hC;let cellS:∀{c:Addr}{v:Option Value},s.heap.IsCell c v->h1.IsCell c v:=λ⟨o,e,d⟩=>⟨o,k _ o e,d⟩;refine⟨⟨I.ok.mod,S.kind,I.ok.glob,I.ok.blt,hC,λx y c e1 e2=>I.ok.inj x y c (I.clo S e1) (I.clo S e2),λx hx=>Uy (V7 S.nocell hx),λx c h _=>absurd (show false=true from h) Jr,
  I.ok.hd,I.ok.frames,.inl rfl,λb hb=>⟨?_,λx c e=>(hf b hb).2.2.2.2.1 x c (I.clo S e)⟩,I.bs,J8 I.ok.bsz I.sz,λb o e hb=>?_,λb hb z=>?_,I.stack,I.stkFree⟩,
  rfl,I.bare,Un.kept k,⟨m,ns,λi x v h1' h2' h3'=>?_⟩,λx c e=>?_,fr,λx c e=>I.freeC x c (I.clo S e),λp hp=>absurd (show p∈([]:List (Addr×Obj))from hp) (by simp),I.hok.kept k,?_⟩
 .let⟨o,e⟩:=hfe b hb;exact Gi (Jy (Db e) hC)
 .rcases(hf b hb).2.2.2.1 with z|z
  .exact I.ok.noex b o e z
  .exact absurd (Jy (Jy (Db e) I.ok.bsz) z) (Bl _)
 .rcases Jp.mp (I.stkSub b z)with e|e
  .exact(hf b hb).2.1 e
  .exact(hf b hb).2.2.1 e
 .let h2:(sgOf σ T cs)[i]?=some (some v):=h2';let h1'':(nbOf X.N T cs)[i]?=some x:=h1';unfold sgOf at h2;unfold nbOf at h1''
  by_cases hi:i<T.length
  .rw[Jq (by simpa using hi),Jx]at h2;cases e:T[i]? with
   |none=>rw[e]at h2;cases h2
   |some a=>rw[e]at h2;cases h2
  .rw[J9 (by simpa using hi),Jx,Ja]at h2;rw[J9 (),Jx]at h1'';cases e:cs[i-T.length]? with
   |none=>rw[e]at h2;cases h2
   |some c0 =>
    rw[e]at h2 h1'';let ex:X.N.getD c0 Je9=x:=Dh h1'';let ev:σ.getD c0 none=some v:=Dh h2;let eσ:σ[c0]?=some (some v):=by
     rw[Gq]at ev;cases q:σ[c0]? with
     |none=>rw[q]at ev;cases ev
     |some z=>rw[q]at ev;exact congrArg some ev
    let hlt:c0<X.N.length:=by
     let:=(Je.mp eσ).1;rw[I.len]at this;exact this
    let eN:X.N[c0]?=some x:=by
     rw[Gq,Jb hlt]at ex;rw[Jb hlt];exact congrArg some ex
    let hfree:(x,Ea)∈scope.names:=by
     rcases h3' with z|z|z
     .exact absurd (To z) (by rw[<-ex];exact S.cap c0 (Gr e))
     .exact V7 S.nocell (.inl z)
     .exact V7 S.nocell (.inr z)
    let ok:=S.free _ hfree rfl;let⟨m',hn',hl'⟩:=I.loc;let⟨u,r,l⟩:=hl' c0 x v eN eσ (.inr ok);exists u,r,?_;rcases l with⟨kd,_⟩|⟨_,c,ec,z⟩
    .let kd':X.env.scope.names.lookup x=some .local:=kd;rcases ok with q|q<;>(rw[show X.env.scope.names.lookup x=_ from q]at kd';cases kd')
    .let⟨c',ec'⟩:=Uy (cells:=X.env.cells) (acc:=[]) hfree;let:c'=c:=by
      let q:=I.clo S ec';rw[ec]at q;exact(Dh q).symm
     subst this;refine .inr ⟨?_,c',ec',cellS z⟩;rcases h3' with q|q|q
     .exact absurd (To q) (by rw[<-ex];exact S.cap c0 (Gr e))
     .exact .inl q
     .exact .inr q
 .let⟨v,z⟩:=I.cell x c (I.clo S e);exists v,cellS z
 .show(sgOf σ T cs).length=(nbOf X.N T cs).length;simp[sgOf,nbOf]
def Inv.track{D:Addr}{n:Nat}(I:Inv X pq σ H s)(hD:s.heap.get? D=some {cls:=.type "list",data:=.seq its.toArray n})(f:FpOk X pq H D)(rv:Vals ys its)(hz:ys.length<=sizeLine) :
  Inv X pq σ (upd H D (.lst ys)) s:=by
 let⟨f0,f1,f2,f3,f4,f5⟩:=f;let hok:HOk X.prog X.w (upd H D (.lst ys)) s.heap:=λb u e=>by
  by_cases hb:b=D
  .subst hb;rw[Zg]at e;cases e;exists hz,its,n,rv,hD
  .rw[Zn hb]at e;exact(I.hok b u e).stay (λ_ _ _ q=>q) (λc q=>by rw[Zn (Zr q f0)];exact q) λc xs q=>by rw[Zn (Zr q f0)];exact q
 let st:=I.step (H':=upd H D (.lst ys)) (h':=s.heap) (g':=s.gens) (t':=s.toks) (d':=s.drawn) (ch:=[D])
  (λb hb=>by
   let e:b=D:=by simpa using hb
   subst e;exact⟨f3,f1,f4,f5⟩)
  (λb o _ _ _ e _=>e) (λb o _ _ _ e _=>⟨o.slots,e⟩) (λb o hc e n=>by rw[Zn (λz=>hc (by simp[z]))];exact n) (λb o _ e=>⟨o,e⟩)
  (λb xs e=>by rw[Zn (Zr e f0)];exact e) (λb o u e=>by rw[Zn (Zr e f0)];exact e) (λb ps e=>⟨#[],by rw[Zn (Zr e f0),e];simp⟩) (λm h=>h) hok I.bare
 exact st
end
section
variable{w:C0}{R:Jhh->Ca->Prop} 
abbrev Zgv(ifs:List Expr)(env:Env):Sem Bool:=forIn ifs true λc r=>if r=true then do let ok <-isTrue c env (eval c env);pure (Jhm ok)else pure (Jhm r)
theorem Zbw{elt target iter:Expr}{ifs:List Expr}{scope:Scope}{it acc:Value}{env:Env}(I:Nat->Ca->Prop)(turn:∀n s,I n s->Cc (Ch prog w) A (Jgj it) (λr s₁=>match r with
   |none=>R (.ok .next) s₁
   |some v=>Cc (Ch prog w) A (Lw target it v) (λ_ s₂=>Cc (Ch prog w) A (Jgi target env v) (λ_ s₃ =>
     Cc (Ch prog w) A (Zgv ifs env) (λok s₄ =>
      if ok=true then Cc (Ch prog w) A (eval elt env) (λx s₅ =>
       Cc (Ch prog w) A (call (.builtin "list.append") [acc,x]) (λ_ s₆=>∃m,m<n/\I m s₆) (λ_ _=>False) s₅) (λ_ _=>False) s₄
      else ∃m,m<n/\I m s₄) (λ_ _=>False) s₃) (λ_ _=>False) s₂) (λ_ _=>False) s₁) (λ_ _=>False) s)(n:Nat)(h:I n s) :
  Hz (Ch prog w) A (.compLoop (.ListComp elt [⟨target,iter,ifs,0⟩] scope pos) 0 it acc env) R s:=by
 refine codeAny_loop rfl I (λn s hI=>?_) n h;show Cc _ A ((compTurn (.ListComp elt [⟨target,iter,ifs,0⟩] scope pos) 0 it acc env).onRaise (λx=>do Ja6 x env;Jhn x)) _ _ s;refine wpAny_noted ?_;rw[compTurn_list];refine F7 (Hw (F7 (Dj (turn n s hI) (λr s₁ h₁=>?_) λ_ _ h'=>Cq h')));cases r with
 |none=>exact F8 h₁
 |some v =>
  refine F7 (Dj h₁ (λ_ s₂ h₂=>?_) λ_ _ h'=>Cq h');refine F7 (Dj h₂ (λ_ s₃ h₃=>F7 (Dj h₃ (λok s₄ h₄=>?_) λ_ _ h'=>Cq h')) λ_ _ h'=>Cq h');cases ok with
  |false=>exact F8 ⟨rfl,h₄⟩
  |true =>
   exact F7 (F7 (Dj h₄ (λx s₅ h₅=>F7 (Dj h₅ (λ_ s₆ h₆=>F8 (F8 ⟨rfl,h₆⟩)) λ_ _ h'=>Cq h')) λ_ _ h'=>Cq h'))
end
def PTs(X:Cx)(ifs:List Expr)(t:TT):Prop :=
 ∀(pq:List (Addr×Obj))(s:Ca)(σ:St)(H:Hp)(Q:Bool->Hp->Prop),Inv X pq σ H s->t σ H Q->Cc (Ch X.prog X.w) X.A (Zgv ifs X.env) (TP X pq σ Q) X.xe s
def Zr2:TT:=λ_ H Q=>Q true H
def Y7 :PTs X [] Zr2:=λpq s σ H Q I h=>wpAny_tests_nil ⟨H,I,h⟩
def Nj{c:Expr}{t:TT}(hc:PT X c t):PTs X [c] t:=λpq s σ H Q I h=>wpAny_tests_one (hc pq s σ H Q I h)
def Ag(n:Nat)(σ σ0:St):Prop:=σ.length=σ0.length/\∀i,n<=i->σ[i]?=σ0[i]?
def Zb5(g:TG)(n:Nat):Prop:=∀σ0 x σ H R,Ag n σ σ0->g x σ H R->g x σ H λσ2 H2=>R σ2 H2/\Ag n σ2 σ0
def Zaf(g:TGs)(n:Nat):Prop:=∀σ0 xs σ H R,Ag n σ σ0->g xs σ H R->g xs σ H λσ2 H2=>R σ2 H2/\Ag n σ2 σ0
theorem Ag.set{n i:Nat}{σ0:St}(a:Ag n σ σ0)(h:i<n)(v:Option V):Ag n (σ.set i v) σ0 :=
 ⟨by rw[Go];exact a.1,λj hj=>(Ga ()).trans (a.2 j hj)⟩
def Y8{i n:Nat}(h:i<n):Zb5 (Zbk i) n:=λσ0 x σ H R a q=>⟨q,a.set h _⟩
def N4{n:Nat}:Zaf gNil n:=λσ0 xs σ H R a q=>⟨q.1,q.2,a⟩
def Ww{i n:Nat}{u:TGs}(h:i<n)(h2:Zaf u n):Zaf (Zqb (Zbk i) u) n:=λσ0 xs σ H R a q=>by
 let⟨v,r,e,q⟩:=q;exists v,r,e,h2 σ0 r _ _ _ (a.set h _) q
def Zev{m n:Nat}{t:TGs}(h:Zaf t n):Zb5 (gTup K m t) n:=λσ0 x σ H R ag q=>by
 let⟨a,xs,e,hq,hl,q⟩:=q;exists a,xs,e,hq,hl,h σ0 xs σ H R ag q
section
variable{scope:Scope}{elt iter:Expr}{ifs:List Expr}{tt:TT} 
theorem Zbv{RR:Value->Addr->Jhh->Ca->Prop}{Fin:List V->Hp->Prop}{J:It}{tn:Nat->Heap->Prop}(I:Inv X pq σ H s)(hc:X.calm=true)(S:CScope X.env.scope scope X.N T cs)(Tn:Turn X.prog X.w X.K tg J fp it tn)(st:tn 0 s.heap)(hf:∀b∈fp,FpOk X pq H b)(hg:∀C s₀ H₀ ex,PG (blk X T cs scope C s₀ H₀ ex) tg g)(ht:∀C s₀ H₀ ex,PTs (blk X T cs scope C s₀ H₀ ex) ifs tt)(he:∀C s₀ H₀ ex,PE (blk X T cs scope C s₀ H₀ ex) elt te)(hk:Zb5 g T.length)(W:Nat->Nat->List V->Hp->Prop)(w0:∃m,W 0 m [] H)(turn:∀i m ys H,W i m ys H->(J.stop i H/\ys.length<=sizeLine/\Fin ys H)\/(J.go i H/\ys.length<sizeLine/\∃N:List V->Hp->Prop,(∀ys' H',N ys' H'->∃m',m'<m/\W (i+1) m' ys' H') /\
   ∀x H',J.yld i H x H'->g x (sgOf σ T cs) H' λσ2 H2=>tt σ2 H2 λb H3=>if b=true then te σ2 H3 λy H4=>N (ys++[y]) H4 else N ys H3))(fin:∀(D C:Addr)(s':Ca)(m:Str->Option Value)(ys:List V)(H':Hp),Fin ys H'->H' D=none->s'.heap.Ns C m->FpOk X pq H' C->C≠D->Inv X pq σ (upd H' D (.lst ys)) s'->RR (.ref D) C (.ok .next) s') :
  Cc (Ch X.prog X.w) X.A (newList []) (λacc s₃=>Cc (Ch X.prog X.w) X.A (newFunctionEnv scope X.env.globals (Wp X.env.cells scope.names []) [] X.env.qual none .none (some X.env)) (λcenv s₄ =>
   Hz (Ch X.prog X.w) X.A (.compStart (.ListComp elt [⟨tg,iter,ifs,0⟩] scope pos) 0 (.ref it) acc {cenv with scope:=Jkc scope X.env}) (RR acc cenv.locals) s₄) E s₃) E s:=by
 refine Hb (wpAny_newFunctionEnv S.nocell (by intro y hy;simp at hy) (λh₁ hns₁ hsb₁=>?_) S.kind);dsimp only at hns₁ hsb₁⊢;generalize hH2:s.heap.push {cls:=.type "list",dict:=none,data:=.seq ([]:List Value).toArray}=H2 at hns₁ hsb₁⊢;let hCe:H2.objs.size=s.heap.objs.size+1:=by rw[<-hH2,Hj]
 let hDC:s.heap.objs.size≠H2.objs.size:=by rw[hCe];exact Gi (Fx _)
 let hCle:s.heap.objs.size<=H2.objs.size:=by rw[hCe];exact Bw _
 let old:∀b o,s.heap.get? b=some o->h₁.get? b=some o:=λb o e =>
  hsb₁.extBut b o (by rw[hCe];exact Gi (Ja7 (Db e))) (F9 _ (hH2 ▸ F9 _ e))
 let hacc:h₁.get? s.heap.objs.size=some {cls:=.type "list",data:=.seq ([]:List Value).toArray 0}:=hsb₁.extBut _ _ hDC (F9 _ (hH2 ▸ Da _ rfl));let hfe:∀b∈fp,∃o,s.heap.get? b=some o:=λb hb=>let⟨o,e,_⟩:=Tn.obj _ _ st b hb;⟨o,e⟩
 let hlt:∀b∈fp,b<s.heap.objs.size:=λb hb=>let⟨o,e⟩:=hfe b hb;Db e
 let st₁:tn 0 h₁:=Tn.keep _ _ _ st λb _ o e=>old b o e;generalize hDD:s.heap.objs.size=D at *
 generalize hCC:H2.objs.size=C at *
 let hnD:H D=none:=I.hok.fresh (Bv hDD);let stat:∀{H':Hp}{its:List Value}{n:Nat},(∀b∈fp,H' b=none)->∀b∈fp,FpOk (blk X T cs scope C s H fp) [(D,({cls:=.type "list",data:=.seq its.toArray n}:Obj))] H' b:=λhn b hb=>by
  let⟨f0,f1,f2,f3,f4,f5⟩:=hf b hb;exists hn b hb,Gi (Jy (hlt b hb) hCle),λz=>?_,.inl hb,λx c e=>f4 x c (I.clo S e),λp hp z=>?_
  .rcases Jp.mp (I.stkSub b z)with e|e
   .exact f1 e
   .exact f2 e
  .let e:p.1=D:=by
    rcases Gb.mp hp with q|q
    .exact absurd (show p∈([]:List (Addr×Obj))from q) (by simp)
    .rw[Jj.mp q]
   exact absurd (hlt b hb) (by rw[<-z,e];exact Bl _)
 let loop:∀tk:Nat,Hz (Ch X.prog X.w) X.A (.compLoop (.ListComp elt [⟨tg,iter,ifs,0⟩] scope pos) 0 (.ref it) (.ref D) (compEnvC scope (Wp X.env.cells scope.names []) C X.env)) (RR (.ref D) C) {s with heap:=h₁,toks:=tk}:=by
  intro tk;let I1:Inv (blk X T cs scope C s H fp) [] (sgOf σ T cs) H {s with heap:=h₁,toks:=tk}:=Zp5 I S hf hfe (by rw[hDD];exact hCle) hns₁ old;let⟨m0,w0⟩:=w0;let pinD:∀{σ':St}{H':Hp}{s':Ca}{its:List Value}{n:Nat}{pl:List (Addr×Obj)},Inv (blk X T cs scope C s H fp) pl σ' H' s'->s'.heap.get? D=some {cls:=.type "list",data:=.seq its.toArray n}->H' D=none ->
    Inv (blk X T cs scope C s H fp) [(D,({cls:=.type "list",data:=.seq its.toArray n}:Obj))] σ' H' s':=λ{σ' H' s' its n pl}J e hn=>J.pins_of λp hp=>by
   obtain rfl:=Jj.mp hp;refine⟨e,hn,hDC,λz=>?_,λv q=>by cases q⟩;let z':D∈frs X.stack:=z;let⟨_,o,ho,_⟩:=I.stack.mem z';exact absurd (Db ho) (by rw[hDD];exact Bl _)
  refine Zbw (λn s'=>∃(i:Nat)(ys:List V)(its:List Value)(k:Nat)(H':Hp),Inv (blk X T cs scope C s H fp) [(D,({cls:=.type "list",data:=.seq its.toArray k}:Obj))] (sgOf σ T cs) H' s'/\Vals ys its/\tn i s'.heap/\(∀b∈fp,H' b=none)/\W i n ys H') ?_ m0
   ⟨0,[],[],0,H,pinD I1 hacc hnD,.nil,st₁,λb hb=>(hf b hb).1,w0⟩
  rintro n s1 ⟨i,ys,its,k,H1,J1,rv,st1,fr1,w1⟩;rcases turn i n ys H1 w1 with⟨stop,hz,fq⟩|⟨go,hz,N,hN,step⟩
  .refine Dj (Tn.done (blk X T cs scope C s H fp) rfl rfl rfl hc i _ s1 _ H1 (λ_ _=>False) J1 (stat fr1) st1 stop) (λr s2 hz=>?_) λ_ _ z=>z;let⟨hr,J2⟩:=hz;subst hr;let⟨eD,nD,_⟩:=J2.pin (D,({cls:=.type "list",data:=.seq its.toArray k}:Obj)) (Jt _ (Jj.mpr rfl));let J3:Inv X pq σ H1 s2:=I.call' (ch:=fp) J2.os J2.base J2.hok J2.bare λb hb=>by
    let⟨f0,f1,f2,f3,f4,f5⟩:=hf b hb;exists f3,f1,f4,f5
   let⟨mC,hnC,_⟩:=J2.loc;let fC:FpOk X pq H1 C:=I.fpOk (by rw[hDD];exact hCle) J2.free;let fD:FpOk X pq H1 D:=I.fpOk (Bv hDD) nD;exact fin D C s2 mC ys H1 fq nD hnC fC (Cw hDC) (J3.track eD fD rv hz)
  .refine Dj (Tn.item (blk X T cs scope C s H fp) rfl rfl rfl hc i _ s1 _ H1 (λ_ _=>False) J1 (stat fr1) st1 go) (λr s2 hz=>?_) λ_ _ z=>z;let⟨u,hr,h2⟩:=hz;subst hr;refine Dj h2 (λ_ s3 hz=>?_) λ_ _ z=>z;let⟨x,H3,J3,r3,y3,st3,fr3⟩:=hz;let J3':=J3.pinned (stat fr3) (Tn.obj _ _ st3);refine Dj (hg C s H fp _ s3 _ H3 x u _ J3' r3 (hk (sgOf σ T cs) x _ H3 _ ⟨rfl,λ_ _=>rfl⟩ (step x H3 y3))) (λ_ s4 hz=>?_) λ_ _ z=>z;let⟨σ4,H4,J4,q4,l4,k4⟩:=hz;refine Dj (ht C s H fp _ s4 σ4 H4 _ J4 q4) (λb s5 hz=>?_) λ_ _ z=>z;let⟨H5,J5,q5⟩:=hz;let wk:∀{pl:List (Addr×Obj)}{H':Hp}{s':Ca},Inv (blk X T cs scope C s H fp) pl σ4 H' s'->Inv (blk X T cs scope C s H fp) pl (sgOf σ T cs) H' s':=λJ=>J.weak l4.symm λj v e=>by
    by_cases hj:T.length<=j
    .rw[k4 j hj];exact e
    .exfalso
     unfold sgOf at e;rw[Jq (by simp;lia),Jx]at e;cases q:T[j]? with
     |none=>rw[q]at e;cases e
     |some a=>rw[q]at e;cases e
   let tnk:∀{H':Hp}{s':Ca}{σ':St},Inv (blk X T cs scope C s H fp) ([(D,({cls:=.type "list",data:=.seq its.toArray k}:Obj))]++Zay fp s3.heap) σ' H' s'->tn (i+1) s'.heap/\∀b∈fp,H' b=none:=λ{H' s' σ'}J=>by
    exists Tn.keep _ _ _ st3 λb hb o e=>(J.pin (b,o) (Jt _ (Jt _ (Uw hb e)))).1,λb hb=>?_;let⟨o,e,d⟩:=Tn.obj _ _ st3 b hb;exact(J.pin (b,o) (Jt _ (Jt _ (Uw hb e)))).2.1
   cases b with
   |false =>
    rw[Dd Jr]at q5⊢;let⟨m',hm,w5⟩:=hN _ _ q5;let⟨t5,f5⟩:=tnk J5;exists m',hm,i+1,ys,its,k,H5,wk J5.unpinned,rv,t5,f5,w5
   |true =>
    rw[De rfl]at q5⊢;refine Dj (he C s H fp _ s5 σ4 H5 _ J5 q5) (λuy s6 hz=>?_) λ_ _ z=>z;let⟨y,H6,J6,ry,n6⟩:=hz;let⟨m',hm,w6⟩:=hN _ _ n6;let⟨t6,f6⟩:=tnk J6;let⟨eD,nD,_⟩:=J6.pin (D,({cls:=.type "list",data:=.seq its.toArray k}:Obj)) (Jt _ (Bh _ (Jj.mpr rfl)));let hsz:its.toArray.size<=sizeLine:=by rw[Jm,<-rv.length];lia
    refine append_at (hsz:=hsz) eD λh7 sb hD7=>?_;let J6':Inv (blk X T cs scope C s H fp) [] σ4 H6 s6:=J6.pins_of λp hp=>absurd hp (by simp);let J7:Inv (blk X T cs scope C s H fp) [] σ4 H6 {s6 with heap:=h7}:=J6'.turned (t':=s6.toks) (it:=D) (λb o hb e=>(sb.2 b hb).trans e) nD hDC (.inr (Bv hDD))
     (λx c e z=>by
      let⟨v,q⟩:=I.cell x c (I.clo S e);exact absurd q.lt (by rw[z,hDD];exact Bl _))
     (λp hp=>absurd hp (by simp[blk]))
    let hD7':h7.get? D=some {cls:=.type "list",data:=.seq (its++[uy]).toArray (k+1)}:=by
     rw[hD7,Jf7]
    exists m',hm,i+1,ys++[y],its++[uy],k+1,H6,wk (pinD J7 hD7' nD),rv.append (.cons ry .nil),Tn.keep _ _ _ t6 λb hb o e=>(sb.2 b (Gi (hlt b hb))).trans e,f6,w6
 exact codeAny_compStart_list (loop _) (Tn.self _ 0 _ _ _ st₁ (loop _))
def Zg1(wi:TI)(g:TG)(tt:TT)(te:TE)(T:List Str)(cs:List Nat):TE:=λσ H Q=>wi σ H λJ H1=>∃W:Nat->Nat->List V->Hp->Prop,(∃m,W 0 m [] H1) /\
 ∀i m ys H,W i m ys H->(J.stop i H/\ys.length<=sizeLine/\∀p,H p=none->Q (.ref p) (upd H p (.lst ys)))\/(J.go i H/\ys.length<sizeLine/\∃N:List V->Hp->Prop,(∀ys' H',N ys' H'->∃m',m'<m/\W (i+1) m' ys' H') /\
  ∀x H',J.yld i H x H'->g x (sgOf σ T cs) H' λσ2 H2=>tt σ2 H2 λb H3=>if b=true then te σ2 H3 λy H4=>N (ys++[y]) H4 else N ys H3)
def Xk(hc:X.calm=true)(S:CScope X.env.scope scope X.N T cs)(hi:PI X tg iter wi)(hg:∀C s₀ H₀ ex,PG (blk X T cs scope C s₀ H₀ ex) tg g)(ht:∀C s₀ H₀ ex,PTs (blk X T cs scope C s₀ H₀ ex) ifs tt)(he:∀C s₀ H₀ ex,PE (blk X T cs scope C s₀ H₀ ex) elt te)(hk:Zb5 g T.length)(hs:∀x,Mz iter X.env x=pure x:=by intro _;rfl):PE X (.ListComp elt [⟨tg,iter,ifs,0⟩] scope pos) (Zg1 wi g tt te T cs):=by
 intro pq s σ H Q I h;rw[eval_ListComp];refine Ja8 (use:=none) rfl hs (P5 (I.hl S)) S.kind S.names (thn (hi pq s σ H _ I h) λv s1 h1=>thn h1 λitv s2 h2=>?_);let⟨it,fp,tn,J,H2,e,I2,Tn,st,hf,W,w0,turn⟩:=h2;subst e;refine Zbv (RR:=λacc C=>compPost (Ch X.prog X.w) X.A X.xe none (EP X pq σ Q) acc C) (Fin:=λys H=>∀p,H p=none->Q (.ref p) (upd H p (.lst ys))) I2 hc S Tn st hf hg ht he hk W w0 turn ?_;intro D C s' m ys H' q nD hn fC hCD I';exists m,hn,λh' sb=>⟨.ref D,_,I'.turned (t':=s'.toks) (it:=C) (λb o hb e=>(sb.2 b hb).trans e) ?_ fC.2.1 fC.2.2.2.1 fC.2.2.2.2.1 fC.2.2.2.2.2,rfl,q D nD⟩
 rw[Zn hCD];exact fC.1
def U9{i:Nat}{y:Str}{py spos:Pos}(hN:X.N.Nodup)(hy:X.N[i]?=some y)(hl:X.env.scope.names.lookup y=some .local)(hc:X.calm=true)(S:CScope X.env.scope scope X.N T cs)(hi:PI X tg iter wi)(hg:∀C s₀ H₀ ex,PG (blk X T cs scope C s₀ H₀ ex) tg g)(ht:∀C s₀ H₀ ex,PTs (blk X T cs scope C s₀ H₀ ex) ifs tt)(he:∀C s₀ H₀ ex,PE (blk X T cs scope C s₀ H₀ ex) elt te)(hk:Zb5 g T.length)(hs:∀x,Mz iter X.env x=pure x:=by intro _;rfl)(hsw:Mx (.ListComp elt [⟨tg,iter,ifs,0⟩] scope pos) (some (.Name y py)) spos.line X.env=pure true:=by rfl):PS X (.Assign [.Name y py] (.ListComp elt [⟨tg,iter,ifs,0⟩] scope pos) spos) (tAsg (Zg1 wi g tt te T cs) (Zbk i)):=by
 intro pq s σ H D I h;rw[exec_Assign_Name_used _ _ _ _ hsw];refine F7 (Hw (F7 ?_));show Cc _ X.A (do let _ <-comprehension (.ListComp elt [⟨tg,iter,ifs,0⟩] scope pos) scope X.env _ (newList []) false (eval iter X.env) (some (Jgi (.Name y py) X.env))) _ _ s;refine F7 (Dj (Ja8 (use:=some (Jgi (.Name y py) X.env)) (Q:=λ_ s'=>SP X pq D .next s') rfl hs (P5 (I.hl S)) S.kind S.names
  (thn (hi pq s σ H _ I h) λv s1 h1=>thn h1 λitv s2 h2=>?_)) (λ_ s' hq=>F8 (F8 hq)) λ_ _ e=>e)
 let⟨it,fp,tn,J,H2,e,I2,Tn,st,hf,W,w0,turn⟩:=h2;subst e;refine Zbv (RR:=λacc C=>compPost (Ch X.prog X.w) X.A X.xe (some (Jgi (.Name y py) X.env)) (λ_ s'=>SP X pq D .next s') acc C) (Fin:=λys H=>∀p,H p=none->Zbk i (.ref p) σ (upd H p (.lst ys)) D.nx) I2 hc S Tn st hf hg ht he hk W w0 turn ?_;intro B C s' m ys H' q nB hn fC hCB I';show Cc _ X.A (Jgi (.Name y py) X.env (.ref B)) _ _ s';refine Jfw (Zal (v:=.ref B) I' hN hy (.inl hl) rfl (λs'' I'' hz=>?_) (.inr hl));let⟨a,sb,ha⟩:=hz;let nC:C≠a:=by
  rcases ha with z|z
  .rw[z];exact fC.2.1
  .exact Cw (fC.2.2.2.2.1 y a z)
 exists m,hn.sameBut sb nC,λh' sb'=>⟨_,_,I''.turned (t':=s''.toks) (it:=C) (λb o hb e=>(sb'.2 b hb).trans e) ?_ fC.2.1 fC.2.2.2.1 fC.2.2.2.2.1 fC.2.2.2.2.2,q B nB⟩;rw[Zn hCB];exact fC.1
end
theorem Wo{J:It}{n:Nat}{tt:TT}{σB:St}{F:List V->Hp->Prop}(Pv:Nat->List V->Hp->Prop)(h0:Pv 0 [] H1)(hn:∀i ys H,Pv i ys H->ys.length<=i)(hz:n<=sizeLine)(hgo:∀i ys H,i<n->Pv i ys H->J.go i H)(hstop:∀ys H,Pv n ys H->J.stop n H)(hs:∀i ys H,i<n->Pv i ys H->∀x H',J.yld i H x H'->g x σB H' λσ2 H2=>tt σ2 H2 λb H3=>if b=true then te σ2 H3 λy H4=>Pv (i+1) (ys++[y]) H4 else Pv (i+1) ys H3)(hd:∀ys H,Pv n ys H->F ys H) :
  ∃W:Nat->Nat->List V->Hp->Prop,(∃m,W 0 m [] H1)/\∀i m ys H,W i m ys H->(J.stop i H/\ys.length<=sizeLine/\F ys H)\/(J.go i H/\ys.length<sizeLine/\∃N:List V->Hp->Prop,(∀ys' H',N ys' H'->∃m',m'<m/\W (i+1) m' ys' H') /\
   ∀x H',J.yld i H x H'->g x σB H' λσ2 H2=>tt σ2 H2 λb H3=>if b=true then te σ2 H3 λy H4=>N (ys++[y]) H4 else N ys H3):=by
 exists λi m ys H=>m=n-i/\i<=n/\Pv i ys H,⟨n,rfl,Gc _,h0⟩,?_;rintro i m ys H ⟨rfl,hi,p⟩;let hl:=hn i ys H p
 by_cases hlt:i<n
 .exact .inr ⟨hgo i ys H hlt p,(),Pv (i+1),λys' H' q=>⟨n-(i+1),(),rfl,hlt,q⟩,hs i ys H hlt p⟩
 .let e:i=n:=by lia
  subst e;exact .inl ⟨hstop ys H p,(),hd ys H p⟩
section
def Zv6(K:Cm):V->V->Hp->VK->Prop:=λo i H Q=>∃p xs k v,o=.ref p/\i=.int ((k:Nat):Int)/\SqL K H p xs/\xs[k]?=some v/\Q v H
theorem Zh5:PGet X (Zv6 X.K):=by
 intro pq s σ H o i ov iv Q I ro ri h;let⟨p,xs,k,v,rfl,rfl,hq,hx,q⟩:=h;cases ro;let⟨t,rfl⟩:=ri;let⟨its,rv,pl,hz⟩:=I.list hq;let⟨u,hu,ru⟩:=rv.get hx;let hk:k<xs.length:=(Je.mp hx).1;let hn:=Pz;exact wpAny_getItem_list pl.isList () () (by simpa using hu) ⟨v,H,I,ru,q⟩
theorem Vals.bl_get{bs:List Bool}(r:Vals (bs.map V.bl) us){i:Nat}{v:Value}(e:us[i]?=some v):∃b,bs[i]?=some b/\v=.bool b:=by
 let hi:i<us.length:=(Je.mp e).1;let hl:=r.length;rw[Ja]at hl;let hb:i<bs.length:=by lia
 let eb:(bs.map V.bl)[i]?=some (V.bl bs[i]):=by rw[Jx,Jb hb];rfl
 let⟨u,hu,ru⟩:=r.get eb;rw[e]at hu;cases hu;exists bs[i],Jb hb,ru
def Zuw(bs:List Bool):((Eb bs.length).all λi=>(bs[i]?).getD true)=bs.all id:=by
 rw[Fi];simp only[Fy,Fs,id]
 constructor
 .intro h b hb;let⟨i,hi,e⟩:=List.mem_iff_getElem.mp hb;let:=h i hi;rw[Jb hi,e]at this;exact this
 .intro h i hi;rw[Jb hi];exact h _ (Jl hi)
def Zmm(hc:X.calm=true):W6 X (.builtin "all") (λxs H Q=>∃(p:Addr)(bs:List Bool),xs=[.ref p]/\SqL X.K H p (bs.map V.bl)/\Q (.bl (bs.all id)) H):=by
 intro pq s σ H xs us Q I r h;let⟨p,bs,rfl,hq,q⟩:=h;let⟨u,rfl,ru⟩:=Tj r;cases ru;let⟨its,rv,pl,hz⟩:=I.list hq;let hlen:=rv.length;rw[Ja]at hlen;let hlt:p<s.heap.objs.size:=by let⟨_,e,_⟩:=pl.isList;exact Db e
 refine call_all_walk (Ku pl.isList ?_);refine⟨s.heap.objs.size,[s.heap.objs.size,p],[s.heap.objs.size],its.toArray.size,_,_,λi=>(bs[i]?).getD true,rfl,Walks.list (A:=X.A.in1) (I.ok.hd hc) _ p (Gi hlt) its.toArray,
  ⟨⟨_,Da _ rfl,rfl,rfl⟩,pl.isList.push _⟩,λi v s' Q' E' hP hQ=>?_,λh' tk hk=>?_⟩
 .let⟨b,e,rfl⟩:=rv.bl_get (by simpa using hP);simp only[e,Jg2]at hQ;exact Eh hQ
 .rw[Jm,<-hlen,Zuw];exists .bl (bs.all id),H,I.kept (t':=tk) (Jhw hk),rfl,q
theorem Zfm{ys:List Str}:∀{us:List Value},Vals (ys.map V.str) us->StrsAre us ys:=by
 induction ys with
 |nil=>intro us r;rw[Ml]at r;cases r;exact .nil
 |cons n ns ih =>
  intro us r;rw[Js]at r;cases r with
  |cons r1 r2 =>
   let⟨t,e⟩:=r1;subst e;exact .cons n t (ih r2)
def Zpu:MtR X "str.join" (λx xs H Q=>∃(z:Str)(p:Addr)(ys:List Str),x=.str z/\xs=[.ref p]/\SqL X.K H p (ys.map V.str)/\(ys.map (·.length)).sum+ys.length*z.length<=16777216/\Q (.str (Txt.join z ys)) H):=by
 intro pq s σ H x xs v us Q I rx r h;let⟨z,p,ys,rfl,rfl,hq,hz,q⟩:=h;let⟨t,rfl⟩:=rx;let⟨u,rfl,ru⟩:=Tj r;cases ru;let⟨its,rv,pl,_⟩:=I.list hq;exact join_list pl.isList (by simpa using Zfm rv) hz λt' k=>⟨.str _,H,I.tok _,⟨_,rfl⟩,q⟩
def Zmk:W6 X (.builtin "isinstance") (λxs H Q=>∃x T t b,xs=[x,.ty T]/\TyOf X.K H x t/\Ji8 X.K t (.type T)=some b/\Q (.bl b) H):=by
 intro pq s σ H xs us Q I r h;let⟨x,T,t,b,rfl,ty,e,q⟩:=h;let⟨u,w',rfl,ru,rw'⟩:=Zn5 r;cases rw';exact Zi5 I ru ty e λtk=>⟨.bl b,H,I.tok tk,rfl,q⟩
def rSlS:V->Option Int->Option Int->Hp->VK->Prop:=λx lo hi H Q=>∃z,x=.str z/\z.length<=sizeLine/\Q (.str (Txt.slice z lo hi)) H
theorem Zsf:SlR X rSlS:=by
 intro pq s σ H x v vl vu lo hi sl Q I rx hs pl pu h;let⟨z,rfl,hz,q⟩:=h;let⟨t,rfl⟩:=rx;exists "str",_,F.slot_str_getitem.lookup,Jiq _ _ _,?_;cases pl with
 |none =>
  cases pu with
  |none=>exact Hi (l:=none) (u:=none) (st:=none) hs rfl (L5 ⟨J8 (Txt.slice_le z _ _) hz,λt' k=>⟨.str _,H,I.tok _,⟨_,rfl⟩,q⟩⟩)
  |int j tj=>exact Hi (l:=none) (u:=some (j,tj)) (st:=none) hs rfl (L5 ⟨J8 (Txt.slice_le z _ _) hz,λt' k=>⟨.str _,H,I.tok _,⟨_,rfl⟩,q⟩⟩)
 |int i ti =>
  cases pu with
  |none=>exact Hi (l:=some (i,ti)) (u:=none) (st:=none) hs rfl (L5 ⟨J8 (Txt.slice_le z _ _) hz,λt' k=>⟨.str _,H,I.tok _,⟨_,rfl⟩,q⟩⟩)
  |int j tj=>exact Hi (l:=some (i,ti)) (u:=some (j,tj)) (st:=none) hs rfl (L5 ⟨J8 (Txt.slice_le z _ _) hz,λt' k=>⟨.str _,H,I.tok _,⟨_,rfl⟩,q⟩⟩)
end
mutual
inductive DV(K:Cm)(H:Hp):V->PyData->Prop
 |non:DV K H .non .none
 |bl (b:Bool):DV K H (.bl b) (.bool b)
 |int (i:Int):DV K H (.int i) (.int i)
 |str (x:Str):DV K H (.str x) (.str x)
 |lst {a:Addr} {xs:List V} {ds:List PyData} (h:SqL K H a xs) (r:DVs K H xs ds):DV K H (.ref a) (.list ds)
 |tup {a:Addr} {xs:List V} {ds:List PyData} (h:SqT K H a xs) (r:DVs K H xs ds):DV K H (.ref a) (.tuple ds)
inductive DVs(K:Cm)(H:Hp):List V->List PyData->Prop
 |nil:DVs K H [] []
 |cons {x:V} {d:PyData} {xs:List V} {ds:List PyData} (h:DV K H x d) (r:DVs K H xs ds):DVs K H (x::xs) (d::ds)
end
section
mutual
theorem Vn(I:Inv X pq σ H s):∀{x:V}{d:PyData}{u:Value},DV X.K H x d->RelV x u->∃as,Reads s.heap u d as
 |_,_,u,.non,r=>by obtain rfl:u=Value.none:=r;exists _,Reads.none
 |_,_,u,.bl b,r=>by obtain rfl:u=Lo b:=r;exists _,Reads.bool b
 |_,_,u,.int i,r=>by let⟨t,rfl⟩:=(show ∃t,u=Ek i t from r);exists _,Reads.int i t
 |_,_,u,.str x,r=>by let⟨t,rfl⟩:=(show ∃t,u=Mv x t from r);exists _,Reads.str x t
 |_,_,u,.lst (a:=a) h q,r=>by
  obtain rfl:u=Cg a:=r;let⟨its,rv,⟨o,n,e,c,d,dt⟩,_⟩:=I.list h;let⟨as,ra⟩:=dvs_reads I q rv;exists _,reads_list_at e c dt (by simpa using ra)
 |_,_,u,.tup (a:=a) h q,r=>by
  obtain rfl:u=Cg a:=r;let⟨its,rv,⟨o,e,c,n,dt⟩,_⟩:=I.tuple h;let⟨as,ra⟩:=dvs_reads I q rv;exists _,reads_tuple_at e c dt (by simpa using ra)
theorem dvs_reads(I:Inv X pq σ H s):∀{xs:List V}{ds:List PyData}{us:List Value},DVs X.K H xs ds->Vals xs us->∃as,ReadsAll s.heap us ds as:=by
 intro _ _ _ hz9 hz8;cases hz9 with
 |nil=>
  cases hz8 with
  |nil=>
   exists _,ReadsAll.nil
 |cons h q=>
  cases hz8 with
  |cons r rr=>
   exact by
     let⟨as,ra⟩:=Vn I h r;let⟨bs,rb⟩:=dvs_reads I q rr;exists _,ReadsAll.cons ra rb
end
def rEqD(K:Cm):R2:=λx y H Q=>∃dx dy,DV K H x dx/\DV K H y dy/\Ej dx=true/\Ej dy=true/\Q (.bl (Co dx dy)) H
def rNeD(K:Cm):R2:=λx y H Q=>∃dx dy,DV K H x dx/\DV K H y dy/\Ej dx=true/\Ej dy=true/\Q (.bl (!PyData.eqv dx dy)) H
def Zem(hu:X.A.units+64<cLine):OpR X (Ee .Eq) (rEqD X.K):=by
 intro pq s σ H x y v u Q I rx ry h;let⟨dx,dy,hx,hy,sx,sy,q⟩:=h;let⟨as,ra⟩:=Vn I hx rx;let⟨bs,rb⟩:=Vn I hy ry;exact eq_dataH ra rb sx sy hu ⟨.bl _,H,I,rfl,q⟩
def Ztg(hu:X.A.units+64<cLine):OpR X (Ee .NotEq) (rNeD X.K):=by
 intro pq s σ H x y v u Q I rx ry h;let⟨dx,dy,hx,hy,sx,sy,q⟩:=h;let⟨as,ra⟩:=Vn I hx rx;let⟨bs,rb⟩:=Vn I hy ry;exact ne_dataH ra rb sx sy hu ⟨.bl _,H,I,rfl,q⟩
end
theorem Ty :∀ns:List Int,DVs K H (ns.map V.int) (ns.map C7)
 |[]=>.nil
 |n::r=>.cons (.int n) (Ty r)
def Cal(P:Ew)(w:C0)(K:Cm)(mg:Str->Option Value)(base:Heap)(x:Str)(k:Nat)(ps:List Str)(sp:Sp):Prop :=
 ∃(f:Addr)(fd:Mi),FnOk P w K mg base CX0 k f fd ps sp/\mg x=some (.ref f)/\Jb7 K (.ref f)=true/\Vt K fd ps []
section
variable{x:Str}{k:Nat}{e:Expr}{t:TA}{p:Pos}
def Zv(C:Cal X.prog X.w X.K X.mg X.base x k ps sp)(hr:Room k X.A)(hg:Gl X x)(ha:PA X (e::es) t)(hdb:(x==("__debug__":Str))=false:=by decide)(he:Ci (e::es) X.env=(false,eval e X.env)::Ci es X.env:=by rfl)(hpl:(Hy pos (Ci es X.env)).any (·.1)=false:=by rfl):PE X (.Call (.Name x p) (e::es) [] pos) (Zg2 sp [] E0 t):=by
 let⟨f,fd,F,hm,hk,hb⟩:=C;exact Zpl F hr hg hm hk hb .nil Zh9 ha hdb he hpl
end
def Grow(p:Addr)(H H':Hp):Prop:=∀b o,H b=some o->b≠p->H' b=some o
def Grow.refl(p:Addr)(H:Hp):Grow p H H:=λ_ _ e _=>e
def Grow.trans{p:Addr}(a:Grow p H H1)(b:Grow p H1 H2):Grow p H H2:=λc o e n=>b c o (a c o e n) n
def Grow.same{p:Addr}(s:Same H H'):Grow p H H':=λb o e _=>s b o e
theorem Grow.free{p:Addr}(g:Grow p H H')(h:H' l=none)(n:l≠p):H l=none:=by
 cases q:H l with
 |none=>rfl
 |some o=>rw[g l o q n]at h;cases h
def Ze{p:Addr}(h:H p=none):Same H (upd H p o):=λb u e=>by rw[Zn (Zr e h)];exact e
structure HandAt(H:Hp)(p a:Addr):Prop where
 ex:∃(d k:Int)(cs:List Int),H p=some (.lst [.int d,.int k,.ref a])/\H a=some (.lst (cs.map V.int))/\cs≠[]/\cs.length<=63/\0<=d/\0<=k/\∀c∈cs,0<=c
theorem HandAt.ne{p a:Addr}(h:HandAt H p a):p≠a:=by
 let⟨d,k,cs,e1,e2,_⟩:=h.ex;refine Wa e1 e2 λz=>?_;injection z with z
 cases cs with
 |nil=>cases z
 |cons c r =>
  rw[Js]at z;injection z with _ z
  cases r with
  |nil=>cases z
  |cons c2 r =>
   rw[Js]at z;injection z with _ z
   cases r with
   |nil=>cases z
   |cons c3 r=>rw[Js]at z;injection z with z _;cases z
def HandAt.same{p a:Addr}(h:HandAt H p a)(g:Same H H'):HandAt H' p a:=by
 let⟨d,k,cs,e1,e2,r⟩:=h.ex;exists d,k,cs,g _ _ e1,g _ _ e2,r
def Qc:Sp:=λvs H Q _=>∃(p a:Addr)(n:Int),vs=[.ref p,.int n]/\HandAt H p a/\0<n/\n<1073741824 /\
 ∀(r:Int)(H':Hp),0<=r->r<n->HandAt H' p a->Grow p H H'->(∀b,b≠p->H' b=H b)->Q (.int r) H'
def Zm1(K:Cm):Sp:=λvs H Q _=>∃(s:Addr)(ns:List Int)(i:Int),vs=[.ref s,.int i]/\SqL K H s (ns.map V.int)/\ns.length<=63/\0<=i/\i<2 ^ 60 /\
 ∀(p a:Addr)(H':Hp),H p=none->H a=none->HandAt H' p a->Same H H'->Q (.ref p) H'
theorem Zac{cs:List Int}(h:cs≠[])(z:Int):∃c,c∈cs/\atI (cs.map V.int) (z % ((cs.map V.int).length:Nat))=some (.int c):=by
 let hl:0<cs.length:=Gm.mpr h;let h0:0<=z % ((cs.map V.int).length:Nat):=G8 _ (by rw[Ja];lia);let h1:z % ((cs.map V.int).length:Nat)<((cs.map V.int).length:Nat):=Gw _ (by rw[Ja];lia);generalize z % ((cs.map V.int).length:Nat)=m at h0 h1;rw[Ja]at h1;let hm:m.toNat<cs.length:=by lia
 let⟨k,rfl⟩:=Gn h0;let hm:k<cs.length:=hm;exists cs[k],Jl hm,Sl ?_;rw[Jx,Jb hm];rfl
def Shp(n:Nat)(d:PyData):Prop:=d.canLay0=true/\d.depth<=n
def Shp.shaped{n:Nat}{d:PyData}(h:Shp n d)(hn:n<=64):Ej d=true:=by
 unfold Ej;rw[h.1,Bool.true_and];exact Df (J8 h.2 hn)
theorem Zcg{n:Nat}:∀{ds:List PyData},(∀d∈ds,Shp n d)->Hd ds=true/\Hr ds<=n
 |[],_=>⟨by simp only[Hd],by simp only[Hr];exact Gc _⟩
 |d::r,h=>by
  let⟨h1,h2⟩:=h d Jn;let⟨h3,h4⟩:=Zcg (n:=n) λx hx=>h x (Jk _ hx);exists by simp only[Hd,h1,h3,Bool.and_self],?_;simp only[Hr];lia
theorem Rn{n:Nat}{ds:List PyData}(h:∀d∈ds,Shp n d):Shp (n+1) (.list ds):=by
 let⟨h1,h2⟩:=Zcg h;exact⟨by simp only[Eu,h1],by simp only[Kh];lia⟩
theorem W9{n:Nat}{ds:List PyData}(h:∀d∈ds,Shp n d):Shp (n+1) (.tuple ds):=by
 let⟨h1,h2⟩:=Zcg h;exact⟨by simp only[Eu,h1],by simp only[Kh];lia⟩
def Qd(i:Int):Shp 0 (.int i):=⟨by simp only[Eu],by simp only[Kh];exact Jd _⟩
def Ro(ns:List Int):Shp 1 (.list (ns.map C7)):=Rn λd hd=>by
 let⟨i,_,rfl⟩:=Jo.mp hd;exact Qd i
theorem Zqg(ns:List Int):Co (.list (ns.map C7)) (.list [])=decide (ns=[]):=by
 cases ns with
 |nil=>simp[Co,Cs]
 |cons n r=>simp[Co,Cs]
theorem Zmh(ns:List Int)(lo hi:Option Int):∃ms:List Int,cutV (ns.map V.int) lo hi=ms.map V.int/\ms.length<=ns.length/\∀c∈ms,c∈ns:=by
 exists(ns.drop (HT.sIx (ns.map V.int).length 0 lo)).take (HT.sIx (ns.map V.int).length (ns.map V.int).length hi-HT.sIx (ns.map V.int).length 0 lo),?_,?_,?_
 .unfold cutV;rw[Bq,Fk]
 .rw[Ji,Ge];lia
 .intro c hc;exact Ll (G5 hc)
def Zm{n:Nat}(h:n<=100000):n<=sizeLine:=J8 h nofun
theorem R7{as:List V}{j:Int}(h0:0<=j)(h1:j<=as.length):cutV as (some j) none=as.drop j.toNat:=by
 let⟨m,rfl⟩:=Gn h0;unfold cutV;rw[HT.sIx_nat,HT.sIx_none,Fj (),Gd (by rw[Ge];exact Jd _)];rfl
theorem Zbt{as:List V}{j:Int}(h0:0<=j)(h1:j<=as.length):cutV as none (some j)=as.take j.toNat:=by
 let⟨m,rfl⟩:=Gn h0;unfold cutV;rw[HT.sIx_nat,HT.sIx_none,Fj (),Ft,Mm];rfl
def HC(H H4:Hp)(cl:Addr):Prop:=∃as:List Int,Same H H4/\H cl=none/\H4 cl=some (.lst (as.map V.int))/\as≠[]/\as.length<=63/\∀c∈as,0<=c
theorem spun{as:List Int}(hne:as≠[])(i:Int):∃cs:List Int,cutV (as.map V.int) (some (i % ((as.map V.int).length:Nat))) none++cutV (as.map V.int) none (some (i % ((as.map V.int).length:Nat)))=cs.map V.int/\cs≠[]/\cs.length=as.length/\∀c∈cs,c∈as:=by
 let hl:0<as.length:=Gm.mpr hne;let h0:0<=i % ((as.map V.int).length:Nat):=G8 _ (by rw[Ja];lia);let h1:i % ((as.map V.int).length:Nat)<((as.map V.int).length:Nat):=Gw _ (by rw[Ja];lia);generalize i % ((as.map V.int).length:Nat)=j at h0 h1;rw[R7 h0 (),Zbt h0 ()];rw[Ja]at h1;exists as.drop j.toNat++as.take j.toNat,by rw[Jg,Fk,Bq],?_,?_,?_
 .intro e;let:=congrArg Ez e;rw[Jc,Ge,Ji]at this;simp at this;lia
 .rw[Jc,Ge,Ji];lia
 .intro c hc;rcases Gb.mp hc with z|z
  .exact Ll z
  .exact G5 z
theorem Zmp{α:Type}{xs:List α}{r:Int}(h0:0<=r)(h1:r<xs.length):∃v,v∈xs/\atI xs r=some v:=by
 let hm:r.toNat<xs.length:=by lia
 let⟨k,rfl⟩:=Gn h0;let hm:k<xs.length:=hm;exists xs[k],Jl hm,Sl (Jb hm)
def Zui{w:C0}{base:Heap}{x:Str}{f:Addr}{k:Nat}(F:Fun K x x st f fd)(G:FnOk P w K mg base CX0 k f fd ps sp)(m:mg x=some (.ref f))(b:Vt K fd ps []) :
  Cal P w K mg base x k ps sp:=⟨f,fd,G,m,F.kp,b⟩
end L2
set_option maxHeartbeats 4000000
namespace L2
open PySem PySem.W PyProof.Rows
def Rk(rk:Nat->Int)(p:Array Nat)(i:Nat):Int:=rk (p.getD i 0)
def SrtR(rk:Nat->Int)(p:Array Nat)(k:Nat):Prop:=∀i j,i<=j->j<k->Rk rk p i<=Rk rk p j
structure GoodP(n:Nat)(p:Array Nat):Prop where
 perm:p.Perm (Eb n).toArray
def GoodP.size{n:Nat}{p:Array Nat}(g:GoodP n p):p.size=n:=by have:=g.perm.size_eq;simpa using this
def GoodP.lt{n:Nat}{p:Array Nat}(g:GoodP n p)(i:Nat)(hi:i<n):p.getD i 0<n:=by
 let hi':i<p.size:=by rw[g.size];exact hi
 let e:p.getD i 0=p[i]:=by simp[Jei,hi']
 rw[e];let hm:p[i]∈p.toList:=by simp
 let:=(B6.mp g.perm).mem_iff.mp hm;simpa using this
def GoodP.ne{n:Nat}{p:Array Nat}(g:GoodP n p){i:Nat}(hi:i<n)(hj:j<n)(h:i≠j):p.getD i 0≠p.getD j 0:=by
 let nd:p.toList.Nodup:=(B6.mp g.perm).nodup_iff.mpr (by simpa using List.nodup_range);let hi':i<p.size:=by rw[g.size];exact hi
 let hj':j<p.size:=by rw[g.size];exact hj
 let e:p.getD i 0=p[i]:=by simp[Jei,hi']
 let e2:p.getD j 0=p[j]:=by simp[Jei,hj']
 rw[e,e2];intro z;let:=(G3 (h₀:=by simpa using hi') (h₁:=by simpa using hj') nd).mp (by simpa using z);exact h this
def Vc{p q:Array Nat}{i:Nat}(h:p[i]?=q[j]?):p.getD i 0=q.getD j 0:=by
 rw[L6,L6,h]
def Zb4{rk:Nat->Int}{xs:Array Nat}{src d:Nat}(hs:src<xs.size)(hd:d<=src)(k:Nat) :
  Rk rk (bubble xs src d) k=if k=src-d then Rk rk xs src else if src-d<k/\k<=src then Rk rk xs (k-1)else Rk rk xs k:=by
 let e:=getElem?_bubble hs d hd k;unfold Rk
 by_cases h1:k=src-d
 .rw[De h1]at e⊢;rw[Vc e]
 .rw[Dd h1]at e⊢
  by_cases h2:src-d<k/\k<=src
  .rw[De h2]at e⊢;rw[Vc e]
  .rw[Dd h2]at e⊢;rw[Vc e]
def Zn2{rk:Nat->Int}{xs:Array Nat}(hj:j<=xs.size)(k:Nat) :
  Rk rk (Jkd xs 0 j) k=if k<j then Rk rk xs (j-1-k)else Rk rk xs k:=by
 let e:=getElem?_mirror_all (xs:=xs) (i:=0) hj k;unfold Rk Jkd
 by_cases h1:k<j
 .rw[De ⟨Gc _,h1⟩]at e;rw[De h1,Vc e,Jd6]
 .rw[Dd (λz=>h1 z.2)]at e;rw[Dd h1,Vc e]
section
variable{rk:Nat->Int}{n:Nat}{cmp:Nat->Nat->(Bool->Ca->Prop)->Ca->Prop} 
def CmpR(rk:Nat->Int)(n:Nat)(cmp:Nat->Nat->(Bool->Ca->Prop)->Ca->Prop)(s:Ca):Prop :=
 ∀i j(C:Bool->Ca->Prop),i<n->j<n->C (decide (rk i<rk j)) s->cmp i j C s
theorem Zqw(hc:CmpR rk n cmp s){p:Array Nat}(g:GoodP n p){G:Nat->Ca->Prop}:∀(f m:Nat),1<=m->m+f<=n->SrtR rk p m ->
  (∀m',m<=m'->m'<=m+f->SrtR rk p m'->(m'=m+f\/(m'<n/\Rk rk p m'<Rk rk p (m'-1)))->G m' s)->(kas_asc p f m).kasWp cmp G s
 |0,m,_,_,hs,h=>h m (Jd _) (Jd _) hs (.inl rfl)
 |f+1,m,h1,h2,hs,h=>by
  show cmp (p.getD m 0) (p.getD (m-1) 0) _ s;refine hc _ _ _ (g.lt _ ()) (g.lt _ ()) ?_
  by_cases q:rk (p.getD m 0)<rk (p.getD (m-1) 0)
  .simp only[q,decide_true,if_true];exact h m (Jd _) () hs (.inr ⟨(),q⟩)
  .simp only[q,decide_false,Gv,if_false];refine Zqw hc g f (m+1) () () (λi j hij hj=>?_) λm' a b c d=>h m' () () c (by
    rcases d with d|d
    .exact .inl ()
    .exact .inr d)
   by_cases hjm:j=m
   .subst hjm
    by_cases him:i=j
    .subst him;exact Jc4 _
    .exact Jd7 (hs i (j-1) () ()) (Int.not_lt.mp q)
   .exact hs i j hij ()
theorem Znv(hc:CmpR rk n cmp s)(inj:∀i j,i<n->j<n->rk i=rk j->i=j){p:Array Nat}(g:GoodP n p){G:Array Nat×Nat×Nat->Ca->Prop}:∀(f m:Nat),1<=m->m+f<=n ->
  (∀i j,i<j->j<m->Rk rk p j<Rk rk p i) ->
  (∀m',m<=m'->m'<=m+f->(∀i j,i<j->j<m'->Rk rk p j<Rk rk p i)->G (p,m',0) s)->(kas_desc f p m 0).kasWp cmp G s
 |0,m,_,_,hs,h=>h m (Jd _) (Jd _) hs
 |f+1,m,h1,h2,hs,h=>by
  show cmp (p.getD m 0) (p.getD (m-1) 0) _ s;refine hc _ _ _ (g.lt _ ()) (g.lt _ ()) ?_
  by_cases q:rk (p.getD m 0)<rk (p.getD (m-1) 0)
  .simp only[q,decide_true,if_true,Bl,if_false,gt_iff_lt];refine Znv hc inj g f (m+1) () () (λi j hij hj=>?_) λm' a b c=>h m' () () c
   by_cases hjm:j=m
   .subst hjm
    by_cases him:i=j-1
    .subst him;exact q
    .exact Int.lt_trans q (hs i (j-1) () ())
   .exact hs i j hij ()
  .simp only[q,decide_false,Gv,if_false];show cmp (p.getD (m-1) 0) (p.getD m 0) _ s;refine hc _ _ _ (g.lt _ ()) (g.lt _ ()) ?_;let lt2:rk (p.getD (m-1) 0)<rk (p.getD m 0):=by
    let ne:rk (p.getD (m-1) 0)≠rk (p.getD m 0):=λz=>g.ne () () (by lia:m-1≠m) (inj _ _ (g.lt _ ()) (g.lt _ ()) z);lia
   simp only[lt2,decide_true,if_true];exact h m (Jd _) () hs
def GoodP.rev{p:Array Nat}(g:GoodP n p)(i j:Nat):GoodP n (Jkd p i j):=⟨(mirror_perm _ _ _ _).trans g.perm⟩
theorem Zqo(hc:CmpR rk n cmp s)(inj:∀i j,i<n->j<n->rk i=rk j->i=j)(h2:2<=n){p:Array Nat}(g:GoodP n p){G:Nat×Array Nat->Ca->Prop}(h:∀m p',1<=m->m<=n->GoodP n p'->SrtR rk p' m->G (m,p') s):(kas_count n p).kasWp cmp G s:=by
 unfold kas_count;rw[Kl];refine Zqw hc g (n-1) 1 (Jd _) () (λi j hij hj=>by rw[show i=j by lia];exact Jc4 _) λm a b c d=>?_
 by_cases e:m=n
 .subst e;simp only[beq_self_eq_true,if_true];exact h m p () (Jd _) g c
 .let hb:(m==n)=false:=by simpa using e
  simp only[hb,Gv,if_false];let hd:m<n/\Rk rk p m<Rk rk p (m-1):=by
   rcases d with d|d
   .lia
   .exact d
  by_cases hm:m > 1
  .rw[De hm];show cmp (p.getD 0 0) (p.getD (m-1) 0) _ s;refine hc _ _ _ (g.lt _ ()) (g.lt _ ()) ?_;let lt2:rk (p.getD 0 0)<rk (p.getD (m-1) 0):=by
    let ne:rk (p.getD 0 0)≠rk (p.getD (m-1) 0):=λz=>g.ne () () (by lia:0≠m-1) (inj _ _ (g.lt _ ()) (g.lt _ ()) z);let le:=c 0 (m-1) () ();unfold Rk at le;lia
   simp only[lt2,decide_true,if_true];exact h m p () () g c
  .rw[Dd hm];let hm1:m=1:=by lia
   subst hm1;unfold kas_descPart;rw[Kl];refine Znv hc inj g (n-2) 2 () () (λi j hij hj=>?_) λm' a' b' c'=>?_
   .let:j=1:=by lia
    let:i=0:=by lia
    subst i;subst j;exact hd.2
   .simp only[gt_iff_lt,Bl,if_false];unfold kas_tail3;rw[Kl];let hm':m'<=n:=by lia
    refine Zqw hc (g.rev 0 m') (n-m') m' () () (λi j hij hj=>?_) λk a2 b2 c2 _=>?_
    .rw[Zn2 (by rw[g.size];exact hm'),Zn2 (by rw[g.size];exact hm'),De (),De hj]
     by_cases hij2:i=j
     .subst hij2;exact Jc4 _
     .exact Jjs (c' _ _ () ())
    .show G (k,Jkd p 0 m') s;exact h k _ () () (g.rev 0 m') c2
theorem Zct(hc:CmpR rk n cmp s){p:Array Nat}(g:GoodP n p){k:Nat}(hk:k<n)(hs:SrtR rk p k){G:Nat->Ca->Prop}(h:∀l,l<=k->(∀i,i<l->Rk rk p i<=Rk rk p k)->(∀i,l<=i->i<k->Rk rk p k<Rk rk p i)->G l s):∀(f l r:Nat),l<=r->r<=k->r-l<=f ->
  (∀i,i<l->Rk rk p i<=Rk rk p k)->(∀i,r<=i->i<k->Rk rk p k<Rk rk p i)->(kas_place p k f l r).kasWp cmp G s
 |0,l,r,h1,h2,h3,lo,hi=>by
  let:l=r:=by lia
  subst this;exact h l h2 lo hi
 |f+1,l,r,h1,h2,h3,lo,hi=>by
  unfold kas_place
  by_cases hge:l≥r
  .rw[De hge];let:l=r:=by lia
   subst this;exact h l h2 lo hi
  .rw[Dd hge];show cmp (p.getD k 0) (p.getD ((l+r) / 2) 0) _ s;refine hc _ _ _ (g.lt _ hk) (g.lt _ ()) ?_
   by_cases q:rk (p.getD k 0)<rk (p.getD ((l+r) / 2) 0)
   .simp only[q,decide_true,if_true];exact Zct hc g hk hs h f l ((l+r) / 2) () () () lo λi a b=>Int.lt_of_lt_of_le q (hs _ _ a b)
   .simp only[q,decide_false,Gv,if_false];exact Zct hc g hk hs h f ((l+r) / 2+1) r () () () (λi a=>Jd7 (hs i ((l+r) / 2) () ()) (Int.not_lt.mp q)) hi
theorem Zuu(hc:CmpR rk n cmp s){G:Array Nat->Ca->Prop}(h:∀p,GoodP n p->SrtR rk p n->G p s):∀(f:Nat)(p:Array Nat)(k:Nat),k+f=n->GoodP n p->SrtR rk p k->(kas_bin f p k).kasWp cmp G s
 |0,p,k,e,g,hs=>h p g (by rw[<-e];exact hs)
 |f+1,p,k,e,g,hs=>by
  unfold kas_bin;rw[Kl];refine Zct hc g () hs (λl hl lo hi=>?_) k 0 k (Gc _) (Jd _) () (λi z=>absurd z (G0 _)) (λi a b=>by lia);refine Zuu hc h f _ (k+1) () ⟨(bubble_perm _ _ _).trans g.perm⟩ λi j hij hj=>?_;let hks:k<p.size:=by rw[g.size];lia
  rw[Zb4 hks (),Zb4 hks (),show k-(k-l)=l by lia]
  repeat' split
  all_goals first
   |(exfalso;lia)
   |exact Jc4 _
   |exact lo _ ()
   |exact Jjs (hi _ () ())
   |exact hs _ _ () ()
theorem Zsd(hc:CmpR rk n cmp s)(inj:∀i j,i<n->j<n->rk i=rk j->i=j)(h2:2<=n){G:Array Nat->Ca->Prop}(h:∀p,GoodP n p->SrtR rk p n->G p s):(kas_sort n).kasWp cmp G s:=by
 unfold kas_sort;rw[Kl];refine Zqo hc inj h2 ⟨Array.Perm.refl _⟩ λm p' a b g hs=>?_
 by_cases hm:m<n
 .rw[De hm];let e:max m 1=m:=by lia
  rw[e];exact Zuu hc h (n-m) p' m () g hs
 .rw[Dd hm];let:m=n:=by lia
  subst this;exact h p' g hs
end
end L2
namespace L2
open PySem PySem.W PyProof.Rows HT
theorem Ziu:∀a:List Int,lexLt a a=false
 |[]=>rfl
 |x::r=>by rw[Ux,De rfl];exact Ziu r
theorem Za9:∀{a b c:List Int},lexLt a b=true->lexLt b c=true->lexLt a c=true
 |[],[],_,h,_=>by rw[Nq]at h;cases h
 |[],_::_,[],_,h=>by rw[W3]at h;cases h
 |[],_::_,_::_,_,_=>rfl
 |_::_,[],_,h,_=>by rw[W3]at h;cases h
 |_::_,_::_,[],_,h=>by rw[W3]at h;cases h
 |x::a,y::b,z::c,h1,h2=>by
  rw[Ux]at h1 h2⊢
  by_cases e1:x=y
  .subst e1;rw[De rfl]at h1
   by_cases e2:x=z
   .rw[De e2]at h2⊢;exact Za9 h1 h2
   .rw[Dd e2]at h2⊢;exact h2
  .rw[Dd e1]at h1;let l1:x<y:=of_decide_eq_true h1
   by_cases e2:y=z
   .subst e2;rw[Dd e1];exact h1
   .rw[Dd e2]at h2;let l2:y<z:=of_decide_eq_true h2;rw[Dd ()];exact Df ()
theorem Zc3:∀{a b:List Int},lexLt a b=false->lexLt b a=false->a=b
 |[],[],_,_=>rfl
 |[],_::_,h,_=>by rw[U4]at h;cases h
 |_::_,[],_,h=>by rw[U4]at h;cases h
 |x::a,y::b,h1,h2=>by
  rw[Ux]at h1 h2
  by_cases e:x=y
  .subst e;rw[De rfl]at h1 h2;rw[Zc3 h1 h2]
  .rw[Dd e]at h1;rw[Dd (λz=>e z.symm)]at h2;let:=of_decide_eq_false h1;let:=of_decide_eq_false h2;lia
theorem Zbu{α:Type}{p q:α->Bool}:∀{l:List α},(∀x∈l,p x=true->q x=true)->(∃x∈l,q x=true/\p x=false)->l.countP p<l.countP q
 |[],_,⟨_,h,_⟩=>nomatch h
 |a::l,h1,⟨x,hx,hq,hp⟩=>by
  let le:l.countP p<=l.countP q:=List.countP_mono_left λy hy=>h1 y (Jk _ hy);rw[Jg3,Jg3];rcases Jp.mp hx with e|hx
  .subst e;rw[hq,hp];simp;lia
  .let lt:=Zbu (λy hy=>h1 y (Jk _ hy)) ⟨x,hx,hq,hp⟩;let:=h1 a Jn;cases ha:p a<;>cases hb:q a<;>simp_all<;>lia
def Wv(ks:List (List Int))(i:Nat):Int:=((Eb ks.length).countP λj=>lexLt (ks.getD j []) (ks.getD i []):Nat)
theorem Zhu{ks:List (List Int)}{i:Nat}(hi:i<ks.length)(h:lexLt (ks.getD i []) (ks.getD j [])=true):Wv ks i<Wv ks j:=by
 unfold Wv;let:=Zbu (l:=Eb ks.length) (p:=λx=>lexLt (ks.getD x []) (ks.getD i [])) (q:=λx=>lexLt (ks.getD x []) (ks.getD j [])) (λx _ hx=>Za9 hx h) ⟨i,Fs.mpr hi,h,Ziu _⟩;lia
theorem Rs{ks:List (List Int)}(nd:ks.Nodup){i:Nat}(hi:i<ks.length)(hj:j<ks.length):decide (Wv ks i<Wv ks j)=lexLt (ks.getD i []) (ks.getD j []):=by
 cases e:lexLt (ks.getD i []) (ks.getD j [])with
 |true=>exact Df (Zhu hi e)
 |false =>
  refine Dg λz=>?_;cases e2:lexLt (ks.getD j []) (ks.getD i [])with
  |true=>have:=Zhu hj e2;lia
  |false =>
   let e3:=Zc3 e e2;unfold Wv at z;rw[e3]at z;exact absurd z (Int.lt_irrefl _)
theorem Zeg{ks:List (List Int)}(nd:ks.Nodup){i:Nat}(hi:i<ks.length)(hj:j<ks.length)(h:Wv ks i=Wv ks j):i=j:=by
 let e1:lexLt (ks.getD i []) (ks.getD j [])=false:=by rw[<-Rs nd hi hj];exact Dg ()
 let e2:lexLt (ks.getD j []) (ks.getD i [])=false:=by rw[<-Rs nd hj hi];exact Dg ()
 let e3:=Zc3 e1 e2;rw[Gq,Gq,Jb hi,Jb hj]at e3;exact(G3 (h₀:=hi) (h₁:=hj) nd).mp (by simpa using e3)
section
variable{w:C0} 
theorem Zer{Q:Bool->Ca->Prop}:∀{vs ws:List Value}{ns ms:List Int}{fin:Bool}{i:Nat},Ms vs ns->Ms ws ms->(fin=decide (ns.length<ms.length))->Q (lexLt ns ms) s->KatLex prog w A true fin Q (vs.zip ws) i s
 |_,_,_,_,fin,i,.nil,.nil,e,h=>by
  subst e;exact kat_nil h
 |_,_,_,_,fin,i,.nil,.cons _ _ r,e,h=>by
  subst e;exact kat_nil (by simpa[HT.lexLt]using h)
 |_,_,_,_,fin,i,.cons _ _ r,.nil,e,h=>by
  subst e;exact kat_nil (by simpa[HT.lexLt]using h)
 |_,_,_,_,fin,i,.cons a t r,.cons c u r2,e,h=>by
  rw[F5];refine kat_cons (Jgv ?_);rw[Ux]at h
  by_cases z:a=c
  .subst z;rw[De rfl]at h;rw[beq_self_eq_true];exact kat_yes (Zer r r2 (by rw[e];simp) h)
  .rw[Dd z]at h;let hb:(a==c)=false:=by simpa using z
   rw[hb];refine kat_no ?_;cases hi:(true&&i==0)with
   |true=>exact oneLt_int h
   |false=>exact kat_one _ _ (Jke (show PySem.W.BoolBack Q (.bool (decide (a<c))) s from h))
end
abbrev KIt:=V×Addr×List Int
section
def Inv.pin1{b:Addr}{o:Obj}(I:Inv X pq σ H s)(f:FpOk X pq H b)(e:s.heap.get? b=some o)(hd:∀v,o.data≠.cell v):Inv X (pq++[(b,o)]) σ H s :=
 I.pins_of λp hp=>(Gb.mp hp).elim (λz=>I.pin p (Jt _ z)) λz=>by
  rw[Jj.mp z];exists e,f.1,f.2.1,f.2.2.1,hd
def Inv.turn1{b:Addr}(I:Inv X pq σ H s)(f:FpOk X pq H b)(hs:Hf b s.heap h'):Inv X pq σ H {s with heap:=h'} :=
 I.turned (t':=s.toks) (λc o hc e=>(hs.2 c hc).trans e) f.1 f.2.1 f.2.2.2.1 f.2.2.2.2.1 f.2.2.2.2.2
def FpOk.snoc{b c:Addr}{o:Obj}(f:FpOk X pq H b)(h:c≠b):FpOk X (pq++[(c,o)]) H b :=
 ⟨f.1,f.2.1,f.2.2.1,f.2.2.2.1,f.2.2.2.2.1,λp hp=>by
  rw[<-Gg]at hp;rcases Gb.mp hp with z|z
  .exact f.2.2.2.2.2 p z
  .rw[Jj.mp z];exact h⟩
def Yn(L:List KIt):List Value:=L.map λq=>Cg q.2.1
def Vd{α:Type}{f:α->β}{l:List α}{i:Nat}{d:β}(h:i<l.length):(l.map f).getD i d=f l[i]:=by
 rw[Gq,Jx,Jb h];rfl
theorem Zl6{L:List KIt}(I:Inv X pq σ H s)(hk:∀q∈L,SqT X.K H q.2.1 (q.2.2.map V.int)/\q.2.2≠[])(h2:0<L.length){Q:SortKind->Ca->Prop}(h:Q (tuples' true) s) :
  Cc (Ch X.prog X.w) A (keyKind' (Yn L).toArray) Q E s:=by
 let tk:∀L':List KIt,(∀q∈L',q∈L)->∃fs:List Value,KatTups s.heap (Yn L') fs/\fs.length=L'.length/\∀v∈fs,∃n t,v=.int n t:=by
  intro L'
  induction L' with
  |nil=>intro _;exists [],.nil,rfl,λv hv=>nomatch hv
  |cons q r ih =>
   intro hm;let⟨fs,a,b,c⟩:=ih λx hx=>hm x (Jk _ hx);let⟨sq,ne⟩:=hk q (hm q Jn);let⟨its,rv,⟨o,e,hc,n,hd⟩,_⟩:=I.tuple sq
   match hq:q.2.2,ne with
   |z::zs,_ =>
    rw[hq]at rv;cases rv with
    |cons rv1 rv2 =>
     let⟨t,et⟩:=rv1;exists .int z t::fs,KatTups.cons e hc hd ?_ a,by simp[b],λv hv=>?_
     .rw[et];simp
     .rcases Jp.mp hv with e|hv
      .exists z,t,e
      .exact c v hv
 let⟨fs,a,b,c⟩:=tk L λ_ h=>h;exact kat_kind (T:=.type "int") a () (λv hv=>by let⟨n,t,e⟩:=c v hv;subst e;exact .now) nofun h
def Zp2{L:List KIt}(I:Inv X pq σ H s)(hk:∀q∈L,SqT X.K H q.2.1 (q.2.2.map V.int)/\q.2.2≠[])(nd:(L.map (·.2.2)).Nodup) :
  CmpR (Wv (L.map (·.2.2))) L.length (kas_ask X.prog X.w A (tuples' true) (Yn L)) s:=by
 intro i j C hi hj h;rw[Rs nd (by simpa using hi) (by simpa using hj),Vd hi,Vd hj]at h;unfold kas_ask;rw[show(Yn L).getD i Value.none=Cg L[i].2.1 from Vd hi,show(Yn L).getD j Value.none=Cg L[j].2.1 from Vd hj];let⟨its,rv,⟨o,e,hc,n,hd⟩,_⟩:=I.tuple (hk _ (Jl hi)).1;let⟨its2,rv2,⟨o2,e2,hc2,n2,hd2⟩,_⟩:=I.tuple (hk _ (Jl hj)).1;let ia:∀{ns:List Int}{vs:List Value},Vals (ns.map V.int) vs->Ms vs ns:=by
  intro ns
  induction ns with
  |nil=>intro vs h;cases h;exact .nil
  |cons a r ih =>
   intro vs h;cases h with
   |cons h1 h2=>obtain⟨t,e⟩:=h1;subst e;exact .cons a t (ih h2)
 refine kat_lt e hd e2 hd2 ?_;let i1:=ia rv;let i2:=ia rv2;exact Zer i1 i2 (by rw[<-i1.length,<-i2.length];simp) h
end
section
abbrev PD(D:Addr)(e1:Nat):Addr×Obj:=(D,Hs "list" #[] e1)
abbrev PKs(kS:Addr)(e:Nat)(L:List KIt):Addr×Obj:=(kS,Hs "list" (Yn L).toArray e)
theorem Vals.perm_get{L:List KIt}(rv:Vals (L.map (·.1)) its){p:List Nat}(hp:∀i∈p,i<L.length):Vals (p.map λi=>(L.getD i (.non,0,[])).1) (p.map λi=>its.getD i Value.none):=by
 let e:=rv.length;simp only[Ja]at e
 induction p with
 |nil=>exact .nil
 |cons i r ih =>
  let hi:=hp i Jn;let hi2:i<its.length:=by lia
  let⟨u,hu,r1⟩:=Vals.get rv (i:=i) (x:=L[i].1) (by rw[Jx,Jb hi];rfl);refine .cons ?_ (ih λj hj=>hp j (Jk _ hj));show RelV (L.getD i (.non,0,[])).1 (its.getD i Value.none);rw[Gq,Gq,hu,Jb hi];exact r1
theorem Zao{D kS:Addr}{e e1:Nat}{L L':List KIt}{st:SortSt}{out:List Value}{P:Jfj->Ca->Prop}(I:Inv X ((pq++[PD D e1])++[PKs kS e L]) σ H s)(h64:L.length<64)(fD:FpOk X pq H D)(fK:FpOk X (pq++[PD D e1]) H kS)(hout:(arrOf st).map (·.2)=out.toArray)(hf:failedOf st=none)(rv:Vals (L'.map (·.1)) out)(hl:L'.length=L.length)(h:∀s',Inv X pq σ (upd H D (.lst (L'.map (·.1)))) s'->P (.done (.ret .none)) s'):Cc (Ch X.prog X.w) A (ksk_tail D false e1 (.ref kS) st) P E s:=by
 let pk:=I.pin (PKs kS e L) (Jt _ (Jt _ (Jj.mpr rfl)));let s1:=E1 s.heap kS (C2 λ_=>(#[]:Array Value));let I1:=(I.unpinned (pl:=[PKs kS e L])).turn1 fK s1;let pd:=I1.pin (PD D e1) (Jt _ (Jt _ (Jj.mpr rfl)));let s2:=E1 (s.heap.update kS (C2 λ_=>(#[]:Array Value))) D (C2 λ_=>out.toArray);obtain⟨c2,hc2⟩:∃c2,((s.heap.update kS (C2 λ_=>(#[]:Array Value))).update D (C2 λ_=>out.toArray)).get? D=some (Hs "list" out.toArray c2):=⟨_,Jd8 pd.1 λ_=>out.toArray⟩;let lo:out.length=L.length:=by have:=rv.length;simp only[Ja]at this;lia
 let hz:L'.length<=sizeLine:=by rw[Eg];lia
 unfold ksk_tail
 try dsimp only
 rw[hout];refine F7 (Jc5 pk.1 rfl ?_ (by simp only[Jm,Yn,Ja,Eg];lia) (Gc _));refine F7 (Jc6 ?_);refine F7 (seqEpoch_at pd.1 rfl ?_);refine F7 (Jc5 pd.1 rfl ?_ (Gc _) (by simp only[Jm,Eg,Gv,if_false];lia));rw[hf];simp only[bne_self_eq_false,Gv,if_false];refine F8 (h _ ?_);let I2:=(I1.unpinned (pl:=[PD D e1])).turn1 fD s2;exact I2.track (its:=out) (n:=c2) hc2 fD rv (by rw[Ja];exact hz)
theorem Zlh{D kS:Addr}{e e1:Nat}{L:List KIt}{P:Jfj->Ca->Prop}(I:Inv X ((pq++[PD D e1])++[PKs kS e L]) σ H s)(h64:L.length<64)(fD:FpOk X pq H D)(fK:FpOk X (pq++[PD D e1]) H kS)(hk:∀q∈L,SqT X.K H q.2.1 (q.2.2.map V.int)/\q.2.2≠[])(nd:(L.map (·.2.2)).Nodup)(rv:Vals (L.map (·.1)) its)(h:∀(s':Ca)(L':List KIt),L'.Perm L->L'.Pairwise (λa b=>HT.lexLt a.2.2 b.2.2=true)->Inv X pq σ (upd H D (.lst (L'.map (·.1)))) s'->P (.done (.ret .none)) s') :
  Cc (Ch X.prog X.w) A (ksk_end D false its.toArray e1 (.ref kS) (Yn L).toArray) P E s:=by
 let el:its.length=L.length:=by have:=rv.length;simp only[Ja]at this;lia
 let ek:(Yn L).length=its.length:=by rw[el];simp[Yn]
 unfold ksk_end
 try dsimp only
 simp only[Gv,if_false]
 by_cases h2:its.toArray.size<2
 .rw[De h2];refine F7 (F8 ?_);rw[De h2];let h2':its.length<2:=by simpa using h2
  refine F7 (m:=(pure ⟨⟩:StateT SortSt Sem Unit).run _) (F8 ?_);refine Zao (L':=L) (out:=its) I h64 fD fK ?_ rfl rv rfl λs'=>h s' L (Jic _) ?_
  .show(((Yn L).toArray.zip its.toArray).map (·.2))=its.toArray
   apply Array.toList_inj.mp
   rw[Array.toList_map,ksk_zip];simp only[Jg4 (by lia:its.length<=(Yn L).length)]
  .match L,el with
   |[],_=>exact .nil
   |[q],_=>exact Jc7 _ _
   |_::_::_,el=>simp only[Jz]at el;lia
 .rw[Dd h2,Dd h2];let h2':2<=its.length:=by simpa using h2
  refine F7 (Zl6 (I.unpinned (pl:=[PKs kS e L])) hk () ?_);refine F7 (Dj (kat_run (vs:=its) (ks:=Yn L) (G:=λp s'=>s'=s/\GoodP L.length p/\SrtR (Wv (L.map (·.2.2))) p L.length) (Q:=λst' s'=>∃p:Array Nat,s'=s/\GoodP L.length p/\SrtR (Wv (L.map (·.2.2))) p L.length/\arrOf st'=p.map (kas_item ((Yn L).toArray.zip its.toArray))/\failedOf st'=none) ek h2' ()
   (λp st' s' a1 a2 a3 a4=>⟨p,a4.1,a4.2.1,a4.2.2,a2,a3⟩)
   (by
    rw[el];exact Zsd (Zp2 (I.unpinned (pl:=[PKs kS e L])) hk nd) (λi j hi hj z=>Zeg nd (by simpa using hi) (by simpa using hj) z) () (G:=λp s'=>s'=s/\GoodP L.length p/\SrtR (Wv (L.map (·.2.2))) p L.length) λp g hs=>⟨rfl,g,hs⟩)) ?_ λ_ _ x=>x)
  rintro⟨⟨⟩,st'⟩ s' ⟨p,rfl,g,hs,har,hf⟩;let hp:∀i∈p.toList,i<L.length:=λi hi=>by
   let:=(B6.mp g.perm).mem_iff.mp hi;simpa using this
  let pl:p.toList.Perm (Eb L.length):=by have:=B6.mp g.perm;simpa using this
  let hmap:∀(F:KIt->V),(p.toList.map λi=>F (L.getD i (.non,0,[])))=(p.toList.map λi=>L.getD i (.non,0,[])).map F:=λF=>by rw[Gk];rfl
  let rangeL:(Eb L.length).map (λi=>L.getD i (.non,0,[]))=L:=by
   apply Jg5
   .simp
   .intro i h1 h2;simp[Gq,h2]
  refine Zao (L':=p.toList.map λi=>L.getD i (.non,0,[])) (out:=p.toList.map λi=>its.getD i Value.none) I h64 fD fK (kat_snds ek har) hf (by rw[<-hmap (·.1)];exact Vals.perm_get rv hp) (by rw[Ja,Bs,g.size]) λs'=>h s' _ ?_ ?_
  .let:=pl.map λi=>L.getD i (.non,0,[]);rwa [rangeL]at this
  .rw[G6];intro i j hi hj hij;simp only[Ja,Bs,g.size]at hi hj;let gi:=g.lt i hi;let gj:=g.lt j hj;let hle:=hs i j (B3 hij) hj;let hne:=g.ne hi hj (Gi hij);unfold Rk at hle;let hlt:Wv (L.map (·.2.2)) (p.getD i 0)<Wv (L.map (·.2.2)) (p.getD j 0):=by
    rcases Int.lt_or_eq_of_le hle with z|z
    .exact z
    .exact absurd (Zeg nd (by simpa using gi) (by simpa using gj) z) hne
   let hd:=Rs nd (i:=p.getD i 0) (j:=p.getD j 0) (by simpa using gi) (by simpa using gj);rw[Df hlt,Vd gi,Vd gj]at hd;let ei:p.getD i 0=p[i]'(by rw[g.size];exact hi):=by simp[Jei,g.size,hi]
   let ej:p.getD j 0=p[j]'(by rw[g.size];exact hj):=by simp[Jei,g.size,hj]
   simp only[Bd,Array.getElem_toList,Gq];let gi':=gi;let gj':=gj;rw[ei]at gi';rw[ej]at gj';rw[Jb gi',Jb gj'];simp only[ei,ej]at hd;exact hd.symm
end
section
theorem Zhf{D kS f:Addr}{e1:Nat}{L:List KIt}{P:Jfj->Ca->Prop}(I:Inv X ((pq++[PD D e1])++[PKs kS 0 []]) σ H s)(h64:L.length<64)(fD:FpOk X pq H D)(fK:FpOk X (pq++[PD D e1]) H kS)(hk:∀q∈L,SqT X.K H q.2.1 (q.2.2.map V.int)/\q.2.2≠[])(nd:(L.map (·.2.2)).Nodup)(rv:Vals (L.map (·.1)) its)(hcall:∀(pins':List (Addr×Obj))(s':Ca)(q:KIt)(u:Value),(∀p∈pq,p∈pins')->Inv X pins' σ H s'->q∈L->RelV q.1 u->Cc (Ch X.prog X.w) A (call (.ref f) [u]) (EP X pins' σ λv H'=>v=.ref q.2.1/\H'=H) (λ_ _=>False) s')(h:∀(s':Ca)(L':List KIt),L'.Perm L->L'.Pairwise (λa b=>HT.lexLt a.2.2 b.2.2=true)->Inv X pq σ (upd H D (.lst (L'.map (·.1)))) s'->P (.done (.ret .none)) s') :
  Cc (Ch X.prog X.w) A (ksk_rest D (.ref f) false its.toArray e1 (.ref kS)) P E s:=by
 let el:its.length=L.length:=by have:=rv.length;simp only[Ja]at this;lia
 unfold ksk_rest;refine F7 (Ja9 ?_)
 first
  |rw[List.forIn_toArray]
  |(rw[<-Jfk];simp only[Jey])
  |rw[<-Jfk]
 refine F7 (ksk_fold (λn s'=>∃e,Inv X ((pq++[PD D e1])++[PKs kS e (L.take n)]) σ H s') its 0 s ⟨0,by simpa using I⟩ (λj x s' hx⟨e,J⟩=>?_) λs'⟨e,J⟩=>?_)
 .simp only[Jd6]at J⊢;let hj:j<its.length:=(Je.mp hx).1;let hj':j<L.length:=by lia
  let⟨u,hu,r1⟩:=Vals.get rv (i:=j) (x:=L[j].1) (by rw[Jx,Jb hj'];rfl);rw[hx]at hu;cases hu;refine F7 (Jfl (Dj (hcall _ s' L[j] x (λp hp=>Bh _ (Bh _ hp)) J (Jl hj') r1) (λk s'' hkk=>?_) λ_ _ hF=>hF.elim));let⟨v,H',J',rk,ev,eH⟩:=hkk;subst ev;subst eH;obtain rfl:k=Cg L[j].2.1:=rk;let pk:=J'.pin (PKs kS e (L.take j)) (Jt _ (Jt _ (Jj.mpr rfl)));let s1:=E1 s''.heap kS (C2 (·.push (Cg L[j].2.1)));let ea:(Yn (L.take j)).toArray.push (Cg L[j].2.1)=(Yn (L.take (j+1))).toArray:=by
   let e2:Yn (L.take (j+1))=Yn (L.take j)++[Cg L[j].2.1]:=by
    unfold Yn;rw[Jf hj',Jg];rfl
   rw[e2,Jf7]
  obtain⟨c2,hc2⟩:∃c2,(s''.heap.update kS (C2 (·.push (Cg L[j].2.1)))).get? kS=some (Hs "list" (Yn (L.take (j+1))).toArray c2):=⟨_,by rw[<-ea];exact Jd8 pk.1 (·.push (Cg L[j].2.1))⟩;let hsz:(Yn (L.take j)).toArray.size<64:=by simp only[Jm,Yn,Ja,Ji];lia
  try dsimp only
  refine F7 (Jc5 pk.1 rfl ?_ (by rw[Eg];show(Yn (L.take j)).toArray.size<=_;lia) (J8 (Bv (Array.size_push ..)) (by rw[Eg];show(Yn (L.take j)).toArray.size+1<=_;lia)));refine F8 ⟨rfl,c2,?_⟩;let J1:=(J'.unpinned (pl:=[PKs kS e (L.take j)])).turn1 fK s1;exact J1.pin1 fK hc2 (by intro v;simp)
 .simp only[Jd6]at J;rw[el,Jw]at J;let pk:=J.pin (PKs kS e L) (Jt _ (Jt _ (Jj.mpr rfl)))
  try dsimp only
  refine F7 (listItems_at pk.1 rfl ?_);exact Zlh J h64 fD fK hk nd rv h
theorem Zor{f:Addr}{L:List KIt}(I:Inv X pq σ H s)(hl:SqL X.K H l (L.map (·.1)))(h64:L.length<64)(hk:∀q∈L,SqT X.K H q.2.1 (q.2.2.map V.int)/\q.2.2≠[])(nd:(L.map (·.2.2)).Nodup)(hcall:∀(pins':List (Addr×Obj))(s':Ca)(q:KIt)(u:Value),(∀p∈pq,p∈pins')->Inv X pins' σ H s'->q∈L->RelV q.1 u->Cc (Ch X.prog X.w) X.A.in1.in1 (call (.ref f) [u]) (EP X pins' σ λv H'=>v=.ref q.2.1/\H'=H) (λ_ _=>False) s')(h:∀(D:Addr)(L':List KIt),H D=none->L'.Perm L->L'.Pairwise (λa b=>HT.lexLt a.2.2 b.2.2=true)->Q (.ref D) (upd H D (.lst (L'.map (·.1))))) :
  Cc (Ch X.prog X.w) X.A (call (.builtin "sorted") [.ref l] [(Cv "key",.ref f)]) (EP X pq σ Q) E s:=by
 let⟨its,rv,pl,_⟩:=I.list hl;let el:its.length=L.length:=by have:=rv.length;simp only[Ja]at this;lia
 refine call_function_entry_kw kind_sorted plain_sorted entry_sorted (ksk_s1 _ _) ?_;unfold Builtin.«sorted»;refine F7 (m:=checkCount "sorted" 1 1 _) (F8 ?_);refine F7 (collect_list pl.isList ?_ (by rw[Eg];lia));refine F7 (Jc8 ?_ (by rw[Eg];lia));let hsz:((s.heap.push (Hs "list" #[] 0)).update s.heap.objs.size (C2 (·++its.toArray))).objs.size=s.heap.objs.size+1:=by
  rw[Heap.size_update,Jiv]
 let hoL:(((s.heap.push (Hs "list" #[] 0)).update s.heap.objs.size (C2 (·++its.toArray))).push (Hs "list" its.toArray 0)).get? (s.heap.objs.size+1)=some (Hs "list" its.toArray 0):=by
  rw[<-hsz];exact Da _ rfl
 let keep:∀b o,s.heap.get? b=some o->(((s.heap.push (Hs "list" #[] 0)).update s.heap.objs.size (C2 (·++its.toArray))).push (Hs "list" its.toArray 0)).get? b=some o:=λb o q=>by
  let hlt:b<s.heap.objs.size:=Db q;rw[Jf8 _ _ _ (by rw[hsz];exact Gi (Ja7 hlt)),Heap.get?_update_ne _ _ _ _ (Gi hlt),Jf8 _ _ _ (Gi hlt)];exact q
 let fD:FpOk X pq H (s.heap.objs.size+1):=I.fpOk (Bw _) (I.hok.fresh (Bw _));let I1:Inv X pq σ H {s with heap:=((s.heap.push (Hs "list" #[] 0)).update s.heap.objs.size (C2 (·++its.toArray))).push (Hs "list" its.toArray 0)}:=I.kept (t':=s.toks) keep;show Cc _ _ _ _ _ {s with heap:=((s.heap.push (Hs "list" #[] 0)).update s.heap.objs.size (C2 (·++its.toArray))).push (Hs "list" its.toArray 0)};rw[hsz];generalize hD:s.heap.objs.size+1=D at *
 generalize hh:((s.heap.push (Hs "list" #[] 0)).update s.heap.objs.size (C2 (·++its.toArray))).push (Hs "list" its.toArray 0)=hp at *
 refine F7 (C9 (wpAny_call_entry_kw slot_list_sort ⟨_,hoL,rfl⟩ Jho ?body (ksk_l1 _ _)))
 case body =>
  show Cc (Ch X.prog X.w) X.A.in1.in1 (Builtin.«list.sort» ⟨[.ref D],[(Cv "key",.ref f)]⟩) _ _ _;rw[ksk_t1];let s1:=E1 hp D (C2 λ_=>(#[]:Array Value));obtain⟨e1,ho1⟩:∃e1,(hp.update D (C2 λ_=>(#[]:Array Value))).get? D=some (Hs "list" #[] e1):=⟨_,Jd8 hoL λ_=>#[]⟩;let I2:=(I1.turn1 fD s1).pin1 fD ho1 (by intro v;simp);let I3:Inv X (pq++[PD D e1]) σ H {s with heap:=((hp.update D (C2 λ_=>(#[]:Array Value))).push (Hs "tuple" its.toArray 0)).push (Hs "list" #[] 0)} :=
   I2.kept (t':=s.toks) λb o e=>F9 _ (F9 _ e)
  let hKz:(hp.update D (C2 λ_=>(#[]:Array Value))).objs.size<=((hp.update D (C2 λ_=>(#[]:Array Value))).push (Hs "tuple" its.toArray 0)).objs.size:=by rw[Jiv];exact Bw _
  let fK:FpOk X (pq++[PD D e1]) H ((hp.update D (C2 λ_=>(#[]:Array Value))).push (Hs "tuple" its.toArray 0)).objs.size:=I2.fpOk hKz (I2.hok.fresh hKz);unfold ksk_tree;refine F7 (listItems_at hoL rfl ?_);refine F7 (Jc5 hoL rfl ?_ (by rw[Jm,Eg];lia) (Gc _));refine F7 (seqEpoch_at ho1 rfl ?_);refine F7 (wpAny_newTuple ?_ (by show its.length<=_;rw[Eg];lia));refine F7 (Jc8 ?_ (Gc _));refine C9 ?_;refine Zhf (L:=L) (I3.pin1 fK (Da _ rfl) (by intro v;simp)) h64 fD fK hk nd rv hcall λs' L' p w I'=>?_;exists ·,F8 ⟨_,rfl,.ref D,_,I',rfl,h D L' fD.1 p w⟩
end
def codeφ(c:Addr)(q:Str):HO:=.ext λh=>h.CodeRec (.ref c) q
def Uf(P:Addr)(pos:Pos)(q:Str)(H:Hp):Prop :=
 ∃ps,H P=some (.tbl ps)/\TriplesOk ps.toList/\(Jhp pos ps.toList=none\/∃c,Jhp pos ps.toList=some (.ref c)/\H c=some (codeφ c q))
def Q9(P:Addr)(H H':Hp):Prop:=∀b o,b≠P->H b=some o->H' b=some o
def Q9.refl(P:Addr)(H:Hp):Q9 P H H:=λ_ _ _ h=>h
def Uf.same{P:Addr}{q:Str}(t:Uf P pos q H)(s:Same H H'):Uf P pos q H':=by
 let⟨ps,a,b,c⟩:=t;exists ps,s _ _ a,b,?_;rcases c with c|⟨c',d,e⟩
 .exact .inl c
 .exact .inr ⟨c',d,s _ _ e⟩
def Bm(mg:Str->Option Value)(h:Heap):Prop:=∃bm ob,mg "__builtins__"=some (.ref bm)/\bm≠Jeg/\h.get? bm=some ob/\ob.cls=.type "module"/\ob.dict=some Jeg/\ob.data=.plain
abbrev Tr(q:Str)(params:Arguments)(body:Expr)(scope:Scope)(pm cv ctv:Value):Obj :=
 {cls:=.type "function",data:=.func (kla_fn "<lambda>" q params body scope [] pm cv ctv)}
section
def Zmi{c:Addr}{q:Str}(x:h.CodeRec (.ref c) q){w:C0}:Y5 P w H h c (codeφ c q) :=
 ⟨x,let⟨c',o,_,_,e,ho,_⟩:=x;⟨o,by cases e;exact ho⟩,λ_ _ a b=>a.at λo e=>b o e⟩
def Zl4{params:Arguments}{body:Expr}{scope:Scope}{c P:Addr}{R:Value->Ca->Prop}(I:Inv X pq σ H s)(hcode:X.env.code=.ref c)(C:CodeHd X.base c P)(B:Bm X.mg X.base)(T:Uf P pos (X.env.qual++"<lambda>") H)(hcl:Jiu scope X.env=pure [])(hdef:defaultsOf params X.env=([],[]))(h:∀(f c':Addr)(pm ctv:Value)(H2:Hp)(s2:Ca),Q9 P H H2->Uf P pos (X.env.qual++"<lambda>") H2->H2 c'=some (codeφ c' (X.env.qual++"<lambda>")) ->
   Inv X (pq++[(f,Tr (X.env.qual++"<lambda>") params body scope pm (.ref c') ctv)]) σ H2 s2->R (.ref f) s2) :
  Cc (Ch X.prog X.w) X.A (eval (.Lambda params body scope pos) X.env) R E s:=by
 let⟨ps,hP,ht,hc⟩:=T;let oP:s.heap.get? P=some (tabObj ps):=I.hok P _ hP;let⟨bm,ob,b1,b2,b3,b4,b5,b6⟩:=B;let gl:s.heap.Ns mainGlobals X.mg:=I.mod.glob.keeps I.bk;let hgP:mainGlobals≠P:=λz=>by
  let⟨o,es,ep,e,hd,_⟩:=gl;rw[z,oP]at e;cases e;cases hd
 let hbP:bm≠P:=λz=>by
  let e:=I.bk _ _ b3;rw[z,oP]at e;cases e;cases b4
 let hbG:bm≠mainGlobals:=λz=>by
  let⟨o,es,ep,e,hd,_⟩:=gl;let e3:=I.bk _ _ b3;rw[z,e]at e3;cases e3;rw[hd]at b6;cases b6
 let BA:s.heap.BuiltinsAt X.mg P:=⟨bm,ob,b1,b2,hbG,hbP,I.bk _ _ b3,b4,b5,b6⟩;refine kla_eval hdef ?_;rcases hc with hc|⟨c',hc,hx⟩
 .refine kla_makeFunction (mg:=X.mg) hcl I.ok.glob gl hcode (C.keeps I.bk) oP ht hc hgP BA λc' ctv h' tk hx hge hlt hrec htb=>?_;let hn:H c'=none:=I.hok.fresh hge;let cP:c'≠P:=λz=>by rw[z,hP]at hn;cases hn
  let cR:(h'.push (Tr (X.env.qual++"<lambda>") params body scope ((X.mg "__name__").getD .none) (.ref c') ctv)).CodeRec (.ref c') (X.env.qual++"<lambda>"):=hrec.at λo e=>F9 _ e;let keep:∀b o,b≠P->s.heap.get? b=some o->(h'.push (Tr (X.env.qual++"<lambda>") params body scope ((X.mg "__name__").getD .none) (.ref c') ctv)).get? b=some o:=λb o n e=>F9 _ (hx b o n e);let tb:=F9 (Tr (X.env.qual++"<lambda>") params body scope ((X.mg "__name__").getD .none) (.ref c') ctv) htb;let H2e:∀b o,b≠P->H b=some o->upd (upd H P (.tbl (ps++#[Hq pos.line,Hq pos.col,.ref c']))) c' (codeφ c' (X.env.qual++"<lambda>")) b=some o:=λb o n e=>by
   rw[Zn (Zr e hn),Zn n];exact e
  let hok:HOk X.prog X.w (upd (upd H P (.tbl (ps++#[Hq pos.line,Hq pos.col,.ref c']))) c' (codeφ c' (X.env.qual++"<lambda>"))) (h'.push (Tr (X.env.qual++"<lambda>") params body scope ((X.mg "__name__").getD .none) (.ref c') ctv)):=λb u e=>by
   by_cases hb:b=c'
   .subst hb;rw[Zg]at e;cases e;exact Zmi cR
   .rw[Zn hb]at e
    by_cases hb2:b=P
    .subst hb2;rw[Zg]at e;cases e;exact tb
    .rw[Zn hb2]at e;refine(I.hok b u e).stay (λd v hd q=>keep d v ?_ q) (λd q=>H2e d _ (λz=>by rw[z,hP]at q;cases q) q) λd xs q=>H2e d _ (λz=>by rw[z,hP]at q;cases q) q;rcases hd with z|z
     .rw[z];exact hb2
     .intro w;rw[w,hP]at z;cases z
  let un:Un X.fs [] H (upd (upd H P (.tbl (ps++#[Hq pos.line,Hq pos.col,.ref c']))) c' (codeφ c' (X.env.qual++"<lambda>"))) s.heap (h'.push (Tr (X.env.qual++"<lambda>") params body scope ((X.mg "__name__").getD .none) (.ref c') ctv)):=by
   let nP:∀b,H b=none->b≠P:=λb n z=>by rw[z,hP]at n;cases n
   exists λb o e n _ _=>keep b o (nP b n) e,λb o e n _ _=>⟨o.slots,keep b o (nP b n) e⟩,λb o e n _=>?_,λb o e _=>?_,λb xs q=>H2e b _ (λz=>by rw[z,hP]at q;cases q) q,λb o u q=>H2e b _ (λz=>by rw[z,hP]at q;cases q) q,λb qs q=>?_
   .let:b≠c':=Gi (Jy (Db e) hge);rw[Zn this,Zn (nP b n)];exact n
   .by_cases hb:b=P
    .exists _,hb ▸ tb
    .exists o,keep b o hb e
   .by_cases hb:b=P
    .subst hb;rw[hP]at q;cases q;exact⟨#[Hq pos.line,Hq pos.col,.ref c'],by rw[Zn cP.symm,Zg]⟩
    .exact⟨#[],by rw[H2e b _ hb q];simp⟩
  let I2:=I.un (t':=tk) un hok;let fz:s.heap.objs.size<=h'.objs.size:=J8 hge (B3 hlt);let fn:upd (upd H P (.tbl (ps++#[Hq pos.line,Hq pos.col,.ref c']))) c' (codeφ c' (X.env.qual++"<lambda>")) h'.objs.size=none:=by
   rw[Zn (F6 hlt),Zn (λz=>absurd (Db oP) (by rw[<-z];exact Nat.not_lt.mpr fz))];exact I.hok.fresh fz
  let fF:=I.fpOk (H':=upd (upd H P (.tbl (ps++#[Hq pos.line,Hq pos.col,.ref c']))) c' (codeφ c' (X.env.qual++"<lambda>"))) fz fn;refine h h'.objs.size c' _ ctv _ _ H2e ⟨_,by rw[Zn cP.symm,Zg],?_,.inr ⟨c',?_,Zg⟩⟩ Zg (I2.pin1 fF (Da _ rfl) (by intro v;simp))
  .rw[Jez];exact TriplesOk_snoc _ _ _ _ ht
  .rw[Jez];exact codeAmong_snoc _ ht hc
 .refine kla_makeFunctionHit (mg:=X.mg) hcl I.ok.glob gl hcode (C.keeps I.bk) oP ht hc BA λctv h' tk hk hsz=>?_;let I2:Inv X pq σ H {s with heap:=h'.push (Tr (X.env.qual++"<lambda>") params body scope ((X.mg "__name__").getD .none) (.ref c') ctv),toks:=tk}:=I.kept (t':=tk) λb o e=>F9 _ (hk b o e);let fF:=I.fpOk (H':=H) hsz (I.hok.fresh hsz);exact h h'.objs.size c' _ ctv H _ (.refl _ _) ⟨ps,hP,ht,.inr ⟨c',hc,hx⟩⟩ hx (I2.pin1 fF (Da _ rfl) (by intro v;simp))
def Zp0{Pg:Ew}{w:C0}{K:Frag}{base:Heap}{outer:List Env}{f c':Addr}{q x:Str}{params:Arguments}{body:Expr}{scope:Scope}{ctv:Value}{u:Value}{t:TE}(e0:Env0 Pg w K mg base A outer s H)(hr:Room 1 A)(ho:s.heap.get? f=some (Tr q params body scope pm (.ref c') ctv))(hcd:s.heap.CodeRec (.ref c') q)(S:FnScope [x] [x] scope)(hbind:Jfb (kla_fn "<lambda>" q params body scope [] pm (.ref c') ctv) ⟨[u],[]⟩=pure [(x,u)])(rv:RelV v u)(hb:PE (cxOf CX0 Pg w K mg base [x] q scope f (.ref c') A outer s H E0) body t)(ht:t [some v] H Q) :
  Hz (Ch Pg w) A (.call (.ref f) ⟨[u],[]⟩) (CR CX0 outer Pg w H s Q E0) s:=by
 let KX:K.In s.heap:=e0.mod.kin.keeps λb o e=>(e0.bs b o e).1;let lim:s.heap.NoLimit:=e0.mod.nolimit.keeps λb o e=>(e0.bs b o e).1;refine kla_callFunE hr.depth ho rfl S.co S.gen rfl hcd ?_;rw[hbind];refine F8 ?_;refine Me S.kind (λy hy=>?_) λenv he s1 x1=>?_
 .let ey:y=(x,u):=Jj.mp hy;subst ey;rcases S.par x (Jj.mpr rfl)with z|z
  .exact .inl z
  .exact .inr ⟨z,PySem.W.cellsFrom_some _ _ _ (.inl z)⟩
 .subst he;exists lim.keeps x1.toInCall.keep,kla_codeExpr ?_;let I:Inv (cxOf CX0 Pg w K mg base [x] q scope f (.ref c') A outer s H E0) [] (U6 [x] [v]) H s1:=Zbd (us:=[u]) S hr.hd e0 rfl (.cons rv .nil) x1;refine Dj (hb [] s1 (U6 [x] [v]) H Q I ht) (λr s' hs=>?_) λe s' hs=>hs;let⟨v',H',J,rv',q'⟩:=hs;exists v',H',J.os,J.bare,J.base,J.hok,rv',q'
end
def Q9.sqL{K:Frag}{P:Addr}{ps:Array Value}(e:Q9 P H H')(hP:H P=some (.tbl ps)){a:Addr}(h:SqL K H a xs):SqL K H' a xs:=by
 rcases h with(h|⟨o,h⟩)|h
 .exact .inl (.inl (e _ _ (λz=>by rw[z,hP]at h;cases h) h))
 .exact .inl (.inr ⟨o,e _ _ (λz=>by rw[z,hP]at h;cases h) h⟩)
 .exact .inr h
def Q9.sqT{K:Frag}{P:Addr}{ps:Array Value}(e:Q9 P H H')(hP:H P=some (.tbl ps)){a:Addr}(h:SqT K H a xs):SqT K H' a xs:=by
 rcases h with(h|⟨o,h⟩)|h
 .exact .inl (.inl (e _ _ (λz=>by rw[z,hP]at h;cases h) h))
 .exact .inl (.inr ⟨o,e _ _ (λz=>by rw[z,hP]at h;cases h) h⟩)
 .exact .inr h
def Zr3(K:Frag)(P:Addr)(lpos:Pos)(qual:Str)(tb:TE)(ta:TA):TE:=λσ H Q=>ta σ H λvs H1=>∃(l:Addr)(L:List KIt),vs=[.ref l]/\SqL K H1 l (L.map (·.1))/\L.length<64 /\
 (∀q∈L,SqT K H1 q.2.1 (q.2.2.map V.int)/\q.2.2≠[])/\(L.map (·.2.2)).Nodup/\Uf P lpos qual H1/\(∀H2 q,Q9 P H1 H2->q∈L->tb [some q.1] H2 λv H'=>v=.ref q.2.1/\H'=H2) /\
 ∀(H2:Hp)(D:Addr)(L':List KIt),Q9 P H1 H2->Uf P lpos qual H2->H2 D=none->L'.Perm L->L'.Pairwise (λa b=>HT.lexLt a.2.2 b.2.2=true)->Q (.ref D) (upd H2 D (.lst (L'.map (·.1))))
section
theorem Zlv{e:Expr}{ta:TA}{c P:Addr}{x:Str}{params:Arguments}{body:Expr}{scope:Scope}{p lpos kpos:Pos}(hr:Room 3 X.A)(hg:Gl X "sorted")(hm:X.mg "sorted"=none)(ha:PA X [e] ta)(hcode:X.env.code=.ref c)(C:CodeHd X.base c P)(B:Bm X.mg X.base)(hcl:Jiu scope X.env=pure [])(hdef:defaultsOf params X.env=([],[]))(S:FnScope [x] [x] scope)(hbind:∀(pm cv ctv u:Value),Jfb (kla_fn "<lambda>" (X.env.qual++"<lambda>") params body scope [] pm cv ctv) ⟨[u],[]⟩=pure [(x,u)])(hb:∀(f c':Addr)(A:K2)(outer:List Env)(s:Ca)(H:Hp),PE (cxOf CX0 X.prog X.w X.K X.mg X.base [x] (X.env.qual++"<lambda>") scope f (.ref c') A outer s H E0) body tb)(he:Ci [e] X.env=[(false,eval e X.env)]:=by rfl) :
  PE X (.Call (.Name "sorted" p) [e] [⟨some "key",.Lambda params body scope lpos,kpos⟩] pos) (Zr3 X.K P lpos (X.env.qual++"<lambda>") tb ta):=by
 intro pq s σ H Q I h;refine Em (Ra I hg hm He ?_);refine callWith_kw (thn (ha pos pq s σ H _ I h) λus s1 hz=>?_) (by rw[he];rfl) (by rw[he];rfl);let⟨vs,H1,I1,r1,l,L,ev,hl,h64,hk,nd,T,hbo,q1⟩:=hz;subst ev;let⟨u,rfl,ru⟩:=Vals.one r1;obtain rfl:u=Cg l:=ru;let⟨ps,hP,_,_⟩:=id T;show Cc _ _ (evalAll [do let v <-eval (.Lambda params body scope lpos) X.env;Jfu pos;pure v]) _ _ s1;refine wpAny_evalAll_cons (F7 (Zl4 I1 hcode C B T hcl hdef λf c' pm ctv H2 s2 sT T2 hx I2=>F7 (Hw (F8 (wpAny_evalAll_nil ?_)))));show Cc _ _ (call (.builtin "sorted") [.ref l] [(Cv "key",.ref f)]) _ _ s2
 refine Dj (Zor (Q:=Q) (E:=X.xe) I2 (sT.sqL hP hl) h64 (λq hq=>⟨sT.sqT hP (hk q hq).1,(hk q hq).2⟩) nd (λpins' s' q u hp I' hq rv=>?_) λD L' n p w=>q1 H2 D L' sT T2 n p w) (λv s'⟨v',H',J,rv,qq⟩=>⟨v',H',J.unpinned,rv,qq⟩) λ_ _ z=>z;let hpin:=I'.pin (f,Tr (X.env.qual++"<lambda>") params body scope pm (.ref c') ctv) (Jt _ (hp _ (Jt _ (Jj.mpr rfl))));refine Lp (Kf (Zp0 (I'.env0.in1.in1) hr.in1.in1 hpin.1 (I'.hok c' _ hx).1 S (hbind pm (.ref c') ctv u) rv (hb f c' _ _ _ _) (hbo H2 q sT hq)) λr s'' hq'=>?_);cases r with
 |error e=>exact Cq hq'
 |ok fl =>
  cases fl with
  |ret u=>exact I'.after hq'
  |next=>exact Cq hq'
  |brk=>exact Cq hq'
  |cont=>exact Cq hq'
end
end L2
namespace L2
open PySem PySem.Spec PyProof.Rows
def Zkr(P:Addr)(H:Hp):Prop:=H P=some (.tbl #[])/\∀b,b≠P->H b=none\/∃o xs,H b=some (.frz o (.lst xs))
def Zkr.tab{P:Addr}(o:Zkr P H)(pos:Pos)(q:Str):Uf P pos q H:=⟨#[],o.1,trivial,.inl rfl⟩
theorem Ziy{w:C0}{mb:Str->Option Value}{k:Nat}{fa a c:Addr}{x:Str}{s₁:Ca}{vs:List Value}(KX:K.In s₁.heap)(hns:s₁.heap.Ns mainGlobals mg)(hb:s₁.heap.Ns Jeg mb)(hbb:∀x:Str,x≠"__name__"->mb x=K1 x)(hlim:s₁.heap.NoLimit)(hbm:Bm mg s₁.heap)(hg:s₁.gens=#[])(ha:s₁.heap.get? a=some {cls:=.type "list",data:=.seq vs.toArray})(hi:Ms vs ns)(hl:ns.length<=sizeLine)(hr:Room k Jf4)(hP:s₁.heap.get? Pt=some (Jkj #[]))(hPK:K.lookup Pt=none)(hC:W.CodeHd s₁.heap c Pt)(F:∀base:Heap,K.In base->base.Ns mainGlobals mg->Bm mg base->FnOk P w K mg base CX k fa fd [x] sp)(hbind:∀(s:Ca)(u:Value),Jf0 s fd ⟨[u],[]⟩ [(x,u)])(hsp:∀H:Hp,Zkr Pt H->SqL K H a (ns.map V.int)->sp [.ref a] H (λv _=>v=.bl true) λ_ _ _=>False)(hCX:∀H e s',CX [] H s₁ (λ_ _ _=>False) e s'->False) :
  Hz (Ch P w) Jf4 (.call (.ref fa) ⟨[.ref a],[]⟩) (λr s'=>r=.ok (.ret (.bool true))/\OldK s₁.heap s'.heap/\s'.os=s₁.os/\Jb5 s'.gens) s₁:=by
 let rv:=Zah hi;let lenV:=hi.length;let aP:a≠Pt:=λz=>by rw[z,hP]at ha;cases ha
 let core:∀H:Hp,Zkr Pt H->SqL K H a (ns.map V.int)->HOk P w H s₁.heap->(∀b,H b≠none->b=a\/b=Pt)->(∀b,H b≠none->K.lookup b=none) ->
   Hz (Ch P w) Jf4 (.call (.ref fa) ⟨[.ref a],[]⟩) (λr s'=>r=.ok (.ret (.bool true))/\OldK s₁.heap s'.heap/\s'.os=s₁.os/\Jb5 s'.gens) s₁:=by
  intro H hO hS hok hA hK;let base_of:∀{b:Addr}{o:Obj},s₁.heap.get? b=some o->H b=none->(hidT s₁.heap H).get? b=some o:=λe n=>Zmb e n;let noA:∀{b:Addr}{o:Obj},s₁.heap.get? b=some o->(∀its n,o.data≠.seq its n)->(∀ps,o.data≠.fields ps)->H b=none:=λ{b o}e d d2=>by
   cases q:H b with
   |none=>rfl
   |some u =>
    rcases hA b (by rw[q];simp)with e'|e'
    .subst e';rw[ha]at e;cases e;exact absurd rfl (d _ _)
    .subst e';rw[hP]at e;cases e;exact absurd rfl (d2 _)
  let nsK:∀{b:Addr}{m:Str->Option Value},s₁.heap.Ns b m->(hidT s₁.heap H).Ns b m:=λ{b m}⟨o,es,ep,e,d,r⟩=>⟨o,es,ep,base_of e (noA e (by rw[d];intro _ _ z;cases z) (by rw[d];intro _ z;cases z)),d,r⟩;let hKb:K.In (hidT s₁.heap H):=λb o e=>base_of (KX b o e) (by
   cases q:H b with
   |none=>rfl
   |some u=>rw[hK b (by rw[q];simp)]at e;cases e)
  let hBm:Bm mg (hidT s₁.heap H):=by
   let⟨bm,ob,b1,b2,b3,b4,b5,b6⟩:=hbm;exists bm,ob,b1,b2,base_of b3 (noA b3 (by rw[b6];intro _ _ z;cases z) (by rw[b6];intro _ z;cases z)),b4,b5,b6
  let hM:Mod K mg (hidT s₁.heap H):=⟨hKb,nsK hns,⟨mb,nsK hb,hbb⟩,let⟨mc,h1,h2⟩:=hlim;⟨mc,nsK h1,h2⟩⟩;let e0:Env0 P w K mg (hidT s₁.heap H) Jf4 [] s₁ H:=⟨rfl,hM,λb o e=>Zpn e,Bv (Zjc _ _),trivial,λb hb=>absurd (show b∈([]:List Addr)from hb) (by simp),hok,.of_eq hg⟩;refine Kf ((F _ hKb (nsK hns) hBm).run Jf4 [] s₁ H ⟨[.ref a],[]⟩ [.ref a] [.ref a] _ _ hr e0 (hbind s₁ (.ref a)) (.cons rfl .nil) (hsp H hO hS)) λr s' h=>?_;cases r with
  |error e=>exact(hCX H e s' h).elim
  |ok fl =>
   cases fl with
   |next=>exact Cq h
   |brk=>exact Cq h
   |cont=>exact Cq h
   |ret u =>
    let⟨v,H',os,bare,un,hok',r',q⟩:=h;let q':v=.bl true:=q;subst q';obtain rfl:u=Lo true:=r';let kp:∀b o,b≠Pt->s₁.heap.get? b=some o->s'.heap.get? b=some o:=λb o nP e=>by
     cases q:H b with
     |none=>exact un.keep b o e q (by intro z;exact absurd (show b∈([]:List Addr)from z) (by simp)) (by simp)
     |some u =>
      rcases hO.2 b nP with z|⟨ob,xs,z⟩
      .rw[q]at z;cases z
      .let z2:=un.frzs b ob _ z;let⟨e1,_⟩:=hok b _ z;let⟨e2,_⟩:=hok' b _ z2;rw[e]at e1;cases e1;exact e2
    let⟨more,hm⟩:=un.tbls Pt #[] hO.1;let hPt:s'.heap.get? Pt=some {cls:=.none,data:=.fields (#[]++more)}:=hok' Pt _ hm;exists rfl,⟨λb o e=>?_,λb o e=>?_⟩,os,bare
    .by_cases hbP:b=Pt
     .subst hbP;rw[hP]at e;cases e;exact .inr (.inl ⟨(hC.tab hP).isCodeTable,rfl,#[],more,rfl,hPt⟩)
     .exact .inl (kp b o hbP e)
    .by_cases hbP:b=Pt
     .subst hbP;exists _,hPt
     .exists o,kp b o hbP e
 let okP:∀(H:Hp),Y5 P w H s₁.heap Pt (.tbl #[]):=λH=>hP;cases hk:K.lookup a with
 |some o =>
  let e:=KX a o hk;rw[ha]at e;cases e;refine core (λb=>if b=Pt then some (.tbl #[])else none) ⟨De rfl,λb hb=>.inl (Dd hb)⟩ (.inr ⟨_,vs.toArray,_,hk,rfl,rfl,rfl,by rw[Jm,lenV];exact hl,by simpa using rv⟩) (λb u z=>?_) (λb z=>?_) λb z=>?_
  .by_cases hb:b=Pt
   .let z':=(De hb).symm.trans z;cases z';rw[hb];exact okP _
   .let z':=(Dd hb).symm.trans z;cases z'
  .by_cases hb:b=Pt
   .exact .inr hb
   .exact absurd (Dd hb) z
  .by_cases hb:b=Pt
   .rw[hb];exact hPK
   .exact absurd (Dd hb) z
 |none =>
  refine core (λb=>if b=Pt then some (.tbl #[])else if b=a then some (.frz {cls:=.type "list",data:=.seq vs.toArray} (.lst (ns.map V.int)))else none) ⟨De rfl,λb hb=>?_⟩
   (.inl (.inr ⟨{cls:=.type "list",data:=.seq vs.toArray},(Dd aP).trans (De rfl)⟩)) (λb u z=>?_) (λb z=>?_) λb z=>?_
  .by_cases hba:b=a
   .exact .inr ⟨_,_,(Dd hb).trans (De hba)⟩
   .exact .inl ((Dd hb).trans (Dd hba))
  .by_cases hb:b=Pt
   .let z':=(De hb).symm.trans z;cases z';rw[hb];exact okP _
   .let z1:=(Dd hb).symm.trans z
    by_cases hba:b=a
    .let z':=(De hba).symm.trans z1;cases z';subst hba;exists ha,by rw[Ja];exact hl,vs,_,rv,ha
    .let z':=(Dd hba).symm.trans z1;cases z'
  .by_cases hb:b=Pt
   .exact .inr hb
   .by_cases hba:b=a
    .exact .inl hba
    .exact absurd ((Dd hb).trans (Dd hba)) z
  .by_cases hb:b=Pt
   .rw[hb];exact hPK
   .by_cases hba:b=a
    .rw[hba];exact hk
    .exact absurd ((Dd hb).trans (Dd hba)) z
def Zkz{l:Jjt}{n k:Nat}{q:Ew}{loose:List Str}{XP:(Str->Option Value)->Heap->Prop}{YP:C0->Heap->Prop}{d:DefRec}{K:Params->Cm}{CX:C0->CXT}{sp:C0->Sp}{x:Str}(hn:l.most=some n)(hn2:n<=sizeLine)(hdf:d.params.defaults=[])(hr:Room k Jf4)(hY:∀(w:C0)(h:Heap),YP w h->(K w.params).In h)(hYt:∀(w:C0)(h:Heap),YP w h->h.get? Pt=some (Jkj #[]))(hPK:∀w:C0,(K w.params).lookup Pt=none)(F:∀(w:C0)(mg:Str->Option Value)(fa:Addr)(h:Heap),(K w.params).In h->h.Ns mainGlobals mg->mg d.name=some (.ref fa) ->
   ∃fd:Mi,(∃c,Jf9 (K w.params) c Pt=true)/\(∀(s:Ca)(u:Value),Jf0 s fd ⟨[u],[]⟩ [(x,u)]) /\
    ∀base:Heap,(K w.params).In base->base.Ns mainGlobals mg->Bm mg base->FnOk l.prog w (K w.params) mg base (CX w) k fa fd [x] (sp w))(hsp:∀(w:C0)(H:Hp)(a:Addr)(ns:List Int),ns.length<=n->Zkr Pt H->SqL (K w.params) H a (ns.map V.int)->sp w [.ref a] H (λv _=>v=.bl true) λ_ _ _=>False)(hCX:∀(w:C0)(H:Hp)(s:Ca)(e:Value)(s':Ca),CX w [] H s (λ_ _ _=>False) e s'->False) :
  W.WalkO q loose XP YP l.row.toRowW d [] (λf vs=>Jit f vs):=by
 refine Att.attach_call hn hdf λw s₀ s₁ mg mb fa o pm cd doc a vs ns G Y ho hd hcd hmg hobj hints hlen hg=>?_;let KX:=hY w _ Y;let⟨fd,⟨c,hC⟩,hb,hF⟩:=F w mg fa _ KX G.T.g hmg;exact Ziy KX G.T.g G.T.b G.T.builtins G.T.nolimit G.T.bmain hg hobj hints (J8 hlen hn2) hr (hYt w _ Y) (hPK w) (Jjd KX hC) hF hb (λH hO hS=>hsp w H a ns hlen hO hS) λH e s'=>hCX w H s₁ e s'
section
variable{w:C0}{a:Addr}{o:Obj}{xs:Array Value}{k:Nat}
def Pk{Q:Option Value->Ca->Prop}(hx:s.heap.get? a=some o)(hc:o.cls=.type "list")(hdat:o.data=.seq xs k)(hd:o.dict=none)(hA:A.handled=none)(h:∀h' tk e,Jje s.heap h' e "AttributeError"->Q none {s with heap:=h',toks:=tk}):Cc (Ch prog w) A (Jjf (.ref a) "keys") Q E s:=by
 let⟨c,dct,dat,sl⟩:=o;simp only at hc hdat hd;subst hc hdat hd;let⟨hp,g,d,tk,os⟩:=s;let hT:∀tk',(⟨hp,g,d,tk',os⟩:Ca).TypeIs (.ref a) "list":=λ_=>⟨_,hx,rfl⟩;let f1:=Jfm;let f3:=F.slot_list_getattribute.lookup;let f4:=F.slot_list_getattribute.bind (.ref a);let f5:=am_list_getattr_none;let hmiss:Jeh (.type "list") "keys"=pure none:=by rw[Jhq,Jd9];kernel_rfl
 unfold Jjf getAttrBy? Jju
 repeat (any_goals (first|assumption|exact hT _|((with_reducible show Cc _ _ (call (Jc9 "list.__getattribute__") _ _) _ _ _);refine Kz F.slot_list_getattribute (hT _) am_entry_list_getattribute (F.args_list_getattribute_2 _ _) (meets_getattribute_miss_list a xs k sl "keys" _ hmiss (by decide +kernel)) ⟨hx,hA,λh' tk' e hx'=>?_⟩)|wp_step))
 let⟨t',u',he⟩:=hx'.there;let hTe:∀tk'',(⟨h',g,d,tk'',os⟩:Ca).TypeIs (.ref e) "AttributeError":=λ_=>⟨_,he,rfl⟩;show Cc _ _ (Km _ _ _ _ _ _ _) _ _ _;unfold Km
 repeat (any_goals (first|assumption|exact hTe _|wp_step))
 all_goals exact h _ _ _ hx'.of
def Qp{Q:Option Value->Ca->Prop}(hx:s.heap.get? a=some o)(hc:o.cls=.type "tuple")(hdat:o.data=.seq xs k)(hd:o.dict=none)(hA:A.handled=none)(h:∀h' tk e,Jje s.heap h' e "AttributeError"->Q none {s with heap:=h',toks:=tk}):Cc (Ch prog w) A (Jjf (.ref a) "keys") Q E s:=by
 let⟨c,dct,dat,sl⟩:=o;simp only at hc hdat hd;subst hc hdat hd;let⟨hp,g,d,tk,os⟩:=s;let hT:∀tk',(⟨hp,g,d,tk',os⟩:Ca).TypeIs (.ref a) "tuple":=λ_=>⟨_,hx,rfl⟩;let f1:=Jfm;let f3:=F.slot_tuple_getattribute.lookup;let f4:=F.slot_tuple_getattribute.bind (.ref a);let f5:=am_tuple_getattr_none;let hmiss:Jeh (.type "tuple") "keys"=pure none:=by rw[Jhq,Jd9];kernel_rfl
 unfold Jjf getAttrBy? Jju
 repeat (any_goals (first|assumption|exact hT _|((with_reducible show Cc _ _ (call (Jc9 "tuple.__getattribute__") _ _) _ _ _);refine Kz F.slot_tuple_getattribute (hT _) am_entry_tuple_getattribute (F.args_tuple_getattribute_2 _ _) (meets_getattribute_miss_tuple a xs k sl "keys" _ hmiss (by decide +kernel)) ⟨hx,hA,λh' tk' e hx'=>?_⟩)|wp_step))
 let⟨t',u',he⟩:=hx'.there;let hTe:∀tk'',(⟨h',g,d,tk'',os⟩:Ca).TypeIs (.ref e) "AttributeError":=λ_=>⟨_,he,rfl⟩;show Cc _ _ (Km _ _ _ _ _ _ _) _ _ _;unfold Km
 repeat (any_goals (first|assumption|exact hTe _|wp_step))
 all_goals exact h _ _ _ hx'.of
end
end L2
namespace L2
open PySem PySem.Spec PyProof.Rows PySem.W
def Zbp:entryFor table "dict.update.loop"=some Builtin.«dict.update.loop»:=entryFor_of_tree (by kernel_rfl)
def Zax:plainId "dict.update.loop"=true:=by decide +kernel
inductive DFill(H:Hp)(D:Addr):HO->List (V×V)->HO->Prop
 |nil {o:HO}:DFill H D o [] o
 |cons {o o' o'':HO} {k v:V} {r:List (V×V)} (h:DPut (upd H D o) D k v (upd H D o')) (t:DFill H D o' r o''):DFill H D o ((k,v)::r) o''
def Zkq(K:Cm)(H:Hp)(ys:List V)(zs:List (V×V)):Prop:=Paired (λy z=>∃t,y=.ref t/\SqT K H t [z.1,z.2]) ys zs
def SqT.upd'{a D:Addr}(h:SqT K H a xs)(n:H D=none):SqT K (upd H D o) a xs:=by
 rcases h with(h|⟨o,h⟩)|h
 .exact .inl (.inl (by rw[Zn (Zr h n)];exact h))
 .exact .inl (.inr ⟨o,by rw[Zn (Zr h n)];exact h⟩)
 .exact .inr h
section
def Po(K:Cm)(H:Hp)(h:Heap)(p it:Addr)(ys:List V)(i:Nat):Prop:=(SqL K H p ys/\h.IsListIter it p i)\/(SqT K H p ys/\h.IsTupleIter it p i)
def Po.at{p:Addr}{i:Nat}(x:Po K H h p it ys i)(k:∀o,h.get? it=some o->h'.get? it=some o)(hl:SqL K H p ys->SqL K H' p ys)(ht:SqT K H p ys->SqT K H' p ys):Po K H' h' p it ys i:=by
 rcases x with⟨a,b⟩|⟨a,b⟩
 .exact .inl ⟨hl a,b.at k⟩
 .exact .inr ⟨ht a,b.at k⟩
def Zd3{p:Addr}{i:Nat}{x:V}{Q:Option Value->Ca->Prop}(I:Inv X pq σ H s)(f:FpOk X pq H it)(src:Po X.K H s.heap p it ys i)(hx:ys[i]?=some x)(h:∀u s',RelV x u->Inv X pq σ H s'->Po X.K H s'.heap p it ys (i+1)->Q (some u) s'):Cc (Ch X.prog X.w) A (Jgj (.ref it)) Q E s:=by
 let⟨f0,f1,f2,f3,f4,f5⟩:=f;rcases src with⟨hq,st⟩|⟨hq,st⟩
 .let⟨its,rv,p',hz⟩:=I.list hq;let⟨u,hu,ru⟩:=rv.get hx;exact Jdt st p'.isList (x:=u) (by simpa using hu) λh' st' sb=>h u _ ru (I.turned (t':=s.toks) (λb o hb e=>(sb.2 b hb).trans e) f0 f1 f3 f4 f5) (.inl ⟨hq,st'⟩)
 .let⟨its,rv,p',hz⟩:=I.tuple hq;let⟨u,hu,ru⟩:=rv.get hx;exact Jb6 st (show s.heap.IsTuple p its.toArray from p') (x:=u) (by simpa using hu) λh' st' sb=>h u _ ru (I.turned (t':=s.toks) (λb o hb e=>(sb.2 b hb).trans e) f0 f1 f3 f4 f5) (.inr ⟨hq,st'⟩)
theorem Zg5{p:Addr}{i:Nat}{Q:Option Value->Ca->Prop}(I:Inv X pq σ H s)(f:FpOk X pq H it)(hA:A.handled=none)(src:Po X.K H s.heap p it ys i)(hx:ys.length<=i)(h:∀s',Inv X pq σ H s'->Q none s'):Cc (Ch X.prog X.w) A (Jgj (.ref it)) Q E s:=by
 let⟨f0,f1,f2,f3,f4,f5⟩:=f;rcases src with⟨hq,st⟩|⟨hq,st⟩
 .let⟨its,rv,p',hz⟩:=I.list hq;let hl:=rv.length;exact Jd4 hA st p'.isList (by simp;lia) λh' eb=>h _ (I.turned (t':=s.toks) (λb o hb e=>eb b o hb e) f0 f1 f3 f4 f5)
 .let⟨its,rv,p',hz⟩:=I.tuple hq;let hl:=rv.length;exact Jdu hA st (show s.heap.IsTuple p its.toArray from p') (by simp;lia) λh' eb=>h _ (I.turned (t':=s.toks) (λb o hb e=>eb b o hb e) f0 f1 f3 f4 f5)
theorem Zjv{a:Addr}{y:V}{u r:Value}{Q:Unit->Ca->Prop}(hu:A.units<cLine)(I:Inv X pq σ H s)(g:DPut H a y v H')(ry:RelV y u)(rv:RelV v r)(h:∀s',Inv X pq σ H' s'->Hf a s.heap s'.heap->Q ⟨⟩ s') :
  Cc (Ch X.prog X.w) A (dictSet a u r) Q E s:=by
 rcases g with⟨kvs,k,e,ey,l,eH⟩|⟨kvs,k,b,e,ey,eb,l,eH⟩
 .subst ey eH;let⟨z,hd,vs,rel,dd⟩:=Zqk I.hok e;let hz:vs.length<=sizeLine:=by rw[<-rel.length];exact z
  let hl:(putK kvs k v).length<=sizeLine:=by have:=Xa kvs k v;lia
  refine wpAny_dictSet_pairs (hsz:=hz) (Zc4 ry) dd λh' dd' hs=>h _ ?_ hs;let he:∃q,h'.get? a=some q:=let⟨q,_,_,hq,_⟩:=dd';⟨q,hq⟩
  exact N8 I (by rw[e];exact Eo) hs he (Znu hl hd (rel.put k rv) dd')
 .subst ey eH;cases(show u=Cg b from ry);let⟨z,hd,xs,rel,dd⟩:=Zuc I.hok e;let hz:xs.length<=sizeLine:=by rw[<-Paired.length rel];exact z
  let hl:(putK kvs k v).length<=sizeLine:=by have:=Xa kvs k v;lia
  refine wpAny_dictSet_heap (hsz:=hz) (show(Mw (Y4 X.prog X.w)).room A from hu) (Qr I.hok eb) dd λh' dd' hs=>h _ ?_ hs;let⟨q,es,ep,hq,h2,h3,h4,_,h5⟩:=dd';refine N8 I (by rw[e];exact Eo) hs ⟨q,hq⟩ ⟨hl,hd,_,(rel.put k eb rv).keeps λc ys ec=>?_,q,es,ep,hq,h2,h3,h4,h5⟩;rw[Zn (Wa ec e (λz=>nomatch z))];exact ec
theorem Zbr{p D:Addr}{R:Jhh->Ca->Prop}(hu:A.units+8<cLine)(hA:A.handled=none)(hn:H D=none)(hit:it≠D)(fit:FpOk X pq H it) :
  ∀(zs:List (V×V))(i:Nat)(o o':HO)(s:Ca)(t:Tok),Inv X pq σ (upd H D o) s->Po X.K (upd H D o) s.heap p it ys i->Zkq X.K H (ys.drop i) zs->DFill H D o zs o' ->
   (∀s',Inv X pq σ (upd H D o') s'->R (.ok (.ret .none)) s')->Hz (Ch X.prog X.w) A (.builtin "dict.update.loop" ⟨[.ref D,.ref it,.int i t,.none],[]⟩) R s
 |[],i,o,o',s,t,I,src,pa,df,h=>by
  cases df;let hl:ys.length<=i:=by
   let e:=Paired.length pa;simp only[Ge,B0]at e;lia
  refine Ht Zbp ?_;rw[Et Zax _];show Cc _ A.in1 (Jgj (.ref it) >>= _) _ _ s;refine F7 (Zg5 I (show FpOk X pq (upd H D o) it from⟨by rw[Zn hit];exact fit.1,fit.2⟩) hA src hl λs' I'=>?_);show Cc _ A.in1 (Jiw D [] >>= _) _ _ s';exact F7 (F8 (F8 (h s' I')))
 |z::zs,i,o,o'',s,t,I,src,pa,df,h=>by
  let hil:i<ys.length:=by
   let e:=Paired.length pa;simp only[Ge,Jz]at e;lia
  rw[Bi hil]at pa;cases pa with
  |cons p1 p2 =>
   let⟨tp,ep,sq⟩:=p1;cases df with
   | @cons _ o1 _ k v _ d1 d2 =>
    refine Ht Zbp ?_;rw[Et Zax _];show Cc _ A.in1 (Jgj (.ref it) >>= _) _ _ s;let fit':∀o,FpOk X pq (upd H D o) it:=λo=>⟨by rw[Zn hit];exact fit.1,fit.2⟩;refine F7 (Zd3 I (fit' o) src (Jb hil) λu s1 ru I1 src1=>?_);rw[ep]at ru;obtain rfl:u=Cg tp:=ru;let⟨its,rv,⟨ob,eo,hc,n,hd⟩,_⟩:=I1.tuple (sq.upd' (o:=o) hn);cases rv with
    |cons r1 rv =>
     cases rv with
     |cons r2 rv =>
      cases rv with
      |nil =>
       rename_i uk uv
       show Cc _ A.in1 (Lu [Cg tp] _ >>= _) _ _ s1;refine F7 (C9 ?_);refine F7 (Mt ?_);unfold Jjj;refine F7 (Looks.here (show Looks (Ch X.prog X.w) s1.heap (typeOf (.ref tp)) ob.cls from(Looks.ld eo).andThen .now) ?_);rw[hc,De nofun];unfold Jjv;refine F7 (F7 (Jfy eo ?_));rw[hd];refine F8 (F8 ?_);show Cc _ A.in1 (Lu [uk,uv] (dictSet D uk uv)) _ _ s1;refine C9 (Zjv (by show A.units+1<cLine;lia) I1 d1 r1 r2 λs2 I2 sb=>?_);refine F8 ⟨Ko _ (by decide +kernel),?_⟩;refine Zbr hu hA hn hit fit zs (i+1) o1 o'' s2 _ I2 (src1.at (λob' e=>(sb.2 it hit).trans e) (λq=>?_) λq=>?_) p2 d2 h
       .rcases q with(q|⟨oo,q⟩)|q
        .by_cases hpD:p=D
         .subst hpD;exact absurd d1 (λz=>by
           rw[Zg]at q;cases q;rcases z with⟨_,_,e,_⟩|⟨_,_,_,e,_⟩<;>rw[Zg]at e<;>cases e)
         .rw[Zn hpD]at q;exact .inl (.inl (by rw[Zn hpD];exact q))
        .by_cases hpD:p=D
         .subst hpD;exact absurd d1 (λz=>by
           rw[Zg]at q;cases q;rcases z with⟨_,_,e,_⟩|⟨_,_,_,e,_⟩<;>rw[Zg]at e<;>cases e)
         .rw[Zn hpD]at q;exact .inl (.inr ⟨oo,by rw[Zn hpD];exact q⟩)
        .exact .inr q
       .rcases q with(q|⟨oo,q⟩)|q
        .by_cases hpD:p=D
         .subst hpD;exact absurd d1 (λz=>by
           rw[Zg]at q;cases q;rcases z with⟨_,_,e,_⟩|⟨_,_,_,e,_⟩<;>rw[Zg]at e<;>cases e)
         .rw[Zn hpD]at q;exact .inl (.inl (by rw[Zn hpD];exact q))
        .by_cases hpD:p=D
         .subst hpD;exact absurd d1 (λz=>by
           rw[Zg]at q;cases q;rcases z with⟨_,_,e,_⟩|⟨_,_,_,e,_⟩<;>rw[Zg]at e<;>cases e)
         .rw[Zn hpD]at q;exact .inl (.inr ⟨oo,by rw[Zn hpD];exact q⟩)
        .exact .inr q
end
section
def Zo6(K:Cm):List V->Hp->VK->Prop:=λxs H Q=>∃(p:Addr)(ys:List V)(zs:List (V×V))(o:HO),xs=[.ref p]/\(H p=some (.lst ys)\/H p=some (.tup ys))/\Zkq K H ys zs/\(o=.dK []\/o=.dT []) /\
 ∀D,H D=none->∃o',DFill H D o zs o'/\Q (.ref D) (upd H D o')
theorem Ue(hr:Room 3 X.A)(hc:X.calm=true):W6 X (.type "dict") (Zo6 X.K):=by
 intro pq s σ H xs us Q I r h;let⟨p,ys,zs,o,rfl,hp,pa,ho,q⟩:=h;let⟨u,rfl,rx⟩:=Tj r;cases rx;let hA:X.A.handled=none:=I.ok.hd hc;let hD:H s.heap.objs.size=none:=I.hok.fresh (Jd _);let⟨o',df,q'⟩:=q _ hD;let pD:p≠s.heap.objs.size:=λz=>by
  rcases hp with e|e<;>rw[z,hD]at e<;>cases e
 refine callType_codes (Q₁:=λobj s₁=>obj=.ref s.heap.objs.size/\s₁={s with heap:=s.heap.push {cls:=.type "dict",data:=.dict #[]} }) PySem.F.kt_called_dict (PySem.F.kt_typeCall_dict_1 _) PySem.F.entry_dict_init (kt_code_dict_new _ ⟨rfl,rfl⟩) ?_;rintro obj s₁ ⟨rfl,rfl⟩;let I1:Inv X pq σ (upd H s.heap.objs.size o) {s with heap:=s.heap.push {cls:=.type "dict",data:=.dict #[]} }:=by
  rcases ho with e|e
  .subst e;exact I.laid (a:=s.heap.objs.size) (o:=.dK []) (t':=s.toks) (λ_ _ q=>F9 _ q) (Jd _) (Ze2 s.heap I.big)
  .subst e;exact I.laid (a:=s.heap.objs.size) (o:=.dT []) (t':=s.toks) (λ_ _ q=>F9 _ q) (Jd _) (Ze1 s.heap I.big)
 let hT:(⟨s.heap.push {cls:=.type "dict",data:=.dict #[]},s.gens,s.drawn,s.toks,s.os⟩:Ca).TypeIs (.ref s.heap.objs.size) "dict":=⟨_,Da _ rfl,rfl⟩;refine⟨hT,PySem.F.args_dict_init_2 _ _,?_⟩;unfold Builtin.«dict.__init__»;refine F7 ?_;unfold Jix;refine F7 (wpAny_notOrdered_dict hT ?_);show Cc _ _ (pure (s.heap.objs.size,[Cg p])) _ _ _;refine F8 ?_;show Cc _ _ (Jdn "dict.__init__" s.heap.objs.size (.ref p) [] .none) _ _ _;unfold Jdn;let hA2:X.A.in1.in1.handled=none:=hA;let fin:∀(s2:Ca)(it:Addr),it≠s.heap.objs.size->FpOk X pq H it->Inv X pq σ (upd H s.heap.objs.size o) s2->Po X.K (upd H s.heap.objs.size o) s2.heap p it ys 0 ->
   Hz (Ch X.prog X.w) X.A.in1 (.builtin "dict.update.loop" ⟨[.ref s.heap.objs.size,.ref it,Hq 0,.none],[]⟩) (wants (λr s₂=>r=.none/\EP X pq σ Q (.ref s.heap.objs.size) s₂) X.xe) s2:=λs2 it nit fit I2 src =>
  Zbr (A:=X.A.in1) (by have:=hr.units;show X.A.units+1+8<cLine;lia) (show X.A.in1.handled=none from hA) hD nit fit zs 0 o o' s2 _ I2 src (by simpa using pa) df λs' I'=>⟨rfl,.ref s.heap.objs.size,_,I',rfl,q'⟩
 let nq:∀it:Addr,Code.quiet (.builtin "dict.update.loop" ⟨[.ref s.heap.objs.size,.ref it,Hq 0,.none],[]⟩)=true:=λit=>Ko _ (by decide +kernel);rcases hp with hp|hp
 .let⟨hz,its,n,rv,eo⟩:=I1.hok p _ (show upd H s.heap.objs.size o p=some (.lst ys)by rw[Zn pD];exact hp);refine F7 (Kg (show Jjg _ (.ref p) "list" from⟨_,eo,rfl⟩) ?_);rw[De nofun];refine F7 (Pk eo rfl rfl rfl hA2 λh' tk e ne=>?_);let I2:Inv X pq σ (upd H s.heap.objs.size o) {s with heap:=h',toks:=tk}:=I1.kept ne.keeps;simp only[Jfn,if_true];refine F7 (Ja9 (F7 (Ku (s:={s with heap:=h',toks:=tk}) ⟨_,ne.keeps _ _ eo,rfl,n,rfl⟩ (F8 ⟨nq _,?_⟩))));let hsz:s.heap.objs.size<h'.objs.size:=Db (ne.keeps _ _ (Da (o:={cls:=.type "dict",data:=.dict #[]}) s.heap rfl))
  let hle:({s with heap:=h',toks:=tk}:Ca).heap.objs.size<=h'.objs.size:=Jd _;let fI:=I2.fpOk (H':=H) hle (I.hok.fresh (B3 hsz));refine fin _ _ (F6 hsz) fI (I2.kept (t':=tk) λb o e=>F9 _ e) (.inl ⟨.inl (.inl (by rw[Zn pD];exact hp)),⟨_,Da _ rfl,rfl,rfl⟩⟩)
 .let⟨hz,its,rv,ob,eo,hcl,n,hda,hdi⟩:=I1.hok p _ (show upd H s.heap.objs.size o p=some (.tup ys)by rw[Zn pD];exact hp);refine F7 (Kg (show Jjg _ (.ref p) "tuple" from⟨_,eo,hcl⟩) ?_);rw[De nofun];refine F7 (Qp eo hcl hda hdi hA2 λh' tk e ne=>?_);let I2:Inv X pq σ (upd H s.heap.objs.size o) {s with heap:=h',toks:=tk}:=I1.kept ne.keeps;simp only[Jfn,if_true];refine F7 (Ja9 (F7 (Je7 (s:={s with heap:=h',toks:=tk}) (show Heap.IsTuple h' p its.toArray from⟨_,ne.keeps _ _ eo,hcl,n,hda⟩) (F8 ⟨nq _,?_⟩))));let hsz:s.heap.objs.size<h'.objs.size:=Db (ne.keeps _ _ (Da (o:={cls:=.type "dict",data:=.dict #[]}) s.heap rfl))
  let hle:({s with heap:=h',toks:=tk}:Ca).heap.objs.size<=h'.objs.size:=Jd _;let fI:=I2.fpOk (H':=H) hle (I.hok.fresh (B3 hsz));refine fin _ _ (F6 hsz) fI (I2.kept (t':=tk) λb o e=>F9 _ e) (.inr ⟨.inl (.inl (by rw[Zn pD];exact hp)),⟨_,Da _ rfl,rfl,rfl⟩⟩)
end
end L2
namespace L2
open PySem PySem.Spec PyProof.Rows
section
variable{e:Expr}{st:Option Expr}{ts:TO}{p2:Pos}
def tRev(K:Cm)(te:TE)(ts:TO):TE:=λσ H Q=>te σ H λx H1=>ts σ H1 λk H2=>k=some (-1)/\∃a xs,x=.ref a/\SqL K H2 a xs/\∀p,H2 p=none->Q (.ref p) (upd H2 p (.lst xs.reverse))
theorem Zh8(he:PE X e te)(hs:PO X st ts)(hsub:∀o i,∃ops,Jc2 (.Slice none none st p2) false o i=Jka ops (Lv o i)):PE X (.Subscript e (.Slice none none st p2) pos) (tRev X.K te ts):=by
 intro pq s σ H Q I h;refine Jf2 (thn (he pq s σ H _ I h) λv s1 hz=>?_);let⟨x,H1,I1,r1,q1⟩:=hz;refine wpAny_Slice ?_;rw[Jfg];refine F8 ?_;refine F8 ?_;refine thn (hs pq s1 σ H1 _ I1 q1) λvk s3 hz=>?_;let⟨k,H3,I3,pk,ek,a,xs,ex,hx,q⟩:=hz;subst ek;subst ex;cases r1;let I4:Inv X pq σ H3 {s3 with heap:=s3.heap.push {cls:=.type "slice",data:=.fields #[.none,.none,vk]} }:=I3.kept (t':=s3.toks) λb ob q=>F9 _ q;let⟨its,r,ht,hz⟩:=I4.list hx;let hlen:=r.length;show Cc (Ch X.prog X.w) X.A (Jc1 e (.Slice none none st p2) (.ref a) (.ref s3.heap.objs.size)) (EP X pq σ Q) X.xe {s3 with heap:=s3.heap.push {cls:=.type "slice",data:=.fields #[.none,.none,vk]} }
 let⟨ops,hop⟩:=hsub (.ref a) (.ref s3.heap.objs.size);refine tail_any (ops:=ops) ht.isList.typeIs slot_list_getitem.lookup ?_ hop;refine Ja4 ht.isList (Jfh ..) .none .none pk nofun ?_ (by rw[Jm]<;>lia);rw[W.krv_pick];refine⟨.ref _,_,I4.laid (t':=s3.toks) (o:=.lst xs.reverse) (λb ob q=>F9 _ q) (Jd _) ?_,rfl,q _ (I4.hok.fresh (Jd _))⟩;refine⟨by rw[Ff];exact hz,its.reverse,0,?_,?_⟩
 .let rev:∀{a:List V}{b:List Value},Vals a b->Vals a.reverse b.reverse:=by
   intro a b h
   induction h with
   |nil=>exact .nil
   |cons h1 h2 ih=>rw[Fe,Fe];exact ih.append (.cons h1 .nil)
  exact rev r
 .exact Da _ rfl
end
def mxOf:Option Int->List Int->Option Int
 |c,[]=>c
 |none,n::r=>mxOf (some n) r
 |some c,n::r=>mxOf (some (if c<n then n else c)) r
def Te:Option Value->Array Value
 |none=>#[]
 |some v=>#[v,v]
section
def Zdn(c:Option Value):(Te c).size<=sizeLine:=by rw[Eg];cases c<;>simp[Te]
abbrev lst0(vs:Array Value)(c:Nat):Obj:={cls:=.type "list",data:=.seq vs c}
end
section
variable{w:C0} 
def Tb{t sl:Addr}{items:Array Value}{vl vu:Value}{Q:Value->Ca->Prop}(ht:IsTup s.heap t items)(hs:s.heap.IsSliceOf sl vl vu .none)(pl:Jfe vl lo)(pu:Jfe vu hi)(hw:HT.sIx items.size 0 lo=0/\HT.sIx items.size items.size hi=items.size)(h:Q (.ref t) s):Cc (Ch prog w) A (Lv (.ref t) (.ref sl)) Q E s:=by
 let⟨os,hos,hcs,hds⟩:=id hs;let hTs:s.TypeIs (.ref sl) "slice":=⟨os,hos,hcs⟩;unfold Lv
 try with_reducible refine C9 ?_
 first|refine F7 (F8 ?_)|skip
 refine F7 (Jf1 ht.typeIs nofun ?_);refine F7 (Jc0 (name:=Cv "__getitem__") ht.typeIs C3
  (Lf C3 ht.typeIs Jew ?_ (Jff _ _)))
 show Cc _ _ (Mg (.ref t) >>= _) _ _ s;refine F7 (tupleItemsOf_ ht ?_);refine F7 (Kg hTs ?_);rw[De nofun];refine F7 (HT.sliceApplied_gen hs pl pu ?_);show Cc _ _ (if(((HT.sIx items.size 0 lo:Nat):Int)==0&&(1:Int)==1&&(HT.sIx items.size items.size hi-HT.sIx items.size 0 lo)==items.size)=true then _ else _) _ _ s;let hyes:((((HT.sIx items.size 0 lo:Nat):Int)==0&&(1:Int)==1&&(HT.sIx items.size items.size hi-HT.sIx items.size 0 lo)==items.size)=true):=by
  rw[hw.1,hw.2];simp
 rw[De hyes];unfold Jhx;refine F7 ?_
 first
  |exact F7 (Kg ht.typeIs (F8 (by rw[De nofun];exact F7 (Ja9 (F8 ⟨_,rfl,F8 h⟩)))))
  |exact F7 (Kg ht.typeIs (F8 (by simp;exact F7 (Ja9 (F8 ⟨_,rfl,F8 h⟩)))))
end
section
def rSlW(K:Cm):V->Option Int->Option Int->Hp->VK->Prop:=λx lo hi H Q=>∃a xs,x=.ref a/\SqT K H a xs /\
 ((cutV xs lo hi=xs->Q (.ref a) H)/\∀p,H p=none->Q (.ref p) (upd H p (.tup (cutV xs lo hi))))
def Zcf:SlR X (rSlW X.K):=by
 intro pq s σ H x v vl vu lo hi sl Q I rx hs pl pu h;let⟨a,xs,rfl,hx,q0,q⟩:=h;cases rx;let⟨its,r,ht,hz⟩:=I.tuple hx;let hlen:its.toArray.size=xs.length:=by rw[Jm];exact r.length.symm
 exists "tuple",_,C3.lookup,ht.typeIs,?_
 by_cases hw:HT.sIx xs.length 0 lo=0/\HT.sIx xs.length xs.length hi=xs.length
 .refine Tb ht hs pl pu (by rw[hlen];exact hw) ⟨.ref a,H,I,rfl,q0 ?_⟩;unfold cutV;rw[hw.1,hw.2];simp
 .refine HT.getItem_tuple_cut ht hs pl pu (by rw[hlen];exact hw) ?_ (by rw[hlen];exact hz);rw[hlen];exists .ref s.heap.objs.size,_,I.laid (t':=s.toks) (o:=.tup (cutV xs lo hi)) (λb ob q=>F9 _ q) (Jd _) ?_,rfl,q _ (I.hok.fresh (Jd _));exists J8 (Tc xs lo hi) hz,_,(r.drop (HT.sIx xs.length 0 lo)).take (HT.sIx xs.length xs.length hi-HT.sIx xs.length 0 lo),Ui.new _ _
end
def Met(P:Ew)(w:C0)(K:Cm)(mg:Str->Option Value)(base:Heap)(C:Addr)(m:Str)(k:Nat)(ps:List Str)(sp:Sp):Prop :=
 ∃f fd,Cls K C/\Meth K C m f/\FnOk P w K mg base CX0 k f fd ps sp/\Vt K fd ps []
def Mkr(P:Ew)(w:C0)(K:Cm)(mg:Str->Option Value)(base:Heap)(x:Str)(C:Addr)(k:Nat)(ps:List Str)(sp:Sp):Prop :=
 ∃f fd,Mk K C f/\FnOk P w K mg base CX0 k f fd ps sp/\mg x=some (.ref C)/\Vt K fd ps []
section
variable{k:Nat}{x m:Str}{p:Pos}{e o:Expr}{t:TA}
def Zcv{pl:Sem Bool}(he:PE X o ta)(M:Met X.prog X.w X.K X.mg X.base C m k ps sp)(hr:Room k X.A)(ha:PA X (e::es) t)(hst:Ci (e::es) X.env=(false,eval e X.env)::Ci es X.env:=by rfl)(hpl:(Hy pos (Ci es X.env)).any (·.1)=false:=by rfl)(ht:eval (.Call (.Attribute o m apos) (e::es) [] pos) X.env=(do
   let ov <-eval o X.env
   Jfu apos.atName
   let(f,first) <-Lu [ov] (Jd5 ov m pl)
   Ji9 pos f first (Hy pos (Ci (e::es) X.env)) (Jfc pos (Ly [] X.env))):=by rfl) :
  PE X (.Call (.Attribute o m apos) (e::es) [] pos) (Zgz C m sp [] E0 ta t):=by
 let⟨f,fd,c,hm,F,hb⟩:=M;exact Zpj he c hm F hr hb .nil Zh9 ha hst hpl ht
def Ztb{pl:Sem Bool}(he:PE X o ta)(M:Met X.prog X.w X.K X.mg X.base C m k ps sp)(hr:Room k X.A)(ht:eval (.Call (.Attribute o m apos) [] [] pos) X.env=(do
   let ov <-eval o X.env
   Jfu apos.atName
   let(f,first) <-Lu [ov] (Jd5 ov m pl)
   Ji9 pos f first (Hy pos (Ci [] X.env)) (Jfc pos (Ly [] X.env))):=by rfl) :
  PE X (.Call (.Attribute o m apos) [] [] pos) (Zgz C m sp [] E0 ta tNil):=by
 let⟨f,fd,c,hm,F,hb⟩:=M;exact Zlw he c hm F hr hb .nil Zh9 ht
def Ztc(M:Mkr X.prog X.w X.K X.mg X.base x C k ps sp)(hr:Room (k+1) X.A)(hg:Gl X x)(ha:PA X (e::es) t)(hdb:(x==("__debug__":Str))=false:=by decide)(he:Ci (e::es) X.env=(false,eval e X.env)::Ci es X.env:=by rfl)(hpl:(Hy pos (Ci es X.env)).any (·.1)=false:=by rfl):PE X (.Call (.Name x p) (e::es) [] pos) (Zfl C sp [] E0 t):=by
 let⟨f,fd,hm,F,g,hb⟩:=M;exact Zpk hm F hr hg g hb .nil Zh9 ha hdb he hpl
end
def Fun.okC{w:C0}{base:Heap}{x:Str}{f:Addr}{oc:Value}{od an:Option Addr}{osl:Array (Option Value)}{kV doc cdv ct:Value}{k:Nat}(lk:K.lookup f=some ⟨oc,od,.func (Jer x qual (Wn st) (Xg st) (Zp st) .none kV doc pm an cdv ct),osl⟩)(hcd:Jfd K cdv qual=true)(S:FnScope N ps (Zp st))(len:∀vs H Q E,sp vs H Q E->vs.length=ps.length)(hbody:∀(A:K2)(outer:List Env)(s:Ca)(H:Hp)(vs:List V)(Q:VK)(E:XK),Room k (A.deeper (Kd qual (Zp st) s.heap.objs.size f cdv))->sp vs H Q E ->
   ∃t,PSs (cxOf CX0 P w K mg base N qual (Zp st) f cdv A outer s H E).nox (Xg st) t/\t {nx:=λ_ H'=>Q .non H',rt:=Q} (U6 N vs) H) :
  FnOk P w K mg base CX0 (k+1) f (Jer x qual (Wn st) (Xg st) (Zp st) .none kV doc pm an cdv ct) ps sp :=
 Zqd lk hcd S len λA outer s H vs Q E hr hsp=>by
  let⟨t,h,q⟩:=hbody A outer s H vs Q E hr hsp;exists t,h.nox,q
abbrev Pr:=Int×List Int
variable{S S1 S2 L U:List L2.Pr}
def TupK(H H':Hp):Prop:=∀b xs,H b=some (.tup xs)->H' b=some (.tup xs)
def TupK.trans(a:TupK H H1)(b:TupK H1 H2):TupK H H2:=λc xs h=>b c xs (a c xs h)
def Same.tk(s:Same H H'):TupK H H':=λb xs h=>s b _ h
def Grow.tk{p:Addr}(g:Grow p H H')(e:H p=some (.lst xs)):TupK H H':=λb ys h=>g b _ h (Wa h e λz=>by cases z)
def Q9.tk{P:Addr}(s:Q9 P H H'){ps:Array Value}(e:H P=some (.tbl ps)):TupK H H':=λb xs h=>s b _ (Wa h e λz=>by cases z) h
def Zdq(H:Hp)(v:V)(w:List Int):Prop:=∃t,v=.ref t/\H t=some (.tup (w.map V.int))
def Zae(H:Hp)(v:V)(p:Pr):Prop:=∃t tw,v=.ref t/\H t=some (.tup [.int p.1,.ref tw])/\H tw=some (.tup (p.2.map V.int))
def Zdq.tk{w:List Int}(h:Zdq H v w)(s:TupK H H'):Zdq H' v w:=by
 let⟨t,e,a⟩:=h;exists t,e,s _ _ a
def Zae.tk{p:Pr}(h:Zae H v p)(s:TupK H H'):Zae H' v p:=by
 let⟨t,tw,e,a,b⟩:=h;exists t,tw,e,s _ _ a,s _ _ b
abbrev X2(H:Hp):List V->List (List Int)->Prop:=Paired (Zdq H)
abbrev Prs(H:Hp):List V->List Pr->Prop:=Paired (Zae H)
def X2.tk(h:X2 H vs ws)(s:TupK H H'):X2 H' vs ws:=Paired.mapP h λ_ _ z=>z.tk s
def Prs.tk(h:Prs H vs L)(s:TupK H H'):Prs H' vs L:=Paired.mapP h λ_ _ z=>z.tk s
theorem Paired.at{α:Type}{F:α->β->Prop}:∀{l:List α}{m:List β},Paired F l m->∀{i:Nat}(h1:i<l.length)(h2:i<m.length),F l[i] m[i]
 |_,_,.nil,_,h,_=>absurd h (G0 _)
 |_,_,.cons a r,0,_,_=>a
 |_,_,.cons a r,i+1,h1,h2=>Paired.at r (i:=i) (by simpa using h1) (by simpa using h2)
theorem Paired.snoc{α:Type}{F:α->β->Prop}{x:α}{y:β}(h:F x y):∀{l:List α}{m:List β},Paired F l m->Paired F (l++[x]) (m++[y]):=by
 intro _ _ hz9;cases hz9 with
 |nil=>
  exact .cons h .nil
 |cons a r=>
  exact .cons a (Paired.snoc h r)
theorem Paired.app{α:Type}{F:α->β->Prop}{l':List α}{m':List β}(h:Paired F l' m'):∀{l:List α}{m:List β},Paired F l m->Paired F (l++l') (m++m'):=by
 intro _ _ hz9;cases hz9 with
 |nil=>
  exact h
 |cons a r=>
  exact .cons a (Paired.app h r)
theorem Paired.tak{α:Type}{F:α->β->Prop}:∀{l:List α}{m:List β}(n:Nat),Paired F l m->Paired F (l.take n) (m.take n)
 |_,_,0,_=>by rw[G9,G9];exact .nil
 |_,_,n+1,.nil=>.nil
 |_,_,n+1,.cons a r=>.cons a (Paired.tak n r)
theorem Paired.drp{α:Type}{F:α->β->Prop}:∀{l:List α}{m:List β}(n:Nat),Paired F l m->Paired F (l.drop n) (m.drop n)
 |_,_,0,h=>h
 |_,_,n+1,.nil=>.nil
 |_,_,n+1,.cons a r=>Paired.drp n r
theorem Paired.rev{α:Type}{F:α->β->Prop}:∀{l:List α}{m:List β},Paired F l m->Paired F l.reverse m.reverse:=by
 intro _ _ hz9;cases hz9 with
 |nil=>
  exact .nil
 |cons a r=>
  exact by rw[Fe,Fe];exact Paired.snoc a (Paired.rev r)
def Zq7(a b:Pr):Prop:=a.1≠b.1/\¬ a.2<+:b.2/\¬ b.2<+:a.2
def Free(L:List Pr):Prop:=L.Pairwise Zq7
def Free.get(h:Free L){i:Nat}(hi:i<L.length)(hj:j<L.length)(hij:i<j):Zq7 L[i] L[j]:=G6.mp h i j hi hj hij
def Zig(p q:Pr):V:=if p.1=q.1 then .str (Cv "twice")else if p.2.take (min p.2.length q.2.length)=q.2.take (min p.2.length q.2.length)then .str (Cv "begins")else .non
def Zft{p q:Pr}(h:Zq7 p q):Zig p q=.non:=by
 unfold Zig;rw[Dd h.1,Dd];intro e;rcases Nat.le_total p.2.length q.2.length with l|l
 .rw[Fj l,Jw]at e;exact h.2.1 (e ▸ Fz _ _)
 .rw[Jg6 l,Jw]at e;exact h.2.2 (e ▸ Fz _ _)
theorem N7:∀(a b:List Int),Cs (a.map C7) (b.map C7)=decide (a=b)
 |[],[]=>by simp[Cs]
 |[],_::_=>by simp[Cs]
 |_::_,[]=>by simp[Cs]
 |x::a,y::b=>by
  simp only[Js,Cs,Co,N7 a b]
  by_cases h:x=y
  .subst h;simp
  .simp[h]
def Zqf(a b:List Int):Co (.tuple (a.map C7)) (.tuple (b.map C7))=decide (a=b):=by
 simp only[Co,N7]
def Zqh(a b:List Int):Co (.list (a.map C7)) (.list (b.map C7))=decide (a=b):=by
 simp only[Co,N7]
def Zar(ns:List Int):Shp 1 (.tuple (ns.map C7)):=W9 λd hd=>by
 let⟨i,_,rfl⟩:=Jo.mp hd;exact Qd i
def Zdl(w:List Int){j:Int}(h0:0<=j)(h1:j<=w.length):cutV (w.map V.int) none (some j)=(w.take j.toNat).map V.int:=by
 rw[Zbt h0 (by rw[Ja];exact h1),Bq]
def Zm2:Sp:=λvs H Q _=>∃v1 v2 p q,vs=[v1,v2]/\Zae H v1 p/\Zae H v2 q/\p.2.length<=1000/\q.2.length<=1000/\∀H',Same H H'->Q (Zig p q) H'
def Tf(H:Hp)(a:Addr)(L:List Pr):Prop:=∃vs,H a=some (.lst vs)/\Prs H vs L
def Tf.same{a:Addr}(h:Tf H a L)(s:Same H H'):Tf H' a L:=by
 let⟨vs,e,p⟩:=h;exists vs,s _ _ e,p.tk s.tk
def Fits(L:List Pr):Prop:=L.length<64/\∀p∈L,p.2≠[]/\p.2.length<=4
def Tm:Sp:=λvs H Q _=>∃a L,vs=[.ref a]/\Tf H a L/\Free L/\Fits L/\∀H',Same H H'->Q .non H'
abbrev wk(w:List Int):List Key:=w.map C5
def Zn4(w:List Int):(wk w).map kV=w.map V.int:=by rw[Gk];rfl
def Zdy(kvs:List (List Key×V))(ws:List (List Int)):Prop:=∀u:List Int,(valV kvs (wk u)).isSome=decide (∃w∈ws,u<+:w/\u.length<w.length)
def Zhe:Sp:=λvs H Q _=>∃a vws ws,vs=[.ref a]/\H a=some (.lst vws)/\X2 H vws ws/\ws.length<64/\(∀w∈ws,w.length<=4) /\
 ∀(d:Addr)(kvs:List (List Key×V))(H':Hp),Same H H'->H d=none->H' d=some (.dT kvs)->Zdy kvs ws->Q (.ref d) H'
def Zhv{a:Addr}{w:List Int}{j:Int}(e:H a=some (.tup (w.map V.int)))(h0:0<=j)(h1:j<=w.length)(h:∀t H',Same H H'->H' t=some (.tup ((w.take j.toNat).map V.int))->Q (.ref t) H'):rSlW K (.ref a) none (some j) H Q:=by
 exists a,·,SqT.of e,λhw=>h a H (.refl _) ?_,λp hp=>h p _ (Ze hp) ?_
 .rw[Zdl w h0 h1]at hw;rw[hw];exact e
 .rw[Zg,Zdl w h0 h1]
theorem Zpv(a b:Nat):(if(b:Int)<(a:Int)then(b:Int)else(a:Int))=((min a b:Nat):Int):=by split<;>lia
def Zf2[DecidableEq κ](kvs:List (κ×V))(k k':κ)(v:V):(valV (putK kvs k v) k').isSome=(decide (k'=k) ||(valV kvs k').isSome):=by
 rw[Na]
 by_cases h:k'=k
 .rw[De h,Df h];rfl
 .rw[Dd h,Dg h,Jjc]
theorem R9:∀{u v:List Int},wk u=wk v->u=v
 |[],[],_=>rfl
 |[],_::_,h=>nomatch h
 |_::_,[],h=>nomatch h
 |x::u,y::v,h=>by
  let h':(C5 x:Key)::wk u=C5 y::wk v:=h;injection h' with a b
  rw[Kt a,R9 b]
def Zad{α:Type}{xs:List α}{v:α}(h:xs[j]?=some v):atI xs (0+(j:Int))=some v:=by rw[Jgq];exact Sl h
def Su(kvs:List (List Key×V))(ws:List (List Int))(w:List Int)(n:Nat):Prop :=
 ∀u:List Int,(valV kvs (wk u)).isSome=decide ((∃x∈ws,u<+:x/\u.length<x.length)\/(u<+:w/\u.length<n))
theorem Su.put{w:List Int}{n:Nat}(h:Su kvs ws w n)(hn:n<=w.length) :Su (putK kvs (wk (w.take n)) v) ws w (n+1):=by
 intro u;rw[Zf2,h u];let e:(wk u=wk (w.take n))↔(u=w.take n):=⟨R9,λz=>by rw[z]⟩;rw[decide_eq_decide.mpr e,<-Bool.decide_or];refine decide_eq_decide.mpr ⟨λz=>?_,λz=>?_⟩
 .rcases z with z|z|⟨z1,z2⟩
  .subst z;exact .inr ⟨Fz _ _,by rw[Ji];lia⟩
  .exact .inl z
  .exact .inr ⟨z1,()⟩
 .rcases z with z|⟨z1,z2⟩
  .exact .inr (.inl z)
  .by_cases l:u.length<n
   .exact .inr (.inr ⟨z1,l⟩)
   .refine .inl ?_;let:u.length=n:=by lia
    rw[<-this];exact List.prefix_iff_eq_take.mp z1
def Su.next{w:List Int}(h:Su kvs ws w w.length)(w':List Int):Su kvs (ws++[w]) w' 0:=by
 intro u;rw[h u];refine decide_eq_decide.mpr ⟨λz=>?_,λz=>?_⟩
 .rcases z with⟨x,hx,z⟩|z
  .exact .inl ⟨x,Bh _ hx,z⟩
  .exact .inl ⟨w,Jt _ (Jj.mpr rfl),z⟩
 .rcases z with⟨x,hx,z⟩|⟨_,z⟩
  .rcases Gb.mp hx with hx|hx
   .exact .inl ⟨x,hx,z⟩
   .rw[Jj.mp hx]at z;exact .inr z
  .exact absurd z (G0 _)
def Su.nil(w:List Int):Su [] [] w 0:=by
 intro u;rw[Zk0];refine(Dg ?_).symm;rintro(⟨x,hx,_⟩|⟨_,z⟩)
 .exact nomatch hx
 .exact absurd z (G0 _)
def Su.done{w:List Int}(h:Su kvs ws w 0):Zdy kvs ws:=by
 intro u;rw[h u];refine decide_eq_decide.mpr ⟨λz=>?_,λz=>.inl z⟩;rcases z with z|⟨_,z⟩
 .exact z
 .exact absurd z (G0 _)
theorem Zh7{α:Type}{f:α->β}{m n:List β}(h:m.Perm n):∀{l:List α},l.map f=n->∃l':List α,l'.Perm l/\l'.map f=m:=by
 induction h with
 |nil=>intro l e;exists l,.refl _,e
 |cons x _ ih =>
  intro l e;cases l with
  |nil=>cases e
  |cons a l =>
   rw[Js]at e;injection e with e1 e2
   let⟨l',p,q⟩:=ih e2;exact⟨a::l',p.cons a,by rw[Js,e1,q]⟩
 |swap x y l0 =>
  intro l e
  match l,e with
  |a::b::r,e =>
   rw[Js,Js]at e;injection e with e1 e2
   injection e2 with e2 e3
   exact⟨b::a::r,.swap _ _ _,by rw[Js,Js,e1,e2,e3]⟩
 |trans _ _ ih1 ih2 =>
  intro l e;let⟨l2,p2,q2⟩:=ih2 e;let⟨l1,p1,q1⟩:=ih1 q2;exists l1,p1.trans p2,q1
structure PK3 where
 v:V
 tw:Addr
 p:Pr
def PK3.At(H:Hp)(e:PK3):Prop:=∃t,e.v=.ref t/\H t=some (.tup [.int e.p.1,.ref e.tw])/\H e.tw=some (.tup (e.p.2.map V.int))
def PK3.At.tk{e:PK3}(h:e.At H)(s:TupK H H'):e.At H':=by
 let⟨t,a,b,c⟩:=h;exists t,a,s _ _ b,s _ _ c
theorem Znh :∀{vs:List V}{L:List Pr},Prs H vs L->∃M:List PK3,M.map (·.v)=vs/\M.map (·.p)=L/\∀e∈M,e.At H
 |_,_,.nil=>⟨[],rfl,rfl,λ_ h=>nomatch h⟩
 |_,_,.cons ⟨t,tw,a,b,c⟩ r=>by
  let⟨M,e1,e2,e3⟩:=Znh r;exists⟨_,tw,_⟩::M,by rw[Js,e1],by rw[Js,e2],λe he=>?_;rcases Jp.mp he with z|z
  .rw[z];exists t,a,b,c
  .exact e3 e z
theorem Zni :∀{M:List PK3},(∀e∈M,e.At H)->Prs H (M.map (·.v)) (M.map (·.p))
 |[],_=>.nil
 |e::M,h=>by
  let⟨t,a,b,c⟩:=h e Jn;exact .cons ⟨t,e.tw,a,b,c⟩ (Zni λx hx=>h x (Jk _ hx))
def PK3.k(e:PK3):KIt:=(e.v,e.tw,e.p.2)
def X1[DecidableEq κ](kvs:List (κ×V))(zs:List (κ×V)):List (κ×V):=zs.foldl (λa z=>putK a z.1 z.2) kvs
theorem Ze0[DecidableEq κ]:∀(zs kvs:List (κ×V)),(X1 kvs zs).length<=kvs.length+zs.length
 |[],kvs=>by simp[X1]
 |z::r,kvs=>by
  let:=Ze0 r (putK kvs z.1 z.2);let l:=Xa kvs z.1 z.2;show(X1 (putK kvs z.1 z.2) r).length<=_;rw[Jz];lia
theorem Tw[DecidableEq κ]{k:κ}:∀(zs kvs:List (κ×V)),(∀z∈zs,z.1≠k)->valV (X1 kvs zs) k=valV kvs k
 |[],kvs,_=>rfl
 |z::r,kvs,h=>by
  show valV (X1 (putK kvs z.1 z.2) r) k=_;rw[Tw r _ λy hy=>h y (Jk _ hy),Na,Dd (λe=>h z Jn e.symm)]
theorem Qy[DecidableEq κ]{k:κ} :∀(zs kvs:List (κ×V)),(zs.map (·.1)).Nodup->(k,v)∈zs->valV (X1 kvs zs) k=some v
 |[],kvs,_,h=>nomatch h
 |z::r,kvs,nd,h=>by
  show valV (X1 (putK kvs z.1 z.2) r) k=_;rw[Js,Gy]at nd;rcases Jp.mp h with e|h
  .subst e;rw[Tw r _ λy hy e=>nd.1 (by
    let hm:y.1∈r.map (·.1):=Jo.mpr ⟨y,hy,rfl⟩;rw[e]at hm;exact hm),Na,De rfl]
  .exact Qy r _ nd.2 h
theorem Zdj{D:Addr}:∀(zs kvs:List (Key×V)),kvs.length+zs.length<sizeLine->DFill H D (.dK kvs) (zs.map λz=>(kV z.1,z.2)) (.dK (X1 kvs zs))
 |[],kvs,_=>.nil
 |z::r,kvs,h=>by
  rw[Jz]at h;let l:=Xa kvs z.1 z.2;let d:=DPut.k (H:=upd H D (.dK kvs)) (a:=D) (k:=z.1) (v:=z.2) Zg ();rw[Zgj]at d;exact .cons d (Zdj r (putK kvs z.1 z.2) ())
theorem Zjo{D:Addr}(hD:H D=none):∀(zs:List (Addr×List Key×V))(kvs:List (List Key×V)),kvs.length+zs.length<sizeLine->(∀z∈zs,H z.1=some (.tup (z.2.1.map kV))) ->
  DFill H D (.dT kvs) (zs.map λz=>(.ref z.1,z.2.2)) (.dT (X1 kvs (zs.map λz=>(z.2.1,z.2.2))))
 |[],kvs,_,_=>.nil
 |z::r,kvs,h,ht=>by
  rw[Jz]at h;let l:=Xa kvs z.2.1 z.2.2;let e:=ht z Jn;let d:=DPut.t (H:=upd H D (.dT kvs)) (a:=D) (b:=z.1) (k:=z.2.1) (v:=z.2.2) Zg (by rw[Zn (Zr e hD)];exact e) ();rw[Zgj]at d;exact .cons d (Zjo hD r (putK kvs z.2.1 z.2.2) () λy hy=>ht y (Jk _ hy))
def Zgf(H:Hp)(k1:List (Key×V))(S:List Pr):Prop:=(∀p∈S,∃t,valV k1 (C5 p.1)=some (.ref t)/\H t=some (.tup (p.2.map V.int)))/\∀s:Int,(∀p∈S,p.1≠s)->valV k1 (C5 s)=none
def Zhh(k2:List (List Key×V))(S:List Pr):Prop:=(∀p∈S,valV k2 (wk p.2)=some (.int p.1))/\∀u:List Int,(∀p∈S,p.2≠u)->valV k2 (wk u)=none
def Zfe(ns:List Int)(S:List Pr):Prop:=ns.Pairwise (· < ·)/\∀n:Int,n∈ns↔∃p∈S,(p.2.length:Int)=n
structure CodeIn(H:Hp)(tp d1 d2 d3 d4:Addr)(S:List Pr):Prop where
 pr:∃vs,H tp=some (.tup vs)/\Prs H vs S
 wb:∃k1,H d1=some (.dK k1)/\Zgf H k1 S
 sb:∃k2,H d2=some (.dT k2)/\Zhh k2 S
 bg:∃k3,H d3=some (.dT k3)/\Zdy k3 (S.map (·.2))
 sz:∃ns:List Int,H d4=some (.tup (ns.map V.int))/\Zfe ns S
def Uj(C:Addr)(H:Hp)(x:Addr)(S:List Pr):Prop:=∃dx tp d1 d2 d3 d4,H x=some (.ins C dx [("pairs",.ref tp),("words_by_sign",.ref d1),("signs_by_word",.ref d2),("begun",.ref d3),("word_sizes",.ref d4)])/\CodeIn H tp d1 d2 d3 d4 S
def Zdr(S:List Pr):Prop:=S.Pairwise λa b=>HT.lexLt a.2 b.2=true
def Uf.grow{x:Addr}{q:Str}(t:Uf Pt pos q H){fs:List (Str×V)}(e:H x=some (.ins C dx fs))(g:Grow x H H'):Uf Pt pos q H':=by
 let⟨ps,a,b,c⟩:=t;exists ps,g _ _ a (Wa a e λz=>by cases z),b,?_;rcases c with c|⟨c',d,f⟩
 .exact .inl c
 .exact .inr ⟨c',d,g _ _ f (Wa f e λz=>by cases z)⟩
def Grow.tkI{x:Addr}(g:Grow x H H'){fs:List (Str×V)}(e:H x=some (.ins C dx fs)):TupK H H':=λb ys h=>g b _ h (Wa h e λz=>by cases z)
section
def rLen(K:Cm):List V->Hp->VK->Prop:=λxs H Q=>∃x n,xs=[x]/\LenV K x H n/\Q (.int n) H
def Y3(h:X.K=K):W6 X (.builtin "len") (rLen K):=by subst h;exact Y9
def Zfb(h:X.K=K):IxR X (rIxL K):=by subst h;exact Xb
def Zus(h:X.K=K):IxR X (rIxT K):=by subst h;exact Ts
def Zqv(h:X.K=K):OpR X (Hk .Add) (Zo7 K):=by subst h;exact Zie
end
end L2
variable{S S1 S2 L U:List L2.Pr}
namespace L2
open PySem PySem.W PyProof.Rows HT
theorem Zeu:∀{us:List Value}{ns:List Int},Ms us ns->Vals (ns.map V.int) us:=by
 intro _ _ hz9;cases hz9 with
 |nil=>
  exact .nil
 |cons n t h=>
  exact .cons ⟨t,rfl⟩ (Zeu h)
theorem Zi7:∀{us:List Value}{ns:List Int},us.length=ns.length->(∀(j:Nat)(v:Value),us[j]?=some v->∃n t,ns[j]?=some n/\v=Ek n t)->Ms us ns
 |[],[],_,_=>.nil
 |u::us,n::ns,hl,h=>by
  let⟨m,t,e,rfl⟩:=h 0 u rfl;cases e;exact .cons _ t (Zi7 (by simpa using hl) λj v e=>h (j+1) v e)
section
def Znd:List V->Hp->VK->Prop:=λxs H Q=>∃(d:Addr)(kvs:List (Key×V))(ns:List Int),xs=[.ref d]/\H d=some (.dK kvs)/\kvs.map (·.1)=ns.map C5/\kvs.length<64 /\
 ∀(D:Addr)(ns':List Int),H D=none->ns'.Perm ns->ns'.Pairwise (·<=·)->Q (.ref D) (upd H D (.lst (ns'.map V.int)))
theorem Sj(hc:X.calm=true):W6 X (.builtin "sorted") Znd:=by
 intro pq s σ H xs us Q I r h;let⟨d,kvs,ns,rfl,ed,ek,hl,q⟩:=h;let⟨u,rfl,rx⟩:=Tj r;cases rx;let⟨hz,lo,vs,rel,dof⟩:=Zqk I.hok ed;let⟨ep,da⟩:=dof.dictAt;let hv:=Paired.length rel;refine Calls.call_function_entry kind_sorted plain_sorted entry_sorted (args_sorted1 _) ?_;unfold Builtin.«sorted»;refine F7 (m:=checkCount "sorted" 1 1 _) (F8 ?_);refine F7 (kdu_collect (A:=X.A.in1) (kdl_dict (knd:=Y4 X.prog X.w) (kvs:=vs) (ep:=ep) lo) (I.ok.hd hc) da (by rw[Eg];lia) λh' tk acc hk hacc=>?_);let hal:acc.toList.length=vs.length:=by rw[Bs];exact hacc.1
 let hkl:kvs.length=ns.length:=by have:=congrArg Ez ek;simpa using this
 refine F7 (Jc8 ?_ (by rw[hal,Eg];lia));let hI:Ms acc.toList ns:=Zi7 () λj v e=>by
  let⟨k,x,e1,e2⟩:=hacc.2 j v (by rw[<-Jea];exact e);let hj:j<vs.length:=(Je.mp e1).1;let hr:=L2.Paired.at rel (by lia:j<kvs.length) hj;let e3:=congrArg (·[j]?) ek;simp only[Jx,Jb (by lia:j<kvs.length),Jb (by lia:j<ns.length),Bz,Jga]at e3;rw[Jb hj]at e1;let e4:=Dh e1;rw[hr.1,e4]at e3;subst e3;rcases Yk (show Nu (C5 ns[j]) v=true from e2)with⟨i,t,e5,rfl⟩|⟨y,t,e5,rfl⟩
  .cases e5;exists _,t,Jb (by lia:j<ns.length),rfl
  .cases e5
 let hoL:(h'.push (Hs "list" acc.toList.toArray 0)).get? h'.objs.size=some (Hs "list" acc.toList.toArray 0):=Da _ rfl;refine F7 (C9 (Lf (s:={s with heap:=h'.push (Hs "list" acc.toList.toArray 0),toks:=tk}) slot_list_sort ⟨_,hoL,rfl⟩ Jho (list_sort_tree hoL hI () λout ns' a1 a2 a3=>⟨_,rfl,?_⟩) (args_list_sort _)));let⟨e,he⟩:=sortedHeap_at (vs:=acc.toList) (out:=out) hoL;let I1:Inv X pq σ H {s with heap:=h',toks:=tk}:=I.kept hk;refine F8 ⟨_,rfl,.ref h'.objs.size,_,I1.laid (t':=tk) (λb o eb=>?_) (Jd _) (show Y5 X.prog X.w _ _ _ (.lst (ns'.map V.int))from⟨?_,out.toList,e,Zeu a1,he⟩),rfl,q _ ns' (I1.hok.fresh (Jd _)) a2 a3⟩
 .let hb:h'.get? b=some o:=eb;let hlt:=Db hb;rw[sortedHeap_old (Gi hlt) (by rw[Jiv];exact Ja7 hlt)];exact F9 _ hb
 .rw[Ja,a2.length_eq,Eg];lia
end
end L2
namespace L2
open PySem PySem.Spec PyProof.Rows
def Zl5[DecidableEq κ](kvs:List (κ×V))(k:κ)(v:V):(putK kvs k v).map (·.1)=if k∈kvs.map (·.1)then kvs.map (·.1)else kvs.map (·.1)++[k]:=by
 unfold putK;let hiff:(kvs.any λkv=>decide (kv.1=k))=true↔k∈kvs.map (·.1):=by
  rw[B5,Jo]
  constructor
  .rintro⟨x,h1,h2⟩;exists x,h1,of_decide_eq_true h2
  .rintro⟨x,h1,h2⟩;exists x,h1,Df h2
 by_cases h:k∈kvs.map (·.1)
 .rw[De h,De (hiff.mpr h),Gk];refine List.map_congr_left λkv _=>?_;show(if kv.1=k then(kv.1,v)else kv).1=kv.1
  split<;>rfl
 .rw[Dd h,Dd (λz=>h (hiff.mp z)),Jg];rfl
theorem Qz:∀(zs:List Int)(kvs:List (Key×V))(ns:List Int),kvs.map (·.1)=ns.map C5->ns.Nodup ->
  ∃ns':List Int,(X1 kvs (zs.map λz=>((C5 z:Key),V.bl true))).map (·.1)=ns'.map C5/\ns'.Nodup/\∀n,n∈ns'↔n∈ns\/n∈zs
 |[],kvs,ns,e,nd=>⟨ns,e,nd,λn=>by simp⟩
 |z::r,kvs,ns,e,nd=>by
  let hm:(C5 z:Key)∈kvs.map (·.1)↔z∈ns:=by
   rw[e,Jo]
   constructor
   .rintro⟨x,h,h2⟩;cases h2;exact h
   .exact λh=>⟨z,h,rfl⟩
  let hp:=Zl5 kvs (C5 z) (V.bl true);show ∃ns':List Int,(X1 (putK kvs (C5 z) (V.bl true)) (r.map _)).map (·.1)=_/\_
  by_cases h:z∈ns
  .rw[De (hm.mpr h),e]at hp;let⟨ns',a,b,c⟩:=Qz r _ ns hp nd;exists ns',a,b,λn=>?_;rw[c,Jp]
   constructor
   .rintro(q|q)
    .exact .inl q
    .exact .inr (.inr q)
   .rintro(q|rfl|q)
    .exact .inl q
    .exact .inl h
    .exact .inr q
  .rw[Dd (λq=>h (hm.mp q)),e]at hp;let⟨ns',a,b,c⟩:=Qz r _ (ns++[z]) (by rw[hp,Jg];rfl) (Gu.mpr ⟨nd,by simp,λx hx y hy=>by
    rw[Jj.mp hy];exact λq=>h (q ▸ hx)⟩)
   exists ns',a,b,λn=>?_;rw[c,Jp,Gb,Jj]
   constructor
   .rintro((q|q)|q)
    .exact .inl q
    .exact .inr (.inl q)
    .exact .inr (.inr q)
   .rintro(q|q|q)
    .exact .inl (.inl q)
    .exact .inl (.inr q)
    .exact .inr q
theorem Zhg{ns':List Int}(nd:ns.Nodup)(h:∀n,n∈ns↔n∈S.map λp=>(p.2.length:Int))(p:ns'.Perm ns)(ri:ns'.Pairwise (·<=·)):Zfe ns' S:=by
 exists ?_,λn=>?_
 .let nd':ns'.Nodup:=p.nodup_iff.mpr nd;exact(List.pairwise_and_iff.mpr ⟨ri,nd'⟩).imp λ{a b}z=>by
   let:=z.1;let:=z.2;lia
 .rw[p.mem_iff,h,Jo]
def Zhd:Sp:=λvs H Q _=>∃(p a:Addr)(m:Int),vs=[.ref p,.int m]/\HandAt H p a/\2<=m/\m<=4 /\
 ∀(l:Addr)(bs:List Int)(H':Hp),H l=none->l≠p->H' l=some (.lst (bs.map V.int))->bs.Nodup->2<=bs.length->(bs.length:Int)<=m->(∀b∈bs,0<=b/\b<256)->HandAt H' p a->Grow p H H'->Q (.ref l) H'
theorem Zce{b s:Int}(hs:1<=s){n:Nat}(hn:s*n<=255+s):((Eb n).map λk:Nat=>(b+s*(k:Int)) % 256).Nodup:=by
 refine Gj.mpr ?_;refine G6.mpr λi j hi hj hij=>?_;simp only[Bj]at hi hj;simp only[Mn];intro e;let h2:s*((j:Int)-(i:Int))=s*(j:Int)-s*(i:Int):=Jhr _ _ _;let h3:0<s*((j:Int)-(i:Int)):=Jkf () ();let h4:s*((j:Int)-(i:Int))<=s*((n:Int)-1):=Lg () ();let h5:s*((n:Int)-1)<=255:=by rw[Jhr,Jj4];lia
 rw[h2]at h3 h4;generalize s*(j:Int)=X at *
 generalize s*(i:Int)=Y at *
 lia
def PF(ws:List (List Int)):Prop:=ws.Pairwise λa b=>¬ a<+:b/\¬ b<+:a
def WOk(ws:List (List Int)):Prop:=PF ws/\∀w∈ws,w≠[]/\w.length<=4
def PF.sub{a b:List (List Int)}(h:PF b)(s:a.Sublist b):PF a:=Jjw s h
def WOk.sub{a b:List (List Int)}(h:WOk b)(s:a.Sublist b):WOk a:=⟨h.1.sub s,λw hw=>h.2 w (s.subset hw)⟩
def Uv{w:List Int}{a b:Int}(h:a≠b):¬ (w++[a])<+:(w++[b]):=λe=>by
 let:=Jhy e (by simp);simp at this;exact h this
def Zpm{bs:List Int}(nd:bs.Nodup):WOk (bs.map λb=>[b]):=by
 exists Gj.mpr (nd.imp λz=>⟨Uv (w:=[]) z,Uv (w:=[]) z.symm⟩),λw hw=>?_;let⟨b,_,rfl⟩:=Jo.mp hw;exact⟨by simp,by simp⟩
theorem Zlu{a c:List (List Int)}{w:List Int}{bs:List Int}(nd:bs.Nodup)(h:WOk (a++w::c))(hw:w.length<4):WOk (a++(bs.map λb=>w++[b])++c):=by
 let⟨h1,h2⟩:=h;let hk:∀x,(¬ x<+:w/\¬ w<+:x)->∀b,¬ x<+:w++[b]/\¬ (w++[b])<+:x:=λx hx b=>by
  exists λz=>?_,λz=>hx.2 ((Jv _ _).trans z);rcases List.prefix_concat_iff.mp z with e|e
  .exact hx.2 (e ▸ Jv _ _)
  .exact hx.1 e
 unfold PF at h1;rw[Fu]at h1;let⟨pa,pwc,pac⟩:=h1;rw[Mo]at pwc;let⟨pw,pc⟩:=pwc;exists ?_,λx hx=>?_
 .unfold PF;rw[Gg,Fu];exists pa,?_,λx hx y hy=>?_
  .rw[Fu];exists Gj.mpr (nd.imp λz=>⟨Uv z,Uv z.symm⟩),pc,λx hx y hy=>?_;let⟨b,_,rfl⟩:=Jo.mp hx;let:=hk y ⟨(pw y hy).2,(pw y hy).1⟩ b;exists this.2,this.1
  .rcases Gb.mp hy with hy|hy
   .let⟨b,_,rfl⟩:=Jo.mp hy;exact hk x (pac x hx w Jn) b
   .exact pac x hx y (Jk _ hy)
 .rcases Gb.mp hx with hx|hx
  .rcases Gb.mp hx with hx|hx
   .exact h2 x (Bh _ hx)
   .let⟨b,_,rfl⟩:=Jo.mp hx;exact⟨by simp,by rw[Jc,Gp];lia⟩
  .exact h2 x (Jt _ (Jk _ hx))
theorem Zge:∀(ss:List Int)(ws:List (List Int)),((ss.zip ws).map (·.1)).Sublist ss
 |[],_=>by simp
 |_::_,[]=>by simp
 |a::r,b::t=>by rw[F5,Js];exact(Zge r t).cons₂ a
theorem Zgd:∀(ss:List Int)(ws:List (List Int)),((ss.zip ws).map (·.2)).Sublist ws
 |[],_=>by simp
 |_::_,[]=>by simp
 |a::r,b::t=>by rw[F5,Js];exact(Zgd r t).cons₂ b
def WOk.free(h:WOk ws){ss:List Int}(nd:ss.Nodup):Free (ss.zip ws):=by
 let h1:((ss.zip ws).map (·.1)).Nodup:=nd.sublist (Zge ss ws);let h2:PF ((ss.zip ws).map (·.2)):=h.1.sub (Zgd ss ws);exact(Gj.mp h1).and (Gj.mp h2) |>.imp λz=>⟨z.1,z.2.1,z.2.2⟩
def Q8(H:Hp)(a:Addr)(ws:List (List Int)):Prop:=∃vs,H a=some (.lst vs)/\X2 H vs ws
def Zg7:Sp:=λvs H Q _=>∃(p a sa:Addr)(m lg:Int)(bs:List Int),vs=[.ref p,.ref sa,.int m,.int lg]/\HandAt H p a/\H sa=some (.lst (bs.map V.int))/\sa≠p/\bs.Nodup/\bs≠[]/\bs.length<=24/\0<=m/\m<=6/\1<=lg/\lg<=4 /\
 ∀(l:Addr)(ws:List (List Int))(H':Hp),H l=none->l≠p->Q8 H' l ws->WOk ws->(ws.length:Int)<=bs.length+m*bs.length->HandAt H' p a->Grow p H H'->Q (.ref l) H'
section
variable{a:Addr}{i:Nat}{y:V}
def Zi4(e:H a=some (.lst xs))(hi:i<xs.length):(Itl K a).go i H:=⟨_,_,SqL.of e,Jb hi⟩
def Nv(e:H a=some (.lst xs))(hi:xs.length<=i):(Itl K a).stop i H:=⟨_,SqL.of e,hi⟩
def Zc6(e:H a=some (.lst xs))(hi:i<xs.length)(z:(Itl K a).yld i H y H'):H'=H/\y=xs[i]:=by
 exists z.1,?_;let:=z.2 _ (SqL.of e);rw[Jb hi]at this;exact(Dh this).symm
end
def Xc{p a:Addr}(h:HandAt H p a):∃xs,H p=some (.lst xs):=let⟨_,_,_,e,_⟩:=h.ex;⟨_,e⟩
def X2.take1(h:X2 H vs ws){i:Nat}(hi:i<vs.length):∃(hj:i<ws.length)(t:Addr),vs[i]=.ref t/\H t=some (.tup (ws[i].map V.int)):=by
 let hj:i<ws.length:=by rw[<-Paired.length h];exact hi
 let⟨t,e,z⟩:=L2.Paired.at h hi hj;exists hj,t,e,z
def Zha:Sp:=λvs H Q _=>∃(p a:Addr)(m:Int),vs=[.ref p,.int m]/\HandAt H p a/\0<=m/\m<=100 /\
 ∀(l:Addr)(ss:List Int)(H':Hp),H l=none->l≠p->H' l=some (.lst (ss.map V.int))->ss.Nodup->(ss.length:Int)=m->HandAt H' p a->Grow p H H'->Q (.ref l) H'
def Zg9:Sp:=λvs H Q _=>∃(p a wa sa:Addr)(ws:List (List Int))(ss:List Int),vs=[.ref p,.ref wa,.ref sa]/\HandAt H p a/\Q8 H wa ws/\wa≠p/\WOk ws/\ws.length<=28/\H sa=some (.lst (ss.map V.int))/\sa≠p/\ss.Nodup/\ws.length<=ss.length/\ss.length<=100 /\
 ∀(l:Addr)(L:List Pr)(H':Hp),H l=none->l≠p->Tf H' l L->Free L->Fits L->(L.map (·.2)).Perm ws->HandAt H' p a->Grow p H H'->Q (.ref l) H'
def Free.rev(h:Free L):Free L.reverse:=List.pairwise_reverse.mpr (h.imp λz=>⟨z.1.symm,z.2.2,z.2.1⟩)
theorem Zg3{b s:Int}(hs:1<=s)(n:Nat):((Eb n).map λk:Nat=>b+s*(k:Int)).Nodup:=by
 refine Gj.mpr (G6.mpr λi j hi hj hij=>?_);simp only[Mn];intro e;let h3:0<s*((j:Int)-(i:Int)):=Jkf () ();rw[Jhr]at h3;lia
def Pq{ss:List Int}(h:ss.Nodup)(n:Nat):(ss.drop n++ss.take n).Nodup:=by
 let:(ss.take n++ss.drop n).Nodup:=by rw[Gz];exact h
 exact(List.perm_append_comm.nodup_iff).mp this
def Uj.same{x:Addr}(h:Uj C H x S)(s:Same H H'):Uj C H' x S:=by
 let⟨dx,tp,d1,d2,d3,d4,ex,⟨⟨vs,a1,a2⟩,⟨k1,b1,b2⟩,⟨k2,c1,c2⟩,⟨k3,f1,f2⟩,⟨k4,g1,g2⟩⟩⟩:=h;exists dx,tp,d1,d2,d3,d4,s _ _ ex,⟨vs,s _ _ a1,Prs.tk a2 s.tk⟩,⟨k1,s _ _ b1,λp hp=>?_,b2.2⟩,⟨k2,s _ _ c1,c2⟩,⟨k3,s _ _ f1,f2⟩,⟨k4,s _ _ g1,g2⟩;let⟨t,u,v⟩:=b2.1 p hp;exists t,u,s _ _ v
theorem Zpt:∀(ns:List Int)(c:Option Int),(∀n∈ns,n<=(mxOf c ns).getD 0)/\∀z,c=some z->z<=(mxOf c ns).getD 0
 |[],c=>⟨λn h=>(nomatch h),λz e=>by subst e;exact Jc4 _⟩
 |n::r,none=>by
  let⟨h1,h2⟩:=Zpt r (some n);exists λm hm=>?_,λz e=>nomatch e;rcases Jp.mp hm with e|hm
  .rw[e];exact h2 n rfl
  .exact h1 m hm
 |n::r,some c=>by
  let⟨h1,h2⟩:=Zpt r (some (if c<n then n else c));let h3:=h2 _ rfl;exists λm hm=>?_,λz e=>?_
  .rcases Jp.mp hm with e|hm
   .rw[e];refine Jd7 ?_ h3
    split<;>lia
   .exact h1 m hm
  .injection e with e
   rw[<-e];refine Jd7 ?_ h3
   split<;>lia
theorem Zps{b:Int}:∀(ns:List Int)(c:Option Int),0<=b->(∀n∈ns,n<=b)->(∀z,c=some z->z<=b)->(mxOf c ns).getD 0<=b
 |[],none,h0,_,_=>h0
 |[],some c,_,_,h=>h c rfl
 |n::r,none,h0,h1,_=>Zps r (some n) h0 (λm hm=>h1 m (Jk _ hm)) λz e=>by injection e with e;rw[<-e];exact h1 n Jn
 |n::r,some c,h0,h1,h2=>Zps r _ h0 (λm hm=>h1 m (Jk _ hm)) λz e=>by
  injection e with e
  rw[<-e];let a:=h1 n Jn;let b:=h2 c rfl
  split<;>lia
def Zhb(C:Addr):Sp:=λvs H Q _=>∃(x t:Addr)(S:List Pr)(u:List Int),vs=[.ref x,.ref t]/\Uj C H x S/\H t=some (.tup (u.map V.int))/\(∀p∈S,p.2=u->Q (.int p.1) H)/\((∀p∈S,p.2≠u)->Q .non H)
def Zji(h:Free S){p q:Pr}(hp:p∈S)(hq:q∈S){l:List Int}(p1:p.2<+:l)(q1:q.2<+:l):p=q:=by
 let⟨i,hi,rfl⟩:=Ju hp;let⟨j,hj,rfl⟩:=Ju hq;let z:=K0 p1 q1;rcases Fp i j with l|l|l
 .let a:=h.get hi hj l;rcases z with z|z
  .exact absurd z a.2.1
  .exact absurd z a.2.2
 .subst l;rfl
 .let a:=h.get hj hi l;rcases z with z|z
  .exact absurd z a.2.2
  .exact absurd z a.2.1
def Free.perm(h:Free L)(p:S.Perm L):Free S:=(p.pairwise_iff (λ{a b}z=>⟨z.1.symm,z.2.2,z.2.1⟩)).mpr h
def Fits.perm(h:Fits L)(p:S.Perm L):Fits S:=⟨by rw[p.length_eq];exact h.1,λx hx=>h.2 x (p.mem_iff.mp hx)⟩
def Zd5(C:Addr):Sp:=λvs H Q _=>∃(x r:Addr)(S:List Pr)(ns:List Int)(pl:Nat),vs=[.ref x,.ref r,.int pl]/\Uj C H x S/\Fits S/\H r=some (.lst (ns.map V.int))/\pl<=ns.length /\
 (∀p∈S,p.2<+:ns.drop pl->∀(t:Addr)(H':Hp),Same H H'->H' t=some (.tup (p.2.map V.int))->Q (.ref t) H')/\((∀p∈S,¬ p.2<+:ns.drop pl)->∀H',Same H H'->Q .non H')
def Yi(T:List Pr):List Int:=(T.map λq:Pr=>q.2).flatten
def Yz(T:List Pr):List Int:=T.map λq:Pr=>q.1
def Rq(p:Pr)(T:List Pr):Yi (p::T)=p.2++Yi T:=rfl
def Qg(A B:List Pr):Yi (A++B)=Yi A++Yi B:=by unfold Yi;rw[Jg,List.flatten_append]
theorem T9(h:Fits S):∀{T:List Pr},(∀p∈T,p∈S)->(Yi T).length<=4*T.length
 |[],_=>by simp[Yi]
 |p::T,m=>by
  let a:=T9 h (T:=T) λq hq=>m q (Jk _ hq);let b:=(h.2 p (m p Jn)).2;rw[Rq,Jc,Jz];lia
def Zlp(T:List Pr){i:Nat}(hi:i<T.length):(Yi T).drop (Yi (T.take i)).length=T[i].2++Yi (T.drop (i+1)):=by
 let e:Yi T=Yi (T.take i)++(T[i].2++Yi (T.drop (i+1))):=by
  rw[<-Rq,<-Bi hi,<-Qg,Gz]
 rw[e,List.drop_left]
def Zlo{T:List Pr}{i:Nat}(hi:i<T.length):Yi (T.take (i+1))=Yi (T.take i)++T[i].2:=by
 rw[Jf hi,Qg,Rq];simp[Yi]
def Zm0:Sp:=λvs H Q _=>∃(p a sa:Addr)(ss:List Int)(m:Int),vs=[.ref p,.ref sa,.int m]/\HandAt H p a/\H sa=some (.lst (ss.map V.int))/\sa≠p/\0<=m/\m<=200 /\
 ∀(l:Addr)(ts:List Int)(H':Hp),H l=none->l≠p->H' l=some (.lst (ts.map V.int))->(∀t∈ts,t∈ss)->(ts.length:Int)<=m->HandAt H' p a->Grow p H H'->Q (.ref l) H'
theorem Zqn(w:List Int){k m:Nat}(h:k<=w.length):cutV (w.map V.int) (some (k:Int)) (some ((k:Int)+(m:Int)))=((w.drop k).take m).map V.int:=by
 unfold cutV;rw[<-L7,HT.sIx_nat,HT.sIx_nat,Ja,Fj h,Bq,Fk];refine List.take_eq_take_iff.mpr ?_;rw[Ge,Ja];lia
def Zwf{c A:Prop}[Decidable c](hc:¬ c)(h:A):if(!decide c)=true then A else B:=by
 rw[Dg hc];exact iteT h
def Zt0{c A:Prop}[Decidable c](hc:c)(h:A):if decide c=true then A else B:=by
 rw[Df hc];exact iteT h
def Zt1{c A:Prop}[Decidable c](hc:¬ c)(h:B):if decide c=true then A else B:=by
 rw[Dg hc];exact iteF h
section
def Zcn(K:Cm):List V->Hp->VK->Prop:=λxs H Q=>∃p ys,xs=[.ref p]/\(SqL K H p ys\/SqT K H p ys)/\∀l,H l=none->Q (.ref l) (upd H l (.lst ys))
def Sk(h:X.K=K):W6 X (.type "list") (Zcn K):=by subst h;exact Zbx
def Znc(K:Cm):List V->Hp->VK->Prop:=λxs H Q=>∃p ys,xs=[.ref p]/\((SqL K H p ys/\∀l,H l=none->Q (.ref l) (upd H l (.tup ys)))\/(SqT K H p ys/\Q (.ref p) H))
def Zkb(h:X.K=K):W6 X (.type "tuple") (Znc K):=by subst h;exact Wf
def rIsi(K:Cm):List V->Hp->VK->Prop:=λxs H Q=>∃x T t b,xs=[x,.ty T]/\TyOf K H x t/\Ji8 K t (.type T)=some b/\Q (.bl b) H
def Tz(h:X.K=K):W6 X (.builtin "isinstance") (rIsi K):=by subst h;exact Zmk
end
abbrev En:=Nat×Option Int
variable{R:List L2.En}
inductive Went(S:List Pr)(ns:List Int):List En->Nat->Prop where
 |nil:Went S ns [] 0
 |lost {R:List En} {pl:Nat}:Went S ns R pl->pl<ns.length->(∀p∈S,¬ p.2<+:ns.drop pl)->Went S ns (R++[(pl,none)]) (pl+1)
 |word {R:List En} {pl:Nat} {p:Pr}:Went S ns R pl->p∈S->p.2<+:ns.drop pl->p.2≠[]->Went S ns (R++[(pl,some p.1)]) (pl+p.2.length)
theorem Zh3{w:List Int}(h:w<+:ns.drop pl)(hw:w≠[]):pl<ns.length/\pl+w.length<=ns.length:=by
 let a:=h.length_le;let b:=Gm.mpr hw;rw[Ge]at a;lia
theorem Went.le(h:Went S ns R pl):pl<=ns.length:=by
 cases h with
 |nil=>exact Gc _
 |lost _ h _=>exact h
 |word _ _ h1 h2=>exact(Zh3 h1 h2).2
theorem Went.len(h:Went S ns R pl):R.length<=pl:=by
 induction h with
 |nil=>exact Jd _
 |lost _ _ _ ih=>rw[Jc,Gp];lia
 |word _ _ _ h2 ih =>
  let:=Gm.mpr h2;rw[Jc,Gp];lia
theorem Went.one(fr:Free S){A:List En}(h:Went S ns A pa):∀{B:List En}{pb:Nat},Went S ns B pb->A.length=B.length->A=B/\pa=pb:=by
 induction h with
 |nil =>
  intro B pb hb e;cases hb with
  |nil=>exact⟨rfl,rfl⟩
  |lost=>simp at e
  |word=>simp at e
 |lost _ h1 h2 ih =>
  intro B pb hb e;cases hb with
  |nil=>simp at e
  |lost b1 b2 b3 =>
   let⟨rfl,rfl⟩:=ih b1 (by simpa using e);exists rfl,rfl
  |word b1 b2 b3 b4 =>
   let⟨rfl,rfl⟩:=ih b1 (by simpa using e);exact absurd b3 (h2 _ b2)
 |word _ h1 h2 h3 ih =>
  intro B pb hb e;cases hb with
  |nil=>simp at e
  |lost b1 b2 b3 =>
   let⟨rfl,rfl⟩:=ih b1 (by simpa using e);exact absurd h2 (b3 _ h1)
  |word b1 b2 b3 b4 =>
   let⟨rfl,rfl⟩:=ih b1 (by simpa using e);obtain rfl:=Zji fr h1 b2 h2 b3;exists rfl,rfl
theorem Went.cut{B:List En}(h:Went S ns B pb):∀n,n<B.length->∃p',Went S ns (B.take n) p'/\p'<ns.length:=by
 induction h with
 |nil=>intro n hn;exact absurd hn (G0 _)
 | @lost R pl g h1 h2 ih =>
  intro n hn;rw[Jc,Gp]at hn
  by_cases z:n<R.length
  .let⟨p',a,b⟩:=ih n z;exists p',by rw[Gx ()];exact a,b
  .let:n=R.length:=by lia
   subst this;exists pl,by rw[B7];exact g,h1
 | @word R pl p g h1 h2 h3 ih =>
  intro n hn;rw[Jc,Gp]at hn
  by_cases z:n<R.length
  .let⟨p',a,b⟩:=ih n z;exists p',by rw[Gx ()];exact a,b
  .let:n=R.length:=by lia
   subst this;exists pl,by rw[B7];exact g,(Zh3 h2 h3).1
theorem Went.uniq(fr:Free S){A B:List En}(ha:Went S ns A pa)(ea:ns.length<=pa)(hb:Went S ns B pb)(eb:ns.length<=pb):A=B:=by
 rcases Fp A.length B.length with l|l|l
 .let⟨p',a,b⟩:=hb.cut _ l;let⟨_,e⟩:=ha.one fr a (by rw[Ji];lia);lia
 .exact(ha.one fr hb l).1
 .let⟨p',a,b⟩:=ha.cut _ l;let⟨_,e⟩:=hb.one fr a (by rw[Ji];lia);lia
def oV:Option Int->V
 |some z=>.int z
 |none=>.non
def Told(S:List Pr)(ns:List Int)(R:List En):Prop:=∃pl,Went S ns R pl/\ns.length<=pl
def Told.uniq(fr:Free S){A B:List En}(a:Told S ns A)(b:Told S ns B):A=B:=by
 let⟨pa,a1,a2⟩:=a;let⟨pb,b1,b2⟩:=b;exact a1.uniq fr a2 b1 b2
def Zit(R:List En):List Int:=(R.filter λe=>e.2.isNone).map λe=>((e.1:Nat):Int)
def Itd(d:Addr)(o:Obj)(kvs:List (Key×V)):It:=⟨λi H=>H d=some (.frz o (.dK kvs))/\i<kvs.length,λi H x H'=>H'=H/\∃kv,kvs[i]?=some kv/\x=kV kv.1,λi H=>H d=some (.frz o (.dK kvs))/\kvs.length<=i⟩
def Zp1{k:Key}{v:Value}(h:Nu k v=true):RelV (kV k) v:=by
 rcases Yk h with⟨i,t,rfl,rfl⟩|⟨x,t,rfl,rfl⟩
 .exists t,rfl
 .exists t,rfl
def Zex{w:C0}{d:Addr}{o:Obj}{kvs:List (Key×V)}{es0:Array DictEntry}{ep:Nat}(ok:HOk P w H h)(e:H d=some (.frz o (.dK kvs)))(hep:o.data=.dict es0 ep) :
  kvs.length<=sizeLine/\(d==E5)=false/\∃vs,KV kvs vs/\h.DictAt (Y4 P w) d vs ep:=by
 let⟨e1,z,hd,vs,r,ob,es,ep',e2,c,dd,rest⟩:=(show Y5 P w H h d (.frz o (.dK kvs))from ok d _ e);let eo:ob=o:=Dh (e2.symm.trans e1);subst eo;rw[hep]at dd;injection dd with d1 d2
 subst d1 d2;exists z,hd,vs,r,ob,es0,e1,c,hep,rest
theorem Zgu{w:C0}(d:Addr)(o:Obj)(kvs:List (Key×V)){es0:Array DictEntry}{ep:Nat}(hep:o.data=.dict es0 ep)(it:Addr):Turn P w K tg (Itd d o kvs) [it] it (λi h=>h.IsKeyIter it d i kvs.length ep) where
 mem:=by simp
 obj:=λi h st b hb=>by
  obtain rfl:b=it:=by simpa using hb
  let⟨o,e,c,d⟩:=st;exact⟨o,e,λv z=>by rw[d]at z;cases z⟩
 keep:=λi h h' st k=>let⟨o,e,r⟩:=st;⟨o,k it (by simp) o e,r⟩
 item:=by
  intro X hP hw hK hc i pq s σ H E I hf st hg;subst hP hw hK;let⟨f0,f1,f2,f3,f4,f5⟩:=hf it (by simp);let⟨hd,hi⟩:=hg;let⟨_,_,vs,r,da⟩:=Zex I.hok hd hep;let hl:=Paired.length r;let hi2:i<vs.length:=by lia
  let hr:=L2.Paired.at r hi hi2;rw[hl]at st;refine wpAny_pyNext_dict_item (k:=vs[i].1) (v:=vs[i].2) st da (by rw[Jb hi2]) λkey h' hk st' sb=>?_;let I1:Inv X pq σ H {s with heap:=h',toks:=s.toks}:=I.turned (λb o hb e=>(sb.2 b hb).trans e) f0 f1 f3 f4 f5;rw[<-hl]at st';let⟨o',e',c',d'⟩:=id st';exists key,rfl,Zmc (s:={s with heap:=h',toks:=s.toks}) e' c' d' nofun ⟨kV kvs[i].1,H,I1,by rw[hr.1];exact Zp1 hk,⟨rfl,kvs[i],Jb hi,rfl⟩,st',λb hb=>(hf b hb).1⟩
 done:=by
  intro X hP hw hK hc i pq s σ H E I hf st hg;subst hP hw hK;let⟨f0,f1,f2,f3,f4,f5⟩:=hf it (by simp);let⟨hd,hi⟩:=hg;let⟨_,_,vs,r,da⟩:=Zex I.hok hd hep;let hl:=Paired.length r;rw[hl]at st;exact wpAny_pyNext_dict_end (I.ok.hd hc) st da (by simp;lia) λh' eb=>⟨rfl,I.turned (t':=s.toks) (λb o hb e=>eb b o hb e) f0 f1 f3 f4 f5⟩
 self:=λ_ _ _ _ _ st h=>wpAny_pyIter_keyiter st h
section
def dAlt(R:It->Hp->Prop)(d:Addr)(kvs:List (Key×V))(H1:Hp):Prop:=(H1 d=some (.dK kvs)/\∀o,R (Itd d o kvs) (upd H1 d (.frz o (.dK kvs))))\/∃o,H1 d=some (.frz o (.dK kvs))/\R (Itd d o kvs) H1
def Zt6(tl:TE):TI:=λσ H R=>tl σ H λx H1=>∃d kvs,x=.ref d/\dAlt R d kvs H1
def Zpg{l:Expr}{tl:TE}(hl:PE X l tl):PI X tg l (Zt6 tl):=by
 intro pq s σ H R I h;refine thn (hl pq s σ H _ I h) λv s1 hz=>?_;let⟨x,H1,I1,r1,q1⟩:=hz;let⟨d,kvs,e,q⟩:=q1;subst e;cases r1;let go:∀(o:Obj)(H2:Hp),Inv X pq σ H2 s1->H2 d=some (.frz o (.dK kvs))->R (Itd d o kvs) H2->Cc (Ch X.prog X.w) X.A (pyIter (.ref d)) (PIE X pq σ tg R) X.xe s1:=λo H2 I2 e2 q2=>by
  let⟨e1,z,hd,vs,r,ob,es,ep,e3,c,dd,rest⟩:=(show Y5 X.prog X.w H2 s1.heap d (.frz o (.dK kvs))from I2.hok d _ e2);let eo:ob=o:=Dh (e3.symm.trans e1);subst eo;let hl:=Paired.length r;refine wpAny_pyIter_dict hd ⟨ob,es,e3,c,dd,rest⟩ ?_;exists s1.heap.objs.size,[s1.heap.objs.size],_,_,H2,rfl,I2.kept (t':=s1.toks) λb o e=>F9 _ e,Zgu d ob kvs dd _,?_,λb hb=>?_,q2
  .rw[hl];exists _,Da _ rfl,rfl,rfl
  .let e:b=s1.heap.objs.size:=by simpa using hb
   subst e;exact I2.fpOk (Jd _) (I2.hok.fresh (Jd _))
 rcases q with⟨e1,q⟩|⟨o,e1,q⟩
 .let⟨z,hd,vs,r,ob,es,ep,e3,c,dd,rest⟩:=I1.hok d _ e1;let I2:Inv X pq σ (upd H1 d (.frz ob (.dK kvs))) {s1 with heap:=s1.heap,toks:=s1.toks}:=I1.write (x:=d) (e:=d) (by rw[e1];exact trivial) (.inl rfl) (λb u _ h=>h) ⟨_,e3⟩ ⟨e3,z,hd,vs,r,ob,es,ep,e3,c,dd,rest⟩;exact go ob _ I2 Zg (q ob)
 .exact go o H1 I1 e1 q
end
theorem Went.step(h:Went S ns R pl):∀i(hi:i<R.length),∃p',Went S ns (R.take i) p'/\R[i].1=p'/\p'<ns.length /\
  ((R[i].2=none/\(∀p∈S,¬ p.2<+:ns.drop p')/\Went S ns (R.take (i+1)) (p'+1))\/∃p∈S,R[i].2=some p.1/\p.2<+:ns.drop p'/\p.2≠[]/\Went S ns (R.take (i+1)) (p'+p.2.length)):=by
 induction h with
 |nil=>intro i hi;exact absurd hi (G0 _)
 | @lost R pl g h1 h2 ih =>
  intro i hi
  by_cases z:i<R.length
  .let⟨p',a1,a2,a3,a4⟩:=ih i z;exists p',?_;rw[Gx (),Gx (),Jb0 z];exists a1,a2,a3,a4
  .let e:i=R.length:=by rw[Jc,Gp]at hi;lia
   subst e;exists pl,by rw[B7];exact g,by simp,h1,.inl ⟨by simp,h2,?_⟩;rw[Gd (by simp)];exact .lost g h1 h2
 | @word R pl p g h1 h2 h3 ih =>
  intro i hi
  by_cases z:i<R.length
  .let⟨p',a1,a2,a3,a4⟩:=ih i z;exists p',?_;rw[Gx (),Gx (),Jb0 z];exists a1,a2,a3,a4
  .let e:i=R.length:=by rw[Jc,Gp]at hi;lia
   subst e;exists pl,by rw[B7];exact g,by simp,(Zh3 h2 h3).1,.inr ⟨p,h1,by simp,h2,h3,?_⟩;rw[Gd (by simp)];exact .word g h1 h2 h3
section
variable{M:Ji1}{Ex:Value->Ca->Prop} 
structure Noted(fs:List Addr)(ea T:Addr)(oe:Obj)(fl:Value)(h h':Heap):Prop where
 keep:∀b o,b∉fs->b≠ea->h.get? b=some o->h'.get? b=some o
 slot:∀b o,b≠ea->h.get? b=some o->∃sl,h'.get? b=some {o with slots:=sl}
 new:h.objs.size<=T
 exc:h'.get? ea=some (oe.mapFields (·.setIfInBounds 1 (.ref T)))
 tb:∃ob ts,h'.get? T=some ob/\ob.data=.fields ts/\ts[3]?=some fl
 ne:T≠ea
def Za4{base:Heap}{l:List Env}{vs:Array Value}(ff:h.FunFrames base l)(eo:h.get? ea=some oe)(od:oe.data=.fields vs):ea∉frs l:=λz=>by
 let⟨_,o,ho,hnf⟩:=ff.mem z;rw[eo]at ho;cases ho;exact hnf vs od
def Zd2{base:Heap}{env:Env}{outer:List Env}{L:Addr}{vs:Array Value}{head:Value}{flag:Bool}{Q:Unit->Ca->Prop}(fr:A.frames=some (env::outer))(ff:s.heap.FunFrames base (env::outer))(ef:env.frame=some L)(eo:s.heap.get? ea=some oe)(od:oe.data=.fields vs)(sz:1<vs.size)(k:∀h' T,Noted (frs (env::outer)) ea T oe (Hq L) s.heap h'->Q ⟨⟩ {s with heap:=h'}) :
  Cc M A (do let a <-frameOf env;let pl <-entryPlaceOf L flag;let b <-Je0 head a .none (Hq L) .none pl;setField (.ref ea) 1 b) Q Ex s:=by
 let nf:ea∉frs (env::outer):=Za4 ff eo od;refine F7 (wpAny_frameOf_fun fr ff ef λg1 sl1=>?_);refine F7 (wpAny_entryPlaceOf λpl hpl=>?_);unfold Je0 newFields;refine F7 (Hb ?_ (hpl.sizeOk5 _ _ _ _ _));let e1:g1.get? ea=some oe:=(sl1.2.1 ea nf).trans eo;generalize hO:({cls:=.type "traceback",dict:=none,data:=.fields ([head,.ref L,.none,Hq L,.none]++(if pl.isEmpty then Ck 6 Value.none else pl)).toArray}:Obj)=tbo;let e2:(g1.push tbo).get? ea=some oe:=F9 _ e1;let lt:ea<g1.objs.size:=Db e1;let nT:g1.objs.size≠ea:=F6 lt;refine wpAny_setField e2 od sz (k _ g1.objs.size ?_)
 let td:tbo.data=.fields ([head,.ref L,.none,Hq L,.none]++(if pl.isEmpty then Ck 6 Value.none else pl)).toArray:=by rw[<-hO]
 let gT:(g1.push tbo).get? g1.objs.size=some tbo:=Da g1 (K5 td);let ed:=Jfo od (·.setIfInBounds 1 (Cg g1.objs.size));exists λb o hb hne q=>?_,λb o hne q=>?_,Bv sl1.1.symm,Er _ e2 (K5 ed),⟨tbo,_,?_,td,?_⟩,nT
 .rw[Ct _ _ (Cw hne)];exact F9 _ ((sl1.2.1 b hb).trans q)
 .let⟨sl,e⟩:=sl1.2.2 b o q;exact⟨sl,by rw[Ct _ _ (Cw hne)];exact F9 _ e⟩
 .rw[Ct _ _ (Cw nT)];exact gT
 .simp
structure Gone(fs:List Addr)(ea:Addr)(T0:Option Addr)(oe:Obj)(vs:Array Value)(h h':Heap):Prop where
 keep:∀b o,b∉fs->b≠ea->some b≠T0->h.get? b=some o->h'.get? b=some o
 slot:∀b o,b≠ea->some b≠T0->h.get? b=some o->∃sl,h'.get? b=some {o with slots:=sl}
 flow:∃T vs' ob ts,h.objs.size<=T/\h'.get? ea=some {oe with data:=.fields vs'}/\vs'.size=vs.size/\vs'[1]?=some (.ref T)/\h'.get? T=some ob/\ob.data=.fields ts/\ts[3]?=some .none/\T≠ea
def mapF{vs:Array Value}(od:oe.data=.fields vs)(f:Array Value->Array Value):oe.mapFields f={oe with data:=.fields (f vs)}:=by
 let⟨c,d,dt,sl⟩:=oe;cases od;rfl
def P3{fs:List Addr}{T:Addr}{vs:Array Value}{L:Addr}{h0:Heap}{Q:Unit->Ca->Prop}(od:oe.data=.fields vs)(sz:1<vs.size)(nt:Noted fs ea T oe (Hq L) h0 s.heap)(k:∀h',Gone fs ea none oe vs h0 h'->Q ⟨⟩ {s with heap:=h'}):Cc M A (Jb1 (.ref ea) none) Q Ex s:=by
 let ex:=nt.exc;rw[mapF od]at ex;let⟨ob,ts,eT,dT,h3⟩:=nt.tb;let s3:3<ts.size:=(Br.mp h3).1;refine Jem ex rfl (by rw[Fc,De sz]) eT dT s3 (k _ ?_);let dd:=Jfo dT (·.setIfInBounds 3 Value.none);let lt0:∀b o,h0.get? b=some o->T≠b:=λb o q z=>absurd (Db q) (Nat.not_lt.mpr (by rw[<-z];exact nt.new));exists λb o hb hne _ q=>?_,λb o hne _ q=>?_,T,vs.setIfInBounds 1 (.ref T),_,_,nt.new,?_,?_,?_,Er _ eT (K5 dd),dd,?_,nt.ne
 .rw[Ct _ _ (lt0 b o q)];exact nt.keep b o hb hne q
 .let⟨sl,e⟩:=nt.slot b o hne q;exact⟨sl,by rw[Ct _ _ (lt0 b o q)];exact e⟩
 .rw[Ct _ _ nt.ne];exact ex
 .simp
 .rw[Fc,De sz]
 .rw[Fc,De s3]
def Zcz{base:Heap}{env:Env}{outer:List Env}{L:Addr}{vs:Array Value}{Q:Unit->Ca->Prop}(fr:A.frames=some (env::outer))(ff:s.heap.FunFrames base (env::outer))(ef:env.frame=some L)(eo:s.heap.get? ea=some oe)(od:oe.data=.fields vs)(v1:vs[1]?=some .none)(k:∀h',Gone (frs (env::outer)) ea none oe vs s.heap h'->Q ⟨⟩ {s with heap:=h'}) :
  Cc M A (Ja6 (.ref ea) env) (λ_ s2=>Cc M A (Jb1 (.ref ea) none) Q Ex s2) Ex s:=by
 let sz:1<vs.size:=(Br.mp v1).1;unfold Ja6;simp only[ef];refine F7 (Kx eo od v1 ?_);rw[Dd nofun];exact Zd2 fr ff ef eo od sz λh' T nt=>P3 (s:={s with heap:=h'}) od sz nt λh2 g=>k h2 g
def Sf{base:Heap}{env:Env}{outer:List Env}{L T0:Addr}{oT:Obj}{vs ts:Array Value}{Q:Unit->Ca->Prop}(fr:A.frames=some (env::outer))(ff:s.heap.FunFrames base (env::outer))(ef:env.frame=some L)(eo:s.heap.get? ea=some oe)(od:oe.data=.fields vs)(v1:vs[1]?=some (.ref T0))(eT:s.heap.get? T0=some oT)(dT:oT.data=.fields ts)(t3:ts[3]?=some .none)(ne:T0≠ea)(k:∀h',Gone (frs (env::outer)) ea (some T0) oe vs s.heap h'->Q ⟨⟩ {s with heap:=h'}) :
  Cc M A (Ja6 (.ref ea) env) (λ_ s2=>Cc M A (Jb1 (.ref ea) none) Q Ex s2) Ex s:=by
 let sz:1<vs.size:=(Br.mp v1).1;unfold Ja6;simp only[ef];refine F7 (Kx eo od v1 ?_);rw[De (show(Cg T0 != Value.none)=true by simp)];refine F7 (Kx eT dT t3 ?_);rw[Dd (show ¬ ((Value.none==Hq L)=true)by simp[Hq])];refine F7 (wpAny_setField eT dT (Br.mp t3).1 ?_);let oth:∀b,b≠T0->(s.heap.update T0 (Jdo (·.setIfInBounds 3 Value.none))).get? b=s.heap.get? b:=λb hb=>Ct _ _ (Cw hb);let nfT:T0∉frs (env::outer):=Za4 ff eT dT;let ff2:(s.heap.update T0 (Jdo (·.setIfInBounds 3 Value.none))).FunFrames base (env::outer):=ff.of_keeps λb o hb hnf=>⟨o,(oth b λz=>by
  rw[z,eT]at hb;cases hb;exact hnf ts dT).trans hb,rfl⟩
 refine Zd2 (s:={s with heap:=s.heap.update T0 (Jdo (·.setIfInBounds 3 Value.none))}) fr ff2 ef ((oth ea (Cw ne)).trans eo) od sz λh' T nt=>P3 (s:={s with heap:=h'}) od sz nt λh2 g=>k h2 ?_;let szU:(s.heap.update T0 (Jdo (·.setIfInBounds 3 Value.none))).objs.size=s.heap.objs.size:=Heap.size_after_update ..;let⟨T1,vs1,ob1,ts1,z1,zr⟩:=g.flow;exists λb o hb hne hT q=>g.keep b o hb hne (by simp) ((oth b λz=>hT (by rw[z])).trans q),λb o hne hT q=>g.slot b o hne (by simp) ((oth b λz=>hT (by rw[z])).trans q),T1,vs1,ob1,ts1,by rw[<-szU];exact z1,zr
def P0{env:Env}{e:Value}{Q:Unit->Ca->Prop}(h:Cc M A (Ja6 e env) (λ_ s2=>Cc M A (Jb1 e none) Q Ex s2) Ex s):Cc M A (Jj9 env e) Q Ex s:=by
 unfold Jj9;exact F7 h
end
def excP(ea C:Addr)(d:Option Addr)(h:Heap):Prop:=∃oe vs,h.get? ea=some oe/\oe.cls=.ref C/\oe.dict=d/\oe.data=.fields vs/\vs.size=6
def excP.ok{w:C0}{d:Option Addr}(x:excP ea C d h):Y5 P w H h ea (.ext (excP ea C d)):=by
 let⟨oe,vs,e,r⟩:=id x;exists x,⟨oe,e⟩,λh1 h2⟨o1,v1,e1,r1⟩k=>⟨o1,v1,k _ e1,r1⟩
def Zdu(ea T:Addr)(h:Heap):Prop:=∃oe vs oT ts,h.get? ea=some oe/\oe.data=.fields vs/\vs[1]?=some (.ref T)/\h.get? T=some oT/\oT.data=.fields ts/\ts[3]?=some .none/\T≠ea
def CXE(P:Ew)(w:C0):CXT:=λouter H s E e s'=>∃(ea C T:Addr)(d:Option Addr)(H':Hp),e=.ref ea/\s'.os=s.os/\Jb5 s'.gens/\Un (frs outer) [] H H' s.heap s'.heap/\HOk P w H' s'.heap /\
 H' ea=some (.ext (excP ea C d))/\s.heap.objs.size<=ea/\H' T=none/\s.heap.objs.size<=T/\Zdu ea T s'.heap/\E (.ref C) d H'
section
def Inv.gone{d:Option Addr}{vs:Array Value}(I:Inv X pq σ H s)(hx:X.ex=[])(hst:∀b∈frs X.stack,b∈X.fs\/X.s₀.heap.objs.size<=b)(hea:H ea=some (.ext (excP ea C d)))(eo:s.heap.get? ea=some oe)(od:oe.data=.fields vs)(hT:∀T,T0=some T->H T=none/\X.s₀.heap.objs.size<=T)(g:Gone (frs X.stack) ea T0 oe vs s.heap h'):Un X.fs [] X.H₀ H X.s₀.heap h'/\HOk X.prog X.w H h':=by
 let u:=I.base;rw[hx]at u;let ub:∀b o,X.s₀.heap.get? b=some o->some b≠T0:=λb o q z=>by
  let:=(hT b z.symm).2;exact absurd (Db q) (Nat.not_lt.mpr this)
 exists⟨λb o q n hb _=>?_,λb o q n hb _=>?_,λb o q n _=>u.free b o q n (by simp),λb o q _=>?_,u.tups,u.frzs,u.tbls⟩,λb o q=>?_
 .let n2:=u.free b o q n (by simp);let ne:b≠ea:=λz=>by rw[z,hea]at n2;cases n2
  refine g.keep b o (λz=>?_) ne (ub b o q) (u.keep b o q n hb (by simp));rcases hst b z with z|z
  .exact hb z
  .exact absurd (Db q) (Nat.not_lt.mpr z)
 .let n2:=u.free b o q n (by simp);let ne:b≠ea:=λz=>by rw[z,hea]at n2;cases n2
  let⟨sl,e⟩:=u.slot b o q n hb (by simp);let⟨sl2,e2⟩:=g.slot b _ ne (ub b o q) e;exists sl2,e2
 .let⟨o',e⟩:=u.there b o q (by simp)
  by_cases ne:b=ea
  .subst ne;let⟨_,_,_,_,_,e3,_⟩:=g.flow;exists _,e3
  .let⟨sl,e2⟩:=g.slot b o' ne (ub b o q) e;exists _,e2
 .let nfr:∀c y,H c=some y->c∉frs X.stack:=λc y r z=>by rw[I.stkFree c z]at r;cases r
  let nT:∀c y,H c=some y->some c≠T0:=λc y r z=>by rw[(hT c z.symm).1]at r;cases r
  by_cases ne:b=ea
  .subst ne;rw[hea]at q;cases q;let⟨⟨o1,v1,a1,a2,a3,a4,a5⟩,_,_⟩:=I.hok b _ hea;let⟨T,vs',ob,ts,_,e3,e4,_⟩:=g.flow;rw[eo]at a1;cases a1;rw[od]at a4;cases a4;exact excP.ok ⟨_,vs',e3,a2,a3,rfl,by rw[e4];exact a5⟩
  .refine(I.hok b o q).stay (λc v hc r=>?_) (λ_ z=>z) λ_ _ z=>z;rcases hc with hc|hc
   .rw[hc]at r⊢;exact g.keep b v (nfr b o q) ne (nT b o q) r
   .let ne2:c≠ea:=λz=>by rw[z,hea]at hc;cases hc
    exact g.keep c v (nfr c _ hc) ne2 (nT c _ hc) r
end
section
variable{w:C0}{base:Heap}{scope:Scope}{f:Addr}{cd:Value}{outer:List Env}{E:XK}
abbrev cxE(P:Ew)(w:C0)(K:Cm)(mg:Str->Option Value)(base:Heap)(N:List Str)(qual:Str)(scope:Scope)(f:Addr)(cd:Value)(A:K2)(outer:List Env)(s:Ca)(H:Hp)(E:XK):Cx:=cxOf (CXE P w) P w K mg base N qual scope f cd A outer s H E
def Zjz:∀b∈frs (cxE P w K mg base N qual scope f cd A outer s H E).stack,b∈(cxE P w K mg base N qual scope f cd A outer s H E).fs\/(cxE P w K mg base N qual scope f cd A outer s H E).s₀.heap.objs.size<=b:=λb hb=>by
 rcases Jp.mp (show b∈s.heap.objs.size::frs outer from hb)with z|z
 .exact .inr (Bv z.symm)
 .exact .inl z
def Lies(ea:Addr)(T0:Option Addr)(h:Heap):Prop:=match T0 with
 |none=>∃oe vs,h.get? ea=some oe/\oe.data=.fields vs/\vs[1]?=some .none
 |some T=>Zdu ea T h
theorem Zu2{s2:Ca}{d:Option Addr}(I:Inv (cxE P w K mg base N qual scope f cd A outer s H E) pq σ H2 s2)(hea:H2 ea=some (.ext (excP ea C d)))(lea:s.heap.objs.size<=ea)(hT:∀T,T0=some T->H2 T=none/\s.heap.objs.size<=T)(fl:Lies ea T0 s2.heap)(q:E (.ref C) d H2):(cxE P w K mg base N qual scope f cd A outer s H E).xe (.ref ea) s2:=by
 let fin:∀(oe:Obj)(vs:Array Value)(h':Heap),s2.heap.get? ea=some oe->oe.data=.fields vs->Gone (frs (cxE P w K mg base N qual scope f cd A outer s H E).stack) ea T0 oe vs s2.heap h'->CXE P w outer H s E (.ref ea) {s2 with heap:=h'}:=λoe vs h' eo od g=>by
  let⟨un,hok⟩:=I.gone rfl Zjz hea eo od hT g;let⟨T,vs',ob,ts,z1,z2,z3,z4,z5,z6,z7,z8⟩:=g.flow;exists ea,C,T,d,H2,rfl,I.os,I.bare,un,hok,hea,lea,I.hok.fresh z1,J8 I.sz z1,⟨_,vs',ob,ts,z2,rfl,z4,z5,z6,z7,z8⟩,q
 show Cc (Ch P w) _ (Jj9 _ _) _ _ _;cases T0 with
 |none =>
  let⟨oe,vs,eo,od,v1⟩:=fl;exact P0 (Zcz (base:=base) I.ok.frames I.stack rfl eo od v1 λh' g=>fin oe vs h' eo od g)
 |some T =>
  let⟨oe,vs,oT,ts,eo,od,v1,eT,dT,t3,ne⟩:=fl;exact P0 (Sf (base:=base) I.ok.frames I.stack rfl eo od v1 eT dT t3 ne λh' g=>fin oe vs h' eo od g)
end
def CalE(P:Ew)(w:C0)(K:Cm)(mg:Str->Option Value)(base:Heap)(x:Str)(k:Nat)(ps:List Str)(sp:Sp):Prop :=
 ∃f fd,FnOk P w K mg base (CXE P w) k f fd ps sp/\mg x=some (.ref f)/\Jb7 K (.ref f)=true/\Vt K fd ps []
section
variable{w:C0}{base:Heap}
def Fun.okE{x:Str}{f:Addr}{k:Nat}(F:Fun K x qual st f fd)(S:FnScope N ps (Zp st))(len:∀vs H Q E,sp vs H Q E->vs.length=ps.length)(hbody:∀(cdv:Value)(A:K2)(outer:List Env)(s:Ca)(H:Hp)(vs:List V)(Q:VK)(E:XK),Room k (A.deeper (Kd qual (Zp st) s.heap.objs.size f cdv))->sp vs H Q E ->
   ∃t,PSs (cxE P w K mg base N qual (Zp st) f cdv A outer s H E) (Xg st) t/\t {nx:=λ_ H'=>Q .non H',rt:=Q} (U6 N vs) H):FnOk P w K mg base (CXE P w) (k+1) f fd ps sp:=by
 let⟨oc,od,kV,doc,pm,an,cdv,ct,osl,rfl,lk,hcd⟩:=F.ex;exact Zqd lk hcd S len λA outer s H vs Q E hr hsp=>hbody cdv A outer s H vs Q E hr hsp
end
end L2
variable{R:List L2.En}
namespace L2
open PySem PySem.Spec PyProof.Rows PySem.W
abbrev veB:List Value:=[.type "ValueError",.type "Exception",.type "BaseException",.type "object"]
def excI(K:Frag)(C fI:Addr):Bool:=match K.lookup C with
 |some ⟨.type "type",_,.cls cd,sl⟩=>(match cd.mro,sl.toList with
  |.ref C'::bm,[_,_,_,_,some (.builtin n),_]=>C'==C&&(n == "ValueError.__new__" && (!cd.hasDel&&(tailIn K veB bm&&(nsOkIn K cd.ns&&cd.hasDict))))
  |_,_=>false)
 |_=>false
def Qu(K:Frag)(C:Addr):Option (Option Value):=match K.lookup C with
 |some ⟨_,_,.cls cd,_⟩=>nsIn K cd.ns "__init__"
 |_=>none
def ExcA(h:Heap)(C:Addr)(o:Option (Option Value)):Prop:=∃bm N nm q bs sn sub ab col dd k0 k1 k2 k3 k5 mN,h.get? C=some (excClassObj nm q C N bs bm true sn sub ab col dd k0 k1 k2 k3 k5 "ValueError.__new__")/\h.Ns N mN/\(∀z,o=some z->mN "__init__"=z)/\OwnTail h veB bm
def ExcI(h:Heap)(C fI:Addr):Prop:=∃bm N nm q bs sn sub ab col dd k0 k1 k2 k3 k5 mN,h.get? C=some (excClassObj nm q C N bs bm true sn sub ab col dd k0 k1 k2 k3 k5 "ValueError.__new__")/\h.Ns N mN/\mN "__init__"=some (.ref fI)/\OwnTail h veB bm
def Zfu{K:Frag}{N:Addr}{n:Str}{v:Value}(X:K.In h)(G:h.Ns N mg)(e:nsIn K N n=some (some v)):mg n=some v:=by
 let⟨o,es,ep,ho,hd,_,hf⟩:=G;unfold nsIn at e
 split at e
 .rename_i c d es' n' sl q
  let z:=X _ _ q;rw[ho]at z;cases z;cases hd
  split at e
  .rename_i y he
   injection e with e
   rw[<-hf];unfold nsFind findBy;rw[<-Mh,he];exact e
  .rename_i he
   split at e<;>cases e
 .cases e
def Zfv{K:Frag}{N:Addr}{n:Str}(X:K.In h)(G:h.Ns N mg)(e:nsIn K N n=some none):mg n=none:=by
 let⟨o,es,ep,ho,hd,_,hf⟩:=G;unfold nsIn at e
 split at e
 .rename_i c d es' n' sl q
  let z:=X _ _ q;rw[ho]at z;cases z;cases hd
  split at e
  .cases e
  .rename_i he
   rw[<-hf];unfold nsFind findBy;rw[<-Mh,he];rfl
 .cases e
def Q0{K:Frag}(X:K.In h)(q:excI K C fI=true):ExcA h C (Qu K C):=by
 unfold excI at q
 split at q
 .rename_i dd cd sl ho
  split at q
  .rename_i C' bm k0 k1 k2 k3 n k5 hm hs
   let hin:Qu K C=nsIn K cd.ns "__init__":=by unfold Qu;rw[ho]
   simp only[Bu,beq_iff_eq,Jf6]at q;let⟨rfl,rfl,hdel,ht,hok,hdi⟩:=q;let⟨nm,bs,mro,ns,qn,hd,sn,sub,ab,col,del⟩:=cd;dsimp only at hm hdel hok hdi hin;subst hm hdel hdi;let hsl:sl=#[k0,k1,k2,k3,some (.builtin "ValueError.__new__"),k5]:=by
    let⟨l⟩:=sl;simp only at hs;rw[hs]
   subst hsl;exists bm,ns,nm,qn,bs,sn,sub,ab,col,dd,k0,k1,k2,k3,k5,_,X _ _ ho,.of_isNs (Jiy X hok),λz hz=>?_,tail_of_in X ht;rw[hin]at hz;cases z with
   |none=>exact Zfv X (.of_isNs (Jiy X hok)) hz
   |some v=>exact Zfu X (.of_isNs (Jiy X hok)) hz
  .cases q
 .cases q
def Zqe{K:Frag}(X:K.In h)(q:excI K C fI=true)(hi:Qu K C=some (some (.ref fI))):ExcI h C fI:=by
 let⟨bm,N,nm,q,bs,sn,sub,ab,col,dd,k0,k1,k2,k3,k5,mN,cO,cN,cI,T⟩:=Q0 X q;exists bm,N,nm,q,bs,sn,sub,ab,col,dd,k0,k1,k2,k3,k5,mN,cO,cN,cI _ hi,T
section
variable{w:C0}{g:Array GenState}{d:Drawn}{t:Nat}{os:OsState}
def Zgw{oI:Obj}{rest:List Value}{Q:Jfj->Ca->Prop}(x:ExcI h C fI)(fo:h.get? fI=some oI)(fc:oI.cls=.type "function")(sz:rest.length<=sizeLine)(k:∀h',Jes h h' (h.objs.size+1) (.ref C) rest->Cc (Ch prog w) A (call (.ref fI) (.ref (h.objs.size+1)::rest)) (λr s'=>r=.none/\Q (.done (.ret (.ref (h.objs.size+1)))) s') E ⟨h',g,d,t,os⟩) :
  Cc (Ch prog w) A (Builtin.«type.__call__» ⟨.ref C::rest,[]⟩) Q E ⟨h,g,d,t,os⟩:=by
 let⟨bm,N,nm,q,bs,sn,sub,ab,col,dd,k0,k1,k2,k3,k5,mN,cO,cN,cI,T⟩:=x;let F:=PySem.F.excBase_ValueError
 repeat (first|wp_step|with_reducible refine C8 cO ?_|with_reducible refine wpAny_madeBy_exc cO ?_)
 refine codeAny_call_builtin_code (Ko _ F.quiet) (wpAny_check_new_subT F T cO ?_);refine codeAny_exc_new_subT F T cO ?_ sz;show Cc _ _ _ _ _ _;generalize hO1:({cls:=.type "tuple",data:=.seq rest.toArray}:Obj)=o1;generalize hO2:({cls:=.ref C,data:=.fields #[.ref h.objs.size,.none,.none,.none,.bool false,.none]}:Obj)=o2;let kp:∀b o,h.get? b=some o->((h.push o1).push o2).get? b=some o:=λb o e=>F9 _ (F9 _ e);let f1:o1.isFreed=false:=by rw[<-hO1];rfl
 let f2:o2.isFreed=false:=by rw[<-hO2];rfl
 let at2:((h.push o1).push o2).get? (h.objs.size+1)=some o2:=by
  let:=Da (h.push o1) f2;rwa [Hj]at this
 let c2:o2.cls=.ref C:=by rw[<-hO2]
 let self:(Cg C::bm).contains (.ref C)=true:=by simp
 let cO1:=kp _ _ cO;let cN1:=cN.keeps kp;let T1:=T.keeps kp;unfold Jgb
 repeat (first|(with_reducible refine C8 at2 ?_;rw[c2])|(with_reducible refine Je1 cO1 ?_;rw[self])|wp_step)
 show Cc _ _ (Jeh (.ref C) _) _ _ _;refine wpAny_typeLookup_tail cO1 cN1 T1 F.mroIs F.init.lookup ?_;rw[cI];refine C9 (F7 ?_);unfold bindSpecial;refine F7 (Kg (T:="function") ⟨_,kp _ _ fo,fc⟩ ?_);rw[De nofun];let made:Jes h ((h.push o1).push o2) (h.objs.size+1) (.ref C) rest:=⟨kp,Lk (Bw _),h.objs.size,by rw[at2,<-hO2],Lk (Jd _),by rw[hO1];exact F9 _ (Da h f1)⟩;refine F8 (F7 (Dj (k _ made) (λr s' hr=>?_) λ_ _ z=>z));let⟨rfl,hQ⟩:=hr
 wp_walk
 exact hQ
def Zml{oI:Obj}{rest:List Value}{Q:Value->Ca->Prop}(x:ExcI h C fI)(fo:h.get? fI=some oI)(fc:oI.cls=.type "function")(sz:rest.length<=sizeLine)(k:∀h',Jes h h' (h.objs.size+1) (.ref C) rest->Cc (Ch prog w) (A.under (.builtin "type.__call__" ⟨.ref C::rest,[]⟩)) (call (.ref fI) (.ref (h.objs.size+1)::rest)) (λr s'=>r=.none/\Q (.ref (h.objs.size+1)) s') E ⟨h',g,d,t,os⟩) :
  Cc (Ch prog w) A (call (.ref C) rest) Q E ⟨h,g,d,t,os⟩:=by
 let⟨bm,N,nm,q,bs,sn,sub,ab,col,dd,k0,k1,k2,k3,k5,mN,cO,cN,cI,T⟩:=id x;let z1:=tc_lookup;let z2:=tc_bind (.ref C);let ty:(⟨h,g,d,t,os⟩:Ca).TypeIs (.ref C) "type":=⟨_,cO,rfl⟩;refine Lp (Jhs ?_);show Cc _ _ (callAny (.ref C) _) _ _ _
 repeat (any_goals (first|assumption|wp_step|with_reducible refine C8 cO ?_))
 exists rfl,?_;exact codeAny_call_builtin_at (Ko _ (by decide +kernel)) entry_typeCall (wpAny_check_type_call_sub cO (Zgw x fo fc sz k))
end
end L2
namespace L2
open PySem PySem.Spec PyProof.Rows PySem.W PySem.Builtin PySem.Builtin.ObjectAttr
def Zhs(self:Value):refuseLoop self "__setattr__" veB=pure ⟨⟩:=by kernel_rfl
theorem Zcm(self:Value){bm:List Value}(T:OwnTail h veB bm):refuseLoop self "__setattr__" bm=pure ⟨⟩:=by
 induction T with
 |base=>exact Zhs self
 |own _ _ _ _ ih=>rw[refuseLoop_ref];exact ih
section
variable{w:C0}{K:Frag}{a:Addr}
def Zia{od:Option Obj}{tk:Tok}{v:Value}{R:Jhh->Ca->Prop}(X:K.In s.heap)(q:excI K C fI=true)(I:InstAt s.heap a ox C od)(ho:Ey K C (.type "object")=some true)(ht:C1 K (.ref C) name=some none)(k:Cc (Ch prog w) A.in1 (storeInOwnDict (.ref a) (.ref C) (.str name tk) name v false) (λfin s'=>match fin with|.done f=>R (.ok f) s'|.again c'=>c'.quiet=true/\Hz (Ch prog w) A c' R s') (λe s'=>R (.error e) s') s) :
  Hz (Ch prog w) A (.call (.builtin "object.__setattr__") ⟨[.ref a,.str name tk,v],[]⟩) R s:=by
 let SF:=PySem.F.store_object;let sub:Looks (Ch prog w) s.heap (Jgb (.ref a) (.type "object")) true:=I.type.andThen (Ke X ho);refine Jen SF.slot.plain SF.entry (@check_slot (Ch prog w) _ _ s "object.__setattr__" "object" "__setattr__" (.ref a) [.str name tk,v] [] _ SF.kind SF.split sub (SF.args (.ref a) (.str name tk) v) ?_);let⟨bm,N,nm,qn,bs,sn,sub',ab,col,dd,k0,k1,k2,k3,k5,mN,cO,cN,cI,T⟩:=Q0 X q;rw[osa_eq,refuse_eq];refine F7 (F7 (I.type.here (F7 ?_)));let⟨hh,g,d,t,os⟩:=s;refine wpAny_mroOf_exc cO ?_;rw[refuseLoop_ref,Zcm _ T];refine F8 (F7 (I.type.here (F7 ((Jgr X ht).here (F7 ?_)))))
 show Cc _ _ (pure none) _ _ _;refine F8 ?_;exact k
theorem Zlk{vs:Array Value}{v:Value}{Q:Unit->Ca->Prop}(X:K.In s.heap)(q:excI K C fI=true)(ho:Ey K C (.type "object")=some true)(ht:C1 K (.ref C) name=some none)(hs:C1 K (.ref C) "__setattr__"=some (some (.builtin "object.__setattr__")))(ao:s.heap.get? a=some ox)(cl:ox.cls=.ref C)(dn:ox.dict=none)(od:ox.data=.fields vs)(k:∀h',h'.Ns1 s.heap.objs.size (λy=>if y=name then some v else none)->h'.get? a=some {ox with dict:=some s.heap.objs.size}->(∀b o,b≠a->s.heap.get? b=some o->h'.get? b=some o)->Q ⟨⟩ {s with heap:=h',toks:=s.toks+2}) :
  Cc (Ch prog w) A (Jj5 (.ref a) name v) Q E s:=by
 let I:InstAt s.heap a ox C none:=⟨ao,cl,by let⟨c,dd,dt,sl⟩:=ox;cases od;rfl,by rw[dn];trivial⟩;refine Jhg X I hs (Zia (s:={s with toks:=s.toks+1}) X q I ho ht ?_);let⟨bm,N,nm,qn,bs,sn,sub',ab,col,dd,k0,k1,k2,k3,k5,mN,cO,cN,cI,T⟩:=Q0 X q;let⟨c,di,dt,sl⟩:=ox;dsimp only at cl dn od;subst cl dn od;refine F7 (F8 (F7 (F7 (wpAny_loadPart ao (F7 ?_)))));unfold classData;refine F7 (Jfy cO (F8 ?_));show Cc _ _ (alloc {cls:=.type "dict",data:=.dict #[]} >>= λd=>update a (λo=>{o with dict:=some d}) >>= λ_=>dictMade (.ref C) a d) _ _ _;refine F7 (wpAny_alloc ?_)
 let ao2:(s.heap.push {cls:=.type "dict",data:=.dict #[]}).get? a=some _:=F9 _ ao;refine F7 (wpAny_update ao2 ?_);refine F8 ?_;refine F7 (F8 (F7 ?_));let fz:(s.heap.push {cls:=.type "dict",data:=.dict #[]}).objs.size=s.heap.objs.size+1:=Hj ..;let ne:a≠s.heap.objs.size:=Gi (Db ao);generalize hU:(s.heap.push {cls:=.type "dict",data:=.dict #[]}).update a (λo=>{o with dict:=some s.heap.objs.size})=hp;let aU:hp.get? a=some {cls:=.ref C,dict:=some s.heap.objs.size,data:=.fields vs,slots:=sl}:=by
  rw[<-hU];exact Er _ ao2 rfl
 let oU:∀b o,b≠a->(s.heap.push {cls:=.type "dict",data:=.dict #[]}).get? b=some o->hp.get? b=some o:=λb o hb e=>by
  rw[<-hU,Ct _ _ (Cw hb)];exact e
 let dU:hp.get? s.heap.objs.size=some {cls:=.type "dict",data:=.dict #[]}:=oU _ _ (Cw ne) (Da s.heap rfl);let hn0:hp.Ns1 s.heap.objs.size (λ_=>none):=⟨_,#[],_,dU,rfl,(λe he=>absurd he (by simp)),by first|trivial|exact Jf5|(intro x;simp),λ_=>rfl⟩;let w0:Ho (λ_:Str=>(none:Option Value)) []:=λn hn=>absurd rfl hn;refine Jgk (s:={s with heap:=hp,toks:=s.toks+1}) hn0 λh' hn2 hs2=>?_;let⟨oD,esD,epD,hoD,hdD,hcD⟩:=hn2.count (Ja0 name v w0);refine F7 (Jdq hoD (by rw[hdD];exact Jdr (J8 hcD (by show 1<=sizeLine+1;lia))) ?_)
 exact F8 (k h' hn2 ((hs2.2 _ ne).trans aU) λb o hb e=>(hs2.2 b (λz=>by
  rw[z]at e;exact absurd (Db e) (Bl _))).trans (oU b o hb (F9 _ e)))
theorem Zlj{vs:Array Value}{v:Value}{ns:List Str}{Q:Unit->Ca->Prop}(X:K.In s.heap)(q:excI K C fI=true)(ho:Ey K C (.type "object")=some true)(ht:C1 K (.ref C) name=some none)(hs:C1 K (.ref C) "__setattr__"=some (some (.builtin "object.__setattr__")))(ao:s.heap.get? a=some ox)(cl:ox.cls=.ref C)(dn:ox.dict=some dx)(od:ox.data=.fields vs)(hn:s.heap.Ns1 dx mA)(ne:dx≠a)(hw:Ho mA ns)(sz:ns.length<=1000)(k:∀h',h'.Ns1 dx (λy=>if y=name then some v else mA y)->Hf dx s.heap h'->Q ⟨⟩ {s with heap:=h',toks:=s.toks+2}) :
  Cc (Ch prog w) A (Jj5 (.ref a) name v) Q E s:=by
 let⟨odx,_,_,edx,_⟩:=id hn;let I:InstAt s.heap a ox C (some odx):=⟨ao,cl,by let⟨c,dd,dt,sl⟩:=ox;cases od;rfl,by rw[dn];exact edx⟩;refine Jhg X I hs (Zia (s:={s with toks:=s.toks+1}) X q I ho ht ?_);let⟨bm,N,nm,qn,bs,sn,sub',ab,col,dd,k0,k1,k2,k3,k5,mN,cO,cN,cI,T⟩:=Q0 X q;let⟨c,di,dt,sl⟩:=ox;dsimp only at cl dn od;subst cl dn od;refine F7 (F8 (F7 (F7 (wpAny_loadPart ao (F7 ?_)))));unfold classData;refine F7 (Jfy cO (F8 ?_));refine F8 (a:=some dx) (F7 (F8 (F7 ?_)));refine Jgk (s:={s with toks:=s.toks+1}) hn λh' hn2 hs2=>?_;let⟨oD,esD,epD,hoD,hdD,hcD⟩:=hn2.count (Ja0 name v hw)
 refine F7 (Jdq hoD (by rw[hdD];exact Jdr (J8 hcD (by rw[Jz,Eg];lia))) ?_);exact F8 (k h' hn2 hs2)
end
section
variable{w:C0}{K:Frag}{a:Addr}
def Zqa{expr:Bool}{vs:Array Value}{v:Value}{Q:Value->Ca->Prop}(X:K.In s.heap)(hh:hasDictIn K C=true)(hb:Ey K C (.type "BaseException")=some true)(g1:C1 K (.ref C) "__getattribute__"=some (some (.builtin "BaseException.__getattribute__")))(g2:C1 K (.ref C) "__getattr__"=some none)(ht:C1 K (.ref C) name=some none)(ao:s.heap.get? a=some ox)(cl:ox.cls=.ref C)(dn:ox.dict=some dx)(od:ox.data=.fields vs)(hn:s.heap.Ns1 dx mA)(hv:mA name=some v)(hv':handedIn v=true)(k:Q v {s with toks:=s.toks+1}) :
  Cc (Ch prog w) A (Ji7 (.ref a) name expr) Q E s:=by
 let⟨odx,eo,hl⟩:=Za7 hn;let I:InstAt s.heap a ox C (some odx):=⟨ao,cl,by let⟨c,dd,dt,sl⟩:=ox;cases od;rfl,by rw[dn];exact eo⟩;let L0:=I.type (M:=Ch prog w);let L1:=Jgr (M:=Ch prog w) X g1;let L2:=Jgr (M:=Ch prog w) X g2;let L3:=looks_find (M:=Ch prog w) X I (findObj_own hh ht rfl (by rw[hl,hv]));let L4:Looks (Ch prog w) s.heap (Jgb (.ref a) (.type "BaseException")) true:=I.type.andThen (Ke X hb);let⟨hp,g,d,t,os⟩:=s;unfold Ji7 Jju;refine F7 (wpAny_mkText (C9 (F7 (L0.at (F7 (L1.at ?_))))));show Cc _ _ (Jht (.ref a) (.str name t) (.ref C) (.builtin "BaseException.__getattribute__") true expr) _ _ _
 unfold Jht hookBefore;rw[De (show onTheHeap (Cg C)=true from rfl)];refine F7 (L2.at (F7 (Jfl (C9 ?_))));unfold callGetattribute;rw[Dd (show ¬ ((expr&&onTheHeap (Jc9 "BaseException.__getattribute__"))=true)by cases expr<;>exact Jr)];unfold boundAndCalled;let ga:=PySem.F.attrBase_ValueError.ga;rw[ga.bind];refine F7 (F8 ?_);show Cc _ _ (call (Jc9 "BaseException.__getattribute__") [.ref a,.str name t]) _ _ _;refine Lp (Jen ga.plain F.entry_bexc_ga ?_);let hk:builtinKind "BaseException.__getattribute__"=some .slot:=by decide +kernel
 let hsp:splitId "BaseException.__getattribute__"=some ("BaseException","__getattribute__"):=by decide +kernel
 refine @check_slot (Ch prog w) _ _ _ "BaseException.__getattribute__" "BaseException" "__getattribute__" (.ref a) [.str name t] [] _ hk hsp L4 (F.args_bexc_ga (.ref a) (.str name t)) ?_;unfold Builtin.«object.__getattribute__»;refine F7 (F8 (F7 (F8 (F7 (L0.at (F7 (L3.at ?_)))))));refine F8 ?_;show Cc _ _ (handedOut v) _ _ _;rw[handedOut_of hv'];exact F8 k
end
end L2
namespace L2
open PySem PySem.Spec PyProof.Rows PySem.W
structure XCl(K:Frag)(C fI:Addr):Prop where
 ei:excI K C fI=true
 ob:Ey K C (.type "object")=some true
 bx:Ey K C (.type "BaseException")=some true
 sa:C1 K (.ref C) "__setattr__"=some (some (.builtin "object.__setattr__"))
 ga:C1 K (.ref C) "__getattribute__"=some (some (.builtin "BaseException.__getattribute__"))
 gt:C1 K (.ref C) "__getattr__"=some none
 hd:hasDictIn K C=true
 kp:keepIn K (.ref C)=true
 fn:Jiz K (.ref fI)=some (.type "function")
 cc:C1 K (.ref C) "__class__"=some (some (.builtin "object.__class__"))
 cg:specialIn K (.builtin "object.__class__") "__get__"=some (some (.builtin "getset_descriptor.__get__"))
 ct:takesIn K (.builtin "object.__class__")=some true
def excN(ea C:Addr)(d:Option Addr)(h:Heap):Prop:=∃oe vs,h.get? ea=some oe/\oe.cls=.ref C/\oe.dict=d/\oe.data=.fields vs/\vs.size=6/\vs[1]?=some .none
def excN.ok{w:C0}{d:Option Addr}(x:excN ea C d h):Y5 P w H h ea (.ext (excN ea C d)):=by
 let⟨oe,vs,e,r⟩:=id x;exists x,⟨oe,e⟩,λh1 h2⟨o1,v1,e1,r1⟩k=>⟨o1,v1,k _ e1,r1⟩
def xdP(d:Addr)(fs:List (Str×V))(h:Heap):Prop:=∃mA,h.Ns1 d mA/\(∀f,RelO (fs.lookup f) (mA f))/\Ho mA (fs.map (·.1))
def xdP.ok{w:C0}{d:Addr}{fs:List (Str×V)}(x:xdP d fs h):Y5 P w H h d (.ext (xdP d fs)):=by
 let⟨mA,⟨o,es,ep,e,r⟩,q⟩:=id x;exists x,⟨o,e⟩,λh1 h2⟨m1,n1,q1⟩k=>⟨m1,n1.at k,q1⟩
section
def Inv.two{d:Addr}{φ ψ o1:HO}(I:Inv X pq σ H s)(hea:H ea=some φ)(mu:Mut (some φ))(hd:s.heap.objs.size<=d)(k:∀b o,b≠ea->s.heap.get? b=some o->h'.get? b=some o)(te:∃o,h'.get? ea=some o)(n1:∀H2,Y5 X.prog X.w H2 h' ea o1)(n2:∀H2,Y5 X.prog X.w H2 h' d ψ):Inv X pq σ (upd (upd H ea o1) d ψ) {s with heap:=h',toks:=t'}:=by
 let nd:H d=none:=I.hok.fresh hd;let ed:d≠ea:=λz=>by rw[z,hea]at nd;cases nd
 let ld:∀b o,s.heap.get? b=some o->b≠d:=λb o q z=>by rw[z]at q;exact absurd (Db q) (Nat.not_lt.mpr hd)
 let at':∀b u,b≠ea->H b=some u->upd (upd H ea o1) d ψ b=some u:=λb u h1 e=>by rw[Zn (λz=>by rw[z,nd]at e;cases e),Zn h1];exact e
 let own:∀c y,H c=some (.own y)->c≠ea:=λc y e z=>by rw[z,hea]at e;cases e;exact mu
 let tup:∀c y,H c=some (.tup y)->c≠ea:=λc y e z=>by rw[z,hea]at e;cases e;exact mu
 let frz:∀c y u,H c=some (.frz y u)->c≠ea:=λc y u e z=>by rw[z,hea]at e;cases e;exact mu
 let tbl:∀c y,H c=some (.tbl y)->c≠ea:=λc y e z=>by rw[z,hea]at e;cases e;exact mu
 refine I.un ⟨λb o q n _ _=>?_,λb o q n _ _=>?_,λb o q n _=>?_,λb o q _=>?_,λb xs e=>at' _ _ (tup _ _ e) e,λb o u e=>at' _ _ (frz _ _ _ e) e,λb ps e=>⟨#[],by rw[at' _ _ (tbl _ _ e) e];simp⟩⟩ (λb o q=>?_)
 .exact k b o (λz=>by rw[z,hea]at n;cases n) q
 .exists o.slots,k b o (λz=>by rw[z,hea]at n;cases n) q
 .rw[Zn (ld b o q),Zn (λz=>by rw[z,hea]at n;cases n)];exact n
 .by_cases z:b=ea
  .rw[z];exact te
  .exists o,k b o z q
 .by_cases z:b=d
  .subst z;rw[Zg]at q;cases q;exact n2 _
  .rw[Zn z]at q
   by_cases z2:b=ea
   .subst z2;rw[Zg]at q;cases q;exact n1 _
   .rw[Zn z2]at q;refine(I.hok b o q).stay (λc v hc r=>?_) (λc e=>at' _ _ (own _ _ e) e) λc xs e=>at' _ _ (tup _ _ e) e;rcases hc with hc|hc
    .rw[hc]at r⊢;exact k b v z2 r
    .exact k c v (own _ _ hc) r
end
def Zv2(K:Frag)(ta tv:TE)(f:Str):TS:=λD σ H=>tv σ H λy H1=>ta σ H1 λx H2=>∃ea C fI,x=.ref ea/\XCl K C fI/\C1 K (.ref C) f=some none /\
  ((H2 ea=some (.ext (excN ea C none))/\∀d,H2 d=none->d≠ea->D.nx σ (upd (upd H2 ea (.ext (excN ea C (some d)))) d (.ext (xdP d [(f,y)])))) \/
   ∃d fs,H2 ea=some (.ext (excN ea C (some d)))/\H2 d=some (.ext (xdP d fs))/\fs.length<1000/\D.nx σ (upd H2 d (.ext (xdP d (putF f y fs)))))
def Zom(K:Frag)(ta:TE)(f:Str):TE:=λσ H Q=>ta σ H λx H1=>∃ea C fI d fs v,x=.ref ea/\XCl K C fI/\C1 K (.ref C) f=some none/\H1 ea=some (.ext (excP ea C (some d)))/\H1 d=some (.ext (xdP d fs))/\fs.lookup f=some v/\Q v H1
section
variable{o:Expr}{f:Str}{tv:TE}
def Zef{fs:List (Str×V)}{f:Str}{y:V}{u:Value}(r:∀g,RelO (fs.lookup g) (mA g))(ry:RelV y u)(g:Str):RelO ((putF f y fs).lookup g) (if g=f then some u else mA g):=by
 rw[Ta]
 by_cases q:g=f
 .rw[De q,De q];exact ry
 .rw[Dd q,Dd q];exact r g
def Pp{fs:List (Str×V)}{f:Str}{y:V}{u:Value}(wi:Ho mA (fs.map (·.1))):Ho (λg=>if g=f then some u else mA g) ((putF f y fs).map (·.1)):=λg hg=>by
 by_cases q:g=f
 .rw[q];exact(Ub f y fs).1
 .refine(Ub f y fs).2 g (wi g λz=>hg ?_);show(if g=f then some u else mA g)=none;rw[Dd q];exact z
theorem Zcr(ha:PE X o ta)(hv:PE X value tv)(hs:Mx value (some (.Attribute o f pos')) pos.line X.env=pure false):PS X (.Assign [.Attribute o f pos'] value pos) (Zv2 X.K ta tv f):=by
 intro pq s σ H D I h;refine Kw (thn (hv pq s σ H _ I h) λu s1⟨y,H1,I1,ry,q⟩=>thn (ha pq s1 σ H1 _ I1 q) λov s2 hz=>?_) hs;let⟨x,H2,I2,rx,ea,C,fI,ex,xc,hf,q2⟩:=hz;subst ex;obtain rfl:ov=Cg ea:=rx;rcases q2 with⟨hea,q2⟩|⟨d,fs,hea,hd,hl,q2⟩
 .let⟨⟨oe,vs,e1,e2,e3,e4,e5,e6⟩,_,_⟩:=I2.hok ea _ hea;refine Zlk I2.kIn xc.ei xc.ob hf xc.sa e1 e2 e3 e4 λh' hn ha' hk=>?_;let nd:=I2.hok.fresh (Jd s2.heap.objs.size);refine⟨σ,_,I2.two (d:=s2.heap.objs.size) (ψ:=.ext (xdP s2.heap.objs.size [(f,y)])) (o1:=.ext (excN ea C (some s2.heap.objs.size))) hea Eo (Jd _) hk ⟨_,ha'⟩ (λ_=>excN.ok ⟨_,vs,ha',e2,rfl,e4,e5,e6⟩) (λ_=>xdP.ok ⟨_,hn,Zef (fs:=[]) (λ_=>Eo) ry,Pp (fs:=[]) (y:=y) λg hg=>absurd rfl hg⟩),q2 _ nd λz=>by rw[z,hea]at nd;cases nd⟩
 .let⟨⟨oe,vs,e1,e2,e3,e4,e5,e6⟩,_,_⟩:=I2.hok ea _ hea;let⟨⟨mA,n1,r1,w1⟩,_,_⟩:=I2.hok d _ hd;let ne:d≠ea:=λz=>by
   rw[z]at n1;let⟨o',_,_,a1,a2,_⟩:=n1;rw[e1]at a1;cases a1;rw[e4]at a2;cases a2
  refine Zlj I2.kIn xc.ei xc.ob hf xc.sa e1 e2 e3 e4 n1 ne w1 (by rw[Ja];lia) λh' hn sb=>?_;let⟨od',_,_,ed',_⟩:=id hn;exists σ,_,I2.write (x:=d) (e:=d) (by rw[hd];exact Eo) (.inl rfl) (λb u hb e=>(sb.2 b hb).trans e) ⟨od',ed'⟩ (xdP.ok ⟨_,hn,Zef r1 ry,Pp w1⟩),q2
def Zpi(ha:PE X o ta)(hb:Kj o f X.env (eval o X.env)=eval o X.env):PE X (.Attribute o f pos) (Zom X.K ta f):=by
 intro pq s σ H Q I h;refine Zko hb (thn (ha pq s σ H _ I h) λu s1 hz=>?_);let⟨x,H1,I1,rx,ea,C,fI,d,fs,v,ex,xc,hf,hea,hd,l,q⟩:=hz;subst ex;obtain rfl:u=Cg ea:=rx;let⟨⟨oe,vs,e1,e2,e3,e4,e5⟩,_,_⟩:=I1.hok ea _ hea;let⟨⟨mA,n1,r1,w1⟩,_,_⟩:=I1.hok d _ hd;let⟨u',hu,ru⟩:=RelO.some_of (v:=v) (o:=mA f) (by rw[<-l];exact r1 f);exact Zqa I1.kIn xc.hd xc.bx xc.ga xc.gt hf e1 e2 e3 e4 n1 hu (Zbi ru) ⟨v,H1,I1.tok _,ru,q⟩
end
def Rx(P:Ew)(w:C0)(K:Frag)(mg:Str->Option Value)(base:Heap)(x:Str)(C:Addr)(k:Nat)(ps:List Str)(sp:Sp):Prop :=
 ∃fI fd,XCl K C fI/\Qu K C=some (some (.ref fI))/\FnOk P w K mg base CX0 k fI fd ps sp/\mg x=some (.ref C)/\Vt K fd ps []
section
variable{k:Nat} 
theorem Zo3{R:Addr->Hp->Prop}(xc:XCl X.K C fI)(xi:Qu X.K C=some (some (.ref fI)))(F:FnOk X.prog X.w X.K X.mg X.base CX0 k fI fd ps sp)(hr:Room (k+1) X.A)(hb:Vt X.K fd ps [])(I:Inv X pq σ H s)(r:Vals vs us)(sz:us.length<=sizeLine)(h:∀ea,H ea=none->sp (.ref ea::vs) (upd H ea (.ext (excN ea C none))) (λv H2=>v=.non/\R ea H2) E0) :
  Cc (Ch X.prog X.w) X.A (call (.ref C) us) (λu s'=>∃ea H2,u=.ref ea/\Inv X pq σ H2 s'/\s.heap.objs.size<=ea/\R ea H2) X.xe s:=by
 let hq:=h (s.heap.objs.size+1) (I.hok.fresh (Bw _));obtain⟨oI,lI,tI⟩:∃o,X.K.lookup fI=some o/\o.cls=.type "function":=by
  let z:Jkp (λx=>x.cls) (X.K.lookup fI)=some (.type "function"):=xc.fn;let⟨o,e,c⟩:=Option.map_eq_some_iff.mp z;exists o,e,c
 let fo:=I.kIn _ _ lI;let⟨hp,g,d,t,os⟩:=s;refine Zml (Zqe I.kIn xc.ei xi) fo tI sz λh' hm=>?_;let⟨tt,h1,h2,h3⟩:=hm.there;let I2:Inv X pq σ (upd H (hp.objs.size+1) (.ext (excN (hp.objs.size+1) C none))) ⟨h',g,d,t,os⟩:=I.laid (a:=hp.objs.size+1) (h':=h') (t':=t) hm.keeps (Bw _) (excN.ok ⟨_,_,h1,rfl,rfl,rfl,rfl,rfl⟩);let r2:Vals (V.ref (hp.objs.size+1)::vs) (Cg (hp.objs.size+1)::us):=.cons rfl r;let hl:(Cg (hp.objs.size+1)::us++[]).length=ps.length:=by
  let e:=r2.length;rw[F.len _ _ _ _ hq]at e;rw[Gh];exact e.symm
 let bb:=hb ⟨h',g,d,t,os⟩ (Cg (hp.objs.size+1)::us) I2.kIn hl;rw[Gh]at bb;refine Lp (Kf (F.run _ X.stack _ _ ⟨Cg (hp.objs.size+1)::us,[]⟩ (Cg (hp.objs.size+1)::us) _ _ E0 (hr.make C us []) (I2.env0.make C us []) bb r2 hq) λr s' hq'=>?_);cases r with
 |error e=>exact Cq hq'
 |ok fl =>
  cases fl with
  |ret u =>
   let⟨v,H',I3,rv,hv,q⟩:=I2.after hq';subst hv;obtain rfl:u=Value.none:=rv;exists rfl,_,H',rfl,I3,Bw _,q
  |next=>exact Cq hq'
  |brk=>exact Cq hq'
  |cont=>exact Cq hq'
end
section
variable{M:Ji1}{Ex:Value->Ca->Prop}{env:Env}
def Zfp{x:Sem Value}{Q:Flow->Ca->Prop}{oi:Option (Option Value)}(hh:A.handled=none)(h:Cc M A x (λv s1=>∃e oe vs,v=.ref e/\ExcA s1.heap C oi/\s1.heap.get? e=some oe/\oe.cls=.ref C/\oe.data=.fields vs/\vs[1]?=some .none/\Ex (.ref e) s1) Ex s) :
  Cc M A (raiseStmt env (some x) none) Q Ex s:=by
 unfold raiseStmt;refine F7 (Dj h (λv s1 h1=>?_) λ_ _ z=>z);let⟨e,oe,vs,rfl,⟨bm,N,nm,q,bs,sn,sub,ab,col,dd,k0,k1,k2,k3,k5,mN,cO,cN,cI,T⟩,he,hc,hd,v1,hE⟩:=h1;let hB:(Cg C::bm).contains (.type "BaseException")=true:=by rw[List.contains_cons,T.hasType PySem.F.excBase_ValueError.hasBase,Bool.or_true]
 let⟨hp,g,d,tk,os⟩:=s1
 repeat (first|(with_reducible refine C8 he ?_;rw[hc])|with_reducible refine Kx he hd v1 ?_|with_reducible refine C8 cO ?_|(with_reducible refine Je1 cO ?_;rw[hB])|wp_step)
 exact wpAny_raiseNew_none hh hE
end
def Zmv(C:Addr)(sp:Sp)(E:XK)(t:TA):TS:=λ_ σ H=>t σ H λvs H1=>vs.length<=10/\∀ea,H1 ea=none->sp (.ref ea::vs) (upd H1 ea (.ext (excN ea C none))) (λv H2=>v=.non/\∃d,H2 ea=some (.ext (excN ea C (some d)))/\E (.ref C) (some d) (upd H2 ea (.ext (excP ea C (some d))))) E0
section
variable{w:C0}{K:Frag}{base:Heap}{scope:Scope}{f:Addr}{cd:Value}{outer:List Env}{E:XK}
def Nk{k:Nat}{x:Str}{np cpos:Pos}{e:Expr}{t:TA}(R:Rx P w K mg base x C k ps sp)(hr:Room (k+1) (cxE P w K mg base N qual scope f cd A outer s H E).A)(hg:Gl (cxE P w K mg base N qual scope f cd A outer s H E) x)(ha:PA (cxE P w K mg base N qual scope f cd A outer s H E) (e::es) t)(hdb:(x==("__debug__":Str))=false:=by decide)(he:Ci (e::es) (cxE P w K mg base N qual scope f cd A outer s H E).env=(false,eval e (cxE P w K mg base N qual scope f cd A outer s H E).env)::Ci es (cxE P w K mg base N qual scope f cd A outer s H E).env:=by rfl)(hpl:(Hy cpos (Ci es (cxE P w K mg base N qual scope f cd A outer s H E).env)).any (·.1)=false:=by rfl) :
  PS (cxE P w K mg base N qual scope f cd A outer s H E) (.Raise (some (.Call (.Name x np) (e::es) [] cpos)) none pos) (Zmv C sp E t):=by
 intro pq s1 σ H1 D I h;let⟨fI,fd,xc,xi,F,hm,hb⟩:=R;rw[arm_exec_Raise];refine F7 (Hw (Zfp (C:=C) (oi:=Qu K C) (I.ok.hd rfl) ?_));refine F7 (Dj ?_ (λv s3 h3=>F7 (Hw (F8 h3))) λ_ _ z=>z);refine Em (Ua I hg hm ?_ hdb);refine Mj (h₀:=base) I.ok.mod.kin xc.kp (thn (ha cpos pq s1 σ H1 _ I h) λus s2⟨vs,H2,I2,r,l10,q⟩=>⟨I2.kIn,?_⟩) he hpl;refine Dj (Zo3 (R:=λea H2=>∃d,H2 ea=some (.ext (excN ea C (some d)))/\E (.ref C) (some d) (upd H2 ea (.ext (excP ea C (some d))))) xc xi F hr hb I2 r (by show us.length<=sizeLine;rw[<-r.length];exact J8 l10 nofun) q) (λu s3 hu=>?_) λ_ _ z=>z
 let⟨ea,H3,rfl,I3,lea,d,hea,qE⟩:=hu;let⟨⟨oe,ws,e1,e2,e3,e4,e5,e6⟩,_,_⟩:=I3.hok ea _ hea;exists ea,oe,ws,rfl,Q0 I3.kIn xc.ei,e1,e2,e4,e6,?_;let I4:Inv (cxE P w K mg base N qual scope f cd A outer s H E) pq σ (upd H3 ea (.ext (excP ea C (some d)))) {s3 with heap:=s3.heap,toks:=s3.toks}:=I3.write (x:=ea) (e:=ea) (by rw[hea];exact Eo) (.inl rfl) (λb u _ z=>z) ⟨_,e1⟩ (excP.ok ⟨oe,ws,e1,e2,e3,e4,e5⟩);exact Zu2 (T0:=none) I4 Zg (J8 I2.sz lea) (λT z=>by cases z) ⟨oe,ws,e1,e4,e6⟩ qE
end
section
def Zn3(X:Cx)(pq:List (Addr×Obj))(σ:St)(Ex:XK)(e:Value)(s':Ca):Prop:=∃(ea C T:Addr)(d:Option Addr)(H':Hp),e=.ref ea/\Inv X pq σ H' s'/\H' ea=some (.ext (excP ea C d))/\Zdu ea T s'.heap/\FpOk X pq H' T/\Ex (.ref C) d H'
def Uh(CX:CXT)(X:Cx)(pq:List (Addr×Obj))(σ:St)(E:XK):Prop:=∀(H:Hp)(s:Ca)(e:Value)(s':Ca),Inv X pq σ H s->CX X.stack H s E e s'->X.xe e s'
def Zv8{Ex:XK}:Uh (CXE X.prog X.w) (X.wish (Zn3 X pq σ Ex)) pq σ Ex:=by
 intro H s e s' I hx;let⟨ea,C,T,d,H2,rfl,os,bare,un,hok,hea,lea,nT,lT,fl,q⟩:=hx;let I':=I.unwish;let I2:Inv X pq σ H2 s':=I'.call' os un hok bare (ch:=[]) λb z=>absurd z (by simp);exists ea,C,T,d,H2,rfl,I2,hea,fl,I'.fpOk lT nT,q
def Inv.noted{d:Option Addr}{vs:Array Value}(I:Inv X pq σ H s)(hea:H ea=some (.ext (excP ea C d)))(eo:s.heap.get? ea=some oe)(od:oe.data=.fields vs)(hT:∀T,T0=some T->FpOk X pq H T)(g:Gone (frs X.stack) ea T0 oe vs s.heap h'):Inv X pq σ H {s with heap:=h'}:=by
 let nfr:∀c y,H c=some y->c∉frs X.stack:=λc y r z=>by rw[I.stkFree c z]at r;cases r
 let nT:∀c y,H c=some y->some c≠T0:=λc y r z=>by rw[(hT c z.symm).1]at r;cases r
 let hok:HOk X.prog X.w H h':=λb o q=>by
  by_cases ne:b=ea
  .subst ne;rw[hea]at q;cases q;let⟨⟨o1,v1,a1,a2,a3,a4,a5⟩,_,_⟩:=I.hok b _ hea;let⟨T,vs',ob,ts,_,e3,e4,_⟩:=g.flow;rw[eo]at a1;cases a1;rw[od]at a4;cases a4;exact excP.ok ⟨_,vs',e3,a2,a3,rfl,by rw[e4];exact a5⟩
  .refine(I.hok b o q).stay (λc v hc r=>?_) (λ_ z=>z) λ_ _ z=>z;rcases hc with hc|hc
   .rw[hc]at r⊢;exact g.keep b v (nfr b o q) ne (nT b o q) r
   .let ne2:c≠ea:=λz=>by rw[z,hea]at hc;cases hc
    exact g.keep c v (nfr c _ hc) ne2 (nT c _ hc) r
 let un:Un (frs X.stack) T0.toList H H s.heap h':=by
  let tl:∀b,b∉T0.toList->some b≠T0:=λb hb z=>hb (by rw[<-z];simp);exists λb o q n hb hx=>?_,λb o q n hb hx=>?_,λb o q n _=>n,λb o q hx=>?_,λ_ _ e=>e,λ_ _ _ e=>e,λb ps e=>⟨#[],by rw[e];simp⟩
  .exact g.keep b o hb (λz=>by rw[z,hea]at n;cases n) (tl b hx) q
  .exact g.slot b o (λz=>by rw[z,hea]at n;cases n) (tl b hx) q
  .by_cases ne:b=ea
   .let⟨_,_,_,_,_,e3,_⟩:=g.flow;exact⟨_,by rw[ne];exact e3⟩
   .let⟨sl,e2⟩:=g.slot b o ne (tl b hx) q;exists _,e2
 let:=I.call (g':=s.gens) (d':=s.drawn) (t':=s.toks) un hok I.bare λb hb=>by
  let z:T0=some b:=by
   cases T0 with
   |none=>simp at hb
   |some T=>simp at hb;rw[hb]
  let⟨_,f1,f2,f3,f4,f5⟩:=hT b z;exists f3,f1,f4,f5
 exact this
def Gone.flies{fs:List Addr}{vs:Array Value}(g:Gone fs ea T0 oe vs h h'):∃T,h.objs.size<=T/\Zdu ea T h':=by
 let⟨T,vs',ob,ts,z1,z2,z3,z4,z5,z6,z7,z8⟩:=g.flow;exists T,z1,_,vs',ob,ts,z2,rfl,z4,z5,z6,z7,z8
def Zk1{M:Ji1}{i:Nat}{x:Str}{Q:Unit->Ca->Prop}(I:Inv X pq (σ.set i (some v)) H s)(hiσ:i < σ.length)(hi:X.N[i]?=some x)(hN:X.N.Nodup)(hk:X.env.scope.names.lookup x=some .local)(h:∀s',Inv X pq (σ.set i none) H s'->Q ⟨⟩ s'):Cc M A (unbindName X.env x) Q E s:=by
 let⟨m,hn,hl⟩:=id I.loc;let hcls:(X.env.scope.kind == .class ||(X.env.scope.kind == .module&&X.env.locals != X.env.globals))=false:=by rw[I.ok.kind];rfl
 let⟨u0,_,lk⟩:=hl i x v hi (by rw[J0 hiσ]) (.inl hk);let hv:m x=some u0:=by
  rcases lk with⟨_,z⟩|⟨z,_⟩
  .exact z
  .let hk':X.env.kindOf x=some .local:=hk;rw[hk']at z;rcases z with z|z<;>cases z
 refine wpAny_unbindName_local hk hn hv hcls λh' u hn' hs=>h _ ?_;let⟨oL,_,_,hoL,_⟩:=id hn;let ab:∀b o,X.s₀.heap.get? b=some o->b≠X.env.locals:=λb o e=>Gi (Jy (Db e) I.ok.above);exists I.ok,I.os,I.bare,⟨λb o e n hb hx=>(hs.2 b (ab b o e)).trans (I.base.keep b o e n hb hx),λb o e n hb hx=>?_,I.base.free,λb o e hx=>?_,I.base.tups,I.base.frzs,I.base.tbls⟩,⟨_,hn',λj y v' e1 e2 e3=>?_⟩,λy c e=>?_,I.free,I.freeC,λp hp=>?_,λb ob e=>?_,?_
 .let⟨sl,e1⟩:=I.base.slot b o e n hb hx;exists sl,(hs.2 b (ab b o e)).trans e1
 .let⟨o',e1⟩:=I.base.there b o e hx;exists o',(hs.2 b (ab b o e)).trans e1
 .by_cases hj:j=i
  .subst hj;rw[J0 hiσ]at e2;cases e2
  .rw[Ga (Cw hj)]at e2;let⟨u',r',q⟩:=hl j y v' e1 (by rw[Ga (Cw hj)];exact e2) e3;let yx:y≠x:=λz=>by
    subst z;exact hj ((List.getElem?_inj (Je.mp e1).1 hN).mp (e1.trans hi.symm))
   exists u',r',?_;rcases q with⟨q1,q2⟩|⟨q1,c,q2,q3⟩
   .exact .inl ⟨q1,by show(if y=x then u else m y)=some u';rw[Dd yx];exact q2⟩
   .refine .inr ⟨q1,c,q2,?_⟩;let⟨o3,e3',d3⟩:=q3;exists o3,(hs.2 c (I.cne y c q2)).trans e3',d3
 .let⟨v3,o3,e3',d3⟩:=I.cell y c e;exists v3,o3,(hs.2 c (I.cne y c e)).trans e3',d3
 .let⟨p1,p2,p3,p4,p5⟩:=I.pin p hp;exists(hs.2 _ p3).trans p1,p2,p3,p4,p5
 .refine(I.hok b ob e).stay (λc w' hc q=>(hs.2 c ?_).trans q) (λ_ q=>q) λ_ _ q=>q;rintro rfl;rcases hc with hc|hc
  .rw[<-hc,I.free]at e;cases e
  .rw[I.free]at hc;cases hc
 .let:=I.len;rw[Go]at this⊢;exact this
end
abbrev Cx.mrk(X:Cx)(e:Value):Cx:={X with A:=X.A.mark (some e),calm:=false,xe:=λ_ _=>False}
section
variable{e:Value}
def Inv.mrk(I:Inv X pq σ H s)(e:Value):Inv (X.mrk e) pq σ H s :=
 ⟨⟨I.ok.mod,I.ok.kind,I.ok.glob,I.ok.blt,I.ok.above,I.ok.inj,I.ok.has,I.ok.cab,(λz=>by cases z),I.ok.frames,I.ok.stk,I.ok.exf,I.ok.bs,I.ok.bsz,I.ok.noex,I.ok.exfs,I.ok.funs,I.ok.frf⟩,I.os,I.bare,I.base,I.loc,I.cell,I.free,I.freeC,I.pin,I.hok,I.len⟩
def Inv.unmrk(ok:X.Ok)(I:Inv (X.mrk e) pq σ H s):Inv X pq σ H s:=⟨ok,I.os,I.bare,I.base,I.loc,I.cell,I.free,I.freeC,I.pin,I.hok,I.len⟩
theorem SP.unmrk{D:Ends}{f:Flow}(ok:X.Ok)(h:SP (X.mrk e) pq D f s):SP X pq D f s:=by
 cases f with
 |next=>obtain⟨σ',H',I,q⟩:=h;exists σ',H',I.unmrk ok,q
 |brk=>obtain⟨σ',H',I,q⟩:=h;exists σ',H',I.unmrk ok,q
 |cont=>obtain⟨σ',H',I,q⟩:=h;exists σ',H',I.unmrk ok,q
 |ret u=>obtain⟨v,σ',H',I,r,q⟩:=h;exists v,σ',H',I.unmrk ok,r,q
end
section
variable{M:Ji1}{K:Frag}{D:Addr}
def Zcc{K:Frag}{D:Addr}(X:K.In s.heap)(ht:Jiz K (.ref D)=some (.type "type")):s.TypeIs (.ref D) "type":=by
 let z:Jkp (λx=>x.cls) (K.lookup D)=some (.type "type"):=ht;let⟨o,e,c⟩:=Option.map_eq_some_iff.mp z;exists o,X _ _ e,c
def Zdf{b:Bool}{Q:Bool->Ca->Prop}(X:K.In s.heap)(ht:Jiz K (.ref D)=some (.type "type"))(hb:Ey K D (.type "BaseException")=some true)(he:s.heap.get? ea=some oe)(hc:oe.cls=.ref C)(hm:Ey K C (.ref D)=some b)(k:Q b s) :
  Cc M A (Jgc (.ref ea) (.ref D)) Q E s:=by
 let hT:=Zcc X ht;let L1:=Ke (M:=M) X hb;let L2:=Ke (M:=M) X hm;let n1:=tc_notTuple;let n2:=tc_sub;obtain⟨oD,cd,lD,dD⟩:∃(oD:Obj)(cd:ClassData),K.lookup D=some oD/\oD.data=.cls cd:=by
  let z:=hb;unfold Ey at z;let⟨cd,z,_⟩:=Option.bind_eq_some_iff.mp z;unfold clsIn at z
  split at z
  .rename_i e
   exists _,_,e,rfl
  .cases z
 let dO:=X _ _ lD;let⟨c0,dd0,dt0,sl0⟩:=oD;dsimp only at dD;subst dD;let⟨hp,g,d,t,os⟩:=s;unfold Jgc
 repeat (first|(with_reducible refine C8 he ?_;rw[hc])|with_reducible refine C8 dO ?_|with_reducible refine L1.at ?_|with_reducible refine L2.at ?_|wp_step)
 cases b<;>(wp_walk;exact k)
end
section
variable{w:C0}{env:Env}{R:Jhh->Ca->Prop}
def Zlf{e:Value}{n:Str}(h:Cc (Ch prog w) A (Jb1 e none) (λ_ s1=>Cc (Ch prog w) A (bindName env n e) (λ_ s2=>Cc (Ch prog w) A (execs (b0::body) env) (λf s3=>R (.ok f) s3) (λ_ _=>False) s2) (λ_ _=>False) s1) (λ_ _=>False) s) :
  Hz (Ch prog w) A (.handlers e [.ExceptHandler none (some n) (b0::body) pos] env) R s:=by
 refine Jhs ?_;show Cc _ A (do return Fin.done (<-(handleWith e env [.ExceptHandler none (some n) (b0::body) pos]).onRaise (λx=>do Ja6 x env;Jhn x))) _ _ s;refine F7 (wpAny_noted ?_);unfold handleWith;refine F7 (Hw (F7 (Dj h (λ_ s1 h1=>?_) λ_ _ z=>z.elim)));refine F7 (Dj h1 (λ_ s2 h2=>?_) λ_ _ z=>z.elim);exact F7 (Jfl (Dj h2 (λf s3 h3=>F8 (F8 h3)) λ_ _ z=>z.elim))
def Zle{e:Value}(h:Cc (Ch prog w) A (Jb1 e none) (λ_ s2=>Cc (Ch prog w) A (execs (b0::body) env) (λf s3=>R (.ok f) s3) (λ_ _=>False) s2) (λ_ _=>False) s) :
  Hz (Ch prog w) A (.handlers e [.ExceptHandler none none (b0::body) pos] env) R s :=
 codeAny_handlers_suite (Dj h (λ_ _ h1=>Dj h1 (λ_ _ q=>q) λ_ _ z=>z.elim) λ_ _ z=>z.elim)
end
abbrev TH:=Addr->Option Addr->Addr->TS
variable{th thr:L2.TH}
def HS(X:Cx)(hs:List E6)(th:TH):Prop:=∀(pq:List (Addr×Obj))(s:Ca)(σ:St)(H:Hp)(ea C T:Addr)(d:Option Addr)(D:Ends),Inv X pq σ H s->H ea=some (.ext (excP ea C d))->Zdu ea T s.heap->FpOk X pq H T->th C d ea D σ H ->
 Cc (Ch X.prog X.w) X.A (handleBy (.ref ea) X.env hs) (SP X pq D) X.xe s
def Zr1:TH:=λ_ _ _ _ _ _=>False
def Zns :HS X [] Zr1:=λ_ _ _ _ _ _ _ _ _ _ _ _ _ h=>h.elim
def offD(i:Nat)(D:Ends):Ends:={nx:=λσ H=>D.nx (σ.set i none) H,rt:=D.rt,bk:=λσ H=>D.bk (σ.set i none) H,ct:=λσ H=>D.ct (σ.set i none) H}
def thAs(K:Frag)(Dc:Addr)(i:Nat)(ts:TS)(thr:TH):TH:=λC d ea D σ H=>∃b,Ey K C (.ref Dc)=some b/\if b=true then ts (offD i D) (σ.set i (some (.ref ea))) H else thr C d ea D σ H
structure Cau(K:Frag)(mg:Str->Option Value)(x:Str)(Dc:Addr):Prop where
 mg:mg x=some (.ref Dc)
 ty:Jiz K (.ref Dc)=some (.type "type")
 bx:Ey K Dc (.type "BaseException")=some true
section
variable{c n:Str}{Dc:Addr}{i:Nat}{rest:List E6}{np:Pos}{ts:TS} 
def Rc{T:Addr}{M:Ji1}{Q:Unit->Ca->Prop}(I:Inv X pq σ H s)(fl:Zdu ea T s.heap)(fp:FpOk X pq H T)(k:∀s',Inv X pq σ H s'->Q ⟨⟩ s'):Cc M A (Jb1 (.ref ea) none) Q E s:=by
 let⟨oe,vs,oT,ts,e1,d1,v1,e2,d2,t3,ne⟩:=fl;let⟨f0,f1,f2,f3,f4,f5⟩:=fp;refine Jem e1 d1 v1 e2 d2 (Br.mp t3).1 (k _ ?_);exact I.turned (t':=s.toks) (λb o hb e=>by rw[Ct _ _ (Cw hb)];exact e) f0 f1 f3 f4 f5
theorem Zsc{D:Ends}{f:Flow}{Q:Flow->Ca->Prop}(hN:X.N.Nodup)(hi:X.N[i]?=some n)(hk:X.env.scope.names.lookup n=some .local)(h:SP X pq (offD i D) f s) :
  Cc (Ch X.prog X.w) X.A (do bindName X.env n .none;Lm X.env n pos) (λ_ s'=>SP X pq D f s') E s:=by
 let go:∀(σ:St)(H:Hp),Inv X pq σ H s->(∀s',Inv X pq (σ.set i none) H s'->SP X pq D f s')->Cc (Ch X.prog X.w) X.A (do bindName X.env n .none;Lm X.env n pos) (λ_ s'=>SP X pq D f s') E s:=λσ H I k=>by
  let hiσ:i < σ.length:=by rw[I.len];exact(Je.mp hi).1
  refine F7 (wpAny_bindName (Uu (v:=.non) I hN hi (.inl hk) rfl (λs1 I1=>?_) (.inr hk)));unfold Lm;exact wpAny_onRaise (Zk1 I1 hiσ hi hN hk k)
 cases f with
 |next=>obtain⟨σ',H',I,q⟩:=h;exact go σ' H' I λs' I'=>⟨_,H',I',q⟩
 |brk=>obtain⟨σ',H',I,q⟩:=h;exact go σ' H' I λs' I'=>⟨_,H',I',q⟩
 |cont=>obtain⟨σ',H',I,q⟩:=h;exact go σ' H' I λs' I'=>⟨_,H',I',q⟩
 |ret u=>obtain⟨v,σ',H',I,r,q⟩:=h;exact go σ' H' I λs' I'=>⟨v,_,H',I',r,q⟩
theorem Zwh(ca:Cau X.K X.mg c Dc)(hg:Gl X c)(hN:X.N.Nodup)(hi:X.N[i]?=some n)(hk:X.env.scope.names.lookup n=some .local)(hs:∀e,PSs (X.mrk e) (b0::body) ts)(hr:HS X rest thr)(hd:(c==("__debug__":Str))=false:=by decide) :
  HS X (.ExceptHandler (some (.Name c np)) (some n) (b0::body) pos::rest) (thAs X.K Dc i ts thr):=by
 intro pq s σ H ea C T d D I hea fl fp h;let⟨b,hb,h⟩:=h;refine Je2 (Jeb ?_) (by intro q;cases q);let J:=I.mrk (.ref ea);refine Ua (X:=X.mrk (.ref ea)) J hg ca.mg ?_ hd;let⟨⟨oe,vs,e1,e2,e3,e4,e5⟩,_,_⟩:=I.hok ea _ hea;refine Zdf I.kIn ca.ty ca.bx e1 e2 hb ?_;cases b with
 |false=>exact hr pq s σ H ea C T d D I hea fl fp h
 |true =>
  refine Zlf (Rc J fl fp λs1 J1=>?_);refine wpAny_bindName (Uu (X:=X.mrk (.ref ea)) (v:=.ref ea) J1 hN hi (.inl hk) rfl (λs2 J2=>?_) (.inr hk));refine Dj (hs (.ref ea) pq s2 _ H _ J2 h) (λf s3 h3=>?_) λ_ _ z=>z;exact Zsc (Q:=λ_ _=>True) hN hi hk (h3.unmrk I.ok)
def PSF(X:Cx)(pq:List (Addr×Obj))(σ:St)(st:List Stmt)(t:TS):Prop:=∀(s:Ca)(H:Hp)(D:Ends),Inv X pq σ H s->t D σ H->Cc (Ch X.prog X.w) X.A (execs st X.env) (SP X pq D) X.xe s
def tTry(tb:XK->TS)(th:TH):TS:=λD σ H=>tb (λcls d H'=>∃C,cls=.ref C/\∀ea,H' ea=some (.ext (excP ea C d))->th C d ea D σ H') D σ H
def Zs5{bd:List Stmt}{h0:E6}{hs:List E6}{tb:XK->TS}{L:Addr}(hst:X.stack=X.env::X.outer)(hf:X.env.frame=some L)(hb:∀(pq:List (Addr×Obj))(σ:St)(xe:Value->Ca->Prop)(Ex:XK),Uh (CXE X.prog X.w) (X.wish xe) pq σ Ex->PSF (X.wish xe) pq σ bd (tb Ex))(hh:HS X (h0::hs) th) :
  PS X (.Try bd (h0::hs) [] [] pos) (tTry tb th):=by
 intro pq s σ H D I h;refine Jg7 (Dj (hb pq σ _ _ Zv8 s H D (I.wish _) h) (λf s1 h1=>?_) λe s1 h1=>?_)
 .let h2:=h1.unwish;cases f with
  |next=>exact E8 h2
  |brk=>exact h2
  |cont=>exact h2
  |ret u=>exact h2
 .let⟨ea,C,T,d,H1,rfl,I1,hea,fl,fp,C',hC,k⟩:=h1;cases hC;let⟨oe,vs,oT,ts,e1,d1,v1,e2,d2,t3,ne⟩:=fl;refine Sf (base:=X.base) (by rw[I1.ok.frames,hst]) (by have:=I1.stack;rw[hst]at this;exact this) hf e1 d1 v1 e2 d2 t3 ne λh' g=>?_;rw[<-hst]at g;let I2:=I1.noted hea e1 d1 (λT' z=>by cases z;exact fp) g;let⟨T',lT,fl'⟩:=g.flies;exact hh pq _ σ H1 ea C T' d D I2 hea fl' (I1.fpOk lT (I1.hok.fresh lT)) (k ea hea)
end
end L2
variable{th thr:L2.TH}
namespace L2
open PySem PySem.Spec PyProof.Rows PySem.W PySem.Builtin PySem.Builtin.ObjectAttr
section
def XD(H:Hp):Option Addr->List (Str×V)->Prop
 |some d,fs=>H d=some (.ext (xdP d fs))
 |none,fs=>fs=[]
theorem XD.mono(s:Same H H'):∀{o:Option Addr}{fs:List (Str×V)},XD H o fs->XD H' o fs
 |some _,_,h=>s _ _ h
 |none,_,h=>h
end
section
variable{e:Expr}{t:TA}{ts us:TS} 
def PEF(X:Cx)(pq:List (Addr×Obj))(σ:St)(e:Expr)(t:TE):Prop:=∀(s:Ca)(H:Hp)(Q:VK),Inv X pq σ H s->t σ H Q->Cc (Ch X.prog X.w) X.A (eval e X.env) (EP X pq σ Q) X.xe s
def PAF(X:Cx)(pq:List (Addr×Obj))(σ:St)(es:List Expr)(t:TA):Prop:=∀(pos:Pos)(s:Ca)(H:Hp)(Q:List V->Hp->Prop),Inv X pq σ H s->t σ H Q->Cc (Ch X.prog X.w) X.A (Ji2 (Hy pos (Ci es X.env))) (AP X pq σ Q) X.xe s
def Zs7(h:PE X e te):PEF X pq σ e te:=λs H Q I q=>h pq s σ H Q I q
def Zte(h:PA X es t):PAF X pq σ es t:=λpos s H Q I q=>h pos pq s σ H Q I q
def Zel(ha:PEF X pq σ e te)(hr:PAF X pq σ es t)(hs:Ci (e::es) X.env=(false,eval e X.env)::Ci es X.env:=by rfl):PAF X pq σ (e::es) (Zop te t):=by
 intro pos s H Q I h;rw[hs];show Cc _ _ (Ji2 ((false,eval e X.env)::Hy pos (Ci es X.env))) _ _ s;exact Hl (thn (ha s H _ I h) λu s1⟨x,H1,I1,r1,q1⟩=>thn (hr pos s1 H1 _ I1 q1) λus s2⟨xs,H2,I2,r2,q2⟩=>⟨x::xs,H2,I2,.cons r1 r2,q2⟩)
theorem Zo2{k:Nat}{f:Addr}{E:XK}{us:List Value}(F:FnOk X.prog X.w X.K X.mg X.base CX k f fd ps sp)(hr:Room k X.A)(hb:Vt X.K fd ps [])(hx:Uh CX X pq σ E)(I:Inv X pq σ H s)(r:Vals vs us)(h:sp vs H Q E):Cc (Ch X.prog X.w) X.A (call (.ref f) us) (EP X pq σ Q) X.xe s:=by
 let hl:(us++[]).length=ps.length:=by rw[Gh,<-r.length];exact F.len _ _ _ _ h
 let bb:=hb s us I.kIn hl;rw[Gh]at bb;refine Lp (Kf (F.run X.A X.stack s H ⟨us,[]⟩ us vs Q E hr I.env0 bb r h) λr s' hq=>?_);cases r with
 |error e=>exact hx H s e s' I hq
 |ok fl =>
  cases fl with
  |ret u=>exact I.after hq
  |next=>exact Cq hq
  |brk=>exact Cq hq
  |cont=>exact Cq hq
def Zcu{k:Nat}{x:Str}{p:Pos}{E:XK}(C:CalE X.prog X.w X.K X.mg X.base x k ps sp)(hr:Room k X.A)(hg:Gl X x)(hx:Uh (CXE X.prog X.w) X pq σ E)(ha:PA X (e::es) t)(hdb:(x==("__debug__":Str))=false:=by decide)(he:Ci (e::es) X.env=(false,eval e X.env)::Ci es X.env:=by rfl)(hpl:(Hy pos (Ci es X.env)).any (·.1)=false:=by rfl):PEF X pq σ (.Call (.Name x p) (e::es) [] pos) (Zg2 sp [] E t):=by
 intro s H Q I h;let⟨f,fd,F,hm,hk,hb⟩:=C;refine Em (Ua I hg hm ?_ hdb);refine Mj (h₀:=X.base) I.ok.mod.kin hk (thn (ha pos pq s σ H _ I h) λus s1⟨vs,H1,I1,r,q⟩=>⟨I1.kIn,?_⟩) he hpl;exact Zo2 F hr hb hx I1 r (by have q':sp (vs++[]) H1 Q E:=q;rw[Gh]at q';exact q')
def PSF1(X:Cx)(pq:List (Addr×Obj))(σ:St)(st:Stmt)(t:TS):Prop:=∀(s:Ca)(H:Hp)(D:Ends),Inv X pq σ H s->t D σ H->Cc (Ch X.prog X.w) X.A (exec st X.env) (SP X pq D) X.xe s
theorem Zh1(h:PSF1 X pq σ st ts):PSF X pq σ [st] ts:=by
 intro s H D I q;refine Ld (Dj (h s H D I q) (λf s1 h1=>?_) λ_ _ z=>z);cases f with
 |next=>exact E8 h1
 |brk=>exact h1
 |cont=>exact h1
 |ret u=>exact h1
def Zo9{i:Nat}{x:Str}(hN:X.N.Nodup)(hi:X.N[i]?=some x)(hx:Loc X.env.scope x)(he:PEF X pq σ e te)(hs:Mx e (some (.Name x pos')) pos.line X.env=pure false:=by rfl)(hf:X.fn x=true\/X.env.scope.names.lookup x=some .local:=by first|left;rfl|right;rfl|assumption) :
  PSF1 X pq σ (.Assign [.Name x pos'] e pos) (tAsg te (Zbk i)):=by
 intro s H D I h;refine Jfx (thn (he s H _ I h) λv s1 hz=>?_) hs;let⟨y,H1,I1,r1,q1⟩:=hz;exact Uu I1 hN hi hx r1 (λs2 I2=>⟨_,H1,I2,q1⟩) hf
def Zh0(he:PEF X pq σ e te):PSF1 X pq σ (.Return (some e) pos) (tRet te):=by
 intro s H D I h;exact Jfv (thn (he s H _ I h) λv s1⟨y,H1,I1,r1,q1⟩=>⟨y,σ,H1,I1,r1,q1⟩)
end
end L2
namespace L2
open PySem PySem.Spec PyProof.Rows PySem.W
def spX1(C:Addr)(f:Str):Sp:=λvs H Q _=>∃(ea:Addr)(y:V),vs=[.ref ea,y]/\H ea=some (.ext (excN ea C none))/\∀d,H d=none->d≠ea->Q .non (upd (upd H ea (.ext (excN ea C (some d)))) d (.ext (xdP d [(f,y)])))
def Zca(R:List En):Prop:=∀e∈R,e.2≠none
def U1(S:List Pr)(ns:List Int)(R:List En)(pl:Nat):Prop:=Went S ns R pl/\Zca R/\(ns.length<=pl\/(pl<ns.length/\∀p∈S,¬ p.2<+:ns.drop pl))
theorem U1.lt(fr:Free S){A B:List En}(ha:U1 S ns A pa)(hb:U1 S ns B pb)(h:A.length<B.length):False:=by
 let⟨p',w1,w2,w3,w4⟩:=hb.1.step A.length h;let⟨_,e⟩:=ha.1.one fr w1 (by rw[Ji];lia);rcases w4 with⟨o1,_,_⟩|⟨p,hp,_,o2,_,_⟩
 .exact hb.2.1 _ (Jl h) o1
 .rcases ha.2.2 with z|⟨_,z⟩
  .lia
  .rw[e]at z;exact z p hp o2
def U1.uniq(fr:Free S){A B:List En}(ha:U1 S ns A pa)(hb:U1 S ns B pb):A=B/\pa=pb:=by
 rcases Fp A.length B.length with l|l|l
 .exact(ha.lt fr hb l).elim
 .exact ha.1.one fr hb.1 l
 .exact(hb.lt fr ha l).elim
def P7(h:Zca R){e:En}(he:e.2≠none):Zca (R++[e]):=λx hx=>by
 rcases Gb.mp hx with hx|hx
 .exact h x hx
 .rw[Jj.mp hx];exact he
def outs(R:List En):List V:=R.map λe=>oV e.2
def Zqq{w:C0}{K:Frag}{base:Heap}{x:Str}{f:Addr}{k:Nat}(F:Fun K x x st f fd)(G:FnOk P w K mg base (CXE P w) k f fd ps sp)(m:mg x=some (.ref f))(b:Vt K fd ps []) :
  CalE P w K mg base x k ps sp:=⟨f,fd,G,m,F.kp,b⟩
def Zqs{K:Frag}{o:Expr}{f:Str}(h:X.K=K)(ha:PE X o ta)(hb:Kj o f X.env (eval o X.env)=eval o X.env):PE X (.Attribute o f pos) (Zom K ta f):=by subst h;exact Zpi ha hb
end L2
namespace L2
open PySem PySem.Spec PyProof.Rows
section
def Inv.turned2{e:Addr}(I:Inv X pq σ H s)(k:∀b o,b≠e->b≠it->s.heap.get? b=some o->h'.get? b=some o)(f:FpOk X pq H e)(g:FpOk X pq H it):Inv X pq σ H {s with heap:=h',toks:=t'}:=by
 let⟨f0,f1,f2,f3,f4,f5⟩:=f;let⟨g0,g1,g2,g3,g4,g5⟩:=g;let ne:∀b u,H b=some u->b≠e:=λb u q z=>by rw[z,f0]at q;cases q
 let nit:∀b u,H b=some u->b≠it:=λb u q z=>by rw[z,g0]at q;cases q
 refine I.step (g':=s.gens) (d':=s.drawn) (ch:=[e,it]) (λb hb=>?_) (λb o _ _ hc q _=>k b o (λz=>hc (by simp[z])) (λz=>hc (by simp[z])) q) (λb o _ _ hc q _=>⟨o.slots,k b o (λz=>hc (by simp[z])) (λz=>hc (by simp[z])) q⟩) (λ_ _ _ _ n=>n)
  (λb o hc q=>⟨o,k b o (λz=>hc (by simp[z])) (λz=>hc (by simp[z])) q⟩) (λ_ _ q=>q) (λ_ _ _ q=>q) (λb ps q=>⟨#[],by rw[q];simp⟩) (λm hm=>?_) (λb u q=>?_) I.bare
 .rcases Jp.mp hb with z|hb
  .subst z;exists f3,f1,f4,f5
  .let z:b=it:=by simpa using hb
   subst z;exists g3,g1,g4,g5
 .let⟨o,es,ep,ho,r⟩:=hm;exists o,es,ep,k _ o (Cw f1) (Cw g1) ho,r
 .refine(I.hok b u q).stay (λc v hc q'=>k c v ?_ ?_ q') (λ_ q=>q) λ_ _ q=>q
  .rcases hc with z|z
   .rw[z];exact ne b u q
   .exact ne c _ z
  .rcases hc with z|z
   .rw[z];exact nit b u q
   .exact nit c _ z
end
def Ite(K:Cm)(a:Addr):It :=
 ⟨λi H=>∃xs x,SqL K H a xs/\xs[i]?=some x,λi H x H'=>∃(t:Addr)(y:V),x=.ref t/\H t=none/\H'=upd H t (.tup [.int i,y])/\∀xs,SqL K H a xs->xs[i]?=some y,λi H=>∃xs,SqL K H a xs/\xs.length<=i⟩
theorem Zgt{w:C0}(a e it:Addr)(hne:e≠it):Turn P w K (.Tuple elts x1 pos) (Ite K a) [e,it] e (λi h=>(∃old,IsEnum h e it i old)/\h.IsListIter it a i) where
 mem:=by simp
 obj:=λi h st b hb=>by
  let⟨⟨old,st1⟩,o,e2,c2,d2⟩:=st;rcases Jp.mp hb with z|hb
  .subst z;exact⟨_,st1,λv z=>by
    let z':Jj3 _=Data.cell v:=z;cases z'⟩
  .let z:b=it:=by simpa using hb
   subst z;exact⟨o,e2,λv z=>by rw[d2]at z;cases z⟩
 keep:=λi h h' st k=>by
  let⟨⟨old,st1⟩,st2⟩:=st;exists⟨old,k e (by simp) _ st1⟩,st2.at λo q=>k it (by simp) o q
 item:=by
  intro X hP hw hK hc i pq s σ H E I hf st hg;subst hP hw hK;let⟨⟨old,st1⟩,st2⟩:=st;let⟨xs,x,hq,hx⟩:=hg;let⟨its,rv,p,hz⟩:=I.list hq;let⟨u,hu,ru⟩:=rv.get hx;refine wpAny_pyNext_enum_item st1 st2 p.isList (x:=u) (by simpa using hu) hne λh1 eo st2' et hsz hk=>?_;let he:e<s.heap.objs.size:=Db st1;let hi:it<s.heap.objs.size:=by let⟨_,q,_⟩:=st2;exact Db q
  exists ·,wpAny_letOwnedTupleGo_enum eo λh2 en2 sb=>?_
  replace sb:Hf e h1 h2:=sb
  let fr:H s.heap.objs.size=none:=I.fresh;let Il:Inv X pq σ (upd H s.heap.objs.size (.tup [.int i,x])) {s with heap:=s.heap.push {cls:=.type "tuple",data:=.seq #[.int i s.toks,u]},toks:=s.toks}:=I.laid (λb o q=>F9 _ q) (Jd _)
   ⟨by show 2<=sizeLine;decide,[.int i s.toks,u],.cons ⟨_,rfl⟩ (.cons ru .nil),⟨_,Da _ rfl,rfl,_,rfl,rfl⟩⟩
  let up:∀b,b∈[e,it]->FpOk X pq (upd H s.heap.objs.size (.tup [.int i,x])) b:=λb hb=>by
   let⟨f0,f⟩:=hf b hb;refine⟨?_,f⟩;let hlt:b<s.heap.objs.size:=by
    rcases Jp.mp hb with z|hb
    .rw[z];exact he
    .let z:b=it:=by simpa using hb
     rw[z];exact hi
   rw[Zn (Gi hlt)];exact f0
  let I2:Inv X pq σ (upd H s.heap.objs.size (.tup [.int i,x])) {s with heap:=h2,toks:=s.toks+1}:=by
   refine Inv.turned2 (s:={s with heap:=s.heap.push {cls:=.type "tuple",data:=.seq #[.int i s.toks,u]},toks:=s.toks}) (h':=h2) (t':=s.toks+1) (e:=e) (it:=it) Il (λb o be bi q=>?_) (up e (by simp)) (up it (by simp));rcases Jeo q with⟨z1,z2⟩|q
   .subst z1 z2;exact(sb.2 _ (F6 he)).trans et
   .exact(sb.2 _ be).trans (hk b o be bi q)
  exists .ref s.heap.objs.size,_,I2,rfl,⟨_,x,rfl,fr,rfl,λys hy=>by rw[I.list_inj hy hq];exact hx⟩,⟨⟨u,?_⟩,st2'.at λo q=>(sb.2 it hne.symm).trans q⟩,λb hb=>(up b hb).1
  .let z:((i+1:Nat):Int)=(i:Int)+1:=by push_cast;rfl
   rw[z];exact en2
 done:=by
  intro X hP hw hK hc i pq s σ H E I hf st hg;subst hP hw hK;let⟨⟨old,st1⟩,st2⟩:=st;let⟨xs,hq,hx⟩:=hg;let⟨its,rv,p,hz⟩:=I.list hq;let⟨f0,f1,f2,f3,f4,f5⟩:=hf it (by simp);let hl:=rv.length;exact wpAny_pyNext_enum_end (I.ok.hd hc) st1 st2 p.isList (by simp;lia) λh' eb=>⟨rfl,I.turned (t':=s.toks) (λb o hb e=>eb b o hb e) f0 f1 f3 f4 f5⟩
 self:=λ_ _ _ _ _ st h=>let⟨⟨_,q⟩,_⟩:=st;Jgd q h
section
def Zwg(K:Cm)(tl:TA):TI:=λσ H R=>tl σ H λvs H1=>∃a,vs=[.ref a]/\(∃xs,SqL K H1 a xs)/\R (Ite K a) H1
theorem Zpf{pt:Pos}{l:Expr}{tl:TA}{p:Pos}(hg:Gl X "enumerate")(hm:X.mg "enumerate"=none)(ha:PA X [l] tl)(hs:Ci [l] X.env=[(false,eval l X.env)]:=by rfl):PI X (.Tuple elts x1 pt) (.Call (.Name "enumerate" p) [l] [] pos) (Zwg X.K tl):=by
 intro pq s σ H R I h;refine Call_ (Ra I hg hm boot_enumerate (El (thn (ha pos pq s σ H _ I h) λus s1 hz=>?_) hs rfl));let⟨vs,H1,I1,r1,q1⟩:=hz;let⟨a,e,⟨xs,hq⟩,q⟩:=q1;subst e;cases r1 with
 |cons r rr =>
  cases rr;cases r;let⟨its,rv,pl,hz⟩:=I1.list hq;refine call_enumerate_list pl.isList λh' he hit hsz hk=>?_;let I2:Inv X pq σ H1 {s1 with heap:=h',toks:=s1.toks}:=I1.kept hk;refine Jgd he ?_;exists s1.heap.objs.size+1,[s1.heap.objs.size+1,s1.heap.objs.size],_,_,H1,rfl,I2,Zgt a _ _ (Nat.succ_ne_self _),⟨⟨_,he⟩,hit⟩,λb hb=>?_,q;rcases Jp.mp hb with z|hb
  .subst z;exact I1.fpOk (Bw _) (I1.hok.fresh (Bw _))
  .let z:b=s1.heap.objs.size:=by simpa using hb
   subst z;exact I1.fpOk (Jd _) (I1.hok.fresh (Jd _))
end
def Za8(l:Addr)(items:Array Value)(n:Nat)(b:Addr)(items2:Array Value)(n2:Nat)(sl:Array (Option Value))(hs0:¬(!items.isEmpty&&Ei (items.size+items2.size))=true)(hs1:items.size<=sizeLine)(hs2:items.size+items2.size<=sizeLine+1) :
  Meets (Builtin.«list.extend» ⟨[.ref l,.ref b],[]⟩) (λ_ R s=>s.heap.get? l=some {cls:=.type "list",dict:=none,data:=.seq items n,slots:=#[]}/\s.heap.get? b=some {cls:=.type "tuple",dict:=none,data:=.seq items2 n2,slots:=sl}/\R (.ok (.ret Value.none)) {s with heap:=s.heap.update l (C2 λx=>x++items2),toks:=s.toks}) :=
 .of_wp λprog w A R s h=>by
  let⟨hp,g,d,tk,os⟩:=s;let⟨hl,hb,h⟩:=h;let f1:=AutoSeq1.idx_int;let f2:=Jb2;let f3:=Jdz;let f4:=AutoSeq1.sub_tuple_list;let f5:=AutoSeq1.sub_list_tuple;
  let hz':(items++items2).size<=sizeLine+1:=by rw[Array.size_append];exact hs2
  wp_walk using(L8 hl rfl (hz:=hs1) (_hz':=hz')),Jb3 hl,Jb3 hb;exists ·,h
def Zlq:V->List V->Hp->VK->Prop:=λx vs H Q=>∃l b xs zs,x=.ref l/\vs=[.ref b]/\H l=some (.lst xs)/\H b=some (.tup zs)/\xs.length+zs.length<=sizeLine/\Q .non (upd H l (.lst (xs++zs)))
theorem Zfw :MtM X "list.extend" Zlq:=by
 intro pq s σ H x vs v us Q I rx rv h;let⟨l,b,xs,zs,rfl,rfl,hH,hB,hz,q⟩:=h;cases rx;let⟨u,rfl,ru⟩:=rv.one;cases ru;let⟨z,its,n,r,hl,e⟩:=I.lstM hH;let⟨z2,its2,r2,⟨⟨c,dct,dt,sl⟩,e2,c2,n2,d2,dd2⟩⟩:=I.hok b _ hB
 replace c2:c=.type "tuple":=c2
 replace d2:dt=.seq its2.toArray n2:=d2
 replace dd2:dct=none:=dd2
 subst c2 d2 dd2;let hl2:=r2.length;let hsz:its.toArray.size+its2.toArray.size<=sizeLine:=by rw[Jm,Jm];lia
 let hlong:¬ (!its.toArray.isEmpty&&Ei (its.toArray.size+its2.toArray.size))=true:=by
  rw[Nn hsz,Jib];exact Jr
 refine Kz E4 ⟨_,e,rfl⟩ Jex (Jel _ _)
  (Za8 l its.toArray n b its2.toArray n2 sl hlong (by rw[Jm];lia) ()) ⟨e,e2,?_⟩
 exists .non,_,I.lset (its':=its++its2) hH e (by simp) (r.append r2) ?_,rfl,q;rw[Jc];lia
end L2
namespace L2
open PySem PySem.Spec PyProof.Rows PySem.W
theorem Zmf{a:Addr}{tb:TS}{D:Ends}(Pv:Nat->St->Hp->Prop)(h0:Pv 0 σ H)(hl:∀i σ H,i<=xs.length->Pv i σ H->SqL K H a xs)(hs:∀i(hi:i<xs.length)t σ H,Pv i σ H->H t=none->g (.ref t) σ (upd H t (.tup [.int i,xs[i]])) λσ2 H2=>tb {D with nx:=Pv (i+1),ct:=Pv (i+1),bk:=D.nx} σ2 H2)(hd:∀σ H,Pv xs.length σ H->D.nx σ H) :
  ∃W:Nat->Nat->St->Hp->Prop,(∃m,W 0 m σ H)/\∀i m σ H,W i m σ H ->
   ((Ite K a).stop i H/\D.nx σ H)\/((Ite K a).go i H/\∃N:St->Hp->Prop,(∀σ' H',N σ' H'->∃m',m'<m/\W (i+1) m' σ' H')/\∀x H',(Ite K a).yld i H x H'->g x σ H' λσ2 H2=>tb {D with nx:=N,ct:=N,bk:=D.nx} σ2 H2):=by
 exists λi m σ H=>m=xs.length-i/\i<=xs.length/\Pv i σ H,⟨xs.length,by simp,Gc _,h0⟩,?_;rintro i m σ H ⟨rfl,hi,p⟩;let q:=hl i σ H hi p
 by_cases hlt:i<xs.length
 .refine .inr ⟨⟨xs,xs[i],q,by simp[hlt]⟩,Pv (i+1),λσ' H' p'=>⟨xs.length-(i+1),(),rfl,hlt,p'⟩,λx H' y=>?_⟩;let⟨t,z,rfl,ht,rfl,y⟩:=y;let y2:=y xs q;rw[Jb hlt]at y2;cases y2;exact hs i hlt t σ H p ht
 .let e:i=xs.length:=by lia
  subst e;exact .inl ⟨⟨xs,q,Jd _⟩,hd σ H p⟩
def Zg8(C:Addr):Sp:=λvs H Q _=>∃(x:Addr)(S:List Pr)(s:Int),vs=[.ref x,.int s]/\Uj C H x S/\(∀p∈S,p.1=s->∀t,H t=some (.tup (p.2.map V.int))->Q (.ref t) H)/\((∀p∈S,p.1≠s)->Q .non H)
def Qo(S:List Pr)(ts:List Int)(i:Nat):Bool:=match ts[i]? with|some s=>S.all λp=>decide (p.1≠s)|none=>false
def Qn{i:Nat}(hi:i<ts.length):Qo S ts i=true↔∀p∈S,p.1≠ts[i]:=by
 unfold Qo;rw[Jb hi];simp[Fy]
def V3(S T:List Pr)(ts:List Int)(i:Nat):Prop:=(∀p∈T,p∈S)/\Yz T=ts.take i
def V3.snoc{T:List Pr}{i:Nat}(h:V3 S T ts i)(hi:i<ts.length){p:Pr}(hp:p∈S)(e:p.1=ts[i]):V3 S (T++[p]) ts (i+1):=by
 exists λq hq=>?_,?_
 .rcases Gb.mp hq with hq|hq
  .exact h.1 q hq
  .rw[Jj.mp hq];exact hp
 .let z:Yz (T++[p])=Yz T++[p.1]:=by unfold Yz;rw[Jg];rfl
  rw[z,h.2,e,Jf hi]
theorem V3.len{T:List Pr}{i:Nat}(h:V3 S T ts i)(hi:i<=ts.length):T.length=i:=by
 let:=congrArg Ez h.2;unfold Yz at this;rw[Ja,Ji]at this;lia
end L2
namespace L2
open PySem PySem.Spec PyProof.Rows
inductive NI where
 |k (z:Int)|t (x:List Int)|b (t:Bool)
 deriving DecidableEq
def NI.sh:NI->Nat
 |.k _=>0
 |.t _=>1
 |.b _=>2
def niH:NI->Int
 |.k z=>hashInt z
 |.t x=>reduceHash (Builtin.Tuple.tupleHashOf (x.map hashInt))
 |.b t=>hashInt (if t then 1 else 0)
def nh(ks:List NI):Int:=reduceHash (Builtin.Tuple.tupleHashOf (ks.map niH))
abbrev Nkv:=List NI×Addr×V
def dnP(d:Addr)(kvs:List Nkv)(h:Heap):Prop:=kvs.length<=sizeLine/\(d==E5)=false/\∃xs:List (List NI×Addr×Value),Paired (λ(p:Nkv)(q:List NI×Addr×Value)=>p.1=q.1/\p.2.1=q.2.1/\RelV p.2.2 q.2.2) kvs xs /\
 ∃o es ep,h.get? d=some o/\o.ExactDict/\o.data=.dict es ep/\es.toList=xs.map (λx=>⟨nh x.1,.ref x.2.1,x.2.2⟩)/\(xs.map (·.1)).Nodup
def NkV(K:Cm)(H:Hp):NI->V->Prop
 |.k z,v=>v=.int z
 |.t x,v=>∃a,v=.ref a/\SqT K H a (x.map V.int)
 |.b t,v=>v=.bl t
def NkAt(K:Cm)(H:Hp)(ks:List NI)(a:Addr):Prop:=∃vs,SqT K H a vs/\Paired (NkV K H) ks vs
def Zg6(tk:∀b u,Rd H b (.tup u)->Rd H' b (.tup u)){a:Addr}(h:SqT K H a xs):SqT K H' a xs:=by
 rcases h with h|h
 .exact .inl (tk _ _ h)
 .exact .inr h
theorem NkV.tk(tk:∀b u,Rd H b (.tup u)->Rd H' b (.tup u)){k:NI}(h:NkV K H k v):NkV K H' k v:=by
 cases k with
 |k z=>exact h
 |t x=>obtain⟨a,e,q⟩:=h;exists a,e,Zg6 tk q
 |b t=>exact h
theorem NkAt.tk(tk:∀b u,Rd H b (.tup u)->Rd H' b (.tup u)){ks:List NI}{a:Addr}(h:NkAt K H ks a):NkAt K H' ks a:=by
 let⟨vs,e,r⟩:=h;exists vs,Zg6 tk e,Paired.mapP r λ_ _ z=>z.tk tk
def NkAt.same(s:Same H H'){ks:List NI}{a:Addr}(h:NkAt K H ks a):NkAt K H' ks a:=h.tk λb u r=>by
 rcases r with r|⟨o,r⟩
 .exact .inl (s _ _ r)
 .exact .inr ⟨o,s _ _ r⟩
def Zlg(s:Same H H'){a:Addr}(h:SqT K H a xs):SqT K H' a xs:=Zg6 (λb u r=>by
 rcases r with r|⟨o,r⟩
 .exact .inl (s _ _ r)
 .exact .inr ⟨o,s _ _ r⟩) h
def dnP.ne{a:Addr}{kvs:List Nkv}{φ:Heap->Prop}(o:Obj){vs:Array Value}(hd:o.data=.fields vs)(hφ:∀h:Heap,h.get? a=some o->φ h)(e:dnP a kvs=φ):False:=by
 let g:(Heap.get? ⟨Array.replicate (a+1) o,{}⟩ a)=some o:=by
  let⟨c,di,da,sl⟩:=o;cases hd;unfold Heap.get?;let z:(Array.replicate (a+1) (⟨c,di,.fields vs,sl⟩:Obj))[a]?=some ⟨c,di,.fields vs,sl⟩:=by simp
  simp only[z]
 let x:=hφ _ g;rw[<-e]at x;let⟨_,_,xs,_,ob,es,ep,g2,_,dd,_⟩:=x;rw[g]at g2;cases g2;rw[hd]at dd;cases dd
end L2
namespace L2
open PySem PySem.W PySem.Spec PyProof.Rows
section
variable{k:Nat}{x:Str}{p:Pos}
def Znk(M:Mkr X.prog X.w X.K X.mg X.base x C k ps sp)(hr:Room (k+1) X.A)(hg:Gl X x)(hdb:(x==("__debug__":Str))=false:=by decide):PE X (.Call (.Name x p) [] [] pos) (Zfl C sp [] E0 tNil):=by
 let⟨f,fd,hm,F,g,hb⟩:=M;exact Zlx hm F hr hg g hb .nil Zh9 hdb
end
section
def Zhw:List V->Hp->VK->Prop:=λxs H Q=>∃(d:Addr)(kvs:List (Key×V)),xs=[.ref d]/\Rd H d (.dK kvs)/\∀(l:Addr),H l=none->Q (.ref l) (upd H l (.lst (kvs.map λkv=>kV kv.1)))
theorem Zgg:∀{us:List Value}{vs:List V},us.length=vs.length->(∀(j:Nat)(u:Value)(v:V),us[j]?=some u->vs[j]?=some v->RelV v u)->Vals vs us
 |[],[],_,_=>.nil
 |u::us,v::vs,hl,h=>.cons (h 0 u v rfl rfl) (Zgg (by simpa using hl) λj u v e1 e2=>h (j+1) u v e1 e2)
theorem Zdm(hc:X.calm=true):W6 X (.type "list") Zhw:=by
 intro pq s σ H xs us Q I r h;let⟨d,kvs,rfl,rd,q⟩:=h;let⟨u,rfl,rx⟩:=Tj r;cases rx;let⟨hz,lo,vs,rel,dof⟩:=Zbq I.hok rd;let⟨ep,da⟩:=dof.dictAt;let hv:=Paired.length rel;refine W.kdl_call (kdl_dict (knd:=Y4 X.prog X.w) (kvs:=vs) (ep:=ep) lo) (I.ok.hd hc) da (by rw[<-hv];exact hz) λh' tk acc' c' kp e' hacc=>?_;let hal:acc'.toList.length=vs.length:=by rw[Bs];exact hacc.1
 exists .ref s.heap.objs.size,_,I.laid (t':=tk) (o:=.lst (kvs.map λkv=>kV kv.1)) kp (Jd _) ⟨by rw[Ja];exact hz,acc'.toList,c',?_,by simpa using e'⟩,rfl,q _ (I.hok.fresh (Jd _));refine Zgg (by rw[hal,Ja];lia) λj u v e1 e2=>?_;let⟨k,x,e3,e4⟩:=hacc.2 j u (by rw[<-Jea];exact e1);let hj:j<vs.length:=(Je.mp e3).1;let hr:=L2.Paired.at rel (by lia:j<kvs.length) hj;rw[Jx,Jb (by lia:j<kvs.length)]at e2;cases e2;rw[Jb hj]at e3;let e5:=Dh e3;show RelV (kV kvs[j].1) u;rw[hr.1,e5];rcases Yk (show Nu k u=true from e4)with⟨i,t,rfl,rfl⟩|⟨y,t,rfl,rfl⟩
 .exists t,rfl
 .exists t,rfl
end
end L2
namespace L2
open PySem PySem.Spec PyProof.Rows
section
def Inv.thaw{σ0:St}{s1:Ca}{d:Addr}{kvs kvs0:List (Key×V)}{o:Obj}(I0:Inv X pq σ0 H s)(e0:H d=some (.dK kvs0))(I:Inv X pq σ H1 s1)(e1:H1 d=some (.frz o (.dK kvs))):Inv X pq σ (upd H1 d (.dK kvs)) s1:=by
 let nf:∀o u,X.H₀ d≠some (.frz o u):=λo u z=>by
  let:=I0.base.frzs d o u z;rw[e0]at this;cases this
 let ne:∀b,H1 b=none->b≠d:=λb n z=>by rw[z,e1]at n;cases n
 let⟨e2,z,hd,vs,r,ob,es,ep,e3,rest⟩:=(show Y5 X.prog X.w H1 s1.heap d (.frz o (.dK kvs))from I.hok d _ e1);exists I.ok,I.os,I.bare,⟨I.base.keep,I.base.slot,λb o q n hx=>?_,I.base.there,λb xs q=>?_,λb o u q=>?_,λb ps q=>?_⟩,I.loc,I.cell,?_,λx c q=>?_,λp hp=>?_,λb u q=>?_,I.len
 .let:=I.base.free b o q n hx;rw[Zn (ne b this)];exact this
 .let:=I.base.tups b xs q;rw[Zn (λw=>by rw[w,e1]at this;cases this)];exact this
 .let:=I.base.frzs b o u q;rw[Zn (λw=>nf o u (by rw[<-w];exact q))];exact this
 .let⟨more,this⟩:=I.base.tbls b ps q;exists more,?_;rw[Zn (λw=>by rw[w,e1]at this;cases this)];exact this
 .rw[Zn (ne _ I.free)];exact I.free
 .let:=I.freeC x c q;rw[Zn (ne _ this)];exact this
 .let⟨p1,p2,p3⟩:=I.pin p hp;exists p1,by rw[Zn (ne _ p2)];exact p2,p3
 .by_cases w:b=d
  .subst w;rw[Zg]at q;cases q;exists z,hd,vs,r,ob,es,ep,e3,rest
  .rw[Zn w]at q;refine(I.hok b u q).stay (λc v hc q'=>q') (λy q'=>?_) λc xs q'=>?_
   .rw[Zn (λw'=>by rw[w',e1]at q';cases q')];exact q'
   .rw[Zn (λw'=>by rw[w',e1]at q';cases q')];exact q'
def Zsx(t:TS):TS:=λD σ H=>∃d kvs0,H d=some (.dK kvs0)/\t {D with nx:=λσ' H1=>∃o kvs,H1 d=some (.frz o (.dK kvs))/\D.nx σ' (upd H1 d (.dK kvs))} σ H
theorem Zpc{t:TS}(h:PS X st t):PS X st (Zsx t):=by
 intro pq s σ H D I hq;let⟨d,kvs0,e0,hq⟩:=hq;refine Dj (h pq s σ H _ I hq) (λf s1 h1=>?_) λ_ _ z=>z;cases f with
 |next =>
  let⟨σ',H1,I1,o,kvs,e1,q⟩:=h1;exists σ',_,I.thaw e0 I1 e1,q
 |brk=>exact h1
 |cont=>exact h1
 |ret u=>exact h1
end
section
def Inv.turnedL(I:Inv X pq σ H s)(k:∀b o,b∉ch->s.heap.get? b=some o->h'.get? b=some o)(f:∀b∈ch,FpOk X pq H b):Inv X pq σ H {s with heap:=h',toks:=t'}:=by
 let ne:∀b u,H b=some u->b∉ch:=λb u q z=>by rw[(f b z).1]at q;cases q
 refine I.step (g':=s.gens) (d':=s.drawn) (ch:=ch) (λb hb=>?_) (λb o _ _ hc q _=>k b o hc q) (λb o _ _ hc q _=>⟨o.slots,k b o hc q⟩) (λ_ _ _ _ n=>n)
  (λb o hc q=>⟨o,k b o hc q⟩) (λ_ _ q=>q) (λ_ _ _ q=>q) (λb ps q=>⟨#[],by rw[q];simp⟩) (λm hm=>?_) (λb u q=>?_) I.bare
 .let⟨f0,f1,f2,f3,f4,f5⟩:=f b hb;exists f3,f1,f4,f5
 .let⟨o,es,ep,ho,r⟩:=hm;exists o,es,ep,k _ o (λz=>(f _ z).2.1 rfl) ho,r
 .refine(I.hok b u q).stay (λc v hc q'=>k c v ?_ q') (λ_ q=>q) λ_ _ q=>q;rcases hc with z|z
  .rw[z];exact ne b u q
  .exact ne c _ z
end
def Itz(K:Cm)(a b:Addr):It :=
  ⟨λi H=>∃xs ys x y,SqL K H a xs/\SqL K H b ys/\xs[i]?=some x/\ys[i]?=some y,
   λi H v H'=>∃(t:Addr)(x y:V),v=.ref t/\H t=none/\H'=upd H t (.tup [x,y])/\(∀xs,SqL K H a xs->xs[i]?=some x)/\∀ys,SqL K H b ys->ys[i]?=some y,
   λi H=>∃xs ys,SqL K H a xs/\SqL K H b ys/\(xs.length<=i\/ys.length<=i)⟩
theorem Zlb{w:C0}(a b z TI TO i1 i2:Addr)(D:ZipApart z TI TO i1 i2 a b):Turn P w K (.Tuple elts x1 pos) (Itz K a b) [z,TI,TO,i1,i2] z
  (λi h=>IsZip h z TI TO .none/\IsPair h TI (.ref i1) (.ref i2)/\(∃u v,IsPair h TO u v)/\h.IsListIter i1 a i/\h.IsListIter i2 b i) where
 mem:=by simp
 obj:=λi h st c hc=>by
  let⟨hz,hTI,⟨u,v,hTO⟩,⟨o1,e1,c1,d1⟩,⟨o2,e2,c2,d2⟩⟩:=st;simp only[Jp,Be,or_false]at hc;rcases hc with rfl|rfl|rfl|rfl|rfl
  .exact⟨_,hz,λv z=>by cases z⟩
  .exact⟨_,hTI,λv z=>by cases z⟩
  .exact⟨_,hTO,λv z=>by cases z⟩
  .exact⟨o1,e1,λv z=>by rw[d1]at z;cases z⟩
  .exact⟨o2,e2,λv z=>by rw[d2]at z;cases z⟩
 keep:=λi h h' st k=>by
  let⟨hz,hTI,⟨u,v,hTO⟩,h1,h2⟩:=st;exists k z (by simp) _ hz,k TI (by simp) _ hTI,⟨u,v,k TO (by simp) _ hTO⟩,h1.at λo q=>k i1 (by simp) o q,h2.at λo q=>k i2 (by simp) o q
 item:=by
  intro X hP hw hK hc i pq s σ H E I hf st hg;subst hP hw hK;let⟨hz,hTI,⟨u,v,hTO⟩,h1,h2⟩:=st;let⟨xs,ys,x,y,hq,hr,hx,hy⟩:=hg;let⟨its,rv,p,_⟩:=I.list hq;let⟨its2,rv2,p2,_⟩:=I.list hr;let⟨ux,hu,ru⟩:=rv.get hx;let⟨uy,hu2,ru2⟩:=rv2.get hy;refine wpAny_pyNext_zip_item D hz hTI hTO h1 h2 p.isList p2.isList (x:=ux) (y:=uy) (by simpa using hu) (by simpa using hu2) λhp1 a1 a2 a3 a4 a5 a6 a7=>?_;exists ·,wpAny_letOwnedTupleGo_zip a1 λhp2 b1 sb=>?_
  replace sb:Hf z hp1 hp2:=sb
  let lt:∀c∈[z,TI,TO,i1,i2],c<s.heap.objs.size:=λc hc=>by
   simp only[Jp,Be,or_false]at hc;rcases hc with rfl|rfl|rfl|rfl|rfl
   .exact Db hz
   .exact Db hTI
   .exact Db hTO
   .let⟨_,q,_⟩:=h1;exact Db q
   .let⟨_,q,_⟩:=h2;exact Db q
  let fr:H s.heap.objs.size=none:=I.fresh;let Il:Inv X pq σ (upd H s.heap.objs.size (.tup [x,y])) {s with heap:=s.heap.push {cls:=.type "tuple",data:=.seq #[ux,uy]},toks:=s.toks}:=I.laid (λb o q=>F9 _ q) (Jd _)
   ⟨by show 2<=sizeLine;decide,[ux,uy],.cons ru (.cons ru2 .nil),⟨_,Da _ rfl,rfl,_,rfl,rfl⟩⟩
  let up:∀c∈[z,TI,TO,i1,i2],FpOk X pq (upd H s.heap.objs.size (.tup [x,y])) c:=λc hc=>by
   let⟨f0,f⟩:=hf c hc;exists ?_,f;rw[Zn (Gi (lt c hc))];exact f0
  let I2:Inv X pq σ (upd H s.heap.objs.size (.tup [x,y])) {s with heap:=hp2,toks:=s.toks}:=by
   refine Inv.turnedL (s:={s with heap:=s.heap.push {cls:=.type "tuple",data:=.seq #[ux,uy]},toks:=s.toks}) (h':=hp2) (t':=s.toks) (ch:=[z,TI,TO,i1,i2]) Il (λc o hc q=>?_) up;simp only[Jp,Be,or_false,not_or]at hc;rcases Jeo q with⟨z1,z2⟩|q
   .subst z1 z2;exact(sb.2 _ hc.1).trans a5
   .exact(sb.2 _ hc.1).trans (a7 c o hc.1 hc.2.2.1 hc.2.2.2.1 hc.2.2.2.2 q)
  refine⟨.ref s.heap.objs.size,_,I2,rfl,⟨_,x,y,rfl,fr,rfl,λzs hz'=>by rw[I.list_inj hz' hq];exact hx,λzs hz'=>by rw[I.list_inj hz' hr];exact hy⟩,
   ⟨b1,(sb.2 TI D.TIz).trans (a7 _ _ D.TIz D.TITO D.TIi1 D.TIi2 hTI),⟨_,_,(sb.2 TO D.TOz).trans a2⟩,a3.at λo q=>(sb.2 i1 D.i1z).trans q,a4.at λo q=>(sb.2 i2 D.i2z).trans q⟩,λc hc=>(up c hc).1⟩
 done:=by
  intro X hP hw hK hc i pq s σ H E I hf st hg;subst hP hw hK;let⟨hz,hTI,⟨u,v,hTO⟩,h1,h2⟩:=st;let⟨xs,ys,hq,hr,hx⟩:=hg;let⟨its,rv,p,_⟩:=I.list hq;let⟨its2,rv2,p2,_⟩:=I.list hr;let l1:=rv.length;let l2:=rv2.length;refine wpAny_pyNext_zip_end (I.ok.hd hc) D hz hTI hTO h1 h2 p.isList p2.isList (by simp;lia) λhp1 kp=>⟨rfl,?_⟩;refine I.turnedL (t':=s.toks) (ch:=[z,TI,TO,i1,i2]) (λc o hc q=>?_) hf;simp only[Jp,Be,or_false,not_or]at hc;exact kp c o hc.1 hc.2.2.1 hc.2.2.2.1 hc.2.2.2.2 q
 self:=λ_ _ _ _ _ st h=>Jg8 st.1 h
section
def iZip(K:Cm)(tl:TA):TI:=λσ H R=>tl σ H λvs H1=>∃a b,vs=[.ref a,.ref b]/\(∃xs,SqL K H1 a xs)/\(∃ys,SqL K H1 b ys)/\R (Itz K a b) H1
theorem Znj{pt:Pos}{l r:Expr}{tl:TA}{p:Pos}(hg:Gl X "zip")(hm:X.mg "zip"=none)(ha:PA X [l,r] tl)(hs:Ci [l,r] X.env=[(false,eval l X.env),(false,eval r X.env)]:=by rfl)(hs2:Ci [r] X.env=[(false,eval r X.env)]:=by rfl):PI X (.Tuple elts x1 pt) (.Call (.Name "zip" p) [l,r] [] pos) (iZip X.K tl):=by
 intro pq s σ H R I h;refine Call_ (Ra I hg hm boot_zip (El (thn (ha pos pq s σ H _ I h) λus s1 hz=>?_) (by rw[hs,hs2]) (by rw[hs2];rfl)));let⟨vs,H1,I1,r1,q1⟩:=hz;let⟨a,b,e,⟨xs,hq⟩,⟨ys,hr⟩,q⟩:=q1;subst e;cases r1 with
 |cons r rr =>
  cases rr with
  |cons r' rr =>
   cases rr;cases r;cases r';let⟨its,rv,pl,_⟩:=I1.list hq;let⟨its2,rv2,pl2,_⟩:=I1.list hr;refine call_zip_2 pl.isList pl2.isList λhp1 c1 c2 c3 c4 c5 c6 c7=>?_;let I2:Inv X pq σ H1 {s1 with heap:=hp1,toks:=s1.toks}:=I1.kept c7;refine Jg8 c1 ?_;let la:a<s1.heap.objs.size:=by let⟨o,e,_⟩:=pl.isList;exact Db e
   let lb:b<s1.heap.objs.size:=by let⟨o,e,_⟩:=pl2.isList;exact Db e
   refine⟨s1.heap.objs.size+4,[s1.heap.objs.size+4,s1.heap.objs.size+2,s1.heap.objs.size+3,s1.heap.objs.size,s1.heap.objs.size+1],_,_,H1,rfl,I2,Zlb a b _ _ _ _ _ (zipApart_new la lb),⟨c1,c2,⟨_,_,c3⟩,c4,c5⟩,λc hc=>?_,q⟩;let hle:s1.heap.objs.size<=c:=by
    simp only[Jp,Be,or_false]at hc;rcases hc with rfl|rfl|rfl|rfl|rfl<;>lia
   exact I1.fpOk hle (I1.hok.fresh hle)
end
end L2
namespace L2
open PySem PySem.Spec PyProof.Rows PySem.W
section
variable{M:Ji1}{K:Frag}{D1 D2:Addr}
def Ze8{D:Addr}(hb:Ey K D (.type "BaseException")=some true):∃(oD:Obj)(cd:ClassData),K.lookup D=some oD/\oD.data=.cls cd:=by
 unfold Ey at hb;let⟨cd,z,_⟩:=Option.bind_eq_some_iff.mp hb;unfold clsIn at z
 split at z
 .rename_i e
  exists _,_,e,rfl
 .cases z
theorem Zbo{b1 b2:Bool}{tdd:Option Addr}{tn:Nat}{tsl:Array (Option Value)}{Q:Bool->Ca->Prop}(X:K.In s.heap)(t1:Jiz K (.ref D1)=some (.type "type"))(q1:Ey K D1 (.type "BaseException")=some true)(t2:Jiz K (.ref D2)=some (.type "type"))(q2:Ey K D2 (.type "BaseException")=some true)(hp:s.heap.get? tp=some {cls:=.type "tuple",dict:=tdd,data:=.seq #[.ref D1,.ref D2] tn,slots:=tsl})(he:s.heap.get? ea=some oe)(hc:oe.cls=.ref C)(m1:Ey K C (.ref D1)=some b1)(m2:Ey K C (.ref D2)=some b2)(k:Q (b1 ||b2) s):Cc M A (Jgc (.ref ea) (.ref tp)) Q E s:=by
 let h1:=Zcc X t1;let h2:=Zcc X t2;let L1:=Ke (M:=M) X q1;let L2:=Ke (M:=M) X q2;let L3:=Ke (M:=M) X m1;let L4:=Ke (M:=M) X m2;let n1:=tc_notTuple;let n2:=tc_sub;let⟨o1,cd1,l1,e1⟩:=Ze8 q1;let⟨o2,cd2,l2,e2⟩:=Ze8 q2;let x1:=X _ _ l1;let x2:=X _ _ l2;let⟨c0,dd0,dt0,sl0⟩:=o1;let⟨c9,dd9,dt9,sl9⟩:=o2;dsimp only at e1 e2;subst e1 e2;let⟨hh,g,d,t,os⟩:=s;unfold Jgc;let tt:=Jb2
 repeat (first|(with_reducible refine C8 hp ?_)|(with_reducible refine C8 he ?_;rw[hc])|with_reducible refine C8 x1 ?_|with_reducible refine C8 x2 ?_|with_reducible refine L1.at ?_|with_reducible refine L2.at ?_|with_reducible refine L3.at ?_|with_reducible refine L4.at ?_|wp_step)
 cases b1 with
 |true=>wp_walk;exact k
 |false =>
  repeat (first|with_reducible refine L4.at ?_|wp_step)
  cases b2<;>(wp_walk;exact k)
end
def Zr0(K:Frag)(D1 D2:Addr)(ts:TS)(thr:TH):TH:=λC d ea D σ H=>∃b1 b2,Ey K C (.ref D1)=some b1/\Ey K C (.ref D2)=some b2/\∀p,H p=none->if(b1 ||b2)=true then ts D σ (upd H p (.tup [.ref D1,.ref D2]))else thr C d ea D σ (upd H p (.tup [.ref D1,.ref D2]))
section
variable{c1 c2:Str}{D1 D2:Addr}{rest:List E6}{n1 n2 tpos:Pos}{ts:TS} 
theorem Zt7(ca1:Cau X.K X.mg c1 D1)(hg1:Gl X c1)(ca2:Cau X.K X.mg c2 D2)(hg2:Gl X c2)(hs:∀e,PSs (X.mrk e) (b0::body) ts)(hr:HS X rest thr)(hd1:(c1==("__debug__":Str))=false:=by decide)(hd2:(c2==("__debug__":Str))=false:=by decide) :
  HS X (.ExceptHandler (some (.Tuple [.Name c1 n1,.Name c2 n2] x1 tpos)) none (b0::body) pos::rest) (Zr0 X.K D1 D2 ts thr):=by
 intro pq s σ H ea C T d D I hea fl fp h;let⟨b1,b2,m1,m2,h⟩:=h;refine Je2 (Jeb ?_) (by intro q;cases q);let J:=I.mrk (.ref ea);refine Jev ?_;show Cc _ _ (Ji2 ((false,eval (.Name c1 n1) X.env)::(false,eval (.Name c2 n2) X.env)::[])) _ _ s;refine Hl (Ua (X:=X.mrk (.ref ea)) J hg1 ca1.mg ?_ hd1);refine Hl (Ua (X:=X.mrk (.ref ea)) J hg2 ca2.mg ?_ hd2);refine Ja1 ?_;exists by show 2<=sizeLine;decide,?_;let fr:H s.heap.objs.size=none:=I.fresh;let kp:∀b o,s.heap.get? b=some o->(s.heap.push {cls:=.type "tuple",data:=.seq #[.ref D1,.ref D2]}).get? b=some o:=λb o e=>F9 _ e
 let atp:(s.heap.push {cls:=.type "tuple",data:=.seq #[.ref D1,.ref D2]}).get? s.heap.objs.size=some {cls:=.type "tuple",data:=.seq #[.ref D1,.ref D2]}:=Da _ rfl;let I1:Inv X pq σ (upd H s.heap.objs.size (.tup [.ref D1,.ref D2])) {s with heap:=s.heap.push {cls:=.type "tuple",data:=.seq #[.ref D1,.ref D2]},toks:=s.toks}:=I.laid kp (Jd _)
  ⟨by show 2<=sizeLine;decide,[.ref D1,.ref D2],.cons rfl (.cons rfl .nil),⟨_,atp,rfl,_,rfl,rfl⟩⟩
 let pe:s.heap.objs.size≠ea:=λz=>by rw[z,hea]at fr;cases fr
 let hea1:upd H s.heap.objs.size (.tup [.ref D1,.ref D2]) ea=some (.ext (excP ea C d)):=by rw[Zn (Cw pe)];exact hea
 let⟨⟨oe,vs,e1,e2,e3,e4,e5⟩,_,_⟩:=I1.hok ea _ hea1;let fl1:Zdu ea T (s.heap.push {cls:=.type "tuple",data:=.seq #[.ref D1,.ref D2]}):=by
  let⟨oe,vs,oT,ts,f1,f2,f3,f4,f5⟩:=fl;exists oe,vs,oT,ts,kp _ _ f1,f2,f3,kp _ _ f4,f5
 let lT:T<s.heap.objs.size:=by
  let⟨oe,vs,oT,ts,f1,f2,f3,f4,f5⟩:=fl;exact Db f4
 let fp1:FpOk X pq (upd H s.heap.objs.size (.tup [.ref D1,.ref D2])) T:=⟨by rw[Zn (Gi lT)];exact fp.1,fp.2⟩;let h:=h _ fr;refine Zbo I1.kIn ca1.ty ca1.bx ca2.ty ca2.bx atp e1 e2 m1 m2 ?_;generalize (b1 ||b2)=b at h;cases b with
 |false=>exact hr pq _ σ _ ea C T d D I1 hea1 fl1 fp1 h
 |true =>
  refine Zle (Rc (I1.mrk (.ref ea)) fl1 fp1 λs1 J1=>?_);exact Dj (hs (.ref ea) pq s1 _ _ _ J1 h) (λf s3 h3=>h3.unmrk I.ok) λ_ _ z=>z
end
section
def Zq6(X:Cx)(pq:List (Addr×Obj))(Ex:St->XK)(e:Value)(s':Ca):Prop:=∃σ,Zn3 X pq σ (Ex σ) e s'
def Zv7{Ex:St->XK}(σ:St):Uh (CXE X.prog X.w) (X.wish (Zq6 X pq Ex)) pq σ (Ex σ):=by
 intro H s e s' I hx;let⟨ea,C,T,d,H2,rfl,os,bare,un,hok,hea,lea,nT,lT,fl,q⟩:=hx;let I':=I.unwish;let I2:Inv X pq σ H2 s':=I'.call' os un hok bare (ch:=[]) λb z=>absurd z (by simp);exists σ,ea,C,T,d,H2,rfl,I2,hea,fl,I'.fpOk lT nT,q
def Zon(tb:(St->XK)->TS)(th:TH):TS:=λD σ H=>tb (λσ' cls d H'=>∃C,cls=.ref C/\∀ea,H' ea=some (.ext (excP ea C d))->th C d ea D σ' H') D σ H
def Zpa{bd:List Stmt}{h0:E6}{hs:List E6}{tb:(St->XK)->TS}{L:Addr}(hst:X.stack=X.env::X.outer)(hf:X.env.frame=some L)(hb:∀(pq:List (Addr×Obj))(σ:St)(xe:Value->Ca->Prop)(Ex:St->XK),(∀σ,Uh (CXE X.prog X.w) (X.wish xe) pq σ (Ex σ))->PSF (X.wish xe) pq σ bd (tb Ex))(hh:HS X (h0::hs) th) :
  PS X (.Try bd (h0::hs) [] [] pos) (Zon tb th):=by
 intro pq s σ H D I h;refine Jg7 (Dj (hb pq σ _ _ Zv7 s H D (I.wish _) h) (λf s1 h1=>?_) λe s1 h1=>?_)
 .let h2:=h1.unwish;cases f with
  |next=>exact E8 h2
  |brk=>exact h2
  |cont=>exact h2
  |ret u=>exact h2
 .let⟨σ1,ea,C,T,d,H1,rfl,I1,hea,fl,fp,C',hC,k⟩:=h1;cases hC;let⟨oe,vs,oT,ts,e1,d1,v1,e2,d2,t3,ne⟩:=fl;refine Sf (base:=X.base) (by rw[I1.ok.frames,hst]) (by have:=I1.stack;rw[hst]at this;exact this) hf e1 d1 v1 e2 d2 t3 ne λh' g=>?_;rw[<-hst]at g;let I2:=I1.noted hea e1 d1 (λT' z=>by cases z;exact fp) g;let⟨T',lT,fl'⟩:=g.flies;exact hh pq _ σ1 H1 ea C T' d D I2 hea fl' (I1.fpOk lT (I1.hok.fresh lT)) (k ea hea)
end
end L2
namespace L2
open PySem PySem.Spec PyProof.Rows
def Zs3:V->List V->Hp->VK->Prop:=λx xs H Q=>∃z y:Str,x=.str z/\xs=[.str y]/\Q (.int (Txt.find z y)) H
def Zin :MtR X "str.find" Zs3:=by
 intro pq s σ H x xs v us Q I rx r h;let⟨z,y,rfl,rfl,q⟩:=h;let⟨t,rfl⟩:=rx;let⟨u,rfl,ru⟩:=Tj r;let⟨t2,rfl⟩:=ru;exact SC.find ⟨.int _,H,I.tok _,⟨_,rfl⟩,q⟩
theorem Zpb{s1 s2:Stmt}{h0:E6}{hs:List E6}{t1 t2:XK->TS}{L:Addr}(hst:X.stack=X.env::X.outer)(hf:X.env.frame=some L)(h1:∀(pq:List (Addr×Obj))(σ:St)(xe:Value->Ca->Prop)(Ex:XK),Uh (CXE X.prog X.w) (X.wish xe) pq σ Ex->PSF1 (X.wish xe) pq σ s1 (t1 Ex))(h2:∀(pq:List (Addr×Obj))(σ:St)(xe:Value->Ca->Prop)(Ex:XK),Uh (CXE X.prog X.w) (X.wish xe) pq σ Ex->PSF1 (X.wish xe) pq σ s2 (t2 Ex))(hh:HS X (h0::hs) th) :
  PS X (.Try [s1,s2] (h0::hs) [] [] pos) (Zon (λEx D σ H=>t1 (Ex σ) {D with nx:=λσ' H'=>t2 (Ex σ') D σ' H'} σ H) th):=by
 refine Zpa hst hf (λpq σ xe Ex hp=>?_) hh;intro s H D I q;refine Ld (Dj (h1 pq σ xe (Ex σ) (hp σ) s H _ I q) (λf s3 h3=>?_) λ_ _ z=>z);cases f with
 |next=>obtain⟨σ',H',I',q'⟩:=h3;exact Zh1 (h2 pq σ' xe (Ex σ') (hp σ')) s3 H' D I' q'
 |brk=>exact h3
 |cont=>exact h3
 |ret u=>exact h3
section
theorem Tq{p B:Addr}{R:Jhh->Ca->Prop}(hA:A.handled=none)(hBi:it≠B)(fit:FpOk X pq H it)(fB:FpOk X pq H B) :
  ∀(k:Nat)(i:Nat)(cur:Option Int)(cv:Option Value)(s:Ca)(c:Nat),ns.length=i+k->(cur=none->i<ns.length)->Inv X pq σ H s->Po X.K H s.heap p it (ns.map V.int) i->s.heap.get? B=some (lst0 (Te cv) c) ->
   (match cur,cv with|none,none=>True|some n,some v=>∃t,v=Ek n t|_,_=>False) ->
   (∀s' u,Inv X pq σ H s'->(match mxOf cur (ns.drop i)with|none=>False|some n=>∃t,u=Ek n t)->R (.ok (.ret u)) s') ->
   Hz (Ch X.prog X.w) A (.builtin "max.loop" ⟨[.ref it,.none,.ref B],[]⟩) R s
 |0,i,cur,cv,s,c,hk,hn,I,src,hB,hc,h=>by
  let hname:(Jfp "max"++Jfp ".loop":String)="max.loop":=by decide
  refine Ht Jd0 ?_;rw[Et Ep _];show Cc _ A.in1 (Jjv (.ref B) >>= _) _ _ s;refine F7 (wpAny_seqItems hB rfl ?_);show Cc _ A.in1 (tryCatch (Jgj (.ref it)) _ >>= _) _ _ s;refine F7 (Mt (Dj (Zg5 (Q:=λr s'=>r=none/\Inv X pq σ H s'/\s'.heap.get? B=some (lst0 (Te cv) c)) (I.pin1 fB hB (by intro v;simp)) (fit.snoc hBi.symm) hA src (by simp;lia) λs' I'=>⟨rfl,I'.unpinned,(I'.pin (B,lst0 (Te cv) c) (by simp)).1⟩) (λr s' hz=>?_) λ_ _ z=>z));let⟨er,I',hB'⟩:=hz;subst er;let hd:ns.drop i=[]:=List.drop_eq_nil_of_le ()
  rw[hd]at h;cases cur with
  |none =>
   cases cv with
   |some v=>exact hc.elim
   |none =>
    exact absurd (hn rfl) ()
  |some n =>
   cases cv with
   |none=>exact hc.elim
   |some v =>
    show Cc _ A.in1 (updateSeq B (λ_=>#[]) >>= _) _ _ _;refine F7 (L8 hB' rfl (F7 (Jc6 (F8 ?_))) (Zdn _));exact h _ v (I'.turn1 fB (E1 _ _ _)) hc
 |k+1,i,cur,cv,s,c,hk,hn,I,src,hB,hc,h=>by
  let hname:(Jfp "max"++Jfp ".loop":String)="max.loop":=by decide
  let hil:i<ns.length:=by lia
  refine Ht Jd0 ?_;rw[Et Ep _];show Cc _ A.in1 (Jjv (.ref B) >>= _) _ _ s;refine F7 (wpAny_seqItems hB rfl ?_);show Cc _ A.in1 (tryCatch (Jgj (.ref it)) _ >>= _) _ _ s;refine F7 (Mt (Dj (Zd3 (x:=V.int ns[i]) (Q:=λr s'=>∃u,r=some u/\RelV (V.int ns[i]) u/\Inv X pq σ H s'/\s'.heap.get? B=some (lst0 (Te cv) c)/\Po X.K H s'.heap p it (ns.map V.int) (i+1)) (I.pin1 fB hB (by intro v;simp)) (fit.snoc hBi.symm) src (by rw[Jx,Jb hil];rfl)
   λu s' ru I' src'=>⟨u,rfl,ru,I'.unpinned,(I'.pin (B,lst0 (Te cv) c) (by simp)).1,src'⟩) (λr s'⟨u,er,ru,I',hB',src'⟩=>?_) λ_ _ z=>z))
  subst er;let⟨t,eu⟩:=ru;subst eu;rw[Bi hil]at h;let st:=λ(f:Obj->Obj)=>E1 s'.heap B f;cases cur with
  |none =>
   cases cv with
   |some v=>exact hc.elim
   |none =>
    show Cc _ A.in1 (updateSeq B (λ_=>#[Ek ns[i] t,Ek ns[i] t]) >>= _) _ _ _;refine F7 (L8 hB' rfl ?_ (Zdn _));rw[hname];refine F8 ⟨Kp Ep _,Tq hA hBi fit fB k (i+1) (some ns[i]) (some (Ek ns[i] t)) _ _ () (λz=>nomatch z) (I'.turn1 fB (st _)) (src'.at (λob e=>((st _).2 it hBi).trans e) id id) (Er _ hB' rfl) ⟨t,rfl⟩ ?_⟩;simpa only[mxOf]using h
  |some n =>
   cases cv with
   |none=>exact hc.elim
   |some v =>
    let⟨t',hv⟩:=hc;subst hv;show Cc _ A.in1 (tryCatch (Lu [Ek ns[i] t,Ek ns[i] t] (richCompare .Gt (Ek ns[i] t) (Ek n t') >>= _)) _ >>= _) _ _ _;refine F7 (Mt (C9 (F7 (show Cc (Ch X.prog X.w) A.in1 (Ee .Gt (Ek ns[i] t) (Ek n t')) _ _ _ from Jkg ?_))));refine F7 (C9 (Eh ?_));refine F7 (Jc6 (F8 ?_))
    by_cases hlt:n<ns[i]
    .simp only[hlt,decide_true,if_true];refine F7 (L8 hB' rfl (F7 (Jc6 ?_)) (Zdn _));rw[hname];refine F8 ⟨Kp Ep _,Tq hA hBi fit fB k (i+1) (some ns[i]) (some (Ek ns[i] t)) _ _ () (λz=>nomatch z) (I'.turn1 fB (st _)) (src'.at (λob e=>((st _).2 it hBi).trans e) id id) (Er _ hB' rfl) ⟨t,rfl⟩ ?_⟩;simpa only[mxOf,hlt,if_true]using h
    .simp only[hlt,decide_false,Gv,if_false];refine F7 (Jc6 ?_);rw[hname];refine F8 ⟨Kp Ep _,Tq hA hBi fit fB k (i+1) (some n) (some (Ek n t')) _ _ () (λz=>nomatch z) I' src' hB' ⟨t',rfl⟩ ?_⟩;simpa only[mxOf,hlt,if_false]using h
theorem Zj8(hc:X.calm=true):W6 X (.builtin "max") (λxs H Q=>∃(a:Addr)(ns:List Int)(n:Int),xs=[.ref a]/\SqL X.K H a (ns.map V.int)/\mxOf none ns=some n/\Q (.int n) H):=by
 intro pq s2 σ H2 xs us Q I2 r h;let⟨a,ns,n,rfl,hl,en,q⟩:=h;let⟨u,rfl,ru⟩:=Tj r;cases ru;let hname:(Jfp "max"++Jfp ".loop":String)="max.loop":=by decide
 refine call_function_tree PySem.F.kind_max PySem.F.plain_max PySem.F.entry_max (PySem.F.args_max1 _) ?_;show Cc _ X.A.in1 (L9 "max" ["key","default"] 0 ⟨[],[]⟩ >>= _) _ _ s2;refine F7 (wpAny_of_eq (show L9 "max" ["key","default"] 0 ⟨[],[]⟩=pure [none,none]from rfl) ?_);refine F7 (F8 ?_);let⟨its,rv,pl,hz⟩:=I2.list hl;refine F7 (Ku pl.isList ?_);refine F7 (Jc8 ?_ (Gc _));rw[hname];let I3:Inv X pq σ H2 {s2 with heap:=(s2.heap.push {cls:=.type "list_iterator",data:=.fields #[.ref a,.int 0 0]}).push (lst0 #[] 0)}:=I2.kept (t':=s2.toks) λb o e=>F9 _ (F9 _ e)
 let hit:FpOk X pq H2 s2.heap.objs.size:=I2.fpOk (Jd _) (I2.hok.fresh (Jd _));let hle:s2.heap.objs.size<=(s2.heap.push {cls:=.type "list_iterator",data:=.fields #[.ref a,.int 0 0]}).objs.size:=by rw[Hj];exact Bw _
 let hB:=I2.fpOk (H':=H2) hle (I2.hok.fresh hle);let nB:s2.heap.objs.size≠(s2.heap.push {cls:=.type "list_iterator",data:=.fields #[.ref a,.int 0 0]}).objs.size:=by rw[Hj];exact Gi (Fx _)
 refine F8 ⟨Kp Ep _,Tq (A:=X.A) (I2.ok.hd hc) nB hit hB ns.length 0 none none _ 0 () (λ_=>?_) I3 (.inl ⟨hl,⟨_,F9 _ (Da _ rfl),rfl,rfl⟩⟩) (Da _ rfl) trivial λs' u I' hu=>?_⟩
 .cases ns with
  |nil=>cases en
  |cons _ _=>exact Jgs _
 .rw[Ft,en]at hu;exists .int n,H2,I',hu,q
end
end L2
namespace L2
open PySem PySem.W PyProof.Rows HT PySem.Calls
def LtAt(A:K2)(s:Ca)(u v:Value)(b:Bool):Prop:=∀(prog:Ew)(w:C0)(E:Value->Ca->Prop)(Q:Value->Ca->Prop),Q (.bool b) s->Cc (Ch prog w) A (Ee .Lt u v) Q E s
def lexN:(Nat->Bool×Bool)->Nat->Nat->Bool
 |_,0,n=>decide (0<n)
 |_,_+1,0=>false
 |z,m+1,n+1=>if(z 0).1 then lexN (λj=>z (j+1)) m n else(z 0).2
section
variable{w:C0} 
def LtAt.int(i j:Int)(t u:Tok):LtAt A s (.int i t) (.int j u) (decide (i<j)):=λprog w E Q h=>wpAny_lt_int h
def Zfk{xs ys:List Value}{z:Nat->Bool×Bool}{a b:Addr}{oa ob:Obj}{na nb:Nat}{P:Jfj->Ca->Prop}(ha:s.heap.get? a=some oa)(da:oa.data=.seq xs.toArray na)(hb:s.heap.get? b=some ob)(cb:ob.cls=.type "tuple")(db:ob.data=.seq ys.toArray nb)(hz:∀(j:Nat)(h1:j<xs.length)(h2:j<ys.length),Ed A s xs[j] ys[j] (z j).1/\LtAt A s xs[j] ys[j] (z j).2)(h:P (.done (.ret (.bool (lexN z xs.length ys.length)))) s):Cc (Ch prog w) A (Builtin.«tuple.__lt__» ⟨[.ref a,.ref b],[]⟩) P E s:=by
 show Cc _ _ (Jgb (.ref b) (.type "tuple") >>= _) _ _ s;refine F7 (wpAny_isInstance ⟨ob,hb,cb⟩ isSubtype_tuple_tuple ?_);simp only[Jjh,Gv,if_false];refine F7 (Jfq ha da ?_);refine F7 (Jfq hb db ?_);refine F7 ?_;simp only[Jey];refine wpAny_forIn_list _
  (λrest r s'=>r.1=none/\s'=s/\∃(xs' ys':List Value)(z':Nat->Bool×Bool),rest=List.zip xs' ys'/\(∀(j:Nat)(h1:j<xs'.length)(h2:j<ys'.length),Ed A s xs'[j] ys'[j] (z' j).1/\LtAt A s xs'[j] ys'[j] (z' j).2)/\lexN z' xs'.length ys'.length=lexN z xs.length ys.length/\decide (xs'.length<ys'.length)=decide (xs.length<ys.length))
  _ ?_ ?_ _ _ ⟨rfl,rfl,xs,ys,z,rfl,hz,rfl,rfl⟩
 .rintro⟨u,v⟩ rest r s' ⟨hr,rfl,xs',ys',z',hq,hz',hdec,hlen⟩;cases xs' with
  |nil=>simp at hq
  |cons x xs'' =>
   cases ys' with
   |nil=>simp at hq
   |cons y ys'' =>
    simp only[F5,List.cons.injEq,Prod.mk.injEq]at hq;let⟨⟨rfl,rfl⟩,rfl⟩:=hq;let⟨h1,h2⟩:=hz' 0 (Jgs _) (Jgs _);refine F7 (h1 _ _ _ _ ?_);rw[Jz,Jz,lexN]at hdec;cases e:(z' 0).1 with
    |true =>
     rw[e,De rfl]at hdec;simp only[Jjh,Gv,if_false];exact F8 ⟨rfl,rfl,_,_,λj=>z' (j+1),rfl,λj g1 g2=>hz' (j+1) (Jg9 g1) (Jg9 g2),hdec,by simpa using hlen⟩
    |false =>
     rw[e,Dd nofun]at hdec;simp only[Bool.not_false,if_true];refine F7 (Ja9 ?_);refine F7 (h2 _ _ _ _ ?_);rw[<-hdec]at h;exact F7 (F8 (F8 (F8 h)))
 .rintro⟨r1,r2⟩ s' ⟨hr,rfl,xs',ys',z',hq,hz',hdec,hlen⟩;simp only at hr;subst hr;refine F8 ?_;let hfin:Jge Ji3.Lt xs.toArray.size ys.toArray.size=.bool (lexN z xs.length ys.length):=by
   show Lo (decide (xs.toArray.size<ys.toArray.size))=_;rw[Jm,Jm,<-hlen,<-hdec];cases xs' with
   |nil=>rfl
   |cons _ _ =>
    cases ys' with
    |nil=>rw[Jz,B0,lexN];simp
    |cons _ _=>simp at hq
  rw[hfin];exact h
def LtAt.tup{xs ys:List Value}{z:Nat->Bool×Bool}{a b:Addr}{oa ob:Obj}{na nb:Nat}(hu:A.units<cLine)(ha:s.heap.get? a=some oa)(ca:oa.cls=.type "tuple")(da:oa.data=.seq xs.toArray na)(hb:s.heap.get? b=some ob)(cb:ob.cls=.type "tuple")(db:ob.data=.seq ys.toArray nb)(hz:∀(j:Nat)(h1:j<xs.length)(h2:j<ys.length),Ed A.in1 s xs[j] ys[j] (z j).1/\LtAt A.in1 s xs[j] ys[j] (z j).2):LtAt A s (.ref a) (.ref b) (lexN z xs.length ys.length):=λprog w E Q h =>
 wpAny_richCompare_same_room (op:=.Lt) ⟨oa,ha,ca⟩ ⟨ob,hb,cb⟩ Jhu (Lf Jhu ⟨oa,ha,ca⟩ F.entry_tuple_lt (Zfk ha da hb cb db hz ⟨_,rfl,(λe=>nomatch e),h⟩) (F.args_tuple_lt_2 _ _)) hu
end
end L2
namespace PySem.SeqAt
open AutoSeq1 (wpAny_loadPart')
open MeetsSeq MeetsSeq2 MeetsSeq3 SeqRoads2
theorem Zip(l b:Addr)(items items2:Array Value)(n n2:Nat)(dd dd2:Option Addr)(sl sl2:Array (Option Value))(k:Nat) :
  ∀(i:Nat)(z:Nat->Bool×Bool),items.size-i=k->i<=items.size->i<=items2.size->Meets (Builtin.«list.__eq__.loop» ⟨[.ref l,.ref b,Hq i,Hq 0],[]⟩)
   (λA R s=>s.heap.get? l=some {cls:=.type "list",dict:=dd,data:=.seq items n,slots:=sl}/\s.heap.get? b=some {cls:=.type "list",dict:=dd2,data:=.seq items2 n2,slots:=sl2} /\
    (∀j(h1:i+j<items.size)(h2:i+j<items2.size),EqAt A.in1 s items[i+j] items2[i+j] (z j).1/\L2.LtAt A.in1 s items[i+j] items2[i+j] (z j).2) /\
    R (.ok (.ret (.bool (L2.lexN z (items.size-i) (items2.size-i))))) s):=by
 induction k with
 |zero =>
  intro i z hk hi hi' prog w A R s h;let⟨hp,g,d,tk,os⟩:=s;let⟨hl,hb,he,h⟩:=h
  wp_walk using C6 hl,C6 hb
  let hi1:items[((i:Nat):Int).toNat]?=none:=by simp;lia
  rw[hi1]
  wp_walk using C6 hl,C6 hb
  show R (.ok (.ret (.bool (decide (items.size<items2.size))))) _;rw[show items.size-i=0 by lia,L2.lexN]at h;rw[show decide (items.size<items2.size)=decide (0<items2.size-i)from decide_eq_decide.mpr ()];exact h
 |succ k ih =>
  intro i z hk hi hi' prog w A R s h;let⟨hp,g,d,tk,os⟩:=s;let⟨hl,hb,he,h⟩:=h
  wp_walk using C6 hl,C6 hb
  let hlt:i<items.size:=by lia
  let hi1:items[((i:Nat):Int).toNat]?=some items[i]:=by simp[hlt]
  let hc:((i:Int)+1)=((i+1:Nat):Int):=by push_cast;rfl
  by_cases hlt2:i<items2.size
  .let hi2:items2[((i:Nat):Int).toNat]?=some items2[i]:=by simp[hlt2]
   rw[show items.size-i=(items.size-(i+1))+1 by lia,show items2.size-i=(items2.size-(i+1))+1 by lia,L2.lexN]at h;let⟨h1,h2⟩:=he 0 hlt hlt2;rw[hi1,hi2];refine F7 (h1 prog w _ _ ?_);cases hb':(z 0).1 with
   |true =>
    rw[hb',De rfl]at h
    wp_walk
    rw[hc];exact⟨Kp plain_eq_loop _,Ht entry_eq_loop (by
     rw[Et plain_eq_loop _];exact ih (i+1) (λj=>z (j+1)) () () () prog w A R _ ⟨hl,hb,λj g1 g2=>by
      let:=he (j+1) () ();simpa only[Jjp 1 j,<-Nat.add_assoc,Nat.add_right_comm i 1 j]using this,h⟩)⟩
   |false =>
    rw[hb',Dd nofun]at h
    wp_walk using C6 hl,C6 hb
    rw[hi1,hi2];refine F7 (h2 prog w _ _ ?_)
    wp_walk
    exact h
  .let hi2:items2[((i:Nat):Int).toNat]?=none:=by simp;lia
   rw[hi1,hi2]
   wp_walk using C6 hl,C6 hb
   show R (.ok (.ret (.bool (decide (items.size<items2.size))))) _;rw[show items.size-i=(items.size-(i+1))+1 by lia,show items2.size-i=0 by lia,L2.lexN]at h;rw[Dg (show ¬ items.size<items2.size by lia)];exact h
theorem list_ltAt(l b:Addr)(items items2:Array Value)(n n2:Nat)(dd dd2:Option Addr)(sl sl2:Array (Option Value))(z:Nat->Bool×Bool) :
  Meets (Builtin.«list.__lt__» ⟨[.ref l,.ref b],[]⟩)
   (λA R s=>s.heap.get? l=some {cls:=.type "list",dict:=dd,data:=.seq items n,slots:=sl}/\s.heap.get? b=some {cls:=.type "list",dict:=dd2,data:=.seq items2 n2,slots:=sl2} /\
    (∀j(h1:j<items.size)(h2:j<items2.size),EqAt A.in1 s items[j] items2[j] (z j).1/\L2.LtAt A.in1 s items[j] items2[j] (z j).2) /\
    R (.ok (.ret (.bool (L2.lexN z items.size items2.size)))) s):=by
 intro prog w A R s h;let⟨hp,g,d,tk,os⟩:=s;let⟨hl,hb,he,h⟩:=h;let f3:=Jdz
 wp_walk using C6 hl,C6 hb
 exact⟨Kp plain_eq_loop _,Ht entry_eq_loop (by
  rw[Et plain_eq_loop _];refine Zip l b items items2 n n2 dd dd2 sl sl2 _ 0 z rfl (Gc _) (Gc _) prog w A R _ ⟨hl,hb,λj h1 h2=>?_,h⟩;let:=he j () ();simpa only[Jd6]using this)⟩
end PySem.SeqAt
namespace L2
open PySem PySem.W PyProof.Rows HT PySem.Calls
section
def LtAt.lst{items items2:Array Value}{z:Nat->Bool×Bool}{l b:Addr}(hl:s.heap.IsList l items)(hb:s.heap.IsList b items2)(hu:A.units<cLine)(hz:∀(j:Nat)(h1:j<items.size)(h2:j<items2.size),Ed A.in1 s items[j] items2[j] (z j).1/\LtAt A.in1 s items[j] items2[j] (z j).2):LtAt A s (.ref l) (.ref b) (lexN z items.size items2.size):=λprog w E Q h=>by
 let⟨⟨cls,dd,data,sl⟩,ho,hc,n,hd⟩:=id hl;let⟨⟨cls2,dd2,data2,sl2⟩,ho2,hc2,n2,hd2⟩:=id hb;simp only at hc hd hc2 hd2;subst hc hd hc2 hd2;exact richCompare_meets_room (op:=.Lt) ⟨_,ho,rfl⟩ ⟨_,ho2,rfl⟩ F.slot_list_lt F.entry_list_lt (F.args_list_lt_2 _ _) (SeqAt.list_ltAt l b items items2 n n2 dd dd2 sl sl2 z)
  ⟨ho,ho2,hz,show Lo (lexN z items.size items2.size)≠Value.notImplemented/\Q (.bool (lexN z items.size items2.size)) s from⟨(λx=>nomatch x),h⟩⟩ hu
end
section
theorem Zu3{k:Nat}(hr:Room k A):A.units+200<cLine:=by have:=hr.un;lia
end
end L2
namespace L2
open PySem PySem.Spec PyProof.Rows PySem.W
mutual
inductive LtP:PyData->PyData->Bool->Prop where
 |int (i j:Int):LtP (.int i) (.int j) (decide (i<j))
 |tup {xs ys:List PyData} {b:Bool}:LxP xs ys b->LtP (.tuple xs) (.tuple ys) b
 |lst {xs ys:List PyData} {b:Bool}:LxP xs ys b->LtP (.list xs) (.list ys) b
inductive LxP:List PyData->List PyData->Bool->Prop where
 |nn:LxP [] [] false
 |nc (y:PyData) (ys:List PyData):LxP [] (y::ys) true
 |cn (x:PyData) (xs:List PyData):LxP (x::xs) [] false
 |cc {x y:PyData} {xs ys:List PyData} {b c:Bool}:LtP x y b->LxP xs ys c->LxP (x::xs) (y::ys) (if Co x y then c else b)
end
section
mutual
theorem Ziq(I:Inv X pq σ H s):∀{d e:PyData}{b:Bool},LtP d e b->∀(x y:V)(u v:Value)(A:K2)(n:Nat),DV X.K H x d->DV X.K H y e->RelV x u->RelV y v->d.canLay0=true->e.canLay0=true->d.depth<=n->e.depth<=n->A.units+2*n+10<cLine->LtAt A s u v b:=by
 intro _ _ _ hz9;cases hz9 with
 |int i j=>
  exact λx y u v A n h1 h2 r1 r2 _ _ _ _ _=>by
    cases h1;cases h2;let⟨t,rfl⟩:=r1;let⟨t',rfl⟩:=r2;exact .int _ _ _ _
 |tup l=>
  exact λx y u v A n h1 h2 r1 r2 c1 c2 n1 n2 hu=>by
    cases h1 with
    | @tup a vs _ q1 p1 =>
     cases h2 with
     | @tup a' ws _ q2 p2 =>
      cases r1;cases r2;let⟨its,rv,⟨o,e,cl,m,dt⟩,_⟩:=I.tuple q1;let⟨its2,rv2,⟨o2,e2,cl2,m2,dt2⟩,_⟩:=I.tuple q2;rw[Kh]at n1 n2;obtain⟨k,rfl⟩:∃k,n=k+1:=⟨n-1,()⟩;let⟨z,hz,ez⟩:=lx_data I l _ _ _ _ A.in1 k p1 p2 rv rv2 (by rwa [Eu]at c1) (by rwa [Eu]at c2) () () (by show A.units+1+2*k+10<cLine;lia);let:=LtAt.tup (A:=A) (z:=z) () e cl dt e2 cl2 dt2 hz;rwa [ez]at this
 |lst l=>
  exact λx y u v A n h1 h2 r1 r2 c1 c2 n1 n2 hu=>by
    cases h1 with
    | @lst a vs _ q1 p1 =>
     cases h2 with
     | @lst a' ws _ q2 p2 =>
      cases r1;cases r2;let⟨its,rv,g1,_⟩:=I.list q1;let⟨its2,rv2,g2,_⟩:=I.list q2;rw[Kh]at n1 n2;obtain⟨k,rfl⟩:∃k,n=k+1:=⟨n-1,()⟩;let⟨z,hz,ez⟩:=lx_data I l _ _ _ _ A.in1 k p1 p2 rv rv2 (by rwa [Eu]at c1) (by rwa [Eu]at c2) () () (by show A.units+1+2*k+10<cLine;lia);let⟨o,m,e,c,_,dt⟩:=g1;let⟨o2,m2,e2,c',_,dt2⟩:=g2;let:=LtAt.lst (A:=A) (z:=z) (items:=its.toArray) (items2:=its2.toArray) ⟨o,e,c,m,dt⟩ ⟨o2,e2,c',m2,dt2⟩ () (λj h1 h2=>by simpa using hz j (by simpa using h1) (by simpa using h2));rw[Jm,Jm,ez]at this
      exact this
theorem lx_data(I:Inv X pq σ H s):∀{ds es:List PyData}{b:Bool},LxP ds es b->∀(xs ys:List V)(us vs:List Value)(A:K2)(n:Nat),DVs X.K H xs ds->DVs X.K H ys es->Vals xs us->Vals ys vs->Hd ds=true->Hd es=true->Hr ds<=n->Hr es<=n->A.units+2*n+10<cLine ->
  ∃z:Nat->Bool×Bool,(∀(j:Nat)(h1:j<us.length)(h2:j<vs.length),Ed A s us[j] vs[j] (z j).1/\LtAt A s us[j] vs[j] (z j).2)/\lexN z us.length vs.length=b
 |_,_,_,.nn=>λxs ys us vs A n h1 h2 r1 r2 _ _ _ _ _=>by
  cases h1;cases h2;cases r1;cases r2;exists λ_=>(true,true),λj h=>absurd h (G0 _),rfl
 |_,_,_,.nc y ys=>λxs ys us vs A n h1 h2 r1 r2 _ _ _ _ _=>by
  cases h1;cases h2;cases r1;cases r2;exists λ_=>(true,true),λj h=>absurd h (G0 _),rfl
 |_,_,_,.cn x xs=>λxs ys us vs A n h1 h2 r1 r2 _ _ _ _ _=>by
  cases h1;cases h2;cases r1;cases r2;exists λ_=>(true,true),λj _ h=>absurd h (G0 _),rfl
 |_,_,_,.cc (x:=x) (y:=y) (b:=b) l r=>λxs ys us vs A n h1 h2 r1 r2 c1 c2 n1 n2 hu=>by
  cases h1 with|cons p q=>?_
  cases h2 with|cons p' q'=>?_
  cases r1 with|cons rp rq=>?_
  cases r2 with|cons rp' rq'=>?_
  rw[Hd,Bu]at c1 c2;rw[Hr]at n1 n2;let⟨z,hz,ez⟩:=lx_data I r _ _ _ _ A n q q' rq rq' c1.2 c2.2 () () hu;let⟨as,ra⟩:=Vn I p rp;let⟨bs,rb⟩:=Vn I p' rp';let e1:=SeqAt.eqAt_reads _ _ A s _ _ _ _ ra rb c1.1 c2.1 (by have:=Le x.depth y.depth;lia);let e2:=Ziq I l _ _ _ _ A n p p' rp rp' c1.1 c2.1 () () ();exists λj=>match j with|0=>(Co x y,b)|j+1=>z j,λj h1 h2=>?_,?_
  .cases j with
   |zero=>exact⟨e1,e2⟩
   |succ j=>exact hz j (by simpa using h1) (by simpa using h2)
  .rw[<-ez];rfl
end
def rLtD(K:Frag):R2:=λx y H Q=>∃(d e:PyData)(b:Bool),DV K H x d/\DV K H y e/\LtP d e b/\Ej d=true/\Ej e=true/\Q (.bl b) H
theorem Zth(hu:X.A.units+200<cLine):OpR X (Ee .Lt) (rLtD X.K):=by
 intro pq s σ H x y v u Q I rx ry h;let⟨d,e,b,h1,h2,l,s1,s2,q⟩:=h;unfold Ej at s1 s2;rw[Bu,decide_eq_true_eq]at s1 s2;exact Ziq I l _ _ _ _ _ 64 h1 h2 rx ry s1.1 s2.1 s1.2 s2.2 () _ _ _ _ ⟨.bl b,H,I,rfl,q⟩
def Zco(K:Frag):V->List V->Hp->VK->Prop:=λx xs H Q=>∃(p:Addr)(zs:List Str)(z:Str)(j:Nat),x=.ref p/\xs=[.str z]/\SqL K H p (zs.map V.str)/\zs[j]?=some z/\(∀m,m<j->zs[m]?≠some z)/\zs.length<=1000/\Q (.int j) H
theorem Zim:MtR X "list.index" (Zco X.K):=by
 intro pq s σ H x xs v us Q I rx r h;let⟨p,zs,z,j,rfl,rfl,hq,hj,hm,hl,q⟩:=h;cases rx;let⟨u,rfl,ru⟩:=Tj r;let⟨t,rfl⟩:=ru;let⟨its,rv,⟨o,n,e,c,dt,hd'⟩,_⟩:=I.list hq;let⟨oc,od,oda,osl⟩:=o;dsimp only at c dt hd';subst c;subst hd';let hlen:=rv.length;rw[Ja]at hlen;let hjl:j<zs.length:=(Je.mp hj).1;let at_:∀(i:Nat)(h:i<its.length),∃t,its[i]=Mv (zs[i]'()) t:=λi h=>by
  let⟨w,e1,e2⟩:=rv.get (i:=i) (x:=V.str (zs[i]'())) (by rw[Jx,Jb ()];rfl);rw[Jb h]at e1;cases e1;exact e2
 refine Kz Kq ⟨_,e,rfl⟩ PySem.F.entry_list_index (PySem.F.args_list_index_2 _ _) (SeqAt.list_indexAt p its.toArray n od osl (.str z t) (λy=>match y with|.str x _=>x==z|_=>false) j (by simp;lia) () ?_ ?_) ⟨e,?_,?_⟩
 .let⟨t',et⟩:=at_ j ();simp only[Jep,et];rw[Jb hjl]at hj;rw[Dh hj];exact beq_self_eq_true _
 .intro m h1 h2;let h1:m<its.length:=by simpa using h1
  let⟨t',et⟩:=at_ m h1;simp only[Jep,et];refine beq_eq_false_iff_ne.mpr λe=>hm m h2 ?_;rw[Jb (),e]
 .intro y hy;let⟨i,hi,rfl⟩:=Ju (by simpa using hy:y∈its);let⟨t',et⟩:=at_ i hi;rw[et];exact Jfi _ _ _ _
 .exists .int _,H,I.tok _,⟨_,rfl⟩,q
end
end L2
namespace L3
open PySem L2
structure Cf where
 c:Addr
 k:Cm
inductive D where
 |non|bl (b:Bool)|int (i:Int)|str (x:Str)|ty (n:String)|at(a:Addr)
 |tup (xs:List D)|lst (xs:List D)|frz (xs:List D)|dct (kvs:List (Key×D))|dcT (kvs:List (List Key×D))
 |code (S:List Pr)|cell (k:Nat)|exc (C:Addr) (fs:List (Str×D))|nst (ks:List NI)|itp (x:List Int)
variable{ds:List L3.D}
inductive MO where
 |lst (xs:List D)|dct (kvs:List (Key×D))|dcT (kvs:List (List Key×D))|drK (kvs:List (Key×D))|drT (kvs:List (List Key×D))|dfT (o:Obj) (vs:List (List Key×V)) (kvs:List (List Key×D))|dfK (o:Obj) (vs:List (Key×V)) (kvs:List (Key×D))|ins (C:Addr) (fs:List (Str×D))|hand|tab (P:Addr) (pos:Pos) (q:Str)|dcN (sh:List Nat) (z:Option (Obj×List Nkv)) (kvs:List (List NI×D))
abbrev Mem:=List MO
mutual
inductive Rep(C:Cf)(I:Hp)(α:List Addr):V->D->Prop where
 |non:Rep C I α .non .non
 |bl (b:Bool):Rep C I α (.bl b) (.bl b)
 |int (i:Int):Rep C I α (.int i) (.int i)
 |str (x:Str):Rep C I α (.str x) (.str x)
 |ty (n:String):Rep C I α (.ty n) (.ty n)
 |at(a:Addr):Rep C I α (.ref a) (.at a)
 |tup {a:Addr} {vs:List V} {ds:List D}:I a=some (.tup vs)->Reps C I α vs ds->Rep C I α (.ref a) (.tup ds)
 |lst {a:Addr} {vs:List V} {ds:List D}:I a=some (.lst vs)->Reps C I α vs ds->Rep C I α (.ref a) (.lst ds)
 |frz {a:Addr} {vs:List V} {ds:List D}:SqL C.k I a vs->Reps C I α vs ds->Rep C I α (.ref a) (.frz ds)
 |dct {a:Addr} {vs:List (Key×V)} {ds:List (Key×D)}:I a=some (.dK vs)->RepK C I α vs ds->Rep C I α (.ref a) (.dct ds)
 |dcT {a:Addr} {vs:List (List Key×V)} {ds:List (List Key×D)}:I a=some (.dT vs)->RepT C I α vs ds->Rep C I α (.ref a) (.dcT ds)
 |code {x:Addr} {S:List Pr}:Uj C.c I x S->Rep C I α (.ref x) (.code S)
 |cell {a:Addr} {k:Nat}:α[k]?=some a->Rep C I α (.ref a) (.cell k)
 |exc {ea Ce:Addr} {d:Option Addr} {vs:List (Str×V)} {fs:List (Str×D)}:I ea=some (.ext (excP ea Ce d))->XD I d vs->RepF C I α vs fs->Rep C I α (.ref ea) (.exc Ce fs)
 |nst {a:Addr} {ks:List NI}:NkAt C.k I ks a->Rep C I α (.ref a) (.nst ks)
 |itp {a:Addr} {x:List Int}:SqT C.k I a (x.map V.int)->Rep C I α (.ref a) (.itp x)
inductive Reps(C:Cf)(I:Hp)(α:List Addr):List V->List D->Prop where
 |nil:Reps C I α [] []
 |cons {v:V} {d:D} {vs:List V} {ds:List D}:Rep C I α v d->Reps C I α vs ds->Reps C I α (v::vs) (d::ds)
inductive RepK(C:Cf)(I:Hp)(α:List Addr):List (Key×V)->List (Key×D)->Prop where
 |nil:RepK C I α [] []
 |cons {k:Key} {v:V} {d:D} {vs:List (Key×V)} {ds:List (Key×D)}:Rep C I α v d->RepK C I α vs ds->RepK C I α ((k,v)::vs) ((k,d)::ds)
inductive RepF(C:Cf)(I:Hp)(α:List Addr):List (Str×V)->List (Str×D)->Prop where
 |nil:RepF C I α [] []
 |cons {k:Str} {v:V} {d:D} {vs:List (Str×V)} {ds:List (Str×D)}:Rep C I α v d->RepF C I α vs ds->RepF C I α ((k,v)::vs) ((k,d)::ds)
inductive RepT(C:Cf)(I:Hp)(α:List Addr):List (List Key×V)->List (List Key×D)->Prop where
 |nil:RepT C I α [] []
 |cons {k:List Key} {v:V} {d:D} {vs:List (List Key×V)} {ds:List (List Key×D)}:Rep C I α v d->RepT C I α vs ds->RepT C I α ((k,v)::vs) ((k,d)::ds)
end
section
variable{C:Cf} 
def Zcs{k:Nat}{a:Addr}(p:α<+:α')(h:α[k]?=some a):α'[k]?=some a:=by
 let⟨t,rfl⟩:=p;let⟨hk,_⟩:=Je.mp h;rw[Jq hk];exact h
mutual
theorem Rep.mono(s:Same I I')(p:α<+:α'):∀{v:V}{d:D},Rep C I α v d->Rep C I' α' v d:=by
 intro _ _ h;cases h with
 |non=>exact .non
 |bl b=>exact .bl b
 |int i=>exact .int i
 |str x=>exact .str x
 |ty n=>exact .ty n
 |«at» a=>exact .at a
 |tup e r=>exact .tup (s _ _ e) (Reps.mono s p r)
 |lst e r=>exact .lst (s _ _ e) (Reps.mono s p r)
 |frz e r=>exact .frz (s.seq e) (Reps.mono s p r)
 |dct e r=>exact .dct (s _ _ e) (RepK.mono s p r)
 |dcT e r=>exact .dcT (s _ _ e) (RepT.mono s p r)
 |code h=>exact .code (h.same s)
 |cell e=>exact .cell (Zcs p e)
 |exc e f r=>exact .exc (s _ _ e) (f.mono s) (RepF.mono s p r)
 |nst e=>exact .nst (e.same s)
 |itp e=>exact .itp (Zlg s e)
theorem Reps.mono(s:Same I I')(p:α<+:α'):∀{vs:List V}{ds:List D},Reps C I α vs ds->Reps C I' α' vs ds:=by
 intro _ _ h;cases h with
 |nil=>exact .nil
 |cons h r=>exact .cons (Rep.mono s p h) (Reps.mono s p r)
theorem RepK.mono(s:Same I I')(p:α<+:α'):∀{vs:List (Key×V)}{ds:List (Key×D)},RepK C I α vs ds->RepK C I' α' vs ds:=by
 intro _ _ h;cases h with
 |nil=>exact .nil
 |cons h r=>exact .cons (Rep.mono s p h) (RepK.mono s p r)
theorem RepF.mono(s:Same I I')(p:α<+:α'):∀{vs:List (Str×V)}{ds:List (Str×D)},RepF C I α vs ds->RepF C I' α' vs ds:=by
 intro _ _ h;cases h with
 |nil=>exact .nil
 |cons h r=>exact .cons (Rep.mono s p h) (RepF.mono s p r)
theorem RepT.mono(s:Same I I')(p:α<+:α'):∀{vs:List (List Key×V)}{ds:List (List Key×D)},RepT C I α vs ds->RepT C I' α' vs ds:=by
 intro _ _ h;cases h with
 |nil=>exact .nil
 |cons h r=>exact .cons (Rep.mono s p h) (RepT.mono s p r)
end
theorem Reps.length:∀{vs:List V}{ds:List D},Reps C I α vs ds->vs.length=ds.length:=by
 intro _ _ hz9;cases hz9 with
 |nil=>
  exact rfl
 |cons _ r=>
  exact by rw[Jz,Jz,Reps.length r]
theorem Reps.get:∀{vs:List V}{ds:List D}{i:Nat}{d:D},Reps C I α vs ds->ds[i]?=some d->∃v,vs[i]?=some v/\Rep C I α v d
 |_,_,_,_,.nil,e=>by simp at e
 |_,_,0,_,.cons r _,e=>by simp at e;subst e;exists ·,r
 |_,_,i+1,d,.cons _ t,e=>by
  let⟨u,h1,h2⟩:=Reps.get (i:=i) (d:=d) t (by simpa using e);exists u,by simpa using h1,h2
theorem Reps.at:∀{vs:List V}{ds:List D}{i:Nat},Reps C I α vs ds->(h1:i<vs.length)->(h2:i<ds.length)->Rep C I α vs[i] ds[i]:=λ{vs ds i}r h1 h2=>by
 let⟨v,e,z⟩:=r.get (Jb h2);rw[Jb h1]at e;cases e;exact z
theorem Reps.app:∀{vs ws:List V}{ds es:List D},Reps C I α vs ds->Reps C I α ws es->Reps C I α (vs++ws) (ds++es):=by
 intro _ _ _ _ hz9 s;cases hz9 with
 |nil=>
  exact s
 |cons r t=>
  exact .cons r (Reps.app t s)
def Reps.one{d:D}(h:Rep C I α v d):Reps C I α [v] [d]:=.cons h .nil
def InvR(C:Cf)(I:Hp)(α:List Addr)(v:V):D->Prop
 |.non=>v=.non
 |.bl b=>v=.bl b
 |.int i=>v=.int i
 |.str x=>v=.str x
 |.ty n=>v=.ty n
 |.at a=>v=.ref a
 |.tup ds=>∃a vs,v=.ref a/\I a=some (.tup vs)/\Reps C I α vs ds
 |.lst ds=>∃a vs,v=.ref a/\I a=some (.lst vs)/\Reps C I α vs ds
 |.frz ds=>∃a vs,v=.ref a/\SqL C.k I a vs/\Reps C I α vs ds
 |.dct ds=>∃a vs,v=.ref a/\I a=some (.dK vs)/\RepK C I α vs ds
 |.dcT ds=>∃a vs,v=.ref a/\I a=some (.dT vs)/\RepT C I α vs ds
 |.code S=>∃x,v=.ref x/\Uj C.c I x S
 |.cell k=>∃a,v=.ref a/\α[k]?=some a
 |.exc Ce fs=>∃ea d vs,v=.ref ea/\I ea=some (.ext (excP ea Ce d))/\XD I d vs/\RepF C I α vs fs
 |.nst ks=>∃a,v=.ref a/\NkAt C.k I ks a
 |.itp x=>∃a,v=.ref a/\SqT C.k I a (x.map V.int)
theorem Rep.inv{d:D}(r:Rep C I α v d):InvR C I α v d:=by
 cases r with
 |non=>rfl
 |bl b=>rfl
 |int i=>rfl
 |str x=>rfl
 |ty n=>rfl
 |«at» a=>rfl
 |tup e r=>exact⟨_,_,rfl,e,r⟩
 |lst e r=>exact⟨_,_,rfl,e,r⟩
 |frz e r=>exact⟨_,_,rfl,e,r⟩
 |dct e r=>exact⟨_,_,rfl,e,r⟩
 |dcT e r=>exact⟨_,_,rfl,e,r⟩
 |code h=>exact⟨_,rfl,h⟩
 |cell e=>exact⟨_,rfl,e⟩
 |exc e f r=>exact⟨_,_,_,rfl,e,f,r⟩
 |nst e=>exact⟨_,rfl,e⟩
 |itp e=>exact⟨_,rfl,e⟩
def Rep.cellI{a:Addr}{k:Nat}(r:Rep C I α (.ref a) (.cell k)):α[k]?=some a:=by
 let⟨_,e,h⟩:=r.inv;cases e;exact h
def Zwk(C:Cf)(I:Hp)(α:List Addr)(vs:List V):List D->Prop
 |[]=>vs=[]
 |d::ds=>∃v us,vs=v::us/\Rep C I α v d/\Reps C I α us ds
theorem Reps.inv(r:Reps C I α vs ds):Zwk C I α vs ds:=by
 cases r with
 |nil=>rfl
 |cons h r=>exact⟨_,_,rfl,h,r⟩
def Reps.nilI(r:Reps C I α [] ds):ds=[]:=by
 cases r;rfl
@[elab_as_elim] theorem Reps.e1 {vs:List V} {d:D} {P:List V->Prop} (r:Reps C I α vs [d]) (h:∀v,Rep C I α v d->P [v]):P vs:=by
 let⟨_,_,rfl,a,r⟩:=r.inv;cases r.inv;exact h _ a
@[elab_as_elim] theorem Reps.e2 {vs:List V} {d e:D} {P:List V->Prop} (r:Reps C I α vs [d,e]) (h:∀v w,Rep C I α v d->Rep C I α w e->P [v,w]):P vs:=by
 let⟨_,_,rfl,a,r⟩:=r.inv;exact Reps.e1 (P:=λl=>P (_::l)) r λ_ b=>h _ _ a b
@[elab_as_elim] theorem Reps.e3 {vs:List V} {d e f:D} {P:List V->Prop} (r:Reps C I α vs [d,e,f]) (h:∀v w x,Rep C I α v d->Rep C I α w e->Rep C I α x f->P [v,w,x]):P vs:=by
 let⟨_,_,rfl,a,r⟩:=r.inv;exact Reps.e2 (P:=λl=>P (_::l)) r λ_ _ b c=>h _ _ _ a b c
theorem Reps.take:∀{vs:List V}{ds:List D}(n:Nat),Reps C I α vs ds->Reps C I α (vs.take n) (ds.take n)
 |_,_,0,_=>.nil
 |_,_,_+1,.nil=>.nil
 |_,_,n+1,.cons r t=>.cons r (Reps.take n t)
theorem Reps.drop:∀{vs:List V}{ds:List D}(n:Nat),Reps C I α vs ds->Reps C I α (vs.drop n) (ds.drop n)
 |_,_,0,r=>r
 |_,_,_+1,.nil=>.nil
 |_,_,n+1,.cons _ t=>Reps.drop n t
theorem Reps.set{d:D}(r:Rep C I α v d):∀{vs:List V}{ds:List D}(i:Nat),Reps C I α vs ds->Reps C I α (vs.set i v) (ds.set i d)
 |_,_,_,.nil=>.nil
 |_,_,0,.cons _ t=>.cons r t
 |_,_,i+1,.cons q t=>.cons q (Reps.set r i t)
def Reps.rev(h:Reps C I α vs ds):Reps C I α vs.reverse ds.reverse:=by
 let go:∀{vs ws:List V}{ds es:List D},Reps C I α vs ds->Reps C I α ws es->Reps C I α (vs.reverse++ws) (ds.reverse++es):=by
  intro vs
  induction vs with
  |nil=>intro ws ds es h1 h2;cases h1;exact h2
  |cons v vs ih =>
   intro ws ds es h1 h2;cases h1 with
   |cons a b =>
    rw[Fe,Gg,Fe,Gg];exact ih b (.cons a h2)
 let:=go h .nil;rwa [Gh,Gh]at this
theorem Reps.ints:∀(ns:List Int),Reps C I α (ns.map V.int) (ns.map D.int)
 |[]=>.nil
 |n::r=>.cons (.int n) (Reps.ints r)
theorem Reps.of_ints:∀{vs:List V}(ns:List Int),Reps C I α vs (ns.map D.int)->vs=ns.map V.int
 |_,[],h=>h.inv
 |_,n::r,h=>by
  let⟨_,_,rfl,a,b⟩:=h.inv;rw[Reps.of_ints r b,a.inv];rfl
end
variable{M:L3.Mem}
def RepN(C:Cf)(I:Hp)(α:List Addr):List Nkv->List (List NI×D)->Prop:=Paired λp q=>p.1=q.1/\Rep C I α p.2.2 q.2
def Zks(C:Cf)(I:Hp)(sh:List Nat)(vs:List Nkv):Prop:=∀x∈vs,NkAt C.k I x.1 x.2.1/\x.1.map NI.sh=sh
def RepN.mono{C:Cf}{vs:List Nkv}{ds:List (List NI×D)}(h:RepN C I α vs ds)(s:Same I I')(p:α<+:α'):RepN C I' α' vs ds:=Paired.mapP h λ_ _ z=>⟨z.1,z.2.mono s p⟩
def Zks.mono{C:Cf}{sh:List Nat}{vs:List Nkv}(h:Zks C I sh vs)(s:Same I I'):Zks C I' sh vs:=λx hx=>⟨(h x hx).1.same s,(h x hx).2⟩
def MoAt(C:Cf)(I:Hp)(α:List Addr)(H:Hp)(a:Addr):MO->Prop
 |.lst ds=>∃vs,H a=some (.lst vs)/\Reps C I α vs ds
 |.dct ds=>∃vs,H a=some (.dK vs)/\RepK C I α vs ds
 |.dcT ds=>∃vs,H a=some (.dT vs)/\RepT C I α vs ds
 |.drK ds=>∃vs,Rd H a (.dK vs)/\RepK C I α vs ds
 |.drT ds=>∃vs,Rd H a (.dT vs)/\RepT C I α vs ds
 |.dfT o vs ds=>H a=some (.frz o (.dT vs))/\RepT C I α vs ds
 |.dfK o vs ds=>H a=some (.frz o (.dK vs))/\RepK C I α vs ds
 |.ins Cl fs=>∃dx vs,H a=some (.ins Cl dx vs)/\Paired (λ(p:Str×V)(q:Str×D)=>p.1=q.1/\Rep C I α p.2 q.2) vs fs
 |.hand=>∃(d k:Int)(c:Addr)(cs:List Int),H a=some (.lst [.int d,.int k,.ref c])/\I c=some (.lst (cs.map V.int))/\cs≠[]/\cs.length<=63/\0<=d/\0<=k/\∀c∈cs,0<=c
 |.dcN sh none ds=>∃vs,H a=some (.ext (dnP a vs))/\Zks C I sh vs/\RepN C I α vs ds
 |.dcN sh (some z) ds=>H a=some (.frz z.1 (.ext (dnP a z.2)))/\Zks C I sh z.2/\RepN C I α z.2 ds
 |.tab P pos q=>a=P/\∃ps,H a=some (.tbl ps)/\TriplesOk ps.toList/\(Jhp pos ps.toList=none\/∃c,Jhp pos ps.toList=some (.ref c)/\I c=some (codeφ c q))
theorem MoAt.some{C:Cf}{a:Addr}{m:MO}(h:MoAt C I α H a m):∃o,H a=some o:=by
 cases m with
 |lst ds=>obtain⟨vs,e,_⟩:=h;exists _,e
 |dct ds=>obtain⟨vs,e,_⟩:=h;exists _,e
 |dcT ds=>obtain⟨vs,e,_⟩:=h;exists _,e
 |drK ds=>obtain⟨vs,e,_⟩:=h;rcases e with e|⟨o,e⟩<;>exact⟨_,e⟩
 |drT ds=>obtain⟨vs,e,_⟩:=h;rcases e with e|⟨o,e⟩<;>exact⟨_,e⟩
 |dfT o vs ds=>exact⟨_,h.1⟩
 |dfK o vs ds=>exact⟨_,h.1⟩
 |ins Cl fs=>obtain⟨dx,vs,e,_⟩:=h;exists _,e
 |hand=>obtain⟨d,k,c,cs,e,_⟩:=h;exists _,e
 |tab P pos q=>obtain⟨_,ps,e,_⟩:=h;exists _,e
 |dcN sh z ds=>cases z with|none=>obtain⟨vs,e,_⟩:=h;exact⟨_,e⟩|some z=>exact⟨_,h.1⟩
theorem MoAt.mono{C:Cf}{a:Addr}{m:MO}(h:MoAt C I α H a m)(s:Same I I')(p:α<+:α')(e:H' a=H a):MoAt C I' α' H' a m:=by
 cases m with
 |lst ds=>obtain⟨vs,e1,r⟩:=h;exists vs,e.trans e1,r.mono s p
 |dct ds=>obtain⟨vs,e1,r⟩:=h;exists vs,e.trans e1,r.mono s p
 |dcT ds=>obtain⟨vs,e1,r⟩:=h;exists vs,e.trans e1,r.mono s p
 |drK ds=>obtain⟨vs,e1,r⟩:=h;exists vs,e1.imp (λz=>e.trans z) (λ⟨o,z⟩=>⟨o,e.trans z⟩),r.mono s p
 |drT ds=>obtain⟨vs,e1,r⟩:=h;exists vs,e1.imp (λz=>e.trans z) (λ⟨o,z⟩=>⟨o,e.trans z⟩),r.mono s p
 |dfT o vs ds=>exact⟨e.trans h.1,h.2.mono s p⟩
 |dfK o vs ds=>exact⟨e.trans h.1,h.2.mono s p⟩
 |ins Cl fs=>obtain⟨dx,vs,e1,r⟩:=h;exists dx,vs,e.trans e1,Paired.mapP r λ_ _ z=>⟨z.1,z.2.mono s p⟩
 |hand=>obtain⟨d,k,c,cs,e1,e2,r⟩:=h;exists d,k,c,cs,e.trans e1,s _ _ e2,r
 |tab P pos q =>
  let⟨eP,ps,e1,t,r⟩:=h;exists eP,ps,e.trans e1,t,?_;rcases r with r|⟨c,r1,r2⟩
  .exact .inl r
  .exact .inr ⟨c,r1,s _ _ r2⟩
 |dcN sh z ds=>cases z with
  |none=>obtain⟨vs,e1,k,r⟩:=h;exists vs,e.trans e1,k.mono s,r.mono s p
  |some z=>obtain⟨e1,k,r⟩:=h;exists e.trans e1,k.mono s,r.mono s p
abbrev X3:=Addr->List (Str×D)->Mem->Prop
structure Anc where
 i:Hp
 a:List Addr
 xe:XK
 kx:X3
variable{Z Z':L3.Anc}
structure Rel(C:Cf)(Z:Anc)(I:Hp)(α:List Addr)(H:Hp)(M:Mem):Prop where
 ai:Same Z.i I
 aa:Z.a<+:α
 sub:Same I H
 len:α.length=M.length
 nd:α.Nodup
 cel:∀(k:Nat)(a:Addr)(m:MO),α[k]?=some a->M[k]?=some m->MoAt C I α H a m/\I a=none
section
variable{C:Cf} 
def Rel.get(R:Rel C Z I α H M){k:Nat}{m:MO}(h:M[k]?=some m):∃a,α[k]?=some a/\MoAt C I α H a m/\I a=none:=by
 let⟨hk,_⟩:=Je.mp h;let hk':k < α.length:=by rw[R.len];exact hk
 exists α[k],Jb hk',R.cel k _ m (Jb hk') h
def Rel.cellNe(R:Rel C Z I α H M){k:Nat}{a p:Addr}(h:α[k]?=some a)(hp:H p=none):a≠p:=by
 let⟨hk,_⟩:=Je.mp h;let hk':k<M.length:=by rw[<-R.len];exact hk
 let⟨o,e⟩:=(R.cel k a _ h (Jb hk')).1.some;exact Zr e hp
def Rel.new(R:Rel C Z I α H M){p:Addr}(hp:H p=none):Rel C Z (upd I p o) α (upd H p o) M/\Same I (upd I p o)/\(upd I p o) p=some o:=by
 let ip:I p=none:=R.sub.free hp;let s:Same I (upd I p o):=Ze ip;exists⟨R.ai.trans s,R.aa,λb u h=>?_,R.len,R.nd,λk a m h1 h2=>?_⟩,s,Zg
 .by_cases e:b=p
  .subst e;rw[Zg]at h⊢;exact h
  .rw[Zn e]at h⊢;exact R.sub b u h
 .let⟨a1,a2⟩:=R.cel k a m h1 h2;let ne:=R.cellNe h1 hp;exact⟨a1.mono s (Jh _) (Zn ne),by rw[Zn ne];exact a2⟩
theorem Rel.cell(R:Rel C Z I α H M){p:Addr}{o:HO}{m:MO}(hp:H p=none)(hm:∀H',H' p=some o->MoAt C I α H' p m):Rel C Z I (α++[p]) (upd H p o) (M++[m])/\α<+:(α++[p])/\(α++[p])[M.length]?=some p:=by
 let ip:I p=none:=R.sub.free hp;refine⟨⟨R.ai,R.aa.trans (Jv _ _),λb u h=>?_,by rw[Jc,Jc,R.len];rfl,?_,λk a x h1 h2=>?_⟩,Jv _ _,by rw[<-R.len];simp⟩
 .let ne:b≠p:=λe=>by rw[e,ip]at h;cases h
  rw[Zn ne];exact R.sub b u h
 .rw[Gu];exists R.nd,by simp,λa ha b hb=>?_;let⟨k,hk,rfl⟩:=Ju ha;rw[Jj.mp hb];exact R.cellNe (Jb hk) hp
 .by_cases hk:k < α.length
  .rw[Jq hk]at h1;rw[Jq (by rw[<-R.len];exact hk)]at h2;let⟨a1,a2⟩:=R.cel k a x h1 h2;exists a1.mono (.refl _) (Jv _ _) (Zn (R.cellNe h1 hp)),a2
  .let⟨hk2,_⟩:=Je.mp h1;rw[Jc,Gp]at hk2;let e:k=α.length:=by lia
   subst e;let e1:(α++[p])[α.length]?=some p:=by simp
   let e2:(M++[m])[α.length]?=some m:=by rw[R.len];simp
   rw[e1]at h1;rw[e2]at h2;cases h1;cases h2;exists(hm _ Zg).mono (.refl _) (Jv _ _) rfl,ip
def Rel.put(R:Rel C Z I α H M){k:Nat}{a:Addr}{m:MO}(ha:α[k]?=some a)(hm:∀H',H' a=some o->MoAt C I α H' a m):Rel C Z I α (upd H a o) (M.set k m):=by
 let⟨hk,ea⟩:=Je.mp ha;let hkM:k<M.length:=by rw[<-R.len];exact hk
 let ia:I a=none:=(R.cel k a _ ha (Jb hkM)).2;exists R.ai,R.aa,λb u h=>?_,by rw[Go];exact R.len,R.nd,λj b x h1 h2=>?_
 .let ne:b≠a:=λe=>by rw[e,ia]at h;cases h
  rw[Zn ne];exact R.sub b u h
 .by_cases e:k=j
  .subst e;rw[ha]at h1;cases h1;rw[J0 hkM]at h2;cases h2;exists hm _ Zg,ia
  .rw[Ga e]at h2;let⟨a1,a2⟩:=R.cel j b x h1 h2;let⟨hj,eb⟩:=Je.mp h1;let ne:b≠a:=λz=>e (by
    rw[<-ea,<-eb]at z;exact((G3 R.nd).mp z).symm)
   exists a1.mono (.refl _) (Jh _) (Zn ne),a2
end
abbrev Ev:=List (Option D)
variable{ρ:L3.Ev}
abbrev K3:=D->Mem->Prop
abbrev TE3:=Ev->Mem->K3->Prop
variable{ua ub uo:L3.TE3}
abbrev TT3:=Ev->Mem->(Bool->Mem->Prop)->Prop
abbrev TA3:=Ev->Mem->(List D->Mem->Prop)->Prop
abbrev TO3:=Ev->Mem->(Option Int->Mem->Prop)->Prop
abbrev R3:=D->D->Mem->K3->Prop
structure Ends3 where
 nx:Ev->Mem->Prop
 rt:K3
 bk:Ev->Mem->Prop:=λ_ _=>False
 ct:Ev->Mem->Prop:=λ_ _=>False
abbrev TS3:=Ends3->Ev->Mem->Prop
abbrev TG3:=D->Ev->Mem->(Ev->Mem->Prop)->Prop
abbrev TGs3:=List D->Ev->Mem->(Ev->Mem->Prop)->Prop
def RepE(C:Cf)(I:Hp)(α:List Addr)(σ:St)(ρ:Ev):Prop:=σ.length=ρ.length/\∀(i:Nat)(d:D),ρ[i]?=some (some d)->∃v,σ[i]?=some (some v)/\Rep C I α v d
def RepE.mono{C:Cf}(h:RepE C I α σ ρ)(s:Same I I')(p:α<+:α'):RepE C I' α' σ ρ :=
 ⟨h.1,λi d e=>let⟨v,a,b⟩:=h.2 i d e;⟨v,a,b.mono s p⟩⟩
theorem RepE.set{C:Cf}(h:RepE C I α σ ρ){d:D}(r:Rep C I α v d)(i:Nat):RepE C I α (σ.set i (some v)) (ρ.set i (some d)):=by
 exists by rw[Go,Go];exact h.1,λj e q=>?_
 by_cases z:i=j
 .subst z
  by_cases hl:i < ρ.length
  .rw[J0 hl]at q;cases q;exists v,J0 (by rw[h.1];exact hl),r
  .rw[Fl (by rw[Go];lia)]at q;cases q
 .rw[Ga z]at q⊢;exact h.2 j e q
def Fin(C:Cf)(Z:Anc)(I:Hp)(α:List Addr)(K:K3)(Q:VK):Prop:=∀v d I' α' H' M',Same I I'->α<+:α'->Rel C Z I' α' H' M'->Rep C I' α' v d->K d M'->Q v H'
def Fin.on{C:Cf}{K:K3}{d:D}(k:Fin C Z I α K Q)(s:Same I I')(R:Rel C Z I' α H M)(r:Rep C I' α v d)(h:K d M):Q v H:=k v d I' α H M s (Jh _) R r h
def Fin.now{C:Cf}{K:K3}{d:D}(k:Fin C Z I α K Q)(R:Rel C Z I α H M)(r:Rep C I α v d)(h:K d M):Q v H:=k.on (.refl _) R r h
def Fin.mono{C:Cf}{K:K3}(h:Fin C Z I α K Q)(s:Same I I')(p:α<+:α'):Fin C Z I' α' K Q:=λv d I2 α2 H2 M2 s2 p2=>h v d I2 α2 H2 M2 (s.trans s2) (p.trans p2)
def SimE(C:Cf)(Z:Anc)(t:TE)(u:TE3):Prop:=∀I α σ H ρ M(K:K3)(Q:VK),Rel C Z I α H M->RepE C I α σ ρ->u ρ M K->Fin C Z I α K Q->t σ H Q
def SimT(C:Cf)(Z:Anc)(t:TT)(u:TT3):Prop:=∀I α σ H ρ M(K:Bool->Mem->Prop)(Q:Bool->Hp->Prop),Rel C Z I α H M->RepE C I α σ ρ->u ρ M K ->
 (∀b I' α' H' M',Same I I'->α<+:α'->Rel C Z I' α' H' M'->K b M'->Q b H')->t σ H Q
def SimA(C:Cf)(Z:Anc)(t:TA)(u:TA3):Prop:=∀I α σ H ρ M(K:List D->Mem->Prop)(Q:List V->Hp->Prop),Rel C Z I α H M->RepE C I α σ ρ->u ρ M K ->
 (∀vs ds I' α' H' M',Same I I'->α<+:α'->Rel C Z I' α' H' M'->Reps C I' α' vs ds->K ds M'->Q vs H')->t σ H Q
def SimO(C:Cf)(Z:Anc)(t:TO)(u:TO3):Prop:=∀I α σ H ρ M(K:Option Int->Mem->Prop)(Q:Option Int->Hp->Prop),Rel C Z I α H M->RepE C I α σ ρ->u ρ M K ->
 (∀b I' α' H' M',Same I I'->α<+:α'->Rel C Z I' α' H' M'->K b M'->Q b H')->t σ H Q
def SimR(C:Cf)(Z:Anc)(r:R2)(u:R3):Prop:=∀I α H M x y d e(K:K3)(Q:VK),Rel C Z I α H M->Rep C I α x d->Rep C I α y e->u d e M K->Fin C Z I α K Q->r x y H Q
def SimU(C:Cf)(Z:Anc)(r:V->Hp->VK->Prop)(u:D->Mem->K3->Prop):Prop:=∀I α H M x d(K:K3)(Q:VK),Rel C Z I α H M->Rep C I α x d->u d M K->Fin C Z I α K Q->r x H Q
def SimC(C:Cf)(Z:Anc)(r:List V->Hp->VK->Prop)(u:List D->Mem->K3->Prop):Prop:=∀I α H M xs ds(K:K3)(Q:VK),Rel C Z I α H M->Reps C I α xs ds->u ds M K->Fin C Z I α K Q->r xs H Q
def SimL(C:Cf)(Z:Anc)(r:V->Option Int->Option Int->Hp->VK->Prop)(u:D->Option Int->Option Int->Mem->K3->Prop):Prop:=∀I α H M x d lo hi(K:K3)(Q:VK),Rel C Z I α H M->Rep C I α x d->u d lo hi M K->Fin C Z I α K Q->r x lo hi H Q
def FinS(C:Cf)(Z:Anc)(I:Hp)(α:List Addr)(K:Ev->Mem->Prop)(Q:St->Hp->Prop):Prop:=∀I' α' σ' H' ρ' M',Same I I'->α<+:α'->Rel C Z I' α' H' M'->RepE C I' α' σ' ρ'->K ρ' M'->Q σ' H'
def FinS.mono{C:Cf}{K:Ev->Mem->Prop}{Q:St->Hp->Prop}(h:FinS C Z I α K Q)(s:Same I I')(p:α<+:α'):FinS C Z I' α' K Q:=λI2 α2 σ2 H2 ρ2 M2 s2 p2=>h I2 α2 σ2 H2 ρ2 M2 (s.trans s2) (p.trans p2)
structure FinD(C:Cf)(Z:Anc)(I:Hp)(α:List Addr)(E:Ends3)(D':Ends):Prop where
 nx:FinS C Z I α E.nx D'.nx
 rt:Fin C Z I α E.rt D'.rt
 bk:FinS C Z I α E.bk D'.bk
 ct:FinS C Z I α E.ct D'.ct
def FinD.mono{C:Cf}{E:Ends3}{D':Ends}(h:FinD C Z I α E D')(s:Same I I')(p:α<+:α'):FinD C Z I' α' E D':=⟨h.nx.mono s p,h.rt.mono s p,h.bk.mono s p,h.ct.mono s p⟩
def SimS(C:Cf)(Z:Anc)(t:TS)(u:TS3):Prop:=∀I α σ H ρ M(E:Ends3)(D':Ends),Rel C Z I α H M->RepE C I α σ ρ->u E ρ M->FinD C Z I α E D'->t D' σ H
def SimG(C:Cf)(Z:Anc)(t:TG)(u:TG3):Prop:=∀I α σ H ρ M v d(K:Ev->Mem->Prop)(Q:St->Hp->Prop),Rel C Z I α H M->RepE C I α σ ρ->Rep C I α v d->u d ρ M K->FinS C Z I α K Q->t v σ H Q
def Zmr(C:Cf)(Z:Anc)(t:TGs)(u:TGs3):Prop:=∀I α σ H ρ M vs ds(K:Ev->Mem->Prop)(Q:St->Hp->Prop),Rel C Z I α H M->RepE C I α σ ρ->Reps C I α vs ds->u ds ρ M K->FinS C Z I α K Q->t vs σ H Q
section
variable{C:Cf}{tA tB':TT}{uA uB:TT3}{t:TA}{u:TA3}
inductive uVar(i:Nat)(ρ:Ev)(M:Mem)(K:K3):Prop
 |mk:∀d,ρ[i]?=some (some d)->K d M->uVar i ρ M K
def Zf(i:Nat):SimE C Z (tVar i) (uVar i):=λI α σ H ρ M K Q R E h k=>by
 let⟨d,e,h⟩:=h;let⟨v,e2,r⟩:=E.2 i d e;exists v,e2,k v d I α H M (.refl _) (Jh _) R r h
abbrev uC(d:D):TE3:=λ_ M K=>K d M
def Jbu{d:D}(r:∀I α,Rep C I α v d):SimE C Z (tC v) (uC d):=λI α σ H ρ M K Q R E h k=>k v d I α H M (.refl _) (Jh _) R (r I α) h
def Zu{i:Int}:SimE C Z (tC (.int i)) (uC (.int i)):=Jbu λ_ _=>.int i
def s_bl{i:Bool}:SimE C Z (tC (.bl i)) (uC (.bl i)):=Jbu λ_ _=>.bl i
def Zhm:SimE C Z (tC .non) (uC .non):=Jbu λ_ _=>.non
def Rg{i:Str}:SimE C Z (tC (.str i)) (uC (.str i)):=Jbu λ_ _=>.str i
def s_ty{i:String}:SimE C Z (tC (.ty i)) (uC (.ty i)):=Jbu λ_ _=>.ty i
abbrev Zgo(u:R3)(K:K3)(d:D):D->Mem->Prop:=λe M2=>u d e M2 K
abbrev Zgp(u:R3)(ub:TE3)(ρ:Ev)(K:K3):D->Mem->Prop:=λd M1=>ub ρ M1 (Zgo u K d)
def uOp(u:R3)(ua ub:TE3):TE3:=λρ M K=>ua ρ M (Zgp u ub ρ K)
def s_op{u:R3}(hr:SimR C Z r u)(ha:SimE C Z ta ua)(hb:SimE C Z tb ub):SimE C Z (tOp r ta tb) (uOp u ua ub):=λI α σ H ρ M K Q R E h k =>
 ha I α σ H ρ M _ _ R E h λv d I1 α1 H1 M1 s1 p1 R1 r1 h1 =>
  hb I1 α1 σ H1 ρ M1 _ _ R1 (E.mono s1 p1) h1 λw e I2 α2 H2 M2 s2 p2 R2 r2 h2 =>
   hr I2 α2 H2 M2 v w d e K Q R2 (r1.mono s2 p2) r2 h2 (k.mono (s1.trans s2) (p1.trans p2))
abbrev Zgk(u:D->Mem->K3->Prop)(K:K3):D->Mem->Prop:=λd M1=>u d M1 K
def uUn(u:D->Mem->K3->Prop)(ua:TE3):TE3:=λρ M K=>ua ρ M (Zgk u K)
def s_un{r:V->Hp->VK->Prop}{u:D->Mem->K3->Prop}(hr:SimU C Z r u)(ha:SimE C Z ta ua):SimE C Z (tUn r ta) (uUn u ua):=λI α σ H ρ M K Q R E h k =>
 ha I α σ H ρ M _ _ R E h λv d I1 α1 H1 M1 s1 p1 R1 r1 h1=>hr I1 α1 H1 M1 v d K Q R1 r1 h1 (k.mono s1 p1)
def D.isN:D->Bool|.non=>true|_=>false
def Zi6{d:D}(h:Rep C I α v d):decide (v=.non)=d.isN:=by cases h<;>simp[D.isN]
abbrev Zrl(K:K3):D->Mem->Prop:=λd M1=>K (.bl d.isN) M1
def uIsN(ua:TE3):TE3:=λρ M K=>ua ρ M (Zrl K)
abbrev Zn8(K:K3):D->Mem->Prop:=λd M1=>K (.bl (!d.isN)) M1
def Zvd(ua:TE3):TE3:=λρ M K=>ua ρ M (Zn8 K)
def Zsp(ha:SimE C Z ta ua):SimE C Z (tIsN ta) (uIsN ua):=λI α σ H ρ M K Q R E h k =>
 ha I α σ H ρ M _ _ R E h λv d I1 α1 H1 M1 s1 p1 R1 r1 h1=>by
  rw[Zi6 r1];exact k _ _ I1 α1 H1 M1 s1 p1 R1 (.bl _) h1
def Zm7(ha:SimE C Z ta ua):SimE C Z (Zr6 ta) (Zvd ua):=λI α σ H ρ M K Q R E h k =>
 ha I α σ H ρ M _ _ R E h λv d I1 α1 H1 M1 s1 p1 R1 r1 h1=>by
  rw[Zi6 r1];exact k _ _ I1 α1 H1 M1 s1 p1 R1 (.bl _) h1
inductive uB3_1(K:Bool->Mem->Prop)(d:D)(M1:Mem):Prop
 |mk:∀c,d=.bl c->K c M1->uB3_1 K d M1
def uB3(ua:TE3):TT3:=λρ M K=>ua ρ M (uB3_1 K)
def s_b(ha:SimE C Z ta ua):SimT C Z (tB ta) (uB3 ua):=λI α σ H ρ M K Q R E h k =>
 ha I α σ H ρ M _ _ R E h λv d I1 α1 H1 M1 s1 p1 R1 r1 h1=>by
  let⟨c,e,h1⟩:=h1;subst e;cases r1.inv;exists c,rfl,k c I1 α1 H1 M1 s1 p1 R1 h1
def Yx(ha:SimE C Z ta ua):SimT C Z (Zoo ta) (uB3 ua):=s_b ha
abbrev Zrv(uB:TT3)(ρ:Ev)(K:Bool->Mem->Prop):Bool->Mem->Prop:=λc M1=>if c=true then uB ρ M1 K else K false M1
def uAnd(uA uB:TT3):TT3:=λρ M K=>uA ρ M (Zrv uB ρ K)
abbrev Zvb(uB:TT3)(ρ:Ev)(K:Bool->Mem->Prop):Bool->Mem->Prop:=λc M1=>if c=true then K true M1 else uB ρ M1 K
def uOr(uA uB:TT3):TT3:=λρ M K=>uA ρ M (Zvb uB ρ K)
abbrev Zrf(K:Bool->Mem->Prop):Bool->Mem->Prop:=λc M1=>K (!c) M1
def uNot(uA:TT3):TT3:=λρ M K=>uA ρ M (Zrf K)
def Zsv(ha:SimT C Z tA uA)(hb:SimT C Z tB' uB):SimT C Z (tAnd tA tB') (uAnd uA uB):=λI α σ H ρ M K Q R E h k =>
 ha I α σ H ρ M _ _ R E h λc I1 α1 H1 M1 s1 p1 R1 h1=>by
  cases c with
  |true =>
   exact hb I1 α1 σ H1 ρ M1 _ _ R1 (E.mono s1 p1) h1 λb I2 α2 H2 M2 s2 p2 R2 h2=>k b I2 α2 H2 M2 (s1.trans s2) (p1.trans p2) R2 h2
  |false =>
   exact k false I1 α1 H1 M1 s1 p1 R1 h1
def s_or(ha:SimT C Z tA uA)(hb:SimT C Z tB' uB):SimT C Z (tOr tA tB') (uOr uA uB):=λI α σ H ρ M K Q R E h k =>
 ha I α σ H ρ M _ _ R E h λc I1 α1 H1 M1 s1 p1 R1 h1=>by
  cases c with
  |false =>
   exact hb I1 α1 σ H1 ρ M1 _ _ R1 (E.mono s1 p1) h1 λb I2 α2 H2 M2 s2 p2 R2 h2=>k b I2 α2 H2 M2 (s1.trans s2) (p1.trans p2) R2 h2
  |true =>
   exact k true I1 α1 H1 M1 s1 p1 R1 h1
def Ri(ha:SimT C Z tA uA):SimT C Z (tNot tA) (uNot uA):=λI α σ H ρ M K Q R E h k =>
 ha I α σ H ρ M _ _ R E h λc I1 α1 H1 M1 s1 p1 R1 h1=>k _ I1 α1 H1 M1 s1 p1 R1 h1
inductive uAndV_1(ub:TE3)(ρ:Ev)(K:K3)(d:D)(M1:Mem):Prop
 |mk:∀c,d=.bl c->(if c=true then ub ρ M1 K else K (.bl false) M1)->uAndV_1 ub ρ K d M1
def Zvs(ua ub:TE3):TE3:=λρ M K=>ua ρ M (uAndV_1 ub ρ K)
inductive uNotV_1(K:K3)(d:D)(M1:Mem):Prop
 |mk:∀c,d=.bl c->K (.bl (!c)) M1->uNotV_1 K d M1
def Zvc(ua:TE3):TE3:=λρ M K=>ua ρ M (uNotV_1 K)
def Zsu(ha:SimE C Z ta ua)(hb:SimE C Z tb ub):SimE C Z (Zsb ta tb) (Zvs ua ub):=λI α σ H ρ M K Q R E h k =>
 ha I α σ H ρ M _ _ R E h λv d I1 α1 H1 M1 s1 p1 R1 r1 h1=>by
  let⟨c,e,h1⟩:=h1;subst e;cases r1.inv;exists c,rfl,?_;cases c with
  |true =>
   exact hb I1 α1 σ H1 ρ M1 _ _ R1 (E.mono s1 p1) h1 (k.mono s1 p1)
  |false =>
   exact k _ _ I1 α1 H1 M1 s1 p1 R1 (.bl _) h1
def Zsj(ha:SimE C Z ta ua):SimE C Z (Zr5 ta) (Zvc ua):=λI α σ H ρ M K Q R E h k =>
 ha I α σ H ρ M _ _ R E h λv d I1 α1 H1 M1 s1 p1 R1 r1 h1=>by
  let⟨c,e,h1⟩:=h1;subst e;cases r1.inv;exists c,rfl,k _ _ I1 α1 H1 M1 s1 p1 R1 (.bl _) h1
abbrev uNil:TA3:=λ_ M K=>K [] M
abbrev Qb(K:List D->Mem->Prop)(d:D):List D->Mem->Prop:=λds M2=>K (d::ds) M2
abbrev T6(u:TA3)(ρ:Ev)(K:List D->Mem->Prop):D->Mem->Prop:=λd M1=>u ρ M1 (Qb K d)
def Zvo(ua:TE3)(u:TA3):TA3:=λρ M K=>ua ρ M (T6 u ρ K)
def Zo:SimA C Z tNil uNil:=λI α σ H ρ M K Q R E h k=>k [] [] I α H M (.refl _) (Jh _) R .nil h
def Zb(ha:SimE C Z ta ua)(hr:SimA C Z t u):SimA C Z (Zop ta t) (Zvo ua u):=λI α σ H ρ M K Q R E h k =>
 ha I α σ H ρ M _ _ R E h λv d I1 α1 H1 M1 s1 p1 R1 r1 h1 =>
  hr I1 α1 σ H1 ρ M1 _ _ R1 (E.mono s1 p1) h1 λvs ds I2 α2 H2 M2 s2 p2 R2 r2 h2 =>
   k (v::vs) (d::ds) I2 α2 H2 M2 (s1.trans s2) (p1.trans p2) R2 (.cons (r1.mono s2 p2) r2) h2
abbrev Zrc(K:K3):List D->Mem->Prop:=λds M1=>ds.length<=sizeLine/\K (.tup ds) M1
def uTup(u:TA3):TE3:=λρ M K=>u ρ M (Zrc K)
def Vg(ha:SimA C Z t u):SimE C Z (tTup t) (uTup u):=λI α σ H ρ M K Q R E h k =>
 ha I α σ H ρ M _ _ R E h λvs ds I1 α1 H1 M1 s1 p1 R1 r1 h1=>by
  exists by rw[r1.length];exact h1.1,λp hp=>?_;let⟨R2,s2,e2⟩:=R1.new (o:=.tup vs) hp;exact k _ _ _ α1 _ M1 (s1.trans s2) p1 R2 (.tup e2 (r1.mono s2 (Jh _))) h1.2
abbrev Zrk(K:K3):List D->Mem->Prop:=λds M1=>ds.length<=sizeLine/\K (.lst ds) M1
def uLst(u:TA3):TE3:=λρ M K=>u ρ M (Zrk K)
def V1(ha:SimA C Z t u):SimE C Z (tLst t) (uLst u):=λI α σ H ρ M K Q R E h k =>
 ha I α σ H ρ M _ _ R E h λvs ds I1 α1 H1 M1 s1 p1 R1 r1 h1=>by
  exists by rw[r1.length];exact h1.1,λp hp=>?_;let⟨R2,s2,e2⟩:=R1.new (o:=.lst vs) hp;exact k _ _ _ α1 _ M1 (s1.trans s2) p1 R2 (.lst e2 (r1.mono s2 (Jh _))) h1.2
abbrev Zoa(K:K3):List D->Mem->Prop:=λds M1=>ds.length<=sizeLine/\K (.cell M1.length) (M1++[.lst ds])
def Zvf(u:TA3):TE3:=λρ M K=>u ρ M (Zoa K)
def Sx(ha:SimA C Z t u):SimE C Z (tLst t) (Zvf u):=λI α σ H ρ M K Q R E h k =>
 ha I α σ H ρ M _ _ R E h λvs ds I1 α1 H1 M1 s1 p1 R1 r1 h1=>by
  exists by rw[r1.length];exact h1.1,λp hp=>?_;let⟨R2,p2,e2⟩:=R1.cell (o:=.lst vs) (m:=.lst ds) hp λH' e=>⟨vs,e,r1⟩;exact k _ _ I1 _ _ _ s1 (p1.trans p2) R2 (.cell e2) h1.2
abbrev Zfh(r:List D->Mem->K3->Prop)(K:K3):List D->Mem->Prop:=λds M1=>r ds M1 K
def uCB(r:List D->Mem->K3->Prop)(u:TA3):TE3:=λρ M K=>u ρ M (Zfh r K)
def s_cb{r:List V->Hp->VK->Prop}{r3:List D->Mem->K3->Prop}(hr:SimC C Z r r3)(ha:SimA C Z t u):SimE C Z (tCB r t) (uCB r3 u):=λI α σ H ρ M K Q R E h k =>
 ha I α σ H ρ M _ _ R E h λvs ds I1 α1 H1 M1 s1 p1 R1 r1 h1=>hr I1 α1 H1 M1 vs ds K Q R1 r1 h1 (k.mono s1 p1)
abbrev Zcb:TO3:=λ_ M K=>K none M
inductive uPart_1(K:Option Int->Mem->Prop)(d:D)(M1:Mem):Prop
 |mk:∀i,d=.int i->K (some i) M1->uPart_1 K d M1
def Zva(ua:TE3):TO3:=λρ M K=>ua ρ M (uPart_1 K)
def X4:SimO C Z Zgy Zcb:=λI α σ H ρ M K Q R E h k=>k none I α H M (.refl _) (Jh _) R h
def Wi(ha:SimE C Z ta ua):SimO C Z (Zr4 ta) (Zva ua):=λI α σ H ρ M K Q R E h k =>
 ha I α σ H ρ M _ _ R E h λv d I1 α1 H1 M1 s1 p1 R1 r1 h1=>by
  let⟨i,e,h1⟩:=h1;subst e;cases r1.inv;exists i,rfl,k (some i) I1 α1 H1 M1 s1 p1 R1 h1
abbrev Zgl(r:D->Option Int->Option Int->Mem->K3->Prop)(K:K3)(d:D)(l:Option Int):Option Int->Mem->Prop:=λg M3=>r d l g M3 K
abbrev Zgm(r:D->Option Int->Option Int->Mem->K3->Prop)(uh:TO3)(ρ:Ev)(K:K3)(d:D):Option Int->Mem->Prop:=λl M2=>uh ρ M2 (Zgl r K d l)
abbrev Zgn(r:D->Option Int->Option Int->Mem->K3->Prop)(ul:TO3)(uh:TO3)(ρ:Ev)(K:K3):D->Mem->Prop:=λd M1=>ul ρ M1 (Zgm r uh ρ K d)
def uSl(r:D->Option Int->Option Int->Mem->K3->Prop)(ua:TE3)(ul uh:TO3):TE3:=λρ M K=>ua ρ M (Zgn r ul uh ρ K)
def s_sl{r:V->Option Int->Option Int->Hp->VK->Prop}{r3:D->Option Int->Option Int->Mem->K3->Prop}{tl th:TO}{ul uh:TO3}(hr:SimL C Z r r3)(ha:SimE C Z ta ua)(hl:SimO C Z tl ul)(hh:SimO C Z th uh):SimE C Z (tSl r ta tl th) (uSl r3 ua ul uh):=λI α σ H ρ M K Q R E h k =>
 ha I α σ H ρ M _ _ R E h λv d I1 α1 H1 M1 s1 p1 R1 r1 h1 =>
  hl I1 α1 σ H1 ρ M1 _ _ R1 (E.mono s1 p1) h1 λlo I2 α2 H2 M2 s2 p2 R2 h2 =>
   hh I2 α2 σ H2 ρ M2 _ _ R2 (E.mono (s1.trans s2) (p1.trans p2)) h2 λhi I3 α3 H3 M3 s3 p3 R3 h3 =>
    hr I3 α3 H3 M3 v d lo hi K Q R3 (r1.mono (s2.trans s3) (p2.trans p3)) h3 (k.mono (s1.trans (s2.trans s3)) (p1.trans (p2.trans p3)))
abbrev Zvr(r:D->List D->Mem->K3->Prop)(K:K3)(d:D):List D->Mem->Prop:=λds M2=>r d ds M2 K
end
def Wb(M:Mem):D->Option (List D)
 |.lst ds=>some ds
 |.frz ds=>some ds
 |.cell k=>match M[k]? with|some (.lst ds)=>some ds|_=>none
 |_=>none
def lsOf(M:Mem):D->Option (List D)
 |.lst ds=>some ds
 |.cell k=>match M[k]? with|some (.lst ds)=>some ds|_=>none
 |_=>none
def Zok:D->Option (List D)
 |.tup ds=>some ds
 |_=>none
def Pf(M:Mem):D->Option (List D)
 |.tup ds=>some ds
 |d=>Wb M d
section
variable{C:Cf}{d:D} 
def R8(R:Rel C Z I α H M){k:Nat}{a:Addr}(e:α[k]?=some a)(h:M[k]?=some (.lst ds)):∃vs,H a=some (.lst vs)/\Reps C I α vs ds:=(R.cel k a _ e h).1
def nos{b:τ}{P:Prop}(h:none=some b):P:=nomatch h
theorem Zqp{k:Nat}(h:lsOf M (.cell k)=some ds):M[k]?=some (.lst ds):=by
 revert h
 show(match M[k]? with|some (.lst ds)=>some ds|_=>none)=some ds->_;cases M[k]? with
 |none=>exact nos
 |some m=>cases m<;>first|exact nos|exact λh=>by cases h;rfl
def Rj(R:Rel C Z I α H M)(r:Rep C I α v d)(h:lsOf M d=some ds):∃a vs,v=.ref a/\H a=some (.lst vs)/\Reps C I α vs ds:=by
 cases d<;>first|exact nos h|skip
 .let⟨a,vs,e,f,r⟩:=r.inv;cases h;exists a,vs,e,R.sub _ _ f,r
 .let⟨a,e,f⟩:=r.inv;let⟨vs,e1,r⟩:=R8 R f (Zqp h);exists a,vs,e,e1,r
def Wm(R:Rel C Z I α H M)(r:Rep C I α v d)(h:Wb M d=some ds):∃a vs,v=.ref a/\SqL C.k H a vs/\Reps C I α vs ds:=by
 let go:lsOf M d=some ds->∃a vs,v=.ref a/\SqL C.k H a vs/\Reps C I α vs ds:=λh=>by
  let⟨a,vs,e,f,r⟩:=Rj R r h;exists a,vs,e,SqL.of f,r
 cases d<;>first|exact nos h|exact go h|skip;let⟨a,vs,e,f,r⟩:=r.inv;cases h;exact⟨a,vs,e,R.sub.seq f,r⟩
def Sv(R:Rel C Z I α H M)(r:Rep C I α v d)(h:Zok d=some ds):∃a vs,v=.ref a/\H a=some (.tup vs)/\I a=some (.tup vs)/\Reps C I α vs ds:=by
 cases d<;>first|exact nos h|skip;let⟨a,vs,e,f,r⟩:=r.inv;cases h;exact⟨a,vs,e,R.sub _ _ f,f,r⟩
def Zd6(R:Rel C Z I α H M)(r:Rep C I α v d)(h:Pf M d=some ds):∃a vs,v=.ref a/\(SqL C.k H a vs\/SqT C.k H a vs)/\Reps C I α vs ds:=by
 let go:Wb M d=some ds->∃a vs,v=.ref a/\(SqL C.k H a vs\/SqT C.k H a vs)/\Reps C I α vs ds:=λh=>by
  let⟨a,vs,e,f,r⟩:=Wm R r h;exists a,vs,e,.inl f,r
 cases d<;>first|exact go h|skip;let⟨a,vs,e,f,_,r⟩:=Sv R r h;exact⟨a,vs,e,.inr (SqT.of f),r⟩
end
def cut(xs:List τ)(lo hi:Option Int):List τ:=(xs.drop (HT.sIx xs.length 0 lo)).take (HT.sIx xs.length xs.length hi-HT.sIx xs.length 0 lo)
theorem Reps.cut{C:Cf}(r:Reps C I α vs ds)(lo hi:Option Int):Reps C I α (cutV vs lo hi) (cut ds lo hi):=by
 unfold cutV L3.cut;rw[r.length];exact(r.drop _).take _
def Q5{υ:Type}(f:τ->υ)(xs:List τ)(lo hi:Option Int):cut (xs.map f) lo hi=(cut xs lo hi).map f:=by
 unfold cut;rw[Ja,Bq,Fk]
theorem Reps.atI{C:Cf}{i:Int}{d:D}(r:Reps C I α vs ds)(h:atI ds i=some d):∃v,L2.atI vs i=some v/\Rep C I α v d:=by
 unfold L2.atI at h⊢;rw[r.length];cases e:ixN ds.length i with
 |none=>rw[e]at h;cases h
 |some j =>
  rw[e]at h;exact r.get (i:=j) h
section
variable{C:Cf} 
def OpR.or{f:Value->Value->Sem Value}(h:OpR X f r)(h':OpR X f r'):OpR X f (λx y H Q=>r x y H Q\/r' x y H Q):=by
 intro pq s σ H x y v u Q I rx ry q;rcases q with q|q
 .exact h pq s σ H x y v u Q I rx ry q
 .exact h' pq s σ H x y v u Q I rx ry q
def SlR.or{r r':V->Option Int->Option Int->Hp->VK->Prop}(h:SlR X r)(h':SlR X r'):SlR X (λx l u H Q=>r x l u H Q\/r' x l u H Q):=by
 intro pq s σ H x v vl vu lo hi sl Q I rx hs pl pu q;rcases q with q|q
 .exact h pq s σ H x v vl vu lo hi sl Q I rx hs pl pu q
 .exact h' pq s σ H x v vl vu lo hi sl Q I rx hs pl pu q
def Zo4:R2:=λx y H Q=>∃i j,x=.str i/\y=.str j/\i.length+j.length<=sizeLine/\Q (.str (i++j)) H
def Zlr(K:Cm):R2:=λx y H Q=>rI0 (λi j=>.int (i+j)) x y H Q\/Zo4 x y H Q\/rCat x y H Q\/Zo7 K x y H Q
def Y2(h:X.K=K'):OpR X (Hk .Add) (Zlr K'):=by
 subst h;exact OpR.or Wd (OpR.or Zfs (OpR.or Px Zie))
def add3:R3:=λd e M K=>match d,e with
 |.int i,.int j=>K (.int (i+j)) M
 |.str a,.str b=>a.length+b.length<=sizeLine/\K (.str (a++b)) M
 |.tup xs,.tup ys=>(xs≠[]/\xs.length+ys.length<=sizeLine)/\K (.tup (xs++ys)) M
 |d,e=>∃xs ys,lsOf M d=some xs/\lsOf M e=some ys/\xs.length+ys.length<=sizeLine/\K (.lst (xs++ys)) M
def Zqx{x y:V}{d e:D}{K:K3}(R:Rel C Z I α H M)(r1:Rep C I α x d)(r2:Rep C I α y e)(h:∃xs ys,lsOf M d=some xs/\lsOf M e=some ys/\xs.length+ys.length<=sizeLine/\K (.lst (xs++ys)) M)(k:Fin C Z I α K Q):Zlr C.k x y H Q:=by
 let⟨xs,ys,e1,e2,hl,h⟩:=h;let⟨a,vs,rfl,ea,ra⟩:=Rj R r1 e1;let⟨b,ws,rfl,eb,rb⟩:=Rj R r2 e2;refine .inr (.inr (.inl ⟨a,b,vs,ws,rfl,rfl,ea,eb,by rw[ra.length,rb.length];exact hl,λp hp=>?_⟩));let⟨R2,s2,e2⟩:=R.new (o:=.lst (vs++ws)) hp;exact k.on s2 R2 (.lst e2 ((ra.app rb).mono s2 (Jh _))) h
theorem X6:SimR C Z (Zlr C.k) add3:=λI α H M x y d e K Q R r1 r2 h k=>by
 let go:=λh=>Zqx R r1 r2 h k;cases d with
 |int i =>
  cases e with
  |int j=>cases r1.inv;cases r2.inv;exact .inl ⟨i,j,rfl,rfl,k.now R (.int _) h⟩
  |_=>exact go h
 |str a =>
  cases e with
  |str b=>cases r1.inv;cases r2.inv;exact .inr (.inl ⟨a,b,rfl,rfl,h.1,k.now R (.str _) h.2⟩)
  |_=>exact go h
 |tup xs =>
  cases e with
  |tup ys =>
   let⟨⟨h1,h2⟩,h⟩:=h;let⟨a,vs,rfl,ea,ia,ra⟩:=Sv R r1 rfl;let⟨b,ws,rfl,eb,ib,rb⟩:=Sv R r2 rfl;refine .inr (.inr (.inr ⟨a,b,vs,ws,rfl,rfl,SqT.of ea,SqT.of eb,λz=>?_,by rw[ra.length,rb.length];exact h2,λz=>?_,λ_ p hp=>?_⟩))
   .subst z;exact h1 ra.nilI
   .subst z;cases rb.nilI;rw[Gh]at h;exact k.now R r1 h
   .let⟨R2,s2,e2⟩:=R.new (o:=.tup (vs++ws)) hp;exact k.on s2 R2 (.tup e2 ((ra.app rb).mono s2 (Jh _))) h
  |_=>exact go h
 |_=>exact go h
inductive int3(c:Int->Int->Prop)(g:Int->Int->D)(d:D)(e:D)(M:Mem)(K:K3):Prop
 |mk:∀i j,d=.int i->e=.int j->c i j->K (g i j) M->int3 c g d e M K
inductive int30(g:Int->Int->D)(d:D)(e:D)(M:Mem)(K:K3):Prop
 |mk:∀i j,d=.int i->e=.int j->K (g i j) M->int30 g d e M K
def Jbk{c:Int->Int->Prop}{g:Int->Int->V}{g3:Int->Int->D}(hg:∀I α i j,Rep C I α (g i j) (g3 i j)):SimR C Z (rI c g) (int3 c g3):=λI α H M x y d e K Q R r1 r2 h k=>by
 let⟨i,j,rfl,rfl,hc,h⟩:=h;cases r1.inv;cases r2.inv;exists i,j,rfl,rfl,hc,k.now R (hg _ _ _ _) h
def Zln{g:Int->Int->V}{g3:Int->Int->D}(hg:∀I α i j,Rep C I α (g i j) (g3 i j)):SimR C Z (rI0 g) (int30 g3):=λI α H M x y d e K Q R r1 r2 h k=>by
 let⟨i,j,rfl,rfl,h⟩:=h;cases r1.inv;cases r2.inv;exists i,j,rfl,rfl,k.now R (hg _ _ _ _) h
def Zll:SimR C Z (rI0 λi j=>.int (i-j)) (int30 λi j=>.int (i-j)):=Zln λ_ _ _ _=>.int _
def Zcj:SimR C Z (rI (λ_ j=>0<j) λi j=>.int (i % j)) (int3 (λ_ j=>0<j) λi j=>.int (i % j)):=Jbk λ_ _ _ _=>.int _
def s_lt:SimR C Z (rI0 λi j=>.bl (decide (i<j))) (int30 λi j=>.bl (decide (i<j))):=Zln λ_ _ _ _=>.bl _
def s_le:SimR C Z (rI0 λi j=>.bl (decide (i<=j))) (int30 λi j=>.bl (decide (i<=j))):=Zln λ_ _ _ _=>.bl _
def s_gt:SimR C Z (rI0 λi j=>.bl (decide (j<i))) (int30 λi j=>.bl (decide (j<i))):=Zln λ_ _ _ _=>.bl _
inductive neg3(d:D)(M:Mem)(K:K3):Prop
 |mk:∀i,d=.int i->K (.int (-i)) M->neg3 d M K
def Zas:SimU C Z (rU λi=>.int (-i)) neg3:=λI α H M x d K Q R r h k=>by
 let⟨i,rfl,h⟩:=h;cases r.inv;exists i,rfl,k.now R (.int _) h
def Zo5:R2:=λx y H Q=>rI CMul (λi j=>.int (i*j)) x y H Q\/rRep x y H Q
def Zmu:OpR X (Hk .Mult) Zo5:=OpR.or V9 Ztf
def mul3:R3:=λd e M K=>match d,e with
 |.int i,.int j=>CMul i j/\K (.int (i*j)) M
 |d,e=>∃xs k,lsOf M d=some xs/\e=.int k/\(-(2 ^ 63)<=k/\k<2 ^ 63/\xs.length*k.toNat<=sizeLine)/\K (.lst (Ck k.toNat xs).flatten) M
theorem Reps.rep(r:Reps C I α vs ds):∀n,Reps C I α (Ck n vs).flatten (Ck n ds).flatten
 |0=>.nil
 |n+1=>by
  rw[Bt,Bt,Bg,Bg];exact r.app (Reps.rep r n)
theorem Zsk:SimR C Z Zo5 mul3:=λI α H M x y d e K Q R r1 r2 h k=>by
 let go:(∃xs k,lsOf M d=some xs/\e=.int k/\(-(2 ^ 63)<=k/\k<2 ^ 63/\xs.length*k.toNat<=sizeLine)/\K (.lst (Ck k.toNat xs).flatten) M)->Zo5 x y H Q:=λh=>by
  let⟨xs,j,e1,rfl,⟨h1,h2,h3⟩,h⟩:=h;cases r2.inv;let⟨a,vs,rfl,ea,ra⟩:=Rj R r1 e1;refine .inr ⟨a,j,vs,rfl,rfl,ea,h1,h2,by rw[ra.length];exact h3,λp hp=>?_⟩;let⟨R2,s2,e2⟩:=R.new (o:=.lst (Ck j.toNat vs).flatten) hp;exact k.on s2 R2 (.lst e2 ((ra.rep _).mono s2 (Jh _))) h
 cases d with
 |int i =>
  cases e with
  |int j=>cases r1.inv;cases r2.inv;exact .inl ⟨i,j,rfl,rfl,h.1,k.now R (.int _) h.2⟩
  |_=>exact go h
 |_=>exact go h
def Ye(h:X.K=K'):IxR X (rIx K'):=by subst h;exact Ztw
def ix3:R3:=λd e M K=>match d with
 |.str z=>∃i c,e=.int i/\z.length<=sizeLine/\L2.atI z.cps.toList i=some c/\K (.str ⟨#[c]⟩) M
 |d=>∃xs i v,Pf M d=some xs/\e=.int i/\L2.atI xs i=some v/\K v M
def s_ix:SimR C Z (rIx C.k) ix3:=λI α H M x y d e K Q R r1 r2 h k=>by
 let go:(∃xs i v,Pf M d=some xs/\e=.int i/\L2.atI xs i=some v/\K v M)->rIx C.k x y H Q:=λh=>by
  let⟨xs,i,w,e1,rfl,e3,hk⟩:=h;let⟨a,vs,e,ea,ra⟩:=Zd6 R r1 e1;let⟨v,e4,rv⟩:=ra.atI e3;let q:=k.now R rv hk;exact ea.elim (λea=>.inl ⟨a,vs,i,v,e,r2.inv,ea,e4,q⟩) λea=>.inr (.inl ⟨a,vs,i,v,e,r2.inv,ea,e4,q⟩)
 cases d<;>first|exact go h|skip;let⟨i,c,rfl,h1,h2,h⟩:=h;exact .inr (.inr ⟨_,i,c,r1.inv,r2.inv,h1,h2,k.now R (.str _) h⟩)
def rSlU(K:Cm):V->Option Int->Option Int->Hp->VK->Prop:=λx l u H Q=>rSlL K x l u H Q\/rSlW K x l u H Q\/rSlS x l u H Q
def Rf(h:X.K=K'):SlR X (rSlU K'):=by subst h;exact SlR.or Wh (SlR.or Zcf Zsf)
def sl3:D->Option Int->Option Int->Mem->K3->Prop:=λd lo hi M K=>match d with
 |.str z=>z.length<=sizeLine/\K (.str (Txt.slice z lo hi)) M
 |.tup xs=>K (.tup (cut xs lo hi)) M
 |d=>∃xs,Wb M d=some xs/\K (.lst (cut xs lo hi)) M
theorem Reps.inj_cut(r:Reps C I α vs ds)(h:cutV vs lo hi=vs):L3.cut ds lo hi=ds:=by
 let hl:(cutV vs lo hi).length=vs.length:=by rw[h]
 unfold cutV at hl;rw[Ji,Ge]at hl;unfold L3.cut;rw[r.length]at hl;generalize HT.sIx ds.length 0 lo=a at *
 generalize HT.sIx ds.length ds.length hi=b at *
 by_cases hd:ds.length=0
 .rw[List.length_eq_zero_iff.mp hd];simp
 .let:a=0:=by lia
  subst this;rw[Ft,Gd];lia
theorem Rh:SimL C Z (rSlU C.k) sl3:=λI α H M x d lo hi K Q R r1 h k=>by
 let go:(∃xs,Wb M d=some xs/\K (.lst (cut xs lo hi)) M)->rSlU C.k x lo hi H Q:=λh=>by
  let⟨xs,e1,h⟩:=h;let⟨a,vs,rfl,ea,ra⟩:=Wm R r1 e1;refine .inl ⟨a,vs,rfl,ea,λp hp=>?_⟩;let⟨R2,s2,e2⟩:=R.new (o:=.lst (cutV vs lo hi)) hp;exact k.on s2 R2 (.lst e2 ((ra.cut lo hi).mono s2 (Jh _))) h
 cases d with
 |str z=>cases r1.inv;exact .inr (.inr ⟨z,rfl,h.1,k.now R (.str _) h.2⟩)
 |tup xs =>
  let⟨a,vs,rfl,ea,ia,ra⟩:=Sv R r1 rfl;refine .inr (.inl ⟨a,vs,rfl,SqT.of ea,λz=>?_,λp hp=>?_⟩)
  .let h2:K (.tup (cut xs lo hi)) M:=h;rw[ra.inj_cut z]at h2;exact k.now R r1 h2
  .let⟨R2,s2,e2⟩:=R.new (o:=.tup (cutV vs lo hi)) hp;exact k.on s2 R2 (.tup e2 ((ra.cut lo hi).mono s2 (Jh _))) h
 |_=>exact go h
end
mutual
inductive PyR(M:Mem):D->PyData->Prop where
 |non:PyR M .non .none
 |bl (b:Bool):PyR M (.bl b) (.bool b)
 |int (i:Int):PyR M (.int i) (.int i)
 |str (x:Str):PyR M (.str x) (.str x)
 |seq {d:D} {ds:List D} {ps:List PyData}:Wb M d=some ds->PyRs M ds ps->PyR M d (.list ps)
 |tup {ds:List D} {ps:List PyData}:PyRs M ds ps->PyR M (.tup ds) (.tuple ps)
inductive PyRs(M:Mem):List D->List PyData->Prop where
 |nil:PyRs M [] []
 |cons {d:D} {p:PyData} {ds:List D} {ps:List PyData}:PyR M d p->PyRs M ds ps->PyRs M (d::ds) (p::ps)
end
section
variable{C:Cf} 
mutual
theorem Zcp(R:Rel C Z I α H M):∀{v:V}{d:D}{p:PyData},PyR M d p->Rep C I α v d->DV C.k H v p:=by
 intro _ _ _ hz9 r;cases hz9 with
 |non=>
  exact by cases r.inv;exact .non
 |bl b=>
  exact by cases r.inv;exact .bl b
 |int b=>
  exact by cases r.inv;exact .int b
 |str b=>
  exact by cases r.inv;exact .str b
 |seq e q=>
  exact by
    let⟨a,vs,rfl,ea,ra⟩:=Wm R r e;exact .lst ea (pys_dv R q ra)
 |tup q=>
  exact by
    let⟨a,vs,rfl,ea,_,ra⟩:=Sv R r rfl;exact .tup (SqT.of ea) (pys_dv R q ra)
theorem pys_dv(R:Rel C Z I α H M):∀{vs:List V}{ds:List D}{ps:List PyData},PyRs M ds ps->Reps C I α vs ds->DVs C.k H vs ps:=by
 intro _ _ _ hz9 r;cases hz9 with
 |nil=>
  exact by cases r.inv;exact .nil
 |cons a b=>
  exact by
    cases r with
    |cons r1 r2=>exact .cons (Zcp R a r1) (pys_dv R b r2)
end
end
def eqS:D->D->Option Bool
 |.non,.non=>some true|.non,.int _=>some false|.int _,.non=>some false|.non,.bl _=>some false|.bl _,.non=>some false|.non,.str _=>some false|.str _,.non=>some false
 |.int i,.int j=>some (decide (i=j))|.bl i,.bl j=>some (decide (i=j))|.str i,.str j=>some (decide (i=j))
 |.int _,.str _=>some false|.str _,.int _=>some false|.bl _,.str _=>some false|.str _,.bl _=>some false
 |_,_=>none
def eqV(d e:D)(M:Mem)(K:Bool->Prop):Prop:=(∃b,eqS d e=some b/\K b)\/∃p q,PyR M d p/\PyR M e q/\Ej p=true/\Ej q=true/\K (Co p q)
def eq3:R3:=λd e M K=>eqV d e M λb=>K (.bl b) M
def ne3:R3:=λd e M K=>eqV d e M λb=>K (.bl (!b)) M
section
variable{C:Cf} 
def rEqU(K:Cm):R2:=λx y H Q=>rEq x y H Q\/rEqD K x y H Q
def rNeU(K:Cm):R2:=λx y H Q=>rNe x y H Q\/rNeD K x y H Q
def Pe(h:X.K=K')(hu:X.A.units+64<cLine):OpR X (Ee .Eq) (rEqU K'):=by subst h;exact OpR.or Zid (Zem hu)
def Qa(h:X.K=K')(hu:X.A.units+64<cLine):OpR X (Ee .NotEq) (rNeU K'):=by subst h;exact OpR.or Zwa (Ztg hu)
def scl:D->Option V
 |.non=>some .non|.bl b=>some (.bl b)|.int i=>some (.int i)|.str x=>some (.str x)
 |_=>none
def Zhj{x:V}{d:D}(r:Rep C I α v d)(h:scl d=some x):v=x:=by
 cases d<;>first|exact nos h|exact(show v=_ from r.inv).trans (Dh h)
def SclE(d e:D)(b:Bool):Prop:=∃x y,scl d=some x/\scl e=some y/\scal x y=true/\decide (x=y)=b
def Zt9{d e:D}{x y:V}{b:Bool}(h1:scl d=some x)(h2:scl e=some y)(h3:scal x y=true)(hn:x≠y)(h:some false=some b):SclE d e b:=⟨x,y,h1,h2,h3,by rw[Dg hn];exact Dh h⟩
def Zqj{d e:D}{b:Bool}(h:eqS d e=some b):SclE d e b:=by
 cases d<;>first|exact nos h|(cases e<;>first|exact nos h|exact Zt9 rfl rfl rfl nofun h|exact⟨_,_,rfl,rfl,rfl,Eq.trans (by simp) (Dh h)⟩)
def Zjm{x y:V}{d e:D}{b:Bool}(r1:Rep C I α x d)(r2:Rep C I α y e)(h:eqS d e=some b):scal x y=true/\decide (x=y)=b:=by
 let⟨u,v,e1,e2,h⟩:=Zqj h;rw[Zhj r1 e1,Zhj r2 e2];exact h
def s_eq:SimR C Z (rEqU C.k) eq3:=λI α H M x y d e K Q R r1 r2 h k=>by
 rcases h with⟨b,eb,h⟩|⟨p,q,h1,h2,h3,h4,h⟩
 .let⟨z1,z2⟩:=Zjm r1 r2 eb;exact .inl ⟨z1,by rw[z2];exact k.now R (.bl _) h⟩
 .exact .inr ⟨p,q,Zcp R h1 r1,Zcp R h2 r2,h3,h4,k.now R (.bl _) h⟩
def s_ne:SimR C Z (rNeU C.k) ne3:=λI α H M x y d e K Q R r1 r2 h k=>by
 rcases h with⟨b,eb,h⟩|⟨p,q,h1,h2,h3,h4,h⟩
 .let⟨z1,z2⟩:=Zjm r1 r2 eb;exact .inl ⟨z1,by rw[z2];exact k.now R (.bl _) h⟩
 .exact .inr ⟨p,q,Zcp R h1 r1,Zcp R h2 r2,h3,h4,k.now R (.bl _) h⟩
end
structure Enc(τ:Type)[DecidableEq τ] where
 e:τ->D
 py:τ->PyData
 n:Nat
 ok:∀M a,PyR M (e a) (py a)
 shp:∀a,Shp n (py a)
 eq:∀a b,Co (py a) (py b)=decide (a=b)
 hn:n<=60
theorem Q4[DecidableEq τ]{f:τ->PyData}(h:∀a b,Co (f a) (f b)=decide (a=b)):∀(a b:List τ),Cs (a.map f) (b.map f)=decide (a=b)
 |[],[]=>by simp[Cs]
 |[],_::_=>by simp[Cs]
 |_::_,[]=>by simp[Cs]
 |a::r,b::t=>by
  rw[Js,Js,Cs,h,Q4 h r t];simp
theorem Sa{e:τ->D}{py:τ->PyData}(h:∀a,PyR M (e a) (py a)):∀as:List τ,PyRs M (as.map e) (as.map py)
 |[]=>.nil
 |a::r=>.cons (h a) (Sa h r)
def Y1:Enc Int:=⟨.int,.int,0,λ_=>.int,Qd,λa b=>by rw[Co,K6],nofun⟩
def P4[DecidableEq τ](E:Enc τ)(h:E.n<=50:=by decide):Enc (List τ) where
 e as:=.lst (as.map E.e)
 py as:=.list (as.map E.py)
 n:=E.n+1
 ok:=λM as=>.seq rfl (Sa (E.ok M) as)
 shp:=λas=>Rn λd hd=>by
  let⟨a,_,rfl⟩:=Jo.mp hd;exact E.shp a
 eq:=λa b=>by rw[Co,Q4 E.eq]
 hn:=by lia
def Zub[DecidableEq τ](E:Enc τ)(h:E.n<=50:=by decide):Enc (List τ) where
 e as:=.tup (as.map E.e)
 py as:=.tuple (as.map E.py)
 n:=E.n+1
 ok:=λM as=>.tup (Sa (E.ok M) as)
 shp:=λas=>W9 λd hd=>by
  let⟨a,_,rfl⟩:=Jo.mp hd;exact E.shp a
 eq:=λa b=>by rw[Co,Q4 E.eq]
 hn:=by lia
def Zaq{n m:Nat}{d:PyData}(h:Shp n d)(l:n<=m):Shp m d:=⟨h.1,J8 h.2 l⟩
def Pn{υ:Type}[DecidableEq τ][DecidableEq υ](E:Enc τ)(F:Enc υ)(h:E.n<=50:=by decide)(h':F.n<=50:=by decide):Enc (τ×υ) where
 e p:=.tup [E.e p.1,F.e p.2]
 py p:=.tuple [E.py p.1,F.py p.2]
 n:=max E.n F.n+1
 ok:=λM p=>.tup (.cons (E.ok M _) (.cons (F.ok M _) .nil))
 shp:=λp=>W9 λd hd=>by
  rcases Jp.mp hd with z|hd
  .rw[z];exact Zaq (E.shp _) (Nat.le_max_left _ _)
  .rw[Jj.mp hd];exact Zaq (F.shp _) (Nat.le_max_right _ _)
 eq:=λa b=>by
  let⟨a1,a2⟩:=a;let⟨b1,b2⟩:=b;rw[Co,Cs,Cs,Cs,E.eq,F.eq];simp
 hn:=by lia
theorem Zqi[DecidableEq τ](E:Enc τ){a b:τ}{K:Bool->Prop}(h:K (decide (a=b))):eqV (E.e a) (E.e b) M K :=
 .inr ⟨_,_,E.ok M a,E.ok M b,(E.shp a).shaped (by have:=E.hn;lia),(E.shp b).shaped (by have:=E.hn;lia),by rw[E.eq];exact h⟩
theorem Q3[DecidableEq τ](E:Enc τ){d d':D}{a b:List τ}{K:Bool->Prop}(h1:Wb M d=some (a.map E.e))(h2:Wb M d'=some (b.map E.e))(h:K (decide (a=b)))(hn:E.n<=50:=by decide):eqV d d' M K :=
 .inr ⟨_,_,.seq h1 (Sa (E.ok M) a),.seq h2 (Sa (E.ok M) b),((P4 E hn).shp a).shaped (by have:=(P4 E hn).hn;lia),((P4 E hn).shp b).shaped (by have:=(P4 E hn).hn;lia),by
  let:=(P4 E hn).eq a b;rw[show Co (Jkh (a.map E.py)) (Jkh (b.map E.py))=decide (a=b)from this];exact h⟩
inductive Ty3 where
 |non|bool|int|str|list|tuple|dict
 deriving DecidableEq
def tyN:Ty3->String
 |.non=>"NoneType" |.bool=>"bool" |.int=>"int" |.str=>"str" |.list=>"list" |.tuple=>"tuple" |.dict=>"dict"
def tyOf(M:Mem):D->Option Ty3
 |.non=>some .non|.bl _=>some .bool|.int _=>some .int|.str _=>some .str|.lst _=>some .list|.tup _=>some .tuple|.dct _=>some .dict|.dcT _=>some .dict
 |.cell k=>match M[k]? with|some (.lst _)=>some .list|some (.dct _)=>some .dict|some (.dcT _)=>some .dict|_=>none
 |_=>none
def isS:Ty3->Ty3->Bool
 |.bool,.int=>true
 |a,b=>decide (a=b)
section
variable{C:Cf} 
theorem Zp4(s t:Ty3)(ht:t≠.non):Ji8 C.k (.type (tyN s)) (.type (tyN t))=some (isS s t):=by
 cases t with
 |non=>exact absurd rfl ht
 |_=>cases s<;>rfl
theorem Zrw{d:D}{s:Ty3}(R:Rel C Z I α H M)(r:Rep C I α v d)(h:tyOf M d=some s):TyOf C.k H v (.type (tyN s)):=by
 let i:=r.inv;cases d<;>first|exact nos h|skip
 all_goals first|(cases h;let⟨_,_,rfl,e,_⟩:=i;let e:=R.sub _ _ e;first|exact .lst e|exact .tup e|exact .dK e|exact .dT e)|(cases h;cases i;first|exact .non|exact .bl _|exact .int _|exact .str _)|skip
 rename_i k
 let⟨a,rfl,e⟩:=i;let go:∀m,M[k]?=some m->MoAt C I α H a m:=λm hm=>(R.cel k a _ e hm).1
 revert h go
 show(match M[k]? with|some (.lst _)=>some Ty3.list|some (.dct _)=>some .dict|some (.dcT _)=>some .dict|_=>none)=some s->_;cases M[k]? with
 |none=>exact nos
 |some m =>
  intro h go;let g:=go m rfl;cases m<;>first|exact nos h|(cases h;let⟨vs,e,_⟩:=g;first|exact .lst e|exact .dK e|exact .dT e)
inductive isi3(T:Ty3)(ds:List D)(M:Mem)(K:K3):Prop
 |mk:∀d s,ds=[d,.ty (tyN T)]->tyOf M d=some s->K (.bl (isS s T)) M->isi3 T ds M K
def Nf{T:Ty3}(hT:T≠.non:=by decide):SimC C Z (rIsi C.k) (isi3 T):=λI α H M xs ds K Q R r h k=>by
 let⟨d,s,rfl,e,h⟩:=h;refine Reps.e2 r λ_ _ r1 r2=>?_;cases r2.inv;exists _,_,_,·,Zrw R r1 e,Zp4 s T hT,k.now R (.bl _) h
def len3:List D->Mem->K3->Prop:=λds M K=>match ds with
 |[.str z]=>z.length<=sizeLine/\K (.int z.length) M
 |[d]=>∃xs,Pf M d=some xs/\K (.int xs.length) M
 |_=>False
theorem X8:SimC C Z (rLen C.k) len3:=λI α H M xs ds K Q R r h k=>by
 let go:∀d v,Rep C I α v d->(∃xs,Pf M d=some xs/\K (.int xs.length) M)->rLen C.k [v] H Q:=λd v r h=>by
  let⟨ys,e1,h⟩:=h;let⟨a,vs,e,ea,ra⟩:=Zd6 R r e1;rw[<-ra.length]at h;exists _,·,e ▸ ea.elim (λz=>.inl ⟨_,z,rfl⟩) λz=>.inr ⟨_,z,rfl⟩,k.now R (.int _) h
 match ds,h with
 |[],h=>exact h.elim
 |[d],h =>
  refine Reps.e1 r λv r1=>?_;cases d<;>first|exact go _ _ r1 h|skip;exact⟨_,_,rfl,r1.inv ▸ ⟨h.1,rfl⟩,k.now R (.int _) h.2⟩
 |d::_::_,h=>cases d<;>exact h.elim
inductive list3(ds:List D)(M:Mem)(K:K3):Prop
 |mk:∀d xs,ds=[d]->Pf M d=some xs->K (.lst xs) M->list3 ds M K
inductive list3C(ds:List D)(M:Mem)(K:K3):Prop
 |mk:∀d xs,ds=[d]->Pf M d=some xs->K (.cell M.length) (M++[.lst xs])->list3C ds M K
def Zat:SimC C Z (Zcn C.k) list3:=λI α H M xs ds K Q R r h k=>by
 let⟨d,ys,rfl,e,h⟩:=h;refine Reps.e1 r λ_ r1=>?_;let⟨a,vs,rfl,ea,ra⟩:=Zd6 R r1 e;exists a,vs,rfl,ea,λp hp=>?_;let⟨R2,s2,e2⟩:=R.new (o:=.lst vs) hp;exact k.on s2 R2 (.lst e2 (ra.mono s2 (Jh _))) h
def Zow:SimC C Z (Zcn C.k) list3C:=λI α H M xs ds K Q R r h k=>by
 let⟨d,ys,rfl,e,h⟩:=h;refine Reps.e1 r λ_ r1=>?_;let⟨a,vs,rfl,ea,ra⟩:=Zd6 R r1 e;exists a,vs,rfl,ea,λp hp=>?_;let⟨R2,p2,e2⟩:=R.cell (o:=.lst vs) (m:=.lst ys) hp λH' e=>⟨vs,e,ra⟩;exact k _ _ I _ _ _ (.refl _) p2 R2 (.cell e2) h
inductive tuple3(ds:List D)(M:Mem)(K:K3):Prop
 |mk:∀d xs,ds=[d]->Pf M d=some xs->K (.tup xs) M->tuple3 ds M K
def Zci:SimC C Z (Znc C.k) tuple3:=λI α H M xs ds K Q R r h k=>by
 let⟨d,ys,rfl,e,h⟩:=h;refine Reps.e1 r λ_ r1=>?_
 by_cases ht:∃zs,d=.tup zs
 .let⟨zs,rfl⟩:=ht;cases e;let⟨a,vs,rfl,ea,_,ra⟩:=Sv R r1 rfl;exists a,vs,rfl,.inr ⟨SqT.of ea,k.now R r1 h⟩
 .let e1':Wb M d=some ys:=by
   cases d with
   |tup ys=>exact absurd ⟨ys,rfl⟩ ht
   |_=>exact e
  let⟨a,vs,rfl,ea,ra⟩:=Wm R r1 e1';exists a,vs,rfl,.inl ⟨ea,λp hp=>?_⟩;let⟨R2,s2,e2⟩:=R.new (o:=.tup vs) hp;exact k.on s2 R2 (.tup e2 (ra.mono s2 (Jh _))) h
inductive two3(f:Int->Int->D)(ds:List D)(M:Mem)(K:K3):Prop
 |mk:∀i j,ds=[.int i,.int j]->K (f i j) M->two3 f ds M K
def Zsm:SimC C Z (λxs H Q=>∃i j,xs=[.int i,.int j]/\Q (.int (if j > i then j else i)) H) (two3 λi j=>.int (if j > i then j else i)):=λI α H M xs ds K Q R r h k=>by
 let⟨i,j,rfl,h⟩:=h;refine Reps.e2 r λ_ _ r1 r2=>?_;cases r1.inv;cases r2.inv;exists i,j,rfl,k.now R (.int _) h
def Zm8:SimC C Z (λxs H Q=>∃i j,xs=[.int i,.int j]/\Q (.int (if j<i then j else i)) H) (two3 λi j=>.int (if j<i then j else i)):=λI α H M xs ds K Q R r h k=>by
 let⟨i,j,rfl,h⟩:=h;refine Reps.e2 r λ_ _ r1 r2=>?_;cases r1.inv;cases r2.inv;exists i,j,rfl,k.now R (.int _) h
def toI:D->Option Int
 |.int i=>some i
 |.bl b=>some (if b then 1 else 0)
 |_=>none
inductive intOf3(ds:List D)(M:Mem)(K:K3):Prop
 |mk:∀d i,ds=[d]->toI d=some i->K (.int i) M->intOf3 ds M K
def Zoy:SimC C Z (λxs H Q=>(∃i,xs=[.int i]/\Q (.int i) H)\/∃k,xs=[.bl k]/\Q (.int (if k then 1 else 0)) H) intOf3:=λI α H M xs ds K Q R r h k=>by
 let⟨d,i,rfl,e,h⟩:=h;refine Reps.e1 r λ_ r1=>?_;cases d<;>first|exact nos e|skip
 .cases e;exact .inr ⟨_,by rw[r1.inv],k.now R (.int _) h⟩
 .cases e;exact .inl ⟨_,by rw[r1.inv],k.now R (.int _) h⟩
theorem Reps.of_bls :∀{vs:List V}(bs:List Bool),Reps C I α vs (bs.map D.bl)->vs=bs.map V.bl
 |_,[],h=>h.inv
 |_,n::r,h=>by
  let⟨_,_,rfl,a,b⟩:=h.inv;rw[Reps.of_bls r b,a.inv];rfl
inductive all3(ds:List D)(M:Mem)(K:K3):Prop
 |mk:∀(d:D)(bs:List Bool),ds=[d]->Wb M d=some (bs.map D.bl)->K (.bl (bs.all id)) M->all3 ds M K
def Zv1:SimC C Z (λxs H Q=>∃(p:Addr)(bs:List Bool),xs=[.ref p]/\SqL C.k H p (bs.map V.bl)/\Q (.bl (bs.all id)) H) all3:=λI α H M xs ds K Q R r h k=>by
 let⟨d,bs,rfl,e,h⟩:=h;refine Reps.e1 r λ_ r1=>?_;let⟨a,vs,rfl,ea,ra⟩:=Wm R r1 e;rw[ra.of_bls bs]at ea;exists a,bs,rfl,ea,k.now R (.bl _) h
def Rel.putL(R:Rel C Z I α H M){k:Nat}{a:Addr}(ha:α[k]?=some a)(r:Reps C I α vs ds):Rel C Z I α (upd H a (.lst vs)) (M.set k (.lst ds)) :=
 R.put (m:=.lst ds) ha λH' e=>⟨vs,e,r⟩
def Zcd{a:Addr}(e:H a=some (.lst vs)):tyV C.k "list" (.ref a) H:=.inl ⟨rfl,vs,SqL.of e⟩
inductive app3(d:D)(ds:List D)(M:Mem)(K:K3):Prop
 |mk:∀k xs y,d=.cell k->ds=[y]->M[k]?=some (.lst xs)->xs.length<sizeLine->K .non (M.set k (.lst (xs++[y])))->app3 d ds M K
inductive ext3(d:D)(ds:List D)(M:Mem)(K:K3):Prop
 |mk:∀k e xs ys,d=.cell k->ds=[e]->M[k]?=some (.lst xs)->lsOf M e=some ys->xs.length+ys.length<=sizeLine->K .non (M.set k (.lst (xs++ys)))->ext3 d ds M K
variable{t:TA}{u:TA3}
abbrev Zru(r:D->List D->Mem->K3->Prop)(u:TA3)(ρ:Ev)(K:K3):D->Mem->Prop:=λd M1=>lsOf M1 d≠none/\u ρ M1 (Zvr r K d)
def uBML(r:D->List D->Mem->K3->Prop)(uo:TE3)(u:TA3):TE3:=λρ M K=>uo ρ M (Zru r u ρ K)
def Wu(ho:SimE C Z to uo)(ha:SimA C Z t u):SimE C Z (tBM C.k "list" Zhy to t) (uBML app3 uo u):=λI α σ H ρ M K Q R E h k =>
 ho I α σ H ρ M _ _ R E h λv d I1 α1 H1 M1 s1 p1 R1 r1 h1=>by
  let⟨hn,h1⟩:=h1;cases hl:lsOf M1 d with
  |none=>exact absurd hl hn
  |some zs =>
   let⟨a,vs,rfl,ea,ra⟩:=Rj R1 r1 hl;exists Zcd ea,ha I1 α1 σ H1 ρ M1 _ _ R1 (E.mono s1 p1) h1 λws ds I2 α2 H2 M2 s2 p2 R2 r2 h2=>?_;let⟨j,xs,y,rfl,rfl,e1,hz,h2⟩:=h2;refine Reps.e1 r2 λ_ ry=>?_;let ec:=(r1.mono s2 p2).cellI;let⟨us,eu,ru⟩:=R8 R2 ec e1;exists a,us,·,rfl,eu,by rw[ru.length];exact hz,?_;exact k _ _ I2 α2 _ _ (s1.trans s2) (p1.trans p2) (R2.putL ec (ru.app (.one ry))) .non h2
def Zea(ho:SimE C Z to uo)(ha:SimA C Z t u):SimE C Z (tBM C.k "list" Zhx to t) (uBML ext3 uo u):=λI α σ H ρ M K Q R E h k =>
 ho I α σ H ρ M _ _ R E h λv d I1 α1 H1 M1 s1 p1 R1 r1 h1=>by
  let⟨hn,h1⟩:=h1;cases hl:lsOf M1 d with
  |none=>exact absurd hl hn
  |some zs =>
   let⟨a,vs,rfl,ea,ra⟩:=Rj R1 r1 hl;exists Zcd ea,ha I1 α1 σ H1 ρ M1 _ _ R1 (E.mono s1 p1) h1 λws ds I2 α2 H2 M2 s2 p2 R2 r2 h2=>?_;let⟨j,e,xs,ys,rfl,rfl,e1,e2,hz,h2⟩:=h2;refine Reps.e1 r2 λ_ ry=>?_;let⟨b,bs,rfl,eb,rb⟩:=Rj R2 ry e2;let ec:=(r1.mono s2 p2).cellI;let⟨us,eu,ru⟩:=R8 R2 ec e1;exists a,b,us,bs,rfl,rfl,eu,eb,by rw[ru.length,rb.length];exact hz,?_;exact k _ _ I2 α2 _ _ (s1.trans s2) (p1.trans p2) (R2.putL ec (ru.app rb)) .non h2
end
def Yw(n:Nat)(d:D):Prop:=∀C I α v,Rep C I α v d->Rep C I (α.take n) v d
def We(n:Nat)(m:MO):Prop:=∀C I α H a,MoAt C I α H a m->MoAt C I (α.take n) H a m
inductive BelowE(n:Nat):Ev->Ev->Prop where
 |nil:BelowE n [] []
 |skip {o:Option D} {r r':Ev}:BelowE n r r'->BelowE n (o::r) (none::r')
 |keep {d:D} {r r':Ev}:Yw n d->BelowE n r r'->BelowE n (some d::r) (some d::r')
inductive BelS(n:Nat):Ev->Ev->Ev->Prop where
 |nil:BelS n [] [] []
 |skip {o0 o:Option D} {r0 r r':Ev}:BelS n r0 r r'->BelS n (o0::r0) (o::r) (none::r')
 |same {d:D} {r0 r r':Ev}:BelS n r0 r r'->BelS n (some d::r0) (some d::r) (some d::r')
 |keep {o0:Option D} {d:D} {r0 r r':Ev}:Yw n d->BelS n r0 r r'->BelS n (o0::r0) (some d::r) (some d::r')
def Dr(ρ0:Ev)(M0:Mem)(P:Ev->Mem->Prop)(ρ:Ev)(M:Mem):Prop:=P ρ M\/(∃ρ',(∃X,M=M0++X)/\BelS M0.length ρ0 ρ ρ'/\P ρ' M0)\/∃n ρ',M0.length<=n/\BelowE n ρ ρ'/\(∀m∈M.take n,We n m)/\P ρ' (M.take n)
def Dk(n0:Nat)(K:K3):K3:=λd M=>K d M\/∃n,n0<=n/\Yw n d/\(∀m∈M.take n,We n m)/\K d (M.take n)
section
variable{C:Cf} 
theorem BelowE.rep{n:Nat}{ρ':Ev}(b:BelowE n ρ ρ'):∀{σ:St},RepE C I α σ ρ->RepE C I (α.take n) σ ρ':=by
 induction b with
 |nil=>exact λh=>⟨h.1,λi d e=>by simp at e⟩
 | @skip o r r' b ih =>
  intro σ h;cases σ with
  |nil=>cases h.1
  |cons s σ =>
   let h':RepE C I α σ r:=⟨by simpa using h.1,λi d e=>by
    let⟨v,a,b⟩:=h.2 (i+1) d (by simpa using e);exact⟨v,by simpa using a,b⟩⟩
   let⟨l,g⟩:=ih h';exists by rw[Jz,Jz,l],λi d e=>?_;cases i with
   |zero=>simp at e
   |succ i =>
    let⟨v,a,b⟩:=g i d (by simpa using e);exists v,by simpa using a,b
 | @keep d0 r r' hb b ih =>
  intro σ h;cases σ with
  |nil=>cases h.1
  |cons s σ =>
   let h':RepE C I α σ r:=⟨by simpa using h.1,λi d e=>by
    let⟨v,a,b⟩:=h.2 (i+1) d (by simpa using e);exact⟨v,by simpa using a,b⟩⟩
   let⟨l,g⟩:=ih h';exists by rw[Jz,Jz,l],λi d e=>?_;cases i with
   |zero =>
    let⟨v,a,b⟩:=h.2 0 d e;simp at e;subst e;exists v,a,hb _ _ _ _ b
   |succ i =>
    let⟨v,a,b⟩:=g i d (by simpa using e);exists v,by simpa using a,b
def Rv{α0:List Addr}(p:α0<+:α){n:Nat}(h:α0.length<=n):α0<+:α.take n:=by
 let⟨t,rfl⟩:=p;rw[List.take_append,Gd h];exact Jv _ _
def Rel.take(R:Rel C Z I α H M)(n:Nat)(hz:Z.a.length<=n)(hb:∀m∈M.take n,We n m):Rel C Z I (α.take n) H (M.take n):=by
 refine⟨R.ai,Rv R.aa hz,R.sub,by rw[Ji,Ji,R.len],R.nd.sublist (Fn _ _),λk a m h1 h2=>?_⟩;let h1':α[k]?=some a:=by
  rw[Mp]at h1
  split at h1
  .exact h1
  .cases h1
 let h2':M[k]?=some m:=by
  rw[Mp]at h2
  split at h2
  .exact h2
  .cases h2
 let⟨a1,a2⟩:=R.cel k a m h1' h2';exists hb m (Gr h2) _ _ _ _ _ a1,a2
theorem Fin.dk{K:K3}(k:Fin C Z I α K Q){n0:Nat}(hn:α.length=n0)(ha:Z.a<+:α):Fin C Z I α (Dk n0 K) Q:=λv d I' α' H' M' s p R r h=>by
 rcases h with h|⟨n,hl,hb,hm,h⟩
 .exact k v d I' α' H' M' s p R r h
 .exact k v d I' (α'.take n) H' (M'.take n) s (Rv p ()) (R.take n (by have:=ha.length_le;lia) hm) (hb _ _ _ _ r) h
end
def Zkk{n:Nat}{i:Int}:Yw n (.int i):=λ_ _ _ _ r=>by cases r.inv;exact .int _
def Zab{n:Nat}{i:Bool}:Yw n (.bl i):=λ_ _ _ _ r=>by cases r.inv;exact .bl _
def Zke{n:Nat}{i:Str}:Yw n (.str i):=λ_ _ _ _ r=>by cases r.inv;exact .str _
def Zkg{n:Nat}:Yw n .non:=λ_ _ _ _ r=>by cases r.inv;exact .non
def Zf9{n:Nat} :Yw n (.code S):=λ_ _ _ _ r=>by cases r with|code h=>exact .code h
def Zga{n k:Nat}(h:k<n):Yw n (.cell k):=λ_ _ α _ r=>by
 let⟨_,rfl,e⟩:=r.inv;exact .cell (by rw[Mp,De h];exact e)
theorem T5{n:Nat}(h:∀d∈ds,Yw n d){C:Cf} :∀{vs:List V},Reps C I α vs ds->Reps C I (α.take n) vs ds:=by
 induction ds with
 |nil=>intro vs r;cases r.inv;exact .nil
 |cons d ds ih =>
  intro vs r;cases r with
  |cons a b=>exact .cons (h d Jn _ _ _ _ a) (ih (λx hx=>h x (Jk _ hx)) b)
def Zki{n:Nat}(h:∀d∈ds,Yw n d):Yw n (.lst ds):=λ_ _ _ _ r=>by cases r with|lst e r=>exact .lst e (T5 h r)
def Zkl{n:Nat}(h:∀d∈ds,Yw n d):Yw n (.frz ds):=λ_ _ _ _ r=>by cases r with|frz e r=>exact .frz e (T5 h r)
def Zkd{n:Nat}(h:∀d∈ds,Yw n d):Yw n (.tup ds):=λ_ _ _ _ r=>by cases r with|tup e r=>exact .tup e (T5 h r)
def Zkf{n:Nat}{ks:List NI}:Yw n (.nst ks):=λ_ _ _ _ r=>by cases r with|nst e=>exact .nst e
def Zkj{n:Nat}{x:List Int}:Yw n (.itp x):=λ_ _ _ _ r=>by cases r with|itp e=>exact .itp e
def Zkh{n:Nat}:∀d∈([]:List D),Yw n d:=λ_ h=>nomatch h
def Zf8{n:Nat}{d:D}(h:Yw n d)(r:∀d∈ds,Yw n d):∀x∈d::ds,Yw n x:=λx hx=>by
 rcases Jp.mp hx with z|z
 .rw[z];exact h
 .exact r x z
def Zqr{n:Nat}:We n .hand:=λ_ _ _ _ _ h=>h
def Zuj{n:Nat}{P:Addr}{p:Pos}{q:Str}:We n (.tab P p q):=λ_ _ _ _ _ h=>h
def Zuk{n:Nat}(h:∀d∈ds,Yw n d):We n (.lst ds):=λ_ _ _ _ _ x=>by
 let⟨vs,e,r⟩:=x;exists vs,e,T5 h r
def WfM(M:Mem):Prop:=∀m∈M,We M.length m
theorem T3{n:Nat}{kvs:List (Key×D)}(h:∀kv∈kvs,Yw n kv.2){C:Cf} :∀{vs:List (Key×V)},RepK C I α vs kvs->RepK C I (α.take n) vs kvs:=by
 induction kvs with
 |nil=>intro vs r;cases r;exact .nil
 |cons d ds ih =>
  intro vs r;cases r with
  |cons a b=>exact .cons (h _ Jn _ _ _ _ a) (ih (λx hx=>h x (Jk _ hx)) b)
theorem T4{n:Nat}{kvs:List (List Key×D)}(h:∀kv∈kvs,Yw n kv.2){C:Cf} :∀{vs:List (List Key×V)},RepT C I α vs kvs->RepT C I (α.take n) vs kvs:=by
 induction kvs with
 |nil=>intro vs r;cases r;exact .nil
 |cons d ds ih =>
  intro vs r;cases r with
  |cons a b=>exact .cons (h _ Jn _ _ _ _ a) (ih (λx hx=>h x (Jk _ hx)) b)
theorem Zkm{n:Nat}{kvs:List (Str×D)}(h:∀kv∈kvs,Yw n kv.2){C:Cf} :∀{vs:List (Str×V)},RepF C I α vs kvs->RepF C I (α.take n) vs kvs:=by
 induction kvs with
 |nil=>intro vs r;cases r;exact .nil
 |cons d ds ih =>
  intro vs r;cases r with
  |cons a b=>exact .cons (h _ Jn _ _ _ _ a) (ih (λx hx=>h x (Jk _ hx)) b)
mutual
theorem Rep.bel{C:Cf}{I:Hp}{α:List Addr}:∀{v:V}{d:D},Rep C I α v d->Yw α.length d:=by
 intro _ _ h;cases h with
 |non=>exact Zkg
 |bl b=>exact Zab
 |int i=>exact Zkk
 |str x=>exact Zke
 |ty n=>exact λ_ _ _ _ r=>by cases r.inv;exact .ty _
 |«at» a=>exact λ_ _ _ _ r=>by cases r.inv;exact .at _
 |tup e r=>exact Zkd (Reps.bel r)
 |lst e r=>exact Zki (Reps.bel r)
 |frz e r=>exact Zkl (Reps.bel r)
 |dct e r=>exact λ_ _ _ _ q=>by cases q with|dct e q=>exact .dct e (T3 (RepK.bel r) q)
 |dcT e r=>exact λ_ _ _ _ q=>by cases q with|dcT e q=>exact .dcT e (T4 (RepT.bel r) q)
 |code h=>exact Zf9
 |cell e=>exact Zga (Je.mp e).1
 |exc e f r=>exact λ_ _ _ _ q=>by cases q with|exc e f q=>exact .exc e f (Zkm (RepF.bel r) q)
 |nst e=>exact Zkf
 |itp e=>exact Zkj
theorem Reps.bel{C:Cf}{I:Hp}{α:List Addr}:∀{vs:List V}{ds:List D},Reps C I α vs ds->∀d∈ds,Yw α.length d:=by
 intro _ _ h;cases h with
 |nil=>exact Zkh
 |cons h r=>exact Zf8 (Rep.bel h) (Reps.bel r)
theorem RepK.bel{C:Cf}{I:Hp}{α:List Addr}:∀{vs:List (Key×V)}{ds:List (Key×D)},RepK C I α vs ds->∀kv∈ds,Yw α.length kv.2:=by
 intro _ _ h;cases h with
 |nil=>exact λ_ h=>nomatch h
 |cons h r =>
  exact λkv hk=>by
   rcases Jp.mp hk with z|z
   .rw[z];exact Rep.bel h
   .exact RepK.bel r kv z
theorem RepF.bel{C:Cf}{I:Hp}{α:List Addr}:∀{vs:List (Str×V)}{ds:List (Str×D)},RepF C I α vs ds->∀kv∈ds,Yw α.length kv.2:=by
 intro _ _ h;cases h with
 |nil=>exact λ_ h=>nomatch h
 |cons h r =>
  exact λkv hk=>by
   rcases Jp.mp hk with z|z
   .rw[z];exact Rep.bel h
   .exact RepF.bel r kv z
theorem RepT.bel{C:Cf}{I:Hp}{α:List Addr}:∀{vs:List (List Key×V)}{ds:List (List Key×D)},RepT C I α vs ds->∀kv∈ds,Yw α.length kv.2:=by
 intro _ _ h;cases h with
 |nil=>exact λ_ h=>nomatch h
 |cons h r =>
  exact λkv hk=>by
   rcases Jp.mp hk with z|z
   .rw[z];exact Rep.bel h
   .exact RepT.bel r kv z
end
def Zuq{n:Nat}{ds:List (Key×D)}(h:∀d∈ds,Yw n d.2):We n (.dct ds):=λ_ _ _ _ _ x=>by
 let⟨vs,e,r⟩:=x;exists vs,e,T3 h r
def Zur{n:Nat}{ds:List (List Key×D)}(h:∀d∈ds,Yw n d.2):We n (.dcT ds):=λ_ _ _ _ _ x=>by
 let⟨vs,e,r⟩:=x;exists vs,e,T4 h r
def Zun{n:Nat}{ds:List (Key×D)}(h:∀d∈ds,Yw n d.2):We n (.drK ds):=λ_ _ _ _ _ x=>by
 let⟨vs,e,r⟩:=x;exists vs,e,T3 h r
def Zum{n:Nat}{ds:List (List Key×D)}(h:∀d∈ds,Yw n d.2):We n (.drT ds):=λ_ _ _ _ _ x=>by
 let⟨vs,e,r⟩:=x;exists vs,e,T4 h r
def Zuo{n:Nat}{o:Obj}{vs:List (List Key×V)}{ds:List (List Key×D)}(h:∀d∈ds,Yw n d.2):We n (.dfT o vs ds):=λ_ _ _ _ _ x=>⟨x.1,T4 h x.2⟩
def Zup{n:Nat}{o:Obj}{vs:List (Key×V)}{ds:List (Key×D)}(h:∀d∈ds,Yw n d.2):We n (.dfK o vs ds):=λ_ _ _ _ _ x=>⟨x.1,T3 h x.2⟩
theorem RepN.bel{C:Cf}{vs:List Nkv}{ds:List (List NI×D)}(r:RepN C I α vs ds):∀kv∈ds,Yw α.length kv.2:=by
 induction r with
 |nil=>exact λ_ h=>nomatch h
 |cons h r ih=>exact λkv hk=>(Jp.mp hk).elim (λz=>by rw[z];exact h.2.bel) (ih kv)
theorem Zb3{n:Nat}{kvs:List (List NI×D)}(h:∀kv∈kvs,Yw n kv.2){C:Cf}{vs:List Nkv}(r:RepN C I α vs kvs):RepN C I (α.take n) vs kvs:=by
 induction r with
 |nil=>exact .nil
 |cons a b ih=>exact .cons ⟨a.1,h _ Jn _ _ _ _ a.2⟩ (ih λx hx=>h x (Jk _ hx))
theorem Zn1{n:Nat}{sh:List Nat}{z:Option (Obj×List Nkv)}{ds:List (List NI×D)}(h:∀d∈ds,Yw n d.2):We n (.dcN sh z ds):=λ_ _ _ _ _ x=>by
 cases z with
 |none=>obtain⟨vs,e,k,r⟩:=x;exists vs,e,k,Zb3 h r
 |some z=>exact⟨x.1,x.2.1,Zb3 h x.2.2⟩
theorem Zul{n:Nat}{Cl:Addr}{fs:List (Str×D)}(h:∀d∈fs,Yw n d.2):We n (.ins Cl fs):=λC I α H a x=>by
 let⟨dx,vs,e,r⟩:=x;exists dx,vs,e,?_;clear e
 induction fs generalizing vs with
 |nil=>cases r;exact .nil
 |cons d ds ih =>
  cases r with
  |cons a b=>exact .cons ⟨a.1,h _ Jn _ _ _ _ a.2⟩ (ih (λx hx=>h x (Jk _ hx)) _ b)
theorem MoAt.bel{C:Cf}{a:Addr}{m:MO}(h:MoAt C I α H a m):We α.length m:=by
 cases m with
 |lst ds=>obtain⟨vs,e,r⟩:=h;exact Zuk r.bel
 |dct ds=>obtain⟨vs,e,r⟩:=h;exact Zuq r.bel
 |dcT ds=>obtain⟨vs,e,r⟩:=h;exact Zur r.bel
 |drK ds=>obtain⟨vs,e,r⟩:=h;exact Zun r.bel
 |drT ds=>obtain⟨vs,e,r⟩:=h;exact Zum r.bel
 |dfT o vs ds=>exact Zuo h.2.bel
 |dfK o vs ds=>exact Zup h.2.bel
 |ins Cl fs =>
  let⟨dx,vs,e,r⟩:=h;refine Zul λkv hk=>?_;clear e
  induction r with
  |nil=>cases hk
  |cons a b ih =>
   rcases Jp.mp hk with z|z
   .rw[z];exact a.2.bel
   .exact ih z
 |hand=>exact Zqr
 |tab P pos q=>exact Zuj
 |dcN sh z ds=>cases z with|none=>obtain⟨vs,e,k,r⟩:=h;exact Zn1 r.bel|some z=>exact Zn1 h.2.2.bel
def Rel.wf{C:Cf}(R:Rel C Z I α H M):WfM M:=λm hm=>by
 let⟨k,hk,rfl⟩:=Ju hm;let hk':k < α.length:=by rw[R.len];exact hk
 let:=(R.cel k _ _ (Jb hk') (Jb hk)).1.bel;rwa [R.len]at this
theorem BelS.belowE{n:Nat}{ρ0 ρ':Ev}(b:BelS n ρ0 ρ ρ'):(∀(i:Nat)(d:D),ρ0[i]?=some (some d)->Yw n d)->BelowE n ρ ρ':=by
 induction b with
 |nil=>exact λ_=>.nil
 |skip _ ih=>exact λh=>.skip (ih λi d e=>h (i+1) d (by simpa using e))
 |same _ ih=>exact λh=>.keep (h 0 _ rfl) (ih λi d e=>h (i+1) d (by simpa using e))
 |keep hb _ ih=>exact λh=>.keep hb (ih λi d e=>h (i+1) d (by simpa using e))
theorem Dr.out{C:Cf}{I0:Hp}{α0:List Addr}{H0:Hp}{M0:Mem}{P:Ev->Mem->Prop}{σ0:St}{ρ0:Ev}(h:Dr ρ0 M0 P ρ M)(R0:Rel C Z I0 α0 H0 M0)(E0:RepE C I0 α0 σ0 ρ0)(p:α0<+:α)(R:Rel C Z I α H M)(E:RepE C I α σ ρ) :
  ∃α' ρ' M',α0<+:α'/\Rel C Z I α' H M'/\RepE C I α' σ ρ'/\P ρ' M':=by
 rcases h with h|⟨ρ',⟨X,rfl⟩,hb,h⟩|⟨n,ρ',hl,hb,hm,h⟩
 .exists α,ρ,M,p,R,E,h
 .let hb':=hb.belowE λi d e=>by
   let⟨v,_,r⟩:=E0.2 i d e;let:=r.bel;rwa [R0.len]at this
  let et:(M0++X).take M0.length=M0:=B7 ..;let R1:=R.take M0.length (by rw[<-R0.len];exact R0.aa.length_le) (by rw[et];exact R0.wf);rw[et]at R1;exists α.take M0.length,ρ',M0,Rv p (by rw[R0.len];exact Jd _),R1,hb'.rep E,h
 .exists α.take n,ρ',M.take n,Rv p (by rw[R0.len];lia),R.take n (by have:=R0.aa.length_le;let:=R0.len;lia) hm,hb.rep E,h
section
variable{C:Cf}{t t':TS}{u u':TS3}{ue:TE3}{tc:TT}{uc:TT3}{ug:TG3}{gs:TGs}{ugs:TGs3}
def uSeq(u u':TS3):TS3:=λE ρ M=>u {E with nx:=u' E} ρ M
def Zw(h1:SimS C Z t u)(h2:SimS C Z t' u'):SimS C Z (tSeq t t') (uSeq u u'):=λI α σ H ρ M E D' R RE h F =>
 h1 I α σ H ρ M {E with nx:=u' E} {D' with nx:=t' D'} R RE h ⟨λI1 α1 σ1 H1 ρ1 M1 s p R1 RE1 h1=>h2 I1 α1 σ1 H1 ρ1 M1 E D' R1 RE1 h1 (F.mono s p),F.rt,F.bk,F.ct⟩
abbrev Zve:TS3:=λE ρ M=>E.nx ρ M
def Yq:SimS C Z Zr7 Zve:=λI α σ H ρ M E D' R RE h F=>F.nx I α σ H ρ M (.refl _) (Jh _) R RE h
abbrev Zod(E:Ends3)(ρ:Ev):D->Mem->Prop:=λ_x0 M1=>E.nx ρ M1
def Zvl(ue:TE3):TS3:=λE ρ M=>ue ρ M (Zod E ρ)
def Vu(he:SimE C Z te ue):SimS C Z (Zr8 te) (Zvl ue):=λI α σ H ρ M E D' R RE h F =>
 he I α σ H ρ M _ _ R RE h λv d I1 α1 H1 M1 s p R1 r h1=>F.nx I1 α1 σ H1 ρ M1 s p R1 (RE.mono s p) h1
def uRet(ue:TE3):TS3:=λE ρ M=>ue ρ M E.rt
def Y0(he:SimE C Z te ue):SimS C Z (tRet te) (uRet ue):=λI α σ H ρ M E D' R RE h F=>he I α σ H ρ M _ _ R RE h F.rt
abbrev Zrm(u:TS3)(u':TS3)(E:Ends3)(ρ:Ev):Bool->Mem->Prop:=λb M1=>if b=true then u E ρ M1 else u' E ρ M1
def uIfS(c:TT3)(u u':TS3):TS3:=λE ρ M=>c ρ M (Zrm u u' E ρ)
def Xp(hc:SimT C Z tc uc)(h1:SimS C Z t u)(h2:SimS C Z t' u'):SimS C Z (tIfS tc t t') (uIfS uc u u'):=λI α σ H ρ M E D' R RE h F =>
 hc I α σ H ρ M _ _ R RE h λb I1 α1 H1 M1 s p R1 h3=>by
  cases b with
  |true =>
   exact h1 I1 α1 σ H1 ρ M1 E D' R1 (RE.mono s p) h3 (F.mono s p)
  |false =>
   exact h2 I1 α1 σ H1 ρ M1 E D' R1 (RE.mono s p) h3 (F.mono s p)
def Zrg:TS3:=λ_ _ _=>False
def Zhn:SimS C Z Zmw Zrg:=λI α σ H ρ M E D' R RE h F=>h
abbrev Zak(ug:TG3)(E:Ends3)(ρ:Ev):D->Mem->Prop:=λd M1=>ug d ρ M1 E.nx
def uAsg(ue:TE3)(ug:TG3):TS3:=λE ρ M=>ue ρ M (Zak ug E ρ)
def Z9(he:SimE C Z te ue)(hg:SimG C Z g ug):SimS C Z (tAsg te g) (uAsg ue ug):=λI α σ H ρ M E D' R RE h F =>
 he I α σ H ρ M _ _ R RE h λv d I1 α1 H1 M1 s p R1 r h1=>hg I1 α1 σ H1 ρ M1 v d _ _ R1 (RE.mono s p) r h1 (F.nx.mono s p)
abbrev uG(i:Nat):TG3:=λd ρ M K=>K (ρ.set i (some d)) M
def s_g(i:Nat):SimG C Z (Zbk i) (uG i):=λI α σ H ρ M v d K Q R RE r h k=>k I α _ H _ M (.refl _) (Jh _) R (RE.set r i) h
abbrev Zvi:TGs3:=λds ρ M K=>ds=[]/\K ρ M
abbrev Zk6(ugs:TGs3)(r:List D)(K:Ev->Mem->Prop):Ev->Mem->Prop:=λρ' M'=>ugs r ρ' M' K
inductive uGCons(ug:TG3)(ugs:TGs3)(ds:List D)(ρ:Ev)(M:Mem)(K:Ev->Mem->Prop):Prop
 |mk:∀d r,ds=d::r->ug d ρ M (Zk6 ugs r K)->uGCons ug ugs ds ρ M K
def Sz:Zmr C Z gNil Zvi:=λI α σ H ρ M vs ds K Q R RE r h k=>by
 let⟨rfl,h⟩:=h;cases r.inv;exists rfl,k I α σ H ρ M (.refl _) (Jh _) R RE h
theorem Xd(h1:SimG C Z g ug)(h2:Zmr C Z gs ugs):Zmr C Z (Zqb g gs) (uGCons ug ugs):=λI α σ H ρ M vs ds K Q R RE r h k=>by
 let⟨d,r',rfl,h⟩:=h;cases r with
 |cons a b=>exact⟨_,_,rfl,h1 I α σ H ρ M _ d _ _ R RE a h λI1 α1 σ1 H1 ρ1 M1 s p R1 RE1 h3=>h2 I1 α1 σ1 H1 ρ1 M1 _ _ _ _ R1 RE1 (b.mono s p) h3 (k.mono s p)⟩
inductive uGTup(n:Nat)(ugs:TGs3)(d:D)(ρ:Ev)(M:Mem)(K:Ev->Mem->Prop):Prop
 |mk:∀ds,Zok d=some ds->ds.length=n->ugs ds ρ M K->uGTup n ugs d ρ M K
def Sy{n:Nat}(h:Zmr C Z gs ugs):SimG C Z (gTup C.k n gs) (uGTup n ugs):=λI α σ H ρ M v d K Q R RE r hh k=>by
 let⟨ds,e,hl,hh⟩:=hh;let⟨a,vs,rfl,ea,_,ra⟩:=Sv R r e;exists a,vs,rfl,SqT.of ea,by rw[ra.length];exact hl,h I α σ H ρ M vs ds K Q R RE ra hh k
inductive uGSub_2(d:D)(ρ:Ev)(K:Ev->Mem->Prop)(o:D)(i:D)(M2:Mem):Prop
 |mk:∀k xs z j,o=.cell k->i=.int z->M2[k]?=some (.lst xs)->ixN xs.length z=some j->K ρ (M2.set k (.lst (xs.set j d)))->uGSub_2 d ρ K o i M2
abbrev Zoc(ui:TE3)(d:D)(ρ:Ev)(K:Ev->Mem->Prop):D->Mem->Prop:=λo M1=>ui ρ M1 (uGSub_2 d ρ K o)
def Zvh(uo ui:TE3):TG3:=λd ρ M K=>uo ρ M (Zoc ui d ρ K)
def Zna{ti:TE}{ui:TE3}(ho:SimE C Z to uo)(hi:SimE C Z ti ui):SimG C Z (gSub to ti Zs1) (Zvh uo ui):=λI α σ H ρ M v d K Q R RE r hh k =>
 ho I α σ H ρ M _ _ R RE hh λov o I1 α1 H1 M1 s1 p1 R1 r1 h1=>hi I1 α1 σ H1 ρ M1 _ _ R1 (RE.mono s1 p1) h1 λiv i I2 α2 H2 M2 s2 p2 R2 r2 h2=>by
  let⟨kk,xs,z,j,rfl,rfl,e1,e2,h2⟩:=h2;cases r2.inv;let⟨_,rfl,ec⟩:=(r1.mono s2 p2).inv;let⟨us,eu,ru⟩:=R8 R2 ec e1;exists _,us,z,j,rfl,rfl,eu,by rw[ru.length];exact e2,?_;exact k I2 α2 σ _ ρ _ (s1.trans s2) (p1.trans p2) (R2.putL ec (ru.set (r.mono (s1.trans s2) (p1.trans p2)) j)) (RE.mono (s1.trans s2) (p1.trans p2)) h2
abbrev Zd1(P:Nat->Ev->Mem->Prop)(ρ:Ev)(M:Mem)(m:Nat):Ev->Mem->Prop:=λρ' M'=>∃m',m'<m/\Dr ρ M (P m') ρ' M'
abbrev Zk2(E:Ends3)(P:Nat->Ev->Mem->Prop)(ρ:Ev)(M:Mem)(m:Nat):Ends3:={E with nx:=Zd1 P ρ M m,ct:=Zd1 P ρ M m,bk:=E.nx}
abbrev Zk3(u:TS3)(E:Ends3)(ρ:Ev)(M:Mem)(P:Nat->Ev->Mem->Prop)(m:Nat)(ρ1:Ev):Bool->Mem->Prop:=λb M2=>if b=true then u (Zk2 E P ρ M m) ρ1 M2 else E.nx ρ1 M2
inductive uWhile(uc:TT3)(u:TS3)(E:Ends3)(ρ:Ev)(M:Mem):Prop
 |mk:∀P:Nat->Ev->Mem->Prop,(∃m,P m ρ M)->(∀m ρ1 M1,P m ρ1 M1->uc ρ1 M1 (Zk3 u E ρ M P m ρ1))->uWhile uc u E ρ M
theorem Zot(hc:SimT C Z tc uc)(hb:SimS C Z t u):SimS C Z (Zgx tc t) (uWhile uc u):=λI α σ H ρ M E D' R RE h F=>by
 let⟨P,⟨m0,h0⟩,hs⟩:=h;let hlen:=R.len;exists λm σ1 H1=>∃I1 α1 ρ1 M1,Same I I1/\α<+:α1/\Rel C Z I1 α1 H1 M1/\RepE C I1 α1 σ1 ρ1/\P m ρ1 M1,⟨m0,I,α,ρ,M,.refl _,Jh _,R,RE,h0⟩,?_;rintro m σ1 H1 ⟨I1,α1,ρ1,M1,s1,p1,R1,RE1,h1⟩;refine hc I1 α1 σ1 H1 ρ1 M1 _ _ R1 RE1 (hs m ρ1 M1 h1) λb I2 α2 H2 M2 s2 p2 R2 h2=>?_;cases b with
 |false =>
  exact F.nx I2 α2 σ1 H2 ρ1 M2 (s1.trans s2) (p1.trans p2) R2 (RE1.mono s2 p2) h2
 |true =>
  refine⟨λσ' H'=>∃m',m'<m/\∃I1 α1 ρ1 M1,Same I I1/\α<+:α1/\Rel C Z I1 α1 H' M1/\RepE C I1 α1 σ' ρ1/\P m' ρ1 M1,λσ' H' h=>h,?_⟩;let nx:FinS C Z I2 α2 (λρ' M'=>∃m',m'<m/\Dr ρ M (P m') ρ' M') (λσ' H'=>∃m',m'<m/\∃I1 α1 ρ1 M1,Same I I1/\α<+:α1/\Rel C Z I1 α1 H' M1/\RepE C I1 α1 σ' ρ1/\P m' ρ1 M1):=λI3 α3 σ3 H3 ρ3 M3 s3 p3 R3 RE3 h3=>by
   let⟨m',hm,h3⟩:=h3;let⟨α4,ρ4,M4,p4,R4,RE4,h4⟩:=h3.out R RE (p1.trans (p2.trans p3)) R3 RE3;exists m',hm,I3,α4,ρ4,M4,s1.trans (s2.trans s3),p4,R4,RE4,h4
  exact hb I2 α2 σ1 H2 ρ1 M2 _ _ R2 (RE1.mono s2 p2) h2 ⟨nx,F.rt.mono (s1.trans s2) (p1.trans p2),F.nx.mono (s1.trans s2) (p1.trans p2),nx⟩
structure It3 where
 n:Nat
 item:Nat->D->Prop
 ok:Mem->Prop
abbrev TI3:=Ev->Mem->(It3->Mem->Prop)->Prop
def ItR(C:Cf)(Z:Anc)(I:Hp)(α:List Addr)(J:It)(j:It3):Prop:=∀I' α' H' M',Same I I'->α<+:α'->Rel C Z I' α' H' M'->j.ok M' ->
 (∀i,i<j.n->J.go i H'/\∀x H2,J.yld i H' x H2->∃I2 d,Same I' I2/\Rel C Z I2 α' H2 M'/\Rep C I2 α' x d/\j.item i d)/\J.stop j.n H'
def SimI(C:Cf)(Z:Anc)(w:TI)(u:TI3):Prop:=∀I α σ H ρ M(K:It3->Mem->Prop)(R':It->Hp->Prop),Rel C Z I α H M->RepE C I α σ ρ->u ρ M K ->
 (∀J j I' α' H' M',Same I I'->α<+:α'->Rel C Z I' α' H' M'->ItR C Z I' α' J j->K j M'->R' J H')->w σ H R'
inductive uIL_1(K:It3->Mem->Prop)(d:D)(M1:Mem):Prop
 |mk:∀ds,Wb M1 d=some ds->K ⟨ds.length,λi x=>ds[i]?=some x,λM=>Wb M d=some ds⟩ M1->uIL_1 K d M1
def uIL(ue:TE3):TI3:=λρ M K=>ue ρ M (uIL_1 K)
def s_il(he:SimE C Z te ue):SimI C Z (Zt5 C.k te) (uIL ue):=λI α σ H ρ M K R' R RE h k =>
 he I α σ H ρ M _ _ R RE h λv d I1 α1 H1 M1 s1 p1 R1 r1 h1=>by
  let⟨ds,e,h1⟩:=h1;let⟨a,vs,rfl,ea,ra⟩:=Wm R1 r1 e;exists a,rfl,⟨vs,ea⟩,k _ _ I1 α1 H1 M1 s1 p1 R1 (λI2 α2 H2 M2 s2 p2 R2 ok=>?_) h1;let⟨b,ws,eb,eq,rw'⟩:=Wm R2 (r1.mono s2 p2) ok;cases eb;exists λi hi=>?_,⟨ws,eq,by rw[rw'.length];exact Jd _⟩;let hi2:i<ws.length:=by rw[rw'.length];exact hi
  exists⟨ws,ws[i],eq,Jb hi2⟩,λx H3 y=>?_;let⟨rfl,y⟩:=y;let:=y ws eq;rw[Jb hi2]at this;cases this;exists I2,ds[i],.refl _,R2,rw'.at hi2 hi,Jb hi
inductive uIT_1(K:It3->Mem->Prop)(d:D)(M1:Mem):Prop
 |mk:∀ds,Zok d=some ds->K ⟨ds.length,λi x=>ds[i]?=some x,λ_=>True⟩ M1->uIT_1 K d M1
def uIT(ue:TE3):TI3:=λρ M K=>ue ρ M (uIT_1 K)
def s_it(he:SimE C Z te ue):SimI C Z (iTup C.k te) (uIT ue):=λI α σ H ρ M K R' R RE h k =>
 he I α σ H ρ M _ _ R RE h λv d I1 α1 H1 M1 s1 p1 R1 r1 h1=>by
  let⟨ds,e,h1⟩:=h1;let⟨a,vs,rfl,ea,ia,ra⟩:=Sv R1 r1 e;exists a,rfl,⟨vs,SqT.of ea⟩,k _ _ I1 α1 H1 M1 s1 p1 R1 (λI2 α2 H2 M2 s2 p2 R2 ok=>?_) h1;let eq:SqT C.k H2 a vs:=SqT.of (R2.sub _ _ (s2 _ _ ia));let rw':=ra.mono s2 p2;exists λi hi=>?_,⟨vs,eq,by rw[rw'.length];exact Jd _⟩;let hi2:i<vs.length:=by rw[rw'.length];exact hi
  exists⟨vs,vs[i],eq,Jb hi2⟩,λx H3 y=>?_;let⟨rfl,y⟩:=y;let:=y vs eq;rw[Jb hi2]at this;cases this;exists I2,ds[i],.refl _,R2,rw'.at hi2 hi,Jb hi
def Zfo(lo:Int)(n:Nat):It3:=⟨n,λi x=>x=.int (lo+i),λ_=>True⟩
def Zty{lo:Int}{n:Nat}:ItR C Z I α (Itr lo n) (Zfo lo n):=λI' α' H' M' s p R _=>⟨λi hi=>⟨hi,λx H2 y=>by
 let⟨rfl,rfl⟩:=y;exact⟨I',_,.refl _,R,.int _,rfl⟩⟩,Jd _⟩
variable{ta:TA}{ua:TA3}
inductive uIR1_1(K:It3->Mem->Prop)(ds:List D)(M1:Mem):Prop
 |mk:∀j:Int,ds=[.int j]->(-(2 ^ 62)<=j/\j<2 ^ 62)->K (Zfo 0 j.toNat) M1->uIR1_1 K ds M1
def uIR1(ua:TA3):TI3:=λρ M K=>ua ρ M (uIR1_1 K)
def Ph(ha:SimA C Z ta ua):SimI C Z (Zt4 ta) (uIR1 ua):=λI α σ H ρ M K R' R RE h k =>
 ha I α σ H ρ M _ _ R RE h λvs ds I1 α1 H1 M1 s1 p1 R1 r1 h1=>by
  let⟨j,rfl,⟨h2,h3⟩,h1⟩:=h1;refine Reps.e1 r1 λ_ a=>?_;cases a;exists j,rfl,h2,h3,k _ _ I1 α1 H1 M1 s1 p1 R1 Zty h1
inductive uIR2_1(K:It3->Mem->Prop)(ds:List D)(M1:Mem):Prop
 |mk:∀i j:Int,ds=[.int i,.int j]->(-(2 ^ 62)<=i/\i<2 ^ 62/\-(2 ^ 62)<=j/\j<2 ^ 62)->K (Zfo i (j-i).toNat) M1->uIR2_1 K ds M1
def uIR2(ua:TA3):TI3:=λρ M K=>ua ρ M (uIR2_1 K)
def Zsq(ha:SimA C Z ta ua):SimI C Z (Zt3 ta) (uIR2 ua):=λI α σ H ρ M K R' R RE h k =>
 ha I α σ H ρ M _ _ R RE h λvs ds I1 α1 H1 M1 s1 p1 R1 r1 h1=>by
  let⟨i,j,rfl,h2,h1⟩:=h1;refine Reps.e2 r1 λ_ _ a b=>?_;cases a;cases b;exists i,j,rfl,h2,k _ _ I1 α1 H1 M1 s1 p1 R1 Zty h1
abbrev Zrn(E:Ends3)(ρ:Ev)(M:Mem)(P:Nat->Ev->Mem->Prop)(i:Nat):Ends3:={E with nx:=Dr ρ M (P (i+1)),ct:=Dr ρ M (P (i+1)),bk:=E.nx}
inductive uFor_1(ug:TG3)(ub:TS3)(E:Ends3)(ρ:Ev)(j:It3)(M1:Mem):Prop
 |mk:∀P:Nat->Ev->Mem->Prop,(∀i ρ M,i<=j.n->P i ρ M->j.ok M)->P 0 ρ M1 ->
  (∀i x ρ1 M',i<j.n->j.item i x->P i ρ1 M'->ug x ρ1 M' (ub (Zrn E ρ M1 P i)))->(∀ρ M,P j.n ρ M->E.nx ρ M)->uFor_1 ug ub E ρ j M1
def uFor(ui:TI3)(ug:TG3)(ub:TS3):TS3:=λE ρ M=>ui ρ M (uFor_1 ug ub E ρ)
theorem Wj{ui:TI3}(hi:SimI C Z wi ui)(hg:SimG C Z g ug)(hb:SimS C Z t u):SimS C Z (tFor wi g t) (uFor ui ug u):=λI α σ H ρ M E D' R RE h F =>
 hi I α σ H ρ M _ _ R RE h λJ j I1 α1 H1 M1 s1 p1 R1 IR h1=>by
  let⟨P,hok,h0,hs,he⟩:=h1;let hlen:=R1.len;exists λi m σ' H'=>m=j.n-i/\i<=j.n/\∃I2 α2 ρ2 M2,Same I1 I2/\α1<+:α2/\Rel C Z I2 α2 H' M2/\RepE C I2 α2 σ' ρ2/\P i ρ2 M2,⟨j.n,rfl,Gc _,I1,α1,ρ,M1,.refl _,Jh _,R1,RE.mono s1 p1,h0⟩,?_;rintro i m σ' H' ⟨rfl,hi,I2,α2,ρ2,M2,s2,p2,R2,RE2,h2⟩;let⟨go,stop⟩:=IR I2 α2 H' M2 s2 p2 R2 (hok i ρ2 M2 hi h2)
  by_cases hlt:i<j.n
  .let⟨g1,g2⟩:=go i hlt;refine .inr ⟨g1,λσ3 H3=>∃I3 α3 ρ3 M3,Same I1 I3/\α1<+:α3/\Rel C Z I3 α3 H3 M3/\RepE C I3 α3 σ3 ρ3/\P (i+1) ρ3 M3,λσ3 H3 h3=>⟨j.n-(i+1),(),rfl,hlt,h3⟩,λx H3 y=>?_⟩;let⟨I3,d,s3,R3,r3,it⟩:=g2 x H3 y;refine hg I3 α2 σ' H3 ρ2 M2 x d _ _ R3 (RE2.mono s3 (Jh _)) r3 (hs i d ρ2 M2 hlt it h2) λI4 α4 σ4 H4 ρ4 M4 s4 p4 R4 RE4 h4=>?_;let nx:FinS C Z I4 α4 (Dr ρ M1 (P (i+1))) (λσ3 H3=>∃I3 α3 ρ3 M3,Same I1 I3/\α1<+:α3/\Rel C Z I3 α3 H3 M3/\RepE C I3 α3 σ3 ρ3/\P (i+1) ρ3 M3):=λI5 α5 σ5 H5 ρ5 M5 s5 p5 R5 RE5 h5=>by
    let⟨α6,ρ6,M6,p6,R6,RE6,h6⟩:=h5.out R1 (RE.mono s1 p1) (p2.trans (p4.trans p5)) R5 RE5;exists I5,α6,ρ6,M6,s2.trans (s3.trans (s4.trans s5)),p6,R6,RE6,h6
   let F4:=F.mono (s1.trans (s2.trans (s3.trans s4))) (p1.trans (p2.trans p4));exact hb I4 α4 σ4 H4 ρ4 M4 _ _ R4 RE4 h4 ⟨nx,F4.rt,F4.nx,nx⟩
  .let e:i=j.n:=by lia
   subst e;exact .inl ⟨stop,F.nx I2 α2 σ' H' ρ2 M2 (s1.trans s2) (p1.trans p2) R2 RE2 (he ρ2 M2 h2)⟩
def sg3(ρ:Ev)(T:List Str)(cs:List Nat):Ev:=T.map (λ_=>none)++cs.map λi=>ρ.getD i none
def RepE.sg(h:RepE C I α σ ρ)(T:List Str)(cs:List Nat):RepE C I α (sgOf σ T cs) (sg3 ρ T cs):=by
 exists by unfold sgOf sg3;simp,λi d e=>?_;unfold sg3 at e;unfold sgOf
 by_cases hi:i<T.length
 .rw[Jq (by simpa using hi),Jx,Jb hi]at e;simp at e
 .rw[J9 (by simpa using hi),Jx]at e;rw[J9 (by simpa using hi),Jx];simp only[Ja]at e⊢;cases hc:cs[i-T.length]? with
  |none=>rw[hc]at e;cases e
  |some c =>
   rw[hc]at e;simp only[Bz,Jga]at e⊢;rw[Gq]at e⊢;cases hr:ρ[c]? with
   |none=>rw[hr]at e;cases e
   |some o =>
    rw[hr]at e;cases e;let⟨v,e2,r⟩:=h.2 c d hr;exists v,by rw[e2];rfl,r
variable{tt:TT}{ut:TT3} 
abbrev Zuf(P:Nat->List D->Mem->Prop)(i:Nat)(ys:List D):D->Mem->Prop:=λy M4=>P (i+1) (ys++[y]) M4
abbrev Zug(ue:TE3)(P:Nat->List D->Mem->Prop)(i:Nat)(ys:List D)(ρ2:Ev):Bool->Mem->Prop:=λb M3=>if b=true then ue ρ2 M3 (Zuf P i ys)else P (i+1) ys M3
abbrev Zuh(ut:TT3)(ue:TE3)(P:Nat->List D->Mem->Prop)(i:Nat)(ys:List D):Ev->Mem->Prop:=λρ2 M2=>ut ρ2 M2 (Zug ue P i ys ρ2)
inductive cmp3_0(ug:TG3)(ut:TT3)(ue:TE3)(T:List Str)(cs:List Nat)(ρ:Ev)(F:List D->Mem->Prop)(j:It3)(M1:Mem):Prop
 |mk:j.n<=sizeLine->∀P:Nat->List D->Mem->Prop,(∀i ys M,i<=j.n->P i ys M->j.ok M)->P 0 [] M1 ->
  (∀i x ys M,i<j.n->j.item i x->P i ys M->ug x (sg3 ρ T cs) M (Zuh ut ue P i ys))->(∀ys M,P j.n ys M->F ys M)->cmp3_0 ug ut ue T cs ρ F j M1
def cmp3(ui:TI3)(ug:TG3)(ut:TT3)(ue:TE3)(T:List Str)(cs:List Nat)(ρ:Ev)(M:Mem)(F:List D->Mem->Prop):Prop:=ui ρ M (cmp3_0 ug ut ue T cs ρ F)
abbrev Zoi(K:K3):List D->Mem->Prop:=λys M1=>K (.lst ys) M1
abbrev Zk7(K:K3):List D->Mem->Prop:=λys M1=>K (.cell M1.length) (M1++[.lst ys])
def Zvp(ui:TI3)(ug:TG3)(ut:TT3)(ue:TE3)(T:List Str)(cs:List Nat):TE3:=λρ M K=>cmp3 ui ug ut ue T cs ρ M (Zoi K)
def Zrr(ui:TI3)(ug:TG3)(ut:TT3)(ue:TE3)(T:List Str)(cs:List Nat):TE3:=λρ M K=>cmp3 ui ug ut ue T cs ρ M (Zk7 K)
theorem Ze7{ui:TI3}(hi:SimI C Z wi ui)(hg:SimG C Z g ug)(ht:SimT C Z tt ut)(he:SimE C Z te ue){F:List D->Mem->Prop}(R:Rel C Z I α H M)(RE:RepE C I α σ ρ)(h:cmp3 ui ug ut ue T cs ρ M F)(k:∀ys vs I' α' H' M',Same I I'->α<+:α'->Rel C Z I' α' H' M'->Reps C I' α' vs ys->F ys M'->∀p,H' p=none->Q (.ref p) (upd H' p (.lst vs))):Zg1 wi g tt te T cs σ H Q :=
 hi I α σ H ρ M _ _ R RE h λJ j I1 α1 H1 M1 s1 p1 R1 IR h1=>by
  let⟨hz,P,hok,h0,hs,hd⟩:=h1;exists λi m vs H'=>m=j.n-i/\i<=j.n/\∃I2 α2 ys M2,Same I1 I2/\α1<+:α2/\Rel C Z I2 α2 H' M2/\Reps C I2 α2 vs ys/\ys.length<=i/\P i ys M2,⟨j.n,rfl,Gc _,I1,α1,[],M1,.refl _,Jh _,R1,.nil,Jd _,h0⟩,?_;rintro i m vs H' ⟨rfl,hi,I2,α2,ys,M2,s2,p2,R2,r2,hl,h2⟩;let⟨go,stop⟩:=IR I2 α2 H' M2 s2 p2 R2 (hok i ys M2 hi h2);let hvl:=r2.length
  by_cases hlt:i<j.n
  .let⟨g1,g2⟩:=go i hlt;refine .inr ⟨g1,(),λvs3 H3=>∃I3 α3 ys3 M3,Same I1 I3/\α1<+:α3/\Rel C Z I3 α3 H3 M3/\Reps C I3 α3 vs3 ys3/\ys3.length<=i+1/\P (i+1) ys3 M3,λvs3 H3 h3=>⟨j.n-(i+1),(),rfl,hlt,h3⟩,λx H3 y=>?_⟩;let⟨I3,d,s3,R3,r3,it⟩:=g2 x H3 y;let RE3:RepE C I3 α2 σ ρ:=RE.mono (s1.trans (s2.trans s3)) (p1.trans p2);refine hg I3 α2 _ H3 _ M2 x d _ _ R3 (RE3.sg T cs) r3 (hs i d ys M2 hlt it h2) λI4 α4 σ4 H4 ρ4 M4 s4 p4 R4 RE4 h4=>?_;refine ht I4 α4 σ4 H4 ρ4 M4 _ _ R4 RE4 h4 λb I5 α5 H5 M5 s5 p5 R5 h5=>?_;cases b with
   |true =>
    refine he I5 α5 σ4 H5 ρ4 M5 _ _ R5 (RE4.mono s5 p5) h5 λv e I6 α6 H6 M6 s6 p6 R6 r6 h6=>?_;exists I6,α6,ys++[e],M6,s2.trans (s3.trans (s4.trans (s5.trans s6))),p2.trans (p4.trans (p5.trans p6)),R6,(r2.mono (s3.trans (s4.trans (s5.trans s6))) (p4.trans (p5.trans p6))).app (.one r6),?_,h6;rw[Jc,Gp];lia
   |false =>
    exists I5,α5,ys,M5,s2.trans (s3.trans (s4.trans s5)),p2.trans (p4.trans p5),R5,r2.mono (s3.trans (s4.trans s5)) (p4.trans p5),(),h5
  .let e:i=j.n:=by lia
   subst e;exact .inl ⟨stop,(),k ys vs I2 α2 H' M2 (s1.trans s2) (p1.trans p2) R2 r2 (hd ys M2 h2)⟩
def U3{ui:TI3}(hi:SimI C Z wi ui)(hg:SimG C Z g ug)(ht:SimT C Z tt ut)(he:SimE C Z te ue):SimE C Z (Zg1 wi g tt te T cs) (Zvp ui ug ut ue T cs):=λI α σ H ρ M K Q R RE h k =>
 Ze7 hi hg ht he R RE h λys vs I' α' H' M' s p R' r hF q hq=>by
  let⟨R2,s2,e2⟩:=R'.new (o:=.lst vs) hq;exact k _ _ _ α' _ M' (s.trans s2) p R2 (.lst e2 (r.mono s2 (Jh _))) hF
def Zo0{ui:TI3}(hi:SimI C Z wi ui)(hg:SimG C Z g ug)(ht:SimT C Z tt ut)(he:SimE C Z te ue):SimE C Z (Zg1 wi g tt te T cs) (Zrr ui ug ut ue T cs):=λI α σ H ρ M K Q R RE h k =>
 Ze7 hi hg ht he R RE h λys vs I' α' H' M' s p R' r hF q hq=>by
  let⟨R2,p2,e2⟩:=R'.cell (o:=.lst vs) (m:=.lst ys) hq λH' e=>⟨vs,e,r⟩;exact k _ _ I' _ _ _ s (p.trans p2) R2 (.cell e2) hF
abbrev Zu8:TT3:=λ_ M K=>K true M
def Sw:SimT C Z Zr2 Zu8:=λI α σ H ρ M K Q R E h k=>k true I α H M (.refl _) (Jh _) R h
abbrev Sp3:=List D->Mem->K3->Prop
def spOf(C:Cf)(sp:Sp3):Sp:=λvs H Q _=>∃Z I α M ds K,Rel C Z I α H M/\Reps C I α vs ds/\sp ds M K/\Fin C Z I α K Q
abbrev Zoj(sp:Sp3)(K:K3):List D->Mem->Prop:=λds M1=>sp ds M1 K
def Zvq(sp:Sp3)(ua:TA3):TE3:=λρ M K=>ua ρ M (Zoj sp K)
def Z3{sp:Sp3}{E0':XK}(ha:SimA C Z ta ua):SimE C Z (Zg2 (spOf C sp) [] E0' ta) (Zvq sp ua):=λI α σ H ρ M K Q R RE h k =>
 ha I α σ H ρ M _ _ R RE h λvs ds I1 α1 H1 M1 s1 p1 R1 r1 h1=>by
  rw[Gh];exists Z,I1,α1,M1,ds,K,R1,r1,h1,k.mono s1 p1
def Cal.imp{w:C0}{base:Heap}{x:Str}{k:Nat}(c:Cal P w K mg base x k ps sp)(h:∀vs H Q E,sp' vs H Q E->sp vs H Q E):Cal P w K mg base x k ps sp' :=
 let⟨f,fd,a,b⟩:=c
 ⟨f,fd,a.imp h,b⟩
def Zam(N:List Str)(ds:List D):Ev:=ds.map some++Ck (N.length-ds.length) none
def Zaw(r:Reps C I α vs ds)(N:List Str):RepE C I α (L2.U6 N vs) (Zam N ds):=by
 let hl:=r.length;exists by unfold L2.U6 Zam;simp[hl],λi d e=>?_;unfold Zam at e;unfold L2.U6
 by_cases hi:i<ds.length
 .rw[Jq (by simpa using hi),Jx,Jb hi]at e;let e':ds[i]=d:=by simpa using e
  rw[Jq (by simpa[hl]using hi),Jx,Jb (by rw[hl];exact hi)];exists ·,e' ▸ r.at (by rw[hl];exact hi) hi
 .rw[J9 (by simpa using hi),Jb8]at e
  split at e<;>cases e
def Fun.ok3{w:C0}{base:Heap}{x:Str}{f:Addr}{k:Nat}{sp:Sp3}(F:Fun K x qual st f fd)(S:FnScope N ps (Zp st))(len:∀ds M K,sp ds M K->ds.length=ps.length)(hbody:∀(cdv:Value)(A:K2)(outer:List Env)(s:Ca)(H:Hp)(E:XK),Room k (A.deeper (Kd qual (Zp st) s.heap.objs.size f cdv)) ->
   ∃t u,PSs (cxOf CX0 P w K mg base N qual (Zp st) f cdv A outer s H E).nox (Xg st) t/\(∀Z,SimS C Z t u)/\∀ds M K,WfM M->(∀d∈ds,Yw M.length d)->sp ds M K->u {nx:=λ_ M'=>Dk M.length K .non M',rt:=Dk M.length K} (Zam N ds) M):FnOk P w K mg base CX0 (k+1) f fd ps (spOf C sp):=by
 refine F.ok S (λvs H Q E h=>?_) (λcdv A outer s H vs Q E hr h=>?_)
 .let⟨Z,I,α,M,ds,K,R,r,h,_⟩:=h;rw[r.length];exact len ds M K h
 .let⟨t,u,h1,h2,h3⟩:=hbody cdv A outer s H E hr;let⟨Z,I,α,M,ds,K,R,r,h,k⟩:=h;let kd:=k.dk R.len R.aa;exists t,h1,h2 Z I α _ H _ M _ _ R (Zaw r N) (h3 ds M K R.wf (by rw[<-R.len];exact r.bel) h) ⟨λI1 α1 σ1 H1 ρ1 M1 s1 p1 R1 _ h1=>kd _ _ I1 α1 H1 M1 s1 p1 R1 .non h1,kd,λ_ _ _ _ _ _ _ _ _ _ h=>h.elim,λ_ _ _ _ _ _ _ _ _ _ h=>h.elim⟩
end
section
variable{C:Cf} 
def Rel.full(R:Rel C Z I α H M):∃I',Same I I'/\Rel C Z I' α H M/\∀b o,H b=some o->b∉α->I' b=some o:=by
 let s:Same I (λb=>if b∈α then none else H b):=λb o e=>by
  let hb:b∉α:=λhb=>by
   let⟨k,hk,rfl⟩:=Ju hb;let hk':k<M.length:=by rw[<-R.len];exact hk
   rw[(R.cel k _ _ (Jb hk) (Jb hk')).2]at e;cases e
  show(if b∈α then none else H b)=some o;rw[Dd hb];exact R.sub b o e
 exists _,s,⟨R.ai.trans s,R.aa,λb o e=>?_,R.len,R.nd,λk a m h1 h2=>?_⟩,λb o e hb=>?_
 .let e':(if b∈α then none else H b)=some o:=e
  split at e'
  .cases e'
  .exact e'
 .exists(R.cel k a m h1 h2).1.mono s (Jh _) rfl,?_;show(if a∈α then none else H a)=none;rw[De (Gr h1)]
 .show(if b∈α then none else H b)=some o;rw[Dd hb];exact e
def Rel.out(R:Rel C Z I α H M)(h:H l=none):l∉α:=λhl=>by
 let⟨k,hk,e⟩:=Ju hl;exact R.cellNe (Jb hk) h e
theorem Rel.tupOut(R:Rel C Z I α H M)(h:H l=some (.tup vs)):l∉α:=λhl=>by
 let⟨k,hk,rfl⟩:=Ju hl;let hk':k<M.length:=by rw[<-R.len];exact hk
 let:=(R.cel k _ _ (Jb hk) (Jb hk')).1;cases hm:M[k]with
 |lst ds=>rw[hm]at this;let⟨vs,e,_⟩:=this;rw[h]at e;cases e
 |dct ds=>rw[hm]at this;let⟨vs,e,_⟩:=this;rw[h]at e;cases e
 |dcT ds=>rw[hm]at this;let⟨vs,e,_⟩:=this;rw[h]at e;cases e
 |drK ds=>rw[hm]at this;let⟨vs,e,_⟩:=this;rcases e with e|⟨o,e⟩<;>(rw[h]at e;cases e)
 |drT ds=>rw[hm]at this;let⟨vs,e,_⟩:=this;rcases e with e|⟨o,e⟩<;>(rw[h]at e;cases e)
 |dfT o vs ds=>rw[hm]at this;let e:=this.1;rw[h]at e;cases e
 |dfK o vs ds=>rw[hm]at this;let e:=this.1;rw[h]at e;cases e
 |ins Cl fs=>rw[hm]at this;let⟨dx,vs,e,_⟩:=this;rw[h]at e;cases e
 |hand=>rw[hm]at this;let⟨d,k,c,cs,e,_⟩:=this;rw[h]at e;cases e
 |tab P pos q=>rw[hm]at this;let⟨_,ps,e,_⟩:=this;rw[h]at e;cases e
 |dcN sh z ds=>rw[hm]at this;cases z with|none=>obtain⟨vs,e,_⟩:=this;rw[h]at e;cases e|some z=>have e:=this.1;rw[h]at e;cases e
def Rel.same(R:Rel C Z I α H M)(s:Same H H'):Rel C Z I α H' M:=by
 exists R.ai,R.aa,R.sub.trans s,R.len,R.nd,λk a m h1 h2=>?_;let⟨a1,a2⟩:=R.cel k a m h1 h2;let⟨o,e⟩:=a1.some;exists a1.mono (.refl _) (Jh _) ((s _ _ e).trans e.symm),a2
def Rel.grow(R:Rel C Z I α H M){k:Nat}{p c:Addr}{cs:List Int}(ha:α[k]?=some p)(hm:M[k]?=some .hand)(hh:HandAt H' p c)(ic:I c=some (.lst (cs.map V.int)))(hc:cs≠[]/\cs.length<=63/\∀c∈cs,0<=c)(g:Grow p H H'):Rel C Z I α H' M:=by
 let ip:I p=none:=(R.cel k p _ ha hm).2;exists R.ai,R.aa,λb o e=>g b o (R.sub b o e) (λz=>by rw[z,ip]at e;cases e),R.len,R.nd,λj a m h1 h2=>?_;let⟨a1,a2⟩:=R.cel j a m h1 h2
 by_cases e:k=j
 .subst e;rw[ha]at h1;cases h1;rw[hm]at h2;cases h2;let⟨d0,i0,cs',x1,x2,x3,x4,x5,x6,x7⟩:=hh.ex;exists⟨d0,i0,c,cs,x1,ic,hc.1,hc.2.1,x5,x6,hc.2.2⟩,ip
 .let⟨o,eo⟩:=a1.some;let ne:a≠p:=λz=>by
   let⟨hj,ej⟩:=Je.mp h1;let⟨hk,ek⟩:=Je.mp ha;rw[<-ej,<-ek]at z;exact e ((G3 R.nd).mp z).symm
  exists a1.mono (.refl _) (Jh _) ((g _ _ eo ne).trans eo.symm),a2
def Rel.hand(R:Rel C Z I α H M){k:Nat}{p:Addr}(ha:α[k]?=some p)(hm:M[k]?=some .hand):∃c cs,HandAt H p c/\I c=some (.lst (cs.map V.int))/\cs≠[]/\cs.length<=63/\∀c∈cs,0<=c:=by
 let⟨d,i,c,cs,e,ic,h1,h2,h3,h4,h5⟩:=(R.cel k p _ ha hm).1;exists c,cs,⟨d,i,cs,e,R.sub _ _ ic,h1,h2,h3,h4,h5⟩,ic,h1,h2,h5
theorem Rel.cellAt(R:Rel C Z I α H M){m:MO}(il:I l=none)(hl:l∉α)(hm:MoAt C I α H l m):Rel C Z I (α++[l]) H (M++[m])/\α<+:(α++[l])/\(α++[l])[M.length]?=some l:=by
 refine⟨⟨R.ai,R.aa.trans (Jv _ _),R.sub,by rw[Jc,Jc,R.len];rfl,?_,λk a x h1 h2=>?_⟩,Jv _ _,by rw[<-R.len];simp⟩
 .rw[Gu];exists R.nd,by simp,λa ha b hb e=>hl (by rw[<-Jj.mp hb,<-e];exact ha)
 .by_cases hk:k < α.length
  .rw[Jq hk]at h1;rw[Jq (by rw[<-R.len];exact hk)]at h2;let⟨a1,a2⟩:=R.cel k a x h1 h2;exists a1.mono (.refl _) (Jv _ _) rfl,a2
  .let⟨hk2,_⟩:=Je.mp h1;rw[Jc,Gp]at hk2;let e:k=α.length:=by lia
   subst e;let e1:(α++[l])[α.length]?=some l:=by simp
   let e2:(M++[m])[α.length]?=some m:=by rw[R.len];simp
   rw[e1]at h1;rw[e2]at h2;cases h1;cases h2;exists hm.mono (.refl _) (Jv _ _) rfl,il
end
variable{ui:L3.TI3}
def wD(w:List Int):D:=.tup (w.map .int)
def pD(p:Pr):D:=.tup [.int p.1,wD p.2]
def oD:Option Int->D
 |some z=>.int z
 |none=>.non
section
variable{C:Cf} 
def Zv4(s:∀b xs,H b=some (.tup xs)->I b=some (.tup xs)){w:List Int}(h:Zdq H v w):Rep C I α v (wD w):=by
 let⟨t,rfl,e⟩:=h;exact .tup (s _ _ e) (.ints w)
def Zv5(s:∀b xs,H b=some (.tup xs)->I b=some (.tup xs)){p:Pr}(h:Zae H v p):Rep C I α v (pD p):=by
 let⟨t,tw,rfl,e,e2⟩:=h;exact .tup (s _ _ e) (.cons (.int _) (.one (.tup (s _ _ e2) (.ints p.2))))
theorem Ni{F:V->τ->Prop}{f:τ->D}(h:∀v a,F v a->Rep C I α v (f a)):∀{vs:List V}{as:List τ},Paired F vs as->Reps C I α vs (as.map f):=by
 intro _ _ hz9;cases hz9 with
 |nil=>
  exact .nil
 |cons a b=>
  exact .cons (h _ _ a) (Ni h b)
theorem Zcy{F:V->τ->Prop}{f:τ->D}(h:∀v a,Rep C I α v (f a)->F v a):∀{vs:List V}{as:List τ},Reps C I α vs (as.map f)->Paired F vs as
 |_,[],r=>by cases r.inv;exact .nil
 |_,a::as,r=>by
  cases r with
  |cons x y=>exact .cons (h _ _ x) (Zcy h y)
def Zq9(s:Same I H){w:List Int}(h:Rep C I α v (wD w)):Zdq H v w:=by
 let⟨_,_,rfl,e,r⟩:=h.inv;rw[r.of_ints w]at e;exists ·,s _ _ e
theorem Zv9(s:Same I H){p:Pr}(h:Rep C I α v (pD p)):Zae H v p:=by
 cases h with
 |tup e r =>
  cases r with
  |cons a b =>
   cases b with
   |cons b c =>
    cases c;cases a;let⟨t,rfl,e2⟩:=Zq9 s b;exists _,t,rfl,s _ _ e,e2
theorem Zhr:∀(os:List (Option Int)),Reps C I α (os.map oV) (os.map oD)
 |[]=>.nil
 |none::r=>.cons .non (Zhr r)
 |some z::r=>.cons (.int z) (Zhr r)
end
section
variable{C:Cf} 
inductive dDraw(ds:List D)(M:Mem)(K:K3):Prop
 |mk:∀k n,ds=[.cell k,.int n]->(M[k]?=some .hand/\(0<n/\n<1073741824)/\∀r,0<=r->r<n->K (.int r) M)->dDraw ds M K
def Zuz{E:XK}(h:spOf C dDraw vs H Q E):Qc vs H Q E:=by
 let⟨Z,I,α,M,ds,K,R,r,⟨k,n,rfl,hm,⟨n0,n1⟩,h⟩,kk⟩:=h;refine Reps.e2 r λ_ _ r1 r2=>?_;cases r2.inv;let⟨p,rfl,ha⟩:=r1.inv;let⟨c,cs,hh,ic,hc⟩:=R.hand ha hm;exists p,c,n,rfl,hh,n0,n1,λz H' z0 z1 hh' g _=>kk _ _ I α H' M (.refl _) (Jh _) (R.grow ha hm hh' ic hc g) (.int z) (h z z0 z1)
inductive dOpen(ds:List D)(M:Mem)(K:K3):Prop
 |mk:∀(ns:List Int)(i:Int),ds=[.frz (ns.map .int),.int i]->((ns.length<=63/\0<=i/\i<2 ^ 60)/\K (.cell M.length) (M++[.hand]))->dOpen ds M K
def Zt8(R:Rel C Z I α H M)(r:Rep C I α v (.frz (ns.map .int))):∃a,v=.ref a/\SqL C.k H a (ns.map V.int):=by
 let⟨_,_,rfl,e,r⟩:=r.inv;rw[r.of_ints ns]at e;exists ·,R.sub.seq e
def Zuy{E:XK}(h:spOf C dOpen vs H Q E):Zm1 C.k vs H Q E:=by
 let⟨Z,I,α,M,ds,K,R,r,⟨ns,i,rfl,⟨hl,i0,i1⟩,h⟩,kk⟩:=h;refine Reps.e2 r λ_ _ r1 r2=>?_;cases r2.inv;let⟨a,rfl,hS⟩:=Zt8 R r1;refine⟨a,ns,i,rfl,hS,hl,i0,i1,λp c H' np nc hh s=>?_⟩;let R1:=R.same s;let pc:p≠c:=hh.ne;let⟨d0,i0',cs,x1,x2,x3,x4,x5,x6,x7⟩:=hh.ex;let ipn:I p=none:=R.sub.free np;let icn:I c=none:=R.sub.free nc;let R2:Rel C Z (upd I c (.lst (cs.map V.int))) α H' M:=by
  exists R1.ai.trans (Ze icn),R1.aa,λb o e=>?_,R1.len,R1.nd,λk a m h1 h2=>?_
  .by_cases z:b=c
   .subst z;rw[Zg]at e;cases e;exact x2
   .rw[Zn z]at e;exact R1.sub b o e
  .let⟨a1,a2⟩:=R1.cel k a m h1 h2;let ne:a≠c:=R.cellNe h1 nc;exact⟨a1.mono (Ze icn) (Jh _) rfl,by rw[Zn ne];exact a2⟩
 let⟨R3,p3,e3⟩:=R2.cellAt (l:=p) (m:=.hand) (by rw[Zn pc];exact ipn) (R.out np) ⟨d0,i0',c,cs,x1,Zg,x3,x4,x5,x6,x7⟩;exact kk _ _ _ _ H' _ (Ze icn) p3 R3 (.cell e3) h
def Zbj{k:Nat}{p c:Addr}{cs bs:List Int}{K:K3}(R:Rel C Z I α H M)(ha:α[k]?=some p)(hm:M[k]?=some .hand)(hh:HandAt H' p c)(ic:I c=some (.lst (cs.map V.int)))(hc:cs≠[]/\cs.length<=63/\∀c∈cs,0<=c)(g:Grow p H H')(nl:H l=none)(el:H' l=some (.lst (bs.map V.int)))(kk:Fin C Z I α K Q)(h:K (.lst (bs.map .int)) M):Q (.ref l) H':=by
 let⟨I',s,R',f⟩:=(R.grow ha hm hh ic hc g).full;exact kk _ _ I' α H' M s (Jh _) R' (.lst (f _ _ el (R.out nl)) (.ints bs)) h
inductive dBytes(ds:List D)(M:Mem)(K:K3):Prop
 |mk:∀k m,ds=[.cell k,.int m]->(M[k]?=some .hand/\(2<=m/\m<=4)/\∀bs:List Int,bs.Nodup->2<=bs.length->(bs.length:Int)<=m->(∀b∈bs,0<=b/\b<256)->K (.lst (bs.map .int)) M)->dBytes ds M K
def Zq3{E:XK}(h:spOf C dBytes vs H Q E):Zhd vs H Q E:=by
 let⟨Z,I,α,M,ds,K,R,r,⟨k,m,rfl,hm,⟨m0,m1⟩,h⟩,kk⟩:=h;refine Reps.e2 r λ_ _ r1 r2=>?_;cases r2.inv;let⟨p,rfl,ha⟩:=r1.inv;let⟨c,cs,hh,ic,hc⟩:=R.hand ha hm;exists p,c,m,rfl,hh,m0,m1,λl bs H' nl _ el nd b2 bm bb hh' g=>Zbj R ha hm hh' ic hc g nl el kk (h bs nd b2 bm bb)
inductive dSigns(ds:List D)(M:Mem)(K:K3):Prop
 |mk:∀k m,ds=[.cell k,.int m]->(M[k]?=some .hand/\(0<=m/\m<=100)/\∀ss:List Int,ss.Nodup->(ss.length:Int)=m->K (.lst (ss.map .int)) M)->dSigns ds M K
def Zq1{E:XK}(h:spOf C dSigns vs H Q E):Zha vs H Q E:=by
 let⟨Z,I,α,M,ds,K,R,r,⟨k,m,rfl,hm,⟨m0,m1⟩,h⟩,kk⟩:=h;refine Reps.e2 r λ_ _ r1 r2=>?_;cases r2.inv;let⟨p,rfl,ha⟩:=r1.inv;let⟨c,cs,hh,ic,hc⟩:=R.hand ha hm;exists p,c,m,rfl,hh,m0,m1,λl bs H' nl _ el nd b2 hh' g=>Zbj R ha hm hh' ic hc g nl el kk (h bs nd b2)
def Zc7(R:Rel C Z I α H M)(r:Rep C I α v (.lst (ns.map .int))):∃a,v=.ref a/\H a=some (.lst (ns.map V.int))/\I a=some (.lst (ns.map V.int)):=by
 let⟨_,_,rfl,e,r⟩:=r.inv;rw[r.of_ints ns]at e;exists ·,R.sub _ _ e,e
def No{k:Nat}{p a:Addr}(R:Rel C Z I α H M)(ha:α[k]?=some p)(hm:M[k]?=some .hand)(e:I a=some o):a≠p:=λz=>by
 rw[z,(R.cel k p _ ha hm).2]at e;cases e
def Zto(R:Rel C Z I α H M)(r:Rep C I α v (.lst ds)):∃a vs,v=.ref a/\H a=some (.lst vs)/\I a=some (.lst vs)/\Reps C I α vs ds:=by
 let⟨_,_,rfl,e,r⟩:=r.inv;exists _,·,R.sub _ _ e,e,r
inductive dWords(ds:List D)(M:Mem)(K:K3):Prop
 |mk:∀(k:Nat)(bs:List Int)(m lg:Int),ds=[.cell k,.lst (bs.map .int),.int m,.int lg]->(M[k]?=some .hand/\(bs.Nodup/\bs≠[]/\bs.length<=24/\0<=m/\m<=6/\1<=lg/\lg<=4)/\∀ws:List (List Int),WOk ws->(ws.length:Int)<=bs.length+m*bs.length->K (.lst (ws.map wD)) M)->dWords ds M K
def Zf5{k:Nat}{p c:Addr}{cs:List Int}{K:K3}(R:Rel C Z I α H M)(ha:α[k]?=some p)(hm:M[k]?=some .hand)(hh:HandAt H' p c)(ic:I c=some (.lst (cs.map V.int)))(hc:cs≠[]/\cs.length<=63/\∀c∈cs,0<=c)(g:Grow p H H')(nl:H l=none)(wa:Q8 H' l ws)(kk:Fin C Z I α K Q)(h:K (.lst (ws.map wD)) M):Q (.ref l) H':=by
 let R1:=R.grow ha hm hh ic hc g;let⟨I',s,R',f⟩:=R1.full;let⟨us,eu,pu⟩:=wa;exact kk _ _ I' α H' M s (Jh _) R' (.lst (f _ _ eu (R.out nl)) (Ni (λv a z=>Zv4 (λb xs e=>f _ _ e (R1.tupOut e)) z) pu)) h
theorem Zqy{E:XK}(h:spOf C dWords vs H Q E):Zg7 vs H Q E:=by
 let⟨Z,I,α,M,ds,K,R,r,⟨k,bs,m,lg,rfl,hm,⟨h1,h2,h3,h4,h5,h6,h7⟩,h⟩,kk⟩:=h;cases r with
 |cons r1 r2 =>
  refine Reps.e3 r2 λ_ _ _ r2 r3 r4=>?_;cases r3.inv;cases r4.inv;let⟨p,rfl,ha⟩:=r1.inv;let⟨c,cs,hh,ic,hc⟩:=R.hand ha hm;let⟨sa,rfl,es,is⟩:=Zc7 R r2;exists p,c,sa,m,lg,bs,rfl,hh,es,No R ha hm is,h1,h2,h3,h4,h5,h6,h7,λl ws H' nl _ wa wo wl hh' g=>Zf5 R ha hm hh' ic hc g nl wa kk (h ws wo wl)
def Zkx(R:Rel C Z I α H M)(r:Rep C I α v (.lst (ws.map wD))):∃a vs,v=.ref a/\I a=some (.lst vs)/\Q8 H a ws:=by
 let⟨a,vs,rfl,e,i,rr⟩:=Zto R r;exists a,vs,rfl,i,vs,e,Zcy (F:=Zdq H) (f:=wD) (λv a z=>Zq9 R.sub z) rr
inductive dTable(ds:List D)(M:Mem)(K:K3):Prop
 |mk:∀(k:Nat)(ws:List (List Int))(ss:List Int),ds=[.cell k,.lst (ws.map wD),.lst (ss.map .int)]->(M[k]?=some .hand/\(WOk ws/\ws.length<=28/\ss.Nodup/\ws.length<=ss.length/\ss.length<=100)/\∀L:List Pr,Free L->Fits L->(L.map (·.2)).Perm ws->K (.lst (L.map pD)) M)->dTable ds M K
def Zq0{E:XK}(h:spOf C dTable vs H Q E):Zg9 vs H Q E:=by
 let⟨Z,I,α,M,ds,K,R,r,⟨k,ws,ss,rfl,hm,⟨h1,h2,h3,h4,h5⟩,h⟩,kk⟩:=h;refine Reps.e3 r λ_ _ _ r1 r2 r3=>?_;let⟨p,rfl,ha⟩:=r1.inv;let⟨c,cs,hh,ic,hc⟩:=R.hand ha hm;let⟨wa,_,rfl,iw,hw⟩:=Zkx R r2;let⟨sa,rfl,es,is⟩:=Zc7 R r3;exists p,c,wa,sa,ws,ss,rfl,hh,hw,No R ha hm iw,h1,h2,es,No R ha hm is,h3,h4,h5,λl L H' nl _ ta fr fi pm hh' g=>?_;let R1:=R.grow ha hm hh' ic hc g;let⟨I',s,R',f⟩:=R1.full;let⟨us,eu,pu⟩:=ta;exact kk _ _ I' α H' M s (Jh _) R' (.lst (f _ _ eu (R.out nl)) (Ni (λv a z=>Zv5 (λb xs e=>f _ _ e (R1.tupOut e)) z) pu)) (h L fr fi pm)
end
section
variable{C:Cf}{tc:TE}{uc:TE3}{t:TA}{u:TA3}
inductive uRev_3(K:K3)(d:D)(M2:Mem):Prop
 |mk:∀xs,Wb M2 d=some xs->K (.lst xs.reverse) M2->uRev_3 K d M2
abbrev Zrd(K:K3)(d:D):Option Int->Mem->Prop:=λk M2=>k=some (-1)/\uRev_3 K d M2
abbrev Zre(us:TO3)(ρ:Ev)(K:K3):D->Mem->Prop:=λd M1=>us ρ M1 (Zrd K d)
def uRev(ua:TE3)(us:TO3):TE3:=λρ M K=>ua ρ M (Zre us ρ K)
def Zvx{ts:TO}{us:TO3}(ha:SimE C Z ta ua)(hs:SimO C Z ts us):SimE C Z (tRev C.k ta ts) (uRev ua us):=λI α σ H ρ M K Q R E h k =>
 ha I α σ H ρ M _ _ R E h λv d I1 α1 H1 M1 s1 p1 R1 r1 h1 =>
  hs I1 α1 σ H1 ρ M1 _ _ R1 (E.mono s1 p1) h1 λo I2 α2 H2 M2 s2 p2 R2 h2=>by
   let⟨ho,xs,e,h2⟩:=h2;let⟨a,vs,rfl,ea,ra⟩:=Wm R2 (r1.mono s2 p2) e;exists ho,a,vs,rfl,ea,λp hp=>?_;let⟨R3,s3,e3⟩:=R2.new (o:=.lst vs.reverse) hp;exact k _ _ _ α2 _ M2 (s1.trans (s2.trans s3)) (p1.trans p2) R3 (.lst e3 (ra.rev.mono s3 (Jh _))) h2
def valD[DecidableEq κ](kvs:List (κ×D))(k:κ):Option D:=(kvs.find? λkv=>decide (kv.1=k)).map (·.2)
def putD[DecidableEq κ](kvs:List (κ×D))(k:κ)(v:D):List (κ×D) :=
 if(kvs.any λkv=>decide (kv.1=k))=true then kvs.map (λkv=>if kv.1=k then(kv.1,v)else kv)else kvs++[(k,v)]
def Zf1:D->Option Key
 |.int i=>some (.inl i)
 |.str s=>some (.inr s)
 |_=>none
def Qq:List D->Option (List Key)
 |[]=>some []
 |d::r=>match Zf1 d,Qq r with|some k,some ks=>some (k::ks)|_,_=>none
def tkOf:D->Option (List Key)
 |.tup ds=>Qq ds
 |_=>none
section
theorem Qs{d:D}{k:Key}(r:Rep C I α v d)(h:Zf1 d=some k):v=kV k:=by
 cases r with
 |int i=>cases h;rfl
 |str i=>cases h;rfl
 |_=>cases h
theorem Sg:∀{vs:List V}{ds:List D}{ks:List Key},Reps C I α vs ds->Qq ds=some ks->vs=ks.map kV
 |_,_,_,.nil,h=>by cases h;rfl
 |_,_,ks,.cons (d:=d) (ds:=ds) a b,h=>by
  unfold Qq at h;cases h1:Zf1 d with
  |none=>simp only[h1]at h;cases h
  |some k =>
   cases h2:Qq ds with
   |none=>simp only[h1,h2]at h;cases h
   |some r =>
    simp only[h1,h2]at h;cases h;rw[Qs a h1,Sg b h2];rfl
theorem RepK.len:∀{vs:List (Key×V)}{ds:List (Key×D)},RepK C I α vs ds->vs.length=ds.length:=by
 intro _ _ hz9;cases hz9 with
 |nil=>
  exact rfl
 |cons _ b=>
  exact by rw[Jz,Jz,RepK.len b]
theorem RepT.len:∀{vs:List (List Key×V)}{ds:List (List Key×D)},RepT C I α vs ds->vs.length=ds.length:=by
 intro _ _ hz9;cases hz9 with
 |nil=>
  exact rfl
 |cons _ b=>
  exact by rw[Jz,Jz,RepT.len b]
def Tl[DecidableEq κ]{k k':κ}{d:D}{r:List (κ×D)}:valD ((k',d)::r) k=if k'=k then some d else valD r k:=by
 unfold valD;rw[G7]
 by_cases h:k'=k
 .simp[h]
 .simp[h]
def Zaj[DecidableEq κ]{k k':κ}{d:V}{r:List (κ×V)}:valV ((k',d)::r) k=if k'=k then some d else valV r k:=by
 unfold valV;rw[G7]
 by_cases h:k'=k
 .simp[h]
 .simp[h]
theorem RepK.val{k:Key}:∀{vs:List (Key×V)}{ds:List (Key×D)},RepK C I α vs ds->(valD ds k=none/\valV vs k=none)\/∃d v,valD ds k=some d/\valV vs k=some v/\Rep C I α v d
 |_,_,.nil=>.inl ⟨rfl,rfl⟩
 |_,_,.cons (k:=k') (v:=v) (d:=d) a b=>by
  rw[Tl,Zaj]
  by_cases h:k'=k
  .rw[De h,De h];exact .inr ⟨d,v,rfl,rfl,a⟩
  .rw[Dd h,Dd h];exact RepK.val b
theorem RepT.val{k:List Key}:∀{vs:List (List Key×V)}{ds:List (List Key×D)},RepT C I α vs ds->(valD ds k=none/\valV vs k=none)\/∃d v,valD ds k=some d/\valV vs k=some v/\Rep C I α v d
 |_,_,.nil=>.inl ⟨rfl,rfl⟩
 |_,_,.cons (k:=k') (v:=v) (d:=d) a b=>by
  rw[Tl,Zaj]
  by_cases h:k'=k
  .rw[De h,De h];exact .inr ⟨d,v,rfl,rfl,a⟩
  .rw[Dd h,Dd h];exact RepT.val b
theorem RepK.any{k:Key}:∀{vs:List (Key×V)}{ds:List (Key×D)},RepK C I α vs ds->(vs.any λkv=>decide (kv.1=k))=(ds.any λkv=>decide (kv.1=k)):=by
 intro _ _ hz9;cases hz9 with
 |nil=>
  exact rfl
 |cons a b=>
  exact by rw[B4,B4,RepK.any b]
theorem RepT.any{k:List Key}:∀{vs:List (List Key×V)}{ds:List (List Key×D)},RepT C I α vs ds->(vs.any λkv=>decide (kv.1=k))=(ds.any λkv=>decide (kv.1=k)):=by
 intro _ _ hz9;cases hz9 with
 |nil=>
  exact rfl
 |cons a b=>
  exact by rw[B4,B4,RepT.any b]
theorem RepK.app:∀{vs ws:List (Key×V)}{ds es:List (Key×D)},RepK C I α vs ds->RepK C I α ws es->RepK C I α (vs++ws) (ds++es):=by
 intro _ _ _ _ hz9 s;cases hz9 with
 |nil=>
  exact s
 |cons r t=>
  exact .cons r (RepK.app t s)
theorem RepT.app:∀{vs ws:List (List Key×V)}{ds es:List (List Key×D)},RepT C I α vs ds->RepT C I α ws es->RepT C I α (vs++ws) (ds++es):=by
 intro _ _ _ _ hz9 s;cases hz9 with
 |nil=>
  exact s
 |cons r t=>
  exact .cons r (RepT.app t s)
theorem RepK.mapPut{k:Key}{d:D}(r:Rep C I α v d):∀{vs:List ((Key)×V)}{ds:List ((Key)×D)},RepK C I α vs ds->RepK C I α (vs.map λkv=>if kv.1=k then(kv.1,v)else kv) (ds.map λkv=>if kv.1=k then(kv.1,d)else kv)
 |_,_,.nil=>.nil
 |_,_,.cons (k:=k') a b=>by
  rw[Js,Js]
  by_cases e:k'=k
  .simp only[e,if_true];exact .cons r (RepK.mapPut r b)
  .simp only[e,if_false];exact .cons a (RepK.mapPut r b)
def RepK.put{k:Key}{d:D}{vs:List ((Key)×V)}{ds:List ((Key)×D)}(h:RepK C I α vs ds)(r:Rep C I α v d):RepK C I α (putK vs k v) (putD ds k d):=by
 unfold putK putD;rw[h.any]
 split
 .exact RepK.mapPut r h
 .exact h.app (.cons r .nil)
theorem RepT.mapPut{k:List Key}{d:D}(r:Rep C I α v d):∀{vs:List ((List Key)×V)}{ds:List ((List Key)×D)},RepT C I α vs ds->RepT C I α (vs.map λkv=>if kv.1=k then(kv.1,v)else kv) (ds.map λkv=>if kv.1=k then(kv.1,d)else kv)
 |_,_,.nil=>.nil
 |_,_,.cons (k:=k') a b=>by
  rw[Js,Js]
  by_cases e:k'=k
  .simp only[e,if_true];exact .cons r (RepT.mapPut r b)
  .simp only[e,if_false];exact .cons a (RepT.mapPut r b)
def RepT.put{k:List Key}{d:D}{vs:List ((List Key)×V)}{ds:List ((List Key)×D)}(h:RepT C I α vs ds)(r:Rep C I α v d):RepT C I α (putK vs k v) (putD ds k d):=by
 unfold putK putD;rw[h.any]
 split
 .exact RepT.mapPut r h
 .exact h.app (.cons r .nil)
def U0(M:Mem):D->Option (List (Key×D))
 |.dct kvs=>some kvs
 |.cell k=>match M[k]? with|some (.dct kvs)=>some kvs|some (.drK kvs)=>some kvs|some (.dfK _ _ kvs)=>some kvs|_=>none
 |_=>none
def Zjs(M:Mem):D->Option (List (List Key×D))
 |.dcT kvs=>some kvs
 |.cell k=>match M[k]? with|some (.dcT kvs)=>some kvs|some (.drT kvs)=>some kvs|_=>none
 |_=>none
theorem Znx{d:D}{kvs:List (Key×D)}(R:Rel C Z I α H M)(r:Rep C I α v d)(h:U0 M d=some kvs):∃a vs,v=.ref a/\Rd H a (.dK vs)/\RepK C I α vs kvs:=by
 cases r with
 |dct e r=>cases h;exists _,·,.inl (R.sub _ _ e),r
 | @cell a k e =>
  unfold U0 at h;cases hm:M[k]? with
  |none=>simp only[hm]at h;cases h
  |some m =>
   cases m with
   |dct es=>simp only[hm]at h;cases h;let⟨vs,e1,r⟩:=(R.cel k a _ e hm).1;exists _,·,.inl e1,r
   |drK es=>simp only[hm]at h;cases h;let⟨vs,e1,r⟩:=(R.cel k a _ e hm).1;exists _,·,e1,r
   |dfK o vs es=>simp only[hm]at h;cases h;let⟨e1,r⟩:=(R.cel k a _ e hm).1;exists _,·,.inr ⟨o,e1⟩,r
   |_=>simp only[hm]at h;cases h
 |_=>cases h
theorem Zud{d:D}{kvs:List (List Key×D)}(R:Rel C Z I α H M)(r:Rep C I α v d)(h:Zjs M d=some kvs):∃a vs,v=.ref a/\Rd H a (.dT vs)/\RepT C I α vs kvs:=by
 cases r with
 |dcT e r=>cases h;exists _,·,.inl (R.sub _ _ e),r
 | @cell a k e =>
  unfold Zjs at h;cases hm:M[k]? with
  |none=>simp only[hm]at h;cases h
  |some m =>
   cases m with
   |dcT es=>simp only[hm]at h;cases h;let⟨vs,e1,r⟩:=(R.cel k a _ e hm).1;exists _,·,.inl e1,r
   |drT es=>simp only[hm]at h;cases h;let⟨vs,e1,r⟩:=(R.cel k a _ e hm).1;exists _,·,e1,r
   |_=>simp only[hm]at h;cases h
 |_=>cases h
def dGet(M:Mem)(d e:D)(o:Option D):Prop:=(∃kvs k,U0 M d=some kvs/\Zf1 e=some k/\o=valD kvs k)\/∃kvs k,Zjs M d=some kvs/\tkOf e=some k/\o=valD kvs k
def Zdk{w:V}{d e:D}{o:Option D}(R:Rel C Z I α H M)(r1:Rep C I α v d)(r2:Rep C I α w e)(h:dGet M d e o):∃a o',v=.ref a/\IsD H a/\DGet H a w o'/\((o=none/\o'=none)\/∃x y,o=some x/\o'=some y/\Rep C I α y x):=by
 rcases h with⟨kvs,k,e1,e2,rfl⟩|⟨kvs,k,e1,e2,rfl⟩
 .let⟨a,vs,rfl,ea,ra⟩:=Znx R r1 e1;exists a,valV vs k,rfl,.inl ⟨vs,ea⟩,by rw[Qs r2 e2];exact .inl ⟨vs,k,ea,rfl,rfl⟩,?_;rcases ra.val (k:=k)with⟨h1,h2⟩|⟨x,y,h1,h2,h3⟩
  .exact .inl ⟨h1,h2⟩
  .exact .inr ⟨x,y,h1,h2,h3⟩
 .let⟨a,vs,rfl,ea,ra⟩:=Zud R r1 e1;cases r2 with
  | @tup b bs ds eb rb =>
   let hb:H b=some (.tup (k.map kV)):=by rw[<-Sg rb e2];exact R.sub _ _ eb
   exists a,valV vs k,rfl,.inr ⟨vs,ea⟩,.inr ⟨vs,k,b,ea,rfl,hb,rfl⟩,?_;rcases ra.val (k:=k)with⟨h1,h2⟩|⟨x,y,h1,h2,h3⟩
   .exact .inl ⟨h1,h2⟩
   .exact .inr ⟨x,y,h1,h2,h3⟩
  |_=>cases e2
end
inductive uDGet_2(K:K3)(d:D)(e:D)(M2:Mem):Prop
 |mk:∀v,dGet M2 d e (some v)->K v M2->uDGet_2 K d e M2
abbrev Zoh(ub:TE3)(ρ:Ev)(K:K3):D->Mem->Prop:=λd M1=>ub ρ M1 (uDGet_2 K d)
def Zvn(ua ub:TE3):TE3:=λρ M K=>ua ρ M (Zoh ub ρ K)
def V4(ha:SimE C Z ta ua)(hb:SimE C Z tb ub):SimE C Z (Zsa ta tb) (Zvn ua ub):=λI α σ H ρ M K Q R E h k =>
 ha I α σ H ρ M _ _ R E h λv d I1 α1 H1 M1 s1 p1 R1 r1 h1 =>
  hb I1 α1 σ H1 ρ M1 _ _ R1 (E.mono s1 p1) h1 λw e I2 α2 H2 M2 s2 p2 R2 r2 h2=>by
   let⟨x,g,h2⟩:=h2;let⟨a,o',rfl,_,g2,z⟩:=Zdk R2 (r1.mono s2 p2) r2 g;rcases z with⟨z,_⟩|⟨x',y,z1,z2,z3⟩
   .cases z
   .cases z1;subst z2;exists a,y,rfl,g2,k _ _ I2 α2 H2 M2 (s1.trans s2) (p1.trans p2) R2 z3 h2
inductive uDIn_2(K:K3)(e:D)(d:D)(M2:Mem):Prop
 |mk:∀o,dGet M2 d e o->K (.bl o.isSome) M2->uDIn_2 K e d M2
abbrev Zrq(ua:TE3)(ρ:Ev)(K:K3):D->Mem->Prop:=λe M1=>ua ρ M1 (uDIn_2 K e)
def uDIn(ub ua:TE3):TE3:=λρ M K=>ub ρ M (Zrq ua ρ K)
inductive uDNotIn_2(K:K3)(e:D)(d:D)(M2:Mem):Prop
 |mk:∀o,dGet M2 d e o->K (.bl (!o.isSome)) M2->uDNotIn_2 K e d M2
abbrev Zgr(ua:TE3)(ρ:Ev)(K:K3):D->Mem->Prop:=λe M1=>ua ρ M1 (uDNotIn_2 K e)
def Zog(ub ua:TE3):TE3:=λρ M K=>ub ρ M (Zgr ua ρ K)
def Zst(hb:SimE C Z tb ub)(ha:SimE C Z ta ua):SimE C Z (tDIn tb ta) (uDIn ub ua):=λI α σ H ρ M K Q R E h k =>
 hb I α σ H ρ M _ _ R E h λw e I1 α1 H1 M1 s1 p1 R1 r1 h1 =>
  ha I1 α1 σ H1 ρ M1 _ _ R1 (E.mono s1 p1) h1 λv d I2 α2 H2 M2 s2 p2 R2 r2 h2=>by
   let⟨o,g,h2⟩:=h2;let⟨a,o',rfl,_,g2,z⟩:=Zdk R2 r2 (r1.mono s2 p2) g;let eo:o'.isSome=o.isSome:=by
    rcases z with⟨rfl,rfl⟩|⟨x',y,rfl,rfl,_⟩<;>rfl
   exact⟨a,o',rfl,g2,by rw[eo];exact k _ _ I2 α2 H2 M2 (s1.trans s2) (p1.trans p2) R2 (.bl _) h2⟩
def Zeb(hb:SimE C Z tb ub)(ha:SimE C Z ta ua):SimE C Z (Zg0 tb ta) (Zog ub ua):=λI α σ H ρ M K Q R E h k =>
 hb I α σ H ρ M _ _ R E h λw e I1 α1 H1 M1 s1 p1 R1 r1 h1 =>
  ha I1 α1 σ H1 ρ M1 _ _ R1 (E.mono s1 p1) h1 λv d I2 α2 H2 M2 s2 p2 R2 r2 h2=>by
   let⟨o,g,h2⟩:=h2;let⟨a,o',rfl,_,g2,z⟩:=Zdk R2 r2 (r1.mono s2 p2) g;let eo:o'.isSome=o.isSome:=by
    rcases z with⟨rfl,rfl⟩|⟨x',y,rfl,rfl,_⟩<;>rfl
   exact⟨a,o',rfl,g2,by rw[eo];exact k _ _ I2 α2 H2 M2 (s1.trans s2) (p1.trans p2) R2 (.bl _) h2⟩
def Zrp:TE3:=λ_ M K=>K (.cell M.length) (M++[.dct []])
def Ng:SimE C Z Zmy Zrp:=λI α σ H ρ M K Q R E h k p hp=>by
 let⟨R2,p2,e2⟩:=R.cell (o:=.dK []) (m:=.dct []) hp λH' e=>⟨[],e,.nil⟩;exact k _ _ I _ _ _ (.refl _) p2 R2 (.cell e2) h
def Zro:TE3:=λ_ M K=>K (.cell M.length) (M++[.dcT []])
def Zoz:SimE C Z Zmx Zro:=λI α σ H ρ M K Q R E h k p hp=>by
 let⟨R2,p2,e2⟩:=R.cell (o:=.dT []) (m:=.dcT []) hp λH' e=>⟨[],e,.nil⟩;exact k _ _ I _ _ _ (.refl _) p2 R2 (.cell e2) h
def dPut(M:Mem)(d e v:D)(M':Mem):Prop:=(∃j kvs k,d=.cell j/\M[j]?=some (.dct kvs)/\Zf1 e=some k/\kvs.length<sizeLine/\M'=M.set j (.dct (putD kvs k v))) \/
 ∃j kvs k,d=.cell j/\M[j]?=some (.dcT kvs)/\tkOf e=some k/\kvs.length<sizeLine/\M'=M.set j (.dcT (putD kvs k v))
inductive uDPut_3(E:Ends3)(ρ:Ev)(v:D)(d:D)(e:D)(M3:Mem):Prop
 |mk:∀M4,dPut M3 d e v M4->E.nx ρ M4->uDPut_3 E ρ v d e M3
abbrev Zoe(ub:TE3)(E:Ends3)(ρ:Ev)(v:D):D->Mem->Prop:=λd M2=>ub ρ M2 (uDPut_3 E ρ v d)
abbrev Zof(ua:TE3)(ub:TE3)(E:Ends3)(ρ:Ev):D->Mem->Prop:=λv M1=>ua ρ M1 (Zoe ub E ρ v)
def Zvm(ua ub uc:TE3):TS3:=λE ρ M=>uc ρ M (Zof ua ub E ρ)
def Zau(ha:SimE C Z ta ua)(hb:SimE C Z tb ub)(hc:SimE C Z tc uc):SimS C Z (Zsz ta tb tc) (Zvm ua ub uc):=λI α σ H ρ M E D' R RE h F =>
 hc I α σ H ρ M _ _ R RE h λv d0 I1 α1 H1 M1 s1 p1 R1 r1 h1=>ha I1 α1 σ H1 ρ M1 _ _ R1 (RE.mono s1 p1) h1 λx d I2 α2 H2 M2 s2 p2 R2 r2 h2 =>
  hb I2 α2 σ H2 ρ M2 _ _ R2 (RE.mono (s1.trans s2) (p1.trans p2)) h2 λy e I3 α3 H3 M3 s3 p3 R3 r3 h3=>by
   let⟨M4,g,h3⟩:=h3;let rv:=r1.mono (s2.trans s3) (p2.trans p3);let RE3:=RE.mono (s1.trans (s2.trans s3)) (p1.trans (p2.trans p3));rcases g with⟨j,kvs,kk,rfl,e1,e2,hl,rfl⟩|⟨j,kvs,kk,rfl,e1,e2,hl,rfl⟩
   .let⟨a,rfl,ec⟩:=(r2.mono s3 p3).inv;let⟨vs,ea,ra⟩:=(R3.cel j a _ ec e1).1;exists a,·,by rw[Qs r3 e2];exact DPut.k ea (by rw[ra.len];exact hl),?_;exact F.nx I3 α3 σ _ ρ _ (s1.trans (s2.trans s3)) (p1.trans (p2.trans p3)) (R3.put (m:=.dct (putD kvs kk d0)) ec λH' e=>⟨_,e,ra.put rv⟩) RE3 h3
   .let⟨a,rfl,ec⟩:=(r2.mono s3 p3).inv;let⟨vs,ea,ra⟩:=(R3.cel j a _ ec e1).1;cases r3 with
    | @tup b bs ds eb rb =>
     let hb:H3 b=some (.tup (kk.map kV)):=by rw[<-Sg rb e2];exact R3.sub _ _ eb
     exists a,·,DPut.t ea hb (by rw[ra.len];exact hl),?_;exact F.nx I3 α3 σ _ ρ _ (s1.trans (s2.trans s3)) (p1.trans (p2.trans p3)) (R3.put (m:=.dcT (putD kvs kk d0)) ec λH' e=>⟨_,e,ra.put rv⟩) RE3 h3
    |_=>cases e2
def Met.imp{w:C0}{base:Heap}{C:Addr}{m:Str}{k:Nat}(c:Met P w K mg base C m k ps sp)(h:∀vs H Q E,sp' vs H Q E->sp vs H Q E):Met P w K mg base C m k ps sp' :=
 let⟨f,fd,a,b,e,d⟩:=c
 ⟨f,fd,a,b,e.imp h,d⟩
def Rel.made{k0:Nat}{x:Addr}{q:Str}(R:Rel C Z I α H M)(hk:M[k0]?=some (.tab Pt pos q))(nx:H x=none)(tb:Uf Pt pos q H')(g:∀b o,b≠x->b≠Pt->H b=some o->H' b=some o) :
  ∃I',Same I I'/\Rel C Z I' α H' M/\∀b o,H' b=some o->b∉α->I' b=some o:=by
 let⟨P',eP,⟨rfl,ps0,e0,_⟩,iP⟩:=R.get hk;let hα:∀b,b∈α->b≠x:=λb hb=>by
  let⟨k,hk,rfl⟩:=Ju hb;exact R.cellNe (Jb hk) nx
 let hI:∀b o,I b=some o->b∉α:=λb o e hb=>by
  let⟨k,hk,rfl⟩:=Ju hb;let hk':k<M.length:=by rw[<-R.len];exact hk
  rw[(R.cel k _ _ (Jb hk) (Jb hk')).2]at e;cases e
 let hS:∀b o,I b=some o->H' b=some o:=λb o e=>g b o (λz=>by rw[z,R.sub.free nx]at e;cases e) (λz=>by rw[z,iP]at e;cases e) (R.sub b o e);let s:Same I (λb=>if b∈α then none else H' b):=λb o e=>by
  show(if b∈α then none else H' b)=some o;rw[Dd (hI b o e)];exact hS b o e
 let hc:∀(k:Nat)(a:Addr)(m:MO),k≠k0->α[k]?=some a->M[k]?=some m->H' a=H a:=λk a m ne h1 h2=>by
  let⟨o,eo⟩:=(R.cel k a m h1 h2).1.some;let n2:a≠P':=λz=>by
   let⟨hj,ej⟩:=Je.mp h1;let⟨hk,ek⟩:=Je.mp eP;rw[<-ej,<-ek]at z;exact ne ((G3 R.nd).mp z)
  exact(g a o (hα a (Gr h1)) n2 eo).trans eo.symm
 exists _,s,⟨R.ai.trans s,R.aa,λb o e=>?_,R.len,R.nd,λk a m h1 h2=>?_⟩,λb o e hb=>?_
 .let e':(if b∈α then none else H' b)=some o:=e
  split at e'
  .cases e'
  .exact e'
 .refine⟨?_,by show(if a∈α then none else H' a)=none;rw[De (Gr h1)]⟩
  by_cases ne:k=k0
  .subst ne;rw[eP]at h1;cases h1;rw[hk]at h2;cases h2;let⟨ps,e1,t1,z⟩:=tb;exists rfl,ps,e1,t1,?_;rcases z with z|⟨c,z1,z2⟩
   .exact .inl z
   .refine .inr ⟨c,z1,?_⟩;show(if c∈α then none else H' c)=_;rw[Dd,z2];intro hcα;let⟨j,hj,ec⟩:=Ju hcα;let hj':j<M.length:=by rw[<-R.len];exact hj
    let h1:=Jb hj;let h2:=Jb hj';rw[ec]at h1
    by_cases nj:j=k
    .subst nj;rw[eP]at h1;cases h1;rw[e1]at z2;cases z2
    .let hh:=hc j c _ nj h1 h2;let mo:=(R.cel j c _ h1 h2).1;rw[z2]at hh;cases hm:M[j]with
     |lst ds=>rw[hm]at mo;let⟨vs,e,_⟩:=mo;rw[e]at hh;cases hh
     |dct ds=>rw[hm]at mo;let⟨vs,e,_⟩:=mo;rw[e]at hh;cases hh
     |dcT ds=>rw[hm]at mo;let⟨vs,e,_⟩:=mo;rw[e]at hh;cases hh
     |drK ds=>rw[hm]at mo;let⟨vs,e,_⟩:=mo;rcases e with e|⟨o,e⟩<;>(rw[e]at hh;cases hh)
     |drT ds=>rw[hm]at mo;let⟨vs,e,_⟩:=mo;rcases e with e|⟨o,e⟩<;>(rw[e]at hh;cases hh)
     |dfT o vs ds=>rw[hm]at mo;rw[mo.1]at hh;cases hh
     |dfK o vs ds=>rw[hm]at mo;rw[mo.1]at hh;cases hh
     |ins Cl fs=>rw[hm]at mo;let⟨dx,vs,e,_⟩:=mo;rw[e]at hh;cases hh
     |hand=>rw[hm]at mo;let⟨d,k,c,cs,e,_⟩:=mo;rw[e]at hh;cases hh
     |tab P pos q=>rw[hm]at mo;let⟨_,ps,e,_⟩:=mo;rw[e]at hh;cases hh
     |dcN sh z ds =>
      rw[hm]at mo;cases z with
      |none =>
       let⟨vs,e,_⟩:=mo;rw[e]at hh;exact dnP.ne ⟨.none,none,.fields #[.none,.str q default],#[]⟩ rfl (λh g=>⟨c,_,_,_,rfl,g,rfl,rfl⟩) (HO.ext.inj (Dh hh)).symm
      |some z=>rw[mo.1]at hh;cases hh
  .exact(R.cel k a m h1 h2).1.mono s (Jh _) (hc k a m ne h1 h2)
 .show(if b∈α then none else H' b)=some o;rw[Dd hb];exact e
def Nb(C Pt:Addr)(pos:Pos)(q:Str):Sp:=λvs H Q _=>∃x a dx L,vs=[.ref x,.ref a]/\H x=some (.ins C dx [])/\Tf H a L/\Free L/\Fits L/\Uf Pt pos q H /\
 ∀(H':Hp)(S:List Pr),S.Perm L->Zdr S->(∃dx tp d1 d2 d3 d4,H' x=some (.ins C dx [("pairs",.ref tp),("words_by_sign",.ref d1),("signs_by_word",.ref d2),("begun",.ref d3),("word_sizes",.ref d4)])/\CodeIn H' tp d1 d2 d3 d4 S/\H d1=none/\H d2=none/\H d3=none)->Uf Pt pos q H' ->
  (∀b o,b≠x->b≠Pt->H b=some o->H' b=some o)->Q .non H'
def Zn9(Pt:Addr)(pos:Pos)(q:Str)(u:TA3):TE3:=λρ M K=>u ρ M λds M1=>∃(k0:Nat)(d:D)(L:List Pr),M1[k0]?=some (.tab Pt pos q)/\ds=[d]/\lsOf M1 d=some (L.map pD)/\(Free L/\Fits L)/\∀S:List Pr,S.Perm L->Zdr S->K (.code S) M1
def Zd8{q:Str}(hr:SimA C Z t u):SimE C Z (Zfl C.c (Nb C.c Pt pos q) [] E0 t) (Zn9 Pt pos q u):=λI α σ H ρ M K Q R E h k =>
 hr I α σ H ρ M _ _ R E h λvs ds I1 α1 H1 M1 s1 p1 R1 r1 h1=>by
  let⟨k0,d,L,hk,rfl,e1,⟨fr,fi⟩,h1⟩:=h1;intro x dx nx ndx ne;refine Reps.e1 r1 λ_ r1=>?_;let⟨a,vs,rfl,ea,ra⟩:=Rj R1 r1 e1;let⟨P',eP,⟨eqP,ps,ep,tp,cp⟩,iP⟩:=R1.get hk;subst eqP;let sH:Same H1 (upd (upd H1 dx (.own x)) x (.ins C.c dx [])):=(Ze ndx).trans (Ze (by rw[Zn (Cw ne)];exact nx));let ta1:Tf H1 a L:=⟨vs,ea,Zcy (F:=Zae H1) (f:=pD) (λv a z=>Zv9 R1.sub z) ra⟩;let tb1:Uf P' pos q H1:=⟨ps,ep,tp,by
   rcases cp with z|⟨c,z1,z2⟩
   .exact .inl z
   .exact .inr ⟨c,z1,R1.sub _ _ z2⟩⟩
  exists x,a,dx,L,rfl,Zg,ta1.same sH,fr,fi,tb1.same sH,λH' S pm ri ca tb g=>⟨rfl,?_⟩;let⟨I',s',R',f⟩:=R1.made hk nx tb λb o n1 n2 e=>g b o n1 n2 (sH b o e);let xα:x∉α1:=R1.out nx;let⟨dx',tp',d1,d2,d3,d4,ex,⟨⟨vs',a1,a2⟩,⟨k1,b1,b2⟩,⟨k2,c1,c2⟩,⟨k3,f1,f2⟩,⟨k4,g1,g2⟩⟩,n1,n2,n3⟩:=ca;let tupI:∀b xs,H' b=some (.tup xs)->I' b=some (.tup xs):=λb xs e=>f b _ e (R'.tupOut e);let no:∀b o,H' b=some o->(upd (upd H1 dx (.own x)) x (.ins C.c dx [])) b=none->I' b=some o:=λb o e n=>f b o e (R1.out (sH.free n));refine k _ _ I' α1 H' M1 (s1.trans s') p1 R' (.code ⟨dx',tp',d1,d2,d3,d4,f _ _ ex xα,⟨vs',tupI _ _ a1,Paired.mapP a2 λv p z=>?_⟩,⟨k1,no _ _ b1 n1,λp hp=>?_,b2.2⟩,⟨k2,no _ _ c1 n2,c2⟩,⟨k3,no _ _ f1 n3,f2⟩,⟨k4,tupI _ _ g1,g2⟩⟩) (h1 S pm ri)
  .let⟨t,tw,e1,e2,e3⟩:=z;exists t,tw,e1,tupI _ _ e2,tupI _ _ e3
  .let⟨t,u1,u2⟩:=b2.1 p hp;exists t,u1,tupI _ _ u2
end
def Xw{m:MO}:(M++[m])[M.length]?=some m:=by simp
def Wt{m m':MO}:(M++[m]).set M.length m'=M++[m']:=by simp
section
variable{C:Cf} 
def Zlz{bs:List Int}{K:K3}(R:Rel C Z I α H M)(nl:H l=none)(s:Same H H')(el:H' l=some (.lst (bs.map V.int)))(kk:Fin C Z I α K Q)(h:K (.cell M.length) (M++[.lst (bs.map .int)])):Q (.ref l) H':=by
 let⟨R2,p2,e2⟩:=(R.same s).cellAt (l:=l) (m:=.lst (bs.map .int)) (R.sub.free nl) (R.out nl) ⟨_,el,.ints bs⟩;exact kk _ _ I _ H' _ (.refl _) p2 R2 (.cell e2) h
def Zj5(R:Rel C Z I α H M)(r:Rep C I α v (.code S)):∃x,v=.ref x/\Uj C.c H x S:=by
 let⟨_,rfl,h⟩:=r.inv;exists ·,h.same R.sub
def Zis{d:D}(R:Rel C Z I α H M)(r:Rep C I α v d)(h:lsOf M d=some (ns.map .int)):∃a,v=.ref a/\H a=some (.lst (ns.map V.int)):=by
 let⟨a,vs,rfl,ea,ra⟩:=Rj R r h;rw[ra.of_ints ns]at ea;exists a,rfl,ea
end
def Zm3(K:Cm)(Pt:Addr)(pos:Pos)(q:Str):Sp:=λvs H Q _=>∃(a:Addr)(ns:List Int),vs=[.ref a]/\SqL K H a (ns.map V.int)/\ns.length<=63/\Uf Pt pos q H/\∀H',Q (.bl true) H'
inductive dLawT(Pt:Addr)(pos:Pos)(q:Str)(ds:List D)(M:Mem)(K:K3):Prop
 |mk:∀ns:List Int,ds=[.frz (ns.map .int)]->(M=[.tab Pt pos q]/\ns.length<=63/\∀M',K (.bl true) M')->dLawT Pt pos q ds M K
def Zpz{C:Cf}{q:Str}{E:XK}(h:Zm3 C.k Pt pos q vs H Q E):spOf C (dLawT Pt pos q) vs H Q E:=by
 let⟨a,ns,rfl,hS,hl,⟨ps,eP,tp,cp⟩,k⟩:=h;let sI:Same (λb=>if b=Pt then none else H b) H:=λb o e=>by
  let e':(if b=Pt then none else H b)=some o:=e
  split at e'
  .cases e'
  .exact e'
 exists⟨λ_=>none,[],λ_ _ _=>False,λ_ _ _=>False⟩,λb=>if b=Pt then none else H b,[Pt],[.tab Pt pos q],[.frz (ns.map .int)],λd _=>d=.bl true,⟨(λ_ _ h=>nomatch h),List.nil_prefix,sI,rfl,by simp,λk' a' m h1 h2=>?_⟩,?_,⟨ns,rfl,rfl,hl,λ_=>rfl⟩,λv d I' α' H' M' s p R r h=>?_
 .cases k' with
  |succ n=>simp at h1
  |zero =>
   simp at h1 h2;subst h1;subst h2;exists⟨rfl,ps,eP,tp,?_⟩,De rfl;rcases cp with z|⟨c,z1,z2⟩
   .exact .inl z
   .exact .inr ⟨c,z1,by
     show(if c=Pt then none else H c)=_;rw[Dd (Wa z2 eP λz=>by cases z)];exact z2⟩
 .refine .one (.frz ?_ (.ints ns));rcases hS with(hS|⟨o,hS⟩)|hS
  .exact .inl (.inl (by
    show(if a=Pt then none else H a)=_;rw[Dd (Wa hS eP λz=>by cases z)];exact hS))
  .exact .inl (.inr ⟨o,by
    show(if a=Pt then none else H a)=_;rw[Dd (Wa hS eP λz=>by cases z)];exact hS⟩)
  .exact .inr hS
 .subst h;cases r.inv;exact k H'
def Zut(h:X.K=K)(hc:X.calm=true):W6 X (.builtin "all") (λxs H Q=>∃(p:Addr)(bs:List Bool),xs=[.ref p]/\SqL K H p (bs.map V.bl)/\Q (.bl (bs.all id)) H):=by subst h;exact Zmm hc
def Yj{f:τ->D}{as:List τ}{i:Nat}{x:D}(h:(as.map f)[i]?=some x):∃hi:i<as.length,x=f as[i]:=by
 let⟨hi,e⟩:=Je.mp h;rw[Ja]at hi;exact⟨hi,by rw[<-e,Bd]⟩
def Wq{f:τ->D}{as:List τ}{i:Int}(h:i=j)(hj:j<as.length):L2.atI (as.map f) i=some (f as[j]):=by
 subst h;exact Sl (by rw[Jx,Jb hj];rfl)
def Wc{xs:List D}:lsOf (M++[.lst xs]) (.cell M.length)=some xs:=by simp[lsOf]
def Ql{d:D}{xs:List D}(h:lsOf M d=some xs):lsOf M d≠none:=by rw[h];exact λz=>nomatch z
def Zjn{M':Mem}{d:D}{K:K3}(p:M<+:M')(hM:WfM M)(hb:Yw M.length d)(h:K d M):Dk M.length K d M':=by
 let⟨t,rfl⟩:=p;exact .inr ⟨M.length,Jd _,hb,by rw[B7];exact hM,by rw[B7];exact h⟩
def eqN{K:Bool->Prop}(h:K (decide (ns=[]))):eqV (.lst (ns.map .int)) (.lst []) M K:=Q3 Y1 (b:=[]) rfl rfl h
end L3
variable{M:L3.Mem}{Z Z':L3.Anc}{ds:List L3.D}{ρ:L3.Ev}{ua ub uo:L3.TE3}{ui:L3.TI3}
namespace L3
def g_nx{i:Nat}{d:D}{K:Ev->Mem->Prop}(h:K (ρ.set i (some d)) M):uG i d ρ M K:=h
end L3
namespace L3
open PySem L2
def FinX(C:Cf)(Z:Anc):Prop:=∀Ce d vs fs I' α' H' M',Rel C Z I' α' H' M'->XD I' d vs->RepF C I' α' vs fs->Z.kx Ce fs M'->Z.xe (.ref Ce) d H'
abbrev Sp3X:=List D->Mem->K3->X3->Prop
def Zan(C:Cf)(sp:Sp3X):Sp:=λvs H Q E=>∃Z I α M ds K KX,Rel C Z I α H M/\Reps C I α vs ds/\sp ds M K KX/\Fin C Z I α K Q /\
 ∀Ce d vs fs I' α' H' M',Same I I'->α<+:α'->Rel C Z I' α' H' M'->XD I' d vs->RepF C I' α' vs fs->KX Ce fs M'->E (.ref Ce) d H'
section
variable{C:Cf}{t:TA}{u:TA3}
def Rel.re{M':Mem}(R':Rel C Z' I' α' H' M')(R:Rel C Z I α H M)(s:Same I I')(p:α<+:α'):Rel C Z I' α' H' M':=⟨R.ai.trans s,R.aa.trans p,R'.sub,R'.len,R'.nd,R'.cel⟩
def Rel.here(R:Rel C Z I α H M)(E:XK)(k:X3):Rel C ⟨I,α,E,k⟩ I α H M:=⟨.refl _,Jh _,R.sub,R.len,R.nd,R.cel⟩
def Fin.re{K:K3}(k:Fin C Z I α K Q)(R:Rel C Z I α H M):Fin C Z' I α K Q:=λv d I' α' H' M' s p R' r h=>k v d I' α' H' M' s p (R'.re R s p) r h
def FinS.re{K:Ev->Mem->Prop}{Q:St->Hp->Prop}(k:FinS C Z I α K Q)(R:Rel C Z I α H M):FinS C Z' I α K Q:=λI' α' σ' H' ρ' M' s p R' E h=>k I' α' σ' H' ρ' M' s p (R'.re R s p) E h
def FinD.re{E:Ends3}{D':Ends}(k:FinD C Z I α E D')(R:Rel C Z I α H M):FinD C Z' I α E D':=⟨k.nx.re R,k.rt.re R,k.bk.re R,k.ct.re R⟩
abbrev Zla(sp:Sp3X)(kx:X3)(K:K3):List D->Mem->Prop:=λds M1=>sp ds M1 K kx
def Zrt(sp:Sp3X)(kx:X3)(u:TA3):TE3:=λρ M K=>u ρ M (Zla sp kx K)
def Zcl{sp:Sp3X}{E:XK}{kx:X3}(he:Z.xe=E)(hk:Z.kx=kx)(hx:FinX C Z)(ha:SimA C Z t u):SimE C Z (Zg2 (Zan C sp) [] E t) (Zrt sp kx u):=λI α σ H ρ M K Q R RE h k =>
 ha I α σ H ρ M _ _ R RE h λvs ds I1 α1 H1 M1 s1 p1 R1 r1 h1=>by
  subst he hk;rw[Gh];exists Z,I1,α1,M1,ds,K,Z.kx,R1,r1,h1,k.mono s1 p1,λCe d vs fs I' α' H' M' s p R' e f g=>hx Ce d vs fs I' α' H' M' R' e f g
def CalE.imp{w:C0}{base:Heap}{x:Str}{k:Nat}(c:CalE P w K mg base x k ps sp)(h:∀vs H Q E,sp' vs H Q E->sp vs H Q E):CalE P w K mg base x k ps sp' :=
 let⟨f,fd,a,b⟩:=c
 ⟨f,fd,a.imp h,b⟩
inductive uRaise1_1(Cx:Addr)(f:Str)(kx:X3)(ds:List D)(M1:Mem):Prop
 |mk:∀d,ds=[d]->kx Cx [(f,d)] M1->uRaise1_1 Cx f kx ds M1
def Zn7(Cx:Addr)(f:Str)(kx:X3)(u:TA3):TS3:=λ_y0 ρ M=>u ρ M (uRaise1_1 Cx f kx)
def Zlm{Cx:Addr}{f:Str}{E:XK}{kx:X3}(he:Z.xe=E)(hk:Z.kx=kx)(hx:FinX C Z)(ha:SimA C Z t u):SimS C Z (Zmv Cx (spX1 Cx f) E t) (Zn7 Cx f kx u):=λI α σ H ρ M E3 D' R RE h F =>
 ha I α σ H ρ M _ _ R RE h λvs ds I1 α1 H1 M1 s1 p1 R1 r1 h1=>by
  subst he hk;let⟨d0,rfl,h1⟩:=h1;refine Reps.e1 r1 λ_ r1=>?_
  rename_i y
  exists by simp,λea hea=>⟨ea,y,rfl,Zg,λd hd hne=>⟨rfl,d,?_,?_⟩⟩
  .rw[Zn (Cw hne),Zg]
  .let hd1:H1 d=none:=by rw[Zn hne]at hd;exact hd
   let sH:Same H1 (upd (upd (upd (upd H1 ea (.ext (excN ea Cx none))) ea (.ext (excN ea Cx (some d)))) d (.ext (xdP d [(f,y)]))) ea (.ext (excP ea Cx (some d)))):=λb o e=>by
    let n1:b≠ea:=Zr e hea;let n2:b≠d:=Zr e hd1;rw[Zn n1,Zn n2,Zn n1,Zn n1];exact e
   let⟨I',s',R',fl⟩:=(R1.same sH).full;refine hx Cx (some d) [(f,y)] [(f,d0)] I' α1 _ M1 R' (fl d _ ?_ (R1.out hd1)) (.cons (r1.mono s' (Jh _)) .nil) h1;rw[Zn hne,Zg]
abbrev TH3:=Addr->List (Str×D)->TS3
def SimH(C:Cf)(Z:Anc)(th:TH)(uh:TH3):Prop:=∀I α σ H ρ M(E:Ends3)(D':Ends)Ce d ea fs vs,Rel C Z I α H M->RepE C I α σ ρ->I ea=some (.ext (excP ea Ce d))->XD I d vs->RepF C I α vs fs->uh Ce fs E ρ M->FinD C Z I α E D'->th Ce d ea D' σ H
def Zu5:TH3:=λ_ _ _ _ _=>False
def Zm9:SimH C Z Zr1 Zu5:=λ_ _ _ _ _ _ _ _ _ _ _ _ _ _ _ _ _ _ h _=>h.elim
def off3(i:Nat)(E:Ends3):Ends3:={nx:=λρ M=>E.nx (ρ.set i none) M,rt:=E.rt,bk:=λρ M=>E.bk (ρ.set i none) M,ct:=λρ M=>E.ct (ρ.set i none) M}
theorem RepE.unset(h:RepE C I α σ ρ)(i:Nat):RepE C I α (σ.set i none) (ρ.set i none):=by
 exists by rw[Go,Go];exact h.1,λj e q=>?_
 by_cases z:i=j
 .subst z
  by_cases hl:i < ρ.length
  .rw[J0 hl]at q;cases q
  .rw[Fl (by rw[Go];lia)]at q;cases q
 .rw[Ga z]at q⊢;exact h.2 j e q
def FinS.off{K:Ev->Mem->Prop}{Q:St->Hp->Prop}(k:FinS C Z I α K Q)(i:Nat):FinS C Z I α (λρ M=>K (ρ.set i none) M) (λσ H=>Q (σ.set i none) H):=λI' α' σ' H' ρ' M' s p R E h=>k I' α' _ H' _ M' s p R (E.unset i) h
def FinD.off{E:Ends3}{D':Ends}(k:FinD C Z I α E D')(i:Nat):FinD C Z I α (off3 i E) (offD i D'):=⟨k.nx.off i,k.rt,k.bk.off i,k.ct.off i⟩
variable{ts:TS}{us:TS3}{ur:TH3}
def uhAs(K:Cm)(Dc:Addr)(i:Nat)(us:TS3)(ur:TH3):TH3:=λCe fs E ρ M=>∃b,Ey K Ce (.ref Dc)=some b/\if b=true then us (off3 i E) (ρ.set i (some (.exc Ce fs))) M else ur Ce fs E ρ M
theorem Zv0{Dc:Addr}{i:Nat}(hs:SimS C Z ts us)(hr:SimH C Z thr ur):SimH C Z (thAs K Dc i ts thr) (uhAs K Dc i us ur):=λI α σ H ρ M E D' Ce d ea fs vs R RE e1 e2 rf h F=>by
 let⟨b,eb,h⟩:=h;exists b,eb,?_;cases b with
 |true =>
  exact hs I α _ H _ M _ _ R (RE.set (.exc e1 e2 rf) i) h (F.off i)
 |false =>
  exact hr I α σ H ρ M E D' Ce d ea fs vs R RE e1 e2 rf h F
def uTry(ub:X3->TS3)(uh:TH3):TS3:=λE ρ M=>ub (λCe fs M'=>uh Ce fs E ρ M') E ρ M
theorem Rel.extOut(R:Rel C Z I α H M){Ce:Addr}{d:Option Addr}(h:H l=some (.ext (excP l Ce d))):l∉α:=λhl=>by
 let⟨k,hk,rfl⟩:=Ju hl;let hk':k<M.length:=by rw[<-R.len];exact hk
 let:=(R.cel k _ _ (Jb hk) (Jb hk')).1;cases hm:M[k]with
 |lst ds=>rw[hm]at this;let⟨vs,e,_⟩:=this;rw[h]at e;cases e
 |dct ds=>rw[hm]at this;let⟨vs,e,_⟩:=this;rw[h]at e;cases e
 |dcT ds=>rw[hm]at this;let⟨vs,e,_⟩:=this;rw[h]at e;cases e
 |drK ds=>rw[hm]at this;let⟨vs,e,_⟩:=this;rcases e with e|⟨o,e⟩<;>(rw[h]at e;cases e)
 |drT ds=>rw[hm]at this;let⟨vs,e,_⟩:=this;rcases e with e|⟨o,e⟩<;>(rw[h]at e;cases e)
 |dfT o vs ds=>rw[hm]at this;let e:=this.1;rw[h]at e;cases e
 |dfK o vs ds=>rw[hm]at this;let e:=this.1;rw[h]at e;cases e
 |ins Cl fs=>rw[hm]at this;let⟨dx,vs,e,_⟩:=this;rw[h]at e;cases e
 |hand=>rw[hm]at this;let⟨d,k,c,cs,e,_⟩:=this;rw[h]at e;cases e
 |tab P pos q=>rw[hm]at this;let⟨_,ps,e,_⟩:=this;rw[h]at e;cases e
 |dcN sh z ds =>
  rw[hm]at this;cases z with
  |none =>
   let⟨vs,e,_⟩:=this;rw[h]at e;exact dnP.ne ⟨.ref Ce,d,.fields (Array.replicate 6 .none),#[]⟩ rfl (λh g=>⟨_,_,g,rfl,rfl,rfl,by simp⟩) (HO.ext.inj (Dh e)).symm
  |some z=>have e:=this.1;rw[h]at e;cases e
def Zvw{tb:XK->TS}{ub:X3->TS3}{uh:TH3}(hb:∀(E:XK)(kx:X3)(Z:Anc),Z.xe=E->Z.kx=kx->FinX C Z->SimS C Z (tb E) (ub kx))(hh:SimH C Z th uh):SimS C Z (tTry tb th) (uTry ub uh):=λI α σ H ρ M E D' R RE h F=>by
 refine hb _ _ ⟨I,α,_,_⟩ rfl rfl ?_ I α σ H ρ M E D' (R.here _ _) RE h (F.re R);intro Ce d vs fs I' α' H' M' R' e f g;exists Ce,rfl,λea hea=>?_;let R2:=R'.re R R'.ai R'.aa;let⟨I2,s2,R3,fl⟩:=R2.full;exact hh I2 α' σ H' ρ M' E D' Ce d ea fs vs R3 (RE.mono (Same.trans R'.ai s2) R'.aa) (fl _ _ hea (R2.extOut hea)) (e.mono s2) (f.mono s2 (Jh _)) g (F.mono (Same.trans R'.ai s2) R'.aa)
theorem RepF.lookup{f:Str}:∀{vs:List (Str×V)}{ds:List (Str×D)}{d:D},RepF C I α vs ds->ds.lookup f=some d->∃v,vs.lookup f=some v/\Rep C I α v d
 |_,_,_,.nil,h=>by cases h
 |_,_,d,.cons (k:=k) (v:=v) (d:=d') a b,h=>by
  rw[G4]at h⊢;cases e:(f==k)with
  |true=>rw[e]at h;cases h;exists v,rfl,a
  |false=>rw[e]at h;exact RepF.lookup b h
inductive uXFld_1(K:Cm)(f:Str)(Kk:K3)(d:D)(M1:Mem):Prop
 |mk:∀Ce fs fI v,d=.exc Ce fs->XCl K Ce fI->C1 K (.ref Ce) f=some none->fs.lookup f=some v->Kk v M1->uXFld_1 K f Kk d M1
def Zu6(K:Cm)(f:Str)(ua:TE3):TE3:=λρ M Kk=>ua ρ M (uXFld_1 K f Kk)
def Zsh{f:Str}(ha:SimE C Z ta ua):SimE C Z (Zom K ta f) (Zu6 K f ua):=λI α σ H ρ M Kk Q R RE h k =>
 ha I α σ H ρ M _ _ R RE h λv d I1 α1 H1 M1 s1 p1 R1 r1 h1=>by
  let⟨Ce,fs,fI,w,rfl,xc,na,el,h1⟩:=h1;cases r1 with
  | @exc ea _ d vs _ e1 e2 rf =>
   let⟨v,ev,rv⟩:=rf.lookup el;cases d with
   |none =>
    let e2:vs=[]:=e2;subst e2;cases ev
   |some d=>exact⟨ea,Ce,fI,d,vs,v,rfl,xc,na,R1.sub _ _ e1,R1.sub _ _ e2,ev,k _ _ I1 α1 H1 M1 s1 p1 R1 rv h1⟩
def Fun.okX3{w:C0}{base:Heap}{x:Str}{f:Addr}{k:Nat}{sp:Sp3X}(F:Fun K x qual st f fd)(S:FnScope N ps (Zp st))(len:∀ds M K KX,sp ds M K KX->ds.length=ps.length)(hbody:∀(cdv:Value)(A:K2)(outer:List Env)(s:Ca)(H:Hp)(E:XK),Room k (A.deeper (Kd qual (Zp st) s.heap.objs.size f cdv)) ->
   ∃(t:TS)(u:X3->TS3),PSs (cxE P w K mg base N qual (Zp st) f cdv A outer s H E) (Xg st) t/\(∀(kx:X3)(Z:Anc),Z.xe=E->Z.kx=kx->FinX C Z->SimS C Z t (u kx))/\∀ds M K KX,WfM M->(∀d∈ds,Yw M.length d)->sp ds M K KX->u KX {nx:=λ_ M'=>Dk M.length K .non M',rt:=Dk M.length K} (Zam N ds) M):FnOk P w K mg base (CXE P w) (k+1) f fd ps (Zan C sp):=by
 refine F.okE S (λvs H Q E h=>?_) (λcdv A outer s H vs Q E hr h=>?_)
 .let⟨Z,I,α,M,ds,K,KX,R,r,h,_⟩:=h;rw[r.length];exact len ds M K KX h
 .let⟨t,u,h1,h2,h3⟩:=hbody cdv A outer s H E hr;let⟨Z,I,α,M,ds,K,KX,R,r,h,k,kx⟩:=h;let R1:=R.here E KX;let kd:=(k.re (Z':=⟨I,α,E,KX⟩) R).dk R1.len R1.aa;exists t,h1,h2 KX ⟨I,α,E,KX⟩ rfl rfl (λCe d vs fs I' α' H' M' R' e f g=>kx Ce d vs fs I' α' H' M' R'.ai R'.aa (R'.re R R'.ai R'.aa) e f g) I α _ H _ M _ _ R1 (Zaw r N) (h3 ds M K KX R.wf (by rw[<-R.len];exact r.bel) h) ⟨λI1 α1 σ1 H1 ρ1 M1 s1 p1 R1 _ h1=>kd _ _ I1 α1 H1 M1 s1 p1 R1 .non h1,kd,λ_ _ _ _ _ _ _ _ _ _ h=>h.elim,λ_ _ _ _ _ _ _ _ _ _ h=>h.elim⟩
end
def kD:Key->D
 |.inl i=>.int i
 |.inr s=>.str s
def Zq8(kd:List (Key×D))(S:List Pr):Prop:=(∀p∈S,valD kd (.inl p.1)=some (wD p.2))/\∀s:Int,(∀p∈S,p.1≠s)->valD kd (.inl s)=none
def prK(p:Pr):Key×D:=(.inl p.1,wD p.2)
section
variable{C:Cf} 
def Ztk{os:List (Option Int)}{K:K3}(R:Rel C Z I α H M)(nl:H l=none)(s:Same H H')(el:H' l=some (.lst (os.map oV)))(kk:Fin C Z I α K Q)(h:K (.cell M.length) (M++[.lst (os.map oD)])):Q (.ref l) H':=by
 let⟨R2,p2,e2⟩:=(R.same s).cellAt (l:=l) (m:=.lst (os.map oD)) (R.sub.free nl) (R.out nl) ⟨_,el,Zhr os⟩;exact kk _ _ I _ H' _ (.refl _) p2 R2 (.cell e2) h
def osOf(R:List En):List (Option Int):=R.map λe=>e.2
def Zjl{Ce d:Addr}{f:Str}{i:Int}{KX:X3}{E:XK}(R:Rel C Z I α H M)(nd:H d=none)(s:Same H H')(ed:H' d=some (.ext (xdP d [(f,.int i)])))(kx:∀Ce d vs fs I' α' H' M',Same I I'->α<+:α'->Rel C Z I' α' H' M'->XD I' d vs->RepF C I' α' vs fs->KX Ce fs M'->E (.ref Ce) d H')(h:KX Ce [(f,.int i)] M):E (.ref Ce) (some d) H':=by
 let⟨I',s',R',fl⟩:=(R.same s).full;exact kx Ce (some d) _ _ I' α H' M s' (Jh _) R' (fl _ _ ed (R.out nd)) (.cons (.int _) .nil) h
end
section
def Zd0(h:X.K=K'):OpR X (Ee .NotIn) (L2.rIn K' true):=by subst h;exact Za3
end
def Zg4{u u':TS3}{En:Ends3}(S:Ev->Mem->Prop)(h1:∀Kn:Ev->Mem->Prop,(∀ρ' M',S ρ' M'->Kn ρ' M')->u {En with nx:=Kn} ρ M)(h2:∀ρ' M',S ρ' M'->u' En ρ' M'):uSeq u u' En ρ M:=h1 _ h2
theorem Zj1(xs:List τ)(lo hi:Option Int):(cut xs lo hi).length<=xs.length:=by
 unfold cut;rw[Ji,Ge];lia
theorem Zir{d:D}{xs:List D}{m:MO}(h:lsOf M d=some xs):lsOf (M++[m]) d=some xs:=by
 cases d with
 |lst ys=>exact h
 |cell k =>
  simp only[lsOf]at h⊢
  by_cases hk:k<M.length
  .rw[Jq hk];exact h
  .rw[Fl (Jg1 hk)]at h;exact nomatch h
 |_=>exact nomatch h
theorem Zec(fi:Fits S)(hU:∀p∈U,p∈S):∀i,i<=U.length->∃R,Went S (Yi U) R (Yi (U.take i)).length/\osOf R=(Yz (U.take i)).map some
 |0,_=>⟨[],.nil,rfl⟩
 |i+1,hi=>by
  let⟨R,w,e⟩:=Zec fi hU i ();let hi':i<U.length:=by lia
  let hm:=hU _ (Jl hi');exists R++[((Yi (U.take i)).length,some U[i].1)],?_,?_
  .rw[Zlo hi',Jc];exact .word w hm (by rw[Zlp U hi'];exact Jv _ _) (fi.2 _ hm).1
  .unfold osOf Yz at *
   rw[Jg,e,Jf hi',Jg,Jg];rfl
def Zmj{xs:List Int}(h:osOf R=xs.map some):Zca R:=λe he z=>by
 let:e.2∈osOf R:=Je3 he;rw[h,z]at this;let⟨x,_,q⟩:=Jo.mp this;exact nomatch q
def Zf0(h:Zca R):Zit R=[]:=by
 unfold Zit;rw[List.map_eq_nil_iff,List.filter_eq_nil_iff];intro e he z;exact h e he (Option.isNone_iff_eq_none.mp z)
def Zcw{xs:List Int}(h:osOf R=xs.map some):(osOf R).map oD=xs.map D.int:=by
 rw[h,Gk];rfl
def Zlc(fi:Fits S)(fr:Free S)(tx:V3 S U ts ts.length) :
  (∀R pl,U1 S (Yi U) R pl->(Yi U).length<=pl/\(osOf R).map oD=ts.map D.int)/\∀R,Told S (Yi U) R->(osOf R).map oD=ts.map D.int/\Zit R=[]:=by
 let⟨R,w,e⟩:=Zec fi tx.1 U.length (Jd _);rw[Jw]at w e;rw[tx.2,Jw]at e;let c:=Zmj e;let en:U1 S (Yi U) R (Yi U).length:=⟨w,c,.inl (Jd _)⟩;exists λR' pl h=>?_,λR' h=>?_
 .let⟨rfl,rfl⟩:=U1.uniq fr h en;exists Jd _,Zcw e
 .let:=Told.uniq fr h ⟨_,w,Jd _⟩;subst this;exists Zcw e,Zf0 c
theorem Zkn :∀{R:List En}{pl:Nat},Went S ns R pl->Zca R->∃U:List Pr,(∀p∈U,p∈S)/\Yi U=ns.take pl/\osOf R=(Yz U).map some:=by
 intro R pl w
 induction w with
 |nil=>exact λ_=>⟨[],(λ_ h=>nomatch h),rfl,rfl⟩
 |lost w hl hn ih=>exact λc=>absurd rfl (c _ (Jt _ (List.mem_singleton_self _)))
 | @word R pl p w hp pre hne ih =>
  intro c;let⟨U,h1,h2,h3⟩:=ih λe he=>c e (Bh _ he);exists U++[p],λq hq=>?_,?_,?_
  .rcases Gb.mp hq with hq|hq
   .exact h1 q hq
   .rw[Jj.mp hq];exact hp
  .let⟨t,e⟩:=pre;rw[Qg,h2,List.take_add,<-e];simp[Yi]
  .unfold osOf Yz at *
   rw[Jg,h3,Jg,Jg];rfl
theorem Zht(h:U1 S ns R pl)(hp:ns.length<=pl):∃(U:List Pr)(ts:List Int),V3 S U ts ts.length/\Yi U=ns/\(osOf R).map oD=ts.map D.int/\ts.length<=ns.length:=by
 let⟨U,h1,h2,h3⟩:=Zkn h.1 h.2.1;exists U,Yz U,⟨h1,by rw[Jw]⟩,by rw[h2,Gd hp],Zcw h3,?_;let:=h.1.len;let:=h.1.le;let e:(osOf R).length=R.length:=by unfold osOf;rw[Ja]
 let:=congrArg Ez h3;rw[e,Ja]at this;lia
section
variable{C:Cf} 
inductive add3C(d:D)(e:D)(M:Mem)(K:K3):Prop
 |mk:∀xs ys,lsOf M d=some xs->lsOf M e=some ys->xs.length+ys.length<=sizeLine->K (.cell M.length) (M++[.lst (xs++ys)])->add3C d e M K
def Zsw:SimR C Z (Zlr C.k) add3C:=λI α H M x y d e K Q R r1 r2 h k=>by
 let⟨xs,ys,e1,e2,hl,h⟩:=h;let⟨a,vs,rfl,ea,ra⟩:=Rj R r1 e1;let⟨b,ws,rfl,eb,rb⟩:=Rj R r2 e2;refine .inr (.inr (.inl ⟨a,b,vs,ws,rfl,rfl,ea,eb,by rw[ra.length,rb.length];exact hl,λp hp=>?_⟩));let⟨R2,p2,e2⟩:=R.cell (o:=.lst (vs++ws)) (m:=.lst (xs++ys)) hp λH' e=>⟨_,e,ra.app rb⟩;exact k _ _ I _ _ _ (.refl _) p2 R2 (.cell e2) h
end
theorem Zmg{ns:List τ}{m:Nat}(h:pl<=ns.length):cut ns (some (pl:Int)) (some ((pl:Int)+(m:Int)))=(ns.drop pl).take m:=by
 unfold cut;rw[<-L7,HT.sIx_nat,HT.sIx_nat,Fj h];refine List.take_eq_take_iff.mpr ?_;rw[Ge];lia
def Pi(f:Str)(v:D):List (Str×D)->List (Str×D)
 |[]=>[(f,v)]
 |(g,x)::r=>if g=f then(g,v)::r else(g,x)::Pi f v r
section
variable{C:Cf} 
abbrev FldR(C:Cf)(I:Hp)(α:List Addr):Str×V->Str×D->Prop:=λp q=>p.1=q.1/\Rep C I α p.2 q.2
theorem Zbm{f:Str}{d:D}:∀{vs:List (Str×V)}{fs:List (Str×D)},Paired (FldR C I α) vs fs->fs.lookup f=some d->∃v,vs.lookup f=some v/\Rep C I α v d
 |_,_,.nil,h=>nomatch h
 |_,_,.cons (a:=(g,v)) (b:=(g',d')) a r,h=>by
  let⟨e,rv⟩:=a;let e:g=g':=e;subst e;rw[G4]at h⊢;cases z:f==g with
  |true=>rw[z]at h;cases h;exists v,rfl,rv
  |false=>rw[z]at h;exact Zbm r h
theorem Zbn{f:Str}:∀{vs:List (Str×V)}{fs:List (Str×D)},Paired (FldR C I α) vs fs->fs.lookup f=none->vs.lookup f=none
 |_,_,.nil,h=>rfl
 |_,_,.cons (a:=(g,v)) (b:=(g',d')) a r,h=>by
  let⟨e,rv⟩:=a;let e:g=g':=e;subst e;rw[G4]at h⊢;cases z:f==g with
  |true=>rw[z]at h;cases h
  |false=>rw[z]at h;exact Zbn r h
theorem Zey{f:Str}{d:D}(rv:Rep C I α v d):∀{vs:List (Str×V)}{fs:List (Str×D)},Paired (FldR C I α) vs fs->Paired (FldR C I α) (putF f v vs) (Pi f d fs)
 |_,_,.nil=>.cons ⟨rfl,rv⟩ .nil
 |_,_,.cons (a:=(g,v')) (b:=(g',d')) a r=>by
  let⟨e,rv'⟩:=a;let e:g=g':=e;subst e;unfold putF Pi
  by_cases z:g=f
  .rw[De z,De z];exact .cons ⟨rfl,rv⟩ r
  .rw[Dd z,Dd z];exact .cons ⟨rfl,rv'⟩ (Zey rv r)
end
section
variable{C:Cf}{t:TA}{u:TA3} 
inductive uFldI_1(K:Cm)(f:Str)(Kk:K3)(d:D)(M1:Mem):Prop
 |mk:∀(k:Nat)(Cl:Addr)(fs:List (Str×D))(v:D),d=.cell k->M1[k]?=some (.ins Cl fs)->Cls K Cl->Xi K Cl f->fs.lookup f=some v->Kk v M1->uFldI_1 K f Kk d M1
def Zvj(K:Cm)(f:Str)(ua:TE3):TE3:=λρ M Kk=>ua ρ M (uFldI_1 K f Kk)
def Pu{f:Str}(ha:SimE C Z ta ua):SimE C Z (tFld K ta f) (Zvj K f ua):=λI α σ H ρ M Kk Q R E h k =>
 ha I α σ H ρ M _ _ R E h λv d I1 α1 H1 M1 s1 p1 R1 r1 h1=>by
  let⟨j,Cl,fs,w,rfl,e1,cl,na,el,h1⟩:=h1;let⟨a,rfl,ec⟩:=r1.inv;let⟨dx,vs,ea,ra⟩:=(R1.cel j a _ ec e1).1;let⟨v,ev,rv⟩:=Zbm ra el;exists a,Cl,dx,vs,v,rfl,ea,cl,na,ev,k _ _ I1 α1 H1 M1 s1 p1 R1 rv h1
inductive uSetI_2(K:Cm)(f:Str)(E:Ends3)(ρ:Ev)(dv:D)(d:D)(M2:Mem):Prop
 |mk:∀(k:Nat)(Cl:Addr)(fs:List (Str×D)),d=.cell k->M2[k]?=some (.ins Cl fs)->Cls K Cl->Xi K Cl f->fs.length<1000->E.nx ρ (M2.set k (.ins Cl (Pi f dv fs)))->uSetI_2 K f E ρ dv d M2
abbrev Zn6(K:Cm)(f:Str)(ua:TE3)(E:Ends3)(ρ:Ev):D->Mem->Prop:=λdv M1=>ua ρ M1 (uSetI_2 K f E ρ dv)
def Zu9(K:Cm)(f:Str)(ua ub:TE3):TS3:=λE ρ M=>ub ρ M (Zn6 K f ua E ρ)
def Zm6{f:Str}(ha:SimE C Z ta ua)(hb:SimE C Z tb ub):SimS C Z (sFld K ta tb f) (Zu9 K f ua ub):=λI α σ H ρ M E3 D' R RE h F =>
 hb I α σ H ρ M _ _ R RE h λy dv I1 α1 H1 M1 s1 p1 R1 r1 h1=>ha I1 α1 σ H1 ρ M1 _ _ R1 (RE.mono s1 p1) h1 λv d I2 α2 H2 M2 s2 p2 R2 r2 h2=>by
  let⟨j,Cl,fs,rfl,e1,cl,na,hl,h2⟩:=h2;let⟨a,rfl,ec⟩:=r2.inv;let⟨dx,vs,ea,ra⟩:=(R2.cel j a _ ec e1).1;exists a,Cl,dx,vs,rfl,ea,cl,na,by rw[Paired.length ra];exact hl,?_;exact F.nx I2 α2 σ _ ρ _ (s1.trans s2) (p1.trans p2) (R2.put (m:=.ins Cl (Pi f dv fs)) ec λH' e=>⟨dx,_,e,Zey (r1.mono s2 p2) ra⟩) (RE.mono (s1.trans s2) (p1.trans p2)) h2
abbrev Zrh(Kk:K3)(M1:Mem):D->Mem->Prop:=λd M2=>d=.non/\Kk (.cell M1.length) M2
abbrev Zri(Cl:Addr)(sp:Sp3)(Kk:K3):List D->Mem->Prop:=λds M1=>sp (.cell M1.length::ds) (M1++[.ins Cl []]) (Zrh Kk M1)
def uMkI(Cl:Addr)(sp:Sp3)(u:TA3):TE3:=λρ M Kk=>u ρ M (Zri Cl sp Kk)
def Zsl{Cl:Addr}{sp:Sp3}(ha:SimA C Z t u):SimE C Z (Zfl Cl (spOf C sp) [] E0 t) (uMkI Cl sp u):=λI α σ H ρ M Kk Q R E h k =>
 ha I α σ H ρ M _ _ R E h λvs ds I1 α1 H1 M1 s1 p1 R1 r1 h1=>by
  intro x dx nx ndx ne;let R2:=R1.same (Ze (o:=.own x) ndx);let⟨R3,p3,e3⟩:=R2.cell (p:=x) (o:=.ins Cl dx []) (m:=.ins Cl []) (by rw[Zn (Cw ne)];exact nx) λH' e=>⟨dx,[],e,.nil⟩;rw[Gh];exists Z,I1,α1++[x],_,_,_,R3,.cons (.cell e3) (r1.mono (.refl _) p3),h1,λv d I' α' H' M' s p R' r h'=>?_;let⟨rfl,h'⟩:=h';cases r.inv;exists rfl,k _ _ I' α' H' M' (s1.trans s) ((p1.trans p3).trans p) R' (.cell ?_) h';let⟨tl,rfl⟩:=p;rw[Jq (by have:=(Je.mp e3).1;exact this)];exact e3
abbrev Zk4(sp:Sp3)(Kk:K3)(d:D):List D->Mem->Prop:=λds M2=>sp (d::ds) M2 Kk
abbrev Zk5(Cl:Addr)(m:Str)(sp:Sp3)(u:TA3)(ρ:Ev)(Kk:K3):D->Mem->Prop:=λd M1=>(∃(k:Nat)(fs:List (Str×D)),d=.cell k/\M1[k]?=some (.ins Cl fs)/\fs.lookup m=none)/\u ρ M1 (Zk4 sp Kk d)
def Zrj(Cl:Addr)(m:Str)(sp:Sp3)(ua:TE3)(u:TA3):TE3:=λρ M Kk=>ua ρ M (Zk5 Cl m sp u ρ Kk)
def Qf{Cl:Addr}{m:Str}{sp:Sp3}(ha:SimE C Z ta ua)(hr:SimA C Z t u):SimE C Z (Zgz Cl m (spOf C sp) [] E0 ta t) (Zrj Cl m sp ua u):=λI α σ H ρ M Kk Q R E h k =>
 ha I α σ H ρ M _ _ R E h λv d I1 α1 H1 M1 s1 p1 R1 r1 h1=>by
  let⟨⟨j,fs,rfl,e1,el⟩,h1⟩:=h1;let⟨a,rfl,ec⟩:=r1.inv;let⟨dx,vs,ea,ra⟩:=(R1.cel j a _ ec e1).1;exists a,dx,vs,rfl,ea,Zbn ra el,?_;refine hr I1 α1 σ H1 ρ M1 _ _ R1 (E.mono s1 p1) h1 λvs ds I2 α2 H2 M2 s2 p2 R2 r2 h2=>?_;rw[Gh];exists Z,I2,α2,M2,_,Kk,R2,.cons ((Rep.cell ec).mono s2 p2) r2,h2,k.mono (s1.trans s2) (p1.trans p2)
end
section
variable{C:Cf} 
inductive dWord(ds:List D)(M:Mem)(K:K3):Prop
 |mk:∀(S:List Pr)(s:Int),ds=[.code S,.int s]->((∀p∈S,p.1=s->K (wD p.2) M)/\((∀p∈S,p.1≠s)->K .non M))->dWord ds M K
def Zux{E:XK}(h:spOf C dWord vs H Q E):Zg8 C.c vs H Q E:=by
 let⟨Z,I,α,M,ds,K,R,r,⟨S,s,rfl,h1,h2⟩,kk⟩:=h;refine Reps.e2 r λ_ _ r1 r2=>?_;cases r2.inv;let⟨_,rfl,hc⟩:=r1.inv;exists _,S,s,rfl,hc.same R.sub,λp hp e t et=>?_,λhn=>kk _ _ I α H M (.refl _) (Jh _) R .non (h2 hn);let⟨I2,s2,R2,f⟩:=R.full;exact kk _ _ I2 α H M s2 (Jh _) R2 (.tup (f _ _ et (R.tupOut et)) (.ints _)) (h1 p hp e)
end
theorem Z7{d:D}{xs:List D}(h:lsOf M d=some xs):tyOf M d=some .list/\Wb M d=some xs/\Pf M d=some xs:=by
 cases d with
 |lst ys=>cases h;exists rfl,rfl,rfl
 |cell k =>
  simp only[lsOf]at h;cases hm:M[k]? with
  |none=>rw[hm]at h;cases h
  |some m =>
   rw[hm]at h;cases m with
   |lst es=>cases h;exact⟨by simp only[tyOf,hm],by simp only[Wb,hm],by simp only[Pf,Wb,hm]⟩
   |_=>cases h
 |_=>cases h
def Xm(L:List Pr):List (List Key×D):=L.map λp=>(wk p.2,.int p.1)
def Rt[DecidableEq κ]{k:κ}{v:D}{kvs:List (κ×D)}(h:∀kv∈kvs,kv.1≠k):putD kvs k v=kvs++[(k,v)]:=by
 unfold putD;rw[Dd];intro z;let⟨kv,hk,e⟩:=B5.mp z;exact h kv hk (of_decide_eq_true e)
def Zj2{ns:List τ}(h:pl<=ns.length):cut ns (some (pl:Int)) none=ns.drop pl:=by
 unfold cut;rw[HT.sIx_nat,Fj h];show(ns.drop pl).take (ns.length-pl)=_;rw[Gd];rw[Ge];exact Jd _
theorem Zli{d:D}{xs:List D}{K:K3}(h:lsOf M d=some xs)(hk:K (.lst (cut xs lo hi)) M):sl3 d lo hi M K:=by
 cases d with
 |lst ys=>cases h;exists ·,hk
 |cell k=>exact⟨_,(Z7 h).2.1,hk⟩
 |_=>cases h
theorem Zkp{d e:D}{xs ys:List D}{K:K3}(h1:lsOf M d=some xs)(h2:lsOf M e=some ys)(hl:xs.length+ys.length<=sizeLine)(hk:K (.lst (xs++ys)) M):add3 d e M K:=by
 cases d with
 |lst zs=>exact⟨_,_,h1,h2,hl,hk⟩
 |cell k=>exact⟨_,_,h1,h2,hl,hk⟩
 |_=>cases h1
theorem Zpx{d:D}{xs:List D}{K:K3}(h:lsOf M d=some xs)(hk:K (.int xs.length) M):len3 [d] M K:=by
 cases d with
 |lst zs=>exact⟨_,(Z7 h).2.2,hk⟩
 |cell k=>exact⟨_,(Z7 h).2.2,hk⟩
 |_=>cases h
def Vy{d:D}{xs:List D}{K:K3}(h:lsOf M d=some xs)(hk:K (.int xs.length) M):T6 uNil ρ (Zfh len3 K) d M:=Zpx h hk
theorem Zc5{d v:D}{xs:List D}{i:Int}{K:K3}(h:lsOf M d=some xs)(hv:L2.atI xs i=some v)(hk:K v M):ix3 d (.int i) M K:=by
 cases d with
 |lst zs=>exact⟨_,_,_,(Z7 h).2.2,rfl,hv,hk⟩
 |cell k=>exact⟨_,_,_,(Z7 h).2.2,rfl,hv,hk⟩
 |_=>cases h
def Zuv{xs:List D}{v:D}{i:Int}(e:i=j)(h:xs[j]?=some v):L2.atI xs i=some v:=by
 rw[e];exact Sl h
theorem Nr:∀ns:List Int,Qq (ns.map D.int)=some (wk ns)
 |[]=>rfl
 |x::r=>by
  show(match Zf1 (D.int x),Qq (r.map D.int)with|some k,some ks=>some (k::ks)|_,_=>none)=_;rw[Nr r];rfl
def Yy{m m':MO}{r:Nat}(h:M[r]?=some m):(M++[m'])[r]?=some m:=by
 rw[Jq (Je.mp h).1];exact h
theorem Zfa(fr:Free L){p:Pr}(hp:p∈L):valD (Xm L) (wk p.2)=some (.int p.1):=by
 induction L with
 |nil=>cases hp
 |cons q r ih =>
  show valD ((wk q.2,.int q.1)::Xm r) (wk p.2)=_;rw[Tl]
  by_cases e:wk q.2=wk p.2
  .rw[De e];let:q=p:=Zji fr Jn hp (l:=p.2) (by rw[L2.R9 e];exact Jh _) (Jh _);rw[this]
  .rw[Dd e];rcases Jp.mp hp with z|z
   .subst z;exact absurd rfl e
   .exact ih (Mo.mp fr).2 z
theorem Zka{w:List Int}(h:∀p∈L,p.2≠w):valD (Xm L) (wk w)=none:=by
 induction L with
 |nil=>rfl
 |cons q r ih =>
  show valD ((wk q.2,.int q.1)::Xm r) (wk w)=_;rw[Tl,Dd λe=>h q Jn (L2.R9 e)];exact ih λp hp=>h p (Jk _ hp)
theorem Zj0{ns:List τ} :cut ns none (some (pl:Int))=ns.take pl:=by
 unfold cut;rw[HT.sIx_nat];show(ns.drop 0).take (min pl ns.length-0)=_;rw[Mm,Ft,List.take_eq_take_iff];lia
theorem Zj3{ns:List τ} :cut ns (some (pl:Int)) none=ns.drop pl:=by
 by_cases h:pl<=ns.length
 .exact Zj2 h
 .unfold cut;rw[HT.sIx_nat,Jg6 (),List.drop_length,List.drop_of_length_le (),Jfr]
def Vi{N:Mem}{m:MO}{t:Nat}(h:M<+:N)(ht:M.length<=t):M<+:N.set t m:=by
 let⟨X,rfl⟩:=h;rw[K7 _ _ ht];exact Jv _ _
def Yf{N:Mem}{m m':MO}{r t:Nat}(h:N[r]?=some m)(ne:r≠t):(N.set t m')[r]?=some m:=by
 rw[Ga (Cw ne)];exact h
def Xx{N:Mem}{m:MO}{r:Nat}(h:N[r]?=some m):r<N.length:=(Je.mp h).1
def Yd{N:Mem}{xs:List D}{t:Nat}(h:N[t]?=some (.lst xs)):lsOf N (.cell t)=some xs:=by simp only[lsOf,h]
def Zy{N:Mem}{m:MO}{r:Nat}(p:M<+:N)(h:M[r]?=some m):N[r]?=some m:=by
 let⟨X,rfl⟩:=p;rw[Jq (Je.mp h).1];exact h
def Zwj:Enc Pr:=Pn Y1 (Zub Y1)
end L3
namespace L2
open PySem PySem.Spec PyProof.Rows
section
def Zs2(K:Cm):V->List V->Hp->VK->Prop:=λx xs H Q=>∃(z:Str)(p:Addr)(ys:List Str),x=.str z/\xs=[.ref p]/\SqL K H p (ys.map V.str)/\(ys.map (·.length)).sum+ys.length*z.length<=16777216/\Q (.str (Txt.join z ys)) H
def Zqu(h:X.K=K):MtR X "str.join" (Zs2 K):=by subst h;exact Zpu
end
end L2
namespace L3
open PySem L2
section
variable{C:Cf}{t:TA}{u:TA3}
theorem Reps.of_strs :∀{vs:List V}(zs:List Str),Reps C I α vs (zs.map D.str)->vs=zs.map V.str
 |_,[],h=>by cases h;rfl
 |_,z::r,h=>by
  cases h with
  |cons a b =>
   cases a;rw[Reps.of_strs r b];rfl
inductive uJoin_1(u:TA3)(ρ:Ev)(K:K3)(d:D)(M1:Mem):Prop
 |mk:∀z,d=.str z->(u ρ M1 λds M2=>∃(e:D)(ys:List Str),ds=[e]/\Wb M2 e=some (ys.map D.str)/\(ys.map (·.length)).sum+ys.length*z.length<=16777216/\K (.str (Txt.join z ys)) M2)->uJoin_1 u ρ K d M1
def Zvg(uo:TE3)(u:TA3):TE3:=λρ M K=>uo ρ M (uJoin_1 u ρ K)
def Zso(ho:SimE C Z to uo)(ha:SimA C Z t u):SimE C Z (tBM C.k "str" (Zs2 C.k) to t) (Zvg uo u):=λI α σ H ρ M K Q R E h k =>
 ho I α σ H ρ M _ _ R E h λv d I1 α1 H1 M1 s1 p1 R1 r1 h1=>by
  let⟨z,rfl,h1⟩:=h1;cases r1.inv;exists rfl,ha I1 α1 σ H1 ρ M1 _ _ R1 (E.mono s1 p1) h1 λws ds I2 α2 H2 M2 s2 p2 R2 r2 h2=>?_;let⟨e,ys,rfl,el,hz,h2⟩:=h2;refine Reps.e1 r2 λ_ ry=>?_;let⟨a,vs,rfl,ea,ra⟩:=Wm R2 ry el;rw[ra.of_strs ys]at ea;exists z,a,ys,rfl,rfl,ea,hz,k _ _ I2 α2 H2 M2 (s1.trans s2) (p1.trans p2) R2 (.str _) h2
def Zl7(z:Str)(zs:List Str):L2.inV (.str z) (zs.map V.str)=decide (z∈zs):=by
 unfold L2.inV;rw[List.any_map,Fi,B5,decide_eq_true_iff]
 constructor
 .rintro⟨x,hx,e⟩;let:x=z:=by simpa[L2.eqV]using e
  exact this ▸ hx
 .exact λh=>⟨z,h,by simp[L2.eqV]⟩
def Zjk(zs:List Str):(zs.map V.str).all L2.N6=true:=by
 rw[Fy];intro x hx;let⟨i,_,rfl⟩:=Jo.mp hx;rfl
inductive inS3(neg:Bool)(d:D)(e:D)(M:Mem)(K:K3):Prop
 |mk:∀(z:Str)(zs:List Str),d=.str z->Wb M e=some (zs.map .str)->K (.bl (if neg then !decide (z∈zs)else decide (z∈zs))) M->inS3 neg d e M K
def Zsr{neg:Bool}:SimR C Z (L2.rIn C.k neg) (inS3 neg):=λI α H M x y d e K Q R r1 r2 h k=>by
 let⟨z,zs,rfl,el,h⟩:=h;cases r1.inv;let⟨a,vs,rfl,ea,ra⟩:=Wm R r2 el;rw[ra.of_strs zs]at ea;exact⟨a,_,rfl,.inl ea,rfl,Zjk zs,by rw[Zl7];exact k.now R (.bl _) h⟩
def Zd7:SimR C Z (L2.rIn C.k true) (inS3 true):=Zsr
inductive list3D(ds:List D)(M:Mem)(K:K3):Prop
 |mk:∀(d:D)(kvs:List (Key×D)),ds=[d]->U0 M d=some kvs->K (.cell M.length) (M++[.lst (kvs.map λkv=>kD kv.1)])->list3D ds M K
theorem Zav :∀{vs:List (Key×V)}{kvs:List (Key×D)},RepK C I α vs kvs->Reps C I α (vs.map λkv=>kV kv.1) (kvs.map λkv=>kD kv.1)
 |_,_,.nil=>.nil
 |_,_,.cons (k:=k) r1 r2=>.cons (by cases k with|inl i=>exact .int i|inr z=>exact .str z) (Zav r2)
def Zov:SimC C Z Zhw list3D:=λI α H M xs ds K Q R r h k=>by
 let⟨d,kvs,rfl,e,h⟩:=h;refine Reps.e1 r λ_ r1=>?_;let⟨a,vs,rfl,ea,ra⟩:=Znx R r1 e;exists a,vs,rfl,ea,λp hp=>?_;let⟨R2,p2,e2⟩:=R.cell (o:=.lst (vs.map λkv=>kV kv.1)) (m:=.lst (kvs.map λkv=>kD kv.1)) hp λH' e=>⟨_,e,Zav ra⟩;exact k _ _ I _ _ _ (.refl _) p2 R2 (.cell e2) h
end
abbrev Fq:=Str×List Pr×List Int
variable{zs:List L3.Fq}
def famD(f:Nat):List (Str×D):=[("codes_by_name",.cell (f+1)),("marks_by_name",.cell (f+2))]
def Vz(zs:List Fq):List (Key×D):=zs.map λz=>(.inr z.1,.code z.2.1)
def Za6(zs:List Fq):List (Key×D):=zs.map λz=>(.inr z.1,wD z.2.2)
structure FamAt(XF:Addr)(M:Mem)(f:Nat)(zs:List Fq):Prop where
 h0:M[f]?=some (.ins XF (famD f))
 h1:M[f+1]?=some (.dct (Vz zs))
 h2:M[f+2]?=some (.dct (Za6 zs))
 nd:(zs.map (·.1)).Nodup
def Tx(M:Mem)(f:Nat)(zs:List Fq):Mem:=(M.set (f+1) (.dct (Vz zs))).set (f+2) (.dct (Za6 zs))
def FamAt.pre{N:Mem}{f:Nat}(h:FamAt XF M f zs)(p:M<+:N):FamAt XF N f zs:=⟨Zy p h.h0,Zy p h.h1,Zy p h.h2,h.nd⟩
theorem FamAt.put{f:Nat}{ys:List Fq}(h:FamAt XF M f zs)(nd:(ys.map (·.1)).Nodup):FamAt XF (Tx M f ys) f ys:=by
 let l1:=Xx h.h1;let l2:=Xx h.h2;unfold Tx;exists Yf (Yf h.h0 ()) (),Yf (J0 l1) (),J0 (by rw[Go];exact l2),nd
theorem FamAt.away{f g:Nat}{ys:List Fq}(h:FamAt XF M f zs)(d:f+2<g\/g+2<f):FamAt XF (Tx M g ys) f zs:=by
 unfold Tx;exists Yf (Yf h.h0 ()) (),Yf (Yf h.h1 ()) (),Yf (Yf h.h2 ()) (),h.nd
def Zra{g:Fq->D}{n:Str}(h:n∉zs.map (·.1)):valD (zs.map λz=>((.inr z.1:Key),g z)) (.inr n)=none:=by
 unfold valD;rw[Option.map_eq_none_iff,List.find?_eq_none];intro kv hkv e;let⟨z,hz,rfl⟩:=Jo.mp hkv;let:=of_decide_eq_true e;exact h (Jo.mpr ⟨z,hz,Lq this⟩)
theorem Zgi{g:Fq->D}:∀{zs:List Fq},(zs.map (·.1)).Nodup->∀{z:Fq},z∈zs->valD (zs.map λz=>((.inr z.1:Key),g z)) (.inr z.1)=some (g z)
 |[],_,_,h=>nomatch h
 |y::ys,nd,z,h=>by
  unfold valD;rw[Js,G7];rw[Js,Gy]at nd
  by_cases e:y.1=z.1
  .rcases Jp.mp h with w|w
   .subst w;simp
   .exact absurd (Jo.mpr ⟨z,w,e.symm⟩) nd.1
  .let hz:z∈ys:=by
    rcases Jp.mp h with w|w
    .exact absurd (by rw[w]) e
    .exact w
   rw[show decide ((Mr y.1:Key)=Mr z.1)=false from Dg λw=>e (Lq w)];exact Zgi nd.2 hz
inductive dInitF(XF:Addr)(ds:List D)(M:Mem)(K:K3):Prop
 |mk:∀f:Nat,ds=[.cell f]->(M[f]?=some (.ins XF [])/\M.length=f+1/\K .non (M.set f (.ins XF (famD f))++[.dct [],.dct []]))->dInitF XF ds M K
inductive dNamesF(XF:Addr)(ds:List D)(M:Mem)(K:K3):Prop
 |mk:∀(f:Nat)(zs:List Fq),ds=[.cell f]->(FamAt XF M f zs/\K (.cell M.length) (M++[.lst ((zs.map (·.1)).map .str)]))->dNamesF XF ds M K
abbrev OkS:={z:Str // Ec z=true}
def encS:Enc OkS:=⟨λz=>.str z.1,λz=>.str z.1,0,λ_ _=>.str _,λz=>⟨by simp only[Eu];exact z.2,by simp only[Kh];exact Jd _⟩,λa b=>by
 rw[Co,K6,decide_eq_decide];exact⟨Subtype.ext,λh=>by rw[h]⟩,nofun⟩
def nmS(cs:List Nat):Str:=⟨(cs.map λc=>97+c).toArray⟩
def Xu(cs:List Nat):(nmS cs).length=cs.length:=by
 show(cs.map λc=>97+c).toArray.size=_;rw[Jm,Ja]
def Zep{a b:List Nat}(h:nmS a=nmS b):a=b:=by
 unfold nmS at h;injection h with h
 let h:=congrArg Jgh h;simp only at h;exact(List.map_inj_right (λx y e=>Nat.add_left_cancel e)).mp h
theorem Zc0(h:∀c∈cs,c<26):Ec (nmS cs)=true:=by
 unfold Ec nmS;rw[Array.all_eq_true'];intro x hx;let:x∈cs.map λc=>97+c:=by simpa using hx
 let⟨c,hc,rfl⟩:=Jo.mp this;let:=h c hc;exact Df ()
def Zpr{c:Nat}(h:c<26):L2.atI (Cv "abcdefghijklmnopqrstuvwxyz").cps.toList (c:Int)=some (97+c):=by
 let:∀c:_root_.Fin 26,L2.atI (Cv "abcdefghijklmnopqrstuvwxyz").cps.toList ((c.val:Nat):Int)=some (97+c.val):=by decide
 exact this ⟨c,h⟩
def Zpq(cs:List Nat):Txt.join (Cv "") (cs.map λc=>(⟨#[97+c]⟩:Str))=nmS cs:=by
 show Jkq (Cv "") _=_;rw[StrLaws.glued_eq_join];let:=Jjk (cs.map λc=>97+c);rw[Gk]at this;exact this
theorem Zno(z:Int){n:Nat}(h:0<n):∃j:Nat,z % (n:Int)=(j:Int)/\j<n:=by
 let⟨j,ej⟩:=Gn (G8 z (by lia:(n:Int)≠0));let:=Gw z (by lia:(0:Int)<(n:Int));exact⟨j,ej,()⟩
theorem Ym{N:Mem}{d:D}{xs:List D}(p:M<+:N)(h:lsOf M d=some xs):lsOf N d=some xs:=by
 cases d with
 |lst ys=>exact h
 |cell c =>
  simp only[lsOf]at h⊢;cases hm:M[c]? with
  |none=>rw[hm]at h;cases h
  |some m=>rw[Zy p hm];rw[hm]at h;exact h
 |_=>cases h
theorem Zfd{xs:List τ}(h:j<xs.length):L2.atI xs (-1-(j:Int))=xs.reverse[j]?:=by
 unfold L2.atI ixN;rw[Dd (),De (),K8 h];show xs[(-1-(j:Int)+(xs.length:Int)).toNat]?=_
 congr 1
 lia
def Ztl{z:Fq}(nd:(zs.map (·.1)).Nodup)(h:z.1∉zs.map (·.1)):((zs++[z]).map (·.1)).Nodup:=by
 rw[Jg,Gu];exists nd,Gy.mpr ⟨Be,Fg⟩,λa ha b hb e=>?_;let e:a=z.1:=e.trans (Jj.mp hb);exact h (e ▸ ha)
theorem P2{X:Mem}{k:Nat}:(M++X)[M.length+k]?=X[k]?:=by
 rw[J9 ()]
 congr 1
 lia
theorem Zi3{n:Nat}(h:j<n):ixN n (j:Int)=some j:=by
 unfold ixN;rw[De (),De (),Fo]
section
variable{C:Cf} 
theorem RepK.get :∀{vs:List (Key×V)}{ds:List (Key×D)},RepK C I α vs ds->vs.length=ds.length/\∀(i:Nat)(kv:Key×V)(kd:Key×D),vs[i]?=some kv->ds[i]?=some kd->kv.1=kd.1/\Rep C I α kv.2 kd.2:=by
 intro _ _ hz9;cases hz9 with
 |nil=>
  exists rfl,λi kv kd e=>nomatch e
 |cons h r=>
  exact by
    let⟨a,b⟩:=RepK.get r;exists by rw[Jz,Jz,a],λi kv kd e1 e2=>?_;cases i with
    |zero=>cases e1;cases e2;exists rfl,h
    |succ i=>exact b i kv kd (by simpa using e1) (by simpa using e2)
def Zou{t:TS}{u:TS3}(hs:SimS C Z t u):SimS C Z (Zsx t) (λE ρ M=>∃k kvs0,M[k]?=some (.dct kvs0)/\u {E with nx:=λρ' M1=>∃o vs kvs,M1[k]?=some (.dfK o vs kvs)/\E.nx ρ' (M1.set k (.dct kvs))} ρ M):=λI α σ H ρ M E D' R RE h F=>by
 let⟨k,kvs0,e0,h⟩:=h;let⟨a,ea,ma,_⟩:=R.get e0;let⟨vs0,h0,_⟩:=ma;exists a,vs0,h0,hs I α σ H ρ M _ _ R RE h ⟨λI1 α1 σ1 H1 ρ1 M1 s1 p1 R1 RE1 h1=>?_,F.rt,F.bk,F.ct⟩;let⟨o,vs,kvs,e1,h1⟩:=h1;let ea1:=Zcs p1 ea;let⟨f1,f2⟩:=(R1.cel k a _ ea1 e1).1;exists o,vs,f1,F.nx I1 α1 σ1 _ ρ1 _ s1 p1 (R1.put (m:=.dct kvs) ea1 λH' e'=>⟨vs,e',f2⟩) RE1 h1
end
def Zsg{z:Str}(h:Ec z=true):Shp 0 (.str z):=⟨by simp only[Eu];exact h,by simp only[Kh];exact Jd _⟩
def tbD(L:List Pr):D:=.lst (L.map pD)
def TbOk(L:List Pr):Prop:=Free L/\Fits L
section
variable{C:Cf}{ta:TA}{ua:TA3}{ts:TS}{us:TS3}{ur:TH3}
def zIt(d e:D)(xs ys:List D):It3:=⟨min xs.length ys.length,λi v=>∃x y,xs[i]?=some x/\ys[i]?=some y/\v=.tup [x,y],λM=>Wb M d=some xs/\Wb M e=some ys⟩
inductive uIZ_1(K:It3->Mem->Prop)(ds:List D)(M1:Mem):Prop
 |mk:∀d e xs ys,ds=[d,e]->Wb M1 d=some xs->Wb M1 e=some ys->K (zIt d e xs ys) M1->uIZ_1 K ds M1
def uIZ(ua:TA3):TI3:=λρ M K=>ua ρ M (uIZ_1 K)
theorem s_iz(ha:SimA C Z ta ua):SimI C Z (iZip C.k ta) (uIZ ua):=λI α σ H ρ M K R' R RE h k =>
 ha I α σ H ρ M _ _ R RE h λvs ds I1 α1 H1 M1 s1 p1 R1 r1 h1=>by
  let⟨d,e,xs,ys,rfl,ed,ee,h1⟩:=h1;refine Reps.e2 r1 λ_ _ r1 r2=>?_;let⟨a,vs,rfl,ea,ra⟩:=Wm R1 r1 ed;let⟨a2,ws,rfl,ea2,ra2⟩:=Wm R1 r2 ee;exists a,a2,rfl,⟨vs,ea⟩,⟨ws,ea2⟩,k _ _ I1 α1 H1 M1 s1 p1 R1 (λI2 α2 H2 M2 s2 p2 R2 ok=>?_) h1;let⟨b,vs',eb,eq,rw'⟩:=Wm R2 (r1.mono s2 p2) ok.1;let⟨b2,ws',eb2,eq2,rw2⟩:=Wm R2 (r2.mono s2 p2) ok.2;cases eb;cases eb2;let l1:=rw'.length;let l2:=rw2.length;exists λi hi=>?_,⟨vs',ws',eq,eq2,by show _<=min _ _\/_<=min _ _;lia⟩;let hi:i<min xs.length ys.length:=hi;let hx:i<xs.length:=by lia
  let hy:i<ys.length:=by lia
  let hi1:i<vs'.length:=by lia
  let hi2:i<ws'.length:=by lia
  exists⟨vs',ws',_,_,eq,eq2,Jb hi1,Jb hi2⟩,λv H3 y=>?_;let⟨t,x,y,rfl,ht,rfl,q1,q2⟩:=y;let z1:=q1 _ eq;let z2:=q2 _ eq2;rw[Jb hi1]at z1;rw[Jb hi2]at z2;cases z1;cases z2;let⟨R3,s3,e3⟩:=R2.new (o:=.tup [vs'[i],ws'[i]]) ht;exists _,.tup [xs[i],ys[i]],s3,R3,.tup e3 (.cons ((rw'.at hi1 hx).mono s3 (Jh _)) (.one ((rw2.at hi2 hy).mono s3 (Jh _)))),_,_,Jb hx,Jb hy,rfl
def Zu4(K:Cm)(D1 D2:Addr)(us:TS3)(ur:TH3):TH3:=λCe fs E ρ M=>∃b1 b2,Ey K Ce (.ref D1)=some b1/\Ey K Ce (.ref D2)=some b2/\if(b1 ||b2)=true then us E ρ M else ur Ce fs E ρ M
theorem Zss{D1 D2:Addr}(hs:SimS C Z ts us)(hr:SimH C Z thr ur):SimH C Z (Zr0 K D1 D2 ts thr) (Zu4 K D1 D2 us ur):=λI α σ H ρ M E D' Ce d ea fs vs R RE e1 e2 rf h F=>by
 let⟨b1,b2,m1,m2,h⟩:=h;exists b1,b2,m1,m2,λp hp=>?_;let⟨R2,s2,_⟩:=R.new (o:=.tup [.ref D1,.ref D2]) hp;generalize (b1 ||b2)=b at h;cases b with
 |true =>
  exact hs _ α _ _ _ M _ _ R2 (RE.mono s2 (Jh _)) h (F.mono s2 (Jh _))
 |false =>
  exact hr _ α σ _ ρ M E D' Ce d ea fs vs R2 (RE.mono s2 (Jh _)) (s2 _ _ e1) (e2.mono s2) (rf.mono s2 (Jh _)) h (F.mono s2 (Jh _))
def Zu7(u1 u2:X3->TS3)(uh:TH3):TS3:=λE ρ M=>u1 (λCe fs M'=>uh Ce fs E ρ M') {E with nx:=λρ' M'=>u2 (λCe fs M2=>uh Ce fs E ρ' M2) E ρ' M'} ρ M
def Zsi{t1 t2:XK->TS}{u1 u2:X3->TS3}{uh:TH3}(h1:∀(E:XK)(kx:X3)(Z:Anc),Z.xe=E->Z.kx=kx->FinX C Z->SimS C Z (t1 E) (u1 kx))(h2:∀(E:XK)(kx:X3)(Z:Anc),Z.xe=E->Z.kx=kx->FinX C Z->SimS C Z (t2 E) (u2 kx))(hh:SimH C Z th uh) :
  SimS C Z (Zon (λEx D σ H=>t1 (Ex σ) {D with nx:=λσ' H'=>t2 (Ex σ') D σ' H'} σ H) th) (Zu7 u1 u2 uh):=λI α σ H ρ M E D' R RE h F=>by
 let fx:∀(I:Hp)(α:List Addr)(σ:St)(H:Hp)(ρ:Ev)(M:Mem),Rel C Z I α H M->RepE C I α σ ρ->FinD C Z I α E D'->FinX C ⟨I,α,λcls d H'=>∃C',cls=.ref C'/\∀ea,H' ea=some (.ext (excP ea C' d))->th C' d ea D' σ H',λCe fs M'=>uh Ce fs E ρ M'⟩:=λI α σ H ρ M R RE F=>by
  intro Ce d vs fs I' α' H' M' R' e f g;exists Ce,rfl,λea hea=>?_;let R2:=R'.re R R'.ai R'.aa;let⟨I2,s2,R3,fl⟩:=R2.full;exact hh I2 α' σ H' ρ M' E D' Ce d ea fs vs R3 (RE.mono (Same.trans R'.ai s2) R'.aa) (fl _ _ hea (R2.extOut hea)) (e.mono s2) (f.mono s2 (Jh _)) g (F.mono (Same.trans R'.ai s2) R'.aa)
 refine h1 _ _ ⟨I,α,_,_⟩ rfl rfl (fx I α σ H ρ M R RE F) I α σ H ρ M _ _ (R.here _ _) RE h ⟨?_,(F.re R).rt,(F.re R).bk,(F.re R).ct⟩;intro I1 α1 σ1 H1 ρ1 M1 s1 p1 R1 RE1 q1;let R1':=R1.re R s1 p1;let F1:=F.mono s1 p1;exact h2 _ _ ⟨I1,α1,_,_⟩ rfl rfl (fx I1 α1 σ1 H1 ρ1 M1 R1' RE1 F1) I1 α1 σ1 H1 ρ1 M1 E D' (R1'.here _ _) RE1 q1 (F1.re R1')
inductive uFind_1(u:TA3)(ρ:Ev)(K:K3)(d:D)(M1:Mem):Prop
 |mk:∀z,d=.str z->(u ρ M1 λds M2=>∃y:Str,ds=[.str y]/\K (.int (Txt.find z y)) M2)->uFind_1 u ρ K d M1
def Zvk(uo:TE3)(u:TA3):TE3:=λρ M K=>uo ρ M (uFind_1 u ρ K)
def Znb(ho:SimE C Z to uo)(ha:SimA C Z ta ua):SimE C Z (tBM C.k "str" Zs3 to ta) (Zvk uo ua):=λI α σ H ρ M K Q R E h k =>
 ho I α σ H ρ M _ _ R E h λv d I1 α1 H1 M1 s1 p1 R1 r1 h1=>by
  let⟨z,rfl,h1⟩:=h1;cases r1.inv;exists rfl,ha I1 α1 σ H1 ρ M1 _ _ R1 (E.mono s1 p1) h1 λws ds I2 α2 H2 M2 s2 p2 R2 r2 h2=>?_;let⟨y,rfl,h2⟩:=h2;refine Reps.e1 r2 λ_ ry=>?_;cases ry.inv;exists z,y,rfl,rfl,k _ _ I2 α2 H2 M2 (s1.trans s2) (p1.trans p2) R2 (.int _) h2
theorem Zee :∀{vs:List (Key×V)}{kvs:List (Key×D)},RepK C I α vs kvs->vs.map (·.1)=kvs.map (·.1):=by
 intro _ _ hz9;cases hz9 with
 |nil=>
  exact rfl
 |cons _ r=>
  exact by rw[Js,Js,Zee r]
inductive sortD3(ds:List D)(M:Mem)(K:K3):Prop
 |mk:∀(c:Nat)(kvs:List (Key×D))(ns:List Int),ds=[.cell c]->M[c]?=some (.dct kvs)->kvs.map (·.1)=ns.map C5->kvs.length<64->(∀ns':List Int,ns'.Perm ns->ns'.Pairwise (·<=·)->K (.lst (ns'.map .int)) M)->sortD3 ds M K
theorem Zhk:SimC C Z Znd sortD3:=λI α H M xs ds K Q R r h k=>by
 let⟨c,kvs,ns,rfl,ec,ek,hl,h⟩:=h;refine Reps.e1 r λ_ r1=>?_;let⟨a,rfl,ea⟩:=r1.inv;let⟨vs,e1,rv⟩:=(R.cel c a _ ea ec).1;let lv:=(RepK.get rv).1;exists a,vs,ns,rfl,e1,by rw[Zee rv];exact ek,(),λD ns' hD pm pw=>?_;let⟨R4,s4,e4⟩:=R.new (o:=.lst (ns'.map V.int)) hD;exact k _ _ _ α _ M s4 (Jh _) R4 (.lst e4 (.ints _)) (h ns' pm pw)
end
end L3
variable{zs:List L3.Fq}
namespace L2
open PySem
def Zd4(C Cn:Addr):Sp:=λvs H Q E=>∃(x xa:Addr)(S:List Pr)(ts:List Int),vs=[.ref x,.ref xa]/\Uj C H x S/\Fits S/\H xa=some (.lst (ts.map V.int))/\ts.length<=20000 /\
 (∀(T:List Pr)(l:Addr)(H':Hp),V3 S T ts ts.length->H l=none->Same H H'->H' l=some (.lst ((Yi T).map V.int))->Q (.ref l) H') /\
 (∀(i:Nat)(T:List Pr)(d:Addr)(H':Hp),i<ts.length->V3 S T ts i->Qo S ts i=true->H d=none->Same H H'->H' d=some (.ext (xdP d [("at",.int i)]))->E (.ref Cn) (some d) H')
def Zhc(C Cr:Addr):Sp:=λvs H Q E=>∃(x r:Addr)(S:List Pr)(ns:List Int),vs=[.ref x,.ref r]/\Uj C H x S/\Fits S/\H r=some (.lst (ns.map V.int))/\ns.length<=80000 /\
 (∀(R:List En)(pl:Nat)(l:Addr)(H':Hp),U1 S ns R pl->ns.length<=pl->H l=none->Same H H'->H' l=some (.lst (outs R))->Q (.ref l) H') /\
 (∀(R:List En)(pl:Nat)(d:Addr)(H':Hp),U1 S ns R pl->pl<ns.length->H d=none->Same H H'->H' d=some (.ext (xdP d [("at",.int pl)]))->E (.ref Cr) (some d) H')
end L2
namespace L3
open PySem L2
section
variable{C:Cf}
inductive dWriteW(Cn:Addr)(ds:List D)(M:Mem)(K:K3)(KX:X3):Prop
 |mk:∀(S:List Pr)(d:D)(ts:List Int),ds=[.code S,d]->(lsOf M d=some (ts.map .int)/\(Fits S/\ts.length<=20000)/\(∀U:List Pr,V3 S U ts ts.length->K (.cell M.length) (M++[.lst ((Yi U).map .int)]))/\∀(i:Nat)(U:List Pr),i<ts.length->V3 S U ts i->Qo S ts i=true->KX Cn [("at",.int i)] M)->dWriteW Cn ds M K KX
def Zmq{Cn:Addr}{E:XK}(h:Zan C (dWriteW Cn) vs H Q E):Zd4 C.c Cn vs H Q E:=by
 let⟨Z,I,α,M,ds,K,KX,R,r,⟨S,d,ts,rfl,e1,⟨h1,h3⟩,ha,hb⟩,kk,kx⟩:=h;refine Reps.e2 r λ_ _ r1 r2=>?_;let⟨x,rfl,ca⟩:=Zj5 R r1;let⟨xa,rfl,ex⟩:=Zis R r2 e1;exists x,xa,S,ts,rfl,ca,h1,ex,h3,λT l H' tx nl s el=>Zlz R nl s el kk (ha T tx),λi T d H' hi tx hl nd s ed=>Zjl R nd s ed kx (hb i T hi tx hl)
inductive dReadW(Cr:Addr)(ds:List D)(M:Mem)(K:K3)(KX:X3):Prop
 |mk:∀(S:List Pr)(d:D)(ns:List Int),ds=[.code S,d]->(lsOf M d=some (ns.map .int)/\(Fits S/\ns.length<=80000)/\(∀(R:List En)(pl:Nat),U1 S ns R pl->ns.length<=pl->K (.cell M.length) (M++[.lst ((osOf R).map oD)]))/\∀(R:List En)(pl:Nat),U1 S ns R pl->pl<ns.length->KX Cr [("at",.int pl)] M)->dReadW Cr ds M K KX
def Zq2{Cr:Addr}{E:XK}(h:Zan C (dReadW Cr) vs H Q E):Zhc C.c Cr vs H Q E:=by
 let⟨Z,I,α,M,ds,K,KX,R,r,⟨S,d,ts,rfl,e1,⟨h1,h3⟩,ha,hb⟩,kk,kx⟩:=h;refine Reps.e2 r λ_ _ r1 r2=>?_;let⟨x,rfl,ca⟩:=Zj5 R r1;let⟨xa,rfl,ex⟩:=Zis R r2 e1;exists x,xa,S,ts,rfl,ca,h1,ex,h3,λRr pl l H' en hl nl s el=>Ztk R nl s (by rw[el];unfold osOf outs;rw[Gk];rfl) kk (ha Rr pl en hl),λRr pl d H' en hl nd s ed=>Zjl R nd s ed kx (hb Rr pl en hl)
end
def GoOk(S1 S2:List Pr)(ts ns us:List Int):Prop:=∃U V:List Pr,(∀p∈U,p∈S1)/\Yz U=ts/\(∀p∈V,p∈S2)/\Yz V=us/\Yi U=ns/\Yi V=ns
def GoOk.symm{us:List Int}(h:GoOk S1 S2 ts ns us):GoOk S2 S1 us ns ts:=by
 let⟨U,V,a,b,c,d,e,f⟩:=h;exists V,U,c,d,a,b,f,e
def GoOk.perm{L1 L2:List Pr}{us:List Int}(h:GoOk S1 S2 ts ns us)(p1:S1.Perm L1)(p2:S2.Perm L2):GoOk L1 L2 ts ns us:=by
 let⟨U,V,a,b,c,d,e,f⟩:=h;exists U,V,λp hp=>p1.mem_iff.mp (a p hp),b,λp hp=>p2.mem_iff.mp (c p hp),d,e,f
theorem Nd(fr:Free S):∀{U V:List Pr},(∀p∈U,p∈S)->(∀p∈V,p∈S)->Yz U=Yz V->U=V
 |[],[],_,_,_=>rfl
 |[],_::_,_,_,h=>nomatch h
 |_::_,[],_,_,h=>nomatch h
 |p::U,q::V,hU,hV,h=>by
  unfold Yz at h;rw[Js,Js]at h;injection h with h1 h2
  let e:p=q:=by
   let hp:=hU p Jn;let hq:=hV q Jn;let⟨i,hi,rfl⟩:=Ju hp;let⟨j,hj,rfl⟩:=Ju hq;rcases Fp i j with l|l|l
   .exact absurd h1 (fr.get hi hj l).1
   .subst l;rfl
   .exact absurd h1.symm (fr.get hj hi l).1
  rw[e,Nd fr (λp hp=>hU p (Jk _ hp)) (λp hp=>hV p (Jk _ hp)) h2]
theorem Zhq(fr:Free S)(fi:Fits S):∀{U V:List Pr},(∀p∈U,p∈S)->(∀p∈V,p∈S)->Yi U=Yi V->U=V
 |[],[],_,_,_=>rfl
 |[],q::V,_,hV,h=>by
  let:=(fi.2 q (hV q Jn)).1;unfold Yi at h;rw[Js,Bg,Ml,Jha]at h;exact absurd (List.append_eq_nil_iff.mp h.symm).1 this
 |q::V,[],hV,_,h=>by
  let:=(fi.2 q (hV q Jn)).1;unfold Yi at h;rw[Js,Bg,Ml,Jha]at h;exact absurd (List.append_eq_nil_iff.mp h).1 this
 |p::U,q::V,hU,hV,h=>by
  unfold Yi at h;rw[Js,Js,Bg,Bg]at h;let hp:=hU p Jn;let hq:=hV q Jn;let e:p=q:=by
   let pre:p.2<+:q.2\/q.2<+:p.2:=by
    let h1:p.2<+:q.2++(V.map λq:Pr=>q.2).flatten:=⟨_,h⟩;exact K0 h1 (Jv _ _)
   let⟨i,hi,rfl⟩:=Ju hp;let⟨j,hj,rfl⟩:=Ju hq;rcases Fp i j with l|l|l
   .exact absurd pre (not_or.mpr (fr.get hi hj l).2)
   .subst l;rfl
   .exact absurd pre (not_or.mpr ⟨(fr.get hj hi l).2.2,(fr.get hj hi l).2.1⟩)
  subst e;rw[Zhq fr fi (λp hp=>hU p (Jk _ hp)) (λp hp=>hV p (Jk _ hp)) (List.append_cancel_left h)]
def GoOk.uniq{us ns' us':List Int}(f1:Free S1)(f2:Free S2)(i2:Fits S2)(h:GoOk S1 S2 ts ns us)(h':GoOk S1 S2 ts ns' us'):ns=ns'/\us=us':=by
 let⟨U,V,a,b,c,d,e,f⟩:=h;let⟨U',V',a',b',c',d',e',f'⟩:=h';obtain rfl:=Nd f1 a a' (b.trans b'.symm);let:ns=ns':=e.symm.trans e';subst this;obtain rfl:=Zhq f2 i2 c c' (f.trans f'.symm);exists rfl,d.symm.trans d'
theorem Nh(fi:Fits S):∀{U:List Pr},(∀p∈U,p∈S)->U.length<=(Yi U).length
 |[],_=>Gc _
 |p::U,h=>by
  let:=Nh fi (U:=U) λq hq=>h q (Jk _ hq);let:=Gm.mpr (fi.2 p (h p Jn)).1;show U.length+1<=(p.2++Yi U).length;rw[Jc];lia
theorem GoOk.len{us:List Int}(i1:Fits S1)(i2:Fits S2)(h:GoOk S1 S2 ts ns us):ns.length<=4*ts.length/\us.length<=ns.length/\ts.length<=ns.length:=by
 let⟨U,V,a,b,c,d,e,f⟩:=h;let h1:=T9 i1 a;let h2:=Nh i2 c;let h3:=Nh i1 a;let l1:U.length=ts.length:=by rw[<-b];unfold Yz;rw[Ja]
 let l2:V.length=us.length:=by rw[<-d];unfold Yz;rw[Ja]
 rw[e]at h1 h3;rw[f]at h2;lia
def Zjf{i:Nat}(hi:i<ts.length)(hl:Qo S1 ts i=true)(ns us:List Int):¬ GoOk S1 S2 ts ns us:=λh=>by
 let⟨U,V,a,b,c,d,e,f⟩:=h;rw[Qn hi]at hl;let hU:i<U.length:=by rw[<-b]at hi;unfold Yz at hi;rw[Ja]at hi;exact hi
 refine hl U[i] (a _ (Jl hU)) ?_;subst b;exact(Bd (λq:Pr=>q.1)).symm
def Zje(tx:V3 S1 U ts ts.length)(en:U1 S2 (Yi U) R pl)(hp:(Yi U).length<=pl):∃us,GoOk S1 S2 ts (Yi U) us/\(osOf R).map oD=us.map D.int:=by
 let⟨V,us,tv,er,eo,_⟩:=Zht en hp;exists us,⟨U,V,tx.1,?_,tv.1,?_,rfl,er⟩,eo
 .rw[tx.2,Jw]
 .rw[tv.2,Jw]
theorem Zjd(f1:Free S1)(f2:Free S2)(i2:Fits S2)(tx:V3 S1 U ts ts.length)(en:U1 S2 (Yi U) R pl)(hp:pl<(Yi U).length)(ns us:List Int):¬ GoOk S1 S2 ts ns us:=λh=>by
 let⟨U',V,a,b,c,d,e,f⟩:=h;let eU:U'=U:=Nd f1 a tx.1 (by rw[b,tx.2,Jw]);subst eU;let e3:Yi V=Yi U':=f.trans e.symm;let tv:V3 S2 V us us.length:=⟨c,by rw[d,Jw]⟩;let:=((Zlc i2 f2 tv).1 R pl (by rw[e3];exact en)).1;rw[e3]at this;lia
section
variable{C:Cf}{ue:TE3}
inductive max13(ds:List D)(M:Mem)(K:K3):Prop
 |mk:∀(d:D)(ns:List Int)(n:Int),ds=[d]->lsOf M d=some (ns.map .int)->mxOf none ns=some n->K (.int n) M->max13 ds M K
def Zqt(hK:X.K=K)(hc:X.calm=true):W6 X (.builtin "max") (λxs H Q=>∃(a:Addr)(ns:List Int)(n:Int),xs=[.ref a]/\SqL K H a (ns.map V.int)/\mxOf none ns=some n/\Q (.int n) H):=by subst hK;exact Zj8 hc
def Zsn:SimC C Z (λxs H Q=>∃(a:Addr)(ns:List Int)(n:Int),xs=[.ref a]/\SqL C.k H a (ns.map V.int)/\mxOf none ns=some n/\Q (.int n) H) max13:=λI α H M xs ds K Q R r h k=>by
 let⟨d,ns,n,rfl,e,en,h⟩:=h;refine Reps.e1 r λ_ r1=>?_;let⟨x,rfl,ex⟩:=Zis R r1 e;exists x,ns,n,rfl,SqL.of ex,en,k.now R (.int n) h
def kIt(k:Nat)(o:Obj)(vs:List (Key×V))(kvs:List (Key×D)):It3:=⟨kvs.length,λi x=>∃kv,kvs[i]?=some kv/\x=kD kv.1,λM=>M[k]?=some (.dfK o vs kvs)⟩
inductive uIDK_1(K:It3->Mem->Prop)(d:D)(M1:Mem):Prop
 |mk:∀k kvs,d=.cell k->M1[k]?=some (.dct kvs)->(∀o vs,K (kIt k o vs kvs) (M1.set k (.dfK o vs kvs)))->uIDK_1 K d M1
def uIDK(ue:TE3):TI3:=λρ M K=>ue ρ M (uIDK_1 K)
def Zvz(he:SimE C Z te ue):SimI C Z (Zt6 te) (uIDK ue):=λI α σ H ρ M K R' R RE h kk =>
 he I α σ H ρ M _ _ R RE h λv d I1 α1 H1 M1 s1 p1 R1 r1 h1=>by
  let⟨k,kvs,rfl,e,h1⟩:=h1;let⟨a,rfl,ea⟩:=r1.inv;let⟨vs,e1,r⟩:=(R1.cel k a _ ea e).1;exists a,vs,rfl,.inl ⟨e1,λo=>kk _ _ I1 α1 _ _ s1 p1 (R1.put (m:=.dfK o vs kvs) ea λH' e'=>⟨e',r⟩) (λI' α' H' M' s p R ok=>?_) (h1 o vs)⟩;let m:=(R.cel k a _ (Zcs p ea) ok).1;let⟨ln,kg⟩:=RepK.get m.2;exists λi hi=>⟨⟨m.1,by rw[ln];exact hi⟩,λx H2 y=>?_⟩,⟨m.1,by rw[ln];exact Jd _⟩;let⟨rfl,kv,e1,rfl⟩:=y;let⟨g1,_⟩:=kg i kv kvs[i] e1 (Jb hi);exists I',kD kvs[i].1,.refl _,R,?_,kvs[i],Jb hi,rfl;rw[g1];cases kvs[i].1 with
  |inl j=>exact .int j
  |inr z=>exact .str z
end
abbrev Nt:=Str×List Pr
variable{qs:List L3.Nt}
def Tld(zs:List Fq)(qs:List Nt):Prop:=zs.length=qs.length/\∀(i:Nat)(z:Fq)(q:Nt),zs[i]?=some z->qs[i]?=some q->z.1=q.1/\z.2.1.Perm q.2
def NtOk(qs:List Nt):Prop:=(qs.map (·.1)).Nodup/\qs.length<=8/\∀q∈qs,TbOk q.2/\Ec q.1=true
def Ut(M:Mem)(b:Nat)(qs:List Nt):Prop:=∃cs:List Nat,cs.length=qs.length/\M[b]?=some (.dct (Es (λ(q:Nt)(c:Nat)=>((.inr q.1:Key),D.cell c)) qs cs))/\∀(i c:Nat)(q:Nt),cs[i]?=some c->qs[i]?=some q->M[c]?=some (.dct (q.2.map prK))
def Ut.pre{N:Mem}{b:Nat}(h:Ut M b qs)(p:M<+:N):Ut N b qs:=by
 let⟨cs,l,e,g⟩:=h;exists cs,l,Zy p e,λi c q e1 e2=>Zy p (g i c q e1 e2)
theorem Zgh{zs:List Nt}(nd:(zs.map (·.1)).Nodup){i:Nat}{q:Nt}{c:Nat}(e1:zs[i]?=some q)(e2:cs[i]?=some c):valD (Es (λ(q:Nt)(c:Nat)=>((.inr q.1:Key),D.cell c)) zs cs) (.inr q.1)=some (.cell c):=by
 induction zs generalizing cs i with
 |nil=>cases e1
 |cons z zs ih =>
  cases cs with
  |nil=>cases e2
  |cons d cs =>
   rw[Js,Gy]at nd;unfold valD;rw[List.zipWith_cons_cons,G7];cases i with
   |zero =>
    cases e1;cases e2;simp
   |succ i =>
    let e1':zs[i]?=some q:=by simpa using e1
    let ne:z.1≠q.1:=λe=>nd.1 (Jo.mpr ⟨q,Gr e1',e.symm⟩);rw[show decide ((Mr z.1:Key)=Mr q.1)=false from Dg λw=>ne (Lq w)];exact ih nd.2 e1' (by simpa using e2)
theorem Ut.get{b:Nat}(h:Ut M b qs)(nd:(qs.map (·.1)).Nodup){q:Nt}(hq:q∈qs):∃c,dGet M (.cell b) (.str q.1) (some (.cell c))/\M[c]?=some (.dct (q.2.map prK)):=by
 let⟨cs,l,e,g⟩:=h;let⟨i,hi,rfl⟩:=Ju hq;let hc:i<cs.length:=by lia
 exists cs[i],.inl ⟨_,_,by simp only[U0,e],rfl,(Zgh nd (Jb hi) (Jb hc)).symm⟩,g i _ _ (Jb hc) (Jb hi)
def wyD(w:Str×Str):D:=.tup [.str w.1,.str w.2]
end L3
variable{qs:List L3.Nt}
namespace L2
open PySem PySem.Spec PyProof.Rows
def Zph{t:TA}(h:PAF X pq σ es t):PEF X pq σ (.List es pos) (tLst t):=by
 intro s H Q I hq;refine Jfa (thn (h pos s H _ I hq) λus s1⟨xs,H1,I1,r,z,q⟩=>⟨by rw[<-r.length];exact z,?_⟩);let hf:H1 s1.heap.objs.size=none:=I1.hok.fresh (Jd _);exists .ref s1.heap.objs.size,upd H1 s1.heap.objs.size (.lst xs),I1.laid (t':=s1.toks) (λb u e=>F9 _ e) (Jd _) ?_,rfl,q _ hf;exists z,us,0,r,Da _ rfl
end L2
namespace L3
open PySem L2
inductive dSame61(ds:List D)(M:Mem)(K:K3):Prop
 |mk:∀(d e:D)(ns:List Int),ds=[d,e]->(lsOf M d=some (ns.map .int)/\lsOf M e=some (ns.map .int)/\ns.length<=100000/\K (.bl true) M)->dSame61 ds M K
inductive dGone(ds:List D)(M:Mem)(K:K3):Prop
 |mk:∀(S1 S2:List Pr)(d:D)(ts:List Int),ds=[.code S1,.code S2,d]->(lsOf M d=some (ts.map .int)/\((Free S1/\Fits S1)/\(Free S2/\Fits S2)/\ts.length<=20000)/\(∀ns us,GoOk S1 S2 ts ns us->K (.lst [.cell M.length,.cell (M.length+1)]) (M++[.lst (ns.map .int)]++[.lst (us.map .int)]))/\((∀ns us,¬ GoOk S1 S2 ts ns us)->∀M',M<+:M'->K .non M'))->dGone ds M K
section
variable{C:Cf} 
def Zf6{k:Nat}{p c:Addr}{cs bs:List Int}{K:K3}(R:Rel C Z I α H M)(ha:α[k]?=some p)(hm:M[k]?=some .hand)(hh:HandAt H' p c)(ic:I c=some (.lst (cs.map V.int)))(hc:cs≠[]/\cs.length<=63/\∀c∈cs,0<=c)(g:Grow p H H')(nl:H l=none)(el:H' l=some (.lst (bs.map V.int)))(kk:Fin C Z I α K Q)(h:K (.cell M.length) (M++[.lst (bs.map .int)])):Q (.ref l) H':=by
 let R1:=R.grow ha hm hh ic hc g;let⟨R2,p2,e2⟩:=R1.cellAt (l:=l) (m:=.lst (bs.map .int)) (R.sub.free nl) (R.out nl) ⟨_,el,.ints bs⟩;exact kk _ _ I _ H' _ (.refl _) p2 R2 (.cell e2) h
inductive dTextC(ds:List D)(M:Mem)(K:K3):Prop
 |mk:∀(k:Nat)(ss:List Int)(m:Int),ds=[.cell k,.lst (ss.map .int),.int m]->(M[k]?=some .hand/\(0<=m/\m<=200)/\∀ts:List Int,(∀t∈ts,t∈ss)->(ts.length:Int)<=m->K (.cell M.length) (M++[.lst (ts.map .int)]))->dTextC ds M K
def Zqz{E:XK}(h:spOf C dTextC vs H Q E):Zm0 vs H Q E:=by
 let⟨Z,I,α,M,ds,K,R,r,⟨k,ss,m,rfl,hm,⟨h1,h2⟩,h⟩,kk⟩:=h;refine Reps.e3 r λ_ _ _ r1 r2 r3=>?_;cases r3.inv;let⟨p,rfl,ha⟩:=r1.inv;let⟨c,cs,hh,ic,hc⟩:=R.hand ha hm;let⟨sa,rfl,es,is⟩:=Zc7 R r2;exists p,c,sa,ss,m,rfl,hh,es,No R ha hm is,h1,h2,λl ts H' nl _ el hts hl hh' g=>Zf6 R ha hm hh' ic hc g nl el kk (h ts hts hl)
end
inductive dAddN(XF:Addr)(ds:List D)(M:Mem)(K:K3):Prop
 |mk:∀(f:Nat)(n:Str)(S:List Pr)(mk:List Int)(zs:List Fq),ds=[.cell f,.str n,.code S,.tup (mk.map .int)]->(FamAt XF M f zs/\zs.length<=1000/\n∉zs.map (·.1)/\K .non (Tx M f (zs++[(n,S,mk)])))->dAddN XF ds M K
inductive dCodeN(XF:Addr)(ds:List D)(M:Mem)(K:K3):Prop
 |mk:∀(f:Nat)(n:Str)(zs:List Fq),ds=[.cell f,.str n]->(FamAt XF M f zs/\n∈zs.map (·.1)/\∀z∈zs,z.1=n->K (.code z.2.1) M)->dCodeN XF ds M K
abbrev Wy:=Str×Str
abbrev Md:=List Wy×List Int
variable{ms:List L3.Md}
def Xl(nm:List Str):List Wy:=nm.flatMap λa=>(nm.filter λb=>decide (b≠a)).map λb=>(a,b)
def Yp(zs:List Fq)(n:Str):List Pr:=((zs.find? λz=>decide (z.1=n)).map (·.2.1)).getD []
def Si(nd:(zs.map (·.1)).Nodup){z:Fq}(h:z∈zs):Yp zs z.1=z.2.1:=by
 unfold Yp;let:zs.find? (λy=>decide (y.1=z.1))=some z:=by
  rw[List.find?_eq_some_iff_append];let⟨a,b,rfl⟩:=List.append_of_mem h;exists Df rfl,a,b,rfl,λy hy=>?_;rw[Jg,Js,Gu]at nd;let:=nd.2.2 y.1 (Je3 hy) z.1 Jn;simpa using this
 rw[this];rfl
open Classical in
noncomputable def bkO(S1 S2:List Pr)(ts:List Int):Option (List Int):=if h:∃us ns,GoOk S1 S2 ts ns us then some h.choose else none
def Zaa{us:List Int}(f1:Free S1)(f2:Free S2)(i2:Fits S2)(h:GoOk S1 S2 ts ns us):bkO S1 S2 ts=some us:=by
 unfold bkO;let hx:∃us ns,GoOk S1 S2 ts ns us:=⟨us,ns,h⟩;rw[dif_pos hx];let⟨ns',h'⟩:=hx.choose_spec;rw[(GoOk.uniq f1 f2 i2 h' h).2]
def Zkc(h:∀ns us,¬ GoOk S1 S2 ts ns us):bkO S1 S2 ts=none:=by
 unfold bkO;rw[dif_neg];rintro⟨us,ns,z⟩;exact h ns us z
def Zmo{us:List Int}(h:bkO S1 S2 ts=some us):∃ns,GoOk S1 S2 ts ns us:=by
 unfold bkO at h
 split at h
 .next hx=>cases h;exact hx.choose_spec
 .cases h
noncomputable def led1(zs:List Fq)(lg:Wy)(m:Md):Option Md:=(bkO (Yp zs lg.2) (Yp zs lg.1) m.2).map λu=>(lg::m.1,u)
noncomputable def ledL(zs:List Fq)(fs:List Md)(lgs:List Wy):List Md:=lgs.flatMap λlg=>fs.filterMap (led1 zs lg)
noncomputable def ledF(zs:List Fq)(fs:List Md):List Md:=ledL zs fs (Xl (zs.map (·.1)))
structure MdAt(N:Nat)(M:Mem)(ps:List (Nat×Nat))(ms:List Md):Prop where
 ln:ps.length=ms.length
 nd:(ps.flatMap λp=>[p.1,p.2]).Nodup
 ge:∀p∈ps,N<=p.1/\N<=p.2
 at1:∀(i:Nat)(p:Nat×Nat)(m:Md),ps[i]?=some p->ms[i]?=some m->M[p.1]?=some (.lst (m.1.map wyD))/\M[p.2]?=some (.lst (m.2.map .int))
def pcD(p:Nat×Nat):D:=.tup [.cell p.1,.cell p.2]
def MdIs(M:Mem)(e:D)(m:Md):Prop:=∃a b,e=.tup [a,b]/\lsOf M a=some (m.1.map wyD)/\lsOf M b=some (m.2.map .int)
inductive dUnlike(ds:List D)(M:Mem)(K:K3):Prop
 |mk:∀(d:D)(nm:List Str),ds=[d]->(lsOf M d=some (nm.map .str)/\nm.length<=100/\K (.cell M.length) (M++[.lst ((Xl nm).map wyD)]))->dUnlike ds M K
def FmOk(zs:List Fq):Prop:=zs.length<=8/\∀z∈zs,TbOk z.2.1
inductive dLed(XF:Addr)(ds:List D)(M:Mem)(K:K3):Prop
 |mk:∀(f:Nat)(d:D)(n:Nat)(zs:List Fq)(es:List D)(fs:List Md),ds=[.cell f,d,.int n]->(FamAt XF M f zs/\lsOf M d=some es/\(FmOk zs/\0<n/\n<=1000/\es.length=fs.length/\fs.length<=1000/\(∀(i:Nat)(e:D)(m:Md),es[i]?=some e->fs[i]?=some m->MdIs M e m)/\∀m∈fs,m.2.length<=20000/\m.1.length<=100)/\∀(M':Mem)(c:Nat)(ps:List (Nat×Nat)),M<+:M'->M.length<=c->M'[c]?=some (.lst (ps.map pcD))->(∀p∈ps,p.1≠c/\p.2≠c)->MdAt M.length M' ps ((ledF zs fs).take n)->K (.cell c) M')->dLed XF ds M K
def Zpy{fs:List Md}{lgs:List Wy}{i:Nat}(h:i<lgs.length):ledL zs fs lgs=ledL zs fs (lgs.take i)++fs.filterMap (led1 zs lgs[i])++ledL zs fs (lgs.drop (i+1)):=by
 unfold ledL
 conv=>lhs;rw[<-Gz i lgs,Bi h]
 rw[Bf,Bx,Gg]
def Zbb{fs:List Md}{lgs:List Wy}{i:Nat}(h:i<lgs.length):ledL zs fs (lgs.take (i+1))=ledL zs fs (lgs.take i)++fs.filterMap (led1 zs lgs[i]):=by
 unfold ledL;rw[Jf h,Bf,Bx,Lh,Gh]
def MdAt.nil(N:Nat)(M:Mem):MdAt N M [] []:=⟨rfl,Fg,λ_ h=>(nomatch h),λ_ _ _ e=>nomatch e⟩
def MdAt.keep{N t:Nat}{M M':Mem}{ps:List (Nat×Nat)}{ms:List Md}(h:MdAt N M ps ms)(p:M<+:M'):MdAt N M' ps ms :=
 ⟨h.ln,h.nd,h.ge,λi p' m e1 e2=>⟨Zy p (h.at1 i p' m e1 e2).1,Zy p (h.at1 i p' m e1 e2).2⟩⟩
theorem MdAt.put{N t:Nat}{x:MO}{ps:List (Nat×Nat)}(h:MdAt N M ps ms)(ht:t<N):MdAt N (M.set t x) ps ms :=
 ⟨h.ln,h.nd,h.ge,λi p' m e1 e2=>by
  let g:=h.ge p' (Gr e1);exact⟨Yf (h.at1 i p' m e1 e2).1 (),Yf (h.at1 i p' m e1 e2).2 ()⟩⟩
theorem MdAt.snoc{N a b:Nat}{ps:List (Nat×Nat)}{m:Md}(h:MdAt N M ps ms)(hn:∀p∈ps,p.1<a/\p.2<a/\p.1<b/\p.2<b)(ab:a≠b)(ga:N<=a)(gb:N<=b)(h1:M[a]?=some (.lst (m.1.map wyD)))(h2:M[b]?=some (.lst (m.2.map .int))):MdAt N M (ps++[(a,b)]) (ms++[m]):=by
 exists by rw[Jc,Jc,h.ln];rfl,?_,λp hp=>?_,λi p' m' e1 e2=>?_
 .rw[Bf,Gu];exists h.nd,?_,λx hx y hy=>?_
  .show [a,b].Nodup;rw[Gy];exists λz=>ab (Jj.mp z),Gy.mpr ⟨(λz=>nomatch z),Fg⟩
  .let⟨p,hp,hx⟩:=Bo.mp hx;let g:=hn p hp;let hy:y=a\/y=b:=by simpa using hy
   let hx:x=p.1\/x=p.2:=by simpa using hx
   rcases hx with e|e<;>rcases hy with e'|e'<;>lia
 .rcases Gb.mp hp with z|z
  .exact h.ge p z
  .rw[Jj.mp z];exists ga,gb
 .by_cases hi:i<ps.length
  .rw[Jq hi]at e1;rw[Jq (by rw[<-h.ln];exact hi)]at e2;exact h.at1 i p' m' e1 e2
  .rw[J9 ()]at e1;rw[J9 (by rw[<-h.ln];lia)]at e2;let z1:i-ps.length=0:=by
    let:=(Je.mp e1).1;simp at this;lia
   rw[z1]at e1;rw[<-h.ln,z1]at e2;cases e1;cases e2;exists h1,h2
def Zkt(n:Nat)(M:Mem)(lgs:List Wy)(acc:List Md)(M':Mem):Prop:=∃ps:List (Nat×Nat),M<+:M'/\M.length+3<=M'.length/\M'[M.length+2]?=some (.lst (lgs.map wyD))/\M'[M.length]?=some (.lst (ps.map pcD))/\(∀p∈ps,p.1<M'.length/\p.2<M'.length)/\MdAt (M.length+3) M' ps acc/\acc.length<n
def MdAt.weak{N N':Nat}{ps:List (Nat×Nat)}(h:MdAt N M ps ms)(hn:N'<=N):MdAt N' M ps ms:=⟨h.ln,h.nd,λp hp=>⟨J8 hn (h.ge p hp).1,J8 hn (h.ge p hp).2⟩,h.at1⟩
def Zet{lg:Wy}{m:Md}{u:List Int}(h:bkO (Yp zs lg.2) (Yp zs lg.1) m.2=some u):led1 zs lg m=some (lg::m.1,u):=by unfold led1;rw[h];rfl
def Zix{lg:Wy}{m:Md}(h:bkO (Yp zs lg.2) (Yp zs lg.1) m.2=none):led1 zs lg m=none:=by unfold led1;rw[h];rfl
def Zjj{α:Type}(g:α->Option β){fs:List α}(h:j<fs.length):(fs.take (j+1)).filterMap g=(fs.take j).filterMap g++(g fs[j]).toList:=by
 rw[Jf h,Jec,Hg,Mq];cases g fs[j]<;>rfl
def Zld{acc rest all:List τ}{n:Nat}(e:all=acc++rest)(h:acc.length=n):all.take n=acc:=by rw[e,<-h,B7]
noncomputable def lev(zs:List Fq)(ts:List Int):Nat->List Md
 |0=>[([],ts)]
 |k+1=>ledF zs (lev zs ts k)
noncomputable def Xf(zs:List Fq)(ts:List Int):Nat->List Md
 |0=>[]
 |k+1=>Xf zs ts k++lev zs ts (k+1)
theorem Ziw{fs:List Md}{m:Md}(h:m∈ledF zs fs):∃(lg:Wy)(x:Md)(u:List Int),lg∈Xl (zs.map (·.1))/\x∈fs/\bkO (Yp zs lg.2) (Yp zs lg.1) x.2=some u/\m=(lg::x.1,u):=by
 let⟨lg,hl,h⟩:=Bo.mp h;let⟨x,hx,h⟩:=Fh.mp h;unfold led1 at h;cases hb:bkO (Yp zs lg.2) (Yp zs lg.1) x.2 with
 |none=>rw[hb]at h;cases h
 |some u=>rw[hb]at h;exists lg,x,u,hl,hx,hb,(Dh h).symm
def Vk{lg:Wy}(h:lg∈Xl nm):lg.1∈nm/\lg.2∈nm:=by
 let⟨a,ha,h⟩:=Bo.mp h;let⟨b,hb,rfl⟩:=Jo.mp h;exists ha,(Fd.mp hb).1
def Vo(nd:(zs.map (·.1)).Nodup)(ok:FmOk zs){n:Str}(h:n∈zs.map (·.1)):TbOk (Yp zs n):=by
 let⟨z,hz,rfl⟩:=Jo.mp h;rw[Si nd hz];exact ok.2 z hz
theorem W4(nd:(zs.map (·.1)).Nodup)(ok:FmOk zs) :∀{k:Nat}{m:Md},m∈lev zs ts k->m.2.length<=4 ^ k*ts.length/\m.1.length=k
 |0,m,h=>by
  rw[Jj.mp h];exists by simp,rfl
 |k+1,m,h=>by
  let⟨lg,x,u,hl,hx,hb,rfl⟩:=Ziw h;let⟨i1,i2⟩:=W4 nd ok hx;let⟨ns,go⟩:=Zmo hb;let⟨g1,g2⟩:=Vk hl;let gl:=go.len (Vo nd ok g2).2 (Vo nd ok g1).2;refine⟨?_,by show x.1.length+1=_;lia⟩;show u.length<=_;rw[Jgt,Jjq (4 ^ k) 4,Jji];lia
theorem MdAt.app{N B:Nat}{ps qs:List (Nat×Nat)}{ks:List Md}(h:MdAt N M ps ms)(hb:∀p∈ps,p.1<B/\p.2<B)(g:MdAt B M qs ks)(hn:N<=B):MdAt N M (ps++qs) (ms++ks):=by
 exists by rw[Jc,Jc,h.ln,g.ln],?_,λp hp=>?_,λi p m e1 e2=>?_
 .rw[Bf,Gu];exists h.nd,g.nd,λx hx y hy=>?_;let⟨p,hp,hx⟩:=Bo.mp hx;let⟨q,hq,hy⟩:=Bo.mp hy;let:=hb p hp;let:=g.ge q hq;let hx:x=p.1\/x=p.2:=by simpa using hx
  let hy:y=q.1\/y=q.2:=by simpa using hy
  rcases hx with e|e<;>rcases hy with e'|e'<;>lia
 .rcases Gb.mp hp with z|z
  .exact h.ge p z
  .let:=g.ge p z;lia
 .by_cases hi:i<ps.length
  .rw[Jq hi]at e1;rw[Jq (by rw[<-h.ln];exact hi)]at e2;exact h.at1 i p m e1 e2
  .rw[J9 ()]at e1;rw[J9 (by rw[<-h.ln];lia),<-h.ln]at e2;exact g.at1 _ p m e1 e2
theorem MdAt.is{N:Nat}{ps:List (Nat×Nat)}(h:MdAt N M ps ms):∀(i:Nat)(e:D)(m:Md),(ps.map pcD)[i]?=some e->ms[i]?=some m->MdIs M e m:=λi e m e1 e2=>by
 rw[Jx]at e1;cases hp:ps[i]? with
 |none=>rw[hp]at e1;cases e1
 |some p =>
  rw[hp]at e1;cases e1;let⟨a1,a2⟩:=h.at1 i p m hp e2;exists _,·,Yd a1,Yd a2
theorem Zl1{a b:Nat}(h:a<=b):(Xf zs ts a).length<=(Xf zs ts b).length:=by
 induction b with
 |zero=>rw[Nat.le_zero.mp h];exact Jd _
 |succ b ih =>
  rcases Nat.lt_or_ge a (b+1)with z|z
  .exact J8 (ih ()) (by rw[Xf,Jc];lia)
  .rw[show a=b+1 by lia];exact Jd _
inductive dMendX(XF XT:Addr)(ds:List D)(M:Mem)(K:K3)(KX:X3):Prop
 |mk:∀(f:Nat)(d:D)(L most:Nat)(zs:List Fq)(ts:List Int),ds=[.cell f,d,.int L,.int most]->(FamAt XF M f zs/\lsOf M d=some (ts.map .int)/\(FmOk zs/\L<=3/\most<=900/\ts.length<=300)/\((Xf zs ts L).length<=most->∀(M':Mem)(c:Nat)(ps:List (Nat×Nat)),M<+:M'->M.length<=c->M'[c]?=some (.lst (ps.map pcD))->(∀p∈ps,p.1≠c/\p.2≠c)->MdAt M.length M' ps (Xf zs ts L)->K (.cell c) M')/\(most<(Xf zs ts L).length->∀M',M<+:M'->KX XT [("most",.int most)] M'))->dMendX XF XT ds M K KX
noncomputable def fwO(zs:List Fq)(lg:Wy)(t:List Int):Option (List Int):=bkO (Yp zs lg.1) (Yp zs lg.2) t
noncomputable def bwO(zs:List Fq)(lg:Wy)(t:List Int):Option (List Int):=bkO (Yp zs lg.2) (Yp zs lg.1) t
def Zwi(nd:(zs.map (·.1)).Nodup)(ok:FmOk zs){lg:Wy}(h:lg∈Xl (zs.map (·.1))){t u:List Int}:fwO zs lg t=some u↔bwO zs lg u=some t:=by
 let⟨g1,g2⟩:=Vk h;let k1:=Vo nd ok g1;let k2:=Vo nd ok g2
 constructor
 .intro e;let⟨ns,go⟩:=Zmo e;exact Zaa k2.1 k1.1 k1.2 go.symm
 .intro e;let⟨ns,go⟩:=Zmo e;exact Zaa k1.1 k2.1 k2.2 go.symm
theorem Ry{lg:Wy}{m y:Md}(h:led1 zs lg m=some y):y.1=lg::m.1:=by
 unfold led1 at h;cases hb:bkO (Yp zs lg.2) (Yp zs lg.1) m.2 with
 |none=>rw[hb]at h;cases h
 |some u=>rw[hb]at h;cases h;rfl
theorem Zez{α:Type}{l:List α}{f:α->List β}{b:Nat}(h:∀x∈l,(f x).length<=b):(l.flatMap f).length<=l.length*b:=by
 induction l with
 |nil=>simp
 |cons a r ih =>
  let:=ih λx hx=>h x (Jk _ hx);let:=h a Jn;rw[Bx,Jc,Jz,Jgp];lia
def mdD(m:Md):D:=.tup [.lst (m.1.map wyD),.lst (m.2.map .int)]
def pyW(w:Wy):PyData:=.tuple [.str w.1,.str w.2]
def pyMd(m:Md):PyData:=.tuple [.list (m.1.map pyW),.list (m.2.map .int)]
def Zs4(a b:Wy):Co (pyW a) (pyW b)=decide (a=b):=by
 let⟨a1,a2⟩:=a;let⟨b1,b2⟩:=b;unfold pyW;rw[Co,Cs,Cs,Cs,Co,Co];simp[K6]
def Zo8(a b:Md):Co (pyMd a) (pyMd b)=decide (a=b):=by
 let⟨a1,a2⟩:=a;let⟨b1,b2⟩:=b;unfold pyMd;rw[Co,Cs,Cs,Cs,Co,Co,Q4 Zs4,Q4 (f:=C7) Y1.eq];simp
theorem Zne(M:Mem):∀ws:List Wy,PyRs M (ws.map wyD) (ws.map pyW)
 |[]=>.nil
 |w::r=>.cons (.tup (.cons (.str _) (.cons (.str _) .nil))) (Zne M r)
def Zng{e:D}{m:Md}(h:MdIs M e m):PyR M e (pyMd m):=by
 let⟨a,b,rfl,h1,h2⟩:=h;exact .tup (.cons (.seq (Z7 h1).2.1 (Zne M _)) (.cons (.seq (Z7 h2).2.1 (Sa (Y1.ok M) _)) .nil))
def Zm5{m:Md}(h:∀w∈m.1,Ec w.1=true/\Ec w.2=true):Shp 3 (pyMd m):=by
 refine W9 λd hd=>?_;rcases Jp.mp hd with rfl|hd
 .refine Rn λd hd=>?_;let⟨w,hw,rfl⟩:=Jo.mp hd;refine W9 λd hd=>?_;rcases Jp.mp hd with rfl|hd
  .exact Zsg (h w hw).1
  .rw[Jj.mp hd];exact Zsg (h w hw).2
 .rw[Jj.mp hd];refine Zaq (Rn (n:=0) λd hd=>?_) nofun;let⟨i,_,rfl⟩:=Jo.mp hd;exact Qd i
def Zwe(M:Mem)(m:Md):MdIs M (mdD m) m:=⟨_,_,rfl,rfl,rfl⟩
end L3
variable{ms:List L3.Md}
namespace L2
open PySem PySem.W
def AllL :Nat->(List τ->Prop)->Prop
 |0,Q=>Q []
 |n+1,Q=>∀a,AllL n λl=>Q (a::l)
theorem allL :∀{n:Nat}{Q:List τ->Prop},AllL n Q->∀{us:List τ},us.length=n->Q us
 |0,_,h,[],_=>h
 |n+1,_,h,a::l,e=>allL (h a) (Nat.succ.inj e)
def us2{Q:List τ->Prop}(h:∀a b,Q [a,b])(us:List τ)(hl:us.length=2):Q us:=match us,hl with |[a,b],_=>h a b
structure FnG(K:Frag)(x:Str)(st:Stmt)(f:Addr)(fd:Mi):Prop where
 g:nsIn K mainGlobals x=some (some (.ref f))
 F:Fun K x x st f fd
structure MtG(K:Frag)(C:Addr)(m q:Str)(st:Stmt)(f:Addr)(fd:Mi):Prop where
 a:C1 K (.ref C) m=some (some (.ref f))
 n:isFn K (.ref f)=true
 F:Fun K m q st f fd
def Znm(K:Frag)(xs:List Str):Bool:=xs.all λx=>match nsIn K mainGlobals x with|some none=>true|_=>false
theorem X5{K:Frag}{xs:List Str}(X:K.In h)(G:h.Ns mainGlobals mg)(z:Znm K xs=true)(i:Nat){x:Str}(e:xs[i]?=some x):mg x=none:=by
 let:=Fy.mp z x (Gr e);cases q:nsIn K mainGlobals x with
 |none=>rw[q]at this;cases this
 |some o =>
  cases o with
  |none=>exact mg_none_of X G q
  |some v=>rw[q]at this;cases this
structure MkG(K:Frag)(C:Addr):Prop where
 m:makesIn K C=true
 k:keepIn K (.ref C)=true
structure CaG(K:Frag)(C:Addr):Prop where
 t:Jiz K (.ref C)=some (.type "type")
 b:Ey K C (.type "BaseException")=some true
structure Tk(P:Ew)(w:C0)(K:Frag)(mg:Str->Option Value)(base:Heap):Prop where
 m:∀{x:Str}{v:Value},nsIn K mainGlobals x=some (some v)->mg x=some v
section
variable{w:C0}{K:Frag}{base:Heap}{x m q:Str}{f:Addr}{k:Nat} 
abbrev Bnd(x q:Str)(st:Stmt)(ps:List Str):Prop:=∀(kV doc pm:Value)(an:Option Addr)(cdv ct:Value)(us:List Value),us.length=ps.length->Jfb (fnOf x q (Wn st) (Xg st) (Zp st) .none kV doc pm an cdv ct) ⟨us,[]⟩=pure (ps.zip us)
def bn(h:∀(kV doc pm:Value)(an:Option Addr)(cdv ct:Value),AllL ps.length λus=>Jfb (fnOf x q (Wn st) (Xg st) (Zp st) .none kV doc pm an cdv ct) ⟨us,[]⟩=pure (ps.zip us)):Bnd x q st ps:=λkV doc pm an cdv ct _ e=>allL (h kV doc pm an cdv ct) e
def Xq(Y:Tk P w K mg base)(g:FnG K x st f fd)(ok:FnOk P w K mg base CX0 k f fd ps sp)(b:Bnd x x st ps:=by apply bn;(repeat intro _);exact rfl) :
  Cal P w K mg base x k ps sp:=Zui g.F ok (Y.m g.g) (g.F.binds b)
def Zj9(Y:Tk P w K mg base)(g:FnG K x st f fd)(ok:FnOk P w K mg base (CXE P w) k f fd ps sp)(b:Bnd x x st ps:=by apply bn;(repeat intro _);exact rfl) :
  CalE P w K mg base x k ps sp:=Zqq g.F ok (Y.m g.g) (g.F.binds b)
def Zio(Y:Tk P w K mg base)(cl:Cls K C)(g:MtG K C m q st f fd)(ok:FnOk P w K mg base CX0 k f fd ps sp)(b:Bnd m q st ps:=by apply bn;(repeat intro _);exact rfl) :
  Met P w K mg base C m k ps sp:=⟨f,fd,cl,⟨g.a,g.n,g.F.kp⟩,ok,g.F.binds b⟩
def Zwd(Y:Tk P w K mg base)(mk:MkG K C)(g:MtG K C "__init__" q st f fd)(ok:FnOk P w K mg base CX0 k f fd ps sp)(hm:nsIn K mainGlobals x=some (some (.ref C)))(b:Bnd "__init__" q st ps:=by apply bn;(repeat intro _);exact rfl) :
  Mkr P w K mg base x C k ps sp:=⟨f,fd,⟨mk.m,g.a,g.n,mk.k⟩,ok,Y.m hm,g.F.binds b⟩
def rx_g(Y:Tk P w K mg base)(xc:XCl K C f)(xi:Qu K C=some (some (.ref f)))(g:MtG K C "__init__" q st f fd)(ok:FnOk P w K mg base CX0 k f fd ps sp)(hm:nsIn K mainGlobals x=some (some (.ref C)))(b:Bnd "__init__" q st ps:=by apply bn;(repeat intro _);exact rfl) :
  Rx P w K mg base x C k ps sp:=⟨f,fd,xc,xi,ok,Y.m hm,g.F.binds b⟩
end
end L2
namespace L3
open PySem L2
section
variable{C:Cf}{t:TA}{u:TA3} 
def Zrb(h:X.K=K')(hu:X.A.units+200<cLine):OpR X (Ee .Lt) (L2.rLtD K'):=by subst h;exact Zth hu
inductive ltD3(d:D)(e:D)(M:Mem)(K:K3):Prop
 |mk:∀(p q:PyData)(b:Bool),PyR M d p->PyR M e q->LtP p q b->Ej p=true->Ej q=true->K (.bl b) M->ltD3 d e M K
def Zvy:SimR C Z (L2.rLtD C.k) ltD3:=λI α H M x y d e K Q R r1 r2 h k=>by
 let⟨p,q,b,h1,h2,l,s1,s2,h⟩:=h;exists p,q,b,Zcp R h1 r1,Zcp R h2 r2,l,s1,s2,k.now R (.bl _) h
def Zfc(h:X.K=K'):MtR X "list.index" (Zco K'):=by subst h;exact Zim
inductive uIndexL_2(K:K3)(d:D)(es:List D)(M2:Mem):Prop
 |mk:∀(zs:List Str)(z:Str)(j:Nat),es=[.str z]->Wb M2 d=some (zs.map .str)->zs[j]?=some z->(∀m,m<j->zs[m]?≠some z)->zs.length<=1000->K (.int j) M2->uIndexL_2 K d es M2
abbrev Zgq(u:TA3)(ρ:Ev)(K:K3):D->Mem->Prop:=λd M1=>lsOf M1 d≠none/\u ρ M1 (uIndexL_2 K d)
def Zob(uo:TE3)(u:TA3):TE3:=λρ M K=>uo ρ M (Zgq u ρ K)
def Zd9(ho:SimE C Z to uo)(ha:SimA C Z t u):SimE C Z (tBM C.k "list" (Zco C.k) to t) (Zob uo u):=λI α σ H ρ M K Q R E h k =>
 ho I α σ H ρ M _ _ R E h λv d I1 α1 H1 M1 s1 p1 R1 r1 h1=>by
  let⟨hn,h1⟩:=h1;cases hl:lsOf M1 d with
  |none=>exact absurd hl hn
  |some ys =>
   let⟨a,vs,rfl,ea,ra⟩:=Rj R1 r1 hl;exists Zcd ea,ha I1 α1 σ H1 ρ M1 _ _ R1 (E.mono s1 p1) h1 λws ds I2 α2 H2 M2 s2 p2 R2 r2 h2=>?_;let⟨zs,z,j,rfl,el,ej,em,hz,h2⟩:=h2;refine Reps.e1 r2 λ_ ry=>?_;cases ry.inv;let⟨b,us,eb,eu,ru⟩:=Wm R2 (r1.mono s2 p2) el;cases eb;rw[ru.of_strs zs]at eu;exists a,zs,z,j,rfl,rfl,eu,ej,em,hz,k _ _ I2 α2 H2 M2 (s1.trans s2) (p1.trans p2) R2 (.int _) h2
end
section
variable{C:Cf}{tc:TE}{uc:TE3}{u u':R3}
inductive uChain_3(u':R3)(uc:TE3)(ρ:Ev)(K:K3)(e:D)(z:D)(M3:Mem):Prop
 |mk:∀k,z=.bl k->(if k=true then uc ρ M3 λg M4=>u' e g M4 K else K (.bl false) M3)->uChain_3 u' uc ρ K e z M3
abbrev Zk8(u:R3)(u':R3)(uc:TE3)(ρ:Ev)(K:K3)(d:D):D->Mem->Prop:=λe M2=>u d e M2 (uChain_3 u' uc ρ K e)
abbrev Zk9(u:R3)(u':R3)(ub:TE3)(uc:TE3)(ρ:Ev)(K:K3):D->Mem->Prop:=λd M1=>ub ρ M1 (Zk8 u u' uc ρ K d)
def Zrs(u u':R3)(ua ub uc:TE3):TE3:=λρ M K=>ua ρ M (Zk9 u u' ub uc ρ K)
def Zo1(hu:SimR C Z r u)(hu':SimR C Z r' u')(ha:SimE C Z ta ua)(hb:SimE C Z tb ub)(hc:SimE C Z tc uc):SimE C Z (Zmz r r' ta tb tc) (Zrs u u' ua ub uc):=λI α σ H ρ M K Q R E h k =>
 ha I α σ H ρ M _ _ R E h λv d I1 α1 H1 M1 s1 p1 R1 r1 h1 =>
  hb I1 α1 σ H1 ρ M1 _ _ R1 (E.mono s1 p1) h1 λw e I2 α2 H2 M2 s2 p2 R2 r2 h2 =>
   hu I2 α2 H2 M2 v w d e _ _ R2 (r1.mono s2 p2) r2 h2 λz c I3 α3 H3 M3 s3 p3 R3 r3 h3=>by
    let⟨b,rfl,h3⟩:=h3;cases r3.inv;exists b,rfl,?_;cases b with
    |true =>
     exact hc I3 α3 σ H3 ρ M3 _ _ R3 (E.mono (s1.trans (s2.trans s3)) (p1.trans (p2.trans p3))) h3 λx g I4 α4 H4 M4 s4 p4 R4 r4 h4 =>
      hu' I4 α4 H4 M4 w x e g K Q R4 (r2.mono (s3.trans s4) (p3.trans p4)) r4 h4 (k.mono (s1.trans (s2.trans (s3.trans s4))) (p1.trans (p2.trans (p3.trans p4))))
    |false =>
     exact k _ _ I3 α3 H3 M3 (s1.trans (s2.trans s3)) (p1.trans (p2.trans p3)) R3 (.bl _) h3
end
abbrev Rk:=List (Int×Int)
def Zdg:Enc Rk:=P4 (Pn Y1 Y1)
def rkD(r:Rk):D:=.tup [.int r.length,Zdg.e r]
def rkP(r:Rk):PyData:=.tuple [.int r.length,Zdg.py r]
def pLt(p q:Int×Int):Bool:=if p.1=q.1 then decide (p.2<q.2)else decide (p.1<q.1)
def lLt:Rk->Rk->Bool
 |[],[]=>false
 |[],_::_=>true
 |_::_,[]=>false
 |p::r,q::s=>if p=q then lLt r s else pLt p q
def rkLt(r s:Rk):Bool:=if r.length=s.length then lLt r s else decide (r.length<s.length)
theorem Ztn:∀r s:Rk,LxP (r.map (Pn Y1 Y1).py) (s.map (Pn Y1 Y1).py) (lLt r s)
 |[],[]=>.nn
 |[],_::_=>.nc _ _
 |_::_,[]=>.cn _ _
 |p::r,q::s=>by
  let h1:LtP ((Pn Y1 Y1).py p) ((Pn Y1 Y1).py q) (if Co (.int p.1) (.int q.1)then(if Co (.int p.2) (.int q.2)then false else decide (p.2<q.2))else decide (p.1<q.1)):=.tup (.cc (.int _ _) (.cc (.int _ _) .nn));let:=LxP.cc h1 (Ztn r s);rw[(Pn Y1 Y1).eq]at this;rw[lLt];let e:(if decide (p=q)=true then lLt r s else if(C7 p.1).eqv (C7 q.1)=true then(if(C7 p.2).eqv (C7 q.2)=true then false else decide (p.2<q.2))else decide (p.1<q.1))=if p=q then lLt r s else pLt p q:=by
   by_cases h:p=q
   .rw[Df h,De rfl,De h]
   .rw[Dg h,Dd Jr,Dd h];unfold pLt;rw[show(C7 p.1).eqv (C7 q.1)=decide (p.1=q.1)from Y1.eq _ _,show(C7 p.2).eqv (C7 q.2)=decide (p.2=q.2)from Y1.eq _ _]
    by_cases h1:p.1=q.1
    .rw[Df h1,De rfl,De h1,Dg (λh2=>h (Prod.ext h1 h2)),Dd Jr]
    .rw[Dg h1,Dd Jr,Dd h1]
  rwa [e]at this
theorem Ziz:∀r:Rk,lLt r r=false
 |[]=>rfl
 |p::r=>by rw[lLt,De rfl];exact Ziz r
theorem Zv3(r s:Rk):LtP (rkP r) (rkP s) (rkLt r s):=by
 let h:LtP (rkP r) (rkP s) (if Co (.int r.length) (.int s.length)then(if Co (Zdg.py r) (Zdg.py s)then false else lLt r s)else decide ((r.length:Int)<s.length)):=.tup (.cc (.int _ _) (.cc (.lst (Ztn r s)) .nn));rw[Zdg.eq,show(C7 r.length).eqv (C7 s.length)=decide ((r.length:Int)=s.length)from Y1.eq _ _]at h;let e:(if decide ((r.length:Int)=s.length)=true then(if decide (r=s)=true then false else lLt r s)else decide ((r.length:Int)<s.length))=rkLt r s:=by
  unfold rkLt
  by_cases h1:r.length=s.length
  .rw[Df (),De rfl,De h1]
   by_cases h2:r=s
   .rw[Df h2,De rfl,h2,Ziz]
   .rw[Dg h2,Dd Jr]
  .rw[Dg (),Dd Jr,Dd h1];exact decide_eq_decide.mpr ()
 rwa [e]at h
def Zm4(r:Rk):Ej (rkP r)=true:=by
 refine Shp.shaped (n:=4) (W9 λd hd=>?_) nofun;rcases Jp.mp hd with z|z
 .rw[z];exact Zaq (Qd _) nofun
 .rw[Jj.mp z];exact Zaq (Zdg.shp r) nofun
def Znf(M:Mem)(r:Rk):PyR M (rkD r) (rkP r):=.tup (.cons (.int _) (.cons (Zdg.ok M r) .nil))
def ixS(nm:List Str)(n:Str):Nat:=nm.findIdx λx=>decide (x=n)
theorem Zp3(nd:nm.Nodup){i:Nat}(h:i<nm.length):ixS nm nm[i]=i:=by
 unfold ixS;refine(List.findIdx_eq h).mpr ⟨Df rfl,λj hj=>Dg λe=>?_⟩;let:=(G3 (i:=j) (j:=i) (h₀:=by lia) (h₁:=h) nd).mp e;lia
theorem Ztx(nd:nm.Nodup){n:Str}(h:n∈nm):nm[ixS nm n]?=some n/\∀m,m<ixS nm n->nm[m]?≠some n:=by
 let⟨i,hi,rfl⟩:=Ju h;rw[Zp3 nd hi];exists Jb hi,λm hm e=>?_;rw[Jb ()]at e;let:=(G3 (i:=m) (j:=i) (h₀:=by lia) (h₁:=hi) nd).mp (Dh e);lia
def lgR(nm:List Str)(w:Wy):Int×Int:=((ixS nm w.1:Int),(ixS nm w.2:Int))
def wyR(nm:List Str)(way:List Wy):Rk:=way.map (lgR nm)
def Zih(nd:nm.Nodup):nm.Pairwise λa b=>ixS nm a<ixS nm b :=
 G6.mpr λi j hi hj h=>by rw[Zp3 nd hi,Zp3 nd hj];exact h
theorem Ziv(nd:nm.Nodup):(Xl nm).Pairwise λa b=>lgR nm a≠lgR nm b/\pLt (lgR nm a) (lgR nm b)=true:=by
 unfold Xl;rw[Jed];exists λa ha=>?_,?_
 .rw[Gj];refine((Zih nd).sublist List.filter_sublist).imp λ{b c}h=>⟨λe=>?_,?_⟩
  .let:=congrArg Prod.snd e;let:((ixS nm b:Nat):Int)=ixS nm c:=this;lia
  .unfold pLt;rw[De (show(lgR nm (a,b)).1=(lgR nm (a,c)).1 from rfl)];exact Df (by show((ixS nm b:Nat):Int)<ixS nm c;lia)
 .refine(Zih nd).imp λ{a b}h x hx y hy=>?_;let⟨c,_,rfl⟩:=Jo.mp hx;let⟨d,_,rfl⟩:=Jo.mp hy;let ne:((ixS nm a:Nat):Int)≠ixS nm b:=by lia
  exists λe=>ne (congrArg Prod.fst e),?_;unfold pLt;rw[Dd (show(lgR nm (a,c)).1≠(lgR nm (b,d)).1 from ne)];exact Df (by show((ixS nm a:Nat):Int)<ixS nm b;lia)
theorem Zes(nd:(zs.map (·.1)).Nodup) :∀k,(lev zs ts k).Pairwise λm n=>lLt (wyR (zs.map (·.1)) m.1) (wyR (zs.map (·.1)) n.1)=true
 |0=>Jc7 _ _
 |k+1=>by
  rw[lev,ledF,ledL,Jed];exists λlg hl=>?_,?_
  .rw[List.pairwise_filterMap];refine(Zes nd k).imp λ{a b}h x hx y hy=>?_;let ex:=Ry (Option.mem_def.mp hx);let ey:=Ry (Option.mem_def.mp hy);rw[ex,ey];show lLt (lgR _ lg::wyR _ a.1) (lgR _ lg::wyR _ b.1)=true;rw[lLt,De rfl];exact h
  .refine(Ziv nd).imp λ{a b}h x hx y hy=>?_;let⟨m,_,e1⟩:=Fh.mp hx;let⟨n,_,e2⟩:=Fh.mp hy;rw[Ry e1,Ry e2];show lLt (lgR _ a::wyR _ m.1) (lgR _ b::wyR _ n.1)=true;rw[lLt,Dd h.1];exact h.2
theorem Qk(nd:(zs.map (·.1)).Nodup)(ok:FmOk zs) :∀{k:Nat}{m:Md},m∈Xf zs ts k->∃j,1<=j/\j<=k/\m∈lev zs ts j
 |0,m,h=>by cases h
 |k+1,m,h=>by
  rcases Gb.mp h with z|z
  .let⟨j,a,b,c⟩:=Qk nd ok z;exists j,a,(),c
  .exists k+1,(),Jd _,z
theorem Py(nd:(zs.map (·.1)).Nodup)(ok:FmOk zs) :∀k,(Xf zs ts k).Pairwise λm n=>rkLt (wyR (zs.map (·.1)) m.1) (wyR (zs.map (·.1)) n.1)=true
 |0=>.nil
 |k+1=>by
  rw[Xf,Fu];exists Py nd ok k,?_,λa ha b hb=>?_
  .refine(Zes nd (k+1)).imp_of_mem λ{a b}ha hb h=>?_;unfold rkLt;rw[if_pos (by unfold wyR;rw[Ja,Ja,(W4 nd ok ha).2,(W4 nd ok hb).2])];exact h
  .let⟨j,h1,h2,h3⟩:=Qk nd ok ha;let la:=(W4 nd ok h3).2;let lb:=(W4 nd ok hb).2;unfold rkLt wyR;rw[Ja,Ja,Dd ()];exact Df ()
noncomputable def fwW(zs:List Fq):List Wy->List Int->Option (List Int)
 |[],t=>some t
 |lg::r,t=>(fwO zs lg t).bind (fwW zs r)
theorem N5{lg:Wy}:∀{w:List Wy}{t:List Int},fwW zs (w++[lg]) t=(fwW zs w t).bind (fwO zs lg)
 |[],t=>by show(fwO zs lg t).bind some=(some t).bind (fwO zs lg);rw[Option.bind_some];cases fwO zs lg t<;>rfl
 |a::r,t=>by
  show(fwO zs a t).bind (fwW zs (r++[lg]))=((fwO zs a t).bind (fwW zs r)).bind (fwO zs lg);cases fwO zs a t with
  |none=>rfl
  |some u=>exact N5
theorem Zew :∀{w r:List Wy}{t:List Int},fwW zs w t=none->fwW zs (w++r) t=none
 |[],_,_,h=>by cases h
 |a::w,r,t,h=>by
  show(fwO zs a t).bind (fwW zs (w++r))=none;let h:(fwO zs a t).bind (fwW zs w)=none:=h;cases e:fwO zs a t with
  |none=>rfl
  |some u=>rw[e]at h;exact Zew (w:=w) h
theorem Zba(nd:(zs.map (·.1)).Nodup)(ok:FmOk zs) :∀{k:Nat}{m:Md},m∈lev zs ts k->fwW zs m.1 m.2=some ts/\(∀w∈m.1,w∈Xl (zs.map (·.1)))/\∀j a,fwW zs (m.1.take j) m.2=some a->a.length<=4 ^ k*ts.length
 |0,m,h=>by
  rw[Jj.mp (show m∈[([],ts)]from h)];exists rfl,(λ_ z=>nomatch z),λj a e=>?_;let e:fwW zs (([]:List Wy).take j) ts=some a:=e;rw[Jfr]at e;cases e;lia
 |k+1,m,h=>by
  let⟨lg,x,u,hl,hx,e,rfl⟩:=Ziw h;let⟨a1,a2,a3⟩:=Zba nd ok hx;let f:fwO zs lg u=some x.2:=(Zwi nd ok hl).mpr e;let lm:=(W4 nd ok h).1;exists ?_,λw hw=>?_,λj a e2=>?_
  .show(fwO zs lg u).bind (fwW zs x.1)=some ts;rw[f];exact a1
  .rcases Jp.mp hw with z|z
   .rw[z];exact hl
   .exact a2 w z
  .cases j with
   |zero=>rw[G9]at e2;cases e2;exact lm
   |succ j =>
    let e2:(fwO zs lg u).bind (fwW zs (x.1.take j))=some a:=e2;rw[f]at e2;let:=a3 j a e2;rw[Jgt];let h4:4 ^ k*ts.length<=4 ^ k*4*ts.length:=Jeq _ (Nat.le_mul_of_pos_right _ nofun);lia
def InB(zs:List Fq)(qs:List Nt):Prop:=∀z∈zs,∃L,(z.1,L)∈qs/\z.2.1.Perm L
def Rz(nd:(zs.map (·.1)).Nodup)(h:InB zs qs){n:Str}(hn:n∈zs.map (·.1)):∃L,(n,L)∈qs/\(Yp zs n).Perm L:=by
 let⟨z,hz,rfl⟩:=Jo.mp hn;let⟨L,a,b⟩:=h z hz;exact⟨L,a,by rw[Si nd hz];exact b⟩
def Znq(nd:(zs.map (·.1)).Nodup)(ok:FmOk zs){n m:Str}(h1:n∈zs.map (·.1))(h2:m∈zs.map (·.1)){L1 L2:List Pr}(p1:(Yp zs n).Perm L1)(p2:(Yp zs m).Perm L2){t u:List Int}(go:GoOk L1 L2 t ns u):bkO (Yp zs n) (Yp zs m) t=some u :=
 Zaa (Vo nd ok h1).1 (Vo nd ok h2).1 (Vo nd ok h2).2 (go.perm p1.symm p2.symm)
def Ztp{n m:Str}{L1 L2:List Pr}(p1:(Yp zs n).Perm L1)(p2:(Yp zs m).Perm L2){t:List Int}(no:∀ns u,¬ GoOk L1 L2 t ns u):bkO (Yp zs n) (Yp zs m) t=none :=
 Zkc λns us go=>no ns us (go.perm p1 p2)
inductive dForth65(ds:List D)(M:Mem)(K:K3):Prop
 |mk:∀(b:Nat)(d e:D)(qs:List Nt)(zs:List Fq)(way:List Wy)(ts:List Int),ds=[.cell b,d,e]->(Ut M b qs/\lsOf M d=some (way.map wyD)/\lsOf M e=some (ts.map .int)/\(NtOk qs/\(zs.map (·.1)).Nodup/\FmOk zs/\InB zs qs/\(∀w∈way,w.1∈zs.map (·.1)/\w.2∈zs.map (·.1))/\way.length<=100/\∀j a,fwW zs (way.take j) ts=some a->a.length<=20000)/\∀(M':Mem)(r:D),M<+:M'->(fwW zs way ts=none->r=.non)->(∀x,fwW zs way ts=some x->lsOf M' r=some (x.map .int))->K r M')->dForth65 ds M K
end L3
namespace K65
open PySem L2
def top(i:Nat):Stmt:=PySem.Challenge.pw_skewread_k65_whole_mendings_in_order.main.body.getD i (.Pass ⟨0,0,0,0⟩)
abbrev Jdf:Stmt:=top 31
def Jbb:FnScope ["_law_hand","_law_many","_law_got","_law_cell","_law_number"] ["_law_hand","_law_many"] (Zp Jdf):=(by rfl')
abbrev Jao:Stmt:=top 30
def Jdj:FnScope ["_law_script","_law_place","_law_cells","_law_at","_law_digits"] ["_law_script","_law_place"] (Zp Jao):=(by rfl')
abbrev Jbe:Stmt:=top 32
def Jbt:FnScope ["_law_hand","_law_most","_law_begin","_law_step"] ["_law_hand","_law_most"] (Zp Jbe):=(by rfl')
abbrev Jbq:Stmt:=top 33
def Jbj:FnScope ["_law_hand","_law_some","_law_most","_law_longest","_law_words_here","_law_k","_law_at"] ["_law_hand","_law_some","_law_most","_law_longest"] (Zp Jbq):=(by rfl')
abbrev Jbs:Stmt:=top 34
def Jbd:FnScope ["_law_hand","_law_many","_law_begin","_law_step","_law_signs_here","_law_at"] ["_law_hand","_law_many"] (Zp Jbs):=(by rfl')
abbrev Jal:Stmt:=top 35
def Jcn:FnScope ["_law_hand","_law_words_here","_law_signs_here","_law_at","_law_spun","_law_pairs"] ["_law_hand","_law_words_here","_law_signs_here"] (Zp Jal):=(by rfl')
abbrev Jcl:Stmt:=top 36
def Jbo:FnScope ["_law_hand","_law_signs_here","_law_most"] ["_law_hand","_law_signs_here","_law_most"] (Zp Jcl):=(by rfl')
abbrev W1:Stmt:=top 23
def Do:FnScope ["one","other","shared"] ["one","other"] (Zp W1):=(by rfl')
abbrev Zck:Stmt:=top 22
def Dz:FnScope ["table","second","first","odds"] ["table"] (Zp Zck):=(by rfl')
abbrev W0:Stmt:=top 24
def Jax:FnScope ["table","found"] ["table"] (Zp W0):=(by rfl')
abbrev V5:Stmt:=top 25
def D0:FnScope ["words","found","word","size"] ["words"] (Zp V5):=(by rfl')
abbrev Z5:Stmt:=W5 (top 26) 0
def Jcc:FnScope ["self","table"] ["self","table"] (Zp Z5):=(by rfl')
abbrev U7:Stmt:=W5 (top 26) 3
def Jap:FnScope ["self","sign"] ["self","sign"] (Zp U7):=(by rfl')
abbrev U8:Stmt:=W5 (top 26) 4
def Jau:FnScope ["self","word"] ["self","word"] (Zp U8):=(by rfl')
abbrev Xy:Stmt:=W5 (top 5) 0
def D8:FnScope ["self","at"] ["self","at"] (Zp Xy):=(by rfl')
abbrev Xe:Stmt:=W5 (top 6) 0
def Jcg:FnScope ["self","at"] ["self","at"] (Zp Xe):=(by rfl')
abbrev Xt:Stmt:=W5 (top 9) 0
def Jdh:FnScope ["self","most"] ["self","most"] (Zp Xt):=(by rfl')
abbrev Zch:Stmt:=top 14
def Jak:FnScope ["code","text","row","place","sign","word"] ["code","text"] (Zp Zch):=(by rfl')
abbrev Qe:Stmt:=top 11
def Jbp:FnScope ["code","row","place","size","word"] ["code","row","place"] (Zp Qe):=(by rfl')
abbrev Zhl:Stmt:=top 12
def D3:FnScope ["code","row","text","place","word"] ["code","row"] (Zp Zhl):=(by rfl')
abbrev Jck:Stmt:=top 37
def Jby:FnScope ["_law_hand","_law_letters","_law_first","_law_at","_law_names_here","_law_move","_law_letter"] ["_law_hand"] (Zp Jck):=(by rfl')
abbrev D9:Stmt:=top 38
def Jcy:FnScope ["_law_hand","_law_many","_law_longest","_law_some","_law_words_here","_law_signs_here","_law_tables_here"] ["_law_hand","_law_many","_law_longest"] (Zp D9):=(by rfl')
abbrev Xz:Stmt:=W5 (top 28) 0
def Jbm:FnScope ["self"] ["self"] (Zp Xz):=(by rfl')
abbrev V6:Stmt:=W5 (top 28) 1
def Jcp:FnScope ["self","name","code","mark"] ["self","name","code","mark"] (Zp V6):=(by rfl')
abbrev W2:Stmt:=W5 (top 28) 2
def Jas:FnScope ["self"] ["self"] (Zp W2):=(by rfl')
abbrev Vh:Stmt:=W5 (top 28) 3
def Jco:FnScope ["self","name"] ["self","name"] (Zp Vh):=(by rfl')
abbrev Jdk:Stmt:=top 39
def Dt:FnScope ["_law_names_here","_law_tables_here","_law_family_here","_law_name","_law_table_here","_law_mark"] ["_law_names_here","_law_tables_here"] (Zp Jdk):=(by rfl')
abbrev Jct:Stmt:=top 40
def Dv:FnScope ["_law_names_here","_law_tables_here","_law_books_here","_law_name","_law_table_here","_law_sign","_law_word"] ["_law_names_here","_law_tables_here"] (Zp Jct):=(by rfl')
abbrev Jan:Stmt:=top 41
def Jcq:FnScope ["_law_one","_law_other","_law_text_here","_law_row","_law_sign","_law_readings","_law_told","_law_at","_law_ends"] ["_law_one","_law_other","_law_text_here"] (Zp Jan):=(by rfl')
abbrev D7:Stmt:=top 42
def Jdm:FnScope ["_law_found_here","_law_due","_law_k"] ["_law_found_here","_law_due"] (Zp D7):=(by rfl')
abbrev Zho:Stmt:=top 16
def Jcm:FnScope ["one","other","text","row"] ["one","other","text"] (Zp Zho):=(by rfl')
abbrev Vf:Stmt:=top 18
def Jbg:FnScope ["names","legs","first"] ["names"] (Zp Vf):=(by rfl')
abbrev T8:Stmt:=top 19
def Jay:FnScope ["family","found","enough","told","leg","way","text","steps"] ["family","found","enough"] (Zp T8):=(by rfl')
abbrev T7:Stmt:=top 20
def Jar:FnScope ["family","text","legs","most","told","found","size"] ["family","text","legs","most"] (Zp T7):=(by rfl')
abbrev Jdl:Stmt:=top 43
def Jaf:FnScope ["_law_books_here","_law_way","_law_text_here","_law_one","_law_other","_law_found_here"] ["_law_books_here","_law_way","_law_text_here"] (Zp Jdl):=(by rfl')
abbrev Jch:Stmt:=top 44
def Ds:FnScope ["_law_names_here","_law_legs_here","_law_one"] ["_law_names_here"] (Zp Jch):=(by rfl')
abbrev Jcs:Stmt:=top 45
def Jca:FnScope ["_law_books_here","_law_names_here","_law_text_here","_law_legs_here","_law_told","_law_last","_law_size","_law_some","_law_one","_law_other","_law_way","_law_end_here","_law_found_here"] ["_law_books_here","_law_names_here","_law_text_here","_law_legs_here"] (Zp Jcs):=(by rfl')
abbrev Jbr:Stmt:=top 46
def Jde:FnScope ["_law_names_here","_law_way"] ["_law_names_here","_law_way"] (Zp Jbr):=(by rfl')
abbrev Jav:Stmt:=top 47
def Jaj:FnScope ["_law_names_here","_law_way","_law_legs_here","_law_leg"] ["_law_names_here","_law_way","_law_legs_here"] (Zp Jav):=(by rfl')
abbrev Jad:Stmt:=top 48
def Dx:FnScope ["_law_family_here","_law_text_here","_law_legs_here","e"] ["_law_family_here","_law_text_here","_law_legs_here"] (Zp Jad):=(by rfl')
abbrev Jbv:Stmt:=top 49
def D6:FnScope ["_law_family_here","_law_books_here","_law_names_here","_law_text_here","_law_legs_here","_law_many","_law_handed","_law_found_here","_law_ranks","_law_one","_law_copies","_law_k"] ["_law_family_here","_law_books_here","_law_names_here","_law_text_here","_law_legs_here"] (Zp Jbv):=(by rfl')
abbrev Jcu:Stmt:=top 50
def Jdi:FnScope ["_law_hand","_law_books_here","_law_names_here","_law_signs_here","_law_text_here","_law_way","_law_k","_law_end_here"] ["_law_hand","_law_books_here","_law_names_here","_law_signs_here"] (Zp Jcu):=(by rfl')
abbrev Jaz:Stmt:=top 51
def Jbi:FnScope ["_law_name","_law_letters"] ["_law_name"] (Zp Jaz):=(by rfl')
abbrev Zox:Stmt:=top 52
def Jai:FnScope ["_law_script","_law_hand","_law_many","_law_names_here","_law_tables_here","_law_spun","_law_families","_law_books_here","_law_early","_law_k","_law_place","_law_legs_here","_law_first","_law_text_here"] ["_law_script"] (Zp Zox):=(by rfl')
structure Txt(mg:Str->Option Value):Prop where
 b_len:mg "len"=none
 b_abs:mg "abs"=none
 b_max:mg "max"=none
 b_min:mg "min"=none
 b_isinstance:mg "isinstance"=none
 b_all:mg "all"=none
 b_range:mg "range"=none
 b_int:mg "int"=none
 b_str:mg "str"=none
 b_bool:mg "bool"=none
 b_tuple:mg "tuple"=none
 b_list:mg "list"=none
 b_dict:mg "dict"=none
 b_sorted:mg "sorted"=none
 b_enumerate:mg "enumerate"=none
 b_zip:mg "zip"=none
 b_ValueError:mg "ValueError"=none
section
variable{w:C0}{base:Heap}
theorem Dw(T:Txt mg){f:Addr}(F:Fun K "_law_draw" "_law_draw" Jdf f fd):FnOk P w K mg base CX0 1 f fd ["_law_hand","_law_many"] Qc:=by
 refine F.ok Jbb (λvs H Q E h=>?_) (λcdv A outer s H vs Q E hr h=>?_)
 .let⟨p,a,n,rfl,_⟩:=h;rfl
 .let⟨p,a,n,rfl,hh,hn0,hn1,k⟩:=h;let⟨d,i,cs,e1,e2,hne,hlen,hd,hi,hc⟩:=hh.ex;let npa:p≠a:=hh.ne;let SC:=Jbb;let fin:∀(r d' i':Int),0<=r->r<n->0<=d'->0<=i'->Q (.int r) (upd H p (.lst [.int d',.int i',.ref a])):=λr d' i' h1 h2 h3 h4 =>
   k r _ h1 h2 ⟨d',i',cs,Zg,by rw[Zn npa.symm];exact e2,hne,hlen,h3,h4,hc⟩ (λb o e nb=>by rw[Zn nb];exact e) λb nb=>by rw[Zn nb]
  refine⟨_,(Zd (Yt (Z2 Zcx (Z1 Xb (pv 0) Zh (λ_ _=>rfl)) Zh (Z6 _))
 (Zd (Zs (i:=2) SC.nd rfl (Cb rfl) (Z0 Xh (Z1 Xb (pv 0) Zh (λ_ _=>rfl)) (pv 1)))
 (Zd (Zh2 (Z0 Zic (Z1 Xb (pv 0) Zh (λ_ _=>rfl)) (pv 1)) (Zh6 (pv 0) Zh Rp))
 (Zi (Zx (pv 2)))))
 Zz)
 (Zd (Zpe (pv 0) Zh Zh5 Zh Znr Rp)
 (Zd (Zs (i:=3) SC.nd rfl (Cb rfl) (Z0 Xh (Z1 Xb (Z1 Xb (pv 0) Zh (λ_ _=>rfl)) (Z0 Xh (Z1 Xb (pv 0) Zh (λ_ _=>rfl)) (Zq Y9 (by rfl) T.b_len Di (Za (Z1 Xb (pv 0) Zh (λ_ _=>rfl)) Zc))) (λ_ _=>rfl)) Zh))
 (Zd (Zs (i:=4) SC.nd rfl (Cb rfl) (Z0 Xh (Z0 Wd (Z0 Wd (Z0 V9 (pv 3) Zh) (Z0 V9 (Z1 Xb (pv 0) Zh (λ_ _=>rfl)) Zh)) Zh) Zh))
 (Zd (Zs (i:=4) SC.nd rfl (Cb rfl) (Z0 Xh (Z0 Wd (Z0 V9 (pv 4) (pv 4)) (Z1 Xb (pv 0) Zh (λ_ _=>rfl))) Zh))
 (Zd (Zs (i:=4) SC.nd rfl (Cb rfl) (Z0 Xh (Z0 Wd (Z0 V9 (pv 4) Zh) Zh) Zh))
 (Zi (Zx (Z0 Xh (Z0 Zic (Z0 Xh (Z0 V9 (pv 4) (pv 4)) Zh) Zh) (pv 1)))))))))),?_⟩
  exists ·,p,_,_,·,rfl,SqL.of e1,rfl,_,·,rfl,·,?_;refine ite2 (λh0=>?_) (λh0=>?_)
  .exists ·,p,_,_,·,rfl,SqL.of e1,rfl,·,_,·,rfl,hn0,?_;exists ·,p,_,_,·,rfl,SqL.of e1,rfl,·,_,·,rfl,⟨hn0,hn1⟩,·,p,_,_,0,rfl,rfl,e1,rfl,?_;exists ·,?_;exact fin _ _ _ (G8 _ ()) (Gw _ hn0) (Int.ediv_nonneg hd ()) hi
  .let e1':(upd H p (.lst [.int d,.int (i+1),.ref a])) p=some (.lst [.int d,.int (i+1),.ref a]):=Zg;let e2':(upd H p (.lst [.int d,.int (i+1),.ref a])) a=some (.lst (cs.map V.int)):=by rw[Zn npa.symm];exact e2
   let⟨c,hc1,hc2⟩:=Zac hne (i+1);let hlp:(0:Int)<(((cs.map V.int).length:Nat):Int):=by
    rw[Ja];let:=Gm.mpr hne;lia
   refine⟨_,rfl,p,_,1,_,rfl,rfl,SqL.of e1,rfl,_,_,rfl,rfl,p,_,_,1,rfl,rfl,e1,rfl,?_⟩;refine⟨_,rfl,p,_,_,_,rfl,rfl,SqL.of e1',rfl,_,rfl,p,_,_,_,rfl,rfl,SqL.of e1',rfl,_,rfl,p,_,_,_,rfl,rfl,SqL.of e1',rfl,_,_,rfl,.inl ⟨_,SqL.of e2',rfl⟩,_,_,rfl,rfl,hlp,
    a,_,_,_,rfl,rfl,SqL.of e2',hc2,_,_,rfl,rfl,(by show(0:Int)<_;decide),?_⟩
   exists ·,_,·,rfl,.inr ⟨nofun,nofun⟩,·,p,_,_,·,rfl,SqL.of e1',rfl,_,·,rfl,.inr ⟨nofun,nofun⟩,_,·,rfl,_,·,rfl,_,·,rfl,(by show(0:Int)<_;decide),?_;generalize hx:(c % 2147483647*48271+(i+1)*7368787+11) % 998244353=x;let x0:0<=x:=by rw[<-hx];exact G8 _ nofun
   let x1:x<998244353:=by rw[<-hx];exact Gw _ nofun
   exists ·,·,_,·,rfl,.inl ⟨(),()⟩,·,p,_,_,·,rfl,SqL.of e1',rfl,_,·,rfl,_,·,rfl,(by show(0:Int)<_;decide),?_;generalize hy:(x*x+(i+1)) % 998244353=y;exists ·,_,·,rfl,.inr ⟨nofun,nofun⟩,_,·,rfl,_,·,rfl,(by show(0:Int)<_;decide),?_;generalize hz:(y*40503203+12345) % 2147483647=z;let z0:0<=z:=by rw[<-hz];exact G8 _ nofun
   let z1:z<2147483647:=by rw[<-hz];exact Gw _ nofun
   exists ·,·,_,·,rfl,.inl ⟨(),()⟩,_,·,rfl,(by show(0:Int)<_;decide),_,·,rfl,⟨nofun,nofun⟩,·,_,·,rfl,hn0,?_;exact fin _ _ _ (G8 _ ()) (Gw _ hn0) hd (by show 0<=i+1;lia)
theorem Jdc(T:Txt mg){f:Addr}(F:Fun K "_law_open" "_law_open" Jao f fd):FnOk P w K mg base CX0 1 f fd ["_law_script","_law_place"] (Zm1 K):=by
 refine F.ok Jdj (λvs H Q E h=>?_) (λcdv A outer s H vs Q E hr h=>?_)
 .let⟨s,ns,i,rfl,_⟩:=h;rfl
 .let⟨s0,ns,i,rfl,hS,hlen,hi0,hi1,k⟩:=h;let SC:=Jdj;let hu:=hr.units;refine⟨_,(Zd (U9 (i:=2) SC.nd rfl rfl (T:=["_law_cell"]) (cs:=[]) rfl (CScope.ok (by kernel_rfl)) (Yv (Ya Wh (pv 0) Yu (Yb Zh))) (λ_ _ _ _=>(Zt (i:=0) (X7 (by kernel_rfl)) rfl (Cb rfl) (Ef rfl))) (λ_ _ _ _=>Y7) (λ_ _ _ _=>(Zq Zmn (by rfl) T.b_abs Jjx (Za (pv 0) Zc))) (Y8 nofun))
 (Zd (Yt (Z2 (Zem hu) (pv 2) (Yl Zc) (Z6 _))
 (Zi (Zs (i:=2) SC.nd rfl (Cb rfl) (Yl (Za Zh Zc))))
 Zz)
 (Zd (Zs (i:=3) SC.nd rfl (Cb rfl) (Z0 Xh (pv 1) (Zq Y9 (by rfl) T.b_len Di (Za (pv 2) Zc))))
 (Zd (Zs (i:=4) SC.nd rfl (Cb rfl) Zh)
 (Zd (Yt (PW.pt (Zhz (Z2 Zwb (Z1 Xb (pv 2) (pv 3) (λ_ _=>rfl)) (Z0 Zib Zh Zh) (Z6 _)) (Zcq (Z2 Zfr (pv 1) (Zq Y9 (by rfl) T.b_len Di (Za (pv 2) Zc)) (Z6 _)))))
 (Zi (Zs (i:=4) SC.nd rfl (Cb rfl) (Z1 Xb (pv 2) (pv 3) (λ_ _=>rfl))))
 Zz)
 (Zi (Zx (Yl (Za (pv 4) (Za (Z0 Wd Zh (Z0 V9 Zh (pv 1))) (Za (Z0 Px (Ya Wh (pv 2) (Yb (pv 3)) Yu) (Ya Wh (pv 2) Yu (Yb (pv 3)))) Zc))))))))))),?_⟩
  let⟨ms,ems,lms,_⟩:=Zmh ns none (some 63);refine⟨_,rfl,_,rfl,s0,_,rfl,hS,λq hq=>⟨q,rfl,⟨_,SqL.of Zg⟩,Wo (n:=ms.length) (λj ys H'=>∃as:List Int,ys=as.map V.int/\as.length=j/\(∀c∈as,0<=c)/\H'=upd H q (.lst (cutV (ns.map V.int) none (some 63))))
   ⟨[],rfl,rfl,λ_ h=>(nomatch h),rfl⟩ ?_ (Zm ()) ?_ ?_ ?_ ?_⟩⟩
  .rintro j ys H' ⟨as,rfl,rfl,_⟩;rw[Ja];exact Jd _
  .rintro j ys H' hj ⟨as,rfl,rfl,_,rfl⟩;exists _,.int (ms[as.length]'hj),SqL.of Zg,?_;rw[ems,Jx,Jb hj];rfl
  .rintro ys H' ⟨as,rfl,hl,_,rfl⟩;exact⟨_,SqL.of Zg,by rw[ems,Ja];exact Jd _⟩
  .rintro j ys H' hj ⟨as,rfl,rfl,hp,rfl⟩ x H2 ⟨rfl,y⟩;let hx:=y _ (SqL.of Zg);rw[ems,Jx,Jb hj]at hx;cases hx;exists ·,·,as++[_],by rw[Jg];rfl,by rw[Jc];rfl,λc hc=>?_,rfl;rcases Gb.mp hc with z|z
   .exact hp c z
   .rw[Jj.mp z]
    split<;>lia
  .rintro ys H' ⟨as,rfl,hl,hp,rfl⟩ c0 hc0;let s1:Same H (upd H q (.lst (cutV (ns.map V.int) none (some 63)))):=Ze hq;generalize upd H q (.lst (cutV (ns.map V.int) none (some 63)))=H1 at hc0 s1;let s2:Same H (upd H1 c0 (.lst (as.map V.int))):=s1.trans (Ze hc0);let n0:H c0=none:=s1.free hc0;let e0:(upd H1 c0 (.lst (as.map V.int))) c0=some (.lst (as.map V.int)):=Zg;generalize upd H1 c0 (.lst (as.map V.int))=H2 at s2 e0;let hla:as.length<=63:=by lia
   exists ·,Gc _,λl hl=>⟨_,_,DV.lst (SqL.of ((Ze hl) _ _ e0)) (Ty as),DV.lst (SqL.of Zg) .nil,(Ro as).shaped nofun,(Ro []).shaped nofun,_,rfl,?_⟩;rw[Zqg];let s3:Same H (upd H2 l (.lst [])):=s2.trans (Ze hl);let e1:(upd H2 l (.lst [])) c0=some (.lst (as.map V.int)):=(Ze hl) _ _ e0;generalize upd H2 l (.lst [])=H3 at s3 e1;refine ite2 (λh0=>?_) (λh0=>?_)
   .exists by show 1<=sizeLine;decide,λc1 hc1=>?_;let W:HC H (upd H3 c1 (.lst [.int 0])) c1:=⟨[0],s3.trans (Ze hc1),s3.free hc1,Zg,by simp,nofun,by simp⟩
    revert W
    generalize upd H3 c1 (.lst [.int 0])=H4;intro W;let⟨as4,s4,n4,e4,hne,hl4,hp4⟩:=W;let⟨c,hc1,hc2⟩:=Zac hne i;let⟨cs,ecs,ncs,lcs,mcs⟩:=spun hne i;let hlp:(0:Int)<(((as4.map V.int).length:Nat):Int):=by
     rw[Ja];let:=Gm.mpr hne;lia
    exists ·,·,_,·,.inl ⟨_,SqL.of e4,rfl⟩,_,·,rfl,hlp,?_;exists ·,·,_,_,_,·,rfl,SqL.of e4,hc2,_,·,rfl,⟨nofun,nofun,nofun⟩,_,·,rfl,·,?_;refine ite2 (λ_=>?_) (λ_=>?_)
    .exists ·,·,_,·,.inl ⟨_,SqL.of e4,rfl⟩,_,·,rfl,·,?_;refine ite2 (λ_=>?_) (λ_=>?_)
     .refine⟨_,rfl,_,rfl,_,_,_,_,rfl,rfl,SqL.of e4,hc2,?_⟩;exact⟨_,rfl,_,rfl,_,_,rfl,rfl,.inl ⟨nofun,nofun⟩,_,_,rfl,rfl,_,rfl,_,rfl,_,rfl,_,_,rfl,SqL.of e4,λl1 hl1=>⟨_,rfl,_,rfl,_,rfl,_,_,rfl,SqL.of ((Ze hl1) _ _ e4),λl2 hl2 =>
       ⟨l1,l2,_,_,rfl,rfl,(Ze hl2) _ _ Zg,Zg,by rw[<-Jc,ecs,Ja];exact Zm (),λl3 hl3=>⟨by show 3<=sizeLine;decide,λp hp =>
        k p l3 _ (s4.free ((Ze hl1).free ((Ze hl2).free ((Ze hl3).free hp)))) (s4.free ((Ze hl1).free ((Ze hl2).free hl3)))
         ⟨_,_,cs,Zg,by rw[<-ecs];exact(Ze hp) _ _ Zg,ncs,(),by first|exact hp4 _ hc1|decide,(),λx hx=>hp4 x (mcs x hx)⟩
         (((s4.trans (Ze hl1)).trans (Ze hl2)).trans ((Ze hl3).trans (Ze hp)))⟩⟩⟩⟩
     .exact⟨_,rfl,_,rfl,_,_,rfl,rfl,.inl ⟨nofun,nofun⟩,_,_,rfl,rfl,_,rfl,_,rfl,_,rfl,_,_,rfl,SqL.of e4,λl1 hl1=>⟨_,rfl,_,rfl,_,rfl,_,_,rfl,SqL.of ((Ze hl1) _ _ e4),λl2 hl2 =>
       ⟨l1,l2,_,_,rfl,rfl,(Ze hl2) _ _ Zg,Zg,by rw[<-Jc,ecs,Ja];exact Zm (),λl3 hl3=>⟨by show 3<=sizeLine;decide,λp hp =>
        k p l3 _ (s4.free ((Ze hl1).free ((Ze hl2).free ((Ze hl3).free hp)))) (s4.free ((Ze hl1).free ((Ze hl2).free hl3)))
         ⟨_,_,cs,Zg,by rw[<-ecs];exact(Ze hp) _ _ Zg,ncs,(),by first|exact hp4 _ hc1|decide,(),λx hx=>hp4 x (mcs x hx)⟩
         (((s4.trans (Ze hl1)).trans (Ze hl2)).trans ((Ze hl3).trans (Ze hp)))⟩⟩⟩⟩
    .refine iteF ?_;exact⟨_,rfl,_,rfl,_,_,rfl,rfl,.inl ⟨nofun,nofun⟩,_,_,rfl,rfl,_,rfl,_,rfl,_,rfl,_,_,rfl,SqL.of e4,λl1 hl1=>⟨_,rfl,_,rfl,_,rfl,_,_,rfl,SqL.of ((Ze hl1) _ _ e4),λl2 hl2 =>
       ⟨l1,l2,_,_,rfl,rfl,(Ze hl2) _ _ Zg,Zg,by rw[<-Jc,ecs,Ja];exact Zm (),λl3 hl3=>⟨by show 3<=sizeLine;decide,λp hp =>
        k p l3 _ (s4.free ((Ze hl1).free ((Ze hl2).free ((Ze hl3).free hp)))) (s4.free ((Ze hl1).free ((Ze hl2).free hl3)))
         ⟨_,_,cs,Zg,by rw[<-ecs];exact(Ze hp) _ _ Zg,ncs,(),by first|exact hp4 _ hc1|decide,(),λx hx=>hp4 x (mcs x hx)⟩
         (((s4.trans (Ze hl1)).trans (Ze hl2)).trans ((Ze hl3).trans (Ze hp)))⟩⟩⟩⟩
   .let W:HC H H3 c0:=⟨as,s3,n0,e1,by simpa using h0,hla,hp⟩;let⟨as4,s4,n4,e4,hne,hl4,hp4⟩:=W;let⟨c,hc1,hc2⟩:=Zac hne i;let⟨cs,ecs,ncs,lcs,mcs⟩:=spun hne i;let hlp:(0:Int)<(((as4.map V.int).length:Nat):Int):=by
     rw[Ja];let:=Gm.mpr hne;lia
    exists ·,·,_,·,.inl ⟨_,SqL.of e4,rfl⟩,_,·,rfl,hlp,?_;exists ·,·,_,_,_,·,rfl,SqL.of e4,hc2,_,·,rfl,⟨nofun,nofun,nofun⟩,_,·,rfl,·,?_;refine ite2 (λ_=>?_) (λ_=>?_)
    .exists ·,·,_,·,.inl ⟨_,SqL.of e4,rfl⟩,_,·,rfl,·,?_;refine ite2 (λ_=>?_) (λ_=>?_)
     .refine⟨_,rfl,_,rfl,_,_,_,_,rfl,rfl,SqL.of e4,hc2,?_⟩;exact⟨_,rfl,_,rfl,_,_,rfl,rfl,.inl ⟨nofun,nofun⟩,_,_,rfl,rfl,_,rfl,_,rfl,_,rfl,_,_,rfl,SqL.of e4,λl1 hl1=>⟨_,rfl,_,rfl,_,rfl,_,_,rfl,SqL.of ((Ze hl1) _ _ e4),λl2 hl2 =>
       ⟨l1,l2,_,_,rfl,rfl,(Ze hl2) _ _ Zg,Zg,by rw[<-Jc,ecs,Ja];exact Zm (),λl3 hl3=>⟨by show 3<=sizeLine;decide,λp hp =>
        k p l3 _ (s4.free ((Ze hl1).free ((Ze hl2).free ((Ze hl3).free hp)))) (s4.free ((Ze hl1).free ((Ze hl2).free hl3)))
         ⟨_,_,cs,Zg,by rw[<-ecs];exact(Ze hp) _ _ Zg,ncs,(),by first|exact hp4 _ hc1|decide,(),λx hx=>hp4 x (mcs x hx)⟩
         (((s4.trans (Ze hl1)).trans (Ze hl2)).trans ((Ze hl3).trans (Ze hp)))⟩⟩⟩⟩
     .exact⟨_,rfl,_,rfl,_,_,rfl,rfl,.inl ⟨nofun,nofun⟩,_,_,rfl,rfl,_,rfl,_,rfl,_,rfl,_,_,rfl,SqL.of e4,λl1 hl1=>⟨_,rfl,_,rfl,_,rfl,_,_,rfl,SqL.of ((Ze hl1) _ _ e4),λl2 hl2 =>
       ⟨l1,l2,_,_,rfl,rfl,(Ze hl2) _ _ Zg,Zg,by rw[<-Jc,ecs,Ja];exact Zm (),λl3 hl3=>⟨by show 3<=sizeLine;decide,λp hp =>
        k p l3 _ (s4.free ((Ze hl1).free ((Ze hl2).free ((Ze hl3).free hp)))) (s4.free ((Ze hl1).free ((Ze hl2).free hl3)))
         ⟨_,_,cs,Zg,by rw[<-ecs];exact(Ze hp) _ _ Zg,ncs,(),by first|exact hp4 _ hc1|decide,(),λx hx=>hp4 x (mcs x hx)⟩
         (((s4.trans (Ze hl1)).trans (Ze hl2)).trans ((Ze hl3).trans (Ze hp)))⟩⟩⟩⟩
    .refine iteF ?_;exact⟨_,rfl,_,rfl,_,_,rfl,rfl,.inl ⟨nofun,nofun⟩,_,_,rfl,rfl,_,rfl,_,rfl,_,rfl,_,_,rfl,SqL.of e4,λl1 hl1=>⟨_,rfl,_,rfl,_,rfl,_,_,rfl,SqL.of ((Ze hl1) _ _ e4),λl2 hl2 =>
       ⟨l1,l2,_,_,rfl,rfl,(Ze hl2) _ _ Zg,Zg,by rw[<-Jc,ecs,Ja];exact Zm (),λl3 hl3=>⟨by show 3<=sizeLine;decide,λp hp =>
        k p l3 _ (s4.free ((Ze hl1).free ((Ze hl2).free ((Ze hl3).free hp)))) (s4.free ((Ze hl1).free ((Ze hl2).free hl3)))
         ⟨_,_,cs,Zg,by rw[<-ecs];exact(Ze hp) _ _ Zg,ncs,(),by first|exact hp4 _ hc1|decide,(),λx hx=>hp4 x (mcs x hx)⟩
         (((s4.trans (Ze hl1)).trans (Ze hl2)).trans ((Ze hl3).trans (Ze hp)))⟩⟩⟩⟩
theorem Jbw(T:Txt mg)(Zk:Cal P w K mg base "_law_draw" 1 ["_law_hand","_law_many"] Qc){f:Addr}(F:Fun K "_law_bytes" "_law_bytes" Jbe f fd):FnOk P w K mg base CX0 2 f fd ["_law_hand","_law_most"] Zhd:=by
 refine F.ok Jbt (λvs H Q E h=>?_) (λcdv A outer s H vs Q E hr h=>?_)
 .let⟨p,a,m,rfl,_⟩:=h;rfl
 .let⟨p,a,m,rfl,hh,hm1,hm2,k⟩:=h;let SC:=Jbt;let Zl:Room 1 _:=hr.mono nofun;refine⟨_,(Zd (Zs (i:=2) SC.nd rfl (Ef rfl) (Zv Zk Zl rfl (Za (pv 0) (Za Zh Zc))))
 (Zd (Zs (i:=3) SC.nd rfl (Ef rfl) (Z0 Wd Zh (Zv Zk Zl rfl (Za (pv 0) (Za Zh Zc)))))
 (Zi (Zx (Xk (T:=["_law_k"]) (cs:=[2,3]) rfl (CScope.ok (by kernel_rfl)) (Yg rfl T.b_range (Za (Z0 Wd Zh (Zv Zk Zl rfl (Za (pv 0) (Za (Z0 Za2 (pv 1) Zh) Zc)))) Zc)) (λ_ _ _ _=>(Zt (i:=0) (X7 (by kernel_rfl)) rfl (Cb rfl) (Ef rfl))) (λ_ _ _ _=>Y7) (λ_ _ _ _=>(Z0 Xh (Z0 Wd (pv 1) (Z0 V9 (pv 2) (pv 0))) Zh)) (Y8 nofun)))))),?_⟩
  refine⟨_,rfl,p,a,_,rfl,hh,nofun,nofun,λb0 H1 b00 b01 h1 g1 u1=>?_⟩;refine⟨_,rfl,p,a,_,rfl,h1,nofun,nofun,λs0 H2 s00 s01 h2 g2 u2=>⟨_,_,rfl,rfl,?_⟩⟩;refine⟨_,rfl,_,rfl,_,_,rfl,rfl,p,a,_,rfl,h2,(),(),λn0 H3 n00 n01 h3 g3 u3=>⟨_,_,rfl,rfl,(2+n0),rfl,(),(),Wo (n:=(2+n0).toNat)
   (λj ys H'=>H'=H3/\ys=((Eb j).map λk:Nat=>(b0+(1+s0)*(k:Int)) % 256).map V.int) ⟨rfl,rfl⟩ ?_ (Zm ()) ?_ ?_ ?_ ?_⟩⟩
  .rintro j ys H' ⟨rfl,rfl⟩;rw[Ja,Ja,Bj];exact Jd _
  .rintro j ys H' hj _;exact hj
  .rintro ys H' _;exact Jd _
  .rintro j ys H' hj ⟨rfl,rfl⟩ x H4 ⟨rfl,rfl⟩;exists ·,·,·,_,·,rfl,.inl ⟨(),()⟩,_,·,rfl,_,·,rfl,(by show(0:Int)<_;decide),rfl,?_;rw[Ma,Jg,Jg,Jgq];rfl
  .rintro ys H' ⟨rfl,rfl⟩ l hl;let⟨_,_,_,ep,_⟩:=h3.ex;let nl:l≠p:=Cw (Zr ep hl);let g:=(g1.trans g2).trans g3;refine k l _ _ (g.free hl nl) nl Zg (Zce () ?_) ?_ ?_ (λb hb=>?_) (h3.same (Ze hl)) (g.trans (Grow.same (Ze hl)))
   .let:((2+n0).toNat:Int)=2+n0:=by lia
    rw[this];let h4:(1+s0)*(2+n0)<=(1+s0)*4:=Lg () ();lia
   .rw[Ja,Bj];lia
   .rw[Ja,Bj];lia
   .let⟨i,_,rfl⟩:=Jo.mp hb;exists G8 _ nofun,Gw _ nofun
theorem Jbx(T:Txt mg)(Zk:Cal P w K mg base "_law_draw" 1 ["_law_hand","_law_many"] Qc){f:Addr}(F:Fun K "_law_words" "_law_words" Jbq f fd):FnOk P w K mg base CX0 2 f fd ["_law_hand","_law_some","_law_most","_law_longest"] Zg7:=by
 refine F.ok Jbj (λvs H Q E h=>?_) (λcdv A outer s H vs Q E hr h=>?_)
 .let⟨p,a,sa,m,lg,bs,rfl,_⟩:=h;rfl
 .let⟨p,a,sa,m,lg,bs,rfl,hh,es,nsp,nd,hne,hl,hm1,hm2,hg1,hg2,k⟩:=h;let SC:=Jbj;let Zl:Room 1 _:=hr.mono nofun;let hlp:0<bs.length:=Gm.mpr hne;refine⟨_,(Zd (Zs (i:=4) SC.nd rfl (Ef rfl) (Xk (T:=["_law_one"]) (cs:=[]) rfl (CScope.ok (by kernel_rfl)) (Yv (pv 1)) (λ_ _ _ _=>(Zt (i:=0) (X7 (by kernel_rfl)) rfl (Cb rfl) (Ef rfl))) (λ_ _ _ _=>Y7) (λ_ _ _ _=>(Y6 (Za (pv 0) Zc))) (Y8 nofun)))
 (Zd (Yr Cd rfl (Yg rfl T.b_range (Za (Zv Zk Zl rfl (Za (pv 0) (Za (Z0 Wd (pv 2) Zh) Zc))) Zc)) (Zt (i:=5) SC.nd rfl (Cb rfl))
 (Zd (Zs (i:=6) SC.nd rfl (Ef rfl) (Z0 Xh (Zv Zk Zl rfl (Za (pv 0) (Za Zh Zc))) (Zq Y9 (by rfl) T.b_len Di (Za (pv 4) Zc))))
 (Zi (Yt (Z2 Zfr (Zq Y9 (by rfl) T.b_len Di (Za (Z1 Xb (pv 4) (pv 6) (λ_ _=>rfl)) Zc)) (pv 3) (Z6 _))
 (Zi (Zs (i:=4) SC.nd rfl (Ef rfl) (Z0 Px (Z0 Px (Ya Wh (pv 4) Yu (Yb (pv 6))) (Xk (T:=["_law_one"]) (cs:=[4,6]) rfl (CScope.ok (by kernel_rfl)) (Yv (pv 1)) (λ_ _ _ _=>(Zt (i:=0) (X7 (by kernel_rfl)) rfl (Cb rfl) (Ef rfl))) (λ_ _ _ _=>Y7) (λ_ _ _ _=>(Z0 (Zqv (K:=K) rfl) (Z1 (Zfb (K:=K) rfl) (pv 1) (pv 2) (λ_ _=>rfl)) (Y6 (Za (pv 0) Zc)))) (Y8 nofun))) (Ya Wh (pv 4) (Yb (Z0 Wd (pv 6) Zh)) Yu))))
 Zz))))
 (Zi (Zx (Xk (T:=["_law_word"]) (cs:=[0]) rfl (CScope.ok (by kernel_rfl)) (Yv (pv 4)) (λ_ _ _ _=>(Zt (i:=0) (X7 (by kernel_rfl)) rfl (Cb rfl) (Ef rfl))) (λ_ _ _ _=>(Nj (Z2 Zcx (Zv Zk Zl rfl (Za (pv 1) (Za Zh Zc))) Zh (Z6 _)))) (λ_ _ _ _=>(pv 0)) (Y8 nofun)))))),?_⟩
  exists ·,sa,rfl,⟨_,SqL.of es⟩,Wo (n:=bs.length) (λj ys H'=>ys.length=j/\Same H H'/\X2 H' ys ((bs.map λb=>[b]).take j)) ⟨rfl,.refl _,by rw[G9];exact .nil⟩ ?_ (Zm ()) ?_ ?_ ?_ ?_
  .rintro j ys H' ⟨e,_⟩;exact Bv e
  .rintro j ys H' hj ⟨_,s1,_⟩;exact Zi4 (s1 _ _ es) (by rw[Ja];exact hj)
  .rintro ys H' ⟨_,s1,_⟩;exact Nv (s1 _ _ es) (by rw[Ja];exact Jd _)
  .rintro j ys H' hj ⟨e,s1,w1⟩ y H'' hy;let⟨rfl,rfl⟩:=Zc6 (s1 _ _ es) (by rw[Ja];exact hj) hy;exists ·,by show 1<=sizeLine;decide,λq hq=>⟨by rw[Jc,e];rfl,s1.trans (Ze hq),?_⟩;rw[Jf (by rw[Ja];exact hj)];refine L2.Paired.snoc ⟨q,rfl,?_⟩ (X2.tk w1 (Ze hq).tk);rw[Zg,Bd,Bd];rfl
  .rintro ys H1 ⟨e,s1,w1⟩ wl hwl;rw[<-Ja (f:=λb:Int=>[b]),Jw]at w1;let s2:=s1.trans (Ze (o:=.lst ys) hwl);let w2:=X2.tk w1 (Ze (o:=.lst ys) hwl).tk;let e2:(upd H1 wl (.lst ys)) wl=some (.lst ys):=Zg;let⟨_,ep⟩:=Xc hh;let nwp:wl≠p:=Cw (Zr (s1 _ _ ep) hwl);let nw0:H wl=none:=s1.free hwl;generalize upd H1 wl (.lst ys)=H2 at s2 w2 e2;refine⟨_,rfl,_,rfl,_,_,rfl,rfl,p,a,_,rfl,hh.same s2,(),(),λn0 H3 n00 n01 h3 g3 u3=>?_⟩;let inv0:WOk (bs.map λb=>[b]):=Zpm nd;refine⟨n0,rfl,(),(),Tv (n:=n0.toNat) (λj σ H'=>∃wl ws v1 v2,σ=[some (.ref p),some (.ref sa),some (.int m),some (.int lg),some (.ref wl),v1,v2]/\H wl=none/\wl≠p/\Q8 H' wl ws/\WOk ws/\ws≠[]/\ws.length<=bs.length+j*bs.length/\HandAt H' p a/\Grow p H H')
    ⟨wl,_,_,_,rfl,nw0,nwp,⟨ys,by rw[u3 wl nwp];exact e2,X2.tk w2 (g3.tk (s2 _ _ ep))⟩,inv0,by simpa using hne,by rw[Ja];lia,h3,(Grow.same s2).trans g3⟩ ?_ ?_⟩
   .rintro j σ H4 hj ⟨wl,ws,v1,v2,rfl,nw0,nwp,⟨vs,e4,w4⟩,ok4,ne4,l4,h4,g4⟩;let lv:=Paired.length w4;let lp:0<vs.length:=by rw[lv];exact Gm.mpr ne4
    let hjb:j*bs.length<=6*24:=B8 () hl;exists ·,p,a,·,h4,nofun,nofun,λr H5 r0 r1 h5 g5 u5=>?_;let e5:H5 wl=some (.lst vs):=by rw[u5 wl nwp];exact e4
    let⟨_,ep4⟩:=Xc h4;let w5:=X2.tk w4 (g5.tk ep4);let es5:H5 sa=some (.lst (bs.map V.int)):=(g4.trans g5) _ _ es nsp;exists ·,_,·,.inl ⟨_,SqL.of e5,rfl⟩,_,·,rfl,(by show(0:Int)<_;lia),?_;let r2:0<=r % (vs.length:Int):=G8 _ ();let r3:r % (vs.length:Int)<vs.length:=Gw _ ();let⟨n,en0⟩:=Gn r2;let hn:n<vs.length:=by lia
    let⟨hn2,t,ev,et⟩:=X2.take1 w5 hn;let atn:atI vs (r % (vs.length:Int))=some (.ref t):=by rw[en0,<-ev];exact Sl (Jb hn)
    let cut1:cutV vs none (some (r % (vs.length:Int)))=vs.take n:=by rw[en0,Zbt () (),Fo]
    let cut2:cutV vs (some (r % (vs.length:Int)+1)) none=vs.drop (n+1):=by rw[en0,R7 () ()];congr 1
    exists ·,·,wl,_,_,·,rfl,SqL.of e5,atn,_,·,.inr ⟨_,SqT.of et,rfl⟩,·,_,·,rfl,·,?_;refine ite2 (λhlt=>?_) (λhlt=>?_)
    .let hlt':((ws[n].map V.int).length:Int)<lg:=of_decide_eq_true hlt;rw[Ja]at hlt';exists ·,·,·,wl,·,SqL.of e5,λq1 hq1=>?_;rw[cut1];let s6:=Ze (o:=.lst (vs.take n)) hq1;let e61:(upd H5 q1 (.lst (vs.take n))) q1=_:=Zg;let nq1:q1≠p:=by let⟨_,ep5⟩:=Xc h5;exact Cw (Zr ep5 hq1)
     generalize upd H5 q1 (.lst (vs.take n))=H6 at s6 e61;exists ·,sa,rfl,⟨_,SqL.of (s6 _ _ es5)⟩,Wo (n:=bs.length) (λj ys H'=>ys.length=j/\Same H6 H'/\X2 H' ys ((bs.map λb=>ws[n]++[b]).take j)) ⟨rfl,.refl _,by rw[G9];exact .nil⟩ ?_ (Zm ()) ?_ ?_ ?_ ?_
     .rintro j ys H' ⟨e,_⟩;exact Bv e
     .rintro j ys H' hj ⟨_,s1,_⟩;exact Zi4 (s1 _ _ (s6 _ _ es5)) (by rw[Ja];exact hj)
     .rintro ys H' ⟨_,s1,_⟩;exact Nv (s1 _ _ (s6 _ _ es5)) (by rw[Ja];exact Jd _)
     .rintro j ys H' hj ⟨e,s1,w1⟩ y H'' hy;let⟨rfl,rfl⟩:=Zc6 (s1 _ _ (s6 _ _ es5)) (by rw[Ja];exact hj) hy;let et':=s1 _ _ (s6 _ _ et);exists ·,·,wl,_,_,·,rfl,SqL.of (s1 _ _ (s6 _ _ e5)),atn,·,by show 1<=sizeLine;decide,λq hq=>?_;let sq:=Ze (o:=.tup [(bs.map V.int)[j]'(by rw[Ja];exact hj)]) hq;exists t,q,_,·,rfl,SqT.of (sq _ _ et'),SqT.of Zg,?_,?_,λz=>absurd z (by simp),λ_ q2 hq2=>?_
      .let:=(ok4.2 ws[n] (Jl hn2)).1;simpa using this
      .rw[Ja];show ws[n].length+1<=sizeLine;exact J8 (by lia:ws[n].length+1<=10) nofun
      .exists by rw[Jc,e];rfl,(s1.trans sq).trans (Ze hq2),?_;rw[Jf (by rw[Ja];exact hj)];refine L2.Paired.snoc ⟨q2,rfl,?_⟩ (X2.tk w1 (sq.tk.trans (Ze hq2).tk));rw[Zg,Bd,Bd,Jg];rfl
     .rintro ys H7 ⟨e,s7,w7⟩ q3 hq3;rw[<-Ja (f:=λb:Int=>ws[n]++[b]),Jw]at w7;let s8:=s6.trans (s7.trans (Ze (o:=.lst ys) hq3));let e8:(upd H7 q3 (.lst ys)) q3=some (.lst ys):=Zg;let e81:=(s7.trans (Ze (o:=.lst ys) hq3)) _ _ e61;let w8:=X2.tk w7 (Ze (o:=.lst ys) hq3).tk;generalize upd H7 q3 (.lst ys)=H8 at s8 e8 e81 w8;let ly:ys.length=bs.length:=by rw[Paired.length w8,Ja]
      exists q1,q3,_,·,rfl,e81,e8,?_,λq4 hq4=>?_
      .rw[Ji,ly];exact Zm ()
      let s9:=s8.trans (Ze (o:=.lst (vs.take n++ys)) hq4);let e9:(upd H8 q4 (.lst (vs.take n++ys))) q4=_:=Zg;let w9:=X2.tk w8 (Ze (o:=.lst (vs.take n++ys)) hq4).tk;generalize upd H8 q4 (.lst (vs.take n++ys))=H9 at s9 e9 w9;exists ·,·,_,·,rfl,·,wl,·,SqL.of (s9 _ _ e5),λq5 hq5=>?_;rw[cut2];let s10:=s9.trans (Ze (o:=.lst (vs.drop (n+1))) hq5);let e10:(upd H9 q5 (.lst (vs.drop (n+1)))) q5=_:=Zg;let e104:=Ze (o:=.lst (vs.drop (n+1))) hq5 _ _ e9;let w10:=X2.tk w9 (Ze (o:=.lst (vs.drop (n+1))) hq5).tk;generalize upd H9 q5 (.lst (vs.drop (n+1)))=H10 at s10 e10 e104 w10
      exists q4,q5,_,·,rfl,e104,e10,?_,λq6 hq6=>?_
      .rw[Jc,Ji,Ge,ly];exact Zm ()
      let s11:=s10.trans (Ze (o:=.lst (vs.take n++ys++vs.drop (n+1))) hq6);let w11:=X2.tk w10 (Ze (o:=.lst (vs.take n++ys++vs.drop (n+1))) hq6).tk;let hsp:ws=ws.take n++ws[n]::ws.drop (n+1):=by
       rw[<-Bi hn2,Gz]
      let ok11:WOk (ws.take n++(bs.map λb=>ws[n]++[b])++ws.drop (n+1)):=Zlu nd (hsp ▸ ok4) ();let ws5:=X2.tk w5 s11.tk;let⟨_,ep5⟩:=Xc h5;let nq6:q6≠p:=Cw (Zr (s10 _ _ ep5) hq6);exists q6,_,_,·,?_,nq6,⟨_,Zg,L2.Paired.app (L2.Paired.drp (n+1) ws5) (L2.Paired.app w11 (L2.Paired.tak n ws5))⟩,ok11,?_,?_,h5.same s11,(g4.trans g5).trans (Grow.same s11)
      .exact(g4.trans g5).free (s10.free hq6) nq6
      .intro z;let:=congrArg Ez z;simp only[Jc,Ja,B0]at this;lia
      .rw[Jc,Jc,Ji,Ge,Ja,Jki,Nat.one_mul];lia
    .exists wl,ws,_,·,nw0,nwp,⟨vs,e5,w5⟩,ok4,ne4,?_,h5,g4.trans g5;rw[Jki];lia
   .rintro σ H4 ⟨wl,ws,v1,v2,rfl,nw0,nwp,⟨vs,e4,w4⟩,ok4,ne4,l4,h4,g4⟩;let lv:=Paired.length w4;let lb:ws.length<=200:=by
     let:n0.toNat*bs.length<=6*24:=B8 () hl;lia
    exists ·,wl,rfl,⟨_,SqL.of e4⟩,Wo (n:=vs.length) (λj ys H'=>∃us:List (List Int),X2 H' ys us/\us.Sublist (ws.take j)/\HandAt H' p a/\Grow p H4 H') ⟨[],.nil,List.nil_sublist _,h4,Grow.refl _ _⟩ ?_ (Zm ()) ?_ ?_ ?_ ?_
    .rintro j ys H' ⟨us,w1,sb,_⟩;let:=sb.length_le;rw[Ji]at this;rw[Paired.length w1];lia
    .rintro j ys H' hj ⟨us,w1,sb,h1,g1⟩;exact Zi4 (g1 _ _ e4 nwp) hj
    .rintro ys H' ⟨us,w1,sb,h1,g1⟩;exact Nv (g1 _ _ e4 nwp) (Jd _)
    .rintro j ys H' hj ⟨us,w1,sb,h1,g1⟩ y H'' hy;let⟨rfl,rfl⟩:=Zc6 (g1 _ _ e4 nwp) hj hy;exists ·,p,a,·,h1,nofun,nofun,λr H6 r0 r1 h6 g6 u6=>⟨_,_,rfl,rfl,_,rfl,?_⟩;let⟨_,ep1⟩:=Xc h1;let hj2:j<ws.length:=by lia
     let tk:(ws.take (j+1))=ws.take j++[ws[j]]:=Jf hj2;refine ite2 (λ_=>?_) (λ_=>?_)
     .exists ·,us++[ws[j]],L2.Paired.snoc ?_ (X2.tk w1 (g6.tk ep1)),by rw[tk];exact sb.append (Jkr _),h6,g1.trans g6;let⟨_,ep4⟩:=Xc h4;exact(L2.Paired.at w4 hj hj2).tk ((g1.trans g6).tk ep4)
     .exists us,X2.tk w1 (g6.tk ep1),by rw[tk];exact sb.trans (List.sublist_append_left _ _),h6,g1.trans g6
    .rintro ys H5 ⟨us,w1,sb,h5,g5⟩ q hq;rw[lv,Jw]at sb;let⟨_,ep5⟩:=Xc h5;let nq:q≠p:=Cw (Zr ep5 hq);let g:=g4.trans g5;refine k q us _ (g.free hq nq) nq ⟨ys,Zg,X2.tk w1 (Ze hq).tk⟩ (ok4.sub sb) ?_ (h5.same (Ze hq)) (g.trans (Grow.same (Ze hq)));let l1:=sb.length_le;let l2:n0.toNat*bs.length<=m.toNat*bs.length:=B8 () (Jd _);let l3:((m.toNat*bs.length:Nat):Int)=m*bs.length:=by rw[Int.natCast_mul];congr 1;lia
     lia
theorem Jcd(T:Txt mg)(Zk:Cal P w K mg base "_law_draw" 1 ["_law_hand","_law_many"] Qc){f:Addr}(F:Fun K "_law_signs" "_law_signs" Jbs f fd):FnOk P w K mg base CX0 2 f fd ["_law_hand","_law_many"] Zha:=by
 refine F.ok Jbd (λvs H Q E h=>?_) (λcdv A outer s H vs Q E hr h=>?_)
 .let⟨p,a,m,rfl,_⟩:=h;rfl
 .let⟨p,a,m,rfl,hh,hm0,hm1,k⟩:=h;let SC:=Jbd;let Zl:Room 1 _:=hr.mono nofun;refine⟨_,(Zd (Zs (i:=2) SC.nd rfl (Ef rfl) (Z0 V9 (Yh Zby (by rfl) T.b_int K9 (Za (Nl Zcx (Zv Zk Zl rfl (Za (pv 0) (Za Zh Zc))) Zh (Z6 _)) Zc)) (Z0 Wd (Z0 V9 (Zv Zk Zl rfl (Za (pv 0) (Za Zh Zc))) (Z0 Zib Zh Zh)) (Zv Zk Zl rfl (Za (pv 0) (Za Zh Zc))))))
 (Zd (Zs (i:=3) SC.nd rfl (Ef rfl) (Z0 Wd Zh (Z1 Xb (Yl (Za Zh (Za (Zv Zk Zl rfl (Za (pv 0) (Za Zh Zc))) (Za (Zv Zk Zl rfl (Za (pv 0) (Za (Z0 Zib Zh Zh) Zc))) Zc)))) (Zv Zk Zl rfl (Za (pv 0) (Za Zh Zc))) (λ_ _=>rfl))))
 (Zd (U9 (i:=4) SC.nd rfl rfl (T:=["_law_k"]) (cs:=[2,3]) rfl (CScope.ok (by kernel_rfl)) (Yg rfl T.b_range (Za (pv 1) Zc)) (λ_ _ _ _=>(Zt (i:=0) (X7 (by kernel_rfl)) rfl (Cb rfl) (Ef rfl))) (λ_ _ _ _=>Y7) (λ_ _ _ _=>(Z0 Wd (pv 1) (Z0 V9 (pv 2) (pv 0)))) (Y8 nofun))
 (Zd (Zs (i:=5) SC.nd rfl (Cb rfl) (Z0 Xh (Zv Zk Zl rfl (Za (pv 0) (Za Zh Zc))) (Zq (Q7 rfl) (by rfl) T.b_max Hu (Za Zh (Za (pv 1) Zc)))))
 (Zd (Zs (i:=4) SC.nd rfl (Cb rfl) (Z0 Px (Ya Wh (pv 4) (Yb (pv 5)) Yu) (Ya Wh (pv 4) Yu (Yb (pv 5)))))
 (Zd (Yt (Z2 Zid (Zv Zk Zl rfl (Za (pv 0) (Za Zh Zc))) Zh (Z6 _))
 (Zi (Zx (Zh8 (pv 4) (Yb (Pj U2 Zh)) (λ_ _=>⟨_,rfl⟩))))
 Zz)
 (Zi (Zx (pv 4))))))))),?_⟩
  exists ·,p,a,·,hh,nofun,nofun,λr1 H1 r10 r11 h1 g1 u1=>⟨_,_,rfl,rfl,.inr ⟨_,rfl,_,rfl,p,a,_,rfl,h1,nofun,nofun,λr2 H2 r20 r21 h2 g2 u2=>⟨_,_,rfl,rfl,⟨nofun,nofun,nofun⟩,_,_,rfl,rfl,.inl ⟨(),()⟩,_,rfl,p,a,_,rfl,h2,nofun,nofun,λr3 H3 r30 r31 h3 g3 u3=>⟨_,_,rfl,rfl,_,_,rfl,rfl,.inl ?_,?_⟩⟩⟩⟩
  .split<;>exact⟨nofun,nofun⟩
  obtain⟨bg,hbg⟩:∃bg:Int,bg=(if decide (0<r1)=true then(1:Int)else 0)*(r2*10 ^ Int.toNat 6+r3):=⟨_,rfl⟩;let g30:=(g1.trans g2).trans g3;exists ·,p,a,·,h3,nofun,nofun,λr4 H4 r40 r41 h4 g4 u4=>⟨_,rfl,_,_,rfl,rfl,⟨nofun,nofun,nofun⟩,p,a,_,rfl,h4,nofun,nofun,λr5 H5 r50 r51 h5 g5 u5=>⟨by show 3<=sizeLine;decide,λlq hlq=>?_⟩⟩;let s6:=Ze (o:=.lst [.int 0,.int r4,.int r5]) hlq;let⟨_,ep5⟩:=Xc h5;let nlq:lq≠p:=Cw (Zr ep5 hlq);let elq:(upd H5 lq (.lst [.int 0,.int r4,.int r5])) lq=_:=Zg;let h6:=h5.same s6;let g60:=g30.trans (g4.trans (g5.trans (Grow.same s6)))
  generalize upd H5 lq (.lst [.int 0,.int r4,.int r5])=H6 at s6 elq h6 g60;exists ·,p,a,·,h6,nofun,nofun,λr6 H7 r60 r61 h7 g7 u7=>?_;let elq7:H7 lq=some (.lst [.int 0,.int r4,.int r5]):=by rw[u7 lq nlq];exact elq
  let⟨v,hv,ev⟩:=Zmp (xs:=[V.int 0,.int r4,.int r5]) r60 (by simpa using r61);obtain⟨c,rfl,hc⟩:∃c:Int,v=.int c/\0<=c:=by
   simp only[Jp,Jhb,or_false]at hv;rcases hv with z|z|z<;>exact⟨_,z,()⟩
  let r51':r5<10000000:=r51;let hc2:c<10000000:=by
   simp only[Jp,Jhb,or_false]at hv;rcases hv with z|z|z<;>injection z with z<;>lia
  exists lq,_,_,·,rfl,SqL.of elq7,ev,_,·,rfl,?_;exists ·,m,rfl,(),(),Wo (n:=m.toNat) (λj ys H'=>H'=H7/\ys=((Eb j).map λk:Nat=>bg+(1+c)*(k:Int)).map V.int) ⟨rfl,rfl⟩ ?_ (Zm ()) ?_ ?_ ?_ ?_
  .rintro j ys H' ⟨rfl,rfl⟩;rw[Ja,Ja,Bj];exact Jd _
  .rintro j ys H' hj _;exact hj
  .rintro ys H' _;exact Jd _
  .rintro j ys H' hj ⟨rfl,rfl⟩ x H8 ⟨rfl,rfl⟩;exists ·,·,·,_,·,rfl,.inl ⟨(),()⟩,_,·,rfl,rfl,?_;rw[Ma,Jg,Jg,Jgq,hbg];rfl
  .rintro ys H' ⟨rfl,rfl⟩ l hl;generalize hss:(Eb m.toNat).map (λk:Nat=>bg+(1+c)*(k:Int))=ss;let nd:ss.Nodup:=by rw[<-hss];exact Zg3 () _
   let ls:(ss.length:Int)=m:=by rw[<-hss,Ja,Bj];lia
   let s8:=Ze (o:=.lst (ss.map V.int)) hl;let e8:(upd H' l (.lst (ss.map V.int))) l=_:=Zg;let⟨_,ep7⟩:=Xc h7;let nl:l≠p:=Cw (Zr ep7 hl);let h8:=h7.same s8;let g80:=(g60.trans g7).trans (Grow.same s8);generalize upd H' l (.lst (ss.map V.int))=H8 at s8 e8 h8 g80;exists ·,p,a,·,h8,nofun,nofun,λr9 H9 r90 r91 h9 g9 u9=>⟨_,rfl,_,_,rfl,_,_,rfl,rfl,?_,?_⟩
   .show(0:Int)<if m > 1 then m else 1
    split<;>lia
   let e9:H9 l=some (.lst (ss.map V.int)):=by rw[u9 l nl];exact e8
   let z0:0<=r9 % (if m > 1 then m else 1):=G8 _ (by split<;>lia);let z1:r9 % (if m > 1 then m else 1)<=ss.length:=by
    rw[ls];let:=Gw r9 (show(0:Int)<if m > 1 then m else 1 by split<;>lia)
    by_cases hm:m > 1
    .rw[De hm]at this⊢;lia
    .rw[Dd hm]at this⊢;lia
   let⟨n,en⟩:=Gn z0;let cut1:cutV (ss.map V.int) (some (r9 % (if m > 1 then m else 1))) none=(ss.drop n).map V.int:=by rw[en,R7 () (by rw[Ja];lia),Fk];rfl
   let cut2:cutV (ss.map V.int) none (some (r9 % (if m > 1 then m else 1)))=(ss.take n).map V.int:=by rw[en,Zbt () (by rw[Ja];lia),Bq];rfl
   exists ·,·,·,l,·,SqL.of e9,λq1 hq1=>?_;rw[cut1];let sA:=Ze (o:=.lst ((ss.drop n).map V.int)) hq1;let eA:(upd H9 q1 (.lst ((ss.drop n).map V.int))) q1=_:=Zg;generalize upd H9 q1 (.lst ((ss.drop n).map V.int))=HA at sA eA;exists ·,·,·,l,·,SqL.of (sA _ _ e9),λq2 hq2=>?_;rw[cut2];let sB:=sA.trans (Ze (o:=.lst ((ss.take n).map V.int)) hq2);let eB:(upd HA q2 (.lst ((ss.take n).map V.int))) q2=_:=Zg;let eB1:=Ze (o:=.lst ((ss.take n).map V.int)) hq2 _ _ eA;generalize upd HA q2 (.lst ((ss.take n).map V.int))=HB at sB eB eB1;exists q1,q2,_,·,rfl,eB1,eB,?_,λq3 hq3=>?_
   .rw[Ja,Ja,Ge,Ji];exact Zm ()
   rw[<-Jg];let nd2:=Pq nd n;let ls2:((ss.drop n++ss.take n).length:Int)=m:=by rw[Jc,Ge,Ji];lia
   generalize ss.drop n++ss.take n=tt at nd2 ls2;let sC:=sB.trans (Ze (o:=.lst (tt.map V.int)) hq3);let eC:(upd HB q3 (.lst (tt.map V.int))) q3=_:=Zg;let⟨_,ep9⟩:=Xc h9;let nq3:q3≠p:=Cw (Zr (sB _ _ ep9) hq3);let n30:H q3=none:=(g80.trans g9).free (sB.free hq3) nq3;let hC:=h9.same sC;let gC:=(g80.trans g9).trans (Grow.same sC);generalize upd HB q3 (.lst (tt.map V.int))=HC at sC eC hC gC;exists ·,p,a,·,hC,nofun,nofun,λrd HD rd0 rd1 hD gD uD=>⟨rfl,_,rfl,?_⟩;let eD:HD q3=some (.lst (tt.map V.int)):=by rw[uD q3 nq3];exact eC
   refine ite2 (λ_=>?_) (λ_=>?_)
   .exists ·,·,·,rfl,q3,·,SqL.of eD,λq4 hq4=>?_;rw[<-Jds];let sE:=Ze (o:=.lst (tt.reverse.map V.int)) hq4;let⟨_,epD⟩:=Xc hD;let nq4:q4≠p:=Cw (Zr epD hq4);exact k q4 tt.reverse _ ((gC.trans gD).free hq4 nq4) nq4 Zg ((Jgf tt).nodup_iff.mpr nd2) (by rw[Ff];exact ls2) (hD.same sE) ((gC.trans gD).trans (Grow.same sE))
   .exists ·,k q3 tt HD n30 nq3 eD nd2 ls2 hD (gC.trans gD)
theorem Dp(T:Txt mg)(Zk:Cal P w K mg base "_law_draw" 1 ["_law_hand","_law_many"] Qc){f:Addr}(F:Fun K "_law_table" "_law_table" Jal f fd):FnOk P w K mg base CX0 2 f fd ["_law_hand","_law_words_here","_law_signs_here"] Zg9:=by
 refine F.ok Jcn (λvs H Q E h=>?_) (λcdv A outer s H vs Q E hr h=>?_)
 .let⟨p,a,wa,sa,ws,ss,rfl,_⟩:=h;rfl
 .let⟨p,a,wa,sa,ws,ss,rfl,hh,⟨vs,ew,pw⟩,nwp,ok,lw,es,nsp,nd,lws,l100,k⟩:=h;let SC:=Jcn;let Zl:Room 1 _:=hr.mono nofun;let lv:=Paired.length pw;refine⟨_,(Zd (Zs (i:=3) SC.nd rfl (Cb rfl) (Z0 Xh (Zv Zk Zl rfl (Za (pv 0) (Za Zh Zc))) (Zq (Q7 rfl) (by rfl) T.b_max Hu (Za Zh (Za (Zq Y9 (by rfl) T.b_len Di (Za (pv 2) Zc)) Zc)))))
 (Zd (Zs (i:=4) SC.nd rfl (Ef rfl) (Z0 Px (Ya Wh (pv 2) (Yb (pv 3)) Yu) (Ya Wh (pv 2) Yu (Yb (pv 3)))))
 (Zd (U9 (i:=5) SC.nd rfl rfl (T:=["_law_k"]) (cs:=[4,1]) rfl (CScope.ok (by kernel_rfl)) (Yg rfl T.b_range (Za (Zq Y9 (by rfl) T.b_len Di (Za (pv 1) Zc)) Zc)) (λ_ _ _ _=>(Zt (i:=0) (X7 (by kernel_rfl)) rfl (Cb rfl) (Ef rfl))) (λ_ _ _ _=>Y7) (λ_ _ _ _=>(Y6 (Za (Z1 (Zfb (K:=K) rfl) (pv 1) (pv 0) (λ_ _=>rfl)) (Za (Z1 (Zfb (K:=K) rfl) (pv 2) (pv 0) (λ_ _=>rfl)) Zc)))) (Y8 nofun))
 (Zd (Yt (Z2 Zid (Zv Zk Zl rfl (Za (pv 0) (Za Zh Zc))) Zh (Z6 _))
 (Zi (Zx (Zh8 (pv 5) (Yb (Pj U2 Zh)) (λ_ _=>⟨_,rfl⟩))))
 Zz)
 (Zi (Zx (pv 5))))))),?_⟩
  exists ·,p,a,·,hh,nofun,nofun,λr9 H9 r90 r91 h9 g9 u9=>⟨_,rfl,_,_,rfl,.inl ⟨_,SqL.of (show H9 sa=some (.lst (ss.map V.int))by rw[u9 sa nsp];exact es),rfl⟩,_,_,rfl,_,_,rfl,rfl,?_,?_⟩
  .show(0:Int)<if(((ss.map V.int).length:Nat):Int) > 1 then(((ss.map V.int).length:Nat):Int)else 1
   split<;>lia
  rw[Ja];let e9:H9 sa=some (.lst (ss.map V.int)):=by rw[u9 sa nsp];exact es
  let w9:H9 wa=some (.lst vs):=by rw[u9 wa nwp];exact ew
  let⟨_,ep⟩:=Xc hh;let pw9:=X2.tk pw (g9.tk ep);let z0:0<=r9 % (if((ss.length:Nat):Int) > 1 then((ss.length:Nat):Int)else 1):=G8 _ (by split<;>lia);let z1:r9 % (if((ss.length:Nat):Int) > 1 then((ss.length:Nat):Int)else 1)<=ss.length:=by
   let:=Gw r9 (show(0:Int)<if((ss.length:Nat):Int) > 1 then((ss.length:Nat):Int)else 1 by split<;>lia)
   by_cases hm:((ss.length:Nat):Int) > 1
   .rw[De hm]at this⊢;lia
   .rw[Dd hm]at this⊢;lia
  let⟨n,en⟩:=Gn z0;let cut1:cutV (ss.map V.int) (some (r9 % (if((ss.length:Nat):Int) > 1 then((ss.length:Nat):Int)else 1))) none=(ss.drop n).map V.int:=by rw[en,R7 () (by rw[Ja];lia),Fk];rfl
  let cut2:cutV (ss.map V.int) none (some (r9 % (if((ss.length:Nat):Int) > 1 then((ss.length:Nat):Int)else 1)))=(ss.take n).map V.int:=by rw[en,Zbt () (by rw[Ja];lia),Bq];rfl
  exists ·,·,·,sa,·,SqL.of e9,λq1 hq1=>?_;rw[cut1];let sA:=Ze (o:=.lst ((ss.drop n).map V.int)) hq1;let eA:(upd H9 q1 (.lst ((ss.drop n).map V.int))) q1=_:=Zg;generalize upd H9 q1 (.lst ((ss.drop n).map V.int))=HA at sA eA;exists ·,·,·,sa,·,SqL.of (sA _ _ e9),λq2 hq2=>?_;rw[cut2];let sB:=sA.trans (Ze (o:=.lst ((ss.take n).map V.int)) hq2);let eB:(upd HA q2 (.lst ((ss.take n).map V.int))) q2=_:=Zg;let eB1:=Ze (o:=.lst ((ss.take n).map V.int)) hq2 _ _ eA;generalize upd HA q2 (.lst ((ss.take n).map V.int))=HB at sB eB eB1;exists q1,q2,_,·,rfl,eB1,eB,?_,λq3 hq3=>?_
  .rw[Ja,Ja,Ge,Ji];exact Zm ()
  rw[<-Jg];let nd2:=Pq nd n;let ls2:(ss.drop n++ss.take n).length=ss.length:=by rw[Jc,Ge,Ji];lia
  generalize ss.drop n++ss.take n=tt at nd2 ls2;let sC:=sB.trans (Ze (o:=.lst (tt.map V.int)) hq3);let eC:(upd HB q3 (.lst (tt.map V.int))) q3=_:=Zg;let hC:=h9.same sC;let gC:=g9.trans (Grow.same sC);let wC:=sC _ _ w9;let pwC:=X2.tk pw9 sC.tk;generalize upd HB q3 (.lst (tt.map V.int))=HC at sC eC hC gC wC pwC;exists ·,_,·,.inl ⟨_,SqL.of wC,rfl⟩,(vs.length:Int),rfl,(),(),Wo (n:=((vs.length:Nat):Int).toNat) (λj ys H'=>ys.length=j/\Same HC H'/\Prs H' ys ((tt.zip ws).take j)) ⟨rfl,.refl _,by rw[G9];exact .nil⟩ ?_ (Zm ()) ?_ ?_ ?_ ?_
  .rintro j ys H' ⟨e,_⟩;exact Bv e
  .rintro j ys H' hj _;exact hj
  .rintro ys H' _;exact Jd _
  .rintro j ys H' hj ⟨e,s1,w1⟩ y H'' ⟨rfl,rfl⟩;let hj1:j<vs.length:=by lia
   let⟨hj2,t,ev,et⟩:=X2.take1 pwC hj1;let hj3:j<tt.length:=by lia
   let hz:j<(tt.zip ws).length:=by rw[Bc];lia
   exists ·,·,q3,_,_,·,rfl,SqL.of (s1 _ _ eC),Zad (v:=V.int tt[j]) (by rw[Jx,Jb hj3];rfl),·,·,wa,_,_,·,rfl,SqL.of (s1 _ _ wC),Zad (v:=.ref t) (by rw[Jb hj1,ev]),by show 2<=sizeLine;decide,λq hq=>?_;exists by rw[Jc,e];rfl,s1.trans (Ze hq),?_;rw[Jf hz];refine L2.Paired.snoc ⟨q,t,rfl,?_,?_⟩ (Prs.tk w1 (Ze hq).tk)
   .rw[Zg,Gs]
   .rw[Gs];exact Ze hq _ _ (s1 _ _ et)
  .rintro ys H1 ⟨e,s1,w1⟩ q hq;let ez:(tt.zip ws).take ((vs.length:Nat):Int).toNat=tt.zip ws:=Gd (by rw[Bc];lia);rw[ez]at w1;let sD:=s1.trans (Ze (o:=.lst ys) hq);let eD:(upd H1 q (.lst ys)) q=_:=Zg;let wD:=Prs.tk w1 (Ze (o:=.lst ys) hq).tk;let⟨_,epC⟩:=Xc hC;let nq:q≠p:=Cw (Zr (s1 _ _ epC) hq);let nq0:H q=none:=gC.free (s1.free hq) nq;let hD:=hC.same sD;let gD:=gC.trans (Grow.same sD);generalize upd H1 q (.lst ys)=HD at sD eD wD hD gD;let fr:Free (tt.zip ws):=ok.free nd2;let sn:(tt.zip ws).map (·.2)=ws:=by
    let:=Jg4 (l₁:=tt) (l₂:=ws) ();exact this
   let fi:Fits (tt.zip ws):=⟨by rw[Bc];lia,λp hp=>ok.2 _ (by rw[<-sn];exact Jo.mpr ⟨p,hp,rfl⟩)⟩;exists ·,p,a,·,hD,nofun,nofun,λrd HE rd0 rd1 hE gE uE=>⟨rfl,_,rfl,?_⟩;let eE:HE q=some (.lst ys):=by rw[uE q nq];exact eD
   let⟨_,epD⟩:=Xc hD;let wE:=Prs.tk wD (gE.tk epD);refine ite2 (λ_=>?_) (λ_=>?_)
   .exists ·,·,·,rfl,q,·,SqL.of eE,λq4 hq4=>?_;let sF:=Ze (o:=.lst ys.reverse) hq4;let⟨_,epE⟩:=Xc hE;let nq4:q4≠p:=Cw (Zr epE hq4);refine k q4 (tt.zip ws).reverse _ ((gD.trans gE).free hq4 nq4) nq4 ⟨_,Zg,Prs.tk (L2.Paired.rev wE) sF.tk⟩ fr.rev ⟨by rw[Ff];exact fi.1,λp hp=>fi.2 p (List.mem_reverse.mp hp)⟩ ?_ (hE.same sF) ((gD.trans gE).trans (Grow.same sF));rw[Jds,sn];exact Jgf _
   .exists ·,k q (tt.zip ws) HE nq0 nq ⟨_,eE,wE⟩ fr fi (by rw[sn]) hE (gD.trans gE)
theorem Jah(T:Txt mg)(Zk:Cal P w K mg base "_law_draw" 1 ["_law_hand","_law_many"] Qc){f:Addr}(F:Fun K "_law_text" "_law_text" Jcl f fd):FnOk P w K mg base CX0 2 f fd ["_law_hand","_law_signs_here","_law_most"] Zm0:=by
 refine F.ok Jbo (λvs H Q E h=>?_) (λcdv A outer s H vs Q E hr h=>?_)
 .let⟨p,a,sa,ss,m,rfl,_⟩:=h;rfl
 .let⟨p,a,sa,ss,m,rfl,hh,es,nsp,hm0,hm1,k⟩:=h;let SC:=Jbo;let hu:=hr.units;let Zl:Room 1 _:=hr.mono nofun;refine⟨_,(Zd (Yt (Z2 (Zem hu) (pv 1) (Yl Zc) (Z6 _))
 (Zi (Zx (Yl Zc)))
 Zz)
 (Zi (Zx (Xk (T:=["_law_k"]) (cs:=[1,0]) rfl (CScope.ok (by kernel_rfl)) (Yg rfl T.b_range (Za (Zv Zk Zl rfl (Za (pv 0) (Za (Z0 Wd (pv 2) Zh) Zc))) Zc)) (λ_ _ _ _=>(Zt (i:=0) (X7 (by kernel_rfl)) rfl (Cb rfl) (Ef rfl))) (λ_ _ _ _=>Y7) (λ_ _ _ _=>(Z1 (Zfb (K:=K) rfl) (pv 1) (Z0 Xh (Zv Zk Zl rfl (Za (pv 2) (Za Zh Zc))) (Zq (Y3 (K:=K) rfl) (by rfl) T.b_len Di (Za (pv 1) Zc))) (λ_ _=>rfl))) (Y8 nofun))))),?_⟩
  exists ·,by show 0<=sizeLine;decide,λq0 hq0=>?_;let s1:=Ze (o:=.lst []) hq0;exists _,_,DV.lst (SqL.of (s1 _ _ es)) (Ty ss),DV.lst (SqL.of Zg) .nil,(Ro ss).shaped nofun,(Ro []).shaped nofun,·,?_;let h1:=hh.same s1;generalize upd H q0 (.lst [])=H1 at s1 h1;let en:Co (.list (ss.map C7)) (.list [])=decide (ss=[]):=Zqh ss [];rw[en];let⟨_,ep⟩:=Xc hh;refine ite2 (λhz=>?_) (λhz=>?_)
  .exists by show 0<=sizeLine;decide,λq hq=>?_;let s2:=s1.trans (Ze (o:=.lst []) hq);let nq:q≠p:=Cw (Zr (s1 _ _ ep) hq);exact k q [] _ (s1.free hq) nq Zg (λ_ z=>nomatch z) (by simpa using hm0) (hh.same s2) (Grow.same s2)
  .let hne:ss≠[]:=of_decide_eq_false (Li _ ▸ hz);exists ·,·,_,·,rfl,p,a,·,h1,(),(),λn0 H2 n00 n01 h2 g2 u2=>?_;let es2:=g2 _ _ (s1 _ _ es) nsp;exists n0,rfl,(),(),Wo (n:=n0.toNat) (λj ys H'=>∃ts:List Int,ys=ts.map V.int/\ts.length=j/\(∀t∈ts,t∈ss)/\HandAt H' p a/\Grow p H2 H') ⟨[],rfl,rfl,(λ_ z=>nomatch z),h2,Grow.refl _ _⟩ ?_ (Zm ()) ?_ ?_ ?_ ?_
   .rintro j ys H' ⟨ts,rfl,rfl,_⟩;rw[Ja];exact Jd _
   .rintro j ys H' hj _;exact hj
   .rintro ys H' _;exact Jd _
   .rintro j ys H3 hj ⟨ts,rfl,rfl,hm,h3,g3⟩ y H'' ⟨rfl,rfl⟩;exists ·,·,p,a,·,h3,nofun,nofun,λr H4 r0 r1 h4 g4 u4=>?_;let es4:=(g3.trans g4) _ _ es2 nsp;let⟨c,hc,hat⟩:=Zac hne r;exists ·,_,·,.inl ⟨_,SqL.of es4,rfl⟩,_,·,rfl,?_,sa,_,_,·,rfl,SqL.of es4,hat,?_
    .rw[Ja];let:=Gm.mpr hne;lia
    exists ts++[c],by rw[Jg];rfl,by rw[Jc];rfl,λt ht=>?_,h4,g3.trans g4;rcases Gb.mp ht with ht|ht
    .exact hm t ht
    .rw[Jj.mp ht];exact hc
   .rintro ys H3 ⟨ts,rfl,lt,hm,h3,g3⟩ q hq;let g:=((Grow.same s1).trans g2).trans g3;let⟨_,ep3⟩:=Xc h3;let nq:q≠p:=Cw (Zr ep3 hq);exact k q ts _ (g.free hq nq) nq Zg hm () (h3.same (Ze hq)) (g.trans (Grow.same (Ze hq)))
theorem Jdg(T:Txt mg){f:Addr}(F:Fun K "odds_between" "odds_between" W1 f fd):FnOk P w K mg base CX0 1 f fd ["one","other"] Zm2:=by
 refine F.ok Do (λvs H Q E h=>?_) (λcdv A outer s H vs Q E hr h=>?_)
 .let⟨v1,v2,p,q,rfl,_⟩:=h;rfl
 .let⟨v1,v2,p,q,rfl,⟨t1,w1,rfl,a1,b1⟩,⟨t2,w2,rfl,a2,b2⟩,l1,l2,k⟩:=h;let SC:=Do;let hu:=hr.units;refine⟨_,(Zd (Yt (Z2 Zid (Z1 Ts (pv 0) Zh (λ_ _=>rfl)) (Z1 Ts (pv 1) Zh (λ_ _=>rfl)) (Z6 _))
 (Zi (Zx Wk))
 Zz)
 (Zd (Zs (i:=2) SC.nd rfl (Cb rfl) (Zq (Q6 rfl) (by rfl) T.b_min La (Za (Zq Y9 (by rfl) T.b_len Di (Za (Z1 Ts (pv 0) Zh (λ_ _=>rfl)) Zc)) (Za (Zq Y9 (by rfl) T.b_len Di (Za (Z1 Ts (pv 1) Zh (λ_ _=>rfl)) Zc)) Zc))))
 (Zd (Yt (Z2 (Zem hu) (Ya Zcf (Z1 Ts (pv 0) Zh (λ_ _=>rfl)) Yu (Yb (pv 2))) (Ya Zcf (Z1 Ts (pv 1) Zh (λ_ _=>rfl)) Yu (Yb (pv 2))) (Z6 _))
 (Zi (Zx Wk))
 Zz)
 (Zi (Zx S0))))),?_⟩
  exists ·,t1,_,_,·,rfl,SqT.of a1,rfl,·,t2,_,_,·,rfl,SqT.of a2,rfl,rfl,·,?_;refine ite2 (λh=>?_) (λh=>?_)
  .let e:p.1=q.1:=by simpa using h
   let o:Zig p q=.str (Cv "twice"):=De e;let kk:=k H (.refl _);rw[o]at kk;exact kk
  .let e:¬ p.1=q.1:=by simpa using h
   refine⟨_,rfl,t1,_,_,_,rfl,rfl,SqT.of a1,rfl,_,_,rfl,.inr ⟨_,SqT.of b1,rfl⟩,_,rfl,t2,_,_,_,rfl,rfl,SqT.of a2,rfl,_,_,rfl,.inr ⟨_,SqT.of b2,rfl⟩,_,_,rfl,?_⟩;rw[Ja,Ja,Zpv];refine⟨_,rfl,t1,_,_,_,rfl,rfl,SqT.of a1,rfl,_,rfl,_,rfl,Zhv b1 (Jfs _) () λu1 H1 s1 e1=>⟨_,rfl,t2,_,_,_,rfl,rfl,SqT.of (s1 _ _ a2),rfl,_,rfl,_,rfl,Zhv (s1 _ _ b2) (Jfs _) () λu2 H2 s2 e2 =>
    ⟨_,_,DV.tup (SqT.of (s2 _ _ e1)) (Ty _),DV.tup (SqT.of e2) (Ty _),(Zar _).shaped nofun,(Zar _).shaped nofun,_,rfl,?_⟩⟩⟩
   rw[Zqf,Fo];let kk:=k H2 (s1.trans s2);unfold Zig at kk;rw[Dd e]at kk;refine ite2 (λh=>?_) (λh=>?_)
   .rw[De (of_decide_eq_true h)]at kk;exact kk
   .rw[Dd (λz=>h (Df z))]at kk;exact kk
theorem D4(T:Txt mg)(W8:Cal P w K mg base "odds_between" 1 ["one","other"] Zm2){f:Addr}(F:Fun K "fault" "fault" Zck f fd):FnOk P w K mg base CX0 2 f fd ["table"] Tm:=by
 refine F.ok Dz (λvs H Q E h=>?_) (λcdv A outer s H vs Q E hr h=>?_)
 .let⟨a,L,rfl,_⟩:=h;rfl
 .let⟨a,L,rfl,⟨vs,ea,pa⟩,fr,⟨hl,hw⟩,k⟩:=h;let SC:=Dz;let Qw:Room 1 _:=hr.mono nofun;let lv:=Paired.length pa;refine⟨_,(Zd (Yr Cd rfl (Yg rfl T.b_range (Za (Zq Y9 (by rfl) T.b_len Di (Za (pv 0) Zc)) Zc)) (Zt (i:=1) SC.nd rfl (Cb rfl))
 (Zi (Yr Cd rfl (Yg rfl T.b_range (Za (pv 1) Zc)) (Zt (i:=2) SC.nd rfl (Cb rfl))
 (Zd (Zs (i:=3) SC.nd rfl (Cb rfl) (Zv W8 Qw rfl (Za (Z1 Xb (pv 0) (pv 2) (λ_ _=>rfl)) (Za (Z1 Xb (pv 0) (pv 1) (λ_ _=>rfl)) Zc))))
 (Zi (Yt (Va (Nm (pv 3)))
 (Zi (Zx (Y6 (Za (pv 3) (Za (pv 2) (Za (pv 1) Zc))))))
 Zz))))))
 (Zi (Zx S0))),?_⟩
  exists ·,_,·,.inl ⟨_,SqL.of ea,rfl⟩,(vs.length:Int),rfl,(),(),Tv (n:=vs.length) (λj σ H'=>∃v1 v2 v3,σ=[some (.ref a),v1,v2,v3]/\Same H H') ⟨_,_,_,rfl,.refl _⟩ ?_ ?_
  .rintro j σ H1 hj ⟨v1,v2,v3,rfl,s1⟩;exists ·,(0+(j:Int)),rfl,(),(),Tv (n:=(0+(j:Int)).toNat) (λi σ H'=>∃v2 v3,σ=[some (.ref a),some (.int (0+(j:Int))),v2,v3]/\Same H H') ⟨_,_,rfl,s1⟩ ?_ ?_
   .rintro i σ H2 hi ⟨v2,v3,rfl,s2⟩;let hij:i<j:=by lia
    let h1:=Paired.at pa (i:=i) () ();let h2:=Paired.at pa (i:=j) hj ();exists ·,·,a,_,_,·,rfl,SqL.of (s2 _ _ ea),(Zad (Jb (by lia:i<vs.length))),·,·,a,_,_,·,rfl,SqL.of (s2 _ _ ea),(Zad (Jb hj)),_,_,_,·,h1.tk s2.tk,h2.tk s2.tk,?_,?_,λH3 s3=>?_
    .exact J8 (hw _ (Jl _)).2 nofun
    .exact J8 (hw _ (Jl _)).2 nofun
    .rw[Zft (fr.get () () hij)];exists ·,·,Ztz rfl ?_;exists _,·,s2.trans s3
   .rintro σ H2 ⟨v2,v3,rfl,s2⟩;exists _,_,·,s2
  .rintro σ H1 ⟨v1,v2,v3,rfl,s1⟩;exact k H1 s1
def Jcw(T:Txt mg)(Zdx:Cal P w K mg base "fault" 2 ["table"] Tm){f:Addr}(F:Fun K "refuse_fault" "refuse_fault" W0 f fd):FnOk P w K mg base CX0 3 f fd ["table"] Tm:=by
 refine F.ok Jax (λvs H Q E h=>?_) (λcdv A outer s H vs Q E hr h=>?_)
 .let⟨a,L,rfl,_⟩:=h;rfl
 .let⟨a,L,rfl,ta,fr,fi,k⟩:=h;let SC:=Jax;let Zma:Room 2 _:=hr.mono nofun;refine⟨_,(Zd (Zs (i:=1) SC.nd rfl (Cb rfl) (Zv Zdx Zma rfl (Za (pv 0) Zc)))
 (Zd (Yt (Va (Za0 (pv 1)))
 (Zi Zpd)
 Zz)
 (Zd (Yt (Z2 Zid (Z1 Ts (pv 1) Zh (λ_ _=>rfl)) Wk (Z6 _))
 (Zi Ru)
 Zz)
 (Zi Ru)))),?_⟩
  exists ·,a,L,rfl,ta,fr,fi,λH1 s1=>?_;exists ·,·,iteT (k H1 s1)
theorem Dm(T:Txt mg){f:Addr}(F:Fun K "beginnings" "beginnings" V5 f fd):FnOk P w K mg base CX0 1 f fd ["words"] Zhe:=by
 refine F.ok D0 (λvs H Q E h=>?_) (λcdv A outer s H vs Q E hr h=>?_)
 .let⟨a,vws,ws,rfl,_⟩:=h;rfl
 .let⟨a,vws,ws,rfl,ea,pa,hl,hw,k⟩:=h;let SC:=D0;let hu1:=X0 hr;let lv:=Paired.length pa;refine⟨_,(Zd (Zs (i:=1) SC.nd rfl (Cb rfl) Zej)
 (Zd (Yr Cd rfl (Yv (pv 0)) (Zt (i:=2) SC.nd rfl (Cb rfl))
 (Zi (Yr Cd rfl (Yg rfl T.b_range (Za (Zq Y9 (by rfl) T.b_len Di (Za (pv 2) Zc)) Zc)) (Zt (i:=3) SC.nd rfl (Cb rfl))
 (Zi (Sc hu1 (pv 1) (Ya Zse (pv 2) Yu (Yb (pv 3))) V2 rfl)))))
 (Zi (Zx (pv 1))))),?_⟩
  refine λd hd=>?_;let nad:a≠d:=Zr ea hd;let ea1:(upd H d (.dT [])) a=some (.lst vws):=by rw[Zn nad];exact ea
  refine⟨_,rfl,a,rfl,⟨_,SqL.of ea1⟩,Zme (xs:=vws) (λi σ H'=>∃v2 v3 kvs,σ=[some (.ref a),some (.ref d),v2,v3]/\(∀b o,H b=some o->H' b=some o)/\H' d=some (.dT kvs)/\kvs.length<=8*i/\Su kvs (ws.take i) [] 0)
   ⟨_,_,[],rfl,Ze hd,Zg,Jd _,by rw[G9];exact Su.nil _⟩ ?_ ?_ ?_⟩
  .rintro i σ H1 hi ⟨v2,v3,kvs,rfl,s1,ed,hk,hb⟩;exact SqL.of (s1 _ _ ea)
  .rintro i x σ H1 hx ⟨v2,v3,kvs,rfl,s1,ed,hk,hb⟩;let hi:i<vws.length:=(Je.mp hx).1;let hi2:i<ws.length:=by lia
   let⟨tw,ex,ew⟩:=Paired.at pa hi hi2;let ex2:x=V.ref tw:=by rw[<-ex];exact(Je.mp hx).2.symm
   subst ex2;let hwl:ws[i].length<=4:=hw _ (Jl hi2);let en:(((ws[i].map V.int).length:Nat):Int).toNat=ws[i].length:=by rw[Ja];exact Fo _
   refine⟨_,rfl,_,_,rfl,.inr ⟨_,SqT.of (s1 _ _ ew),rfl⟩,(((ws[i].map V.int).length:Nat):Int),rfl,by rw[Ja];lia,by rw[Ja];lia,
    Tv (n:=(((ws[i].map V.int).length:Nat):Int).toNat) (λn σ H'=>∃v3 kvs,σ=[some (.ref a),some (.ref d),some (.ref tw),v3]/\(∀b o,H b=some o->H' b=some o)/\H' d=some (.dT kvs)/\kvs.length<=8*i+n/\Su kvs (ws.take i) ws[i] n) ⟨_,kvs,rfl,s1,ed,hk,?_⟩ ?_ ?_⟩
   .intro u;rw[hb u];refine decide_eq_decide.mpr ⟨λz=>?_,λz=>?_⟩
    .rcases z with z|⟨_,z⟩
     .exact .inl z
     .exact absurd z (G0 _)
    .rcases z with z|⟨_,z⟩
     .exact .inl z
     .exact absurd z (G0 _)
   .rintro n σ H2 hn ⟨v3,kvs2,rfl,s2,ed2,hk2,hb2⟩;rw[en]at hn;let hcut:cutV (ws[i].map V.int) none (some (0+(n:Int)))=(wk (ws[i].take n)).map kV:=by
     rw[Zdl _ () (),Zn4]
     congr 2
     lia
    exists ·,·,·,·,tw,·,SqT.of (s2 _ _ ew),?_,λp hp=>?_
    .rintro⟨_,z⟩;rw[show(some (0+(n:Int)))=some ((n:Nat):Int)by congr 1;lia,HT.sIx_nat,Ja]at z;lia
    .rw[hcut];let npd:d≠p:=Zr ed2 hp;let hz:kvs2.length<sizeLine:=Bn (J8 hk2 ()) (show 1000<sizeLine by decide);exists d,·,DPut.t (k:=wk (ws[i].take n)) (by rw[Zn npd];exact ed2) Zg hz,?_;exists _,·,λb o e=>?_,Zg,?_,hb2.put (B3 hn)
     .let nb:b≠d:=Zr e hd;rw[Zn nb];exact Ze hp b o (s2 b o e)
     .let:=Xa kvs2 (wk (ws[i].take n)) (V.bl true);lia
   .rintro σ H2 ⟨v3,kvs2,rfl,s2,ed2,hk2,hb2⟩;rw[en]at hk2 hb2;exists _,_,kvs2,rfl,s2,ed2,(),?_;rw[Jf hi2];exact hb2.next _
  .rintro σ H1 ⟨v2,v3,kvs,rfl,s1,ed,hk,hb⟩;exists ·,k d kvs H1 s1 hd ed ?_;rw[lv,Jw]at hb;exact hb.done
abbrev lamQ:Str:=Cv "Code.__init__"++".<locals>."++"<lambda>"
abbrev lamP:Pos:=⟨127,45,127,65⟩
structure CodeT(K:Cm)(C:Addr):Prop where
 cl:Cls K C
 n_pairs:Xi K C "pairs"
 n_words_by_sign:Xi K C "words_by_sign"
 n_signs_by_word:Xi K C "signs_by_word"
 n_begun:Xi K C "begun"
 n_word_sizes:Xi K C "word_sizes"
structure St5(C Pt:Addr)(H Hc:Hp)(x dx tp:Addr)(fs:List (Str×V))(M:List PK3):Prop where
 g:∀b o,b≠x->b≠Pt->H b=some o->Hc b=some o
 tb:Uf Pt lamP lamQ Hc
 ex:Hc x=some (.ins C dx fs)
 etp:Hc tp=some (.tup (M.map (·.v)))
 at_:∀e∈M,e.At Hc
def St5.same{Hc Hn:Hp}{x:Addr}{fs:List (Str×V)}{M:List PK3}(h:St5 C Pt H Hc x dx tp fs M)(s:Same Hc Hn):St5 C Pt H Hn x dx tp fs M :=
 ⟨λb o n1 n2 e=>s _ _ (h.g b o n1 n2 e),h.tb.same s,s _ _ h.ex,s _ _ h.etp,λe he=>(h.at_ e he).tk s.tk⟩
def St5.fld{Hc:Hp}{x:Addr}{fs fs':List (Str×V)}{M:List PK3}(h:St5 C Pt H Hc x dx tp fs M):St5 C Pt H (upd Hc x (.ins C dx fs')) x dx tp fs' M:=by
 let gr:Grow x Hc (upd Hc x (.ins C dx fs')):=λb o e n=>by rw[Zn n];exact e
 exists λb o n1 n2 e=>gr _ _ (h.g b o n1 n2 e) n1,h.tb.grow h.ex gr,Zg,gr _ _ h.etp (Wa h.etp h.ex λz=>by cases z),λe he=>(h.at_ e he).tk (gr.tkI h.ex)
theorem St5.new{Hc:Hp}{x:Addr}{fs:List (Str×V)}{M:List PK3}(h:St5 C Pt H Hc x dx tp fs M){d:Addr}(hd:Hc d=none):H d=none:=by
 cases e:H d with
 |none=>rfl
 |some o =>
  let⟨ps,eP,_⟩:=h.tb;rw[h.g d o (λz=>by rw[z,h.ex]at hd;cases hd) (λz=>by rw[z,eP]at hd;cases hd) e]at hd;cases hd
theorem Se{α γ:Type}{F:α->β->Prop}{f:γ->α}{g:γ->β}:∀{M:List γ},(∀e∈M,F (f e) (g e))->Paired F (M.map f) (M.map g)
 |[],_=>.nil
 |e::r,h=>.cons (h e Jn) (Se λx hx=>h x (Jk _ hx))
theorem Sd{α γ δ:Type}{F:α->γ->Prop}{G:β->δ->Prop}{f:α->β}{g:γ->δ}(h:∀a c,F a c->G (f a) (g c)):∀{l:List α}{m:List γ},Paired F l m->Paired G (l.map f) (m.map g):=by
 intro _ _ hz9;cases hz9 with
 |nil=>
  exact .nil
 |cons a r=>
  exact .cons (h _ _ a) (Sd h r)
theorem Jcj(T:Txt mg){c:Addr}(CT:CodeT K C)(hCd:W.CodeHd base c Pt)(hBm:Bm mg base)(W7:Cal P w K mg base "refuse_fault" 3 ["table"] Tm)(Uk:Cal P w K mg base "beginnings" 1 ["words"] Zhe){f:Addr}{oc:Value}{od an:Option Addr}{osl:Array (Option Value)}{kW doc pm ct:Value}(lk:K.lookup f=some ⟨oc,od,.func (Jer "__init__" "Code.__init__" (Wn Z5) (Xg Z5) (Zp Z5) .none kW doc pm an (.ref c) ct),osl⟩)(hcd:Jfd K (.ref c) "Code.__init__"=true) :
  FnOk P w K mg base CX0 4 f (Jer "__init__" "Code.__init__" (Wn Z5) (Xg Z5) (Zp Z5) .none kW doc pm an (.ref c) ct) ["self","table"] (L3.Nb C Pt lamP lamQ):=by
 refine Fun.okC lk hcd Jcc (λvs H Q E h=>?_) (λA outer s H vs Q E hr h=>?_)
 .let⟨x,a,dx,L,rfl,_⟩:=h;rfl
 .let⟨x,a,dx,L,rfl,ex,⟨vs,ea,pa⟩,fr,⟨hl,hw⟩,tb,k⟩:=h;let SC:=Jcc;let Qv:Room 3 _:=hr.mono nofun;let Nx:Room 1 _:=hr.mono nofun;let Zi8:Room 3 _:=hr.mono nofun;let Zdb:Room 3 _:=hr.mono nofun;let hcode:(cxOf CX0 P w K mg base ["self","table"] "Code.__init__" (Zp Z5) f (.ref c) A outer s H E).nox.env.code=.ref c:=rfl;refine⟨_,(Zd (Xj (Zv W7 Qv rfl (Za (pv 1) Zc)))
 (Zd (Qh (pv 0) (Yh Wf (by rfl) T.b_tuple C4 (Za (Zlv Zi8 rfl T.b_sorted (Za (pv 1) Zc) hcode hCd hBm rfl rfl (by rfl') (λ_ _ _ _=>rfl) (λ_ _ _ _ _ _=>(Z1 (Zus (K:=K) rfl) (pv 0) Zh (λ_ _=>rfl)))) Zc)) rfl)
 (Zd (Qh (pv 0) (Yh (Ue Zdb rfl) (by rfl) T.b_dict Kr (Za (Vb (pv 0) rfl) Zc)) rfl)
 (Zd (Qh (pv 0) (Yh (Ue Zdb rfl) (by rfl) T.b_dict Kr (Za (Xk (T:=["sign","word"]) (cs:=[]) rfl (CScope.ok (by kernel_rfl)) (Pw (Vb (pv 0) rfl)) (λ_ _ _ _=>(Vx (n:=2) rfl (Yc (Zt (i:=0) (X7 (by kernel_rfl)) rfl (Cb rfl) (Ef rfl)) (Yc (Zt (i:=1) (X7 (by kernel_rfl)) rfl (Cb rfl) (Ef rfl)) X9)) (by rfl))) (λ_ _ _ _=>Y7) (λ_ _ _ _=>(Y6 (Za (pv 1) (Za (pv 0) Zc)))) (Zev (Ww nofun (Ww nofun N4)))) Zc)) rfl)
 (Zd (Qh (pv 0) (Zv Uk Nx rfl (Za (Xk (T:=["sign","word"]) (cs:=[]) rfl (CScope.ok (by kernel_rfl)) (Pw (Vb (pv 0) rfl)) (λ_ _ _ _=>(Vx (n:=2) rfl (Yc (Zt (i:=0) (X7 (by kernel_rfl)) rfl (Cb rfl) (Ef rfl)) (Yc (Zt (i:=1) (X7 (by kernel_rfl)) rfl (Cb rfl) (Ef rfl)) X9)) (by rfl))) (λ_ _ _ _=>Y7) (λ_ _ _ _=>(pv 1)) (Zev (Ww nofun (Ww nofun N4)))) Zc)) rfl)
 (Zi (Qh (pv 0) (Yh Wf (by rfl) T.b_tuple C4 (Za (Zq (Sj rfl) (by rfl) T.b_sorted He (Za (Yh (Ue Zdb rfl) (by rfl) T.b_dict Kr (Za (Xk (T:=["sign","word"]) (cs:=[]) rfl (CScope.ok (by kernel_rfl)) (Pw (Vb (pv 0) rfl)) (λ_ _ _ _=>(Vx (n:=2) rfl (Yc (Zt (i:=0) (X7 (by kernel_rfl)) rfl (Cb rfl) (Ef rfl)) (Yc (Zt (i:=1) (X7 (by kernel_rfl)) rfl (Cb rfl) (Ef rfl)) X9)) (by rfl))) (λ_ _ _ _=>Y7) (λ_ _ _ _=>(Y6 (Za (Zq (Y3 (K:=K) rfl) (by rfl) T.b_len Di (Za (pv 1) Zc)) (Za V2 Zc)))) (Zev (Ww nofun (Ww nofun N4)))) Zc)) Zc)) Zc)) rfl))))))),?_⟩
  exists ·,a,L,rfl,⟨vs,ea,pa⟩,fr,⟨hl,hw⟩,λH1 s1=>?_;let⟨M,m1,m2,m3⟩:=Znh (pa.tk s1.tk);let⟨ps,hP,_,_⟩:=id tb;let hP1:=s1 _ _ hP;let lM:M.length=L.length:=by rw[<-m2,Ja]
  exists ·,a,M.map PK3.k,rfl,?_,?_,?_,?_,tb.same s1,?_,λH2 D L' sT T2 hD pm pw=>?_
  .let e1:(M.map PK3.k).map (·.1)=vs:=by rw[Gk,<-m1];rfl
   rw[e1];exact SqL.of (s1 _ _ ea)
  .rw[Ja];lia
  .intro q hq;let⟨e,he,rfl⟩:=Jo.mp hq;let⟨t,_,_,cw⟩:=m3 e he;exists SqT.of cw,(hw e.p (by rw[<-m2];exact Jo.mpr ⟨e,he,rfl⟩)).1
  .let e1:(M.map PK3.k).map (·.2.2)=L.map (·.2):=by rw[Gk,<-m2,Gk];rfl
   rw[e1];exact Gj.mpr (fr.imp λ{a b}z e=>z.2.1 (by rw[e];exact Jh _))
  .intro H2 q sT hq;let⟨e,he,rfl⟩:=Jo.mp hq;let⟨t,ev,b,_⟩:=m3 e he;exists e.v,rfl,t,_,1,_,ev,rfl,SqT.of (sT _ _ (Wa b hP1 λz=>by cases z) b),rfl,rfl,rfl
  .let⟨M',pM,rfl⟩:=Zh7 pm rfl;let xP:x≠Pt:=Wa ex hP λz=>by cases z
   let ex2:H2 x=some (.ins C dx []):=sT _ _ xP (s1 _ _ ex);let at2:∀e∈M',e.At H2:=λe he=>(m3 e (pM.mem_iff.mp he)).tk (sT.tk hP1);let vv:(M'.map PK3.k).map (·.1)=M'.map (·.v):=by rw[Gk];rfl
   let hS:(M'.map (·.p)).Perm L:=by have:=pM.map (·.p);rw[m2]at this;exact this
   let lM':M'.length<64:=by have:=hS.length_eq;rw[Ja]at this;lia
   let hpL:∀e∈M',e.p∈L:=λe he=>hS.mem_iff.mp (Jo.mpr ⟨e,he,rfl⟩);let hri:Zdr (M'.map (·.p)):=Gj.mpr ((Gj.mp pw).imp λz=>z);refine⟨_,_,rfl,.inl ⟨SqL.of Zg,λtp htp=>?_⟩⟩;rw[vv];rw[vv]at htp;let sA:Same H2 (upd (upd H2 D (.lst (M'.map (·.v)))) tp (.tup (M'.map (·.v)))):=(Ze hD).trans (Ze htp);let S3:St5 C Pt H (upd (upd H2 D (.lst (M'.map (·.v)))) tp (.tup (M'.map (·.v)))) x dx tp [] M' :=
    ⟨λb o n1 n2 e=>sA _ _ (sT _ _ n2 (s1 _ _ e)),T2.same sA,sA _ _ ex2,Zg,λe he=>(at2 e he).tk sA.tk⟩
   generalize upd (upd H2 D (.lst (M'.map (·.v)))) tp (.tup (M'.map (·.v)))=H3 at S3;exists ·,x,C,dx,[],rfl,S3.ex,CT.cl,CT.n_pairs,nofun,?_;let S4:=S3.fld (fs':=[("pairs",.ref tp)]);show tSeq _ _ _ _ (upd H3 x (.ins C dx [("pairs",.ref tp)]));generalize upd H3 x (.ins C dx [("pairs",.ref tp)])=H4 at S4;exists ·,x,C,dx,_,·,S4.ex,CT.cl,CT.n_pairs,rfl,tp,_,(M'.map λe=>((C5 e.p.1:Key),V.ref e.tw)).map (λz=>(kV z.1,z.2)),.dK [],rfl,.inr S4.etp,?_,.inl rfl,λd1 hd1=>⟨_,Zdj _ [] ?_,?_⟩
   .rw[Gk];exact Se λe he=>by
     let⟨t,ev,b,_⟩:=S4.at_ e he;exists t,ev,SqT.of b
   .rw[B0,Ja];exact Jy (by lia:0+M'.length<64) (show 64<=sizeLine by decide)
   let nd1:=S4.new hd1;let ndS:(M'.map λe=>((C5 e.p.1:Key))).Nodup:=by
    let h1:(L.map (·.1)).Nodup:=Gj.mpr (fr.imp λ{a b}z=>z.1);let h2:((M'.map (·.p)).map (·.1)).Nodup:=(hS.map (·.1)).nodup_iff.mpr h1;rw[Gk]at h2;exact Gj.mpr ((Gj.mp h2).imp λz e=>z (Kt e))
   let wb:∀Hx:Hp,(∀e∈M',e.At Hx)->Zgf Hx (X1 [] (M'.map λe=>((C5 e.p.1:Key),V.ref e.tw))) (M'.map (·.p)):=λHx ax=>by
    exists λp hp=>?_,λsg hsg=>?_
    .let⟨e,he,rfl⟩:=Jo.mp hp;let⟨t,_,_,cw⟩:=ax e he;exists e.tw,Qy _ _ (by rw[Gk];exact ndS) (Jo.mpr ⟨e,he,rfl⟩),cw
    .rw[Tw _ _ λz hz=>?_]
     .rfl
     .let⟨e,he,rfl⟩:=Jo.mp hz;exact λq=>hsg e.p (Jo.mpr ⟨e,he,rfl⟩) (Kt q)
   let S5:=S4.same (Ze (o:=.dK (X1 [] (M'.map λe=>((C5 e.p.1:Key),V.ref e.tw)))) hd1);let ed1:(upd H4 d1 (.dK (X1 [] (M'.map λe=>((C5 e.p.1:Key),V.ref e.tw))))) d1=_:=Zg;generalize upd H4 d1 (.dK (X1 [] (M'.map λe=>((C5 e.p.1:Key),V.ref e.tw))))=H5 at S5 ed1;exists ·,x,C,dx,·,S5.ex,CT.cl,CT.n_words_by_sign,(by show 1<1000;decide),?_;let S6:=S5.fld (fs':=[("pairs",.ref tp),("words_by_sign",.ref d1)]);let ed1':(upd H5 x (.ins C dx [("pairs",.ref tp),("words_by_sign",.ref d1)])) d1=_:=(Zn (Wa ed1 S5.ex λz=>by cases z)).trans ed1;show tSeq _ _ _ _ (upd H5 x (.ins C dx [("pairs",.ref tp),("words_by_sign",.ref d1)]))
   generalize upd H5 x (.ins C dx [("pairs",.ref tp),("words_by_sign",.ref d1)])=H6 at S6 ed1';let go6:∀(Hx:Hp)(i:Nat),Hx tp=some (.tup (M'.map (·.v)))->i<M'.length->(Itt K tp).go i Hx:=λHx i e hi=>⟨_,_,SqT.of e,Jb (by rw[Ja];exact hi)⟩;let stop6:∀Hx:Hp,Hx tp=some (.tup (M'.map (·.v)))->(Itt K tp).stop M'.length Hx:=λHx e=>⟨_,SqT.of e,by rw[Ja];exact Jd _⟩;let yld6:∀(Hx:Hp)(i:Nat)(y:V)(H':Hp)(hi:i<M'.length),Hx tp=some (.tup (M'.map (·.v)))->(Itt K tp).yld i Hx y H'->H'=Hx/\y=M'[i].v:=λHx i y H' hi e z=>by
    exists z.1,?_;let:=z.2 _ (SqT.of e);rw[Jx,Jb hi]at this;exact(Dh this).symm
   refine⟨_,rfl,x,C,dx,_,_,rfl,S6.ex,CT.cl,CT.n_pairs,rfl,tp,rfl,⟨_,SqT.of S6.etp⟩,Wo (n:=M'.length)
    (λj ys Hn=>∃ts:List Addr,ys=ts.map V.ref/\ts.length=j/\Same H6 Hn/\Paired (λt(e:PK3)=>Hn t=some (.tup [.ref e.tw,.int e.p.1])) ts (M'.take j)) ⟨[],rfl,rfl,.refl _,by rw[G9];exact .nil⟩ ?_ (Zm ()) ?_ ?_ ?_ ?_⟩
   .rintro j ys Hn ⟨ts,rfl,rfl,_⟩;rw[Ja];exact Jd _
   .rintro j ys Hn hj ⟨ts,rfl,rfl,sn,_⟩;exact go6 _ _ (sn _ _ S6.etp) hj
   .rintro ys Hn ⟨ts,rfl,_,sn,_⟩;exact stop6 _ (sn _ _ S6.etp)
   .rintro j ys Hn hj ⟨ts,rfl,rfl,sn,pn⟩ y H' hy;let⟨rfl,rfl⟩:=yld6 _ _ _ _ hj (sn _ _ S6.etp) hy;let⟨t,ev,b,cw⟩:=(S6.at_ _ (Jl hj)).tk sn.tk;exists t,_,ev,SqT.of b,rfl,_,·,_,·,rfl,?_;exists ·,·,by show 2<=sizeLine;decide,λq hq=>?_;exists ts++[q],by rw[Jg];rfl,by rw[Jc];rfl,sn.trans (Ze hq),?_;rw[Jf hj];refine L2.Paired.snoc ?_ ?_
    .exact Zg
    .exact L2.Paired.mapP pn λ_ _ z=>Ze hq _ _ z
   .rintro ys Hn ⟨ts,rfl,lt,sn,pn⟩ q hq;rw[Jw]at pn;let sq:=sn.trans (Ze (o:=.lst (ts.map V.ref)) hq);let pn':=Paired.mapP pn λ_ _ z=>Ze (o:=.lst (ts.map V.ref)) hq _ _ z;let eq:(upd Hn q (.lst (ts.map V.ref))) q=_:=Zg;let S7:=S6.same sq;let ed7:=sq _ _ ed1';generalize upd Hn q (.lst (ts.map V.ref))=H7 at S7 ed7 pn' eq;exists q,_,(M'.map λe=>(e.tw,wk e.p.2,V.int e.p.1)).map (λz=>(.ref z.1,z.2.2)),.dT [],rfl,.inl eq,?_,.inr rfl,λd2 hd2=>⟨_,Zjo hd2 _ [] ?_ ?_,?_⟩
    .rw[Gk];exact Sd (λt e z=>⟨t,rfl,SqT.of z⟩) pn'
    .rw[B0,Ja];exact Jy (by lia:0+M'.length<64) (show 64<=sizeLine by decide)
    .intro z hz;let⟨e,he,rfl⟩:=Jo.mp hz;let⟨t,_,_,cw⟩:=S7.at_ e he;show H7 e.tw=some (.tup ((wk e.p.2).map kV));rw[Zn4];exact cw
    rw[Gk];let ndW:(M'.map λe=>wk e.p.2).Nodup:=by
     let h1:(L.map (·.2)).Nodup:=Gj.mpr (fr.imp λ{a b}z e=>z.2.1 (by rw[e];exact Jh _));let h2:((M'.map (·.p)).map (·.2)).Nodup:=(hS.map (·.2)).nodup_iff.mpr h1;rw[Gk]at h2;exact Gj.mpr ((Gj.mp h2).imp λz e=>z (R9 e))
    let sb:Zhh (X1 [] (M'.map λe=>(wk e.p.2,V.int e.p.1))) (M'.map (·.p)):=by
     exists λp hp=>?_,λu hu=>?_
     .let⟨e,he,rfl⟩:=Jo.mp hp;exact Qy _ _ (by rw[Gk];exact ndW) (Jo.mpr ⟨e,he,rfl⟩)
     .rw[Tw _ _ λz hz=>?_]
      .rfl
      .let⟨e,he,rfl⟩:=Jo.mp hz;exact λq=>hu e.p (Jo.mpr ⟨e,he,rfl⟩) (R9 q)
    let nd2:=S7.new hd2;let S8:=S7.same (Ze (o:=.dT (X1 [] (M'.map λe=>(wk e.p.2,V.int e.p.1)))) hd2);let ed8:=Ze (o:=.dT (X1 [] (M'.map λe=>(wk e.p.2,V.int e.p.1)))) hd2 _ _ ed7;let es8:(upd H7 d2 (.dT (X1 [] (M'.map λe=>(wk e.p.2,V.int e.p.1))))) d2=_:=Zg;show tVar 0 _ (upd H7 d2 (.dT (X1 [] (M'.map λe=>(wk e.p.2,V.int e.p.1))))) _;generalize upd H7 d2 (.dT (X1 [] (M'.map λe=>(wk e.p.2,V.int e.p.1))))=H8 at S8 ed8 es8;exists ·,x,C,dx,·,S8.ex,CT.cl,CT.n_signs_by_word,(by show 2<1000;decide),?_;let S9:=S8.fld (fs':=[("pairs",.ref tp),("words_by_sign",.ref d1),("signs_by_word",.ref d2)])
    let ed9:(upd H8 x (.ins C dx [("pairs",.ref tp),("words_by_sign",.ref d1),("signs_by_word",.ref d2)])) d1=_:=(Zn (Wa ed8 S8.ex λz=>by cases z)).trans ed8;let es9:(upd H8 x (.ins C dx [("pairs",.ref tp),("words_by_sign",.ref d1),("signs_by_word",.ref d2)])) d2=_:=(Zn (Wa es8 S8.ex λz=>by cases z)).trans es8;show tSeq _ _ _ _ (upd H8 x (.ins C dx [("pairs",.ref tp),("words_by_sign",.ref d1),("signs_by_word",.ref d2)]));generalize upd H8 x (.ins C dx [("pairs",.ref tp),("words_by_sign",.ref d1),("signs_by_word",.ref d2)])=H9 at S9 ed9 es9;refine⟨_,rfl,x,C,dx,_,_,rfl,S9.ex,CT.cl,CT.n_pairs,rfl,tp,rfl,⟨_,SqT.of S9.etp⟩,Wo (n:=M'.length)
     (λj ys Hn=>ys=(M'.take j).map (λe=>V.ref e.tw)/\Hn=H9) ⟨by rw[G9];rfl,rfl⟩ ?_ (Zm ()) ?_ ?_ ?_ ?_⟩
    .rintro j ys Hn ⟨rfl,rfl⟩;rw[Ja,Ji];exact Nat.min_le_left _ _
    .rintro j ys Hn hj ⟨rfl,rfl⟩;exact go6 _ _ S9.etp hj
    .rintro ys Hn ⟨rfl,rfl⟩;exact stop6 _ S9.etp
    .rintro j ys Hn hj ⟨rfl,rfl⟩ y H' hy;let⟨rfl,rfl⟩:=yld6 _ _ _ _ hj S9.etp hy;let⟨t,ev,b,cw⟩:=S9.at_ _ (Jl hj);exists t,_,ev,SqT.of b,rfl,_,·,_,·,rfl,?_;exists ·,?_,rfl;rw[Jf hj,Jg];rfl
    .rintro ys Hn ⟨rfl,rfl⟩ q2 hq2;rw[Jw];let sq2:=Ze (o:=.lst (M'.map λe=>V.ref e.tw)) hq2;let eq2:(upd Hn q2 (.lst (M'.map λe=>V.ref e.tw))) q2=_:=Zg;let S10:=S9.same sq2;let ed10:=sq2 _ _ ed9;let es10:=sq2 _ _ es9;generalize upd Hn q2 (.lst (M'.map λe=>V.ref e.tw))=H10 at S10 ed10 es10 eq2;exists q2,_,M'.map (·.p.2),rfl,eq2,Se λe he=>?_,by rw[Ja];exact lM',?_,λd3 k3 H11 s11 nd3 ed3 hb3=>?_
     .let⟨t,_,_,cw⟩:=S10.at_ e he;exists ·,cw
     .intro u hu;let⟨e,he,rfl⟩:=Jo.mp hu;exact(hw _ (hpL e he)).2
     let nd3':=S10.new nd3;let S11:=S10.same s11;let ed11:=s11 _ _ ed10;let es11:=s11 _ _ es10;exists ·,x,C,dx,·,S11.ex,CT.cl,CT.n_begun,(by show 3<1000;decide),?_;let S12:=S11.fld (fs':=[("pairs",.ref tp),("words_by_sign",.ref d1),("signs_by_word",.ref d2),("begun",.ref d3)]);let ed12:(upd H11 x (.ins C dx [("pairs",.ref tp),("words_by_sign",.ref d1),("signs_by_word",.ref d2),("begun",.ref d3)])) d1=_:=(Zn (Wa ed11 S11.ex λz=>by cases z)).trans ed11;let es12:(upd H11 x (.ins C dx [("pairs",.ref tp),("words_by_sign",.ref d1),("signs_by_word",.ref d2),("begun",.ref d3)])) d2=_:=(Zn (Wa es11 S11.ex λz=>by cases z)).trans es11
     let eb12:(upd H11 x (.ins C dx [("pairs",.ref tp),("words_by_sign",.ref d1),("signs_by_word",.ref d2),("begun",.ref d3)])) d3=_:=(Zn (Wa ed3 S11.ex λz=>by cases z)).trans ed3;let pf:putF (Cv "begun") (V.ref d3) [("pairs",.ref tp),("words_by_sign",.ref d1),("signs_by_word",.ref d2)]=([("pairs",.ref tp),("words_by_sign",.ref d1),("signs_by_word",.ref d2),("begun",.ref d3)]:List (Str×V)):=by rfl
     rw[pf];generalize upd H11 x (.ins C dx [("pairs",.ref tp),("words_by_sign",.ref d1),("signs_by_word",.ref d2),("begun",.ref d3)])=H12 at S12 ed12 es12 eb12;refine⟨_,rfl,x,C,dx,_,_,rfl,S12.ex,CT.cl,CT.n_pairs,rfl,tp,rfl,⟨_,SqT.of S12.etp⟩,Wo (n:=M'.length)
      (λj ys Hn=>∃ts:List Addr,ys=ts.map V.ref/\ts.length=j/\Same H12 Hn/\Paired (λt(e:PK3)=>Hn t=some (.tup [.int (e.p.2.length:Int),.bl true])) ts (M'.take j)) ⟨[],rfl,rfl,.refl _,by rw[G9];exact .nil⟩ ?_ (Zm ()) ?_ ?_ ?_ ?_⟩
     .rintro j ys Hn ⟨ts,rfl,rfl,_⟩;rw[Ja];exact Jd _
     .rintro j ys Hn hj ⟨ts,rfl,rfl,sn,_⟩;exact go6 _ _ (sn _ _ S12.etp) hj
     .rintro ys Hn ⟨ts,rfl,_,sn,_⟩;exact stop6 _ (sn _ _ S12.etp)
     .rintro j ys Hn hj ⟨ts,rfl,rfl,sn,pn⟩ y H' hy;let⟨rfl,rfl⟩:=yld6 _ _ _ _ hj (sn _ _ S12.etp) hy;let⟨t,ev,b,cw⟩:=(S12.at_ _ (Jl hj)).tk sn.tk;exists t,_,ev,SqT.of b,rfl,_,·,_,·,rfl,?_;exists ·,_,·,.inr ⟨_,SqT.of cw,rfl⟩,by show 2<=sizeLine;decide,λq hq=>?_;exists ts++[q],by rw[Jg];rfl,by rw[Jc];rfl,sn.trans (Ze hq),?_;rw[Jf hj];refine L2.Paired.snoc ?_ ?_
      .rw[Ja];exact Zg
      .exact L2.Paired.mapP pn λ_ _ z=>Ze hq _ _ z
     .rintro ys Hn ⟨ts,rfl,lt,sn,pn⟩ q3 hq3;rw[Jw]at pn;let sq3:=sn.trans (Ze (o:=.lst (ts.map V.ref)) hq3);let pn':=Paired.mapP pn λ_ _ z=>Ze (o:=.lst (ts.map V.ref)) hq3 _ _ z;let eq3:(upd Hn q3 (.lst (ts.map V.ref))) q3=_:=Zg;let S13:=S12.same sq3;let ed13:=sq3 _ _ ed12;let es13:=sq3 _ _ es12;let eb13:=sq3 _ _ eb12;generalize upd Hn q3 (.lst (ts.map V.ref))=H13 at S13 ed13 es13 eb13 pn' eq3;exists q3,_,((M'.map λe=>(e.p.2.length:Int)).map λz=>((C5 z:Key),V.bl true)).map (λz=>(kV z.1,z.2)),.dK [],rfl,.inl eq3,?_,.inl rfl,λd5 hd5=>⟨_,Zdj _ [] ?_,?_⟩
      .rw[Gk,Gk];exact Sd (λt e z=>⟨t,rfl,SqT.of z⟩) pn'
      .rw[B0,Ja,Ja];exact Jy (by lia:0+M'.length<64) (show 64<=sizeLine by decide)
      let⟨ns,ens,nd,mem⟩:=Qz (M'.map λe=>(e.p.2.length:Int)) [] [] rfl .nil;let lk5:=Ze0 ((M'.map λe=>(e.p.2.length:Int)).map λz=>((C5 z:Key),V.bl true)) [];let S14:=S13.same (Ze (o:=.dK (X1 [] ((M'.map λe=>(e.p.2.length:Int)).map λz=>((C5 z:Key),V.bl true)))) hd5);let ed14:=Ze (o:=.dK (X1 [] ((M'.map λe=>(e.p.2.length:Int)).map λz=>((C5 z:Key),V.bl true)))) hd5 _ _ ed13;let es14:=Ze (o:=.dK (X1 [] ((M'.map λe=>(e.p.2.length:Int)).map λz=>((C5 z:Key),V.bl true)))) hd5 _ _ es13;let eb14:=Ze (o:=.dK (X1 [] ((M'.map λe=>(e.p.2.length:Int)).map λz=>((C5 z:Key),V.bl true)))) hd5 _ _ eb13
      let e5:(upd H13 d5 (.dK (X1 [] ((M'.map λe=>(e.p.2.length:Int)).map λz=>((C5 z:Key),V.bl true))))) d5=_:=Zg;generalize upd H13 d5 (.dK (X1 [] ((M'.map λe=>(e.p.2.length:Int)).map λz=>((C5 z:Key),V.bl true))))=H14 at S14 ed14 es14 eb14 e5;exists d5,_,ns,rfl,e5,ens,by rw[Ja,Ja,B0]at lk5;lia,λD5 ns' hD5 pN riN=>?_;exists D5,·,.inl ⟨SqL.of Zg,λd4 hd4=>?_⟩;let sz:=(Ze (o:=.lst (ns'.map V.int)) hD5).trans (Ze (o:=.tup (ns'.map V.int)) hd4);let S15:=S14.same sz;let ed15:=sz _ _ ed14;let es15:=sz _ _ es14;let eb15:=sz _ _ eb14;let ez15:(upd (upd H14 D5 (.lst (ns'.map V.int))) d4 (.tup (ns'.map V.int))) d4=_:=Zg
      generalize upd (upd H14 D5 (.lst (ns'.map V.int))) d4 (.tup (ns'.map V.int))=H15 at S15 ed15 es15 eb15 ez15;exists ·,x,C,dx,·,S15.ex,CT.cl,CT.n_word_sizes,(by show 4<1000;decide),?_;let S16:=S15.fld (fs':=[("pairs",.ref tp),("words_by_sign",.ref d1),("signs_by_word",.ref d2),("begun",.ref d3),("word_sizes",.ref d4)]);let pf2:putF (Cv "word_sizes") (V.ref d4) [("pairs",.ref tp),("words_by_sign",.ref d1),("signs_by_word",.ref d2),("begun",.ref d3)]=([("pairs",.ref tp),("words_by_sign",.ref d1),("signs_by_word",.ref d2),("begun",.ref d3),("word_sizes",.ref d4)]:List (Str×V)):=by rfl
      rw[pf2];let ed16:=(Zn (a:=x) (o:=HO.ins C dx [("pairs",.ref tp),("words_by_sign",.ref d1),("signs_by_word",.ref d2),("begun",.ref d3),("word_sizes",.ref d4)]) (Wa ed15 S15.ex λz=>by cases z)).trans ed15;let es16:=(Zn (a:=x) (o:=HO.ins C dx [("pairs",.ref tp),("words_by_sign",.ref d1),("signs_by_word",.ref d2),("begun",.ref d3),("word_sizes",.ref d4)]) (Wa es15 S15.ex λz=>by cases z)).trans es15;let eb16:=(Zn (a:=x) (o:=HO.ins C dx [("pairs",.ref tp),("words_by_sign",.ref d1),("signs_by_word",.ref d2),("begun",.ref d3),("word_sizes",.ref d4)]) (Wa eb15 S15.ex λz=>by cases z)).trans eb15
      let ez16:=(Zn (a:=x) (o:=HO.ins C dx [("pairs",.ref tp),("words_by_sign",.ref d1),("signs_by_word",.ref d2),("begun",.ref d3),("word_sizes",.ref d4)]) (Wa ez15 S15.ex λz=>by cases z)).trans ez15;refine k _ (M'.map (·.p)) hS hri ⟨dx,tp,d1,d2,d3,d4,S16.ex,⟨⟨_,S16.etp,Zni S16.at_⟩,⟨_,ed16,wb _ S16.at_⟩,⟨_,es16,sb⟩,⟨k3,eb16,?_⟩,⟨ns',ez16,Zhg nd (λn=>by rw[mem,Gk];simp only[Be,false_or];rfl) pN riN⟩⟩,nd1,nd2,nd3'⟩ S16.tb S16.g;rw[Gk];exact hb3
def Jcv(T:Txt mg)(CT:CodeT K C){f:Addr}(F:Fun K "word" "Code.word" U7 f fd):FnOk P w K mg base CX0 1 f fd ["self","sign"] (Zg8 C):=by
 refine F.ok Jap (λvs H Q E h=>?_) (λcdv A outer s H vs Q E hr h=>?_)
 .let⟨x,S,z,rfl,_⟩:=h;rfl
 .let⟨x,S,z,rfl,⟨dx,tp,d1,d2,d3,d4,ex,ci⟩,k1,k2⟩:=h;let⟨k3,e3,hb1,hb2⟩:=ci.wb;let SC:=Jap;let hu1:=X0 hr;exists _,(Zi (Zx (Zek hu1 (Vb (pv 0) rfl) (pv 1) ⟨rfl,rfl,rfl,rfl⟩))),?_;exists ·,x,C,dx,_,·,ex,CT.cl,CT.n_words_by_sign,rfl,d1,rfl,.inl ⟨_,.inl e3⟩,·,_,DGet.k (k:=C5 z) e3,?_
  by_cases hp:∃p∈S,p.1=z
  .let⟨p,hp,e⟩:=hp;let⟨t,h1,h2⟩:=hb1 p hp;rw[e]at h1;rw[h1];exact k1 p hp e t h2
  .rw[hb2 z λp hq e=>hp ⟨p,hq,e⟩];exact k2 λp hq e=>hp ⟨p,hq,e⟩
def Jbf(T:Txt mg)(CT:CodeT K C){f:Addr}(F:Fun K "sign" "Code.sign" U8 f fd):FnOk P w K mg base CX0 1 f fd ["self","word"] (Zhb C):=by
 refine F.ok Jau (λvs H Q E h=>?_) (λcdv A outer s H vs Q E hr h=>?_)
 .let⟨x,t,S,u,rfl,_⟩:=h;rfl
 .let⟨x,t,S,u,rfl,⟨dx,tp,d1,d2,d3,d4,ex,ci⟩,et,k1,k2⟩:=h;let⟨k3,e3,hb1,hb2⟩:=ci.sb;let SC:=Jau;let hu1:=X0 hr;let et':H t=some (.tup ((wk u).map kV)):=by rw[Zn4];exact et
  exists _,(Zi (Zx (Zek hu1 (Vb (pv 0) rfl) (pv 1) ⟨rfl,rfl,rfl,rfl⟩))),?_;exists ·,x,C,dx,_,·,ex,CT.cl,CT.n_signs_by_word,rfl,d2,rfl,.inr ⟨_,.inl e3⟩,·,_,DGet.t e3 et',?_
  by_cases hp:∃p∈S,p.2=u
  .let⟨p,hp,e⟩:=hp;let:=hb1 p hp;rw[e]at this;rw[this];exact k1 p hp e
  .rw[hb2 u λp hq e=>hp ⟨p,hq,e⟩];exact k2 λp hq e=>hp ⟨p,hq,e⟩
def Jcz(T:Txt mg){f:Addr}(xc:XCl K C f)(na:C1 K (.ref C) "at"=some none)(F:Fun K "__init__" "NoSign.__init__" Xy f fd):FnOk P w K mg base CX0 1 f fd ["self","at"] (spX1 C "at"):=by
 refine F.ok D8 (λvs H Q E h=>?_) (λcdv A outer s H vs Q E hr h=>?_)
 .let⟨ea,y,rfl,_⟩:=h;rfl
 .let⟨ea,y,rfl,hea,k⟩:=h;let SC:=D8;exists _,(Zi (Zcr (pv 0) (pv 1) rfl)),?_;exists ·,·,ea,C,f,rfl,xc,na,.inl ⟨hea,λd hd ne=>k d hd ne⟩
def Jdd(T:Txt mg){f:Addr}(xc:XCl K C f)(na:C1 K (.ref C) "at"=some none)(F:Fun K "__init__" "NoReading.__init__" Xe f fd):FnOk P w K mg base CX0 1 f fd ["self","at"] (spX1 C "at"):=by
 refine F.ok Jcg (λvs H Q E h=>?_) (λcdv A outer s H vs Q E hr h=>?_)
 .let⟨ea,y,rfl,_⟩:=h;rfl
 .let⟨ea,y,rfl,hea,k⟩:=h;let SC:=Jcg;exists _,(Zi (Zcr (pv 0) (pv 1) rfl)),?_;exists ·,·,ea,C,f,rfl,xc,na,.inl ⟨hea,λd hd ne=>k d hd ne⟩
def Jaw(T:Txt mg){f:Addr}(xc:XCl K C f)(na:C1 K (.ref C) "most"=some none)(F:Fun K "__init__" "TooMany.__init__" Xt f fd):FnOk P w K mg base CX0 1 f fd ["self","most"] (spX1 C "most"):=by
 refine F.ok Jdh (λvs H Q E h=>?_) (λcdv A outer s H vs Q E hr h=>?_)
 .let⟨ea,y,rfl,_⟩:=h;rfl
 .let⟨ea,y,rfl,hea,k⟩:=h;let SC:=Jdh;exists _,(Zi (Zcr (pv 0) (pv 1) rfl)),?_;exists ·,·,ea,C,f,rfl,xc,na,.inl ⟨hea,λd hd ne=>k d hd ne⟩
theorem Jab(T:Txt mg){Cn:Addr}(Zff:Met P w K mg base C "word" 1 ["self","sign"] (Zg8 C))(Pa:Rx P w K mg base "NoSign" Cn 1 ["self","at"] (spX1 Cn "at")){f:Addr}(F:Fun K "write" "write" Zch f fd):FnOk P w K mg base (CXE P w) 3 f fd ["code","text"] (Zd4 C Cn):=by
 refine F.okE Jak (λvs H Q E h=>?_) (λcdv A outer s H vs Q E hr h=>?_)
 .let⟨x,xa,S,ts,rfl,_⟩:=h;rfl
 .let⟨x,xa,S,ts,rfl,ca,fi,exa,lts,k,kE⟩:=h;let SC:=Jak;let Zp6:Room 1 _:=hr.mono nofun;let Zjb:Room 2 _:=hr.mono nofun;let lm:(ts.map V.int).length=ts.length:=Ja _;refine⟨_,(Zd (Zs (i:=2) SC.nd rfl (Cb rfl) (Yl Zc))
 (Zd (Yr Jb4 rfl (Zpf rfl T.b_enumerate (Za (pv 1) Zc)) (Vx (n:=2) rfl (Yc (Zt (i:=3) SC.nd rfl (Cb rfl)) (Yc (Zt (i:=4) SC.nd rfl (Cb rfl)) X9)) (by rfl))
 (Zd (Zs (i:=5) SC.nd rfl (Cb rfl) (Zcv (pv 0) Zff Zp6 (Za (pv 4) Zc)))
 (Zd (Yt (Va (Za0 (pv 5)))
 (Zi (Nk Pa Zjb rfl (Za (pv 3) Zc)))
 Zz)
 (Zi (Xj (V8 Cj E4 Ki Zfw (pv 2) (Za (pv 5) Zc)))))))
 (Zi (Zx (pv 2))))),?_⟩
  exists by show 0<=sizeLine;decide,λtx htx=>?_;let s1:=Ze (o:=.lst []) htx;let etx:(upd H tx (.lst [])) tx=_:=Zg;generalize upd H tx (.lst [])=H1 at s1 etx;let ntx:∀b o,H b=some o->b≠tx:=λb o e=>Zr e htx;exists ·,xa,rfl,⟨_,SqL.of (s1 _ _ exa)⟩,Zmf (xs:=ts.map V.int) (λi σ H'=>∃(U:List Pr)(v3 v4 v5:Option V),σ=[some (.ref x),some (.ref xa),some (.ref tx),v3,v4,v5]/\Same H H'/\H' tx=some (.lst ((Yi U).map V.int))/\V3 S U ts i) ⟨[],_,_,_,rfl,s1,etx,⟨(λ_ z=>nomatch z),rfl⟩⟩ ?_ ?_ ?_
  .rintro i σ H2 hi ⟨U,v3,v4,v5,rfl,s2,_⟩;exact SqL.of (s2 _ _ exa)
  .rintro i hi t σ H2 ⟨U,v3,v4,v5,rfl,s2,e2,tx2⟩ nt;let hi2:i<ts.length:=by rw[lm]at hi;exact hi
   let lU:=tx2.len (B3 hi2);let s3:=Ze (o:=.tup [.int i,(ts.map V.int)[i]]) nt;let e3:=s3 _ _ e2;let et3:(upd H2 t (.tup [.int i,(ts.map V.int)[i]])) t=some (.tup [.int i,.int ts[i]]):=by rw[Zg,Bd]
   generalize upd H2 t (.tup [.int i,(ts.map V.int)[i]])=H3 at s3 e3 et3;let s23:=s2.trans s3;let ca3:=ca.same s23;let⟨dx,tp,d1,d2,d3,d4,ex,_⟩:=id ca3;exists t,·,SqT.of et3,rfl,_,·,_,·,rfl,?_;exists ·,x,dx,·,ex,rfl,·,x,S,ts[i],rfl,ca3,λp hp e tw etw=>?_,λhno=>?_
   .exists ·,·,Zt1 (λz=>by cases z) ?_;let lw:=(fi.2 _ hp).2;let lr:=T9 fi tx2.1;exists ·,.inl ⟨rfl,_,SqL.of e3⟩,·,tx,tw,_,·,rfl,e3,etw,?_,U++[p],_,_,·,λb o e'=>?_,?_,tx2.snoc hi2 hp e
    .rw[Ja,Ja];exact Zm ()
    .rw[Zn (ntx b o e')];exact s23 b o e'
    .rw[Zg,Qg,Jg,Rq];simp[Yi]
   .exists ·,·,Zt0 rfl ?_;exists ·,by show 1<=10;decide,λea nea=>?_;exists ea,.int i,rfl,Zg,λd nd ne=>⟨rfl,d,?_,?_⟩
    .rw[Zn (Cw ne),Zg]
    .let nd3:H3 d=none:=by rw[Zn ne]at nd;exact nd
     refine kE i U d _ hi2 tx2 ((Qn hi2).mpr hno) (s23.free nd3) (λb o e=>?_) ?_
     .let b1:b≠ea:=Zr (s23 _ _ e) nea;let b2:b≠d:=Zr (s23 _ _ e) nd3;rw[Zn b1,Zn b2,Zn b1,Zn b1];exact s23 _ _ e
     .rw[Zn ne,Zg]
  .rintro σ H2 ⟨U,v3,v4,v5,rfl,s2,e2,tx2⟩;rw[lm]at tx2;exists ·,k U tx H2 tx2 htx s2 e2
theorem Jat(T:Txt mg)(CT:CodeT K C)(P8:Met P w K mg base C "sign" 1 ["self","word"] (Zhb C)){f:Addr}(F:Fun K "word_at" "word_at" Qe f fd):FnOk P w K mg base CX0 2 f fd ["code","row","place"] (Zd5 C):=by
 refine F.ok Jbp (λvs H Q E h=>?_) (λcdv A outer s H vs Q E hr h=>?_)
 .let⟨x,r,S,ns,pl,rfl,_⟩:=h;rfl
 .let⟨x,r,S,ns,pl,rfl,ca,fi,er,hpl,k1,k2⟩:=h;let SC:=Jbp;let Zc8:Room 1 _:=hr.mono nofun;let⟨dx,tp,d1,d2,d3,d4,ex,ci⟩:=id ca;let⟨zs,ez,hz⟩:=ci.sz;refine⟨_,(Zd (Yr Cd rfl (Pw (Vb (pv 0) rfl)) (Zt (i:=3) SC.nd rfl (Cb rfl))
 (Zd (Zs (i:=4) SC.nd rfl (Cb rfl) (Yh Wf (by rfl) T.b_tuple C4 (Za (Ya Wh (pv 1) (Yb (pv 2)) (Yb (Z0 Wd (pv 2) (pv 3)))) Zc)))
 (Zi (Yt (Va (Nm (Zcv (pv 0) P8 Zc8 (Za (pv 4) Zc))))
 (Zi (Zx (pv 4)))
 Zz))))
 (Zi (Zx S0))),?_⟩
  exists ·,x,C,dx,_,·,ex,CT.cl,CT.n_word_sizes,rfl,d4,rfl,⟨_,SqT.of ez⟩,Zqc (xs:=zs.map V.int) (λi σ H'=>∃v3 v4,σ=[some (.ref x),some (.ref r),some (.int pl),v3,v4]/\Same H H'/\∀p∈S,∀(j:Nat)(hj:j<zs.length),j<i->(p.2.length:Int)=zs[j]->¬ p.2<+:ns.drop pl) ⟨_,_,rfl,.refl _,λp hp j hj h0=>absurd h0 (G0 _)⟩ ?_ ?_ ?_
  .rintro i σ H1 hi ⟨v3,v4,rfl,s1,no⟩;exact SqT.of (s1 _ _ ez)
  .rintro i y σ H1 hy ⟨v3,v4,rfl,s1,no⟩;let hi:i<zs.length:=by have:=(Je.mp hy).1;rw[Ja]at this;exact this
   rw[Jx,Jb hi]at hy;obtain rfl:=Dh hy;let⟨p0,hp0,el⟩:=(hz.2 zs[i]).mp (Jl hi);refine⟨_,rfl,_,rfl,_,rfl,_,rfl,_,rfl,_,_,rfl,rfl,_,rfl,r,_,rfl,SqL.of (s1 _ _ er),λq hq=>?_⟩;let ec:cutV (ns.map V.int) (some (pl:Int)) (some ((pl:Int)+zs[i]))=((ns.drop pl).take p0.2.length).map V.int:=by
    rw[<-el];exact Zqn ns (m:=p0.2.length) hpl
   rw[ec];let pw:(ns.drop pl).take p0.2.length<+:ns.drop pl:=Fz _ _;let hw:∀p∈S,p.2.length=p0.2.length->p.2<+:ns.drop pl->p.2=(ns.drop pl).take p0.2.length:=λp hp hl hpre=>by
    rw[<-hl];exact List.prefix_iff_eq_take.mp hpre
   generalize (ns.drop pl).take p0.2.length=u at pw hw;exists q,·,.inl ⟨SqL.of Zg,λt ht=>?_⟩;let s2:=(s1.trans (Ze hq)).trans (Ze (o:=.tup (u.map V.int)) ht);let et:(upd (upd H1 q (.lst (u.map V.int))) t (.tup (u.map V.int))) t=_:=Zg;generalize upd (upd H1 q (.lst (u.map V.int))) t (.tup (u.map V.int))=H2 at s2 et;let ca2:=ca.same s2;exists ·,x,dx,·,s2 _ _ ex,rfl,·,x,t,S,u,rfl,ca2,et,λp hp e=>?_,λhno=>?_
   .subst e;exists ·,Zwf (λz=>by cases z) ⟨_,rfl,k1 p hp pw t H2 s2 et⟩
   .exists ·,Ztz rfl ?_;exists _,·,s2,λp hp j hj hji hl hpre=>?_
    by_cases e:j=i
    .subst e;exact hno p hp (hw p hp (by rw[<-el]at hl;exact Int.ofNat.inj hl) hpre)
    .exact no p hp j hj () hl hpre
  .rintro σ H1 ⟨v3,v4,rfl,s1,no⟩;refine k2 (λp hp=>?_) H1 s1;let⟨j,hj,ej⟩:=Ju ((hz.2 _).mpr ⟨p,hp,rfl⟩);exact no p hp j hj (by rw[Ja];exact hj) ej.symm
theorem Jac(T:Txt mg){Cr:Addr}(P8:Met P w K mg base C "sign" 1 ["self","word"] (Zhb C))(Pc:Cal P w K mg base "word_at" 2 ["code","row","place"] (Zd5 C))(Ug:Rx P w K mg base "NoReading" Cr 1 ["self","at"] (spX1 Cr "at")){f:Addr}(F:Fun K "read" "read" Zhl f fd):FnOk P w K mg base (CXE P w) 3 f fd ["code","row"] (Zhc C Cr):=by
 refine F.okE D3 (λvs H Q E h=>?_) (λcdv A outer s H vs Q E hr h=>?_)
 .let⟨x,r,S,ns,rfl,_⟩:=h;rfl
 .let⟨x,r,S,ns,rfl,ca,fi,er,lns,k,kE⟩:=h;let SC:=D3;let Zc8:Room 1 _:=hr.mono nofun;let Zf3:Room 2 _:=hr.mono nofun;let Zbh:Room 2 _:=hr.mono nofun;let lm:(ns.map V.int).length=ns.length:=Ja _;refine⟨_,(Zd (Zs (i:=2) SC.nd rfl (Cb rfl) (Yl Zc))
 (Zd (Zs (i:=3) SC.nd rfl (Cb rfl) Zh)
 (Zd (Zei Jb4 (Z2 Zfr (pv 3) (Zq Y9 (by rfl) T.b_len Di (Za (pv 1) Zc)) (Z6 _))
 (Zd (Zs (i:=4) SC.nd rfl (Cb rfl) (Zv Pc Zf3 rfl (Za (pv 0) (Za (pv 1) (Za (pv 3) Zc)))))
 (Zd (Yt (Va (Za0 (pv 4)))
 (Zi (Nk Ug Zbh rfl (Za (pv 3) Zc)))
 Zz)
 (Zd (Xj (V8 Cj Cy Cz Xv (pv 2) (Za (Zcv (pv 0) P8 Zc8 (Za (pv 4) Zc)) Zc)))
 (Zi (Zs6 (i:=3) SC.nd rfl (Cb rfl) (Zq Y9 (by rfl) T.b_len Di (Za (pv 4) Zc)) Znr))))))
 (Zi (Zx (pv 2)))))),?_⟩
  refine⟨by show 0<=sizeLine;decide,λtx htx=>?_⟩;let s1:=Ze (o:=.lst []) htx;let etx:(upd H tx (.lst [])) tx=_:=Zg;generalize upd H tx (.lst [])=H1 at s1 etx;let ntx:∀b o,H b=some o->b≠tx:=λb o e=>Zr e htx;refine Zky (λσ H'=>∃(pl:Nat)(R:List En)(v4:Option V),σ=[some (.ref x),some (.ref r),some (.ref tx),some (.int pl),v4]/\Same H H'/\H' tx=some (.lst (outs R))/\Went S ns R pl/\Zca R)
   (λσ _=>match σ with |[_,_,_,some (.int z),_]=>(ns.length-z).toNat|_=>0) ⟨0,[],_,rfl,s1,etx,.nil,λ_ z=>nomatch z⟩ ?_ ?_
  .rintro σ H2 ⟨pl,R,v4,rfl,s2,e2,we,cln⟩;let er2:=s2 _ _ er;let lR:=we.len;let hle:=we.le;exists ·,·,_,·,.inl ⟨_,SqL.of er2,rfl⟩,_,·,rfl,·,?_;refine ite2 (λhlt=>?_) (λhlt=>?_)
   .let hlt':pl<ns.length:=by
     let:=of_decide_eq_true hlt;rw[lm]at this;lia
    exists ·,·,·,x,r,S,ns,pl,rfl,ca.same s2,fi,er2,hle,λp hp pre t H3 s3 et=>?_,λhno H3 s3=>?_
    .let s23:=s2.trans s3;let ca3:=ca.same s23;let⟨dx,tp,d1,d2,d3,d4,ex,_⟩:=id ca3;let e3:=s3 _ _ e2;exists ·,·,Zt1 (λz=>by cases z) ?_;exists ·,.inl ⟨rfl,_,SqL.of e3⟩,·,x,dx,·,ex,rfl,·,x,t,S,p.2,rfl,ca3,et,λp' hp' e'=>?_,λhno=>absurd rfl (hno _ hp);exists tx,_,·,rfl,e3,by unfold outs;rw[Ja];exact Nat.lt_of_le_of_lt (by lia:R.length<=100000) nofun,?_;let hne:=(fi.2 _ hp).1;let gL:Grow tx H3 (upd H3 tx (.lst (outs R++[.int p'.1]))):=λb o e n=>by rw[Zn n];exact e
     exists ·,·,_,·,.inr ⟨_,SqT.of (gL _ _ et (Wa et e3 λz=>by cases z)),rfl⟩,_,·,rfl,⟨pl+p.2.length,R++[(pl,some p'.1)],some (.ref t),?_,λb o e=>?_,?_,?_,P7 cln (λz=>by cases z)⟩,?_
     .rw[Ja,L7];rfl
     .rw[Zn (ntx b o e)];exact s23 b o e
     .rw[Zg];unfold outs;rw[Jg];rfl
     .let hw:=Went.word we hp' (by rw[e'];exact pre) (by rw[e'];exact hne);rw[e']at hw;exact hw
     .show((ns.length:Int)-((pl:Int)+(((p.2.map V.int).length:Nat):Int))).toNat<((ns.length:Int)-(pl:Int)).toNat;rw[Ja];let:=Gm.mpr hne;lia
    .let s23:=s2.trans s3;exists ·,·,Zt0 rfl ?_;exists ·,by show 1<=10;decide,λea nea=>?_;exists ea,.int pl,rfl,Zg,λd nd ne=>⟨rfl,d,?_,?_⟩
     .rw[Zn (Cw ne),Zg]
     .let nd3:H3 d=none:=by rw[Zn ne]at nd;exact nd
      refine kE R pl d _ ⟨we,cln,.inr ⟨hlt',hno⟩⟩ hlt' (s23.free nd3) (λb o e=>?_) ?_
      .let b1:b≠ea:=Zr (s23 _ _ e) nea;let b2:b≠d:=Zr (s23 _ _ e) nd3;rw[Zn b1,Zn b2,Zn b1,Zn b1];exact s23 _ _ e
      .rw[Zn ne,Zg]
   .let hge:ns.length<=pl:=by
     let:=of_decide_eq_false (Li _ ▸ hlt);rw[lm]at this;lia
    exists ·,k R pl tx H2 ⟨we,cln,.inl hge⟩ hge htx s2 e2
  .rintro σ H2 Q1 Q2 hq ⟨a1,a2,a3,a4,a5,a6,a7,a8,a9,a10,a11,a12,a13,a14,z⟩;exists a1,a2,a3,a4,a5,a6,a7,a8,a9,a10,a11,a12,a13,a14,hq _ _ z
open L3
abbrev Zl3:Str:=Cv "abcdefghijklmnopqrstuvwxyz"
theorem Zeo{a b:Nat}(hab:a<=b)(hb:b<=cs.length):Txt.slice (nmS cs) (some (a:Int)) (some (b:Int))=nmS ((cs.drop a).take (b-a)):=by
 unfold Txt.slice;let hb':b<=(nmS cs).length:=by rw[Xu];exact hb
 rw[StrLaws.sliced_plain (nmS cs) hab hb'];let li:(Jhv (some (a:Int)) (some (b:Int)) 1 (nmS cs).length).length=b-a:=by
  rw[StrLaws.strSliceIndices_plain hab hb',Ja,Bj]
 split
 .rename_i h
  let h:b-a=cs.length:=by
   let h:=beq_iff_eq.mp h;rw[li,Xu]at h;exact h
  rw[show a=0 by lia,Ft,Gd ()]
 .unfold nmS;rw[Bq,Fk]
def Ztj{b:Nat}(hb:b<=cs.length):Txt.slice (nmS cs) none (some (b:Int))=nmS (cs.take b):=by
 let:=Zeo (cs:=cs) (Gc b) hb;unfold Txt.slice at this⊢;rw[StrLaws.sliceIdx_none_lo];exact this
def Zii{a:Nat}(ha:a<=cs.length):Txt.slice (nmS cs) (some (a:Int)) none=nmS (cs.drop a):=by
 let:=Zeo (cs:=cs) ha (Jd _);rw[Gd (by rw[Ge];exact Jd _)]at this;unfold Txt.slice at this⊢;rw[StrLaws.sliceIdx_none_hi,Xu];rw[Xu]at this;exact this
theorem Zpp(h:0<cs.length):Txt.slice (nmS cs) none (some (-1))=nmS (cs.take (cs.length-1)):=by
 let:=Ztj (cs:=cs) (b:=cs.length-1) ();unfold Txt.slice at this⊢;rw[StrLaws.sliceIdx_neg_hi none _ nofun (by rw[Xu];lia),Xu,show(-1:Int)+(cs.length:Int)=((cs.length-1:Nat):Int)by lia];rw[Xu]at this;exact this
def Zik(a b:List Nat):(nmS a++nmS b:Str)=nmS (a++b):=by
 show(⟨(nmS a).cps++(nmS b).cps⟩:Str)=_;unfold nmS;rw[Jg,<-List.append_toArray]
def Zij{c:Nat}(h:c<26):Txt.find Zl3 ⟨#[97+c]⟩=(c:Int):=by
 let:∀c:_root_.Fin 26,Txt.find Zl3 ⟨#[97+c.val]⟩=((c.val:Nat):Int):=by decide +kernel
 exact this ⟨c,h⟩
theorem Zpo(l:List Nat):(l.map ((λx:Str=>x.length) ∘ λc=>(⟨#[97+c]⟩:Str))).sum=l.length:=by
 induction l with
 |nil=>rfl
 |cons c l ih=>rw[Js,List.sum_cons,ih,Jz];show 1+_=_;lia
def mvl(cs:List Nat)(a m:Nat):List Nat:=cs.set a ((cs[a]?.getD 0+m) % 26)
def Znn{a m:Nat}(ha:a<cs.length):(mvl cs a m)[a]?=some ((cs[a]?.getD 0+m) % 26):=by
 unfold mvl;exact J0 ha
theorem Qi{a m n:Nat}(ha:a<cs.length)(h:m<n)(hn:n<26):mvl cs a m≠mvl cs a n:=λe=>by
 let:=Znn (m:=m) ha;rw[e,Znn ha]at this;let:=Dh this;lia
def Zl0{a:Nat}(ha:a<cs.length)(hc:∀c∈cs,c<26):mvl cs a 0=cs:=by
 unfold mvl;rw[Jb ha];show cs.set a ((cs[a]+0) % 26)=cs;rw[Nat.add_zero,Nat.mod_eq_of_lt (hc _ (Jl ha)),List.set_getElem_self]
def Qj{a m:Nat}:(mvl cs a m).length=cs.length:=by unfold mvl;rw[List.length_set]
theorem Zeq{a m:Nat}(hc:∀c∈cs,c<26):∀c∈mvl cs a m,c<26:=λc h=>by
 rcases Mu h with y|y
 .exact hc c y
 .rw[y];lia
def Zil{a m:Nat}(ha:a<cs.length):cs.take a++[(cs[a]+m) % 26]++cs.drop (a+1)=mvl cs a m:=by
 unfold mvl;rw[List.set_eq_take_append_cons_drop,De ha,Gg,Jb ha];rfl
def Ze4:Sp3:=λds M K=>∃(k:Nat),ds=[.cell k]/\M[k]?=some .hand/\∀zs:List Str,zs.length=4->zs.Nodup->(∀z∈zs,z.length<=8/\Ec z=true)->(∃cs:List Nat,zs[0]?=some (nmS cs)/\1<=cs.length/\cs.length<=8/\∀c∈cs,c<26)->K (.cell M.length) (M++[.lst (zs.map .str)])
theorem Jam(T:Txt mg)(Zk:Cal P w K mg base "_law_draw" 1 ["_law_hand","_law_many"] (spOf ⟨C,K⟩ dDraw)){f:Addr}(F:Fun K "_law_names" "_law_names" Jck f fd):FnOk P w K mg base CX0 2 f fd ["_law_hand"] (spOf ⟨C,K⟩ Ze4):=by
 refine L3.Fun.ok3 F Jby (λds M K3 h=>?_) (λcdv A outer s H E hr=>?_)
 .let⟨k0,rfl,_⟩:=h;rfl
 .let SC:=Jby
  let hu:=hr.units;let hu1:=X0 hr;let Zl:Room 1 _:=hr.mono nofun;refine⟨_,_,(Zd (Zs (i:=1) SC.nd rfl (Ef rfl) Wk)
 (Zd (Zs (i:=2) SC.nd rfl (Cb rfl) (V8 Ks PySem.F.slot_str_join PySem.F.type_str_join (Zqu (K:=K) rfl) Wk (Za (Xk (T:=["_law_k"]) (cs:=[1,0]) rfl (CScope.ok (by kernel_rfl)) (Yg rfl T.b_range (Za (Z0 (Y2 (K':=K) rfl) Zh (Zv Zk Zl rfl (Za (pv 0) (Za Zh Zc)))) Zc)) (λ_ _ _ _=>(Zt (i:=0) (X7 (by kernel_rfl)) rfl (Cb rfl) (Ef rfl))) (λ_ _ _ _=>Y7) (λ_ _ _ _=>(Z1 (Ye (K':=K) rfl) (pv 1) (Zv Zk Zl rfl (Za (pv 2) (Za Zh Zc))) (λ_ _=>rfl))) (Y8 nofun)) Zc)))
 (Zd (Yt (Z2 (Pe (K':=K) rfl hu) (Zv Zk Zl rfl (Za (pv 0) (Za Zh Zc))) Zh (Z6 _))
 (Zi (Zs (i:=2) SC.nd rfl (Cb rfl) (Z1 (Ye (K':=K) rfl) (Yl (Za Wk (Za Wk (Za Wk (Za Wk (Za Wk Zc)))))) (Zv Zk Zl rfl (Za (pv 0) (Za Zh Zc))) (λ_ _=>rfl))))
 Zz)
 (Zd (Zs (i:=3) SC.nd rfl (Cb rfl) (Z0 Xh (Zv Zk Zl rfl (Za (pv 0) (Za Zh Zc))) (Zq (Y3 (K:=K) rfl) (by rfl) T.b_len Di (Za (pv 2) Zc))))
 (Zd (Zs (i:=4) SC.nd rfl (Cb rfl) (Yl (Za (pv 2) Zc)))
 (Zd (Yr Cd rfl (Pw (Y6 (Za (Z0 (Y2 (K':=K) rfl) Zh (Zv Zk Zl rfl (Za (pv 0) (Za Zh Zc)))) (Za (Z0 (Y2 (K':=K) rfl) Zh (Zv Zk Zl rfl (Za (pv 0) (Za Zh Zc)))) (Za (Z0 (Y2 (K':=K) rfl) Zh (Zv Zk Zl rfl (Za (pv 0) (Za Zh Zc)))) Zc))))) (Zt (i:=5) SC.nd rfl (Cb rfl))
 (Zd (Zs (i:=6) SC.nd rfl (Cb rfl) (Z1 (Ye (K':=K) rfl) (pv 1) (Z0 Xh (Z0 (Y2 (K':=K) rfl) (V8 Ks Jee Jef Zin (pv 1) (Za (Z1 (Ye (K':=K) rfl) (pv 2) (pv 3) (λ_ _=>rfl)) Zc)) (pv 5)) Zh) (λ_ _=>rfl)))
 (Zi (Xj (V8 Cj Cy Cz Xv (pv 4) (Za (Z0 (Y2 (K':=K) rfl) (Z0 (Y2 (K':=K) rfl) (Ya (Rf (K':=K) rfl) (pv 2) Yu (Yb (pv 3))) (pv 6)) (Ya (Rf (K':=K) rfl) (pv 2) (Yb (Z0 (Y2 (K':=K) rfl) (pv 3) Zh)) Yu)) Zc))))))
 (Zd (Yt (PW.pt (Zhz (Z2 Zcx (Zq (Y3 (K:=K) rfl) (by rfl) T.b_len Di (Za (pv 2) Zc)) Zh (Z6 _)) (Zcq (Z2 (Pe (K':=K) rfl hu) (Zv Zk Zl rfl (Za (pv 0) (Za Zh Zc))) Zh (Z6 _)))))
 (Zi (Zh2 (Ya (Rf (K':=K) rfl) (pv 2) Yu (Yb (Pj U2 Zh))) (Zh6 (pv 4) Zh Rp)))
 Zz)
 (Zi (Zx (pv 4)))))))))),λ_=>(Zw (Z9 Rg (s_g 1))
 (Zw (Z9 (Zso Rg (Zb (U3 (Ph (Zb (s_op X6 Zu (Z3 (Zb (Zf 0) (Zb Zu Zo)))) Zo)) (s_g 0) Sw (s_op s_ix (Zf 1) (Z3 (Zb (Zf 2) (Zb Zu Zo))))) Zo)) (s_g 2))
 (Zw (Xp (Yx (s_op s_eq (Z3 (Zb (Zf 0) (Zb Zu Zo))) Zu))
 (Z9 (s_op s_ix (V1 (Zb Rg (Zb Rg (Zb Rg (Zb Rg (Zb Rg Zo)))))) (Z3 (Zb (Zf 0) (Zb Zu Zo)))) (s_g 2))
 Yq)
 (Zw (Z9 (s_op Zcj (Z3 (Zb (Zf 0) (Zb Zu Zo))) (s_cb X8 (Zb (Zf 2) Zo))) (s_g 3))
 (Zw (Z9 (Sx (Zb (Zf 2) Zo)) (s_g 4))
 (Zw (Wj (s_it (Vg (Zb (s_op X6 Zu (Z3 (Zb (Zf 0) (Zb Zu Zo)))) (Zb (s_op X6 Zu (Z3 (Zb (Zf 0) (Zb Zu Zo)))) (Zb (s_op X6 Zu (Z3 (Zb (Zf 0) (Zb Zu Zo)))) Zo))))) (s_g 5)
 (Zw (Z9 (s_op s_ix (Zf 1) (s_op Zcj (s_op X6 (Znb (Zf 1) (Zb (s_op s_ix (Zf 2) (Zf 3)) Zo)) (Zf 5)) Zu)) (s_g 6))
 (Vu (Wu (Zf 4) (Zb (s_op X6 (s_op X6 (s_sl Rh (Zf 2) X4 (Wi (Zf 3))) (Zf 6)) (s_sl Rh (Zf 2) (Wi (s_op X6 (Zf 3) Zu)) X4)) Zo)))))
 (Zw (Xp (Zsv (Yx (s_op s_gt (s_cb X8 (Zb (Zf 2) Zo)) Zu)) (Yx (s_op s_eq (Z3 (Zb (Zf 0) (Zb Zu Zo))) Zu)))
 (Z9 (s_sl Rh (Zf 2) X4 (Wi (s_un Zas Zu))) (Zna (Zf 4) Zu))
 Yq)
 (Y0 (Zf 4))))))))),λds M Kk hM hD h=>?_⟩
  let⟨k0,rfl,h⟩:=h;let⟨hk,k⟩:=h;exists ·,·,k0,8,rfl,hk,⟨nofun,nofun⟩,λy y0 y1=>?_;exists ·,⟨(),()⟩,?_,λj ys M'=>M=M'/\∃cs:List Nat,cs.length=j/\(∀c∈cs,c<26)/\ys=(cs.map λc=>(⟨#[97+c]⟩:Str)).map D.str,λ_ _ _ _ _=>trivial,⟨rfl,[],rfl,(λ_ h=>nomatch h),rfl⟩,?_,?_
  .show(1+y).toNat<=sizeLine;exact Zm ()
  .rintro j x ys _ hj rfl ⟨rfl,cs,rfl,hc,rfl⟩;exists ·,·,k0,26,rfl,hk,⟨nofun,nofun⟩,λq q0 q1=>?_;obtain⟨n,rfl⟩:∃n:Nat,q=n:=⟨q.toNat,()⟩;refine⟨_,_,rfl,nofun,Zpr (),rfl,cs++[n],by rw[Jc];rfl,λc hc'=>?_,by rw[Jg,Jg];rfl⟩;rcases Gb.mp hc' with z|z
   .exact hc c z
   .rw[Jj.mp z];lia
  rintro ys _ ⟨rfl,cs,lc,hc,rfl⟩;let lc:cs.length=(1+y).toNat:=lc;exists _,·,rfl,?_,?_
  .rw[Gk,Ja,Zpo];show _+_*0<=_;lia
  rw[Zpq];refine g_nx ?_
  try dsimp only
  refine Zg4 (λρ' M'=>∃cs:List Nat,ρ'=[some (.cell k0),some (.str Zl3),some (.str (nmS cs)),none,none,none,none]/\M=M'/\1<=cs.length/\cs.length<=8/\∀c∈cs,c<26) (λKn hn=>?_) ?_
  .exists ·,k0,4,rfl,hk,⟨nofun,nofun⟩,λr r0 r1=>.inl ⟨_,rfl,_,rfl,ite2 (λh=>?_) (λh=>hn _ _ ⟨cs,rfl,rfl,(),(),hc⟩)⟩;exists(show 5<=sizeLine by decide),·,k0,5,rfl,hk,⟨nofun,nofun⟩,λq q0 q1=>?_;let:q=0\/q=1\/q=2\/q=3\/q=4:=by lia
   rcases this with rfl|rfl|rfl|rfl|rfl
   .exists _,_,·,rfl,rfl,hn _ _ ⟨[2,14,3,4],?_,rfl,nofun,nofun,nofun⟩;rw[show nmS [2,14,3,4]=Cv "code" from by decide +kernel];rfl
   .exists _,_,·,rfl,rfl,hn _ _ ⟨[17,4,0,3],?_,rfl,nofun,nofun,nofun⟩;rw[show nmS [17,4,0,3]=Cv "read" from by decide +kernel];rfl
   .exists _,_,·,rfl,rfl,hn _ _ ⟨[13,14,13,4],?_,rfl,nofun,nofun,nofun⟩;rw[show nmS [13,14,13,4]=Cv "none" from by decide +kernel];rfl
   .exists _,_,·,rfl,rfl,hn _ _ ⟨[14,17],?_,rfl,nofun,nofun,nofun⟩;rw[show nmS [14,17]=Cv "or" from by decide +kernel];rfl
   .exists _,_,·,rfl,rfl,hn _ _ ⟨[12,4,13,3],?_,rfl,nofun,nofun,nofun⟩;rw[show nmS [12,4,13,3]=Cv "mend" from by decide +kernel];rfl
  clear hc lc;rintro _ _ ⟨cs,rfl,rfl,c1,c8,hc⟩;let ln:=Xu cs;let l0:(0:Int)<((nmS cs).length:Int):=by lia
  exists ·,k0,8,rfl,hk,⟨nofun,nofun⟩,λq q0 q1=>⟨_,rfl,Zm (show(nmS cs).length<=100000 by lia),_,_,rfl,rfl,l0,?_⟩;let⟨a,ea,ha⟩:=Zno q (n:=(nmS cs).length) ();rw[ln]at ha
  try dsimp only
  rw[ea];exists ·,(show 1<=sizeLine by decide),?_;let kl:=Xx hk;let hkM:∀xs:List D,(M++[MO.lst xs])[k0]?=some .hand:=λxs=>Yy hk;refine g_nx ?_
  try dsimp only
  refine⟨_,rfl,k0,8,rfl,hkM _,⟨nofun,nofun⟩,λm1 m10 m11=>?_⟩;refine⟨_,rfl,k0,8,rfl,hkM _,⟨nofun,nofun⟩,λm2 m20 m21=>?_⟩;refine⟨_,rfl,k0,9,rfl,hkM _,⟨nofun,nofun⟩,λm3 m30 m31=>?_⟩;let⟨m1,rfl⟩:=Gn m10;let⟨m2,rfl⟩:=Gn m20;let⟨m3,rfl⟩:=Gn m30;let mv:[D.int (1+(m1:Int)),D.int (9+(m2:Int)),D.int (17+(m3:Int))]=[1+m1,9+m2,17+m3].map λm:Nat=>D.int (m:Int):=by
   show [_,_,_]=[D.int _,D.int _,D.int _];simp only[L7];rfl
  let hmv:∀m∈[1+m1,9+m2,17+m3],m<26:=λm hm=>by
   simp only[Jp,Be,or_false]at hm;lia
  let nd0:(cs::[1+m1,9+m2,17+m3].map (mvl cs a)).Nodup:=by
   let z:=Zl0 ha hc;let n1:=Qi (m:=0) (n:=1+m1) ha () ();let n2:=Qi (m:=0) (n:=9+m2) ha () ();let n3:=Qi (m:=0) (n:=17+m3) ha () ();let n4:=Qi (m:=1+m1) (n:=9+m2) ha () ();let n5:=Qi (m:=1+m1) (n:=17+m3) ha () ();let n6:=Qi (m:=9+m2) (n:=17+m3) ha () ();rw[z]at n1 n2 n3;simp[n1,n2,n3,n4,n5,n6]
  exists(show 3<=sizeLine by decide),?_;let es1:Txt.slice (nmS cs) none (some (a:Int))=nmS (cs.take a):=Ztj ();let es2:Txt.slice (nmS cs) (some ((a:Int)+1)) none=nmS (cs.drop (a+1)):=by rw[show(a:Int)+1=((a+1:Nat):Int)by lia];exact Zii ()
  let eat:L2.atI (nmS cs).cps.toList (a:Int)=some (97+cs[a]):=by
   show L2.atI (cs.map λc=>97+c) (a:Int)=_;unfold L2.atI;rw[Zi3 (by rw[Ja];exact ha)];show(cs.map λc=>97+c)[a]?=_;rw[Jx,Jb ha];rfl
  let hca:=hc _ (Jl ha);exists ·,λi ρ M'=>∃v5 v6:Option D,ρ=[some (.cell k0),some (.str Zl3),some (.str (nmS cs)),some (.int a),some (.cell M.length),v5,v6]/\M++[.lst (((cs::([1+m1,9+m2,17+m3].take i).map (mvl cs a)).map nmS).map .str)]=M',λ_ _ _ _ _=>trivial,⟨_,_,rfl,rfl⟩,?_,?_
  .rintro i x ρ _ hi hx ⟨v5,v6,rfl,rfl⟩;let hx:([1+m1,9+m2,17+m3].map λm:Nat=>D.int (m:Int))[i]?=some x:=by rw[<-mv];exact hx
   let⟨hi',rfl⟩:=Yj hx;let hm:=hmv _ (Jl hi');let et:=Jf hi';let li:([1+m1,9+m2,17+m3].take i).length<=3:=by rw[Ji];exact Le _ _
   obtain⟨m,em0⟩:∃m,[1+m1,9+m2,17+m3][i]=m:=⟨_,rfl⟩;obtain⟨ms,ems⟩:∃ms,[1+m1,9+m2,17+m3].take i=ms:=⟨_,rfl⟩;rw[em0,ems]at et;rw[em0]at hm;rw[ems]at li;rw[em0,ems];let lm:((cs::ms.map (mvl cs a)).map nmS).length<=4:=by rw[Ja,Jz,Ja];lia
   let em:((cs[a]:Int)+(m:Int)) % 26=(((cs[a]+m) % 26:Nat):Int):=by lia
   exists ·,·,·,·,·,_,·,Zm (show(nmS cs).length<=100000 by lia),eat,·,·,?_;rw[Zij hca];exists _,·,rfl,(show(0:Int)<26 by decide),?_
   try dsimp only
   rw[em];exists _,·,nofun,Zpr (Nat.mod_lt _ nofun),?_;exists ·,Ql Wc,·,·,·,Zm (show(nmS cs).length<=100000 by lia),·,?_;rw[es1];let l1:(nmS (cs.take a)).length<=8:=by rw[Xu,Ji];lia
   let l2:(nmS (cs.drop (a+1))).length<=8:=by rw[Xu,Ge];lia
   exists Zm (show(nmS (cs.take a)).length+1<=100000 by lia),·,·,·,Zm (show(nmS cs).length<=100000 by lia),?_;dsimp only[Zcb,Zgp,Zgo,Zgk,T6,Qb,Zfh,Zgn,Zgm,Zgl,Zak];rw[es2,show(⟨#[97+(cs[a]+m) % 26]⟩:Str)=nmS [(cs[a]+m) % 26]from rfl,Zik];let l3:(nmS (cs.take a++[(cs[a]+m) % 26])).length<=9:=by rw[Xu,Jc,Ji];show _+1<=9;lia
   exists Zm (),?_;rw[Zik,Zil ha];exists M.length,_,·,rfl,Xw,?_,?_
   .rw[Ja];exact Bn lm nofun
   rw[Wt];refine .inl ⟨_,_,rfl,?_⟩;rw[et]
   congr 3
   rw[Jg,<-Jgz,Jg,Jg];rfl
  rintro ρ _ ⟨v5,v6,rfl,rfl⟩;let e3:[1+m1,9+m2,17+m3].take [D.int (1+(m1:Int)),D.int (9+(m2:Int)),D.int (17+(m3:Int))].length=[1+m1,9+m2,17+m3]:=rfl;rw[show Lb _ [1+m1,9+m2,17+m3]=[1+m1,9+m2,17+m3]from e3];let okn:∀z∈(cs::[1+m1,9+m2,17+m3].map (mvl cs a)).map nmS,z.length<=8/\Ec z=true:=λz hz=>by
   let⟨c,hc',rfl⟩:=Jo.mp hz;rcases Jp.mp hc' with rfl|h
   .exists by lia,Zc0 hc
   .let⟨m,_,rfl⟩:=Jo.mp h;exists by rw[Xu,Qj];lia,Zc0 (Zeq hc)
  let ndn:((cs::[1+m1,9+m2,17+m3].map (mvl cs a)).map nmS).Nodup:=by
   rw[B9,Gj];exact(B9.mp nd0).imp λh e=>h (Zep e)
  let fin0:=k _ rfl ndn okn ⟨cs,rfl,c1,c8,hc⟩;exists ·,Zm (show(nmS cs).length<=100000 by lia),_,·,rfl,·,ite2 (λh=>?_) (λh=>iteF ⟨_,rfl,.inl fin0⟩);let h1:1<cs.length:=by have:=of_decide_eq_true h;lia
  exists ·,k0,2,rfl,hkM _,⟨nofun,nofun⟩,λq q0 q1=>.inl ⟨_,rfl,_,rfl,ite2 (λh=>?_) (λh=>⟨_,rfl,.inl fin0⟩)⟩;exists ·,·,·,Zm (show(nmS cs).length<=100000 by lia),?_
  try dsimp only
  rw[Zpp ()];exists ·,M.length,_,1,1,rfl,rfl,Xw,rfl,?_;rw[Wt];exists ·,.inl ?_;let:=k [nmS cs,nmS (cs.take (cs.length-1)),nmS (mvl cs a (9+m2)),nmS (mvl cs a (17+m3))] rfl ?_ ?_ ⟨cs,rfl,c1,c8,hc⟩
  .exact this
  .let hl:∀m,nmS (cs.take (cs.length-1))≠nmS (mvl cs a m):=λm e=>by
    let:=congrArg Ez (Zep e);rw[Qj,Ji]at this;lia
   let hl0:nmS cs≠nmS (cs.take (cs.length-1)):=λe=>by
    let:=congrArg Ez (Zep e);rw[Ji]at this;lia
   let ndn:[nmS cs,nmS (mvl cs a (1+m1)),nmS (mvl cs a (9+m2)),nmS (mvl cs a (17+m3))].Nodup:=ndn;rw[Gy,Gy,Gy]at ndn;let⟨g1,g2,g3,g4⟩:=ndn;simp only[Jp,Be,or_false,not_or]at g1 g2 g3;simp only[Gy,Jp,Be,or_false,not_or,Fg,and_true,not_false_eq_true];exists⟨hl0,g1.2.1,g1.2.2⟩,⟨hl _,hl _⟩,g3
  .intro z hz;simp only[Jp,Be,or_false]at hz;rcases hz with rfl|rfl|rfl|rfl
   .exists by lia,Zc0 hc
   .exists by rw[Xu,Ji];lia,Zc0 λc h=>hc c (G5 h)
   .exists by rw[Xu,Qj];lia,Zc0 (Zeq hc)
   .exists by rw[Xu,Qj];lia,Zc0 (Zeq hc)
open L3
def Zbs:Sp3:=λds M K=>∃(k:Nat)(n lg:Int),ds=[.cell k,.int n,.int lg]/\M[k]?=some .hand/\(1<=n/\n<=8/\1<=lg/\lg<=4)/\∀Ls:List (List Pr),(Ls.length:Int)=n->(∀L∈Ls,TbOk L/\L.length<=12)->K (.cell M.length) (M++[.lst (Ls.map tbD)])
theorem Ztm:∀(r:List Int)(c:Int),∃m,mxOf (some c) r=some m
 |[],c=>⟨c,rfl⟩
 |_::r,_=>Ztm r _
def wsD(ws:List (List Int)):D:=.lst (ws.map wD)
theorem Dn(T:Txt mg)(Zk:Cal P w K mg base "_law_draw" 1 ["_law_hand","_law_many"] (spOf ⟨C,K⟩ dDraw))(Ur:Cal P w K mg base "_law_bytes" 2 ["_law_hand","_law_most"] (spOf ⟨C,K⟩ dBytes))(Ul:Cal P w K mg base "_law_words" 2 ["_law_hand","_law_some","_law_most","_law_longest"] (spOf ⟨C,K⟩ dWords))(Uo:Cal P w K mg base "_law_signs" 2 ["_law_hand","_law_many"] (spOf ⟨C,K⟩ dSigns))(Um:Cal P w K mg base "_law_table" 2 ["_law_hand","_law_words_here","_law_signs_here"] (spOf ⟨C,K⟩ dTable)){f:Addr}(F:Fun K "_law_tables" "_law_tables" D9 f fd):FnOk P w K mg base CX0 3 f fd ["_law_hand","_law_many","_law_longest"] (spOf ⟨C,K⟩ Zbs):=by
 refine L3.Fun.ok3 F Jcy (λds M K3 h=>?_) (λcdv A outer s H E hr=>?_)
 .let⟨k0,n,lg,rfl,_⟩:=h;rfl
 .let SC:=Jcy;let hu:=hr.units;let hu1:=X0 hr;let Zl:Room 1 _:=hr.mono nofun;let N3:Room 2 _:=hr.mono nofun;let Ny:Room 2 _:=hr.mono nofun;let N0:Room 2 _:=hr.mono nofun;let Nz:Room 2 _:=hr.mono nofun;refine⟨_,_,(Zd (Zs (i:=3) SC.nd rfl (Ef rfl) (Zv Ur N3 rfl (Za (pv 0) (Za Zh Zc))))
 (Zd (U9 (i:=4) SC.nd rfl rfl (T:=["_law_k"]) (cs:=[0,3,2]) rfl (CScope.ok (by kernel_rfl)) (Yg rfl T.b_range (Za (pv 1) Zc)) (λ_ _ _ _=>(Zt (i:=0) (X7 (by kernel_rfl)) rfl (Cb rfl) (Ef rfl))) (λ_ _ _ _=>Y7) (λ_ _ _ _=>(Zv Ul Ny rfl (Za (pv 1) (Za (pv 2) (Za Zh (Za (pv 3) Zc)))))) (Y8 nofun))
 (Zd (Zs (i:=5) SC.nd rfl (Ef rfl) (Zv Uo N0 rfl (Za (pv 0) (Za (Z0 (Y2 (K':=K) rfl) (Zq (Zqt (K:=K) rfl rfl) (by rfl) T.b_max Hu (Za (Xk (T:=["_law_one"]) (cs:=[]) rfl (CScope.ok (by kernel_rfl)) (Yv (pv 4)) (λ_ _ _ _=>(Zt (i:=0) (X7 (by kernel_rfl)) rfl (Cb rfl) (Ef rfl))) (λ_ _ _ _=>Y7) (λ_ _ _ _=>(Zq (Y3 (K:=K) rfl) (by rfl) T.b_len Di (Za (pv 0) Zc))) (Y8 nofun)) Zc)) (Zv Zk Zl rfl (Za (pv 0) (Za Zh Zc)))) Zc))))
 (Zd (U9 (i:=6) SC.nd rfl rfl (T:=["_law_one"]) (cs:=[0,5]) rfl (CScope.ok (by kernel_rfl)) (Yv (pv 4)) (λ_ _ _ _=>(Zt (i:=0) (X7 (by kernel_rfl)) rfl (Cb rfl) (Ef rfl))) (λ_ _ _ _=>Y7) (λ_ _ _ _=>(Zv Um Nz rfl (Za (pv 1) (Za (pv 0) (Za (pv 2) Zc))))) (Y8 nofun))
 (Zd (Yt (Z2 (Pe (K':=K) rfl hu) (Zv Zk Zl rfl (Za (pv 0) (Za Zh Zc))) Zh (Z6 _))
 (Zi (Zh2 (Zh8 (Z1 (Ye (K':=K) rfl) (pv 6) Zh (λ_ _=>rfl)) (Yb (Pj U2 Zh)) (λ_ _=>⟨_,rfl⟩)) (Zh6 (pv 6) (Pj U2 Zh) Rp)))
 Zz)
 (Zi (Zx (pv 6)))))))),λ_=>(Zw (Z9 (Z3 (Zb (Zf 0) (Zb Zu Zo))) (s_g 3))
 (Zw (Z9 (U3 (Ph (Zb (Zf 1) Zo)) (s_g 0) Sw (Z3 (Zb (Zf 1) (Zb (Zf 2) (Zb Zu (Zb (Zf 3) Zo)))))) (s_g 4))
 (Zw (Z9 (Z3 (Zb (Zf 0) (Zb (s_op X6 (s_cb Zsn (Zb (U3 (s_il (Zf 4)) (s_g 0) Sw (s_cb X8 (Zb (Zf 0) Zo))) Zo)) (Z3 (Zb (Zf 0) (Zb Zu Zo)))) Zo))) (s_g 5))
 (Zw (Z9 (Zo0 (s_il (Zf 4)) (s_g 0) Sw (Z3 (Zb (Zf 1) (Zb (Zf 0) (Zb (Zf 2) Zo))))) (s_g 6))
 (Zw (Xp (Yx (s_op s_eq (Z3 (Zb (Zf 0) (Zb Zu Zo))) Zu))
 (Z9 (Zvx (s_op s_ix (Zf 6) Zu) (Wi (s_un Zas Zu))) (Zna (Zf 6) (s_un Zas Zu)))
 Yq)
 (Y0 (Zf 6))))))),λds M Kk hM hD h=>?_⟩
  let⟨k0,n,lg,rfl,h⟩:=h;let⟨hk,⟨n1,n8,g1,g4⟩,k⟩:=h;exists ·,k0,3,rfl,hk,⟨nofun,nofun⟩,λbs nb b2 b3 br=>?_;let b3:bs.length<=3:=by lia
  let bne:bs≠[]:=λz=>by rw[z]at b2;cases b2
  exists ·,·,⟨(),()⟩,?_,λj ys M'=>M=M'/\∃wss:List (List (List Int)),wss.length=j/\ys=wss.map wsD/\∀ws∈wss,WOk ws/\ws.length<=12,λ_ _ _ _ _=>trivial,⟨rfl,[],rfl,rfl,λ_ h=>nomatch h⟩,?_,?_
  .show n.toNat<=sizeLine;exact Zm ()
  .rintro j x ys _ hj rfl ⟨rfl,wss,lw,rfl,okw⟩;exists ·,·,·,k0,bs,3,lg,rfl,hk,⟨nb,bne,(),nofun,nofun,g1,g4⟩,λws ow lw'=>⟨rfl,wss++[ws],by rw[Jc,lw];rfl,by rw[Jg];rfl,λw hw=>?_⟩;rcases Gb.mp hw with z|z
   .exact okw w z
   .rw[Jj.mp z];exact⟨ow,()⟩
  rintro ys _ ⟨rfl,wss,lw,rfl,okw⟩;let lw:wss.length=n.toNat:=lw;let lwm:(wss.map wsD).length=wss.length:=Ja _;exists ·,·,·,?_,λj ys M'=>M=M'/\ys=((wss.take j).map λws=>(ws.length:Int)).map .int,λ_ _ _ _ _=>rfl,⟨rfl,rfl⟩,?_,?_
  .show(wss.map wsD).length<=sizeLine;exact Zm ()
  .rintro j x ys _ hj hx ⟨rfl,rfl⟩;let⟨hj',rfl⟩:=Yj hx;exists ·,·,rfl,?_;rw[Jf hj',Jg,Jg];show _=_++[D.int _];rw[Ja]
  rintro ys _ ⟨rfl,rfl⟩;rw[show Lb (wss.map wsD).length wss=wss by rw[lwm,Jw]];obtain⟨mx,emx,hmx⟩:∃mx,mxOf none (wss.map λws=>(ws.length:Int))=some mx/\(∀ws∈wss,(ws.length:Int)<=mx)/\0<=mx/\mx<=12:=by
   let ge:=(Zpt (wss.map λws=>(ws.length:Int)) none).1;let le:=Zps (b:=12) (wss.map λws=>(ws.length:Int)) none nofun (λm hm=>by
    let⟨ws,hws,rfl⟩:=Jo.mp hm;let:=(okw ws hws).2;lia) (λz e=>nomatch e)
   obtain⟨w0,r,rfl⟩:∃w0 r,wss=w0::r:=by
    cases wss with
    |nil=>have:([]:List (List (List Int))).length=n.toNat:=lw;let:(0:Nat)=n.toNat:=this;lia
    |cons a b=>exact⟨a,b,rfl⟩
   let⟨m,em⟩:=Ztm (r.map λws=>(ws.length:Int)) (w0.length:Int);let em':mxOf none ((w0::r).map λws=>(ws.length:Int))=some m:=em;rw[em']at ge le;exists m,em',λws hws=>ge _ (Jo.mpr ⟨ws,hws,rfl⟩),?_,le;let:=ge _ (Jo.mpr ⟨w0,Jn,rfl⟩);let:(w0.length:Int)<=m:=this;lia
  exists _,_,mx,rfl,rfl,emx,?_;exists ·,k0,2,rfl,hk,⟨nofun,nofun⟩,λr r0 r1=>?_;exists k0,·,hk,⟨(),()⟩,λss nds lss=>?_;exists ·,·,?_,λj ys M'=>M=M'/\∃Ls:List (List Pr),Ls.length=j/\ys=Ls.map tbD/\∀L∈Ls,TbOk L/\L.length<=12,λ_ _ _ _ _=>rfl,⟨rfl,[],rfl,rfl,λ_ h=>nomatch h⟩,?_,?_
  .show(wss.map wsD).length<=sizeLine;exact Zm ()
  .rintro j x ys _ hj hx ⟨rfl,Ls,lL,rfl,okL⟩;let⟨hj',rfl⟩:=Yj hx;let⟨ow,lw⟩:=okw _ (Jl hj');let hle:=hmx.1 _ (Jl hj');generalize wss[j]=wj at ow lw hle;exists ·,·,·,k0,wj,ss,rfl,hk,⟨ow,(),nds,(),()⟩,λL fr fi pw=>⟨rfl,Ls++[L],by rw[Jc,lL];rfl,by rw[Jg];rfl,λw hw=>?_⟩;rcases Gb.mp hw with z|z
   .exact okL w z
   .rw[Jj.mp z];exact⟨⟨fr,fi⟩,by have:=pw.length_eq;rw[Ja]at this;lia⟩
  rintro ys _ ⟨rfl,Ls,lL,rfl,okL⟩;let lL:Ls.length=(wss.map wsD).length:=lL;let lLn:(Ls.length:Int)=n:=by lia
  refine g_nx ?_
  try dsimp only
  exists ·,k0,4,rfl,Yy hk,⟨nofun,nofun⟩,λq q0 q1=>.inl ⟨_,rfl,_,rfl,ite2 (λh=>?_) (λh=>⟨_,rfl,.inl (k Ls lLn okL)⟩)⟩;let hL0:0<Ls.length:=by lia
  exists ·,?_;refine Zc5 (i:=0) Wc (Wq (f:=tbD) (as:=Ls) (j:=0) rfl hL0) ?_;exists 1,rfl,·,rfl,·,?_;exists ·,1,rfl,M.length,_,_,Ls.length-1,rfl,rfl,Xw,?_,?_
  .rw[Ja];unfold ixN;rw[Dd nofun,De ()]
   congr 1
   lia
  rw[Wt];let ok0:=okL _ (Jl hL0);let e1:(Ls.map tbD).set (Ls.length-1) (.lst ((Ls[0].map pD).reverse))=(Ls.set (Ls.length-1) Ls[0].reverse).map tbD:=by
   rw[List.map_set]
   congr 1
   unfold tbD;rw[Jds]
  rw[e1];exists ·,.inl (k _ (by rw[Go];exact lLn) λL hL=>?_);rcases Mu hL with z|z
  .exact okL L z
  .rw[z];exact⟨⟨ok0.1.1.rev,by rw[Ff];exact ok0.1.2.1,λp hp=>ok0.1.2.2 p (List.mem_reverse.mp hp)⟩,by rw[Ff];exact ok0.2⟩
open L3
theorem Du(T:Txt mg)(cl:Cls K Zj)(n1:Xi K Zj "codes_by_name")(n2:Xi K Zj "marks_by_name"){f:Addr}(F:Fun K "__init__" "Family.__init__" Xz f fd):FnOk P w K mg base CX0 1 f fd ["self"] (spOf ⟨C,K⟩ (dInitF Zj)):=by
 refine L3.Fun.ok3 F Jbm (λds M K3 h=>?_) (λcdv A outer s H E hr=>?_)
 .let⟨f,rfl,_⟩:=h;rfl
 .let SC:=Jbm;let hu:=hr.units;let hu1:=X0 hr;refine⟨_,_,(Zd (Qh (pv 0) Rw rfl)
 (Zi (Qh (pv 0) Rw rfl))),λ_=>(Zw (Zm6 (Zf 0) Ng)
 (Zm6 (Zf 0) Ng)),λds M Kk hM hD h=>?_⟩
  let⟨f,rfl,h⟩:=h;let⟨hf,hl,k⟩:=h;let lf:f<M.length:=by lia
  refine⟨_,rfl,f,Zj,[],rfl,Yy hf,cl,n1,nofun,?_⟩;refine⟨_,rfl,f,Zj,_,rfl,Yy (J0 (by rw[Jc];lia)),cl,n2,(show 1<1000 by decide),.inl ?_⟩;let e:(((M++[MO.dct []]).set f (.ins Zj (Pi "codes_by_name" (.cell M.length) [])))++[MO.dct []]).set f (.ins Zj (Pi "marks_by_name" (.cell ((M++[MO.dct []]).set f (.ins Zj (Pi "codes_by_name" (.cell M.length) []))).length) (Pi "codes_by_name" (.cell M.length) [])))=M.set f (.ins Zj (famD f))++[.dct [],.dct []]:=by
   rw[Fv _ _ (by rw[Go,Jc];lia),Jgu,Fv _ _ lf,Gg];let l2:((M++[MO.dct []]).set f (.ins Zj (Pi "codes_by_name" (.cell M.length) []))).length=f+2:=by rw[Go,Jc,hl];rfl
   rw[l2,hl];rfl
  exact e ▸ k
theorem Jba(T:Txt mg)(cl:Cls K Zj)(n1:Xi K Zj "codes_by_name")(n2:Xi K Zj "marks_by_name"){f:Addr}(F:Fun K "add" "Family.add" V6 f fd):FnOk P w K mg base CX0 1 f fd ["self","name","code","mark"] (spOf ⟨C,K⟩ (dAddN Zj)):=by
 refine L3.Fun.ok3 F Jcp (λds M K3 h=>?_) (λcdv A outer s H E hr=>?_)
 .let⟨f,n,S,mk,zs,rfl,_⟩:=h;rfl
 .let SC:=Jcp;let hu:=hr.units;let hu1:=X0 hr;refine⟨_,_,(Zd (Yt (Va (Znl hu1 (pv 1) (Vb (pv 0) rfl)))
 (Zi Ru)
 Zz)
 (Zd (Sc hu1 (Vb (pv 0) rfl) (pv 1) (pv 2) rfl)
 (Zi (Sc hu1 (Vb (pv 0) rfl) (pv 1) (Yh (Zkb (K:=K) rfl) (by rfl) T.b_tuple C4 (Za (pv 3) Zc)) rfl)))),λ_=>(Zw (Xp (s_b (Zst (Zf 1) (Pu (Zf 0))))
 Zhn
 Yq)
 (Zw (Zau (Pu (Zf 0)) (Zf 1) (Zf 2))
 (Zau (Pu (Zf 0)) (Zf 1) (s_cb Zci (Zb (Zf 3) Zo))))),λds M Kk hM hD h=>?_⟩
  let⟨f,n,S,mk,zs,rfl,h⟩:=h;let⟨Fa,hl,hn,k⟩:=h;let dc:U0 M (.cell (f+1))=some (Vz zs):=by simp only[U0,Fa.h1]
  let ll:∀g:Fq->D,(zs.map λz=>((.inr z.1:Key),g z)).length<sizeLine:=λg=>by rw[Ja];exact Bn hl nofun
  refine⟨_,rfl,_,rfl,f,Zj,_,_,rfl,Fa.h0,cl,n1,rfl,_,.inl ⟨_,_,dc,rfl,rfl⟩,_,rfl,?_⟩;rw[show valD (Vz zs) (.inr n)=none from Zra hn];refine iteF ?_;let l1:=Xx Fa.h1;let new:∀g:Fq->D,∀v:D,putD (zs.map λz=>((.inr z.1:Key),g z)) (.inr n) v=(zs.map λz=>((.inr z.1:Key),g z))++[(.inr n,v)]:=λg v=>Rt λkv hkv e=>by
   let⟨z,hz,rfl⟩:=Jo.mp hkv;exact hn (Jo.mpr ⟨z,hz,Lq e⟩)
  refine⟨_,rfl,_,rfl,f,Zj,_,_,rfl,Fa.h0,cl,n1,rfl,_,rfl,_,.inl ⟨f+1,_,_,rfl,Fa.h1,rfl,ll _,rfl⟩,?_⟩;refine⟨_,rfl,_,_,rfl,rfl,_,rfl,f,Zj,_,_,rfl,Yf Fa.h0 (),cl,n2,rfl,_,rfl,_,.inl ⟨f+2,_,_,rfl,Yf Fa.h2 (),rfl,ll _,rfl⟩,.inl ?_⟩;let e1:putD (Vz zs) (.inr n) (.code S)=Vz (zs++[(n,S,mk)]):=by
   unfold Vz;rw[new,Jg];rfl
  let e2:putD (Za6 zs) (.inr n) (.tup (mk.map .int))=Za6 (zs++[(n,S,mk)]):=by
   unfold Za6;rw[new,Jg];rfl
  rw[e1,e2];exact k
def Jda(T:Txt mg)(cl:Cls K Zj)(n1:Xi K Zj "codes_by_name")(n2:Xi K Zj "marks_by_name"){f:Addr}(F:Fun K "code" "Family.code" Vh f fd):FnOk P w K mg base CX0 1 f fd ["self","name"] (spOf ⟨C,K⟩ (dCodeN Zj)):=by
 refine L3.Fun.ok3 F Jco (λds M K3 h=>?_) (λcdv A outer s H E hr=>?_)
 .let⟨f,n,zs,rfl,_⟩:=h;rfl
 .let SC:=Jco;let hu:=hr.units;let hu1:=X0 hr;refine⟨_,_,(Zd (Yt (Va (Za1 hu1 (pv 1) (Vb (pv 0) rfl)))
 (Zi Ru)
 Zz)
 (Zi (Zx (Wl hu1 (Vb (pv 0) rfl) (pv 1) (λ_ _=>rfl))))),λ_=>(Zw (Xp (s_b (Zeb (Zf 1) (Pu (Zf 0))))
 Zhn
 Yq)
 (Y0 (V4 (Pu (Zf 0)) (Zf 1)))),λds M Kk hM hD h=>?_⟩
  let⟨f,n,zs,rfl,h⟩:=h;let⟨Fa,hn,k⟩:=h;let dc:U0 M (.cell (f+1))=some (Vz zs):=by simp only[U0,Fa.h1]
  let⟨z,hz,rfl⟩:=Jo.mp hn;let ev:valD (Vz zs) (.inr z.1)=some (.code z.2.1):=Zgi Fa.nd hz;exists ·,·,f,Zj,_,·,Fa.h0,cl,n1,rfl,_,.inl ⟨_,_,dc,rfl,rfl⟩,·,?_;rw[ev];refine iteF ?_;exists ·,f,Zj,_,·,Fa.h0,cl,n1,rfl,·,_,.inl ⟨_,_,dc,rfl,ev.symm⟩,.inl (k z hz rfl)
open L3
def Jbc(T:Txt mg)(cl:Cls K Zj)(n1:Xi K Zj "codes_by_name")(n2:Xi K Zj "marks_by_name"){f:Addr}(F:Fun K "names" "Family.names" W2 f fd):FnOk P w K mg base CX0 1 f fd ["self"] (spOf ⟨C,K⟩ (dNamesF Zj)):=by
 refine L3.Fun.ok3 F Jas (λds M K3 h=>?_) (λcdv A outer s H E hr=>?_)
 .let⟨f,zs,rfl,_⟩:=h;rfl
 .let SC:=Jas;let hu:=hr.units;let hu1:=X0 hr;exists _,_,(Zi (Zx (Yh (Zdm rfl) (by rfl) T.b_list Cu (Za (Vb (pv 0) rfl) Zc)))),λ_=>(Y0 (s_cb Zov (Zb (Pu (Zf 0)) Zo))),λds M Kk hM hD h=>?_;let⟨f,zs,rfl,h⟩:=h;let⟨Fa,k⟩:=h;let dc:U0 M (.cell (f+1))=some (Vz zs):=by simp only[U0,Fa.h1]
  refine⟨_,rfl,f,Zj,_,_,rfl,Fa.h0,cl,n1,rfl,_,_,rfl,dc,.inl ?_⟩;let e:(Vz zs).map (λkv=>kD kv.1)=(zs.map (·.1)).map D.str:=by
   unfold Vz;rw[Gk,Gk];rfl
  rw[e];exact k
open L3
def Zny(XF Pt:Addr)(pos:Pos)(qn:Str):Sp3:=λds M K=>∃(k:Nat)(d e:D)(ns:List Str)(Ls:List (List Pr)),ds=[d,e]/\M[k]?=some (.tab Pt pos qn)/\lsOf M d=some (ns.map .str)/\lsOf M e=some (Ls.map tbD)/\(ns.Nodup/\ns.length<=8/\(∀z∈ns,z.length<=8)/\∀L∈Ls,TbOk L) /\
 ∀(M':Mem)(f:Nat)(zs:List Fq),M<+:M'->M.length<=f->FamAt XF M' f zs->Tld zs (ns.zip Ls)->K (.cell f) M'
theorem Jce(T:Txt mg)(P9:Mkr P w K mg base "Code" C 4 ["self","table"] (Nb C Pt lamP lamQ))(Uz:Mkr P w K mg base "Family" Zj 1 ["self"] (spOf ⟨C,K⟩ (dInitF Zj)))(Zgc:Met P w K mg base Zj "add" 1 ["self","name","code","mark"] (spOf ⟨C,K⟩ (dAddN Zj))){f:Addr}(F:Fun K "_law_family" "_law_family" Jdk f fd):FnOk P w K mg base CX0 6 f fd ["_law_names_here","_law_tables_here"] (spOf ⟨C,K⟩ (Zny Zj Pt lamP lamQ)):=by
 refine L3.Fun.ok3 F Dt (λds M K3 h=>?_) (λcdv A outer s H E hr=>?_)
 .let⟨k0,d,e,ns,Ls,rfl,_⟩:=h;rfl
 .let SC:=Dt;let hu:=hr.units;let hu1:=X0 hr;let Zde:Room 5 _:=hr.mono nofun;let Qx:Room 2 _:=hr.mono nofun;let Zja:Room 1 _:=hr.mono nofun;refine⟨_,_,(Zd (Zs (i:=2) SC.nd rfl (Cb rfl) (Znk Uz Qx rfl))
 (Zd (Yr Cd rfl (Znj rfl T.b_zip (Za (pv 0) (Za (pv 1) Zc))) (Vx (n:=2) rfl (Yc (Zt (i:=3) SC.nd rfl (Cb rfl)) (Yc (Zt (i:=4) SC.nd rfl (Cb rfl)) X9)) (by rfl))
 (Zd (Zs (i:=5) SC.nd rfl (Cb rfl) (Y6 Zc))
 (Zd (Yt (PW.pt (Zhz (Z2 (Qa (K':=K) rfl hu) (pv 4) (Yl Zc) (Z6 _)) (Zcq (Z2 (Pe (K':=K) rfl hu) (Z0 Xh (Zq (Y3 (K:=K) rfl) (by rfl) T.b_len Di (Za (pv 3) Zc)) Zh) Zh (Z6 _)))))
 (Zi (Zs (i:=5) SC.nd rfl (Cb rfl) (Z1 (Ye (K':=K) rfl) (Z1 (Ye (K':=K) rfl) (pv 4) Zh (λ_ _=>rfl)) Zh (λ_ _=>rfl))))
 Zz)
 (Zi (Xj (Zcv (pv 2) Zgc Zja (Za (pv 3) (Za (Ztc P9 Zde rfl (Za (Yh (Sk (K:=K) rfl) (by rfl) T.b_list Cu (Za (pv 4) Zc)) Zc)) (Za (pv 5) Zc)))))))))
 (Zi (Zx (pv 2))))),λ_=>(Zw (Z9 (Zsl Zo) (s_g 2))
 (Zw (Wj (s_iz (Zb (Zf 0) (Zb (Zf 1) Zo))) (Sy (Xd (s_g 3) (Xd (s_g 4) Sz)))
 (Zw (Z9 (Vg Zo) (s_g 5))
 (Zw (Xp (Zsv (Yx (s_op s_ne (Zf 4) (V1 Zo))) (Yx (s_op s_eq (s_op Zcj (s_cb X8 (Zb (Zf 3) Zo)) Zu) Zu)))
 (Z9 (s_op s_ix (s_op s_ix (Zf 4) Zu) Zu) (s_g 5))
 Yq)
 (Vu (Qf (Zf 2) (Zb (Zf 3) (Zb (Zd8 (Zb (s_cb Zat (Zb (Zf 4) Zo)) Zo)) (Zb (Zf 5) Zo))))))))
 (Y0 (Zf 2)))),λds M Kk hM hD h=>?_⟩
  let⟨k0,d,e,ns,Ls,rfl,h⟩:=h;let⟨h0,hd,he,⟨nd,l8,ln8,okL⟩,k⟩:=h;refine⟨M.length,rfl,Xw,by rw[Jc];rfl,rfl,?_⟩;rw[Wt];let F0:FamAt Zj (M++[MO.ins Zj (famD M.length)]++[MO.dct [],MO.dct []]) M.length []:=by
   rw[Gg];exists P2 (k:=0),P2 (k:=1),P2 (k:=2),Fg
  let p0:M<+:M++[MO.ins Zj (famD M.length)]++[MO.dct [],MO.dct []]:=by rw[Gg];exists ·
  generalize M++[MO.ins Zj (famD M.length)]++[MO.dct [],MO.dct []]=M0 at F0 p0;refine g_nx ?_
  try dsimp only
  exists ·,·,_,_,_,·,(Z7 (Ym p0 hd)).2.1,(Z7 (Ym p0 he)).2.1,λi ρ M'=>∃(zs:List Fq)(v3 v4 v5:Option D),ρ=[some d,some e,some (.cell M.length),v3,v4,v5]/\M<+:M'/\FamAt Zj M' M.length zs/\zs.length=i/\∀(j:Nat)(z:Fq)(q:Nt),zs[j]?=some z->(ns.zip Ls)[j]?=some q->z.1=q.1/\z.2.1.Perm q.2,λ_ _ _ _ h=>?_,⟨[],_,_,_,rfl,p0,F0,rfl,λi z q e=>nomatch e⟩,?_,?_
  .let⟨_,_,_,_,_,p,_⟩:=h;exists(Z7 (Ym p hd)).2.1,(Z7 (Ym p he)).2.1
  .rintro i x ρ M1 hi ⟨a,b,ea,eb,rfl⟩ ⟨zs,v3,v4,v5,rfl,p1,F1,lz,tz⟩;let⟨ha,rfl⟩:=Yj ea;let⟨hb,rfl⟩:=Yj eb;let hz:i<(ns.zip Ls).length:=by rw[Bc];lia
   let okl:=okL _ (Jl hb);let nw:ns[i]∉zs.map (·.1):=λhm=>by
    let⟨z,hz',e⟩:=Jo.mp hm;let⟨j,hj,rfl⟩:=Ju hz';let hj':j<(ns.zip Ls).length:=by lia
    let:=(tz j _ _ (Jb hj) (Jb hj')).1;rw[Gs]at this;let e2:ns[j]'(by rw[Bc]at hj';lia)=ns[i]:=this.symm.trans e;let:=(G3 nd).mp e2;lia
   let l1:=ln8 _ (Jl ha);exists ·,rfl,_,·,_,·,rfl,?_;exists Gc _,?_;refine g_nx ?_
   try dsimp only
   refine Zg4 (λρ' M'=>∃mk:List Int,ρ'=[some d,some e,some (.cell M.length),some (.str ns[i]),some (tbD Ls[i]),some (wD mk)]/\M1=M') (λKn hn=>?_) ?_
   .exists ·,Gc _,Q3 Zwj (a:=Ls[i]) (b:=[]) rfl rfl ⟨_,rfl,?_⟩
    by_cases en:Ls[i]=[]
    .rw[Df en];exact iteF (hn _ _ ⟨[],rfl,rfl⟩)
    rw[Dg en];refine iteT ?_;exists ·,Zm (show ns[i].length<=100000 by lia),_,·,rfl,(show(0:Int)<2 by decide),.inl ⟨_,rfl,_,rfl,ite2 (λh=>?_) (λh=>hn _ _ ⟨[],rfl,rfl⟩)⟩;let h0:0<Ls[i].length:=Gm.mpr en;exists ·,_,_,·,rfl,Wq (j:=0) rfl h0,_,_,·,rfl,rfl,hn _ _ ⟨Ls[i][0].2,rfl,rfl⟩
   rintro _ _ ⟨mk,rfl,rfl⟩;exists ·,⟨M.length,_,rfl,F1.h0,rfl⟩,·,·,_,·,rfl,k0,_,Ls[i],Zy p1 h0,rfl,rfl,okl,λS pm ri=>?_;exists ·,M.length,ns[i],S,mk,zs,rfl,F1,by rw[lz];let:i<ns.length:=ha;lia,nw,?_;let lt1:=Xx F1.h2;refine .inl ⟨zs++[(ns[i],S,mk)],_,_,_,rfl,?_,F1.put (Ztl F1.nd nw),by rw[Jc,lz];rfl,λj z q e1 e2=>?_⟩
   .unfold Tx;exact Vi (Vi p1 ()) ()
   .by_cases hj:j<zs.length
    .rw[Jq hj]at e1;exact tz j z q e1 e2
    .rw[J9 ()]at e1;let hj2:j=i:=by
      let:=(Je.mp e1).1;simp at this;lia
     subst hj2;rw[lz,F3]at e1;cases e1;rw[Jb hz,Gs]at e2;cases e2;exists rfl,pm
  .rintro ρ M1 ⟨zs,v3,v4,v5,rfl,p1,F1,lz,tz⟩;let lz:zs.length=min (ns.map D.str).length (Ls.map tbD).length:=lz;rw[Ja,Ja]at lz;exists ·,.inl (k M1 _ zs p1 (Jd _) F1 ⟨by rw[Bc];exact lz,tz⟩)
open L3
def V0(N:Nat)(M:Mem)(b:Nat)(qs:List Nt):Prop:=∃cs:List Nat,cs.length=qs.length/\(∀c∈cs,N<=c)/\M[b]?=some (.dct (Es (λ(q:Nt)(c:Nat)=>((.inr q.1:Key),D.cell c)) qs cs))/\∀(i c:Nat)(q:Nt),cs[i]?=some c->qs[i]?=some q->M[c]?=some (.dct (q.2.map prK))
def V0.at{N:Nat}{b:Nat}(h:V0 N M b qs):Ut M b qs:=by
 let⟨cs,l,_,e,g⟩:=h;exists cs,l,e,g
def V0.pre{N:Nat}{M':Mem}{b:Nat}(h:V0 N M b qs)(p:M<+:M'):V0 N M' b qs:=by
 let⟨cs,l,n,e,g⟩:=h;exists cs,l,n,Zy p e,λi c q e1 e2=>Zy p (g i c q e1 e2)
theorem V0.put{N:Nat}{b t:Nat}{m:MO}(h:V0 N M b qs)(hb:N<=b)(ht:t<N):V0 N (M.set t m) b qs:=by
 let⟨cs,l,n,e,g⟩:=h;exists cs,l,n,Yf e (),λi c q e1 e2=>Yf (g i c q e1 e2) (by have:=n c (Gr e1);lia)
def Ze6:Sp3:=λds M K=>∃(d e:D)(ns:List Str)(Ls:List (List Pr)),ds=[d,e]/\lsOf M d=some (ns.map .str)/\lsOf M e=some (Ls.map tbD)/\(ns.Nodup/\ns.length<=8/\∀L∈Ls,TbOk L) /\
 ∀(M':Mem)(b:Nat),M<+:M'->M.length<=b->V0 M.length M' b (ns.zip Ls)->K (.cell b) M'
theorem Jcb(T:Txt mg){f:Addr}(F:Fun K "_law_books" "_law_books" Jct f fd):FnOk P w K mg base CX0 1 f fd ["_law_names_here","_law_tables_here"] (spOf ⟨C,K⟩ Ze6):=by
 refine L3.Fun.ok3 F Dv (λds M K3 h=>?_) (λcdv A outer s H E hr=>?_)
 .let⟨d,e,ns,Ls,rfl,_⟩:=h;rfl
 .let SC:=Dv;let hu:=hr.units;let hu1:=X0 hr;refine⟨_,_,(Zd (Zs (i:=2) SC.nd rfl (Cb rfl) Rw)
 (Zd (Yr Cd rfl (Znj rfl T.b_zip (Za (pv 0) (Za (pv 1) Zc))) (Vx (n:=2) rfl (Yc (Zt (i:=3) SC.nd rfl (Cb rfl)) (Yc (Zt (i:=4) SC.nd rfl (Cb rfl)) X9)) (by rfl))
 (Zd (Sc hu1 (pv 2) (pv 3) Rw rfl)
 (Zi (Yr Cd rfl (Yv (pv 4)) (Vx (n:=2) rfl (Yc (Zt (i:=5) SC.nd rfl (Cb rfl)) (Yc (Zt (i:=6) SC.nd rfl (Cb rfl)) X9)) (by rfl))
 (Zi (Sc hu1 (Wl hu1 (pv 2) (pv 3) (λ_ _=>rfl)) (pv 5) (pv 6) rfl))))))
 (Zi (Zx (pv 2))))),λ_=>(Zw (Z9 Ng (s_g 2))
 (Zw (Wj (s_iz (Zb (Zf 0) (Zb (Zf 1) Zo))) (Sy (Xd (s_g 3) (Xd (s_g 4) Sz)))
 (Zw (Zau (Zf 2) (Zf 3) Ng)
 (Wj (s_il (Zf 4)) (Sy (Xd (s_g 5) (Xd (s_g 6) Sz)))
 (Zau (V4 (Zf 2) (Zf 3)) (Zf 5) (Zf 6)))))
 (Y0 (Zf 2)))),λds M Kk hM hD h=>?_⟩
  let⟨d,e,ns,Ls,rfl,h⟩:=h;let⟨hd,he,⟨nd,l8,okL⟩,k⟩:=h;let p0:M<+:M++[MO.dct []]:=⟨_,rfl⟩;refine g_nx ?_
  try dsimp only
  exists ·,·,_,_,_,·,(Z7 (Ym p0 hd)).2.1,(Z7 (Ym p0 he)).2.1,λi ρ M'=>∃(cs:List Nat)(v3 v4 v5 v6:Option D),ρ=[some d,some e,some (.cell M.length),v3,v4,v5,v6]/\M<+:M'/\cs.length=i/\(∀c∈cs,M.length<c)/\M'[M.length]?=some (.dct (Es (λ(q:Nt)(c:Nat)=>((.inr q.1:Key),D.cell c)) ((ns.zip Ls).take i) cs))/\∀(j c:Nat)(q:Nt),cs[j]?=some c->(ns.zip Ls)[j]?=some q->M'[c]?=some (.dct (q.2.map prK)),λ_ _ _ _ h=>?_,⟨[],_,_,_,_,rfl,p0,rfl,(λ_ h=>nomatch h),Xw,λj c q e=>nomatch e⟩,?_,?_
  .let⟨_,_,_,_,_,_,p,_⟩:=h;exists(Z7 (Ym p hd)).2.1,(Z7 (Ym p he)).2.1
  .rintro i x ρ M1 hi ⟨a,b,ea,eb,rfl⟩ ⟨cs,v3,v4,v5,v6,rfl,p1,lc,lt,ho,hin⟩;let⟨ha,rfl⟩:=Yj ea;let⟨hb,rfl⟩:=Yj eb;let hz:i<(ns.zip Ls).length:=by rw[Bc];lia
   let okl:=okL _ (Jl hb);let lLi:=okl.2.1;let lM:=Xx ho;let et:=Jf hz;rw[Gs]at et;exists ·,rfl,_,·,_,·,rfl,?_;let ho1:(M1++[MO.dct []])[M.length]?=_:=Yy ho;let lzp:(Es (λ(q:Nt)(c:Nat)=>((.inr q.1:Key),D.cell c)) ((ns.zip Ls).take i) cs).length=i:=by rw[List.length_zipWith,Ji];lia
   refine⟨_,rfl,_,rfl,_,.inl ⟨M.length,_,_,rfl,ho1,rfl,by rw[lzp];exact Bn (by lia:i<=8) nofun,rfl⟩,?_⟩;let en:putD (Es (λ(q:Nt)(c:Nat)=>((.inr q.1:Key),D.cell c)) ((ns.zip Ls).take i) cs) (.inr ns[i]) (.cell M1.length)=Es (λ(q:Nt)(c:Nat)=>((.inr q.1:Key),D.cell c)) ((ns.zip Ls).take (i+1)) (cs++[M1.length]):=by
    rw[Rt λkv hkv e=>?_]
    .rw[et,List.zipWith_append (by rw[Ji];lia)];rfl
    .let⟨j,hj,rfl⟩:=Ju hkv;rw[List.getElem_zipWith]at e;let hj2:j<i:=by rw[lzp]at hj;exact hj
     let e2:=Lq e;rw[By,Gs]at e2;let:=(G3 nd).mp e2;lia
   rw[en];let pz:M<+:(M1++[MO.dct []]).set M.length (.dct (Es (λ(q:Nt)(c:Nat)=>((.inr q.1:Key),D.cell c)) ((ns.zip Ls).take (i+1)) (cs++[M1.length]))):=Vi (p1.trans ⟨_,rfl⟩) (Jd _);let hoz:((M1++[MO.dct []]).set M.length (.dct (Es (λ(q:Nt)(c:Nat)=>((.inr q.1:Key),D.cell c)) ((ns.zip Ls).take (i+1)) (cs++[M1.length]))))[M.length]?=_:=J0 (by rw[Jc];lia);let hcz:((M1++[MO.dct []]).set M.length (.dct (Es (λ(q:Nt)(c:Nat)=>((.inr q.1:Key),D.cell c)) ((ns.zip Ls).take (i+1)) (cs++[M1.length]))))[M1.length]?=some (.dct []):=Yf Xw ();let hinz:∀(j c:Nat)(q:Nt),cs[j]?=some c->(ns.zip Ls)[j]?=some q->((M1++[MO.dct []]).set M.length (.dct (Es (λ(q:Nt)(c:Nat)=>((.inr q.1:Key),D.cell c)) ((ns.zip Ls).take (i+1)) (cs++[M1.length]))))[c]?=some (.dct (q.2.map prK))/\c≠M1.length:=λj c q e1 e2=>by
    let h1:=hin j c q e1 e2;let h2:=lt c (Gr e1);let h3:=Xx h1;exact⟨Yf (Yy h1) (),()⟩
   generalize (M1++[MO.dct []]).set M.length (.dct (Es (λ(q:Nt)(c:Nat)=>((.inr q.1:Key),D.cell c)) ((ns.zip Ls).take (i+1)) (cs++[M1.length])))=M2 at pz hoz hcz hinz;let l2:=Xx hcz;let s0:M2.set M1.length (.dct [])=M2:=Jgg λj=>by
    by_cases hj:M1.length=j
    .subst hj;rw[J0 l2,hcz]
    .rw[Ga hj]
   exists ·,·,λj ρ M'=>∃v5 v6:Option D,ρ=[some d,some e,some (.cell M.length),some (.str ns[i]),some (tbD Ls[i]),v5,v6]/\M2.set M1.length (.dct ((Ls[i].take j).map prK))=M',λ_ _ _ _ _=>rfl,⟨_,_,rfl,s0⟩,?_,?_
   .rintro j x ρ _ hj hx ⟨v5,v6,rfl,rfl⟩;let⟨hj',rfl⟩:=Yj hx;let ho2:(M2.set M1.length (.dct ((Ls[i].take j).map prK)))[M.length]?=_:=Yf hoz ();let hc2:(M2.set M1.length (.dct ((Ls[i].take j).map prK)))[M1.length]?=_:=J0 l2;let ndz:(((ns.zip Ls).take (i+1)).map (·.1)).Nodup:=by
     rw[B9,Gj,G6];intro a b ha2 hb2 hab e;rw[Ji]at ha2 hb2;rw[By,By,Gs,Gs]at e;let:=(G3 nd).mp e;lia
    let ev:=Zgh (cs:=cs++[M1.length]) ndz (i:=i) (q:=(ns[i],Ls[i])) (c:=M1.length) (by rw[Ja2 (),Jb hz,Gs]) (by rw[J9 (),lc,F3];rfl);exists ·,rfl,_,·,_,·,rfl,?_;exists ·,·,·,_,.inl ⟨_,_,by simp only[U0,ho2],rfl,ev.symm⟩,·,_,.inl ⟨M1.length,_,_,rfl,hc2,rfl,?_,rfl⟩,.inl ⟨_,_,rfl,?_⟩
    .rw[Ja,Ji];exact Bn (by lia:min j Ls[i].length<=100) nofun
    rw[Jgu]
    congr 2
    rw[Rt λkv hkv e=>?_,Jf hj',Jg]
    .rfl
    .let⟨p,hp,rfl⟩:=Jo.mp hkv;let⟨a,ha2,rfl⟩:=Ju hp;rw[Ji]at ha2;rw[By]at e;exact(okl.1.get (i:=a) (j:=j) () hj' ()).1 (Kt e)
   .rintro ρ _ ⟨v5,v6,rfl,rfl⟩;let eL:Ls[i].take (Ls[i].map pD).length=Ls[i]:=by rw[Ja,Jw]
    rw[show Lb _ Ls[i]=Ls[i]from eL];refine .inl ⟨cs++[M1.length],_,_,_,_,rfl,Vi pz (),by rw[Jc,lc];rfl,λc hc=>?_,Yf hoz (),λj c q e1 e2=>?_⟩
    .rcases Gb.mp hc with z|z
     .exact lt c z
     .rw[Jj.mp z];exact lM
    .by_cases hj:j<cs.length
     .rw[Jq hj]at e1;let⟨g1,g2⟩:=hinz j c q e1 e2;exact Yf g1 g2
     .rw[J9 ()]at e1;let hj2:j=i:=by
       let:=(Je.mp e1).1;simp at this;lia
      subst hj2;rw[lc,F3]at e1;cases e1;rw[Jb hz,Gs]at e2;cases e2;exact J0 l2
  .rintro ρ M1 ⟨cs,v3,v4,v5,v6,rfl,p1,lc,lt,ho,hin⟩;let lc:cs.length=min (ns.map D.str).length (Ls.map tbD).length:=lc;rw[Ja,Ja]at lc;let en:(ns.zip Ls).take (zIt d e (ns.map D.str) (Ls.map tbD)).n=ns.zip Ls:=Gd (by show _<=min _ _;rw[Bc,Ja,Ja];exact Jd _);rw[en]at ho;exists ·,.inl (k M1 _ p1 (Jd _) ⟨cs,by rw[Bc];exact lc,λc hc=>B3 (lt c hc),ho,λj c q e1 e2=>hin j c q e1 e2⟩)
open L3
theorem Zag(fr:Free L):Zq8 (L.map prK) L:=by
 induction L with
 |nil=>exact⟨(λ_ h=>nomatch h),λ_ _=>rfl⟩
 |cons q r ih =>
  unfold Free at fr;rw[Mo]at fr;let⟨i1,i2⟩:=ih fr.2;exists λp hp=>?_,λs hs=>?_
  .unfold valD;rw[Js,G7];rcases Jp.mp hp with rfl|h
   .rw[show decide ((prK p).1=C5 p.1)=true from Df rfl];rfl
   .rw[show decide ((prK q).1=C5 p.1)=false from Dg λe=>(fr.1 p h).1 (Kt e)];exact i1 p h
  .unfold valD;rw[Js,G7,show decide ((prK q).1=C5 s)=false from Dg λe=>hs q Jn (Kt e)];exact i2 s λp hp=>hs p (Jk _ hp)
def Zqm:Sp3:=λds M K=>∃(c1 c2:Nat)(d:D)(L1 L2:List Pr)(ts:List Int),ds=[.cell c1,.cell c2,d]/\M[c1]?=some (.dct (L1.map prK))/\M[c2]?=some (.dct (L2.map prK))/\lsOf M d=some (ts.map .int)/\(TbOk L1/\TbOk L2/\ts.length<=20000) /\
 (∀(ns us:List Int)(M':Mem)(t:Nat),GoOk L1 L2 ts ns us->M<+:M'->M.length<=t->M'[t]?=some (.lst (us.map .int))->K (.tup [.lst (ns.map .int),.cell t]) M')/\((∀ns us,¬ GoOk L1 L2 ts ns us)->∀M',M<+:M'->K .non M')
theorem Jbl(T:Txt mg){f:Addr}(F:Fun K "_law_go" "_law_go" Jan f fd):FnOk P w K mg base CX0 1 f fd ["_law_one","_law_other","_law_text_here"] (spOf ⟨C,K⟩ Zqm):=by
 refine L3.Fun.ok3 F Jcq (λds M K3 h=>?_) (λcdv A outer s H E hr=>?_)
 .let⟨c1,c2,d,L1,L2,ts,rfl,_⟩:=h;rfl
 .let SC:=Jcq;let hu:=hr.units;let hu1:=X0 hr;refine⟨_,_,(Zd (Zs (i:=3) SC.nd rfl (Ef rfl) (Yl Zc))
 (Zd (Yr Cd rfl (Yv (pv 2)) (Zt (i:=4) SC.nd rfl (Cb rfl))
 (Zd (Yt (Va (Za1 hu1 (pv 4) (pv 0)))
 (Zi (Zx S0))
 Zz)
 (Zi (Zs (i:=3) SC.nd rfl (Ef rfl) (Z0 (Y2 (K':=K) rfl) (pv 3) (Yh (Sk (K:=K) rfl) (by rfl) T.b_list Cu (Za (Wl hu1 (pv 0) (pv 4) (λ_ _=>rfl)) Zc)))))))
 (Zd (Zs (i:=5) SC.nd rfl (Ef rfl) Zej)
 (Zd (Zpc (Yr Cd rfl (Zpg (pv 1)) (Zt (i:=4) SC.nd rfl (Cb rfl))
 (Zi (Sc hu1 (pv 5) (Wl hu1 (pv 1) (pv 4) (λ_ _=>rfl)) (pv 4) rfl))))
 (Zd (Zs (i:=6) SC.nd rfl (Cb rfl) (Yl Zc))
 (Zd (Zs (i:=7) SC.nd rfl (Ef rfl) Zh)
 (Zd (Zei Cd (Z2 Zfr (pv 7) (Zq (Y3 (K:=K) rfl) (by rfl) T.b_len Di (Za (pv 3) Zc)) (Z6 _))
 (Zd (U9 (i:=8) SC.nd rfl rfl (T:=["_law_end_here"]) (cs:=[3,7,5]) rfl (CScope.ok (by kernel_rfl)) (Zaz rfl T.b_range (Za (Z0 (Y2 (K':=K) rfl) (pv 7) Zh) (Za (Z0 (Y2 (K':=K) rfl) (Zq (Q6 rfl) (by rfl) T.b_min La (Za (Z0 (Y2 (K':=K) rfl) (pv 7) Zh) (Za (Zq (Y3 (K:=K) rfl) (by rfl) T.b_len Di (Za (pv 3) Zc)) Zc))) Zh) Zc))) (λ_ _ _ _=>(Zt (i:=0) (X7 (by kernel_rfl)) rfl (Cb rfl) (Ef rfl))) (λ_ _ _ _=>(Nj (Va (Znl hu1 (Yh (Zkb (K:=K) rfl) (by rfl) T.b_tuple C4 (Za (Ya (Rf (K':=K) rfl) (pv 1) (Yb (pv 2)) (Yb (pv 0))) Zc)) (pv 3))))) (λ_ _ _ _=>(pv 0)) (Y8 nofun))
 (Zd (Yt (Z2 (Pe (K':=K) rfl hu) (pv 8) (Yl Zc) (Z6 _))
 (Zi (Zx S0))
 Zz)
 (Zd (Xj (V8 Cj Cy Cz Xv (pv 6) (Za (Wl hu1 (pv 5) (Yh (Zkb (K:=K) rfl) (by rfl) T.b_tuple C4 (Za (Ya (Rf (K':=K) rfl) (pv 3) (Yb (pv 7)) (Yb (Z1 (Ye (K':=K) rfl) (pv 8) Zh (λ_ _=>rfl)))) Zc)) (λ_ _=>rfl)) Zc)))
 (Zi (Zs (i:=7) SC.nd rfl (Ef rfl) (Z1 (Ye (K':=K) rfl) (pv 8) Zh (λ_ _=>rfl))))))))
 (Zi (Zx (Y6 (Za (pv 3) (Za (pv 6) Zc)))))))))))),λ_=>(Zw (Z9 (V1 Zo) (s_g 3))
 (Zw (Wj (s_il (Zf 2)) (s_g 4)
 (Zw (Xp (s_b (Zeb (Zf 4) (Zf 0)))
 (Y0 Zhm)
 Yq)
 (Z9 (s_op X6 (Zf 3) (s_cb Zat (Zb (V4 (Zf 0) (Zf 4)) Zo))) (s_g 3))))
 (Zw (Z9 Zoz (s_g 5))
 (Zw (Zou (Wj (Zvz (Zf 1)) (s_g 4)
 (Zau (Zf 5) (V4 (Zf 1) (Zf 4)) (Zf 4))))
 (Zw (Z9 (Sx Zo) (s_g 6))
 (Zw (Z9 Zu (s_g 7))
 (Zw (Zot (Yx (s_op s_lt (Zf 7) (s_cb X8 (Zb (Zf 3) Zo))))
 (Zw (Z9 (U3 (Zsq (Zb (s_op X6 (Zf 7) Zu) (Zb (s_op X6 (s_cb Zm8 (Zb (s_op X6 (Zf 7) Zu) (Zb (s_cb X8 (Zb (Zf 3) Zo)) Zo))) Zu) Zo))) (s_g 0) (s_b (Zst (s_cb Zci (Zb (s_sl Rh (Zf 1) (Wi (Zf 2)) (Wi (Zf 0))) Zo)) (Zf 3))) (Zf 0)) (s_g 8))
 (Zw (Xp (Yx (s_op s_eq (Zf 8) (V1 Zo)))
 (Y0 Zhm)
 Yq)
 (Zw (Vu (Wu (Zf 6) (Zb (V4 (Zf 5) (s_cb Zci (Zb (s_sl Rh (Zf 3) (Wi (Zf 7)) (Wi (s_op s_ix (Zf 8) Zu))) Zo))) Zo)))
 (Z9 (s_op s_ix (Zf 8) Zu) (s_g 7))))))
 (Y0 (Vg (Zb (Zf 3) (Zb (Zf 6) Zo))))))))))),λds M Kk hM hD h=>?_⟩
  let⟨c1,c2,d,L1,L2,ts,rfl,h⟩:=h;let⟨h1,h2,hd,⟨ok1,ok2,lts⟩,kY,kN⟩:=h;let lc1:=Xx h1;let lc2:=Xx h2;let wm:=Zag ok1.1;let wm2:=Zag ok2.1;let dc1:U0 M (.cell c1)=some (L1.map prK):=by simp only[U0,h1]
  let l2:=ok2.2.1;exists Gc _,?_;exists ·,_,(Z7 hd).2.1,λi ρ M'=>∃(U:List Pr)(v4:Option D),ρ=[some (.cell c1),some (.cell c2),some d,some (.lst ((Yi U).map .int)),v4,none,none,none,none]/\M=M'/\V3 L1 U ts i,λ_ _ _ _ h=>(by let⟨_,_,_,rfl,_⟩:=h;exact(Z7 hd).2.1),⟨[],_,rfl,rfl,(λ_ h=>nomatch h),rfl⟩,?_,?_
  .rintro i x ρ _ hi hx ⟨U,v4,rfl,rfl,tx⟩;let⟨hi',rfl⟩:=Yj hx;exists ·,·,_,.inl ⟨_,_,dc1,rfl,rfl⟩,·,?_
   by_cases hp:∃p∈L1,p.1=ts[i]
   .let⟨p,hp,e⟩:=hp;let ev:valD (L1.map prK) (.inl ts[i])=some (wD p.2):=by rw[<-e];exact wm.1 p hp
    rw[ev];refine iteF ?_;let lr:=T9 ok1.2 tx.1;let lU:U.length=i:=by
     let:=congrArg Ez tx.2;unfold Yz at this;rw[Ja,Ji]at this;lia
    let lw:=(ok1.2.2 p hp).2;exists ·,·,·,_,.inl ⟨_,_,dc1,rfl,ev.symm⟩,_,·,rfl,_,·,rfl,?_,?_
    .rw[Ja,Ja];exact Zm ()
    rw[<-Jg];let er:Yi (U++[p])=Yi U++p.2:=by rw[Qg];simp[Yi]
    refine .inl ⟨U++[p],some (.int ts[i]),?_,rfl,tx.snoc hi' hp e⟩;rw[er];rfl
   .let ev:valD (L1.map prK) (.inl ts[i])=none:=wm.2 _ λp hp' e=>hp ⟨p,hp',e⟩;rw[ev];refine iteT (.inl (kN (λns us=>Zjf hi' ?_ ns us) M (Jh _)));rw[Qn hi'];exact λp hp' e=>hp ⟨p,hp',e⟩
  rintro ρ _ ⟨U,v4,rfl,rfl,tx⟩;let tx:V3 L1 U ts ts.length:=by
   let:V3 L1 U ts (ts.map D.int).length:=tx;rwa [Ja]at this
  let lr:=T9 ok1.2 tx.1;let lU:U.length=ts.length:=by
   let:=congrArg Ez tx.2;unfold Yz at this;rw[Ja,Jw]at this;exact this
  generalize hns:Yi U=ns at lr;let lns:ns.length<=80000:=by lia
  let h2':∀m:MO,(M++[m])[c2]?=some (.dct (L2.map prK)):=λm=>Yy h2;exists c2,_,h2' _,·,c2,·,h2' _,λo vs=>?_;let sc:∀m:MO,(M++[m]).set c2 (.dfK o vs (L2.map prK))=M.set c2 (.dfK o vs (L2.map prK))++[m]:=λm=>Fv _ _ lc2;let lM:(M.set c2 (.dfK o vs (L2.map prK))).length=M.length:=Go;let ga:∀m:MO,(M.set c2 (.dfK o vs (L2.map prK))++[m])[M.length]?=some m:=λm=>by rw[<-lM];exact Xw
  let gs:∀m m':MO,(M.set c2 (.dfK o vs (L2.map prK))++[m]).set M.length m'=M.set c2 (.dfK o vs (L2.map prK))++[m']:=λm m'=>by rw[<-lM];exact Wt
  let gc:∀m:MO,(M.set c2 (.dfK o vs (L2.map prK))++[m])[c2]?=some (.dfK o vs (L2.map prK)):=λm=>Yy (J0 lc2);rw[sc];exists λi ρ M'=>∃v4:Option D,ρ=[some (.cell c1),some (.cell c2),some d,some (.lst (ns.map .int)),v4,some (.cell M.length),none,none,none]/\M.set c2 (.dfK o vs (L2.map prK))++[.dcT (Xm (L2.take i))]=M',?_,⟨_,rfl,rfl⟩,?_,?_
  .rintro i ρ _ _ ⟨v4,_,rfl⟩;exact gc _
  .rintro i x ρ _ hi ⟨kv,ekv,rfl⟩ ⟨v4,rfl,rfl⟩;let hi':i<L2.length:=by
    let:i<(L2.map prK).length:=hi;rw[Ja]at this;exact this
   rw[Jx,Jb hi']at ekv;cases ekv;let dc2:U0 (M.set c2 (.dfK o vs (L2.map prK))++[.dcT (Xm (L2.take i))]) (.cell c2)=some (L2.map prK):=by simp only[U0,gc]
   let ev:=wm2.1 _ (Jl hi');let hk':tkOf (wD L2[i].2)=some (wk L2[i].2):=Nr _;exists ·,·,·,·,_,.inl ⟨_,_,dc2,rfl,ev.symm⟩,_,.inr ⟨M.length,_,_,rfl,ga _,hk',?_,rfl⟩,.inl ⟨_,rfl,?_⟩
   .unfold Xm;rw[Ja,Ji];exact Bn (by lia:min i L2.length<=1000) nofun
   rw[gs]
   congr 3
   rw[Rt λkv hkv e=>?_]
   .unfold Xm;rw[Jf hi',Jg];rfl
   .unfold Xm at hkv;let⟨p,hp,rfl⟩:=Jo.mp hkv;let⟨j,hj,rfl⟩:=Ju hp;rw[Ji]at hj;rw[By]at e;let:=ok2.1.get (i:=j) (j:=i) () hi' ();exact this.2.1 (by rw[R9 e];exact Jh _)
  rintro ρ _ ⟨v4,rfl,rfl⟩;let eL:L2.take (kIt c2 o vs (L2.map prK)).n=L2:=by show L2.take (L2.map prK).length=L2;rw[Ja,Jw]
  rw[eL];refine⟨o,vs,_,gc _,?_⟩;let back:(M.set c2 (.dfK o vs (L2.map prK))++[MO.dcT (Xm L2)]).set c2 (MO.dct (L2.map prK))=M++[MO.dcT (Xm L2)]:=by
   rw[Fv _ _ (by rw[lM];exact lc2),Jgu]
   congr 1
   exact Jgg λj=>by
    by_cases hj:c2=j
    .subst hj;rw[J0 lc2,h2]
    .rw[Ga hj]
  rw[back];let hb0:(M++[.dcT (Xm L2)])[M.length]?=some (.dcT (Xm L2)):=Xw;let p0:M<+:M++[.dcT (Xm L2)]:=⟨_,rfl⟩;generalize M++[MO.dcT (Xm L2)]=M1 at hb0 p0;let lb:=Xx hb0;exists Gc _,?_;exists λm ρ M'=>∃(R:List En)(a:Nat)(v8:Option D),ρ=[some (.cell c1),some (.cell c2),some d,some (.lst (ns.map .int)),v4,some (.cell M.length),some (.cell M1.length),some (.int a),v8]/\M1++[.lst ((osOf R).map oD)]=M'/\Went L2 ns R a/\Zca R/\m=ns.length-a,⟨_,[],0,_,rfl,rfl,.nil,(λ_ h=>nomatch h),rfl⟩,?_;rintro m ρ _ ⟨R,a,v8,rfl,rfl,we,cln,rfl⟩;let lnm:(ns.map D.int).length=ns.length:=Ja _;let ha:=we.le
  let lR:=we.len;let loR:((osOf R).map oD).length=R.length:=by unfold osOf;rw[Ja,Ja]
  let hbk:(M1++[.lst ((osOf R).map oD)])[M.length]?=some (.dcT (Xm L2)):=Yy hb0;let dcT:Zjs (M1++[.lst ((osOf R).map oD)]) (.cell M.length)=some (Xm L2):=by simp only[Zjs,hbk]
  let pN:M<+:M1++[.lst ((osOf R).map oD)]:=p0.trans ⟨_,rfl⟩;exists ·,·,·,_,·,rfl,·,ite2 (λh=>?_) (λh=>?_)
  .let ha':a<ns.length:=by have:=of_decide_eq_true h;rw[lnm]at this;lia
   obtain⟨up,eup,hup⟩:∃up:Nat,(if((ns.map D.int).length:Int)<(a:Int)+4 then((ns.map D.int).length:Int)else(a:Int)+4)+1=((a+1+up:Nat):Int)/\up<=4/\a+up<=ns.length/\(up=4\/a+up=ns.length):=by
    rw[lnm]
    by_cases z:(ns.length:Int)<(a:Int)+4
    .exists ns.length-a,by rw[De z];lia,(),(),.inr ()
    .exists 4,by rw[Dd z];lia,(),(),.inl rfl
   let hw:∀l,l<up->cut (ns.map D.int) (some (a:Int)) (some ((a+1+l:Nat):Int))=((ns.drop a).take (l+1)).map D.int:=λl hl=>by
    rw[Q5,show((a+1+l:Nat):Int)=(a:Int)+((l+1:Nat):Int)by lia,Zmg ()]
   exists ·,·,·,·,_,·,?_;dsimp only[uC,uNil,add3,Zgp,Zgo,Zgk,T6,Qb,Zfh,Zgn,Zgm,Zgl,Zak];rw[eup];exists _,·,⟨(),(),(),()⟩,?_,λj ys M'=>M1++[.lst ((osOf R).map oD)]=M'/\ys=(((Eb j).filter λl=>L2.any λp=>decide (p.2=(ns.drop a).take (l+1))).map λl=>((a+1+l:Nat):Int)).map .int,λ_ _ _ _ _=>trivial,⟨rfl,rfl⟩,?_,?_
   .show(((a+1+up:Nat):Int)-((a:Int)+1)).toNat<=sizeLine;exact Zm ()
   .rintro j x ys _ hj rfl ⟨rfl,rfl⟩;let hj:j<up:=by
     let:j<(((a+1+up:Nat):Int)-((a:Int)+1)).toNat:=hj;lia
    let ei:(a:Int)+1+(j:Int)=((a+1+j:Nat):Int):=by lia
    rw[ei];exists ·,·,·,·,·,·,?_;rw[hw j hj];let hk':tkOf (wD ((ns.drop a).take (j+1)))=some (wk ((ns.drop a).take (j+1))):=Nr _;exists _,·,rfl,·,_,.inr ⟨_,_,dcT,hk',rfl⟩,·,?_
    by_cases hp:∃p∈L2,p.2=(ns.drop a).take (j+1)
    .let⟨p,hp,e⟩:=hp;let ev:valD (Xm L2) (wk ((ns.drop a).take (j+1)))=some (.int p.1):=by rw[<-e];exact Zfa ok2.1 hp
     rw[ev];refine iteT ⟨_,rfl,rfl,?_⟩;rw[Ma,Fb,Lj,Mb,De (B5.mpr ⟨p,hp,Df e⟩),Jg,Jg];rfl
    .let ev:valD (Xm L2) (wk ((ns.drop a).take (j+1)))=none:=Zka λp hp' e=>hp ⟨p,hp',e⟩;rw[ev];refine iteF ⟨rfl,?_⟩;rw[Ma,Fb,Lj,Mb,Dd (λz=>by let⟨p,hp',e⟩:=B5.mp z;exact hp ⟨p,hp',of_decide_eq_true e⟩),Gh]
   rintro ys _ ⟨rfl,rfl⟩;let eup2:(Zfo ((a:Int)+1) (((a+1+up:Nat):Int)-((a:Int)+1)).toNat).n=up:=by show(((a+1+up:Nat):Int)-((a:Int)+1)).toNat=up;lia
   rw[eup2];let hes:∀l∈(Eb up).filter λl=>L2.any λp=>decide (p.2=(ns.drop a).take (l+1)),l<up/\∃p∈L2,p.2=(ns.drop a).take (l+1):=λl hl=>by
    let⟨h1,h2⟩:=Fd.mp hl;let⟨p,hp,e⟩:=B5.mp h2;exists Fs.mp h1,p,hp,of_decide_eq_true e
   let hno:(Eb up).filter (λl=>L2.any λp=>decide (p.2=(ns.drop a).take (l+1)))=[]->∀p∈L2,¬ p.2<+:ns.drop a:=λe p hp hpre=>by
    let:=ok2.2.2 p hp;let hl0:=Gm.mpr this.1;let hle:=hpre.length_le;rw[Ge]at hle;let hm:p.2.length-1∈(Eb up).filter λl=>L2.any λp=>decide (p.2=(ns.drop a).take (l+1)):=by
     refine Fd.mpr ⟨Fs.mpr (),B5.mpr ⟨p,hp,Df ?_⟩⟩;rw[show p.2.length-1+1=p.2.length by lia];exact List.prefix_iff_eq_take.mp hpre
    rw[e]at hm;exact nomatch hm
   generalize (Eb up).filter (λl=>L2.any λp=>decide (p.2=(ns.drop a).take (l+1)))=es at hes hno;refine g_nx ?_
   (try dsimp only)
   exists ·,Gc _,eqN ⟨_,rfl,?_⟩;cases es with
   |nil =>
    rw[show decide ((([]:List Nat).map λl=>((a+1+l:Nat):Int))=[])=true from rfl];refine iteT (.inl (kN (λns' us=>?_) _ pN));let:=Zjd (S1:=L1) ok1.1 ok2.1 ok2.2 tx (R:=R) (pl:=a) (by rw[hns];exact⟨we,cln,.inr ⟨ha',hno rfl⟩⟩) (by rw[hns];exact ha') ns' us;exact this
   |cons l es =>
    let⟨hl,q,hq,eq⟩:=hes l Jn;let lq:q.2.length=l+1:=by rw[eq,Ji,Ge];lia
    let hk':tkOf (wD ((ns.drop a).take (l+1)))=some (wk ((ns.drop a).take (l+1))):=Nr _;let ev:valD (Xm L2) (wk ((ns.drop a).take (l+1)))=some (.int q.1):=by rw[<-eq];exact Zfa ok2.1 hq
    rw[show decide (((l::es).map λl=>((a+1+l:Nat):Int))=[])=false from rfl];refine iteF ?_;let a0:_root_.L2.atI (((l::es).map λl=>((a+1+l:Nat):Int)).map D.int) 0=some (.int ((a+1+l:Nat):Int)):=Zuv (j:=0) rfl rfl;exists ·,Ql Wc,·,·,·,·,·,_,_,·,rfl,a0,·,·,?_;rw[hw l hl];exists _,·,rfl,_,.inr ⟨_,_,dcT,hk',ev.symm⟩,M1.length,_,·,rfl,Xw,?_,?_
    .rw[loR];exact Jy (by lia:R.length<100000) (Zm (Jd _))
    rw[Wt];exists ·,_,_,·,rfl,a0,?_;let pre:q.2<+:ns.drop a:=by rw[eq];exact Fz _ _
    exists ns.length-(a+q.2.length),(),.inl ⟨R++[(a,some q.1)],a+q.2.length,some (D.lst (List.map D.int (List.map (λl=>((a+1+l:Nat):Int)) (l::es)))),?_,?_,.word we hq pre (ok2.2.2 q hq).1,P7 cln (λz=>nomatch z),rfl⟩
    .rw[lq];show [_,_,_,_,_,_,_,some (D.int _),_]=[_,_,_,_,_,_,_,some (D.int _),_];rw[show a+1+l=a+(l+1)by lia]
    .unfold osOf;rw[Jg,Jg];rfl
  .let ha':ns.length<=a:=by
    let:¬ (a:Int)<((ns.map D.int).length:Int):=λz=>h (Df z);rw[lnm]at this;lia
   let⟨us,go,eo⟩:=Zje (S2:=L2) tx (R:=R) (pl:=a) (by rw[hns];exact⟨we,cln,.inl ha'⟩) (by rw[hns];exact ha');rw[hns]at go;rw[eo];exists ·,·,(show 2<=sizeLine by decide),.inl (kY ns us _ M1.length go (p0.trans ⟨_,rfl⟩) () Xw)
open L3
theorem Jaq(T:Txt mg){f:Addr}(F:Fun K "_law_same" "_law_same" D7 f fd):FnOk P w K mg base CX0 1 f fd ["_law_found_here","_law_due"] (spOf ⟨C,K⟩ dSame61):=by
 refine L3.Fun.ok3 F Jdm (λds M K3 h=>?_) (λcdv A outer s H E hr=>?_)
 .let⟨d,e,ns,rfl,_⟩:=h;rfl
 .let SC:=Jdm;let hu:=hr.units;let hu1:=X0 hr;refine⟨_,_,(Zd (Yt (PW.pt (Sb (Vw (Vv (Zq (Tz (K:=K) rfl) (by rfl) T.b_isinstance Cp (Za (pv 0) (Za (Vj (v:=.ty "list") rfl T.b_list Cu rfl) Zc))))) (Tp (Z2 (Qa (K':=K) rfl hu) (Zq (Y3 (K:=K) rfl) (by rfl) T.b_len Di (Za (pv 0) Zc)) (Zq (Y3 (K:=K) rfl) (by rfl) T.b_len Di (Za (pv 1) Zc)) (Z6 _)))))
 (Zi (Zx V2))
 Zz)
 (Zd (Yr Cd rfl (Yg rfl T.b_range (Za (Zq (Y3 (K:=K) rfl) (by rfl) T.b_len Di (Za (pv 1) Zc)) Zc)) (Zt (i:=2) SC.nd rfl (Cb rfl))
 (Zi (Yt (PW.pt (Sb (Vw (Vv (Zq (Tz (K:=K) rfl) (by rfl) T.b_isinstance Cp (Za (Z1 (Ye (K':=K) rfl) (pv 0) (pv 2) (λ_ _=>rfl)) (Za (Vj (v:=.ty "int") rfl T.b_int K9 rfl) Zc))))) (Sb (Vv (Zq (Tz (K:=K) rfl) (by rfl) T.b_isinstance Cp (Za (Z1 (Ye (K':=K) rfl) (pv 0) (pv 2) (λ_ _=>rfl)) (Za (Vj (v:=.ty "bool") rfl T.b_bool Jd1 rfl) Zc)))) (Tp (Z2 (Qa (K':=K) rfl hu) (Z1 (Ye (K':=K) rfl) (pv 0) (pv 2) (λ_ _=>rfl)) (Z1 (Ye (K':=K) rfl) (pv 1) (pv 2) (λ_ _=>rfl)) (Z6 _))))))
 (Zi (Zx V2))
 Zz)))
 (Zi (Zx V2)))),λ_=>(Zw (Xp (s_or (Ri (s_b (s_cb (Nf (T:=.list)) (Zb (Zf 0) (Zb s_ty Zo))))) (Yx (s_op s_ne (s_cb X8 (Zb (Zf 0) Zo)) (s_cb X8 (Zb (Zf 1) Zo)))))
 (Y0 s_bl)
 Yq)
 (Zw (Wj (Ph (Zb (s_cb X8 (Zb (Zf 1) Zo)) Zo)) (s_g 2)
 (Xp (s_or (Ri (s_b (s_cb (Nf (T:=.int)) (Zb (s_op s_ix (Zf 0) (Zf 2)) (Zb s_ty Zo))))) (s_or (s_b (s_cb (Nf (T:=.bool)) (Zb (s_op s_ix (Zf 0) (Zf 2)) (Zb s_ty Zo)))) (Yx (s_op s_ne (s_op s_ix (Zf 0) (Zf 2)) (s_op s_ix (Zf 1) (Zf 2))))))
 (Y0 s_bl)
 Yq))
 (Y0 s_bl))),λds M Kk hM hD h=>?_⟩
  let⟨d,e,ns,rfl,h⟩:=h;let⟨hd,he,hl,k⟩:=h;let⟨t1,l1,s1⟩:=Z7 hd;let lm:(ns.map D.int).length=ns.length:=Ja _;exists ·,_,·,t1,·,iteF ?_;exists ·,?_;refine Vy hd ?_;exists ·,?_;refine Vy he ?_;refine .inl ⟨_,rfl,_,rfl,?_⟩;rw[Df rfl];refine iteF ?_;exists ·,?_;refine Vy he ?_;exists((ns.map D.int).length:Int),rfl,⟨(),()⟩,λi ρ M'=>∃v2:Option D,ρ=[some d,some e,v2]/\M=M',λ_ _ _ _ _=>trivial,⟨_,rfl,rfl⟩,?_,?_
  .rintro j x ρ _ hj rfl ⟨v2,rfl,rfl⟩;let hj:j<ns.length:=by
    let:j<(((ns.map D.int).length:Int)).toNat:=hj;lia
   let at1:L2.atI (ns.map D.int) (0+(j:Int))=some (.int ns[j]):=Wq (j:=j) () hj;exists ·,·,?_;refine Zc5 hd at1 ?_;exists _,·,rfl,·,iteF ?_;exists ·,·,?_;refine Zc5 hd at1 ?_;exists _,·,rfl,·,iteF ?_;exists ·,·,?_;refine Zc5 hd at1 ?_;exists ·,·,?_;refine Zc5 he at1 ?_;refine .inl ⟨_,rfl,_,rfl,?_⟩;rw[Df rfl];exact iteF (.inl ⟨_,rfl,rfl⟩)
  .rintro ρ _ ⟨v2,rfl,rfl⟩;exact .inl k
open L3
theorem Jcx(T:Txt mg){Yo Z4:Addr}(Pd:Cau K mg "NoSign" Yo)(Us:Cau K mg "NoReading" Z4)(mss:Ey K Yo (.ref Yo)=some true)(mrs:Ey K Z4 (.ref Yo)=some false)(mrr:Ey K Z4 (.ref Z4)=some true)(msr:Ey K Yo (.ref Z4)=some false)(Zdw:CalE P w K mg base "write" 3 ["code","text"] (Zan ⟨C,K⟩ (dWriteW Yo)))(Zkv:CalE P w K mg base "read" 3 ["code","row"] (Zan ⟨C,K⟩ (dReadW Z4))){f:Addr}(F:Fun K "gone" "gone" Zho f fd):FnOk P w K mg base CX0 4 f fd ["one","other","text"] (spOf ⟨C,K⟩ dGone):=by
 refine L3.Fun.ok3 F Jcm (λds M K3 h=>?_) (λcdv A outer s H E hr=>?_)
 .let⟨S1,S2,d,ts,rfl,_⟩:=h;rfl
 .let SC:=Jcm;let hu:=hr.units;let hu1:=X0 hr;let Zl8:Room 3 _:=hr.mono nofun;let Zp7:Room 3 _:=hr.mono nofun;exists _,_,(Zi (Zpb rfl rfl (λ_ _ _ _ hx=>(Zo9 (i:=3) SC.nd rfl (Cb rfl) (Zcu Zdw Zl8 rfl hx (Za (pv 0) (Za (pv 2) Zc))))) (λ_ _ _ _ hx=>(Zh0 (Zph (Zel (Zs7 (pv 3)) (Zel (Zcu Zkv Zp7 rfl hx (Za (pv 1) (Za (pv 3) Zc))) (Zte Zc)))))) (Zt7 Pd rfl Us rfl (λ_=>(Zi (Zx S0))) Zns))),λ_=>(Zsi (λ_ _ _ he hk hx=>(Z9 (Zcl he hk hx (Zb (Zf 0) (Zb (Zf 2) Zo))) (s_g 3))) (λ_ _ _ he hk hx=>(Y0 (V1 (Zb (Zf 3) (Zb (Zcl he hk hx (Zb (Zf 1) (Zb (Zf 3) Zo))) Zo))))) (Zss (Y0 Zhm) Zm9)),λds M Kk hM hD h=>?_
  let⟨S1,S2,d,ts,rfl,h⟩:=h;let⟨hd,⟨⟨f1,i1⟩,⟨f2,i2⟩,lt⟩,kY,kN⟩:=h;exists ·,·,S1,d,ts,rfl,hd,⟨i1,lt⟩,λU tx=>?_,λi U hi tx hl=>?_
  .let lr:=T9 i1 tx.1;let lU:U.length=ts.length:=by
    let:=congrArg Ez tx.2;unfold Yz at this;rw[Ja,Jw]at this;exact this
   exists ·,·,·,S2,_,Yi U,rfl,Wc,⟨i2,()⟩,λR pl en hp=>?_,λR pl en hp=>?_
   .let⟨us,go,eo⟩:=Zje tx en hp;rw[eo];let:=kY _ _ go;exists(show 2<=sizeLine by decide),.inl ?_;rw[Jc];exact this
   .exists false,true,mrs,mrr,?_;exact iteT (.inl (kN (λns us=>Zjd f1 f2 i2 tx en hp ns us) _ ⟨_,rfl⟩))
  .exists true,false,mss,msr,?_;exact iteT (.inl (kN (λns us=>Zjf hi hl ns us) _ (Jh _)))
open L3
theorem Jcf(T:Txt mg){f:Addr}(F:Fun K "unlike_legs" "unlike_legs" Vf f fd):FnOk P w K mg base CX0 1 f fd ["names"] (spOf ⟨C,K⟩ dUnlike):=by
 refine L3.Fun.ok3 F Jbg (λds M K3 h=>?_) (λcdv A outer s H E hr=>?_)
 .let⟨d,nm,rfl,_⟩:=h;rfl
 .let SC:=Jbg;let hu:=hr.units;let hu1:=X0 hr;refine⟨_,_,(Zd (Zs (i:=1) SC.nd rfl (Cb rfl) (Yl Zc))
 (Zd (Yr Cd rfl (Yv (pv 0)) (Zt (i:=2) SC.nd rfl (Ef rfl))
 (Zi (Xj (V8 Cj E4 Ki Za5 (pv 1) (Za (Xk (T:=["second"]) (cs:=[2]) rfl (CScope.ok (by kernel_rfl)) (Yv (pv 0)) (λ_ _ _ _=>(Zt (i:=0) (X7 (by kernel_rfl)) rfl (Cb rfl) (Ef rfl))) (λ_ _ _ _=>(Nj (Z2 (Qa (K':=K) rfl hu) (pv 0) (pv 1) (Z6 _)))) (λ_ _ _ _=>(Y6 (Za (pv 1) (Za (pv 0) Zc)))) (Y8 nofun)) Zc)))))
 (Zi (Zx (pv 1))))),λ_=>(Zw (Z9 (Sx Zo) (s_g 1))
 (Zw (Wj (s_il (Zf 0)) (s_g 2)
 (Vu (Zea (Zf 1) (Zb (U3 (s_il (Zf 0)) (s_g 0) (Yx (s_op s_ne (Zf 0) (Zf 1))) (Vg (Zb (Zf 1) (Zb (Zf 0) Zo)))) Zo))))
 (Y0 (Zf 1)))),λds M Kk hM hD h=>?_⟩
  let⟨d,nm,rfl,h⟩:=h;let⟨e1,hl,k⟩:=h;let lm:(nm.map D.str).length=nm.length:=Ja _;let e2:∀{xs:List D},lsOf (M++[MO.lst xs]) d=some (nm.map .str):=λ{xs}=>Zir e1;let inner:∀a:Str,((nm.filter λb=>decide (b≠a)).map λb=>(a,b)).length<=nm.length:=λa=>by rw[Ja];exact Lc _ _
  let outer:∀i,((nm.take i).flatMap λa=>(nm.filter λb=>decide (b≠a)).map λb=>(a,b)).length<=i*nm.length:=λi=>by
   induction i with
   |zero=>simp
   |succ i ih =>
    by_cases hi:i<nm.length
    .rw[Jf hi,Bf,Jc,Jgp];refine Nat.add_le_add ih ?_;rw[Bx,Lh,Gh];exact inner _
    .rw[Gd ()];rw[Gd ()]at ih;exact J8 ih (Jeq _ ())
  exists Gc _,·,_,(Z7 e2).2.1,λi ρ M'=>∃v2:Option D,ρ=[some d,some (.cell M.length),v2]/\M++[.lst (((nm.take i).flatMap λa=>(nm.filter λb=>decide (b≠a)).map λb=>(a,b)).map wyD)]=M',λi ρ M' _ h=>?_,⟨_,rfl,rfl⟩,?_,?_
  .let⟨_,_,rfl⟩:=h;exact(Z7 e2).2.1
  .rintro i x ρ _ hi hx ⟨v2,rfl,rfl⟩;let⟨hi',rfl⟩:=Yj hx;let lo:=outer i;exists ·,Ql Wc,·,_,(Z7 e2).2.1,?_,λj ys M'=>M++[MO.lst (((nm.take i).flatMap λa=>(nm.filter λb=>decide (b≠a)).map λb=>(a,b)).map wyD)]=M'/\ys=(((nm.take j).filter λb=>decide (b≠nm[i])).map λb=>(nm[i],b)).map wyD,λ_ _ _ _ h=>h.1 ▸ (Z7 e2).2.1,⟨rfl,rfl⟩,?_,?_
   .show(nm.map D.str).length<=sizeLine;rw[lm];exact Zm ()
   .rintro j x ys _ hj hx2 ⟨rfl,rfl⟩;let⟨hj',rfl⟩:=Yj hx2;exists ·,·,.inl ⟨_,rfl,_,rfl,ite2 (λhz=>?_) (λhz=>?_)⟩
    .exists ·,·,(show 2<=sizeLine by decide),rfl,?_;let hz:¬ nm[j]=nm[i]:=by simpa using hz
     rw[Jf hj',Fb,Jg,Jg,List.filter_cons_of_pos (by simpa using hz)];rfl
    .exists rfl,?_;let hz:nm[j]=nm[i]:=by simpa using hz
     rw[Jf hj',Fb,List.filter_cons_of_neg (by simpa using hz),Mb,Gh]
   .rintro ys _ ⟨rfl,rfl⟩;let lin:=inner nm[i];rw[show Lb (nm.map D.str).length nm=nm by rw[lm,Jw]];exists M.length,_,_,·,rfl,Bp,rfl,?_,.inl ⟨_,rfl,?_⟩
    .rw[Ja,Ja];let h2:i*nm.length<=100*100:=B8 () hl;exact Zm ()
    .rw[K7 _ _ (Jd _),F3,Jf hi',Bf,Jg,Bx,Lh,Gh];rfl
  .rintro ρ _ ⟨v2,rfl,rfl⟩;exists ·,.inl ?_;rw[show Lb (nm.map D.str).length nm=nm by rw[lm,Jw]];exact k
theorem Jae(T:Txt mg)(Zds:Met P w K mg base Zj "names" 1 ["self"] (spOf ⟨C,K⟩ (dNamesF Zj)))(Zfg:Met P w K mg base Zj "code" 1 ["self","name"] (spOf ⟨C,K⟩ (dCodeN Zj)))(Vq:Cal P w K mg base "unlike_legs" 1 ["names"] (spOf ⟨C,K⟩ dUnlike))(Zkw:Cal P w K mg base "gone" 4 ["one","other","text"] (spOf ⟨C,K⟩ dGone)){f:Addr}(F:Fun K "led_from" "led_from" T8 f fd):FnOk P w K mg base CX0 5 f fd ["family","found","enough"] (spOf ⟨C,K⟩ (dLed Zj)):=by
 refine L3.Fun.ok3 F Jay (λds M K3 h=>?_) (λcdv A outer s H E hr=>?_)
 .let⟨f,d,n,zs,es,fs,rfl,_⟩:=h;rfl
 .let SC:=Jay;let hu:=hr.units;let hu1:=X0 hr;let Zl9:Room 1 _:=hr.mono nofun;let Zi9:Room 1 _:=hr.mono nofun;let Pl:Room 1 _:=hr.mono nofun;let Zp8:Room 4 _:=hr.mono nofun;refine⟨_,_,(Zd (Zs (i:=3) SC.nd rfl (Cb rfl) (Yl Zc))
 (Zd (Yr Cd rfl (Yv (Zv Vq Pl rfl (Za (Ztb (pv 0) Zds Zl9) Zc))) (Zt (i:=4) SC.nd rfl (Cb rfl))
 (Zi (Yr Cd rfl (Yv (pv 1)) (Vx (n:=2) rfl (Yc (Zt (i:=5) SC.nd rfl (Cb rfl)) (Yc (Zt (i:=6) SC.nd rfl (Cb rfl)) X9)) (by rfl))
 (Zd (Zs (i:=7) SC.nd rfl (Cb rfl) (Zv Zkw Zp8 rfl (Za (Zcv (pv 0) Zfg Zi9 (Za (Z1 (Ye (K':=K) rfl) (pv 4) Zh (λ_ _=>rfl)) Zc)) (Za (Zcv (pv 0) Zfg Zi9 (Za (Z1 (Ye (K':=K) rfl) (pv 4) Zh (λ_ _=>rfl)) Zc)) (Za (pv 6) Zc)))))
 (Zd (Yt (Va (Nm (pv 7)))
 (Zi (Xj (V8 Cj Cy Cz Xv (pv 3) (Za (Y6 (Za (Z0 (Y2 (K':=K) rfl) (Yl (Za (pv 4) Zc)) (pv 5)) (Za (Z1 (Ye (K':=K) rfl) (pv 7) Zh (λ_ _=>rfl)) Zc))) Zc))))
 Zz)
 (Zi (Yt (Z2 (Pe (K':=K) rfl hu) (Zq (Y3 (K:=K) rfl) (by rfl) T.b_len Di (Za (pv 3) Zc)) (pv 2) (Z6 _))
 (Zi (Zx (pv 3)))
 Zz)))))))
 (Zi (Zx (pv 3))))),λ_=>(Zw (Z9 (Sx Zo) (s_g 3))
 (Zw (Wj (s_il (Z3 (Zb (Qf (Zf 0) Zo) Zo))) (s_g 4)
 (Wj (s_il (Zf 1)) (Sy (Xd (s_g 5) (Xd (s_g 6) Sz)))
 (Zw (Z9 (Z3 (Zb (Qf (Zf 0) (Zb (s_op s_ix (Zf 4) Zu) Zo)) (Zb (Qf (Zf 0) (Zb (s_op s_ix (Zf 4) Zu) Zo)) (Zb (Zf 6) Zo)))) (s_g 7))
 (Zw (Xp (s_b (Zm7 (Zf 7)))
 (Vu (Wu (Zf 3) (Zb (Vg (Zb (s_op Zsw (V1 (Zb (Zf 4) Zo)) (Zf 5)) (Zb (s_op s_ix (Zf 7) Zu) Zo))) Zo)))
 Yq)
 (Xp (Yx (s_op s_eq (s_cb X8 (Zb (Zf 3) Zo)) (Zf 2)))
 (Y0 (Zf 3))
 Yq)))))
 (Y0 (Zf 3)))),λds M Kk hM hD h=>?_⟩
  let⟨f,d,n,zs,es,fs,rfl,h⟩:=h;let⟨Fa,hd,⟨⟨zl,zo⟩,n0,n1,el,fl,mi,fb⟩,k⟩:=h;let Fa0:FamAt Zj (M++[MO.lst []]) f zs:=Fa.pre (Jv _ _);refine⟨Gc _,_,rfl,⟨f,_,rfl,Fa0.h0,rfl⟩,f,zs,rfl,Fa0,?_⟩;refine⟨_,zs.map (·.1),rfl,Wc,by rw[Ja];lia,?_⟩;generalize hlg:Xl (zs.map (·.1))=lgs;let lgm:∀lg∈lgs,lg.1∈zs.map (·.1)/\lg.2∈zs.map (·.1):=λlg h=>by
   rw[<-hlg]at h;let⟨a,ha,h⟩:=Bo.mp h;let⟨b,hb,rfl⟩:=Jo.mp h;exists ha,(Fd.mp hb).1
  let full:ledF zs fs=ledL zs fs lgs:=by unfold ledF;rw[hlg]
  let lt0:(M++[MO.lst []]++[MO.lst ((zs.map (·.1)).map D.str)]).length=M.length+2:=by rw[Jc,Jc];rfl
  rw[lt0];generalize hN:M++[MO.lst []]++[MO.lst ((zs.map (·.1)).map D.str)]++[MO.lst (lgs.map wyD)]=N;let n3:M.length+3=N.length:=by rw[<-hN,Jc,lt0];rfl
  let nt:N[M.length]?=some (.lst []):=by
   rw[<-hN,Gg,Gg,J9 (Jd _),F3];rfl
  let nl:N[M.length+2]?=some (.lst (lgs.map wyD)):=by
   rw[<-hN,<-lt0];exact Bp
  let pN:M<+:N:=by rw[<-hN,Gg,Gg];exact Jv _ _
  let s0:Zkt n M lgs [] N:=⟨[],pN,(),nl,nt,λ_ h=>(nomatch h),.nil _ _,n0⟩;let lt:∀{acc M'},Zkt n M lgs acc M'->Wb M' (.cell (M.length+2))=some (lgs.map wyD):=λ{acc M'}h=>by
   let⟨ps,_,_,h3,_⟩:=h;exact(Z7 (Yd h3)).2.1
  exists _,lt s0,?_;exists λi ρ M'=>∃v4 v5 v6 v7:Option D,Zkt n M lgs (ledL zs fs (lgs.take i)) M'/\ρ=[some (.cell f),some d,some (.int n),some (.cell M.length),v4,v5,v6,v7],λi ρ M' _ h=>?_,⟨_,_,_,_,s0,rfl⟩,?_,?_
  .let⟨_,_,_,_,h,_⟩:=h;exact lt h
  .rintro i x ρ M1 hi hx ⟨v4,v5,v6,v7,s1,rfl⟩;let⟨hi',rfl⟩:=Yj hx;let⟨g1,g2⟩:=lgm _ (Jl hi');let⟨z1,m1,e1⟩:=Jo.mp g1;let⟨z2,m2,e2⟩:=Jo.mp g2;let c1:Yp zs lgs[i].1=z1.2.1:=by rw[<-e1];exact Si Fa.nd m1
   let c2:Yp zs lgs[i].2=z2.2.1:=by rw[<-e2];exact Si Fa.nd m2
   let⟨fr1,fi1⟩:=zo z1 m1;let⟨fr2,fi2⟩:=zo z2 m2;let ld:∀{acc M'},Zkt n M lgs acc M'->Wb M' d=some es:=λ{acc M'}h=>by
    let⟨ps,p,_⟩:=h;exact(Z7 (Ym p hd)).2.1
   exists ·,_,ld s1,?_;exists λj ρ M'=>∃v5 v6 v7:Option D,Zkt n M lgs (ledL zs fs (lgs.take i)++(fs.take j).filterMap (led1 zs lgs[i])) M'/\ρ=[some (.cell f),some d,some (.int n),some (.cell M.length),some (wyD lgs[i]),v5,v6,v7],λj ρ M' _ h=>?_,⟨_,_,_,by rw[G9,Mq,Gh];exact s1,rfl⟩,?_,?_
   .let⟨_,_,_,h,_⟩:=h;exact ld h
   .rintro j x ρ M2 hj hx2 ⟨v5,v6,v7,s2,rfl⟩;let hj:j<es.length:=hj;let hx2:es[j]?=some x:=hx2;let hj':j<fs.length:=by lia
    let⟨a0,b0,rfl,la,lb⟩:=mi j x fs[j] hx2 (Jb hj');let⟨fb1,fb2⟩:=fb fs[j] (Jl hj');let⟨ps,q1,q2,q3,q4,q5,q6,q7⟩:=s2;let F2:FamAt Zj M2 f zs:=Fa.pre q1;let la2:=Ym q1 la;let lb2:=Ym q1 lb;let ful:ledF zs fs=(ledL zs fs (lgs.take i)++(fs.take j).filterMap (led1 zs lgs[i]))++((fs.drop j).filterMap (led1 zs lgs[i])++ledL zs fs (lgs.drop (i+1))):=by
     rw[full,Zpy hi']
     conv=>lhs;rw[<-Gz j fs,Jec]
     simp only[Gg,Gz]
    generalize hacc:ledL zs fs (lgs.take i)++(fs.take j).filterMap (led1 zs lgs[i])=acc at q6 q7 ful;let accS:ledL zs fs (lgs.take i)++(fs.take (j+1)).filterMap (led1 zs lgs[i])=acc++(led1 zs lgs[i] fs[j]).toList:=by rw[Zjj _ hj',<-Gg,hacc]
    exists ·,rfl,_,·,_,·,rfl,?_;exists ·,⟨f,_,rfl,F2.h0,rfl⟩,·,_,_,·,rfl,rfl,f,lgs[i].2,zs,rfl,F2,g2,λy2 hy2 ey2=>?_;exists ·,⟨f,_,rfl,F2.h0,rfl⟩,·,_,_,·,rfl,rfl,f,lgs[i].1,zs,rfl,F2,g1,λy1 hy1 ey1=>?_;let cy2:Yp zs lgs[i].2=y2.2.1:=by rw[<-ey2];exact Si Fa.nd hy2
    let cy1:Yp zs lgs[i].1=y1.2.1:=by rw[<-ey1];exact Si Fa.nd hy1
    let l2:=Xx q3;exists ·,y2.2.1,y1.2.1,b0,fs[j].2,rfl,lb2,⟨zo y2 hy2,zo y1 hy1,fb1⟩,λns us go=>?_,λhno M3 p3=>?_
    .let e1:=Zet (zs:=zs) (lg:=lgs[i]) (m:=fs[j]) (u:=us) (by rw[cy2,cy1];exact Zaa (zo y2 hy2).1 (zo y1 hy1).1 (zo y1 hy1).2 go);rw[e1]at accS;generalize hM3:M2++[MO.lst (ns.map .int)]++[MO.lst (us.map .int)]=M3;let l3:M3.length=M2.length+2:=by rw[<-hM3,Jc,Jc];rfl
     let p3:M2<+:M3:=by rw[<-hM3,Gg];exact Jv _ _
     let t3:M3[M2.length+1]?=some (.lst (us.map .int)):=by
      rw[<-hM3,show M2.length+1=(M2++[MO.lst (ns.map D.int)]).length by rw[Jc];rfl];exact Bp
     exists ·,·,iteT ?_;exists ·,Ql (Yd (Zy p3 q4)),·,(show 1<=sizeLine by decide),·,_,·,Ym p3 la2,?_,·,_,_,·,rfl,rfl,(show 2<=sizeLine by decide),M.length,_,·,rfl,Yy (Zy p3 q4),?_,?_
     .rw[Ja];exact Zm (by show 1+_<=_;lia)
     .rw[Ja,q6.ln];exact Bn (by lia:acc.length<=1000) nofun
     generalize hM4:M3++[MO.lst ([wyD lgs[i]]++fs[j].1.map wyD)]=M4;let l4:M4.length=M3.length+1:=by rw[<-hM4,Jc];rfl
     let p4:M3<+:M4:=by rw[<-hM4];exact Jv _ _
     let w4:M4[M3.length]?=some (.lst ((lgs[i]::fs[j].1).map wyD)):=by rw[<-hM4];exact Bp
     let p24:=p3.trans p4;let q4':M4[M.length]?=some (.lst (ps.map pcD)):=Zy p24 q4;let mt:MdAt (M.length+3) M4 (ps++[(M3.length,M2.length+1)]) (acc++[(lgs[i]::fs[j].1,us)]):=(q6.keep (t:=0) p24).snoc (λp hp=>by have:=q5 p hp;lia) () () () w4 (Zy p4 t3);let s4:M<+:M4.set M.length (.lst ((ps++[(M3.length,M2.length+1)]).map pcD)):=Vi (q1.trans p24) (Jd _);let mt2:=mt.put (t:=M.length) (x:=.lst ((ps++[(M3.length,M2.length+1)]).map pcD)) ();let c4:(M4.set M.length (MO.lst ((ps++[(M3.length,M2.length+1)]).map pcD)))[M.length]?=some (.lst ((ps++[(M3.length,M2.length+1)]).map pcD)):=J0 ()
     rw[show ps.map pcD++[D.tup [D.cell M3.length,D.cell (M2.length+1)]]=(ps++[(M3.length,M2.length+1)]).map pcD by rw[Jg];rfl];exists ·,?_;refine Vy (Yd c4) ?_;exists ·,.inl ⟨_,rfl,_,rfl,ite2 (λhz=>?_) (λhz=>?_)⟩
     .let hz:=of_decide_eq_true hz;let hn:(acc++[(lgs[i]::fs[j].1,us)]).length=n:=by rw[<-mt.ln];rw[Ja]at hz;lia
      exists ·,.inl (k _ M.length _ s4 (Jd _) c4 (λp hp=>?_) ?_)
      .let:=mt.ge p hp;lia
      .let fj:(fs.drop j).filterMap (led1 zs lgs[i])=[(lgs[i]::fs[j].1,us)]++(fs.drop (j+1)).filterMap (led1 zs lgs[i]):=by rw[Bi hj',Hg,e1];rfl
       rw[fj,<-Gg,Gg,<-Gg]at ful;rw[Zld (acc:=acc++[(lgs[i]::fs[j].1,us)]) (rest:=(fs.drop (j+1)).filterMap (led1 zs lgs[i])++ledL zs fs (lgs.drop (i+1))) (by rw[ful];simp only[Gg]) hn];exact mt2.weak ()
     .let hz:=of_decide_eq_false (Li _ ▸ hz);refine .inl ⟨_,_,_,?_,rfl⟩;rw[accS];exists _,s4,by rw[Go];lia,Yf (Zy p24 q3) (),c4,λp hp=>?_,mt2,?_
      .rw[Go];rcases Gb.mp hp with z|z
       .let:=q5 p z;lia
       .rw[Jj.mp z];show M3.length<_/\M2.length+1<_;lia
      .let:(acc++[(lgs[i]::fs[j].1,us)]).length=((ps++[(M3.length,M2.length+1)]).map pcD).length:=by rw[Ja,mt.ln]
       rw[Jc]at this;show(acc++[(lgs[i]::fs[j].1,us)]).length<n;rw[Jc];show acc.length+1<n;let h1:[(lgs[i]::fs[j].1,us)].length=1:=rfl;lia
    .let e1:=Zix (zs:=zs) (lg:=lgs[i]) (m:=fs[j]) (by rw[cy2,cy1];exact Zkc hno);rw[e1]at accS;exists ·,·,iteF ?_;exists ·,?_;refine Vy (Yd (Zy p3 q4)) ?_;exists ·,.inl ⟨_,rfl,_,rfl,?_⟩;rw[Dg (by rw[Ja,q6.ln];lia)];refine iteF (.inl ⟨_,_,_,?_,rfl⟩);rw[accS];let lp:=p3.length_le;exists ps,q1.trans p3,(),Zy p3 q3,Zy p3 q4,λp hp=>?_,?_,?_
     .let:=q5 p hp;lia
     .show MdAt _ _ _ (acc++[]);rw[Gh];exact q6.keep (t:=0) p3
     .show(acc++[]).length<n;rw[Gh];exact q7
   .rintro ρ M2 ⟨v5,v6,v7,s2,rfl⟩;rw[show(fs.take es.length)=fs by rw[el,Jw]]at s2;rw[<-Zbb hi']at s2;exact .inl ⟨_,_,_,_,s2,rfl⟩
  .rintro ρ M1 ⟨v4,v5,v6,v7,s1,rfl⟩;rw[show lgs.take (lgs.map wyD).length=lgs by rw[Ja,Jw]]at s1;let⟨ps,q1,q2,q3,q4,q5,q6,q7⟩:=s1;exists ·,.inl (k M1 M.length ps q1 (Jd _) q4 (λp hp=>?_) ?_)
   .let:=q6.ge p hp;lia
   .rw[full,Gd ()];exact q6.weak ()
theorem Jag(T:Txt mg){Z8:Addr}(Sm:Rx P w K mg base "TooMany" Z8 1 ["self","most"] (spX1 Z8 "most"))(So:Cal P w K mg base "led_from" 5 ["family","found","enough"] (spOf ⟨C,K⟩ (dLed Zj))){f:Addr}(F:Fun K "mendings" "mendings" T7 f fd):FnOk P w K mg base (CXE P w) 6 f fd ["family","text","legs","most"] (Zan ⟨C,K⟩ (dMendX Zj Z8)):=by
 refine L3.Fun.okX3 F Jar (λds M K3 KX h=>?_) (λcdv A outer s H E hr=>?_)
 .let⟨f,d,L,most,zs,ts,rfl,_⟩:=h;rfl
 .let SC:=Jar;let hu:=hr.units;let hu1:=X0 hr;let Zf4:Room 2 _:=hr.mono nofun;let Zda:Room 5 _:=hr.mono nofun;refine⟨_,_,(Zd (Zs (i:=4) SC.nd rfl (Cb rfl) (Yl Zc))
 (Zd (Zs (i:=5) SC.nd rfl (Cb rfl) (Yl (Za (Y6 (Za (Yl Zc) (Za (pv 1) Zc))) Zc)))
 (Zd (Yr Jb4 rfl (Yg rfl T.b_range (Za (pv 2) Zc)) (Zt (i:=6) SC.nd rfl (Cb rfl))
 (Zd (Zs (i:=5) SC.nd rfl (Cb rfl) (Zv So Zda rfl (Za (pv 0) (Za (pv 5) (Za (Z0 (Y2 (K':=K) rfl) (Z0 Za2 (pv 3) (Zq (Y3 (K:=K) rfl) (by rfl) T.b_len Di (Za (pv 4) Zc))) Zh) Zc)))))
 (Zd (Xj (V8 Cj E4 Ki Za5 (pv 4) (Za (pv 5) Zc)))
 (Zi (Yt (Z2 Zcx (Zq (Y3 (K:=K) rfl) (by rfl) T.b_len Di (Za (pv 4) Zc)) (pv 3) (Z6 _))
 (Zi (Nk Sm Zf4 rfl (Za (pv 3) Zc)))
 Zz)))))
 (Zi (Zx (pv 4)))))),λ_ _ he hk hx=>(Zw (Z9 (Sx Zo) (s_g 4))
 (Zw (Z9 (V1 (Zb (Vg (Zb (V1 Zo) (Zb (Zf 1) Zo))) Zo)) (s_g 5))
 (Zw (Wj (Ph (Zb (Zf 2) Zo)) (s_g 6)
 (Zw (Z9 (Z3 (Zb (Zf 0) (Zb (Zf 5) (Zb (s_op X6 (s_op Zll (Zf 3) (s_cb X8 (Zb (Zf 4) Zo))) Zu) Zo)))) (s_g 5))
 (Zw (Vu (Zea (Zf 4) (Zb (Zf 5) Zo)))
 (Xp (Yx (s_op s_gt (s_cb X8 (Zb (Zf 4) Zo)) (Zf 3)))
 (Zlm he hk hx (Zb (Zf 3) Zo))
 Yq))))
 (Y0 (Zf 4))))),λds M Kk KX hM hD h=>?_⟩
  let⟨f,d,L,most,zs,ts,rfl,h⟩:=h;let⟨Fa,hd,⟨ok,hL,hm,ht⟩,kY,kN⟩:=h;exists Gc _,Gc _,·,(show 2<=sizeLine by decide),(show 1<=sizeLine by decide),?_;exists ·,·,⟨(),()⟩,λi ρ M'=>∃(d5:D)(es:List D)(ps:List (Nat×Nat))(v6:Option D),M<+:M'/\M.length<M'.length/\M'[M.length]?=some (.lst (ps.map pcD))/\MdAt (M.length+1) M' ps (Xf zs ts i)/\(∀p∈ps,p.1<M'.length/\p.2<M'.length)/\(Xf zs ts i).length<=most/\lsOf M' d5=some es/\es.length=(lev zs ts i).length/\(∀(j:Nat)(e:D)(m:Md),es[j]?=some e->(lev zs ts i)[j]?=some m->MdIs M' e m)/\ρ=[some (.cell f),some d,some (.int L),some (.int most),some (.cell M.length),some d5,v6],λ_ _ _ _ _=>trivial,?_,?_,?_
  .exists _,[.tup [.lst [],d]],[],_,Jv _ _,by rw[Jc];exact Fx _,Bp,.nil _ _,λ_ h=>(nomatch h),Gc _,rfl,rfl,λj e m h1 h2=>?_,rfl;cases j with
   |zero=>cases h1;cases h2;exists _,·,rfl,Zir hd
   |succ j=>cases h1
  .rintro i x ρ M1 hi rfl ⟨d5,es,ps,v6,q1,q2,q3,q4,q5,q6,q7,q8,q9,rfl⟩;let hi:i<((L:Nat):Int).toNat:=hi;let hi:i<L:=by lia
   let lps:=q4.ln;let F1:FamAt Zj M1 f zs:=Fa.pre q1;exists ·,·,·,·,?_;refine Vy (Yd q3) ?_;exists _,·,rfl,?_;let en:(most:Int)-((ps.map pcD).length:Int)+1=((most-(Xf zs ts i).length+1:Nat):Int):=by rw[Ja,lps];lia
   let llev:(lev zs ts i).length<=1000:=by
    cases i with
    |zero=>show 1<=1000;decide
    |succ i=>rw[Xf,Jc]at q6;lia
   let p4:4 ^ i<=16:=Fw (n:=4) nofun (by lia:i<=2);exists f,d5,most-(Xf zs ts i).length+1,zs,es,lev zs ts i,by rw[<-en],F1,q7,⟨ok,(),(),q8,llev,q9,λm hm=>?_⟩,λM2 c ps2 r1 r2 r3 r4 r5=>?_
   .let⟨a1,a2⟩:=W4 Fa.nd ok hm;refine⟨J8 a1 (J8 (B8 p4 ht) nofun),()⟩
   let q3':=Zy r1 q3;let l2:=r1.length_le;let lk:(ps2.map pcD).length=((lev zs ts (i+1)).take (most-(Xf zs ts i).length+1)).length:=by rw[Ja,r5.ln];rfl
   rw[Ji]at lk;exists ·,Ql (Yd q3'),·,M.length,_,_,·,rfl,q3',Yd r3,?_,?_
   .rw[lk,Ja,lps];exact Zm ()
   rw[<-Jg];let c3:(M2.set M.length (MO.lst ((ps++ps2).map pcD)))[M.length]?=some (.lst ((ps++ps2).map pcD)):=J0 ();let m3:M<+:M2.set M.length (.lst ((ps++ps2).map pcD)):=Vi (q1.trans r1) (Jd _);exists ·,?_;refine Vy (Yd c3) ?_;exists ·,_,·,rfl,·,?_;let e3:((ps++ps2).map pcD).length=(Xf zs ts i).length+min (most-(Xf zs ts i).length+1) (lev zs ts (i+1)).length:=by rw[Jg,Jc,lk,Ja,lps]
   rw[e3];let em:(Xf zs ts (i+1)).length=(Xf zs ts i).length+(lev zs ts (i+1)).length:=by rw[Xf,Jc]
   refine ite2 (λhz=>?_) (λhz=>?_)
   .let hz:=of_decide_eq_true hz;exists ·,·,kN ?_ _ m3;let:=Zl1 (zs:=zs) (ts:=ts) (show i+1<=L by lia);lia
   .let hz:=of_decide_eq_false (Li _ ▸ hz);let tk:(ledF zs (lev zs ts i)).take (most-(Xf zs ts i).length+1)=lev zs ts (i+1):=by
     show(lev zs ts (i+1)).take _=_;exact Gd ()
    rw[tk]at r5;let mt:MdAt (M.length+1) M2 (ps++ps2) (Xf zs ts (i+1)):=(q4.keep (t:=0) r1).app q5 r5 ();let r3':(M2.set M.length (MO.lst ((ps++ps2).map pcD)))[c]?=some (.lst (ps2.map pcD)):=Yf r3 ();refine .inl ⟨.cell c,ps2.map pcD,ps++ps2,_,m3,by rw[Go];lia,c3,mt.put (),λp hp=>?_,(),Yd r3',by rw[Ja,r5.ln],(r5.put (t:=M.length) ()).is,rfl⟩;rw[Go];rcases Gb.mp hp with z|z
    .let:=q5 p z;lia
    .let⟨j,hj,rfl⟩:=Ju z;let⟨a1,a2⟩:=r5.at1 j ps2[j] _ (Jb hj) (Jb (by rw[<-r5.ln];exact hj));exists Xx a1,Xx a2
  .rintro ρ M1 ⟨d5,es,ps,v6,q1,q2,q3,q4,q5,q6,q7,q8,q9,rfl⟩;let eL:(Zfo 0 ((L:Nat):Int).toNat).n=L:=by show((L:Nat):Int).toNat=L;lia
   rw[eL]at q4 q6;exists ·,.inl (kY q6 M1 M.length ps q1 (Jd _) q3 (λp hp=>?_) (q4.weak ()));let:=q4.ge p hp;lia
open L3
def Dl(T:Txt mg)(Ve:Cal P w K mg base "_law_go" 1 ["_law_one","_law_other","_law_text_here"] (spOf ⟨C,K⟩ Zqm)){f:Addr}(F:Fun K "_law_forth" "_law_forth" Jdl f fd):FnOk P w K mg base CX0 2 f fd ["_law_books_here","_law_way","_law_text_here"] (spOf ⟨C,K⟩ dForth65):=by
 refine L3.Fun.ok3 F Jaf (λds M K3 h=>?_) (λcdv A outer s H E hr=>?_)
 .let⟨b,d,e,qs,zs,way,ts,rfl,_⟩:=h;rfl
 .let SC:=Jaf;let hu:=hr.units;let hu1:=X0 hr;let Sh:Room 1 _:=hr.mono nofun;refine⟨_,_,(Zd (Yr Cd rfl (Yv (pv 1)) (Vx (n:=2) rfl (Yc (Zt (i:=3) SC.nd rfl (Cb rfl)) (Yc (Zt (i:=4) SC.nd rfl (Cb rfl)) X9)) (by rfl))
 (Zd (Zs (i:=5) SC.nd rfl (Cb rfl) (Zv Ve Sh rfl (Za (Wl hu1 (pv 0) (pv 3) (λ_ _=>rfl)) (Za (Wl hu1 (pv 0) (pv 4) (λ_ _=>rfl)) (Za (pv 2) Zc)))))
 (Zd (Yt (Va (Za0 (pv 5)))
 (Zi (Zx S0))
 Zz)
 (Zi (Zs (i:=2) SC.nd rfl (Cb rfl) (Z1 (Ye (K':=K) rfl) (pv 5) Zh (λ_ _=>rfl)))))))
 (Zi (Zx (pv 2)))),λ_=>(Zw (Wj (s_il (Zf 1)) (Sy (Xd (s_g 3) (Xd (s_g 4) Sz)))
 (Zw (Z9 (Z3 (Zb (V4 (Zf 0) (Zf 3)) (Zb (V4 (Zf 0) (Zf 4)) (Zb (Zf 2) Zo)))) (s_g 5))
 (Zw (Xp (s_b (Zsp (Zf 5)))
 (Y0 Zhm)
 Yq)
 (Z9 (s_op s_ix (Zf 5) Zu) (s_g 2)))))
 (Y0 (Zf 2))),λds M Kk hM hD h=>?_⟩
  let⟨b,d,e,qs,zs,way,ts,rfl,h⟩:=h;let⟨Bk,hd,he,⟨ok,nd,fm,ib,hw,w100,hb⟩,k⟩:=h;let lwm:(way.map wyD).length=way.length:=Ja _;exists ·,_,(Z7 hd).2.1,λi ρ M'=>∃(r:D)(a:List Int)(v3 v4 v5:Option D),ρ=[some (.cell b),some d,some r,v3,v4,v5]/\M<+:M'/\fwW zs (way.take i) ts=some a/\lsOf M' r=some (a.map .int),λ_ _ _ _ h=>(by let⟨_,_,_,_,_,_,p,_⟩:=h;exact(Z7 (Ym p hd)).2.1),⟨e,ts,_,_,_,rfl,Jh _,rfl,he⟩,?_,?_
  .rintro i x ρ M1 hi hx ⟨r,a,v3,v4,v5,rfl,p1,ea,er⟩;let⟨hi',rfl⟩:=Yj hx;let⟨n1,n2⟩:=hw _ (Jl hi');let⟨L1,q1,s1⟩:=Rz nd ib n1;let⟨L2,q2,s2⟩:=Rz nd ib n2;let⟨c1,d1,m1⟩:=(Bk.pre p1).get ok.1 q1;let⟨c2,d2,m2⟩:=(Bk.pre p1).get ok.1 q2;let tk:way.take (i+1)=way.take i++[way[i]]:=Jf hi';exists ·,rfl,_,·,_,·,rfl,?_;exists ·,·,_,d1,·,·,_,d2,·,?_;exists c1,c2,r,L1,L2,a,rfl,m1,m2,er,⟨(ok.2.2 _ q1).1,(ok.2.2 _ q2).1,hb i a ea⟩,λns us M' t go p lt et=>?_,λno M' p=>?_
   .exists ·,·,iteF ?_;exists ·,_,_,·,rfl,rfl,.inl ⟨.cell t,us,_,_,_,rfl,p1.trans p,?_,Yd et⟩;rw[tk,N5,ea];exact Znq nd fm n1 n2 s1 s2 go
   .let z:fwW zs way ts=none:=by
     let:fwW zs (way.take (i+1)) ts=none:=by
      rw[tk,N5,ea];exact Ztp s1 s2 no
     let:=Zew (r:=way.drop (i+1)) this;rwa [Gz]at this
    exists ·,·,iteT (.inl (k M' _ (p1.trans p) (λ_=>rfl) λx e=>by rw[z]at e;cases e))
  .rintro ρ M1 ⟨r,a,v3,v4,v5,rfl,p1,ea,er⟩;let ea:fwW zs (way.take (way.map wyD).length) ts=some a:=ea;rw[lwm,Jw]at ea;exists ·,.inl (k M1 _ p1 (λe=>by rw[ea]at e;cases e) λx e=>by rw[ea]at e;cases e;exact er)
open L3
def Zjx:Sp3:=λds M K=>∃(d:D)(nm:List Str),ds=[d]/\lsOf M d=some (nm.map .str)/\nm.length<=8/\K (.lst ((Xl nm).map wyD)) M
theorem Dy(T:Txt mg){f:Addr}(F:Fun K "_law_legs" "_law_legs" Jch f fd):FnOk P w K mg base CX0 1 f fd ["_law_names_here"] (spOf ⟨C,K⟩ Zjx):=by
 refine L3.Fun.ok3 F Ds (λds M K3 h=>?_) (λcdv A outer s H E hr=>?_)
 .let⟨d,nm,rfl,_⟩:=h;rfl
 .let SC:=Ds;let hu:=hr.units;let hu1:=X0 hr;refine⟨_,_,(Zd (Zs (i:=1) SC.nd rfl (Cb rfl) (Yl Zc))
 (Zd (Yr Cd rfl (Yv (pv 0)) (Zt (i:=2) SC.nd rfl (Ef rfl))
 (Zi (Zs (i:=1) SC.nd rfl (Cb rfl) (Z0 (Y2 (K':=K) rfl) (pv 1) (Xk (T:=["_law_other"]) (cs:=[2]) rfl (CScope.ok (by kernel_rfl)) (Yv (pv 0)) (λ_ _ _ _=>(Zt (i:=0) (X7 (by kernel_rfl)) rfl (Cb rfl) (Ef rfl))) (λ_ _ _ _=>(Nj (Z2 (Qa (K':=K) rfl hu) (pv 0) (pv 1) (Z6 _)))) (λ_ _ _ _=>(Y6 (Za (pv 1) (Za (pv 0) Zc)))) (Y8 nofun))))))
 (Zi (Zx (pv 1))))),λ_=>(Zw (Z9 (V1 Zo) (s_g 1))
 (Zw (Wj (s_il (Zf 0)) (s_g 2)
 (Z9 (s_op X6 (Zf 1) (U3 (s_il (Zf 0)) (s_g 0) (Yx (s_op s_ne (Zf 0) (Zf 1))) (Vg (Zb (Zf 1) (Zb (Zf 0) Zo))))) (s_g 1)))
 (Y0 (Zf 1)))),λds M Kk hM hD h=>?_⟩
  let⟨d,nm,rfl,h⟩:=h;let⟨hd,l8,k⟩:=h;let lm:(nm.map D.str).length=nm.length:=Ja _
  let' lg:=λa=>(nm.filter λb=>decide (b≠a)).map λb=>((a,b):Wy)
  let lgl:∀a,(lg a).length<=8:=λa=>by
   show((nm.filter _).map _).length<=8;rw[Ja];exact J8 (Lc _ _) l8
  exists Gc _,·,_,(Z7 hd).2.1,λi ρ M'=>M=M'/\∃v2:Option D,ρ=[some d,some (.lst (((nm.take i).flatMap lg).map wyD)),v2],λ_ _ _ _ h=>(by rw[<-h.1];exact(Z7 hd).2.1),⟨rfl,_,rfl⟩,?_,?_
  .rintro i x ρ M' hi hx ⟨rfl,v2,rfl⟩;let⟨hi',rfl⟩:=Yj hx;exists ·,·,_,(Z7 hd).2.1,?_,λj ys M'=>M=M'/\ys=(((nm.take j).filter λb=>decide (b≠nm[i])).map λb=>((nm[i],b):Wy)).map wyD,λ_ _ _ _ h=>(by rw[<-h.1];exact(Z7 hd).2.1),⟨rfl,rfl⟩,?_,?_
   .show(nm.map D.str).length<=sizeLine;rw[lm];exact Zm ()
   .rintro j y ys _ hj hy ⟨rfl,rfl⟩;let⟨hj',rfl⟩:=Yj hy;let tk:nm.take (j+1)=nm.take j++[nm[j]]:=Jf hj';exists ·,·,.inl ⟨_,rfl,_,rfl,ite2 (λh=>?_) (λh=>?_)⟩
    .let h:nm[j]≠nm[i]:=by simpa using h
     exists ·,·,(show 2<=sizeLine by decide),rfl,?_;rw[tk,Fb,Lj,De (Df h),Jg,Jg];rfl
    .let h:nm[j]=nm[i]:=by simpa using h
     exists rfl,?_;rw[tk,Fb,Lj,Dd (λz=>(of_decide_eq_true z) h),Mb,Gh]
   .rintro ys _ ⟨rfl,rfl⟩;let e:nm.take (nm.map D.str).length=nm:=by rw[lm,Jw]
    rw[show Lb _ nm=nm from e];let lf:((nm.take i).flatMap lg).length<=64:=by
     let:=Zez (l:=nm.take i) (f:=lg) (b:=8) λa _=>lgl a;rw[Ji]at this;lia
    refine Zkp (xs:=((nm.take i).flatMap lg).map wyD) (ys:=(lg nm[i]).map wyD) rfl rfl (by rw[Ja,Ja];let:=lgl nm[i];exact Zm ()) (.inl ⟨rfl,some (.str nm[i]),?_⟩);rw[Jf hi',Bf,List.flatMap_singleton,Jg];rfl
  .rintro ρ M' ⟨rfl,v2,rfl⟩;let e:nm.take (nm.map D.str).length=nm:=by rw[lm,Jw]
   exists ·,.inl ?_;rw[show Lb _ nm=nm from e];exact k
open L3
def Zn0:Sp3:=λds M K=>∃(b:Nat)(d e:D)(qs:List Nt)(zs:List Fq)(ts:List Int)(L:Nat),ds=[.cell b,d,e,.int L]/\Ut M b qs/\lsOf M d=some ((zs.map (·.1)).map .str)/\lsOf M e=some (ts.map .int) /\
 (NtOk qs/\(zs.map (·.1)).Nodup/\FmOk zs/\InB zs qs/\L<=3/\ts.length<=300)/\∀(M':Mem)(es:List D),M<+:M'->es.length=((Xf zs ts L).take 202).length->K (.lst es) M'
def McIs(s:Nat)(M:Mem)(x:D)(m:Md):Prop:=∃g,x=.tup [.lst (m.1.map wyD),g]/\lsOf M g=some (m.2.map .int)/\g≠.cell s
def McAt(s:Nat)(M:Mem)(xs:List D)(ms:List Md):Prop:=xs.length=ms.length/\∀(i:Nat)(x:D)(m:Md),xs[i]?=some x->ms[i]?=some m->McIs s M x m
def McIs.keep{s:Nat}{M M':Mem}{x:D}{m:Md}(h:McIs s M x m)(p:M<+:M'):McIs s M' x m:=by
 let⟨g,a,b,c⟩:=h;exists g,a,Ym p b,c
theorem McIs.put{s:Nat}{x:D}{m:Md}{y:MO}(h:McIs s M x m):McIs s (M.set s y) x m:=by
 let⟨g,a,b,c⟩:=h;exists g,a,?_,c;cases g with
 |cell k =>
  let ne:s≠k:=λz=>c (by rw[z]);show(match(M.set s y)[k]? with|some (MO.lst ds)=>some ds|_=>none)=_;rw[Ga ne];exact b
 |_=>exact b
def Znp{g:D}{xs:List D}(h:lsOf M g=some xs):g≠.cell M.length:=λz=>by
 rw[z]at h;let:lsOf M (.cell M.length)=none:=by
  show(match M[M.length]? with|some (MO.lst ds)=>some ds|_=>none)=none;rw[Fl (Jd _)]
 rw[this]at h;cases h
theorem McAt.snoc{s:Nat}{xs:List D}{x:D}{m:Md}(h:McAt s M xs ms)(hx:McIs s M x m):McAt s M (xs++[x]) (ms++[m]):=by
 exists by rw[Jc,Jc,h.1];rfl,λi y n a b=>?_
 by_cases hi:i<xs.length
 .rw[Jq hi]at a;rw[Jq (by rw[<-h.1];exact hi)]at b;exact h.2 i y n a b
 .let hl:i<(xs++[x]).length:=(Je.mp a).1;rw[Jc,Gp]at hl;let e:i=xs.length:=by lia
  subst e;rw[J9 (Jd _),F3]at a;rw[h.1,J9 (Jd _),F3]at b;cases a;cases b;exact hx
def Zvv{i:Nat}{d:D}{u:TS3}{E:Ends3}(h:u E (ρ.set i (some d)) M):uSeq (uAsg (uC d) (uG i)) u E ρ M:=h
theorem Zrz{acc:List τ}{n:Nat}(h:(acc.take n).length<n):acc.take n=acc:=by
 rw[Ji]at h;exact Gd ()
theorem Zol{acc r:List τ}{n:Nat}(h:¬ (acc.take n).length<n):(acc++r).take n=acc.take n:=by
 rw[Ji]at h;exact Gx ()
def McAt.re{s:Nat}{xs:List D}(h:McAt s M xs ms):McAt M.length M xs ms:=⟨h.1,λi x m a b=>by
 let⟨g,c,d,_⟩:=h.2 i x m a b;exact⟨g,c,d,Znp d⟩⟩
def McAt.keep{s:Nat}{M M':Mem}{xs:List D}{ms:List Md}(h:McAt s M xs ms)(p:M<+:M'):McAt s M' xs ms:=⟨h.1,λi x m a b=>(h.2 i x m a b).keep p⟩
def McAt.put{s:Nat}{xs:List D}{y:MO}(h:McAt s M xs ms):McAt s (M.set s y) xs ms:=⟨h.1,λi x m a b=>(h.2 i x m a b).put⟩
theorem Jdb(T:Txt mg)(Ve:Cal P w K mg base "_law_go" 1 ["_law_one","_law_other","_law_text_here"] (spOf ⟨C,K⟩ Zqm))(Ti:Cal P w K mg base "_law_legs" 1 ["_law_names_here"] (spOf ⟨C,K⟩ Zjx)){f:Addr}(F:Fun K "_law_all" "_law_all" Jcs f fd):FnOk P w K mg base CX0 3 f fd ["_law_books_here","_law_names_here","_law_text_here","_law_legs_here"] (spOf ⟨C,K⟩ Zn0):=by
 refine L3.Fun.ok3 F Jca (λds M K3 h=>?_) (λcdv A outer s H E hr=>?_)
 .let⟨b,d,e,qs,zs,ts,L,rfl,_⟩:=h;rfl
 .let SC:=Jca;let hu:=hr.units;let hu1:=X0 hr;let Sh:Room 1 _:=hr.mono nofun;let Zbg:Room 1 _:=hr.mono nofun;refine⟨_,_,(Zd (Zs (i:=4) SC.nd rfl (Cb rfl) (Yl Zc))
 (Zd (Zs (i:=5) SC.nd rfl (Cb rfl) (Yl (Za (Y6 (Za (Yl Zc) (Za (pv 2) Zc))) Zc)))
 (Zd (Yr Cd rfl (Yg rfl T.b_range (Za (pv 3) Zc)) (Zt (i:=6) SC.nd rfl (Cb rfl))
 (Zd (Zs (i:=7) SC.nd rfl (Cb rfl) (Yl Zc))
 (Zd (Yr Cd rfl (Yv (Zv Ti Zbg rfl (Za (pv 1) Zc))) (Vx (n:=2) rfl (Yc (Zt (i:=8) SC.nd rfl (Cb rfl)) (Yc (Zt (i:=9) SC.nd rfl (Cb rfl)) X9)) (by rfl))
 (Zi (Yr Cd rfl (Yv (pv 5)) (Vx (n:=2) rfl (Yc (Zt (i:=10) SC.nd rfl (Cb rfl)) (Yc (Zt (i:=11) SC.nd rfl (Cb rfl)) X9)) (by rfl))
 (Zd (Zs (i:=12) SC.nd rfl (Cb rfl) S0)
 (Zd (Yt (Z2 Zfr (Z0 (Y2 (K':=K) rfl) (Zq (Y3 (K:=K) rfl) (by rfl) T.b_len Di (Za (pv 4) Zc)) (Zq (Y3 (K:=K) rfl) (by rfl) T.b_len Di (Za (pv 7) Zc))) Zh (Z6 _))
 (Zi (Zs (i:=12) SC.nd rfl (Cb rfl) (Zv Ve Sh rfl (Za (Wl hu1 (pv 0) (pv 9) (λ_ _=>rfl)) (Za (Wl hu1 (pv 0) (pv 8) (λ_ _=>rfl)) (Za (pv 11) Zc))))))
 Zz)
 (Zi (Yt (Va (Nm (pv 12)))
 (Zi (Xj (V8 Cj Cy Cz Xv (pv 7) (Za (Y6 (Za (Z0 (Y2 (K':=K) rfl) (Yl (Za (Y6 (Za (pv 8) (Za (pv 9) Zc))) Zc)) (pv 10)) (Za (Z1 (Ye (K':=K) rfl) (pv 12) Zh (λ_ _=>rfl)) Zc))) Zc))))
 Zz)))))))
 (Zd (Zs (i:=4) SC.nd rfl (Cb rfl) (Z0 (Y2 (K':=K) rfl) (pv 4) (pv 7)))
 (Zi (Zs (i:=5) SC.nd rfl (Cb rfl) (pv 7)))))))
 (Zi (Zx (pv 4)))))),λ_=>(Zw (Z9 (V1 Zo) (s_g 4))
 (Zw (Z9 (V1 (Zb (Vg (Zb (V1 Zo) (Zb (Zf 2) Zo))) Zo)) (s_g 5))
 (Zw (Wj (Ph (Zb (Zf 3) Zo)) (s_g 6)
 (Zw (Z9 (Sx Zo) (s_g 7))
 (Zw (Wj (s_il (Z3 (Zb (Zf 1) Zo))) (Sy (Xd (s_g 8) (Xd (s_g 9) Sz)))
 (Wj (s_il (Zf 5)) (Sy (Xd (s_g 10) (Xd (s_g 11) Sz)))
 (Zw (Z9 Zhm (s_g 12))
 (Zw (Xp (Yx (s_op s_lt (s_op X6 (s_cb X8 (Zb (Zf 4) Zo)) (s_cb X8 (Zb (Zf 7) Zo))) Zu))
 (Z9 (Z3 (Zb (V4 (Zf 0) (Zf 9)) (Zb (V4 (Zf 0) (Zf 8)) (Zb (Zf 11) Zo)))) (s_g 12))
 Yq)
 (Xp (s_b (Zm7 (Zf 12)))
 (Vu (Wu (Zf 7) (Zb (Vg (Zb (s_op X6 (V1 (Zb (Vg (Zb (Zf 8) (Zb (Zf 9) Zo))) Zo)) (Zf 10)) (Zb (s_op s_ix (Zf 12) Zu) Zo))) Zo)))
 Yq)))))
 (Zw (Z9 (s_op X6 (Zf 4) (Zf 7)) (s_g 4))
 (Z9 (Zf 7) (s_g 5))))))
 (Y0 (Zf 4))))),λds M Kk hM hD h=>?_⟩
  let⟨b,d,e,qs,zs,ts,L,rfl,h⟩:=h;let⟨Bk,hd,he,⟨ok,nd,fm,ib,l3,t300⟩,k⟩:=h;let nl:(zs.map (·.1)).length<=8:=by rw[Ja];exact fm.1
  exists Gc _,?_;exists Gc _,·,(show 2<=sizeLine by decide),(show 1<=sizeLine by decide),?_;exists ·,L,rfl,⟨(),()⟩,λi ρ M'=>M<+:M'/\∃(es xs:List D)(fs:List Md)(dl:D)(v6 v7 v8 v9 v10 v11 v12:Option D),ρ=[some (.cell b),some d,some e,some (.int L),some (.lst es),some dl,v6,v7,v8,v9,v10,v11,v12]/\es.length=((Xf zs ts i).take 202).length/\lsOf M' dl=some xs/\xs.length<=202/\McAt M'.length M' xs fs/\(es.length<202->fs=lev zs ts i),λ_ _ _ _ _=>trivial,⟨Jh _,[],[.tup [.lst [],e]],[([],ts)],_,_,_,_,_,_,_,_,rfl,rfl,rfl,(show 1<=202 by decide),⟨rfl,?_⟩,λ_=>rfl⟩,?_,?_
  .intro i x m a c;cases i with
   |zero=>cases a;cases c;exists e,rfl,he,Znp he
   |succ i=>cases a
  .rintro i z ρ M1 hi rfl ⟨p1,es,xs,fs,dl,v6,v7,v8,v9,v10,v11,v12,rfl,el,ex,x202,mc,hf⟩;let hi:i<(L:Int).toNat:=hi;let es202:es.length<=202:=by rw[el,Ji];lia
   refine⟨Gc _,_,rfl,d,_,rfl,Ym (p1.trans (Jv _ _)) hd,nl,_,rfl,?_⟩;let hmc0:McAt M1.length (M1++[MO.lst []]) xs fs:=⟨mc.1,λi x m a b=>(mc.2 i x m a b).keep (Jv _ _)⟩;let lgl:(Xl (zs.map (·.1))).length<=64:=by
    let:=Zez (l:=zs.map (·.1)) (f:=λa=>((zs.map (·.1)).filter λb=>decide (b≠a)).map λb=>((a,b):Wy)) (b:=8) λa _=>by
     rw[Ja];exact J8 (Lc _ _) nl
    unfold Xl;lia
   exists λj ρ M'=>M1<+:M'/\∃(ys:List D)(v8 v9 v10 v11 v12:Option D),ρ=[some (.cell b),some d,some e,some (.int L),some (.lst es),some dl,some (.int (0+(i:Int))),some (.cell M1.length),v8,v9,v10,v11,v12]/\M'[M1.length]?=some (.lst ys)/\McAt M1.length M' xs fs/\McAt M1.length M' ys ((ledL zs fs ((Xl (zs.map (·.1))).take j)).take (202-es.length)),λ_ _ _ _ _=>rfl,⟨Jv _ _,[],_,_,_,_,_,rfl,by simp,hmc0,⟨by rw[G9,ledL,Lh,Jfr];rfl,λi x m a _=>by cases a⟩⟩,?_,?_
   .rintro j w ρ M2 hj hw ⟨p2,ys,v8,v9,v10,v11,v12,rfl,ey,mx,my⟩;let⟨hj',rfl⟩:=Yj hw;let⟨n1,n2⟩:=Vk (Jl hj');let lsucc:=Zbb (zs:=zs) (fs:=fs) hj';generalize (Xl (zs.map (·.1)))[j]=lg at n1 n2 lsucc;generalize ledL zs fs ((Xl (zs.map (·.1))).take j)=ac at my lsucc;let⟨L1,q1,s1⟩:=Rz nd ib n1;let⟨L2,q2,s2⟩:=Rz nd ib n2;exists ·,rfl,_,·,_,·,rfl,?_;exists ·,_,(Z7 (Ym p2 ex)).2.1,λq ρ M'=>M1<+:M'/\∃(ys:List D)(v10 v11 v12:Option D),ρ=[some (.cell b),some d,some e,some (.int L),some (.lst es),some dl,some (.int (0+(i:Int))),some (.cell M1.length),some (.str lg.1),some (.str lg.2),v10,v11,v12]/\M'[M1.length]?=some (.lst ys)/\McAt M1.length M' xs fs/\McAt M1.length M' ys ((ac++(fs.take q).filterMap (led1 zs lg)).take (202-es.length)),λ_ _ _ _ h=>(Z7 (Ym h.1 ex)).2.1,⟨p2,ys,_,_,_,rfl,ey,mx,by rw[G9,Mq,Gh];exact my⟩,?_,?_
    .clear my mx ey ys p2;rintro q x ρ M3 hq hx ⟨p3,ys,v10,v11,v12,rfl,ey,mx,my⟩;let hq':q<xs.length:=hq;let hqf:q<fs.length:=by rw[<-mc.1];exact hq'
     let⟨g,rfl,eg,ng⟩:=mx.2 q x fs[q] hx (Jb hqf);let ly:=my.1;obtain⟨acc,eacc⟩:∃acc,acc=ac++(fs.take q).filterMap (led1 zs lg):=⟨_,rfl⟩;let sacc:ac++(fs.take (q+1)).filterMap (led1 zs lg)=acc++(led1 zs lg fs[q]).toList:=by rw[Zjj (led1 zs lg) hqf,<-Gg,eacc]
     rw[<-eacc]at my ly;let hs:M1.length<M3.length:=(Je.mp ey).1;let pp:=p1.trans p3;let⟨c1,d1,m1⟩:=(Bk.pre pp).get ok.1 q1;let⟨c2,d2,m2⟩:=(Bk.pre pp).get ok.1 q2;exists ·,rfl,_,·,_,·,rfl,?_;refine Zvv ?_;refine Zg4 (λρ' M'=>M3<+:M'/\((∃(us ns:List Int)(t:Nat),ρ'=[some (.cell b),some d,some e,some (.int L),some (.lst es),some dl,some (.int (0+(i:Int))),some (.cell M1.length),some (.str lg.1),some (.str lg.2),some (.lst (fs[q].1.map wyD)),some g,some (.tup [.lst (ns.map .int),.cell t])]/\led1 zs lg fs[q]=some (lg::fs[q].1,us)/\M'[t]?=some (.lst (us.map .int))/\t≠M1.length/\es.length+ys.length<202)\/(ρ'=[some (.cell b),some d,some e,some (.int L),some (.lst es),some dl,some (.int (0+(i:Int))),some (.cell M1.length),some (.str lg.1),some (.str lg.2),some (.lst (fs[q].1.map wyD)),some g,some .non]/\(acc++(led1 zs lg fs[q]).toList).take (202-es.length)=acc.take (202-es.length)))) (λKn hn=>?_) ?_
     .exists ·,·,·,_,(Z7 (Yd ey)).2.2,_,·,rfl,·,ite2 (λh=>?_) (λh=>?_)
      .let h:((es.length:Nat):Int)+(ys.length:Nat)<202:=of_decide_eq_true h;let ft:=hf ();let lt:fs[q].2.length<=20000:=by
        let:=(W4 nd fm (show fs[q]∈lev zs ts i by rw[<-ft];exact Jl hqf)).1;let h4:4 ^ i<=4 ^ 2:=Fw nofun ();let:=B8 h4 t300;lia
       exists ·,·,_,d2,·,·,_,d1,·,?_;exists c2,c1,g,L2,L1,fs[q].2,rfl,m2,m1,eg,⟨(ok.2.2 _ q2).1,(ok.2.2 _ q1).1,lt⟩,λns us M4 t go p4 lt4 et=>?_,λno M4 p4=>?_
       .exact hn _ _ ⟨p4,.inl ⟨us,ns,t,rfl,Zet (Znq nd fm n2 n1 s2 s1 go),et,(),()⟩⟩
       .refine hn _ _ ⟨p4,.inr ⟨rfl,?_⟩⟩;rw[Zix (Ztp s2 s1 no)];exact congrArg _ (Gh _)
      .refine hn _ _ ⟨Jh _,.inr ⟨rfl,Zol ?_⟩⟩;intro z;refine h (Df ?_);rw[<-ly]at z;lia
     .rintro _ M4 ⟨p4,z⟩;rcases z with⟨us,ns,t,rfl,e1,et,tne,lt⟩|⟨rfl,e1⟩
      .let eac:acc.take (202-es.length)=acc:=Zrz (by rw[<-ly];lia);exists ·,·,iteT ?_;let ey4:=Zy p4 ey;exists ·,?_,·,·,(show 2<=sizeLine by decide),(show 1<=sizeLine by decide),·,?_
       .rw[Yd ey4];exact λz=>nomatch z
       let lw:fs[q].1.length<=100:=by
        let ft:=hf ();let:=(W4 nd fm (show fs[q]∈lev zs ts i by rw[<-ft];exact Jl hqf)).2;lia
       refine Zkp (xs:=[wyD lg]) (ys:=fs[q].1.map wyD) rfl rfl (by rw[Ja];exact Zm (by show 1+_<=_;lia)) ?_;exists ·,_,_,·,rfl,rfl,(show 2<=sizeLine by decide),M1.length,ys,·,rfl,ey4,Jy (by lia:ys.length<1000) (Zm nofun),.inl ⟨?_,ys++[.tup [.lst ((lg::fs[q].1).map wyD),.cell t]],_,_,_,rfl,?_,((mx.keep p4).put),?_⟩
       .let⟨r3,e3⟩:=p3.trans p4;rw[<-e3,K7 _ _ (Jd _)];exact Jv _ _
       .let:M1.length<M4.length:=(Je.mp ey4).1;rw[J0 this];rfl
       .rw[sacc,e1];let e2:(acc++[(lg::fs[q].1,us)]).take (202-es.length)=acc.take (202-es.length)++[(lg::fs[q].1,us)]:=by
         rw[eac];refine Gd ?_;rw[Jc,Gp];rw[eac]at ly;lia
        rw[show(some (lg::fs[q].1,us)).toList=[(lg::fs[q].1,us)]from rfl,e2];exact(my.keep p4).put.snoc ⟨.cell t,rfl,by rw[lsOf,Ga (Cw tne),et],λz=>tne (D.cell.inj z)⟩
      .exists ·,·,iteF (.inl ⟨p3.trans p4,ys,_,_,_,rfl,Zy p4 ey,mx.keep p4,?_⟩);rw[sacc,e1];exact my.keep p4
    .rintro ρ M3 ⟨p3,ys,v10,v11,v12,rfl,ey,mx,my⟩;let my:McAt M1.length M3 ys ((ac++(fs.take xs.length).filterMap (led1 zs lg)).take (202-es.length)):=my;rw[mc.1,Jw,<-lsucc]at my;exact .inl ⟨p3,ys,_,_,_,_,_,rfl,ey,mx,my⟩
   .rintro ρ M2 ⟨p2,ys,v8,v9,v10,v11,v12,rfl,ey,mx,my⟩;let my:McAt M1.length M2 ys ((ledL zs fs ((Xl (zs.map (·.1))).take ((Xl (zs.map (·.1))).map wyD).length)).take (202-es.length)):=my;rw[Ja,Jw]at my;let my:McAt M1.length M2 ys ((ledF zs fs).take (202-es.length)):=my;let ly:=my.1;rw[Ji]at ly;exists ·,·,?_;refine Zkp (xs:=es) (ys:=ys) rfl (Yd ey) (Zm ()) ?_;let em:(Xf zs ts (i+1)).length=(Xf zs ts i).length+(lev zs ts (i+1)).length:=by rw[Xf,Jc]
    rw[Ji]at el;let ge:es.length<202->(ledF zs fs).length=(lev zs ts (i+1)).length:=λz=>by rw[hf z];rfl
    exists ·,.inl ⟨p1.trans p2,es++ys,ys,(ledF zs fs).take (202-es.length),.cell M1.length,_,_,_,_,_,_,_,rfl,?_,Yd ey,(),my.re,λz=>?_⟩
    .rw[Jc,Ji,em]
     by_cases h:es.length<202
     .let:=ge h;lia
     .lia
    .rw[Jc]at z;let h:es.length<202:=by lia
     rw[Gd (),hf h];rfl
  .rintro ρ M1 ⟨p1,es,xs,fs,dl,v6,v7,v8,v9,v10,v11,v12,rfl,el,ex,x202,mc,hf⟩;exists ·,.inl (k M1 es p1 el)
open L3
def Zjw:Sp3:=λds M K=>∃(d e:D)(nm:List Str)(way:List Wy),ds=[d,e]/\lsOf M d=some (nm.map .str)/\lsOf M e=some (way.map wyD)/\(nm.Nodup/\nm.length<=8/\way.length<=100/\∀w∈way,w.1∈nm/\w.2∈nm)/\K (rkD (wyR nm way)) M
theorem Jcr(T:Txt mg){f:Addr}(F:Fun K "_law_rank" "_law_rank" Jbr f fd):FnOk P w K mg base CX0 1 f fd ["_law_names_here","_law_way"] (spOf ⟨C,K⟩ Zjw):=by
 refine L3.Fun.ok3 F Jde (λds M K3 h=>?_) (λcdv A outer s H E hr=>?_)
 .let⟨d,e,nm,way,rfl,_⟩:=h;rfl
 .let SC:=Jde;let hu:=hr.units;let hu1:=X0 hr;exists _,_,(Zi (Zx (Y6 (Za (Zq (Y3 (K:=K) rfl) (by rfl) T.b_len Di (Za (pv 1) Zc)) (Za (Xk (T:=["_law_one","_law_other"]) (cs:=[0]) rfl (CScope.ok (by kernel_rfl)) (Yv (pv 1)) (λ_ _ _ _=>(Vx (n:=2) rfl (Yc (Zt (i:=0) (X7 (by kernel_rfl)) rfl (Cb rfl) (Ef rfl)) (Yc (Zt (i:=1) (X7 (by kernel_rfl)) rfl (Cb rfl) (Ef rfl)) X9)) (by rfl))) (λ_ _ _ _=>Y7) (λ_ _ _ _=>(Y6 (Za (V8 Cj Kq Jdp (Zfc (K':=K) rfl) (pv 2) (Za (pv 0) Zc)) (Za (V8 Cj Kq Jdp (Zfc (K':=K) rfl) (pv 2) (Za (pv 1) Zc)) Zc)))) (Zev (Ww nofun (Ww nofun N4)))) Zc))))),λ_=>(Y0 (Vg (Zb (s_cb X8 (Zb (Zf 1) Zo)) (Zb (U3 (s_il (Zf 1)) (Sy (Xd (s_g 0) (Xd (s_g 1) Sz))) Sw (Vg (Zb (Zd9 (Zf 2) (Zb (Zf 0) Zo)) (Zb (Zd9 (Zf 2) (Zb (Zf 1) Zo)) Zo)))) Zo)))),λds M Kk hM hD h=>?_
  let⟨d,e,nm,way,rfl,h⟩:=h;let⟨hd,he,⟨nd,l8,l100,hw⟩,k⟩:=h;let lm:(way.map wyD).length=way.length:=Ja _;let dn:lsOf M d≠none:=by rw[hd];exact λz=>nomatch z
  exists ·,?_;refine Vy he ?_;exists ·,_,(Z7 he).2.1,?_,λj ys M'=>M=M'/\ys=(wyR nm (way.take j)).map (Pn Y1 Y1).e,λ_ _ _ _ h=>(by rw[<-h.1];exact(Z7 he).2.1),⟨rfl,rfl⟩,?_,?_
  .show(way.map wyD).length<=sizeLine;rw[lm];exact Zm ()
  .rintro j x ys _ hj hx ⟨rfl,rfl⟩;let⟨hj',rfl⟩:=Yj hx;let⟨n1,n2⟩:=hw _ (Jl hj');let⟨a1,a2⟩:=Ztx nd n1;let⟨b1,b2⟩:=Ztx nd n2;exists ·,rfl,_,·,_,·,rfl,?_;exists ·,dn,·,nm,_,·,(Z7 hd).2.1,a1,a2,(),?_;exists ·,dn,·,nm,_,·,(Z7 hd).2.1,b1,b2,(),(show 2<=sizeLine by decide),rfl,?_;unfold wyR;rw[Jf hj',Jg,Jg];rfl
  .rintro ys _ ⟨rfl,rfl⟩;let e1:way.take (way.map wyD).length=way:=by rw[lm,Jw]
   rw[show Lb _ way=way from e1];refine⟨(show 2<=sizeLine by decide),.inl ?_⟩;let:rkD (wyR nm way)=.tup [.int (way.map wyD).length,.lst ((wyR nm way).map (Pn Y1 Y1).e)]:=by
    unfold rkD wyR;rw[Ja,Ja];rfl
   rw[this]at k;exact k
open L3
def Zjy:Sp3:=λds M K=>∃(d e:D)(nm:List Str)(way:List Wy)(n:Int),ds=[d,e,.int n]/\lsOf M d=some (nm.map .str)/\lsOf M e=some (way.map wyD)/\(1<=way.length/\(way.length:Int)<=n/\∀w∈way,w∈Xl nm)/\K (.bl true) M
def Ztq{w:Wy}(h:w∈Xl nm):w.1≠w.2:=by
 let⟨a,_,hb⟩:=Bo.mp h;let⟨b,hc,rfl⟩:=Jo.mp hb;let:=(Fd.mp hc).2;exact λe=>(of_decide_eq_true this) e.symm
theorem Dq(T:Txt mg){f:Addr}(F:Fun K "_law_good_way" "_law_good_way" Jav f fd):FnOk P w K mg base CX0 1 f fd ["_law_names_here","_law_way","_law_legs_here"] (spOf ⟨C,K⟩ Zjy):=by
 refine L3.Fun.ok3 F Jaj (λds M K3 h=>?_) (λcdv A outer s H E hr=>?_)
 .let⟨d,e,nm,way,n,rfl,_⟩:=h;rfl
 .let SC:=Jaj;let hu:=hr.units;let hu1:=X0 hr;refine⟨_,_,(Zd (Yt (PW.pt (Sb (Vw (Vv (Zq (Tz (K:=K) rfl) (by rfl) T.b_isinstance Cp (Za (pv 1) (Za (Vj (v:=.ty "list") rfl T.b_list Cu rfl) Zc))))) (Tp (Vw (Zls Zti Zti Zh (Zq (Y3 (K:=K) rfl) (by rfl) T.b_len Di (Za (pv 1) Zc)) (pv 2))))))
 (Zi (Zx V2))
 Zz)
 (Zd (Yr Cd rfl (Yv (pv 1)) (Zt (i:=3) SC.nd rfl (Cb rfl))
 (Zd (Yt (PW.pt (Sb (Vw (Vv (Zq (Tz (K:=K) rfl) (by rfl) T.b_isinstance Cp (Za (pv 3) (Za (Vj (v:=.ty "tuple") rfl T.b_tuple C4 rfl) Zc))))) (Sb (Z2 (Qa (K':=K) rfl hu) (Zq (Y3 (K:=K) rfl) (by rfl) T.b_len Di (Za (pv 3) Zc)) Zh (Z6 _)) (Tp (Z2 (Pe (K':=K) rfl hu) (Z1 (Ye (K':=K) rfl) (pv 3) Zh (λ_ _=>rfl)) (Z1 (Ye (K':=K) rfl) (pv 3) Zh (λ_ _=>rfl)) (Z6 _))))))
 (Zi (Zx V2))
 Zz)
 (Zi (Yt (PW.pt (Sb (Z2 (Zd0 (K':=K) rfl) (Z1 (Ye (K':=K) rfl) (pv 3) Zh (λ_ _=>rfl)) (pv 0) rfl) (Tp (Z2 (Zd0 (K':=K) rfl) (Z1 (Ye (K':=K) rfl) (pv 3) Zh (λ_ _=>rfl)) (pv 0) rfl))))
 (Zi (Zx V2))
 Zz))))
 (Zi (Zx V2)))),λ_=>(Zw (Xp (s_or (Ri (s_b (s_cb (Nf (T:=.list)) (Zb (Zf 1) (Zb s_ty Zo))))) (Ri (Yx (Zo1 s_le s_le Zu (s_cb X8 (Zb (Zf 1) Zo)) (Zf 2)))))
 (Y0 s_bl)
 Yq)
 (Zw (Wj (s_il (Zf 1)) (s_g 3)
 (Zw (Xp (s_or (Ri (s_b (s_cb (Nf (T:=.tuple)) (Zb (Zf 3) (Zb s_ty Zo))))) (s_or (Yx (s_op s_ne (s_cb X8 (Zb (Zf 3) Zo)) Zu)) (Yx (s_op s_eq (s_op s_ix (Zf 3) Zu) (s_op s_ix (Zf 3) Zu)))))
 (Y0 s_bl)
 Yq)
 (Xp (s_or (Yx (s_op Zd7 (s_op s_ix (Zf 3) Zu) (Zf 0))) (Yx (s_op Zd7 (s_op s_ix (Zf 3) Zu) (Zf 0))))
 (Y0 s_bl)
 Yq)))
 (Y0 s_bl))),λds M Kk hM hD h=>?_⟩
  let⟨d,e,nm,way,n,rfl,h⟩:=h;let⟨hd,he,⟨l1,ln,hw⟩,k⟩:=h;let lm:(way.map wyD).length=way.length:=Ja _;let hl:=(Z7 hd).2.1;exists ·,_,·,(Z7 he).1,·,iteF ?_;exists ·,?_;refine Vy he ?_;exists _,·,rfl,·,ite2 (λ_=>?_) (λh=>absurd (Df (by rw[lm];lia)) h);exists ·,_,·,rfl,·,?_;rw[Df (show((way.map wyD).length:Int)<=n by rw[lm];exact ln)];refine iteF ?_;exists ·,_,(Z7 he).2.1,λi ρ M'=>M=M'/\∃v3:Option D,ρ=[some d,some e,some (.int n),v3],λ_ _ _ _ h=>(by rw[<-h.1];exact(Z7 he).2.1),⟨rfl,_,rfl⟩,?_,?_
  .rintro i x ρ M' hi hx ⟨rfl,v3,rfl⟩;let⟨hi',rfl⟩:=Yj hx;let hm:=hw _ (Jl hi');let⟨n1,n2⟩:=Vk hm;let ne:=Ztq hm;exists ·,_,·,rfl,·,iteF ?_;exists ·,·,.inl ⟨_,rfl,_,rfl,iteF ?_⟩;exists ·,_,_,·,rfl,rfl,·,_,_,·,rfl,rfl,.inl ⟨_,rfl,_,rfl,?_⟩;refine ite2 (λh=>absurd (of_decide_eq_true h) ne) (λ_=>?_);exists ·,_,_,·,rfl,rfl,·,_,nm,rfl,hl,·,?_;rw[Df n1];refine iteF ?_;exists ·,_,_,·,rfl,rfl,·,_,nm,rfl,hl,·,?_;rw[Df n2];exact iteF (.inl ⟨rfl,_,rfl⟩)
  .rintro ρ M' ⟨rfl,v3,rfl⟩;exact .inl k
open L3
def N9(XF:Addr):Sp3:=λds M K=>∃(f:Nat)(d:D)(L:Nat)(zs:List Fq)(ts:List Int),ds=[.cell f,d,.int L]/\FamAt XF M f zs/\lsOf M d=some (ts.map .int)/\(FmOk zs/\L<=3/\ts.length<=300) /\
 ((Xf zs ts L).length<=200->∀(M':Mem)(c:Nat)(ps:List (Nat×Nat)),M<+:M'->M.length<=c->M'[c]?=some (.lst (ps.map pcD))->(∀p∈ps,p.1≠c/\p.2≠c)->MdAt M.length M' ps (Xf zs ts L)->K (.cell c) M') /\
 (200<(Xf zs ts L).length->∀M',M<+:M'->K (.tup [.str "many",.int 200]) M')
def Jbn(T:Txt mg){Z8:Addr}(Ss:Cau K mg "TooMany" Z8)(mtt:Ey K Z8 (.ref Z8)=some true)(xc_TooMany:XCl K Z8 fI)(xna_most_TooMany:C1 K (.ref Z8) "most"=some none)(Sn:CalE P w K mg base "mendings" 6 ["family","text","legs","most"] (Zan ⟨C,K⟩ (dMendX Zj Z8))){f:Addr}(F:Fun K "_law_found" "_law_found" Jad f fd):FnOk P w K mg base CX0 7 f fd ["_law_family_here","_law_text_here","_law_legs_here"] (spOf ⟨C,K⟩ (N9 Zj)):=by
 refine L3.Fun.ok3 F Dx (λds M K3 h=>?_) (λcdv A outer s H E hr=>?_)
 .let⟨f,d,L,zs,ts,rfl,_⟩:=h;rfl
 .let SC:=Dx;let hu:=hr.units;let hu1:=X0 hr;let Zc9:Room 6 _:=hr.mono nofun;exists _,_,(Zi (Zs5 rfl rfl (λ_ _ _ _ hx=>Zh1 (Zh0 (Zcu Sn Zc9 rfl hx (Za (pv 0) (Za (pv 1) (Za (pv 2) (Za Zh Zc))))))) (Zwh (i:=3) Ss rfl SC.nd rfl rfl (λ_=>(Zi (Zx (Y6 (Za Wk (Za (Zqs (K:=K) rfl (pv 3) rfl) Zc)))))) Zns))),λ_=>(Zvw (λ_ _ _ he hk hx=>(Y0 (Zcl he hk hx (Zb (Zf 0) (Zb (Zf 1) (Zb (Zf 2) (Zb Zu Zo))))))) (Zv0 (Y0 (Vg (Zb Rg (Zb (Zsh (Zf 3)) Zo)))) Zm9)),λds M Kk hM hD h=>?_;let⟨f,d,L,zs,ts,rfl,h⟩:=h;let⟨Fa,hd,⟨ok,l3,t3⟩,k1,k2⟩:=h;exists ·,·,·,f,d,L,200,zs,ts,rfl,Fa,hd,⟨ok,l3,nofun,t3⟩,λhl M' c ps p1 p2 p3 p4 p5=>.inl (k1 hl M' c ps p1 p2 p3 p4 p5),λhl M' p=>?_
  exists true,mtt,iteT ?_;exists ·,Z8,_,fI,·,xc_TooMany,xna_most_TooMany,rfl,(show 2<=sizeLine by decide),.inl (k2 hl M' p)
open L3
def Ze3(XF:Addr):Sp3:=λds M K=>∃(f b:Nat)(d e:D)(L:Nat)(zs:List Fq)(qs:List Nt)(ts:List Int),ds=[.cell f,.cell b,d,e,.int L]/\FamAt XF M f zs/\Ut M b qs/\lsOf M d=some ((zs.map (·.1)).map .str)/\lsOf M e=some (ts.map .int)/\(NtOk qs/\(zs.map (·.1)).Nodup/\FmOk zs/\InB zs qs/\(∀z∈zs,Ec z.1=true)/\L<=3/\ts.length<=12)/\K (.bl true) M
theorem Jbz(T:Txt mg)(Sr:Cal P w K mg base "_law_all" 3 ["_law_books_here","_law_names_here","_law_text_here","_law_legs_here"] (spOf ⟨C,K⟩ Zn0))(Xn:Cal P w K mg base "_law_found" 7 ["_law_family_here","_law_text_here","_law_legs_here"] (spOf ⟨C,K⟩ (N9 Zj)))(Ws:Cal P w K mg base "_law_good_way" 1 ["_law_names_here","_law_way","_law_legs_here"] (spOf ⟨C,K⟩ Zjy))(Xo:Cal P w K mg base "_law_forth" 2 ["_law_books_here","_law_way","_law_text_here"] (spOf ⟨C,K⟩ dForth65))(Tg:Cal P w K mg base "_law_same" 1 ["_law_found_here","_law_due"] (spOf ⟨C,K⟩ dSame61))(Th:Cal P w K mg base "_law_rank" 1 ["_law_names_here","_law_way"] (spOf ⟨C,K⟩ Zjw)){f:Addr}(F:Fun K "_law_right" "_law_right" Jbv f fd):FnOk P w K mg base CX0 8 f fd ["_law_family_here","_law_books_here","_law_names_here","_law_text_here","_law_legs_here"] (spOf ⟨C,K⟩ (Ze3 Zj)):=by
 refine L3.Fun.ok3 F D6 (λds M K3 h=>?_) (λcdv A outer s H E hr=>?_)
 .let⟨f,b,d,e,L,zs,qs,ts,rfl,_⟩:=h;rfl
 .let SC:=D6;let hu:=hr.units;let hu1:=X0 hr;let Zdd:Room 3 _:=hr.mono nofun;let Vl:Room 7 _:=hr.mono nofun;let Rl:Room 1 _:=hr.mono nofun;let Vm:Room 2 _:=hr.mono nofun;let Zbe:Room 1 _:=hr.mono nofun;let Zbf:Room 1 _:=hr.mono nofun;refine⟨_,_,(Zd (Zs (i:=5) SC.nd rfl (Cb rfl) (Zq (Y3 (K:=K) rfl) (by rfl) T.b_len Di (Za (Zv Sr Zdd rfl (Za (pv 1) (Za (pv 2) (Za (pv 3) (Za (pv 4) Zc))))) Zc)))
 (Zd (Zs (i:=6) SC.nd rfl (Cb rfl) (Yh (Sk (K:=K) rfl) (by rfl) T.b_list Cu (Za (pv 3) Zc)))
 (Zd (Zs (i:=7) SC.nd rfl (Cb rfl) (Zv Xn Vl rfl (Za (pv 0) (Za (pv 6) (Za (pv 4) Zc)))))
 (Zd (Yt (Z2 (Qa (K':=K) rfl hu) (pv 6) (pv 3) (Z6 _))
 (Zi (Zx V2))
 Zz)
 (Zd (Yt (Z2 Zcx (pv 5) Zh (Z6 _))
 (Zi (Zx (Ztd (Nl (Pe (K':=K) rfl hu) (pv 7) (Y6 (Za Wk (Za Zh Zc))) (Z6 _)) (Zs9 (Zta (Zq (Tz (K:=K) rfl) (by rfl) T.b_isinstance Cp (Za (Z1 (Ye (K':=K) rfl) (pv 7) Zh (λ_ _=>rfl)) (Za (Vj (v:=.ty "bool") rfl T.b_bool Jd1 rfl) Zc))))))))
 Zz)
 (Zd (Yt (PW.pt (Sb (Vw (Vv (Zq (Tz (K:=K) rfl) (by rfl) T.b_isinstance Cp (Za (pv 7) (Za (Vj (v:=.ty "list") rfl T.b_list Cu rfl) Zc))))) (Tp (Z2 (Qa (K':=K) rfl hu) (Zq (Y3 (K:=K) rfl) (by rfl) T.b_len Di (Za (pv 7) Zc)) (pv 5) (Z6 _)))))
 (Zi (Zx V2))
 Zz)
 (Zd (Zs (i:=8) SC.nd rfl (Ef rfl) (Yl Zc))
 (Zd (Yr Cd rfl (Yv (pv 7)) (Zt (i:=9) SC.nd rfl (Cb rfl))
 (Zd (Yt (PW.pt (Sb (Vw (Vv (Zq (Tz (K:=K) rfl) (by rfl) T.b_isinstance Cp (Za (pv 9) (Za (Vj (v:=.ty "tuple") rfl T.b_tuple C4 rfl) Zc))))) (Sb (Z2 (Qa (K':=K) rfl hu) (Zq (Y3 (K:=K) rfl) (by rfl) T.b_len Di (Za (pv 9) Zc)) Zh (Z6 _)) (Tp (Vw (Vv (Zv Ws Rl rfl (Za (pv 2) (Za (Z1 (Ye (K':=K) rfl) (pv 9) Zh (λ_ _=>rfl)) (Za (pv 4) Zc))))))))))
 (Zi (Zx V2))
 Zz)
 (Zd (Yt (PW.pt (Sb (Vw (Vv (Zq (Tz (K:=K) rfl) (by rfl) T.b_isinstance Cp (Za (Z1 (Ye (K':=K) rfl) (pv 9) Zh (λ_ _=>rfl)) (Za (Vj (v:=.ty "list") rfl T.b_list Cu rfl) Zc))))) (Tp (Vw (Vv (Zv Tg Zbe rfl (Za (Zv Xo Vm rfl (Za (pv 1) (Za (Z1 (Ye (K':=K) rfl) (pv 9) Zh (λ_ _=>rfl)) (Za (Z1 (Ye (K':=K) rfl) (pv 9) Zh (λ_ _=>rfl)) Zc)))) (Za (pv 3) Zc))))))))
 (Zi (Zx V2))
 Zz)
 (Zi (Xj (V8 Cj Cy Cz Xv (pv 8) (Za (Zv Th Zbf rfl (Za (pv 2) (Za (Z1 (Ye (K':=K) rfl) (pv 9) Zh (λ_ _=>rfl)) Zc))) Zc)))))))
 (Zd (U9 (i:=10) SC.nd rfl rfl (T:=["_law_one"]) (cs:=[]) rfl (CScope.ok (by kernel_rfl)) (Yv (pv 7)) (λ_ _ _ _=>(Zt (i:=0) (X7 (by kernel_rfl)) rfl (Cb rfl) (Ef rfl))) (λ_ _ _ _=>Y7) (λ_ _ _ _=>(Y6 (Za (Yh (Sk (K:=K) rfl) (by rfl) T.b_list Cu (Za (Z1 (Ye (K':=K) rfl) (pv 0) Zh (λ_ _=>rfl)) Zc)) (Za (Yh (Sk (K:=K) rfl) (by rfl) T.b_list Cu (Za (Z1 (Ye (K':=K) rfl) (pv 0) Zh (λ_ _=>rfl)) Zc)) Zc)))) (Y8 nofun))
 (Zd (Yr Cd rfl (Yg rfl T.b_range (Za (Zq (Y3 (K:=K) rfl) (by rfl) T.b_len Di (Za (pv 7) Zc)) Zc)) (Zt (i:=11) SC.nd rfl (Cb rfl))
 (Zd (Yt (Z2 (Qa (K':=K) rfl hu) (Z1 (Ye (K':=K) rfl) (pv 7) (pv 11) (λ_ _=>rfl)) (Z1 (Ye (K':=K) rfl) (pv 10) (pv 11) (λ_ _=>rfl)) (Z6 _))
 (Zi (Zx V2))
 Zz)
 (Zd (Xj (V8 Cj Cy Cz Xv (Z1 (Ye (K':=K) rfl) (Z1 (Ye (K':=K) rfl) (pv 7) (pv 11) (λ_ _=>rfl)) Zh (λ_ _=>rfl)) (Za (Y6 (Za Wk (Za Wk Zc))) Zc)))
 (Zi (Xj (V8 Cj Cy Cz Xv (Z1 (Ye (K':=K) rfl) (Z1 (Ye (K':=K) rfl) (pv 7) (pv 11) (λ_ _=>rfl)) Zh (λ_ _=>rfl)) (Za Zh Zc)))))))
 (Zi (Zx (Zq (Zut (K:=K) rfl rfl) (by rfl) T.b_all Jjy (Za (Xk (T:=["_law_k"]) (cs:=[8]) rfl (CScope.ok (by kernel_rfl)) (Yg rfl T.b_range (Za (Z0 Za2 (Zq (Y3 (K:=K) rfl) (by rfl) T.b_len Di (Za (pv 8) Zc)) Zh) Zc)) (λ_ _ _ _=>(Zt (i:=0) (X7 (by kernel_rfl)) rfl (Cb rfl) (Ef rfl))) (λ_ _ _ _=>Y7) (λ_ _ _ _=>(Nl (Zrb (K':=K) rfl (Zu3 hr)) (Z1 (Ye (K':=K) rfl) (pv 1) (pv 0) (λ_ _=>rfl)) (Z1 (Ye (K':=K) rfl) (pv 1) (Z0 (Y2 (K':=K) rfl) (pv 0) Zh) (λ_ _=>rfl)) (Z6 _))) (Y8 nofun)) Zc)))))))))))))),λ_=>(Zw (Z9 (s_cb X8 (Zb (Z3 (Zb (Zf 1) (Zb (Zf 2) (Zb (Zf 3) (Zb (Zf 4) Zo))))) Zo)) (s_g 5))
 (Zw (Z9 (s_cb Zow (Zb (Zf 3) Zo)) (s_g 6))
 (Zw (Z9 (Z3 (Zb (Zf 0) (Zb (Zf 6) (Zb (Zf 4) Zo)))) (s_g 7))
 (Zw (Xp (Yx (s_op s_ne (Zf 6) (Zf 3)))
 (Y0 s_bl)
 Yq)
 (Zw (Xp (Yx (s_op s_gt (Zf 5) Zu))
 (Y0 (Zsu (s_op s_eq (Zf 7) (Vg (Zb Rg (Zb Zu Zo)))) (Zsj (s_cb (Nf (T:=.bool)) (Zb (s_op s_ix (Zf 7) Zu) (Zb s_ty Zo))))))
 Yq)
 (Zw (Xp (s_or (Ri (s_b (s_cb (Nf (T:=.list)) (Zb (Zf 7) (Zb s_ty Zo))))) (Yx (s_op s_ne (s_cb X8 (Zb (Zf 7) Zo)) (Zf 5))))
 (Y0 s_bl)
 Yq)
 (Zw (Z9 (Sx Zo) (s_g 8))
 (Zw (Wj (s_il (Zf 7)) (s_g 9)
 (Zw (Xp (s_or (Ri (s_b (s_cb (Nf (T:=.tuple)) (Zb (Zf 9) (Zb s_ty Zo))))) (s_or (Yx (s_op s_ne (s_cb X8 (Zb (Zf 9) Zo)) Zu)) (Ri (s_b (Z3 (Zb (Zf 2) (Zb (s_op s_ix (Zf 9) Zu) (Zb (Zf 4) Zo))))))))
 (Y0 s_bl)
 Yq)
 (Zw (Xp (s_or (Ri (s_b (s_cb (Nf (T:=.list)) (Zb (s_op s_ix (Zf 9) Zu) (Zb s_ty Zo))))) (Ri (s_b (Z3 (Zb (Z3 (Zb (Zf 1) (Zb (s_op s_ix (Zf 9) Zu) (Zb (s_op s_ix (Zf 9) Zu) Zo)))) (Zb (Zf 3) Zo))))))
 (Y0 s_bl)
 Yq)
 (Vu (Wu (Zf 8) (Zb (Z3 (Zb (Zf 2) (Zb (s_op s_ix (Zf 9) Zu) Zo))) Zo))))))
 (Zw (Z9 (U3 (s_il (Zf 7)) (s_g 0) Sw (Vg (Zb (s_cb Zat (Zb (s_op s_ix (Zf 0) Zu) Zo)) (Zb (s_cb Zat (Zb (s_op s_ix (Zf 0) Zu) Zo)) Zo)))) (s_g 10))
 (Zw (Wj (Ph (Zb (s_cb X8 (Zb (Zf 7) Zo)) Zo)) (s_g 11)
 (Zw (Xp (Yx (s_op s_ne (s_op s_ix (Zf 7) (Zf 11)) (s_op s_ix (Zf 10) (Zf 11))))
 (Y0 s_bl)
 Yq)
 (Zw (Vu (Wu (s_op s_ix (s_op s_ix (Zf 7) (Zf 11)) Zu) (Zb (Vg (Zb Rg (Zb Rg Zo))) Zo)))
 (Vu (Wu (s_op s_ix (s_op s_ix (Zf 7) (Zf 11)) Zu) (Zb Zu Zo))))))
 (Y0 (s_cb Zv1 (Zb (U3 (Ph (Zb (s_op Zll (s_cb X8 (Zb (Zf 8) Zo)) Zu) Zo)) (s_g 0) Sw (s_op Zvy (s_op s_ix (Zf 1) (Zf 0)) (s_op s_ix (Zf 1) (s_op X6 (Zf 0) Zu)))) Zo))))))))))))),λds M Kk hM hD h=>?_⟩
  let⟨f,b,d,e,L,zs,qs,ts,rfl,h⟩:=h;let⟨Fa,Bk,hd,he,⟨ok,nd,fm,ib,so,l3,t12⟩,k⟩:=h;let nl8:(zs.map (·.1)).length<=8:=by rw[Ja];exact fm.1
  exists ·,·,·,·,b,d,e,qs,zs,ts,L,rfl,Bk,hd,he,⟨ok,nd,fm,ib,l3,()⟩,λM1 es p1 el=>?_;exists es,rfl,?_;exists ·,_,·,(Z7 (Ym p1 he)).2.2,?_;rw[Ji]at el;let p2:M<+:M1++[MO.lst (ts.map .int)]:=p1.trans (Jv _ _);exists ·,·,·,f,.cell M1.length,L,zs,ts,rfl,Fa.pre p2,Wc,⟨fm,l3,()⟩,λhl M3 c ps p3 cl ec cn md=>?_,λhl M3 p3=>?_
  .let h3:lsOf M3 (.cell M1.length)=some (ts.map .int):=Ym p3 Wc;let pm:=p2.trans p3;exists ·,·,Q3 Y1 (a:=ts) (b:=ts) (Z7 h3).2.1 (Z7 (Ym pm he)).2.1 ⟨_,rfl,?_⟩;rw[Df rfl];refine iteF ?_;exists ·,_,·,rfl,·,ite2 (λh=>absurd (of_decide_eq_true h) ()) (λ_=>?_);let lc:=Yd ec;let lps:(ps.map pcD).length=ps.length:=Ja _;let lpm:=md.ln;exists ·,_,·,(Z7 lc).1,·,iteF ?_;exists ·,_,(Z7 lc).2.2,·,.inl ⟨_,rfl,_,rfl,?_⟩;rw[Df (show(((ps.map pcD).length:Nat):Int)=(es.length:Nat)by lia)];refine iteF ?_;exists Gc _,?_;generalize hms:Xf zs ts L=ms at md lpm el hl
   let mem:∀m∈ms,fwW zs m.1 m.2=some ts/\(∀w∈m.1,w∈Xl (zs.map (·.1)))/\(∀j a,fwW zs (m.1.take j) m.2=some a->a.length<=20000)/\1<=m.1.length/\m.1.length<=L:=λm hm=>by
    rw[<-hms]at hm;let⟨j,j1,j2,hj⟩:=Qk nd fm hm;let⟨a1,a2,a3⟩:=Zba nd fm hj;let a4:=(W4 nd fm hj).2;let h4:4 ^ j<=4 ^ 3:=Fw nofun ();let h5:=B8 h4 t12;exact⟨a1,a2,λi a ea=>by have:=a3 i a ea;lia,(),()⟩
   let cM:M3.length≠c:=λz=>by
    let:=(Je.mp ec).1;lia
   let hm1:∀p∈ps,p.1<M3.length/\p.2<M3.length:=λp hp=>by
    let⟨i,hi,e1⟩:=Ju hp;let⟨a,b⟩:=md.at1 i p ms[i] (by rw[Jb hi,e1]) (Jb ());exists(Je.mp a).1,(Je.mp b).1
   exists ·,_,(Z7 (Ym (Jv _ _) lc)).2.1,λi ρ M'=>M3<+:M'/\∃v9 v10 v11:Option D,ρ=[some (.cell f),some (.cell b),some d,some e,some (.int L),some (.int (es.length:Nat)),some (.cell M1.length),some (.cell c),some (.cell M3.length),v9,v10,v11]/\M'[M3.length]?=some (.lst ((ms.take i).map λm=>rkD (wyR (zs.map (·.1)) m.1))),λ_ _ _ _ h=>(Z7 (Ym h.1 lc)).2.1,⟨Jv _ _,_,_,_,rfl,by simp⟩,?_,?_
   .rintro i x ρ M4 hi hx ⟨p4,v9,v10,v11,rfl,er⟩;let⟨hi',rfl⟩:=Yj hx;let him:i<ms.length:=by lia
    let⟨ea,eb⟩:=md.at1 i ps[i] ms[i] (Jb hi') (Jb him);let ea:=Yd (Zy p4 ea);let eb:=Yd (Zy p4 eb);let⟨m1,m2,m3,m4,m5⟩:=mem _ (Jl him);let pm4:=pm.trans p4;exists ·,_,·,rfl,·,iteF ?_;exists ·,·,.inl ⟨_,rfl,_,rfl,iteF ?_⟩;exists ·,·,_,_,·,rfl,rfl,·,d,.cell ps[i].1,zs.map (·.1),ms[i].1,L,rfl,Ym pm4 hd,ea,⟨m4,(),m2⟩,·,iteF ?_;exists ·,_,_,·,rfl,rfl,_,·,(Z7 eb).1,·,iteF ?_;exists ·,·,_,_,·,rfl,rfl,·,_,_,·,rfl,rfl,b,.cell ps[i].1,.cell ps[i].2,qs,zs,ms[i].1,ms[i].2,rfl,Bk.pre pm4,ea,eb,⟨ok,nd,fm,ib,λw hw=>Vk (m2 w hw),(),m3⟩,λM5 r p5 r1 r2=>?_
    refine⟨_,rfl,r,e,ts,rfl,r2 ts m1,Ym (pm4.trans p5) he,(),_,rfl,iteF ?_⟩;let er5:=Zy p5 er;let ea5:=Ym p5 ea;refine⟨_,rfl,by rw[Yd er5];exact λz=>(nomatch z),_,rfl,_,rfl,_,_,_,rfl,rfl,rfl,d,.cell ps[i].1,zs.map (·.1),ms[i].1,rfl,Ym (pm4.trans p5) hd,ea5,⟨nd,nl8,(),λw hw=>Vk (m2 w hw)⟩,?_⟩;let lr:((ms.take i).map λm=>rkD (wyR (zs.map (·.1)) m.1)).length<sizeLine:=by
     rw[Ja,Ji];exact Jy (by lia:min i ms.length<1000) (Zm nofun)
    exists M3.length,_,·,rfl,er5,lr,.inl ⟨Vi (p4.trans p5) (Jd _),_,_,_,rfl,?_⟩;rw[J0 (Je.mp er5).1,Jf him,Jg];rfl
   .rintro ρ M4 ⟨p4,v9,v10,v11,rfl,er⟩;let er:M4[M3.length]?=some (.lst ((ms.take (ps.map pcD).length).map λm=>rkD (wyR (zs.map (·.1)) m.1))):=er;rw[lps,lpm,Jw]at er;let lc4:=Ym p4 lc;exists ·,_,(Z7 lc4).2.1,?_,λj ys M'=>M4=M'/\ys=(ms.take j).map mdD,λ_ _ _ _ h=>(by rw[<-h.1];exact(Z7 lc4).2.1),⟨rfl,rfl⟩,?_,?_
    .show(ps.map pcD).length<=sizeLine;rw[lps];exact Zm ()
    .rintro j x ys _ hj hx ⟨rfl,rfl⟩;let⟨hj',rfl⟩:=Yj hx;let hjm:j<ms.length:=by lia
     let⟨ea,eb⟩:=md.at1 j ps[j] ms[j] (Jb hj') (Jb hjm);let ea:=Yd (Zy p4 ea);let eb:=Yd (Zy p4 eb);exists ·,_,_,·,rfl,rfl,_,·,(Z7 ea).2.2,·,_,_,·,rfl,rfl,_,·,(Z7 eb).2.2,(show 2<=sizeLine by decide),rfl,?_;rw[Jf hjm,Jg];rfl
    rintro ys _ ⟨rfl,rfl⟩;let e2:(ms.take (ps.map pcD).length)=ms:=by rw[lps,lpm,Jw]
    rw[show Lb _ ms=ms from e2];exists ·,_,(Z7 lc4).2.2,·,⟨(),()⟩,λi ρ M'=>M<+:M'/\∃v9 v11:Option D,ρ=[some (.cell f),some (.cell b),some d,some e,some (.int L),some (.int (es.length:Nat)),some (.cell M1.length),some (.cell c),some (.cell M3.length),v9,some (.lst (ms.map mdD)),v11]/\M'[M3.length]?=some (.lst (ms.map λm=>rkD (wyR (zs.map (·.1)) m.1)))/\M'[c]?=some (.lst (ps.map pcD))/\∀(j:Nat)(p:Nat×Nat)(m:Md),i<=j->ps[j]?=some p->ms[j]?=some m->M'[p.1]?=some (.lst (m.1.map wyD))/\M'[p.2]?=some (.lst (m.2.map .int)),λ_ _ _ _ _=>trivial,⟨pm.trans p4,_,_,rfl,er,Zy p4 ec,λj p m _ a b=>⟨Zy p4 (md.at1 j p m a b).1,Zy p4 (md.at1 j p m a b).2⟩⟩,?_,?_
    .rintro i x ρ M5 hi rfl ⟨p5,v9,v11,rfl,er5,ec5,at5⟩;let hi':i<ps.length:=by
      let:i<(((ps.map pcD).length:Nat):Int).toNat:=hi;rw[lps]at this;lia
     let him:i<ms.length:=by lia
     let⟨ea,eb⟩:=at5 i ps[i] ms[i] (Jd _) (Jb hi') (Jb him);let lcc:=(Z7 (Yd ec5)).2.2;let hp:=Jl hi';let⟨g1,g2⟩:=md.ge _ hp;let⟨b1,b2⟩:=hm1 _ hp;let⟨c1,c2⟩:=cn _ hp;let atp:L2.atI (ps.map pcD) (0+(i:Int))=some (pcD ps[i]):=Wq (f:=pcD) (as:=ps) (j:=i) () hi';let atm:L2.atI (ms.map mdD) (0+(i:Int))=some (mdD ms[i]):=Wq (f:=mdD) (as:=ms) (j:=i) () him;let ne12:ps[i].1≠ps[i].2:=λz=>by
      let:=md.nd;obtain⟨A,B,e3⟩:∃A B,ps=A++ps[i]::B:=⟨ps.take i,ps.drop (i+1),by rw[Jd2,Gz]⟩;rw[e3,Bf,Bx]at this;let:=(Gu.mp this).2.1;let:=(Gu.mp this).1;simp at this;exact this z
     let oth:∀(j:Nat)(p:Nat×Nat),i+1<=j->ps[j]?=some p->p.1≠ps[i].1/\p.1≠ps[i].2/\p.2≠ps[i].1/\p.2≠ps[i].2:=λj p hj ep=>by
      let:=md.nd;let hjl:=(Je.mp ep).1;obtain⟨A,B,e3,hb⟩:∃A B,ps=A++ps[i]::B/\p∈B:=⟨ps.take i,ps.drop (i+1),by rw[Jd2,Gz],by
       refine Gr (i:=j-(i+1)) ?_;rw[List.getElem?_drop,show i+1+(j-(i+1))=j by lia];exact ep⟩
      rw[e3,Bf,Bx]at this;let:=(Gu.mp (Gu.mp this).2.1).2.2;let m1:p.1∈B.flatMap λp=>[p.1,p.2]:=Bo.mpr ⟨p,hb,by simp⟩;let m2:p.2∈B.flatMap λp=>[p.1,p.2]:=Bo.mpr ⟨p,hb,by simp⟩;exists(this _ (by simp) _ m1).symm,(this _ (by simp) _ m1).symm,(this _ (by simp) _ m2).symm,(this _ (by simp) _ m2).symm
     let okw:∀w∈ms[i].1,Ec w.1=true/\Ec w.2=true:=λw hw=>by
      let⟨n1,n2⟩:=Vk ((mem _ (Jl him)).2.1 w hw);let⟨z1,hz1,e1⟩:=Jo.mp n1;let⟨z2,hz2,e2⟩:=Jo.mp n2;exact⟨by rw[<-e1];exact so z1 hz1,by rw[<-e2];exact so z2 hz2⟩
     refine⟨_,rfl,_,rfl,_,_,_,lcc,rfl,atp,_,rfl,_,rfl,_,_,_,rfl,rfl,atm,?_⟩;refine .inr ⟨_,_,Zng ⟨_,_,rfl,Yd ea,Yd eb⟩,Zng (Zwe M5 ms[i]),(Zm5 okw).shaped nofun,(Zm5 okw).shaped nofun,?_⟩;rw[Zo8,Df rfl];refine⟨_,rfl,iteF ?_⟩;let lw:(ms[i].1.map wyD).length<sizeLine:=by
      let:=(mem _ (Jl him)).2.2.2.2;rw[Ja];exact Jy (by lia:ms[i].1.length<1000) (Zm nofun)
     let lx:(ms[i].2.map D.int).length<sizeLine:=by
      let:=(mem _ (Jl him)).2.2.1 0 ms[i].2 rfl;rw[Ja];exact Jy (by lia:ms[i].2.length<20001) (Zm nofun)
     exists ·,·,_,_,_,lcc,rfl,atp,_,_,·,rfl,rfl,by rw[Yd ea];exact λz=>(nomatch z),(show 2<=sizeLine by decide),ps[i].1,_,·,rfl,ea,lw,?_;let ec6:(M5.set ps[i].1 (.lst (ms[i].1.map wyD++[.tup [.str "a",.str "b"]])))[c]?=some (.lst (ps.map pcD)):=by rw[Ga c1];exact ec5
     let eb6:(M5.set ps[i].1 (.lst (ms[i].1.map wyD++[.tup [.str "a",.str "b"]])))[ps[i].2]?=some (.lst (ms[i].2.map .int)):=by rw[Ga ne12];exact eb
     exists ·,·,_,_,_,(Z7 (Yd ec6)).2.2,rfl,atp,_,_,·,rfl,rfl,by rw[Yd eb6];exact λz=>(nomatch z),ps[i].2,_,·,rfl,eb6,lx,.inl ⟨?_,_,_,rfl,?_,?_,λj p m hj a b=>?_⟩
     .let lm:M.length<=(M1++[MO.lst (ts.map .int)]).length:=p2.length_le;exact Vi (Vi p5 ()) ()
     .rw[Ga (),Ga ()];exact er5
     .rw[Ga c2];exact ec6
     .let⟨o1,o2,o3,o4⟩:=oth j p hj a;let⟨x1,x2⟩:=at5 j p m () a b;rw[Ga (Cw o2),Ga (Cw o1),Ga (Cw o4),Ga (Cw o3)];exists x1,x2
    .rintro ρ M5 ⟨p5,v9,v11,rfl,er5,ec5,at5⟩;let lrk:(ms.map λm=>rkD (wyR (zs.map (·.1)) m.1)).length=ms.length:=Ja _;let lr5:=Yd er5;let fin:Dk M.length Kk (.bl true) M5:=Zjn p5 hM Zab k;exists ·,_,(Z7 lr5).2.2,_,·,rfl,·,⟨(),()⟩,?_,λj ys M'=>M5=M'/\ys=(Ck j true).map .bl,λ_ _ _ _ _=>trivial,⟨rfl,rfl⟩,?_,?_
     .rw[lrk];exact Zm (by show(((ms.length:Nat):Int)-1).toNat<=_;lia)
     .rintro j x ys _ hj rfl ⟨rfl,rfl⟩;let hj:j+1<ms.length:=by
       let:j<((((ms.map λm=>rkD (wyR (zs.map (·.1)) m.1)).length:Nat):Int)-1).toNat:=hj;rw[lrk]at this;lia
      exists ·,·,_,_,_,(Z7 lr5).2.2,rfl,Wq (f:=λm=>rkD (wyR (zs.map (·.1)) m.1)) (as:=ms) (j:=j) () (),·,·,?_;exists _,_,_,(Z7 lr5).2.2,rfl,Wq (f:=λm=>rkD (wyR (zs.map (·.1)) m.1)) (as:=ms) (j:=j+1) () (),?_;exists _,_,_,Znf _ _,Znf _ _,Zv3 _ _,Zm4 _,Zm4 _,rfl,?_;let:=G6.mp (Py nd fm (ts:=ts) L) j (j+1);rw[hms]at this;rw[this () hj (),List.replicate_succ',Jg];rfl
     .rintro ys _ ⟨rfl,rfl⟩;exists _,·,rfl,?_;rw[show List.all (Ck _ true) id=true from by simp];exact fin
  .let h3:lsOf M3 (.cell M1.length)=some (ts.map .int):=Ym p3 Wc;let pm:=p2.trans p3;exists ·,·,Q3 Y1 (a:=ts) (b:=ts) (Z7 h3).2.1 (Z7 (Ym pm he)).2.1 ⟨_,rfl,?_⟩;rw[Df rfl];refine iteF ?_;exists ·,_,·,rfl,·,ite2 (λ_=>?_) (λh=>absurd (Df ()) h);exists ·,(show 2<=sizeLine by decide),Zqi (Pn encS Y1) (a:=(⟨Cv "many",by decide +kernel⟩,200)) (b:=(⟨Cv "many",by decide +kernel⟩,200)) ?_;rw[Df rfl];exists true,rfl,iteT ?_;exists ·,_,_,·,rfl,rfl,_,·,rfl,·,Zjn pm hM Zab k
open L3
def zOf(qs:List Nt):List Fq:=qs.map λq=>(q.1,q.2,[])
def z_nm(qs:List Nt):(zOf qs).map (·.1)=qs.map (·.1):=by unfold zOf;rw[Gk];rfl
def z_ok(h:NtOk qs):FmOk (zOf qs):=⟨by unfold zOf;rw[Ja];exact h.2.1,λz hz=>by
 let⟨q,hq,rfl⟩:=Jo.mp hz;exact(h.2.2 q hq).1⟩
def z_in(qs:List Nt):InB (zOf qs) qs:=λz hz=>by
 let⟨q,hq,rfl⟩:=Jo.mp hz;exists q.2,hq,Jic _
theorem Zjg(nd:(zs.map (·.1)).Nodup)(ok:FmOk zs):∀{way:List Wy}{t a:List Int},(∀w∈way,w.1∈zs.map (·.1)/\w.2∈zs.map (·.1))->fwW zs way t=some a->a.length<=4 ^ way.length*t.length
 |[],t,a,_,e=>by cases e;show t.length<=4 ^ 0*t.length;lia
 |w::r,t,a,h,e=>by
  let e:(fwO zs w t).bind (fwW zs r)=some a:=e;cases f:fwO zs w t with
  |none=>rw[f]at e;cases e
  |some u =>
   rw[f]at e;let⟨g1,g2⟩:=h w Jn;let⟨ns,go⟩:=Zmo f;let gl:=go.len (Vo nd ok g1).2 (Vo nd ok g2).2;let:=Zjg nd ok (λx hx=>h x (Jk _ hx)) e;let h5:4 ^ r.length*u.length<=4 ^ r.length*(4*t.length):=Nat.mul_le_mul_left _ ();rw[Jz,Jgt,Jji];lia
def Znz:Sp3:=λds M K=>∃(hd b:Nat)(d:D)(qs:List Nt)(ss:List Int),ds=[.cell hd,.cell b,d,.lst (ss.map .int)]/\M[hd]?=some .hand/\Ut M b qs/\lsOf M d=some ((qs.map (·.1)).map .str)/\(NtOk qs/\qs≠[])/\∀(M':Mem)(r:D)(ts:List Int),M<+:M'->lsOf M' r=some (ts.map .int)->ts.length<=12->K r M'
theorem Jaa(T:Txt mg)(Zk:Cal P w K mg base "_law_draw" 1 ["_law_hand","_law_many"] (spOf ⟨C,K⟩ dDraw))(Wr:Cal P w K mg base "_law_text" 2 ["_law_hand","_law_signs_here","_law_most"] (spOf ⟨C,K⟩ dTextC))(Xo:Cal P w K mg base "_law_forth" 2 ["_law_books_here","_law_way","_law_text_here"] (spOf ⟨C,K⟩ dForth65)){f:Addr}(F:Fun K "_law_end" "_law_end" Jcu f fd):FnOk P w K mg base CX0 3 f fd ["_law_hand","_law_books_here","_law_names_here","_law_signs_here"] (spOf ⟨C,K⟩ Znz):=by
 refine L3.Fun.ok3 F Jdi (λds M K3 h=>?_) (λcdv A outer s H E hr=>?_)
 .let⟨h0,b,d,qs,ss,rfl,_⟩:=h;rfl
 .let SC:=Jdi;let hu:=hr.units;let hu1:=X0 hr;let Zl:Room 1 _:=hr.mono nofun;let Uc:Room 2 _:=hr.mono nofun;let Vm:Room 2 _:=hr.mono nofun;refine⟨_,_,(Zd (Zs (i:=4) SC.nd rfl (Cb rfl) (Zv Wr Uc rfl (Za (pv 0) (Za (pv 3) (Za Zh Zc)))))
 (Zd (Zs (i:=5) SC.nd rfl (Cb rfl) (Yl Zc))
 (Zd (Yr Cd rfl (Yg rfl T.b_range (Za (Z0 (Y2 (K':=K) rfl) Zh (Zv Zk Zl rfl (Za (pv 0) (Za Zh Zc)))) Zc)) (Zt (i:=6) SC.nd rfl (Cb rfl))
 (Zi (Xj (V8 Cj Cy Cz Xv (pv 5) (Za (Y6 (Za (Z1 (Ye (K':=K) rfl) (pv 2) (Z0 Xh (Zv Zk Zl rfl (Za (pv 0) (Za Zh Zc))) (Zq (Y3 (K:=K) rfl) (by rfl) T.b_len Di (Za (pv 2) Zc))) (λ_ _=>rfl)) (Za (Z1 (Ye (K':=K) rfl) (pv 2) (Z0 Xh (Zv Zk Zl rfl (Za (pv 0) (Za Zh Zc))) (Zq (Y3 (K:=K) rfl) (by rfl) T.b_len Di (Za (pv 2) Zc))) (λ_ _=>rfl)) Zc))) Zc)))))
 (Zd (Zs (i:=7) SC.nd rfl (Cb rfl) (Zv Xo Vm rfl (Za (pv 1) (Za (pv 5) (Za (pv 4) Zc)))))
 (Zd (Yt (PW.pt (Sb (Va (Za0 (pv 7))) (Sb (Z2 Zcx (Zq (Y3 (K:=K) rfl) (by rfl) T.b_len Di (Za (pv 7) Zc)) Zh (Z6 _)) (Tp (Z2 (Pe (K':=K) rfl hu) (Zv Zk Zl rfl (Za (pv 0) (Za Zh Zc))) Zh (Z6 _))))))
 (Zi (Zx (pv 4)))
 Zz)
 (Zi (Zx (pv 7)))))))),λ_=>(Zw (Z9 (Z3 (Zb (Zf 0) (Zb (Zf 3) (Zb Zu Zo)))) (s_g 4))
 (Zw (Z9 (Sx Zo) (s_g 5))
 (Zw (Wj (Ph (Zb (s_op X6 Zu (Z3 (Zb (Zf 0) (Zb Zu Zo)))) Zo)) (s_g 6)
 (Vu (Wu (Zf 5) (Zb (Vg (Zb (s_op s_ix (Zf 2) (s_op Zcj (Z3 (Zb (Zf 0) (Zb Zu Zo))) (s_cb X8 (Zb (Zf 2) Zo)))) (Zb (s_op s_ix (Zf 2) (s_op Zcj (Z3 (Zb (Zf 0) (Zb Zu Zo))) (s_cb X8 (Zb (Zf 2) Zo)))) Zo))) Zo))))
 (Zw (Z9 (Z3 (Zb (Zf 1) (Zb (Zf 5) (Zb (Zf 4) Zo)))) (s_g 7))
 (Zw (Xp (s_or (s_b (Zsp (Zf 7))) (s_or (Yx (s_op s_gt (s_cb X8 (Zb (Zf 7) Zo)) Zu)) (Yx (s_op s_eq (Z3 (Zb (Zf 0) (Zb Zu Zo))) Zu))))
 (Y0 (Zf 4))
 Yq)
 (Y0 (Zf 7))))))),λds M Kk hM hD h=>?_⟩
  let⟨h0,b,d,qs,ss,rfl,h⟩:=h;let⟨hh,Bk,hd,⟨ok,qne⟩,k⟩:=h;let lq:0<(qs.map (·.1)).length:=by rw[Ja];exact Gm.mpr qne
  let lnm:((qs.map (·.1)).map D.str).length=(qs.map (·.1)).length:=Ja _;generalize hnm:qs.map (·.1)=nm at hd lq lnm;exists ·,·,h0,ss,3,rfl,hh,⟨nofun,nofun⟩,λts _ t3=>?_;exists Gc _,?_;let p0:M<+:M++[MO.lst (ts.map .int)]:=Jv _ _;let hh1:=Yy (m':=.lst (ts.map .int)) hh;let e1:(M++[MO.lst (ts.map .int)])[M.length]?=some (.lst (ts.map .int)):=by simp
  generalize M++[MO.lst (ts.map .int)]=M1 at p0 hh1 e1;let hh2:∀xs:List D,(M1++[MO.lst xs])[h0]?=some .hand:=λxs=>Yy hh1;exists ·,h0,3,rfl,hh2 _,⟨nofun,nofun⟩,λr r0 r1=>?_;exists ·,⟨(),()⟩,λi ρ M'=>∃(way:List Wy)(v6:Option D),ρ=[some (.cell h0),some (.cell b),some d,some (.lst (ss.map .int)),some (.cell M.length),some (.cell M1.length),v6,none]/\M1++[.lst (way.map wyD)]=M'/\way.length=i/\∀w∈way,w.1∈nm/\w.2∈nm,λ_ _ _ _ _=>trivial,⟨[],_,rfl,rfl,rfl,λ_ z=>nomatch z⟩,?_,?_
  .rintro i x ρ M' hi rfl ⟨way,v6,rfl,rfl,lw,hw⟩;let hi:i<(1+r).toNat:=hi;let hd2:lsOf (M1++[MO.lst (way.map wyD)]) d=some (nm.map .str):=Ym (p0.trans (Jv _ _)) hd;let pick:∀(y:Int)(Kc:K3),(∀n∈nm,Kc (.str n) (M1++[MO.lst (way.map wyD)]))->∃v:D,L2.atI (nm.map D.str) (y % ((nm.map D.str).length:Int))=some v/\Kc v (M1++[MO.lst (way.map wyD)]):=λy Kc h=>by
    let⟨a,ea⟩:=Gn (G8 y (b:=((nm.map D.str).length:Int)) ());let ha:a<nm.length:=by have:=Gw y (b:=((nm.map D.str).length:Int)) ();lia
    exists .str nm[a],by rw[ea];exact Wq (f:=D.str) (as:=nm) (j:=a) rfl ha,h _ (Jl ha)
   exists ·,by rw[Wc];exact λz=>(nomatch z),?_;exists ·,·,h0,60,rfl,hh2 _,⟨nofun,nofun⟩,λy y0 y1=>⟨_,rfl,?_⟩;refine Vy hd2 ?_;exists _,·,rfl,(show(0:Int)<_ by lia),?_;let⟨v,av,kv⟩:=pick y (λv M'=>(∃n∈nm,v=.str n)) (λn hn=>⟨n,hn,rfl⟩);let⟨n1,g1,rfl⟩:=kv;refine Zc5 hd2 av ?_;exists ·,·,h0,60,rfl,hh2 _,⟨nofun,nofun⟩,λy y0 y1=>⟨_,rfl,?_⟩;refine Vy hd2 ?_;exists _,·,rfl,(show(0:Int)<_ by lia),?_;let⟨v,av,kv⟩:=pick y (λv M'=>(∃n∈nm,v=.str n)) (λn hn=>⟨n,hn,rfl⟩);let⟨n2,g2,rfl⟩:=kv;refine Zc5 hd2 av ⟨(show 2<=sizeLine by decide),M1.length,_,_,rfl,rfl,by simp,Jy (by rw[Ja];lia:(way.map wyD).length<1000) (Zm nofun),.inl ⟨way++[(n1,n2)],_,rfl,?_,by rw[Jc,lw];rfl,λw hw'=>?_⟩⟩
   .rw[Wt,Jg];rfl
   .rcases Gb.mp hw' with z|z
    .exact hw w z
    .rw[Jj.mp z];exists g1,g2
  rintro ρ M' ⟨way,v6,rfl,rfl,lw,hw⟩;let lw:way.length=(1+r).toNat:=lw;let pw:M<+:M1++[MO.lst (way.map wyD)]:=p0.trans (Jv _ _);let et:lsOf (M1++[MO.lst (way.map wyD)]) (.cell M.length)=some (ts.map .int):=Yd (Yy e1);let hw2:∀w∈way,w.1∈(zOf qs).map (·.1)/\w.2∈(zOf qs).map (·.1):=by rw[z_nm,hnm];exact hw
  let ndz:((zOf qs).map (·.1)).Nodup:=by rw[z_nm];exact ok.1
  exists ·,·,·,b,.cell M1.length,.cell M.length,qs,zOf qs,way,ts,rfl,Bk.pre pw,Wc,et,⟨ok,ndz,z_ok ok,z_in qs,hw2,(),λj a ea=>?_⟩,λM2 x p2 x1 x2=>?_
  .let:=Zjg ndz (z_ok ok) (λw hw'=>hw2 w (G5 hw')) ea;let h4:4 ^ (way.take j).length<=4 ^ 3:=Fw nofun (by rw[Ji];lia);let:=B8 h4 (show ts.length<=3 by lia);lia
  let hh3:M2[h0]?=some .hand:=Zy p2 (hh2 _);let back:=k M2 (.cell M.length) ts (pw.trans p2) (Ym p2 et) ();cases e:fwW (zOf qs) way ts with
  |none =>
   rw[x1 e];exists ·,·,iteT (iteT ⟨_,rfl,.inl back⟩)
  |some us =>
   let lu:=x2 us e;let lum:(us.map D.int).length=us.length:=Ja _;let nn:x.isN=false:=by
    cases x with
    |non=>cases lu
    |_=>rfl
   exists ·,·,?_;rw[nn];refine iteF ⟨_,rfl,?_⟩;refine Vy lu ?_;exists _,·,rfl,·,?_
   by_cases h12:12<us.length
   .rw[Df (by rw[lum];lia)];exact iteT (iteT ⟨_,rfl,.inl back⟩)
   .rw[Dg (by rw[lum];lia)];refine iteF ⟨_,rfl,h0,4,rfl,hh3,⟨nofun,nofun⟩,λy y0 y1=>.inl ⟨_,rfl,_,rfl,ite2 (λ_=>⟨_,rfl,.inl back⟩) (λ_=>⟨_,rfl,.inl (k M2 x us (pw.trans p2) lu ())⟩)⟩⟩
open L3
def Ze5:Sp3:=λds M K=>∃cs:List Nat,ds=[.str (nmS cs)]/\(1<=cs.length/\cs.length<=8/\∀c∈cs,c<26)/\∀zs:List Str,zs.length=8->zs.Nodup->(∀z∈zs,z.length<=8/\Ec z=true)->K (.lst (zs.map .str)) M
theorem Jbh(T:Txt mg){f:Addr}(F:Fun K "_law_eight" "_law_eight" Jaz f fd):FnOk P w K mg base CX0 1 f fd ["_law_name"] (spOf ⟨C,K⟩ Ze5):=by
 refine L3.Fun.ok3 F Jbi (λds M K3 h=>?_) (λcdv A outer s H E hr=>?_)
 .let⟨cs,rfl,_⟩:=h;rfl
 .let SC:=Jbi;let hu:=hr.units;let hu1:=X0 hr;refine⟨_,_,(Zd (Zs (i:=1) SC.nd rfl (Ef rfl) Wk)
 (Zi (Zx (Xk (T:=["_law_k"]) (cs:=[1,0]) rfl (CScope.ok (by kernel_rfl)) (Yg rfl T.b_range (Za Zh Zc)) (λ_ _ _ _=>(Zt (i:=0) (X7 (by kernel_rfl)) rfl (Cb rfl) (Ef rfl))) (λ_ _ _ _=>Y7) (λ_ _ _ _=>(Z0 (Y2 (K':=K) rfl) (Z1 (Ye (K':=K) rfl) (pv 1) (Z0 Xh (Z0 (Y2 (K':=K) rfl) (V8 Ks Jee Jef Zin (pv 1) (Za (Z1 (Ye (K':=K) rfl) (pv 2) Zh (λ_ _=>rfl)) Zc)) (Z0 Zmu Zh (pv 0))) Zh) (λ_ _=>rfl)) (Ya (Rf (K':=K) rfl) (pv 2) (Yb Zh) Yu))) (Y8 nofun))))),λ_=>(Zw (Z9 Rg (s_g 1))
 (Y0 (U3 (Ph (Zb Zu Zo)) (s_g 0) Sw (s_op X6 (s_op s_ix (Zf 1) (s_op Zcj (s_op X6 (Znb (Zf 1) (Zb (s_op s_ix (Zf 2) Zu) Zo)) (s_op Zsk Zu (Zf 0))) Zu)) (s_sl Rh (Zf 2) (Wi Zu) X4))))),λds M Kk hM hD h=>?_⟩
  let⟨cs,rfl,h⟩:=h;let⟨⟨c1,c8,hc⟩,k⟩:=h;let ln:=Xu cs;let ha:0<cs.length:=by lia
  let hca:=hc _ (Jl ha);let eat:L2.atI (nmS cs).cps.toList (0:Int)=some (97+cs[0]):=by
   show L2.atI (cs.map λc=>97+c) ((0:Nat):Int)=_;unfold L2.atI;rw[Zi3 (by rw[Ja];exact ha)];show(cs.map λc=>97+c)[0]?=_;rw[Jx,Jb ha];rfl
  exists 8,rfl,⟨nofun,nofun⟩,nofun,λj ys M'=>M=M'/\ys=(((Eb 8).take j).map λk=>nmS (mvl cs 0 (3*k))).map .str,λ_ _ _ _ _=>trivial,⟨rfl,rfl⟩,?_,?_
  .rintro j x ys _ hj rfl ⟨rfl,rfl⟩;let hj:j<8:=hj;exists ·,·,·,·,_,·,Zm (show(nmS cs).length<=100000 by lia),eat,·,·,.inl ⟨nofun,nofun⟩,?_;rw[Zij hca];exists _,·,rfl,(show(0:Int)<26 by decide),?_
   try dsimp only
   let em:(((cs[0]:Nat):Int)+(3:Int)*((0:Int)+((j:Nat):Int))) % (26:Int)=(((cs[0]+3*j) % 26:Nat):Int):=by lia
   rw[em];exists _,·,nofun,Zpr (Nat.mod_lt _ nofun),?_;exists ·,·,Zm (show(nmS cs).length<=100000 by lia),?_;dsimp only[Zcb,Zgp,Zgo,Zgk,T6,Qb,Zfh,Zgn,Zgm,Zgl,Zak];rw[show(some (1:Int))=some ((1:Nat):Int)from rfl,Zii (cs:=cs) (a:=1) (),show(⟨#[97+(cs[0]+3*j) % 26]⟩:Str)=nmS [(cs[0]+3*j) % 26]from rfl];exists Zm (by rw[Xu,Xu,Ge];show 1+_<=_;lia),rfl,?_;rw[Zik,show [(cs[0]+3*j) % 26]++cs.drop 1=mvl cs 0 (3*j)from Zil (a:=0) ha,Jf (by rw[Bj];exact hj),Mn,Jg,Jg];rfl
  .rintro ys _ ⟨rfl,rfl⟩;let e:(Eb 8).take (Zfo 0 (8:Int).toNat).n=Eb 8:=rfl;rw[e];refine .inl (k _ ?_ ?_ λz hz=>?_)
   .rw[Ja,Bj]
   .rw[B9,Gj];refine(List.pairwise_lt_range).imp_of_mem λ{a b}ha' hb' h e=>?_;let:=Fs.mp hb';exact Qi ha (show 3*a<3*b by lia) () (Zep e)
   .let⟨i,hi,rfl⟩:=Jo.mp hz;exists by rw[Xu,Qj];lia,Zc0 (Zeq hc)
open L3
abbrev spLaw(K:Cm)(Pt:Addr):Sp:=Zm3 K Pt lamP lamQ
def Zry(ok:NtOk qs)(t:Tld zs qs):zs.map (·.1)=qs.map (·.1)/\FmOk zs/\(∀z∈zs,Ec z.1=true)/\InB zs qs:=by
 let at':∀i(h:i<zs.length),zs[i].1=(qs[i]'(by rw[<-t.1];exact h)).1/\zs[i].2.1.Perm (qs[i]'(by rw[<-t.1];exact h)).2:=λi h=>t.2 i _ _ (Jb h) (Jb _);exists Jg5 (by rw[Ja,Ja];exact t.1) λi h1 h2=>?_,⟨by rw[t.1];exact ok.2.1,λz hz=>?_⟩,λz hz=>?_,λz hz=>?_
 .rw[Bd,Bd];rw[Ja]at h1;exact(at' i h1).1
 .let⟨i,hi,rfl⟩:=Ju hz;let o:=(ok.2.2 _ (Jl (by rw[<-t.1];exact hi:i<qs.length))).1;exists o.1.perm (at' i hi).2,o.2.perm (at' i hi).2
 .let⟨i,hi,rfl⟩:=Ju hz;rw[(at' i hi).1];exact(ok.2.2 _ (Jl _)).2
 .let⟨i,hi,rfl⟩:=Ju hz;exists _,by rw[(at' i hi).1];exact Jl (by rw[<-t.1];exact hi),(at' i hi).2
theorem Zmt{α:Type}:∀(m:Nat)(as:List α)(bs:List β),(as.take m).zip bs=(as.zip bs).take m
 |0,_,_=>by simp
 |_+1,[],_=>by simp
 |_+1,_::_,[]=>by simp
 |m+1,a::as,b::bs=>by simp[Zmt m as bs]
structure Fm(XF:Addr)(M:Mem)(f m:Nat)(y:List Fq)(qs:List Nt):Prop where
 fa:FamAt XF M f y
 nm:y.map (·.1)=(qs.take m).map (·.1)
 ok:FmOk y
 ss:∀z∈y,Ec z.1=true
 ib:InB y qs
def Zwc(h:NtOk qs)(m:Nat):NtOk (qs.take m):=⟨by rw[Bq];exact h.1.sublist (Fn _ _),J8 (by rw[Ji];exact Le _ _) h.2.1,λq hq=>h.2.2 q (G5 hq)⟩
def Fm.mk'{f m:Nat}{y:List Fq}(fa:FamAt XF M f y)(ok:NtOk qs)(t:Tld y (qs.take m)):Fm XF M f m y qs:=by
 let⟨a,b,c,d⟩:=Zry (Zwc ok m) t;exists fa,a,b,c,λz hz=>?_;let⟨L,h1,h2⟩:=d z hz;exists L,G5 h1,h2
theorem Fm.add{f m:Nat}{y:List Fq}(h:Fm XF M f m y qs)(ok:NtOk qs)(hm:m<qs.length)(p:S.Perm qs[m].2)(fa:FamAt XF M' f (y++[(qs[m].1,S,[])])):Fm XF M' f (m+1) (y++[(qs[m].1,S,[])]) qs:=by
 let hq:=ok.2.2 _ (Jl hm);let ly:y.length=m:=by
  let:=congrArg Ez h.nm;rw[Ja,Ja,Ji]at this;lia
 exists fa,?_,⟨?_,λz hz=>?_⟩,λz hz=>?_,λz hz=>?_
 .rw[Jg,h.nm,Jf hm,Jg];rfl
 .let:=ok.2.1;rw[Jc,ly];show m+1<=8;lia
 .rcases Gb.mp hz with z|z
  .exact h.ok.2 _ z
  .rw[Jj.mp z];exists hq.1.1.perm p,hq.1.2.perm p
 .rcases Gb.mp hz with z|z
  .exact h.ss _ z
  .rw[Jj.mp z];exact hq.2
 .rcases Gb.mp hz with z|z
  .exact h.ib _ z
  .rw[Jj.mp z];exists _,Jl hm,p
theorem Fm.new{f m:Nat}{y:List Fq}(h:Fm XF M f m y qs)(ok:NtOk qs)(hm:m<qs.length):qs[m].1∉y.map (·.1):=λz=>by
 rw[h.nm,Bq]at z;let⟨j,hj,e⟩:=Ju z;rw[Ji,Ja]at hj;rw[By]at e;let:=(G3 (i:=j) (j:=m) (h₀:=by rw[Ja];lia) (h₁:=by rw[Ja];lia) ok.1).mp (by rw[e,Bd]);lia
theorem Jci(T:Txt mg)(P9:Mkr P w K mg base "Code" C 4 ["self","table"] (Nb C Pt lamP lamQ))(Uz:Mkr P w K mg base "Family" Zj 1 ["self"] (spOf ⟨C,K⟩ (dInitF Zj)))(Zgc:Met P w K mg base Zj "add" 1 ["self","name","code","mark"] (spOf ⟨C,K⟩ (dAddN Zj)))(Vs:Cal P w K mg base "_law_open" 1 ["_law_script","_law_place"] (spOf ⟨C,K⟩ dOpen))(Zk:Cal P w K mg base "_law_draw" 1 ["_law_hand","_law_many"] (spOf ⟨C,K⟩ dDraw))(Wr:Cal P w K mg base "_law_text" 2 ["_law_hand","_law_signs_here","_law_most"] (spOf ⟨C,K⟩ dTextC))(Up:Cal P w K mg base "_law_names" 2 ["_law_hand"] (spOf ⟨C,K⟩ Ze4))(Uq:Cal P w K mg base "_law_eight" 1 ["_law_name"] (spOf ⟨C,K⟩ Ze5))(Vr:Cal P w K mg base "_law_tables" 3 ["_law_hand","_law_many","_law_longest"] (spOf ⟨C,K⟩ Zbs))(Wg:Cal P w K mg base "_law_family" 6 ["_law_names_here","_law_tables_here"] (spOf ⟨C,K⟩ (Zny Zj Pt lamP lamQ)))(Wz:Cal P w K mg base "_law_books" 1 ["_law_names_here","_law_tables_here"] (spOf ⟨C,K⟩ Ze6))(Xn:Cal P w K mg base "_law_found" 7 ["_law_family_here","_law_text_here","_law_legs_here"] (spOf ⟨C,K⟩ (N9 Zj)))(Wx:Cal P w K mg base "_law_right" 8 ["_law_family_here","_law_books_here","_law_names_here","_law_text_here","_law_legs_here"] (spOf ⟨C,K⟩ (Ze3 Zj)))(Sq:Cal P w K mg base "_law_end" 3 ["_law_hand","_law_books_here","_law_names_here","_law_signs_here"] (spOf ⟨C,K⟩ Znz)){f:Addr}(F:Fun K "law" "law" Zox f fd):FnOk P w K mg base CX0 9 f fd ["_law_script"] (spOf ⟨C,K⟩ (dLawT Pt lamP lamQ)):=by
 refine L3.Fun.ok3 F Jai (λds M K3 h=>?_) (λcdv A outer s H E hr=>?_)
 .let⟨ns,rfl,_⟩:=h;rfl
 .let SC:=Jai;let hu:=hr.units;let hu1:=X0 hr;let Zde:Room 5 _:=hr.mono nofun;let Qx:Room 2 _:=hr.mono nofun;let Zja:Room 1 _:=hr.mono nofun;let Rb:Room 1 _:=hr.mono nofun;let Zl:Room 1 _:=hr.mono nofun;let Uc:Room 2 _:=hr.mono nofun;let N1:Room 2 _:=hr.mono nofun;let N2:Room 1 _:=hr.mono nofun;let Pm:Room 3 _:=hr.mono nofun;let U5:Room 6 _:=hr.mono nofun;let Tu:Room 1 _:=hr.mono nofun;let Vl:Room 7 _:=hr.mono nofun;let Tt:Room 8 _:=hr.mono nofun;let Zdc:Room 3 _:=hr.mono nofun;refine⟨_,_,(Zd (Zs (i:=1) SC.nd rfl (Cb rfl) (Zv Vs Rb rfl (Za (pv 0) (Za Zh Zc))))
 (Zd (Zs (i:=2) SC.nd rfl (Cb rfl) (Z0 (Y2 (K':=K) rfl) Zh (Zv Zk Zl rfl (Za (pv 1) (Za Zh Zc)))))
 (Zd (Zs (i:=3) SC.nd rfl (Cb rfl) (Ya (Rf (K':=K) rfl) (Zv Up N1 rfl (Za (pv 1) Zc)) Yu (Yb (pv 2))))
 (Zd (Yt (Z2 (Pe (K':=K) rfl hu) (Zv Zk Zl rfl (Za (pv 1) (Za Zh Zc))) Zh (Z6 _))
 (Zd (Zs (i:=2) SC.nd rfl (Cb rfl) Zh)
 (Zi (Zs (i:=3) SC.nd rfl (Cb rfl) (Zv Uq N2 rfl (Za (Z1 (Ye (K':=K) rfl) (pv 3) Zh (λ_ _=>rfl)) Zc)))))
 Zz)
 (Zd (Zs (i:=4) SC.nd rfl (Cb rfl) (Zv Vr Pm rfl (Za (pv 1) (Za (pv 2) (Za (Z1 (Ye (K':=K) rfl) (Yl (Za Zh (Za Zh (Za Zh (Za Zh Zc))))) (Zv Zk Zl rfl (Za (pv 1) (Za Zh Zc))) (λ_ _=>rfl)) Zc)))))
 (Zd (Zs (i:=5) SC.nd rfl (Cb rfl) (Z0 (Y2 (K':=K) rfl) (Ya (Rf (K':=K) rfl) (pv 4) (Yb Zh) Yu) (Ya (Rf (K':=K) rfl) (pv 4) Yu (Yb Zh))))
 (Zd (Zs (i:=6) SC.nd rfl (Cb rfl) (Yl (Za (Zv Wg U5 rfl (Za (Ya (Rf (K':=K) rfl) (pv 3) Yu (Yb (Pj U2 Zh))) (Za (pv 4) Zc))) (Za (Zv Wg U5 rfl (Za (Ya (Rf (K':=K) rfl) (pv 3) Yu (Yb (Pj U2 Zh))) (Za (pv 5) Zc))) Zc))))
 (Zd (Zs (i:=7) SC.nd rfl (Cb rfl) (Yl (Za (Zv Wz Tu rfl (Za (pv 3) (Za (pv 4) Zc))) (Za (Zv Wz Tu rfl (Za (pv 3) (Za (pv 5) Zc))) Zc))))
 (Zd (Zs (i:=8) SC.nd rfl (Cb rfl) (Zv Wr Uc rfl (Za (pv 1) (Za (Zq (Sj rfl) (by rfl) T.b_sorted He (Za (Wl hu1 (Z1 (Ye (K':=K) rfl) (pv 7) Zh (λ_ _=>rfl)) (Z1 (Ye (K':=K) rfl) (pv 3) Zh (λ_ _=>rfl)) (λ_ _=>rfl)) Zc)) (Za Zh Zc)))))
 (Zd (Yt (Z2 (Qa (K':=K) rfl hu) (Zv Xn Vl rfl (Za (Znk Uz Qx rfl) (Za (pv 8) (Za Zh Zc)))) (Yl Zc) (Z6 _))
 (Zi (Zx V2))
 Zz)
 (Zd (Yr Cd rfl (Yg rfl T.b_range (Za Zh Zc)) (Zt (i:=9) SC.nd rfl (Cb rfl))
 (Zd (Yt (Vw (Vv (Zv Wx Tt rfl (Za (Z1 (Ye (K':=K) rfl) (pv 6) (pv 9) (λ_ _=>rfl)) (Za (Z1 (Ye (K':=K) rfl) (pv 7) (pv 9) (λ_ _=>rfl)) (Za (Ya (Rf (K':=K) rfl) (pv 3) Yu (Yb (Pj U2 Zh))) (Za (pv 8) (Za (Z0 (Y2 (K':=K) rfl) Zh (Z0 Zmu (pv 9) (Yh Zby (by rfl) T.b_int K9 (Za (Nl Zfr (pv 2) Zh (Z6 _)) Zc)))) Zc))))))))
 (Zi (Zx V2))
 Zz)
 (Zi (Xj (Zcv (Z1 (Ye (K':=K) rfl) (pv 6) (pv 9) (λ_ _=>rfl)) Zgc Zja (Za (Z1 (Ye (K':=K) rfl) (pv 3) (Pj U2 Zh) (λ_ _=>rfl)) (Za (Ztc P9 Zde rfl (Za (Yh (Sk (K:=K) rfl) (by rfl) T.b_list Cu (Za (Z1 (Ye (K':=K) rfl) (Z1 (Ye (K':=K) rfl) (Yl (Za (pv 4) (Za (pv 5) Zc))) (pv 9) (λ_ _=>rfl)) (Pj U2 Zh) (λ_ _=>rfl)) Zc)) Zc)) (Za (Y6 Zc) Zc))))))))
 (Zd (Yr Cd rfl (Zaz rfl T.b_range (Za Zh (Za Zh Zc))) (Zt (i:=10) SC.nd rfl (Cb rfl))
 (Zd (Zs (i:=1) SC.nd rfl (Cb rfl) (Zv Vs Rb rfl (Za (pv 0) (Za (pv 10) Zc))))
 (Zd (Zs (i:=11) SC.nd rfl (Cb rfl) (Zq (Q7 rfl) (by rfl) T.b_max Hu (Za Zh (Za (Zq (Q6 rfl) (by rfl) T.b_min La (Za (Z0 (Y2 (K':=K) rfl) Zh (Zv Zk Zl rfl (Za (pv 1) (Za Zh Zc)))) (Za (Z0 Za2 Zh (pv 2)) Zc))) Zc))))
 (Zd (Zs (i:=12) SC.nd rfl (Cb rfl) (Zv Zk Zl rfl (Za (pv 1) (Za Zh Zc))))
 (Zd (Zs (i:=13) SC.nd rfl (Cb rfl) (Zv Sq Zdc rfl (Za (pv 1) (Za (Z1 (Ye (K':=K) rfl) (pv 7) (pv 12) (λ_ _=>rfl)) (Za (pv 3) (Za (Zq (Sj rfl) (by rfl) T.b_sorted He (Za (Wl hu1 (Z1 (Ye (K':=K) rfl) (pv 7) (pv 12) (λ_ _=>rfl)) (Z1 (Ye (K':=K) rfl) (pv 3) (Z0 Xh (Zv Zk Zl rfl (Za (pv 1) (Za Zh Zc))) (pv 2)) (λ_ _=>rfl)) (λ_ _=>rfl)) Zc)) Zc))))))
 (Zi (Yr Cd rfl (Pw (Y6 (Za (pv 12) (Za (Z0 Za2 Zh (pv 12)) (Za (pv 12) Zc))))) (Zt (i:=9) SC.nd rfl (Cb rfl))
 (Zi (Yt (Vw (Vv (Zv Wx Tt rfl (Za (Z1 (Ye (K':=K) rfl) (pv 6) (pv 9) (λ_ _=>rfl)) (Za (Z1 (Ye (K':=K) rfl) (pv 7) (pv 9) (λ_ _=>rfl)) (Za (pv 3) (Za (pv 13) (Za (pv 11) Zc))))))))
 (Zi (Zx V2))
 Zz)))))))))
 (Zi (Zx V2)))))))))))))),λ_=>(Zw (Z9 (Z3 (Zb (Zf 0) (Zb Zu Zo))) (s_g 1))
 (Zw (Z9 (s_op X6 Zu (Z3 (Zb (Zf 1) (Zb Zu Zo)))) (s_g 2))
 (Zw (Z9 (s_sl Rh (Z3 (Zb (Zf 1) Zo)) X4 (Wi (Zf 2))) (s_g 3))
 (Zw (Xp (Yx (s_op s_eq (Z3 (Zb (Zf 1) (Zb Zu Zo))) Zu))
 (Zw (Z9 Zu (s_g 2))
 (Z9 (Z3 (Zb (s_op s_ix (Zf 3) Zu) Zo)) (s_g 3)))
 Yq)
 (Zw (Z9 (Z3 (Zb (Zf 1) (Zb (Zf 2) (Zb (s_op s_ix (V1 (Zb Zu (Zb Zu (Zb Zu (Zb Zu Zo))))) (Z3 (Zb (Zf 1) (Zb Zu Zo)))) Zo)))) (s_g 4))
 (Zw (Z9 (s_op X6 (s_sl Rh (Zf 4) (Wi Zu) X4) (s_sl Rh (Zf 4) X4 (Wi Zu))) (s_g 5))
 (Zw (Z9 (V1 (Zb (Z3 (Zb (s_sl Rh (Zf 3) X4 (Wi (s_un Zas Zu))) (Zb (Zf 4) Zo))) (Zb (Z3 (Zb (s_sl Rh (Zf 3) X4 (Wi (s_un Zas Zu))) (Zb (Zf 5) Zo))) Zo))) (s_g 6))
 (Zw (Z9 (V1 (Zb (Z3 (Zb (Zf 3) (Zb (Zf 4) Zo))) (Zb (Z3 (Zb (Zf 3) (Zb (Zf 5) Zo))) Zo))) (s_g 7))
 (Zw (Z9 (Z3 (Zb (Zf 1) (Zb (s_cb Zhk (Zb (V4 (s_op s_ix (Zf 7) Zu) (s_op s_ix (Zf 3) Zu)) Zo)) (Zb Zu Zo)))) (s_g 8))
 (Zw (Xp (Yx (s_op s_ne (Z3 (Zb (Zsl Zo) (Zb (Zf 8) (Zb Zu Zo)))) (V1 Zo)))
 (Y0 s_bl)
 Yq)
 (Zw (Wj (Ph (Zb Zu Zo)) (s_g 9)
 (Zw (Xp (Ri (s_b (Z3 (Zb (s_op s_ix (Zf 6) (Zf 9)) (Zb (s_op s_ix (Zf 7) (Zf 9)) (Zb (s_sl Rh (Zf 3) X4 (Wi (s_un Zas Zu))) (Zb (Zf 8) (Zb (s_op X6 Zu (s_op Zsk (Zf 9) (s_cb Zoy (Zb (s_op s_lt (Zf 2) Zu) Zo)))) Zo))))))))
 (Y0 s_bl)
 Yq)
 (Vu (Qf (s_op s_ix (Zf 6) (Zf 9)) (Zb (s_op s_ix (Zf 3) (s_un Zas Zu)) (Zb (Zd8 (Zb (s_cb Zat (Zb (s_op s_ix (s_op s_ix (V1 (Zb (Zf 4) (Zb (Zf 5) Zo))) (Zf 9)) (s_un Zas Zu)) Zo)) Zo)) (Zb (Vg Zo) Zo)))))))
 (Zw (Wj (Zsq (Zb Zu (Zb Zu Zo))) (s_g 10)
 (Zw (Z9 (Z3 (Zb (Zf 0) (Zb (Zf 10) Zo))) (s_g 1))
 (Zw (Z9 (s_cb Zsm (Zb Zu (Zb (s_cb Zm8 (Zb (s_op X6 Zu (Z3 (Zb (Zf 1) (Zb Zu Zo)))) (Zb (s_op Zll Zu (Zf 2)) Zo))) Zo))) (s_g 11))
 (Zw (Z9 (Z3 (Zb (Zf 1) (Zb Zu Zo))) (s_g 12))
 (Zw (Z9 (Z3 (Zb (Zf 1) (Zb (s_op s_ix (Zf 7) (Zf 12)) (Zb (Zf 3) (Zb (s_cb Zhk (Zb (V4 (s_op s_ix (Zf 7) (Zf 12)) (s_op s_ix (Zf 3) (s_op Zcj (Z3 (Zb (Zf 1) (Zb Zu Zo))) (Zf 2)))) Zo)) Zo))))) (s_g 13))
 (Wj (s_it (Vg (Zb (Zf 12) (Zb (s_op Zll Zu (Zf 12)) (Zb (Zf 12) Zo))))) (s_g 9)
 (Xp (Ri (s_b (Z3 (Zb (s_op s_ix (Zf 6) (Zf 9)) (Zb (s_op s_ix (Zf 7) (Zf 9)) (Zb (Zf 3) (Zb (Zf 13) (Zb (Zf 11) Zo))))))))
 (Y0 s_bl)
 Yq)))))))
 (Y0 s_bl))))))))))))),λds M Kk hM hD h=>?_⟩
  let⟨ns,rfl,h⟩:=h;let⟨rfl,hlen,k⟩:=h;exists ·,ns,0,rfl,⟨hlen,nofun,nofun⟩,?_;let h0:([MO.tab Pt lamP lamQ]++[MO.hand])[0]?=some (.tab Pt lamP lamQ):=rfl;let h1:([MO.tab Pt lamP lamQ]++[MO.hand])[1]?=some .hand:=rfl;generalize [MO.tab Pt lamP lamQ]++[MO.hand]=M1 at h0 h1;exists ·,1,3,rfl,h1,⟨nofun,nofun⟩,λy y0 y1=>?_;obtain⟨n,en,n2,n4⟩:∃n:Nat,2+y=(n:Int)/\2<=n/\n<=4:=⟨(2+y).toNat,(),(),()⟩;dsimp only[add3,Zgp,Zgo,Zgk,T6,Qb,Zfh,Zgn,Zgm,Zgl,Zak];rw[en];exists ·,1,rfl,h1,λzs lz nd okz hcs=>⟨_,rfl,_,rfl,_,(Z7 Wc).2.1,?_⟩;rw[Q5,Zj0]
  let⟨cs,ecs,c1,c8,hc⟩:=hcs;let h02:(M1++[MO.lst (zs.map .str)])[0]?=some (.tab Pt lamP lamQ):=Yy h0;let h12:(M1++[MO.lst (zs.map .str)])[1]?=some .hand:=Yy h1;generalize M1++[MO.lst (zs.map .str)]=M2 at h02 h12;refine g_nx ?_
  try dsimp only
  refine Zg4 (λρ' M'=>∃(n:Nat)(nms:List Str),ρ'=[some (.frz (ns.map .int)),some (.cell 1),some (.int n),some (.lst (nms.map .str)),none,none,none,none,none,none,none,none,none,none]/\M2=M'/\nms.length=n/\(2<=n/\n<=8)/\nms.Nodup/\∀z∈nms,z.length<=8/\Ec z=true) (λKn hn=>?_) ?_
  .exists ·,1,8,rfl,h12,⟨nofun,nofun⟩,λq q0 q1=>.inl ⟨_,rfl,_,rfl,ite2 (λh=>?_) (λh=>hn _ _ ⟨n,zs.take n,rfl,rfl,by rw[Ji];lia,⟨n2,()⟩,nd.sublist (Fn _ _),λz hz=>okz z (G5 hz)⟩)⟩;let l0:0<(zs.take n).length:=by rw[Ji];lia
   let e0:(zs.take n)[0]=nmS cs:=by
    rw[By];rw[Jb ()]at ecs;exact Dh ecs
   let at0:L2.atI ((zs.take n).map D.str) (0:Int)=some (.str (nmS cs)):=by
    let:=Wq (f:=D.str) (as:=zs.take n) (i:=(0:Int)) (j:=0) rfl l0;rwa [e0]at this
   exists ·,_,_,·,rfl,at0,cs,rfl,⟨c1,c8,hc⟩,λys ly ndy oky=>hn _ _ ⟨8,ys,rfl,rfl,ly,⟨nofun,nofun⟩,ndy,oky⟩
  clear nd okz lz ecs en n2 n4;rintro _ _ ⟨n,nms,rfl,rfl,ln,⟨n2,n8⟩,ndn,okn⟩;refine⟨_,rfl,_,rfl,(show 4<=sizeLine by decide),_,rfl,1,4,rfl,h12,⟨nofun,nofun⟩,λq q0 q1=>?_⟩;obtain⟨lg,elg,lg1,lg4⟩:∃lg:Int,L2.atI [D.int 2,D.int 2,D.int 2,D.int 3] q=some (.int lg)/\1<=lg/\lg<=4:=by
   let:q=0\/q=1\/q=2\/q=3:=by lia
   rcases this with rfl|rfl|rfl|rfl
   .exact⟨2,rfl,nofun,nofun⟩
   .exact⟨2,rfl,nofun,nofun⟩
   .exact⟨2,rfl,nofun,nofun⟩
   .exact⟨3,rfl,nofun,nofun⟩
  exists _,_,·,rfl,elg,1,n,lg,rfl,h12,⟨(),(),lg1,lg4⟩,λLs lL okL=>?_;let okL:∀L∈Ls,TbOk L:=λL hL=>(okL L hL).1;let h03:(M2++[MO.lst (Ls.map tbD)])[0]?=some (.tab Pt lamP lamQ):=Yy h02;let h13:(M2++[MO.lst (Ls.map tbD)])[1]?=some .hand:=Yy h12;let hT3:(M2++[MO.lst (Ls.map tbD)])[M2.length]?=some (.lst (Ls.map tbD)):=Xw;generalize M2++[MO.lst (Ls.map tbD)]=M3 at h03 h13 hT3;generalize M2.length=ct at hT3;let lt3:=Z7 (Yd hT3);exists ·,·,_,lt3.2.1,·,·,_,lt3.2.1,_,·,rfl,?_,?_
  .let a1:=Zj1 (Ls.map tbD) (some 1) none;let a2:=Zj1 (Ls.map tbD) none (some 1);rw[Ja]at a1 a2;exact Zm ()
  let esp:cut (Ls.map tbD) (some 1) none++cut (Ls.map tbD) none (some 1)=(Ls.drop 1++Ls.take 1).map tbD:=by
   rw[Q5,Q5,Jg];rw[show(some (1:Int))=some ((1:Nat):Int)from rfl,Zj3,Zj0]
  rw[esp];let lS:((Ls.drop 1++Ls.take 1).length:Int)=n:=by rw[Jc,Ge,Ji];lia
  let okS:∀L∈Ls.drop 1++Ls.take 1,TbOk L:=λL hL=>(Gb.mp hL).elim (λz=>okL L (Ll z)) (λz=>okL L (G5 z));generalize Ls.drop 1++Ls.take 1=Lt at lS okS;let ecut:cut (nms.map D.str) none (some (-1))=(nms.take (n-1)).map .str:=by
   rw[Q5];unfold cut;rw[HT.sIx_none,Ft,Mm];let:HT.sIx nms.length nms.length (some (-1))=n-1:=by
    show(if(-1:Int)<0 then((-1:Int)+(nms.length:Nat)).toNat else min (-1:Int).toNat nms.length)=_;rw[De nofun];lia
   rw[this]
  let ndm:(nms.take (n-1)).Nodup:=ndn.sublist (Fn _ _);let lm8:(nms.take (n-1)).length<=8:=by rw[Ji];lia
  let okm:∀z∈nms.take (n-1),z.length<=8:=λz hz=>(okn z (G5 hz)).1;exists ·,·,·,?_;refine Zli (d:=.lst (nms.map .str)) rfl ?_;rw[show(-(1:Int)) = -1 from rfl,ecut];exists ·,0,_,_,nms.take (n-1),Ls,rfl,h03,rfl,Yd hT3,⟨ndm,lm8,okm,okL⟩,λM4 f1 zs1 p4 lf1 F1 t1=>?_;exists ·,·,·,?_;refine Zli (d:=.lst (nms.map .str)) rfl ?_;rw[show(-(1:Int)) = -1 from rfl,ecut];exists ·,0,_,_,nms.take (n-1),Lt,rfl,Zy p4 h03,rfl,rfl,⟨ndm,lm8,okm,okS⟩,λM5 f2 zs2 p5 lf2 F2 t2=>⟨(show 2<=sizeLine by decide),?_⟩;exists ·,·,_,_,nms,Ls,rfl,rfl,Ym (p4.trans p5) (Yd hT3),⟨ndn,(),okL⟩,λM6 b1 p6 lb1 B1=>?_
  exists ·,·,_,_,nms,Lt,rfl,rfl,rfl,⟨ndn,(),okS⟩,λM7 b2 p7 lb2 B2=>⟨(show 2<=sizeLine by decide),?_⟩;let f12:f1+2<f2:=by have:=Xx F1.h2;lia
  let f2N:f2+2<M5.length:=Xx F2.h2;let l56:=p6.length_le;let B1:=B1.pre p7;let B2:V0 M5.length M7 b2 (nms.zip Lt):=by
   let⟨cs',a1,a2,a3,a4⟩:=B2;exists cs',a1,λc hc=>J8 l56 (a2 c hc),a3,a4
  let zok:∀{Lx:List (List Pr)},(Lx.length:Int)=n->(∀L∈Lx,TbOk L)->NtOk (nms.zip Lx)/\(nms.zip Lx).map (·.1)=nms/\(nms.zip Lx).length=n:=λ{Lx}l o=>by
   let e:(nms.zip Lx).map (·.1)=nms:=List.map_fst_zip ();refine⟨⟨by rw[e];exact ndn,by rw[Bc];lia,λq hq=>?_⟩,e,by rw[Bc];lia⟩;let:=Lz hq;exists o _ this.2,(okn _ this.1).2
  let⟨ok1,en1,ln1⟩:=zok lL okL;let⟨ok2,en2,ln2⟩:=zok lS okS;rw[Zmt]at t1 t2;let lst1:∀(h:n-1<(nms.zip Ls).length)(h':n-1<Ls.length),(nms.zip Ls)[n-1].2=Ls[n-1]:=λh h'=>by rw[Gs]
  let lst2:∀(h:n-1<(nms.zip Lt).length)(h':n-1<Lt.length),(nms.zip Lt)[n-1].2=Lt[n-1]:=λh h'=>by rw[Gs]
  let nml:∀(Lx:List (List Pr))(h:n-1<(nms.zip Lx).length),(nms.zip Lx)[n-1].1=nms[n-1]:=λLx h=>by rw[Gs]
  let lL':Ls.length=n:=by lia
  let lS':Lt.length=n:=by lia
  let G1:Fm Zj M7 f1 (n-1) zs1 (nms.zip Ls):=.mk' (F1.pre (p5.trans (p6.trans p7))) ok1 t1;let G2:Fm Zj M7 f2 (n-1) zs2 (nms.zip Lt):=.mk' (F2.pre (p6.trans p7)) ok2 t2;let p37:M3<+:M7:=p4.trans (p5.trans (p6.trans p7));let h07:=Zy p37 h03;let h17:=Zy p37 h13;let hT7:=Zy p37 hT3;let lct:ct<M3.length:=Xx hT3;let l34:=p4.length_le;let nm1:n-1<nms.length:=by lia
  let q0:(nms[0],Ls[0])∈nms.zip Ls:=List.mem_iff_getElem.mpr ⟨0,(),by rw[Gs]⟩;let⟨cc,dg,mc⟩:=B1.at.get ok1.1 q0;let tbq:=(ok1.2.2 _ q0).1;exists ·,·,_,_,·,rfl,rfl,?_;exists ·,_,_,·,rfl,Wq (f:=D.str) (as:=nms) (j:=0) rfl (),_,dg,?_;exists cc,_,Ls[0].map (·.1),rfl,mc,by rw[Gk,Gk];rfl,by rw[Ja];exact tbq.2.1,λss pm pw=>?_;exists 1,ss,3,rfl,h17,⟨nofun,nofun⟩,λte hte lte=>?_;let hte8:(M7++[MO.lst (te.map .int)])[M7.length]?=some (.lst (te.map .int)):=Xw;let p8:M7<+:M7++[MO.lst (te.map .int)]:=Jv _ _;generalize hct8:M7.length=t8 at hte8
  generalize M7++[MO.lst (te.map .int)]=M8 at hte8 p8;refine g_nx ?_
  try dsimp only
  refine Zg4 (λρ' M'=>ρ'=[some (.frz (ns.map .int)),some (.cell 1),some (.int n),some (.lst (nms.map .str)),some (.cell ct),some (.lst (Lt.map tbD)),some (.lst [.cell f1,.cell f2]),some (.lst [.cell b1,.cell b2]),some (.cell t8),none,none,none,none,none]/\M8<+:M') (λKn hn=>?_) ?_
  .refine⟨M8.length,rfl,Xw,by rw[Jc];rfl,rfl,?_⟩;rw[Wt];let F0:FamAt Zj (M8++[MO.ins Zj (famD M8.length)]++[MO.dct [],MO.dct []]) M8.length []:=by
    rw[Gg];exists P2 (k:=0),P2 (k:=1),P2 (k:=2),Fg
   let p0:M8<+:M8++[MO.ins Zj (famD M8.length)]++[MO.dct [],MO.dct []]:=by rw[Gg];exists ·
   generalize M8++[MO.ins Zj (famD M8.length)]++[MO.dct [],MO.dct []]=M9 at F0 p0;let mn:Xf [] te 2=[]:=rfl;exists ·,M8.length,_,2,[],te,rfl,F0,Ym p0 (Yd hte8),⟨⟨nofun,λ_ z=>nomatch z⟩,nofun,()⟩,λ_ M' c ps p9 _ ec _ md=>?_,λh=>absurd h (by rw[mn];decide);let lps:ps=[]:=List.eq_nil_of_length_eq_zero (by rw[md.ln,mn];rfl);rw[lps]at ec;exists Gc _,Q3 Y1 (a:=[]) (b:=[]) (Z7 (Yd ec)).2.1 rfl ⟨_,rfl,?_⟩;rw[Df rfl];exact iteF (hn _ _ ⟨rfl,p0.trans p9⟩)
  rintro _ M9 ⟨rfl,p9⟩;let pp:=p8.trans p9;let l79:=pp.length_le;let atN:L2.atI (nms.map D.str) (-1:Int)=some (.str nms[n-1]):=by
   let:=Zfd (xs:=nms.map D.str) (j:=0) (by rw[Ja];lia);rw[show(-1-((0:Nat):Int)) = -1 from rfl]at this;rw[this,K8 (by rw[Ja];lia),Ja,Jx,Jb ()];simp only[ln,Mm,Bz]
  let atB:∀(Lx:List (List Pr))(h:Lx.length=n),L2.atI (Lx.map tbD) (-1:Int)=some (tbD (Lx[n-1]'())):=λLx h=>by
   let:=Zfd (xs:=Lx.map tbD) (j:=0) (by rw[Ja];lia);rw[show(-1-((0:Nat):Int)) = -1 from rfl]at this;rw[this,K8 (by rw[Ja];lia),Ja,Jx,Jb ()];simp only[h,Mm,Bz]
  let nmE:∀{M':Mem}{f m:Nat}{y:List Fq}{Lx:List (List Pr)},(nms.zip Lx).map (·.1)=nms->Fm Zj M' f m y (nms.zip Lx)->(y.map (·.1)).map D.str=(nms.take m).map .str:=λ{M' f m y Lx}e g=>by rw[g.nm,Bq,e]
  let' Ba:=λM':Mem=>M'[0]?=some (.tab Pt lamP lamQ)/\M'[ct]?=some (.lst (Ls.map tbD))/\M'[t8]?=some (.lst (te.map .int))/\V0 M5.length M' b1 (nms.zip Ls)/\V0 M5.length M' b2 (nms.zip Lt)
  let l6:=p6.length_le;let ba9:Ba M9:=⟨Zy pp h07,Zy pp hT7,Zy p9 hte8,B1.pre pp,B2.pre pp⟩;let baS:∀(M':Mem)(f:Nat)(ys:List Fq),(M3.length<=f/\f+2<M5.length)->Ba M'->Ba (Tx M' f ys):=λM' f ys hf h=>by
   let⟨a1,a2,a3,a4,a5⟩:=h;let l3:=Xx h13;let l57:=(p6.trans p7).length_le;exists Yf (Yf a1 ()) (),Yf (Yf a2 ()) (),Yf (Yf a3 ()) (),(a4.put lb1 ()).put lb1 (),(a5.put () ()).put () ()
  let b1f:M3.length<=f1/\f1+2<M5.length:=⟨lf1,()⟩;let b2f:M3.length<=f2/\f2+2<M5.length:=⟨(),f2N⟩;exists 2,rfl,⟨nofun,nofun⟩,λi ρ M'=>∃(y1 y2:List Fq)(v9:Option D),ρ=[some (.frz (ns.map .int)),some (.cell 1),some (.int n),some (.lst (nms.map .str)),some (.cell ct),some (.lst (Lt.map tbD)),some (.lst [.cell f1,.cell f2]),some (.lst [.cell b1,.cell b2]),some (.cell t8),v9,none,none,none,none]/\Ba M'/\Fm Zj M' f1 (n-1+min i 1) y1 (nms.zip Ls)/\Fm Zj M' f2 (n-1+(i-1)) y2 (nms.zip Lt),λ_ _ _ _ _=>trivial,⟨zs1,zs2,_,rfl,ba9,⟨G1.fa.pre pp,G1.nm,G1.ok,G1.ss,G1.ib⟩,⟨G2.fa.pre pp,G2.nm,G2.ok,G2.ss,G2.ib⟩⟩,?_,?_
  .rintro i x ρ M10 hi rfl ⟨y1,y2,v9,rfl,ba,g1,g2⟩;let hi:i<2:=hi;let⟨a1,a2,a3,a4,a5⟩:=id ba;obtain⟨L,eL,L3⟩:∃L:Nat,(1:Int)+(0+(i:Int))*(if decide ((n:Int)<5)=true then 1 else 0)=L/\L<=3:=⟨1+i*(if decide ((n:Int)<5)=true then 1 else 0),by split<;>simp<;>lia,by split<;>simp<;>lia⟩;rcases(show i=0\/i=1 by lia)with rfl|rfl
   .let g1:Fm Zj M10 f1 (n-1) y1 (nms.zip Ls):=g1;exists ·,·,_,_,·,rfl,rfl,·,·,_,_,·,rfl,rfl,·,·,·,?_;refine Zli (d:=.lst (nms.map .str)) rfl ?_;rw[show(-(1:Int)) = -1 from rfl,ecut];exists ·,·,·,_,·,rfl,_,·,rfl,.inl ⟨nofun,nofun⟩,?_;exists f1,b1,_,_,L,y1,nms.zip Ls,te,congrArg (λz:Int=>[D.cell f1,D.cell b1,D.lst ((nms.take (n-1)).map .str),D.cell t8,D.int z]) eL,g1.fa,a4.at,congrArg some (nmE en1 g1).symm,Yd a3,⟨ok1,g1.fa.nd,g1.ok,g1.ib,g1.ss,L3,()⟩,·,iteF ?_;exists ·,·,_,_,·,rfl,rfl,⟨f1,famD f1,rfl,g1.fa.h0,rfl⟩,?_
    exists ·,·,_,_,·,rfl,atN,?_;exists ·,·,(show 2<=sizeLine by decide),·,_,_,·,rfl,rfl,·,_,_,_,(Z7 (Yd a2)).2.2,rfl,atB Ls lL',_,·,rfl,0,_,Ls[n-1],a1,rfl,rfl,okL _ (Jl _),λS pm _=>?_;let q1l:n-1<(nms.zip Ls).length:=by lia
    let ad:=g1.new ok1 q1l;rw[nml Ls q1l]at ad;refine⟨Gc _,f1,nms[n-1],S,[],y1,rfl,g1.fa,J8 g1.ok.1 nofun,ad,?_⟩;let nd1:((y1++[((nms[n-1],S,[]):Fq)]).map (·.1)).Nodup:=by
     rw[Jg,Gu];exists g1.fa.nd,by simp,λa ha b hb e=>ad (by have eb:b=nms[n-1]:=Jj.mp hb;rw[<-eb,<-e];exact ha)
    let g1':=g1.add ok1 q1l (S:=S) (M':=Tx M10 f1 (y1++[(nms[n-1],S,[])])) (by rw[lst1 q1l ()];exact pm) (by rw[nml Ls q1l];exact g1.fa.put nd1);exact .inl ⟨_,y2,_,rfl,baS _ f1 _ b1f ba,g1',⟨g2.fa.away (.inr f12),g2.nm,g2.ok,g2.ss,g2.ib⟩⟩
   .let g2:Fm Zj M10 f2 (n-1) y2 (nms.zip Lt):=g2;exists ·,·,_,_,·,rfl,rfl,·,·,_,_,·,rfl,rfl,·,·,·,?_;refine Zli (d:=.lst (nms.map .str)) rfl ?_;rw[show(-(1:Int)) = -1 from rfl,ecut];exists ·,·,·,_,·,rfl,_,·,rfl,.inl ⟨nofun,nofun⟩,?_;exists f2,b2,_,_,L,y2,nms.zip Lt,te,congrArg (λz:Int=>[D.cell f2,D.cell b2,D.lst ((nms.take (n-1)).map .str),D.cell t8,D.int z]) eL,g2.fa,a5.at,congrArg some (nmE en2 g2).symm,Yd a3,⟨ok2,g2.fa.nd,g2.ok,g2.ib,g2.ss,L3,()⟩,·,iteF ?_;exists ·,·,_,_,·,rfl,rfl,⟨f2,famD f2,rfl,g2.fa.h0,rfl⟩,?_
    exists ·,·,_,_,·,rfl,atN,?_;exists ·,·,(show 2<=sizeLine by decide),·,_,_,·,rfl,rfl,·,_,_,·,rfl,atB Lt lS',_,·,rfl,0,_,Lt[n-1],a1,rfl,rfl,okS _ (Jl _),λS pm _=>?_;let q2l:n-1<(nms.zip Lt).length:=by lia
    let ad:=g2.new ok2 q2l;rw[nml Lt q2l]at ad;refine⟨Gc _,f2,nms[n-1],S,[],y2,rfl,g2.fa,J8 g2.ok.1 nofun,ad,?_⟩;let nd2:((y2++[((nms[n-1],S,[]):Fq)]).map (·.1)).Nodup:=by
     rw[Jg,Gu];exists g2.fa.nd,by simp,λa ha b hb e=>ad (by have eb:b=nms[n-1]:=Jj.mp hb;rw[<-eb,<-e];exact ha)
    let g2':=g2.add ok2 q2l (S:=S) (M':=Tx M10 f2 (y2++[(nms[n-1],S,[])])) (by rw[lst2 q2l ()];exact pm) (by rw[nml Lt q2l];exact g2.fa.put nd2);exact .inl ⟨y1,_,_,rfl,baS _ f2 _ b2f ba,⟨g1.fa.away (.inl f12),g1.nm,g1.ok,g1.ss,g1.ib⟩,g2'⟩
  rintro ρ M10 ⟨y1,y2,v9,rfl,⟨a1,a2,a3,a4,a5⟩,g1,g2⟩;let g1:Fm Zj M10 f1 n y1 (nms.zip Ls):=by
   let:Fm Zj M10 f1 (n-1+min 2 1) y1 (nms.zip Ls):=g1;rwa [show n-1+min 2 1=n by lia]at this
  let g2:Fm Zj M10 f2 n y2 (nms.zip Lt):=by
   let:Fm Zj M10 f2 (n-1+(2-1)) y2 (nms.zip Lt):=g2;rwa [show n-1+(2-1)=n by lia]at this
  let sel:∀j:Int,j=0\/j=1->∃(f b:Nat)(zs:List Fq)(Lx:List (List Pr)),L2.atI [D.cell f1,D.cell f2] j=some (.cell f)/\L2.atI [D.cell b1,D.cell b2] j=some (.cell b)/\Fm Zj M10 f n zs (nms.zip Lx)/\Ut M10 b (nms.zip Lx)/\NtOk (nms.zip Lx)/\(nms.zip Lx).map (·.1)=nms/\Lx.length=n:=λj hj=>by
   rcases hj with rfl|rfl
   .exists f1,b1,y1,Ls,rfl,rfl,g1,a4.at,ok1,en1,lL'
   .exists f2,b2,y2,Lt,rfl,rfl,g2,a5.at,ok2,en2,lS'
  exists 1,5,rfl,⟨nofun,nofun,nofun,nofun⟩,λi ρ M'=>∃v1 v9 v10 v11 v12 v13:Option D,ρ=[some (.frz (ns.map .int)),v1,some (.int n),some (.lst (nms.map .str)),some (.cell ct),some (.lst (Lt.map tbD)),some (.lst [.cell f1,.cell f2]),some (.lst [.cell b1,.cell b2]),some (.cell t8),v9,v10,v11,v12,v13]/\M10<+:M',λ_ _ _ _ _=>trivial,⟨_,_,_,_,_,_,rfl,Jh _⟩,?_,?_
  .rintro i x ρ M11 hi rfl ⟨v1,v9,v10,v11,v12,v13,rfl,p11⟩;let hi:i<(5-1:Int).toNat:=hi;refine⟨_,rfl,_,rfl,ns,1+(i:Int),rfl,⟨hlen,(),()⟩,?_⟩;let p12:M10<+:M11++[MO.hand]:=p11.trans ⟨_,rfl⟩;let h12:(M11++[MO.hand])[M11.length]?=some .hand:=Xw;generalize M11.length=hh at h12;generalize M11++[MO.hand]=M12 at p12 h12;refine⟨_,rfl,hh,3,rfl,h12,⟨nofun,nofun⟩,λr r0 r1=>⟨_,rfl,_,_,rfl,rfl,_,_,rfl,_,_,rfl,?_⟩⟩;obtain⟨L,eL,L3⟩:∃L:Nat,(if(if(6:Int)-n<1+r then(6:Int)-n else 1+r) > 1 then(if(6:Int)-n<1+r then(6:Int)-n else 1+r)else 1)=(L:Int)/\L<=3:=⟨_,(Int.toNat_of_nonneg (by split<;>split<;>lia)).symm,by split<;>split<;>lia⟩
   try dsimp only
   rw[eL];exists ·,hh,2,rfl,h12,⟨nofun,nofun⟩,λfs fs0 fs1=>?_;let⟨f,b,zs',Lx,ef,eb,Gf,Bb,okq,enq,lq⟩:=sel fs ();exists ·,·,·,_,_,·,rfl,eb,·,·,·,_,_,·,rfl,eb,·,·,hh,60,rfl,h12,⟨nofun,nofun⟩,λu u0 u1=>⟨_,rfl,_,_,rfl,rfl,(),?_⟩;let⟨a,ea,ha⟩:=Zno u (n:=n) ()
   try dsimp only
   rw[ea];let qa:(nms[a],Lx[a])∈nms.zip Lx:=List.mem_iff_getElem.mpr ⟨a,by rw[Bc];lia,by rw[Gs]⟩;let⟨cc,dg,mc⟩:=(Bb.pre p12).get okq.1 qa;let tbq:=(okq.2.2 _ qa).1;exists _,_,·,rfl,Wq (f:=D.str) (as:=nms) (j:=a) rfl (),_,dg,?_;exists cc,_,Lx[a].map (·.1),rfl,mc,by rw[Gk,Gk];rfl,by rw[Ja];exact tbq.2.1,λss pm pw=>?_;exists hh,b,_,nms.zip Lx,ss,rfl,h12,Bb.pre p12,by rw[enq];rfl,⟨okq,λz=>by rw[z]at qa;cases qa⟩,λM13 rt tx p13 ert ltx=>?_;exists ·,·,_,·,rfl,·,(show 3<=sizeLine by decide),·,λj ρ M'=>∃v9:Option D,ρ=[some (.frz (ns.map .int)),some (.cell hh),some (.int n),some (.lst (nms.map .str)),some (.cell ct),some (.lst (Lt.map tbD)),some (.lst [.cell f1,.cell f2]),some (.lst [.cell b1,.cell b2]),some (.cell t8),v9,some (.int (1+(i:Int))),some (.int L),some (.int fs),some rt]/\M13=M',λ_ _ _ _ _=>trivial,⟨_,rfl,rfl⟩,?_,?_
   .rintro j x ρ _ hj hx ⟨v9,rfl,rfl⟩;obtain⟨z,rfl,hz⟩:∃z:Int,x=.int z/\(z=0\/z=1):=by
     let hx:[D.int fs,D.int (1-fs),D.int fs][j]?=some x:=hx
     match j,hx with
     |0,e=>exact⟨_,(Dh e).symm,()⟩
     |1,e=>exact⟨_,(Dh e).symm,()⟩
     |2,e=>exact⟨_,(Dh e).symm,()⟩
    let⟨f,b,zs',Lx,ef,eb,Gf,Bb,okq,enq,lq⟩:=sel z hz;let p:=p12.trans p13;let nn:(zs'.map (·.1)).map D.str=nms.map .str:=by rw[nmE enq Gf,Gd ()]
    exists ·,·,_,_,·,rfl,ef,·,·,_,_,·,rfl,eb,·,·,·,f,b,_,rt,L,zs',nms.zip Lx,tx,rfl,Gf.fa.pre p,Bb.pre p,congrArg some nn.symm,ert,⟨okq,Gf.fa.nd,Gf.ok,Gf.ib,Gf.ss,L3,ltx⟩,·,iteF (.inl ⟨_,rfl,rfl⟩)
   .rintro ρ _ ⟨v9,rfl,rfl⟩;exact .inl ⟨_,_,_,_,_,_,rfl,p12.trans p13⟩
  .rintro ρ M' ⟨v1,v9,v10,v11,v12,v13,rfl,_⟩;exact .inl (k _)
end
def all_mk{l:Jjt}{w:C0}{fa:Addr}(X:K.In h)(G:h.Ns mainGlobals mg)(hfa:mg "law"=some (.ref fa)){C:Addr}(aC:Jkk K mainGlobals "Code"=some (some (.ref C)))(gx_NoSign:Jkk K mainGlobals "NoSign"=some (some (.ref Yo)))(gx_NoReading:Jkk K mainGlobals "NoReading"=some (some (.ref Z4)))(gx_TooMany:Jkk K mainGlobals "TooMany"=some (some (.ref Z8)))(gx_Family:Jkk K mainGlobals "Family"=some (some (.ref Zj)))(h0:FnG K "_law_draw" Jdf f0 d0)(h1:FnG K "_law_open" Jao f1 d1)(h2:FnG K "_law_bytes" Jbe f2 d2)(h3:FnG K "_law_words" Jbq f3 d3)(h4:FnG K "_law_signs" Jbs f4 d4)(h5:FnG K "_law_table" Jal f5 d5)(h6:FnG K "_law_text" Jcl f6 d6)(h7:FnG K "odds_between" W1 f7 d7)(h8:FnG K "fault" Zck f8 d8)(h9:FnG K "refuse_fault" W0 f9 d9)(h10:FnG K "beginnings" V5 f10 d10)(a11:C1 K (.ref C) "__init__"=some (some (.ref f11)))(l11:K.lookup f11=some ⟨oc11,od11,.func (Jer "__init__" "Code.__init__" (Wn Z5) (Xg Z5) (Zp Z5) .none kV11 dc11 pm11 an11 (.ref c) ct11),sl11⟩)(c11:Jfd K (.ref c) "Code.__init__"=true)(k11:Jb7 K (.ref f11)=true)(n11:W.isFn K (.ref f11)=true)(h12:MtG K C "word" "Code.word" U7 f12 d12)(h13:MtG K C "sign" "Code.sign" U8 f13 d13)(h14:MtG K Yo "__init__" "NoSign.__init__" Xy f14 d14)(h15:MtG K Z4 "__init__" "NoReading.__init__" Xe f15 d15)(h16:MtG K Z8 "__init__" "TooMany.__init__" Xt f16 d16)(h17:FnG K "write" Zch f17 d17)(h18:FnG K "word_at" Qe f18 d18)(h19:FnG K "read" Zhl f19 d19)(h20:FnG K "_law_names" Jck f20 d20)(h21:FnG K "_law_tables" D9 f21 d21)(h22:MtG K Zj "__init__" "Family.__init__" Xz f22 d22)(h23:MtG K Zj "add" "Family.add" V6 f23 d23)(h24:MtG K Zj "names" "Family.names" W2 f24 d24)(h25:MtG K Zj "code" "Family.code" Vh f25 d25)(h26:FnG K "_law_family" Jdk f26 d26)(h27:FnG K "_law_books" Jct f27 d27)(h28:FnG K "_law_go" Jan f28 d28)(h29:FnG K "_law_same" D7 f29 d29)(h30:FnG K "gone" Zho f30 d30)(h31:FnG K "unlike_legs" Vf f31 d31)(h32:FnG K "led_from" T8 f32 d32)(h33:FnG K "mendings" T7 f33 d33)(h34:FnG K "_law_forth" Jdl f34 d34)(h35:FnG K "_law_legs" Jch f35 d35)(h36:FnG K "_law_all" Jcs f36 d36)(h37:FnG K "_law_rank" Jbr f37 d37)(h38:FnG K "_law_good_way" Jav f38 d38)(h39:FnG K "_law_found" Jad f39 d39)(h40:FnG K "_law_right" Jbv f40 d40)(h41:FnG K "_law_end" Jcu f41 d41)(h42:FnG K "_law_eight" Jaz f42 d42)(h43:FnG K "law" Zox f43 d43)(xc_NoSign:XCl K Yo f14)(xin_NoSign:L2.Qu K Yo=some (some (.ref f14)))(xna_at_NoSign:C1 K (.ref Yo) "at"=some none)(xc_NoReading:XCl K Z4 f15)(xin_NoReading:L2.Qu K Z4=some (some (.ref f15)))(xna_at_NoReading:C1 K (.ref Z4) "at"=some none)(xc_TooMany:XCl K Z8 f16)(xin_TooMany:L2.Qu K Z8=some (some (.ref f16)))(xna_most_TooMany:C1 K (.ref Z8) "most"=some none)(xca_TooMany:CaG K Z8)(xca_NoSign:CaG K Yo)(xca_NoReading:CaG K Z4)(mtt:Ey K Z8 (.ref Z8)=some true)(mss:Ey K Yo (.ref Yo)=some true)(msr:Ey K Yo (.ref Z4)=some false)(mrs:Ey K Z4 (.ref Yo)=some false)(mrr:Ey K Z4 (.ref Z4)=some true)(cl_Family:Cls K Zj)(mk_Family:MkG K Zj)(na_codes_by_name_Family:C1 K (.ref Zj) "codes_by_name"=some none)(na_marks_by_name_Family:C1 K (.ref Zj) "marks_by_name"=some none)(hd:Jf9 K c Pt=true)(cl:Cls K C)(mk:MkG K C)(y_pairs:C1 K (.ref C) "pairs"=some none)(y_words_by_sign:C1 K (.ref C) "words_by_sign"=some none)(y_signs_by_word:C1 K (.ref C) "signs_by_word"=some none)(y_begun:C1 K (.ref C) "begun"=some none)(y_word_sizes:C1 K (.ref C) "word_sizes"=some none)(z:Znm K ["len","abs","max","min","isinstance","all","range","int","str","bool","tuple","list","dict","sorted","enumerate","zip","ValueError"]=true)
   :∃fd:Mi,(∃c,Jf9 K c Pt=true)/\(∀(s:Ca)(v:Value),Jf0 s fd ⟨[v],[]⟩ [("_law_script",v)])/\∀base:Heap,K.In base->base.Ns mainGlobals mg->Bm mg base->FnOk l.prog w K mg base CX0 9 fa fd ["_law_script"] (spLaw K Pt):=by
  let e:=hfa.symm.trans (W.mg_of X G h43.g);cases e;let T:Txt mg:=⟨X5 X G z 0 rfl,X5 X G z 1 rfl,X5 X G z 2 rfl,X5 X G z 3 rfl,X5 X G z 4 rfl,X5 X G z 5 rfl,X5 X G z 6 rfl,X5 X G z 7 rfl,X5 X G z 8 rfl,X5 X G z 9 rfl,X5 X G z 10 rfl,X5 X G z 11 rfl,X5 X G z 12 rfl,X5 X G z 13 rfl,X5 X G z 14 rfl,X5 X G z 15 rfl,X5 X G z 16 rfl⟩;let CT:CodeT K C:=⟨cl,y_pairs,y_words_by_sign,y_signs_by_word,y_begun,y_word_sizes⟩;let F11:=Zjh (st:=Z5) l11 c11 k11;let b11:=F11.binds (ps:=["self","table"]) λ_ _ _ _ _ _=>us2 λ_ _=>rfl;let bl:∀(s:Ca)(v:Value),Jf0 s d43 ⟨[v],[]⟩ [("_law_script",v)]:=by
    let⟨_,_,_,_,_,_,_,_,_,rfl,_,_⟩:=h43.F.ex;exact λs v=>.of_eq rfl
  exists d43,⟨c,hd⟩,bl,λbase kb _ hBm=>?_;let Y:Tk l.prog w K mg base:=⟨λe=>W.mg_of X G e⟩;let hCd:=Jjd kb hd;let Zms:=Y.m gx_NoSign;let Zdt:=Y.m gx_NoReading;let Zku:=Y.m gx_TooMany;let Zu1:=Y.m gx_Family;let Ss:Cau K mg "TooMany" Z8:=⟨Zku,xca_TooMany.t,xca_TooMany.b⟩;let Pd:Cau K mg "NoSign" Yo:=⟨Zms,xca_NoSign.t,xca_NoSign.b⟩;let Us:Cau K mg "NoReading" Z4:=⟨Zdt,xca_NoReading.t,xca_NoReading.b⟩;let Zk:=Xq Y h0 (Dw T  h0.F);let Vp:=L3.Cal.imp Zk λ_ _ _ _ h=>L3.Zuz (C:=⟨C,K⟩) h;let Vs:=Xq Y h1 (Jdc T  h1.F);let Zdv:=L3.Cal.imp Vs λ_ _ _ _ h=>L3.Zuy (C:=⟨C,K⟩) h
  let Ur:=Xq Y h2 (Jbw T Zk h2.F);let Zb9:=L3.Cal.imp Ur λ_ _ _ _ h=>L3.Zq3 (C:=⟨C,K⟩) h;let Ul:=Xq Y h3 (Jbx T Zk h3.F);let Zb6:=L3.Cal.imp Ul λ_ _ _ _ h=>L3.Zqy (C:=⟨C,K⟩) h;let Uo:=Xq Y h4 (Jcd T Zk h4.F);let Zb8:=L3.Cal.imp Uo λ_ _ _ _ h=>L3.Zq1 (C:=⟨C,K⟩) h;let Um:=Xq Y h5 (Dp T Zk h5.F);let Zb7:=L3.Cal.imp Um λ_ _ _ _ h=>L3.Zq0 (C:=⟨C,K⟩) h;let Wr:=Xq Y h6 (Jah T Zk h6.F);let Pb:=L3.Cal.imp Wr λ_ _ _ _ h=>L3.Zqz (C:=⟨C,K⟩) h;let W8:=Xq Y h7 (Jdg T  h7.F);let Zdx:=Xq Y h8 (D4 T W8 h8.F);let W7:=Xq Y h9 (Jcw T Zdx h9.F);let Uk:=Xq Y h10 (Dm T  h10.F);let P9:Mkr l.prog w K mg base "Code" C 4 _ _:=⟨f11,_,⟨mk.m,a11,n11,mk.k⟩,Jcj T CT hCd hBm W7 Uk l11 c11,Y.m aC,b11⟩
  let Zff:=Zio Y cl h12 (Jcv T CT  h12.F);let Zwl:=L3.Met.imp Zff λ_ _ _ _ h=>L3.Zux (C:=⟨C,K⟩) h;let P8:=Zio Y cl h13 (Jbf T CT  h13.F);let Pa:=rx_g Y xc_NoSign xin_NoSign h14 (Jcz T xc_NoSign xna_at_NoSign h14.F) gx_NoSign;let Ug:=rx_g Y xc_NoReading xin_NoReading h15 (Jdd T xc_NoReading xna_at_NoReading h15.F) gx_NoReading;let Sm:=rx_g Y xc_TooMany xin_TooMany h16 (Jaw T xc_TooMany xna_most_TooMany h16.F) gx_TooMany;let Zdw:=Zj9 Y h17 (Jab T Zff Pa h17.F);let Zq5:=L3.CalE.imp Zdw λ_ _ _ _ h=>L3.Zmq (Cn:=Yo) (C:=⟨C,K⟩) h;let Pc:=Xq Y h18 (Jat T CT P8 h18.F);let Zkv:=Zj9 Y h19 (Jac T P8 Pc Ug h19.F)
  let Zu0:=L3.CalE.imp Zkv λ_ _ _ _ h=>L3.Zq2 (Cr:=Z4) (C:=⟨C,K⟩) h;let Up:=Xq Y h20 (Jam (C:=C) T Vp h20.F);let Vr:=Xq Y h21 (Dn (C:=C) T Vp Zb9 Zb6 Zb8 Zb7 h21.F);let Uz:=Zwd Y mk_Family h22 (Du T (C:=C) cl_Family na_codes_by_name_Family na_marks_by_name_Family  h22.F) gx_Family;let Zgc:=Zio Y cl_Family h23 (Jba T (C:=C) cl_Family na_codes_by_name_Family na_marks_by_name_Family  h23.F);let Zds:=Zio Y cl_Family h24 (Jbc T (C:=C) cl_Family na_codes_by_name_Family na_marks_by_name_Family  h24.F);let Zfg:=Zio Y cl_Family h25 (Jda T (C:=C) cl_Family na_codes_by_name_Family na_marks_by_name_Family  h25.F)
  let Wg:=Xq Y h26 (Jce (C:=C) T P9 Uz Zgc h26.F);let Wz:=Xq Y h27 (Jcb (C:=C) T  h27.F);let Ve:=Xq Y h28 (Jbl (C:=C) T  h28.F);let Tg:=Xq Y h29 (Jaq (C:=C) T  h29.F);let Zkw:=Xq Y h30 (Jcx (C:=C) T Pd Us mss mrs mrr msr Zq5 Zu0 h30.F);let Vq:=Xq Y h31 (Jcf (C:=C) T  h31.F);let So:=Xq Y h32 (Jae (C:=C) T Zds Zfg Vq Zkw h32.F);let Sn:=Zj9 Y h33 (Jag (C:=C) T Sm So h33.F);let Xo:=Xq Y h34 (Dl (C:=C) T Ve h34.F);let Ti:=Xq Y h35 (Dy (C:=C) T  h35.F);let Sr:=Xq Y h36 (Jdb (C:=C) T Ve Ti h36.F);let Th:=Xq Y h37 (Jcr (C:=C) T  h37.F);let Ws:=Xq Y h38 (Dq (C:=C) T  h38.F);let Xn:=Xq Y h39 (Jbn (C:=C) T Ss mtt xc_TooMany xna_most_TooMany Sn h39.F)
  let Wx:=Xq Y h40 (Jbz (C:=C) T Sr Xn Ws Xo Tg Th h40.F);let Sq:=Xq Y h41 (Jaa (C:=C) T Vp Pb Xo h41.F);let Uq:=Xq Y h42 (Jbh (C:=C) T  h42.F);exact(Jci T P9 Uz Zgc Zdv Vp Pb Up Uq Vr Wg Wz Xn Wx Sq h43.F).imp λ_ _ _ _ h=>L3.Zpz (C:=⟨C,K⟩) h
def walk{l:Jjt}{q:Ew}{loose:List Str}{XP:(Str->Option Value)->Heap->Prop}{YP:C0->Heap->Prop}{d:DefRec}{K:Params->Cm}(hn:l.most=some 63)(hdf:d.params.defaults=[])(hY:∀(w:C0)(h:Heap),YP w h->(K w.params).In h)(hYt:∀(w:C0)(h:Heap),YP w h->h.get? Pt=some (Jkj #[]))(hPK:∀w:C0,(K w.params).lookup Pt=none)(F:∀(w:C0)(mg:Str->Option Value)(fa:Addr)(h:Heap),(K w.params).In h->h.Ns mainGlobals mg->mg d.name=some (.ref fa) ->
   ∃fd:Mi,(∃c,Jf9 (K w.params) c Pt=true)/\(∀(s:Ca)(u:Value),Jf0 s fd ⟨[u],[]⟩ [("_law_script",u)])/\∀base:Heap,(K w.params).In base->base.Ns mainGlobals mg->Bm mg base->FnOk l.prog w (K w.params) mg base CX0 9 fa fd ["_law_script"] (spLaw (K w.params) Pt)) :
  W.WalkO q loose XP YP l.row.toRowW d [] (λf vs=>Jit f vs) :=
 L2.Zkz (n:=63) (k:=9) (x:="_law_script") (CX:=λ_=>CX0) (sp:=λw=>spLaw (K w.params) Pt) hn nofun hdf ⟨rfl,nofun,nofun⟩ hY hYt hPK F (λ_ _ a ns hl hO hS=>⟨a,ns,rfl,hS,hl,hO.tab _ _,λ_=>rfl⟩) λ_ _ _ _ _ z=>z
end K65
namespace PySem.W.Fast
def tw9004281265773733708:=0
def tw6638634845843449016:=0
def tw14747253141765497003:=0
def tw16134357373918716245:=0
def tw11300401933844943005:=0
def tw5284414635107363781:=0
def tw9390350875869539397:=0
def tw17079577110318064715:=0
def tw16944699548406710352:=0
def tw8110643444258983164:=0
def tw6462473472729010611:=0
def tw6590133664738829290:=0
def tw5627140015249122936:=0
def tw5421093081875330906:=0
def tw4397192215971163529:=0
def tw8227331914625312057:=0
def tw4601968442309907722:=0
def tw2855663230667191270:=0
def tw11237438591675371781:=0
def tw15210856419142927125:=0
def tw3367701018058536868:=0
def tw11308889366190800608:=0
def tw2246857815986013391:=0
def tw16327894327472486652:=0
def tw5110618662927243512:=0
def tw15978662965956921332:=0
def tw1455192229773287384:=0
def tw816146112171260263:=0
def tw9160551098381554722:=0
def tw9438597335829674168:=0
def tw2411437949876693720:=0
def tw8879946825936979181:=0
def tw2540464283073413729:=0
def tw907922711073711309:=0
def tw6628509073209252344:=0
def tw8263362601385289483:=0
def tw10029990829239397010:=0
def tw8550586758210310935:=0
def tw10257677196046243039:=0
def tw2388094596000727579:=0
def tw4505918119310443785:=0
def tw13397811810425763813:=0
def tw12721019035680930803:=0
def tw14968972035308166791:=0
def tw17357938115396221488:=0
def tw9048439503412465014:=0
def tw10637770160111139490:=0
def tw17703273679916862895:=0
def tw11381416453858880339:=0
def tw3163675553451996006:=0
def tw791953079290600349:=0
def tw17202752880199342552:=0
def tw5969232712452288861:=0
def tw846578804631106929:=0
def tw2240995553168316177:=0
def tw12845607983999698195:=0
def tw10240194769140074002:=0
def tw15502957290805428364:=0
def tw9828628634040450398:=0
def tw5512718881956491353:=0
def tw14320305360075284459:=0
def tw3913676498764617025:=0
def tw13789554567928397865:=0
def tw8394104062594168128:=0
def tw9770288955924147800:=0
def tw6714648760031239488:=0
def tw4051915188666880957:=0
def tw4348094306631384303:=0
def tw14020885371750323388:=0
def tw2577599587539306050:=0
def tw3984711145019253004:=0
def tw15905879959039186596:=0
def tw12981259968739592663:=0
def tw5004582575323412676:=0
def tw144644660328789716:=0
def tw7835183509648287150:=0
def tw11318874615754938023:=0
def tw11204662467987918509:=0
def tw3271064425391412099:=0
def tw2601106699520582614:=0
def tw7459431789834346560:=0
def tw13600387124770866304:=0
def tw18395583068331337481:=0
def tw6920470394436390515:=0
def tw2231714200089611494:=0
def tw875965368357485391:=0
def tw6216063446012756758:=0
def tw1704017224373941533:=0
def tw4703675930654959043:=0
def tw2412906941922294826:=0
def tw17331470298103915214:=0
def tw4197110447648062787:=0
def tw13466411902466960343:=0
def tw8580124132168414616:=0
def tw553575527370253701:=0
def tw9228461799557417164:=0
def tw17144132774954317201:=0
def tw3484750757382910036:=0
def tw4009752565519274040:=0
def tw10653126069254598165:=0
def tw14024880125988005254:=0
def tw14776600727489392120:=0
def tw6783252195742191:=0
def tw17116360023900849072:=0
def tw13627358583977819837:=0
def tw2625957325845961065:=0
def tw1299608239474154699:=0
def tw5464474685079338571:=0
def tw5961239990608530166:=0
def tw13798447850242708361:=0
def tw16628966097220556540:=0
def tw7712412386916701824:=0
def tw2384019076631809477:=0
def tw12388157918937809639:=0
def tw2173787056545169059:=0
def tw12608408147837048257:=0
def tw15553535203405801635:=0
def tw15297937559949421368:=0
def tw10071116781869171896:=0
def tw10594370505600518630:=0
def tw18370260368337283144:=0
def tw5612569799570143629:=0
def tw15210672587754430190:=0
def tw7799860438446126947:=0
def tw12803915246107458683:=0
def tw14639111369665118887:=0
def tw16657405764501578824:=0
def tw10891536218177987682:=0
def tw853900488344419897:=0
def tw18100471754699458645:=0
def tw2951423602249562507:=0
def tw5186493904623325199:=0
def tw13560266519635511025:=0
def tw11585270911765205624:=0
def tw4728938934142541622:=0
def tw9999890887834135253:=0
def tw12423234326932439147:=0
def tw4359793139402271277:=0
def tw9489868554679850900:=0
def tw6180041244239846227:=0
def tw5611807995413724906:=0
def tw7888583399049566736:=0
def tw17227581462419068269:=0
def tw8292518436809175307:=0
def tw2856489058834653425:=0
def tw2529201523652709460:=0
def tw15421193403133178721:=0
def tw8123700014729632546:=0
def tw3419927434355609081:=0
def tw13871325103713128229:=0
def tw17094327477116396111:=0
def tw17319211357095955721:=0
def tw2898679586512078081:=0
def tw8029237169214177821:=0
def tw3347558967255580390:=0
def tw2804771633142316228:=0
def tw10908228267284835881:=0
def tw1560121216830221671:=0
def tw17748262854495800903:=0
def tw15755905616749867129:=0
def tw8491703087510015923:=0
def tw6108655099048808327:=0
def tw13963830736946285862:=0
def tw17357032277741354765:=0
def tw2443506110542356833:=0
def tw6684179701340312892:=0
def tw5223596635991570073:=0
def tw1266513463717894565:=0
def tw18081131704571981560:=0
def tw4535224269289734292:=0
def tw15118768981288335325:=0
def tw17348169889420974052:=0
def tw7585819370669326611:=0
def tw9010644641004815380:=0
def tw6883204190145588074:=0
def tw15477041285969869320:=0
def tw3960524023475631734:=0
def tw18126919465219329317:=0
def tw16694895684927378027:=0
def tw2441992684891057832:=0
def tw5541113795940465870:=0
def tw3509278469283906997:=0
def tw8751277369518178560:=0
def tw8633667116884075325:=0
def tw10485453597811830391:=0
def tw8505448265393796929:=0
def tw7054063208997217048:=0
def tw8476800019457208365:=0
def tw10009485605381240995:=0
def tw12545594739143919013:=0
def tw3803328336933861237:=0
def tw8579362327827701270:=0
def tw11658557252190932192:=0
def tw2759384352048723353:=0
def tw13824230326631413726:=0
def tw4661188926854394746:=0
def tw4045157716882803049:=0
def tw7278256011488467954:=0
def tw9013310560389052207:=0
def tw3526277256112100639:=0
def tw16336339133384698440:=0
def tw9036040964898036749:=0
def tw15499227270340023346:=0
def tw12800124677599732303:=0
def tw6947303497083368317:=0
def tw13743668106860560119:=0
def tw6395550988542088025:=0
def tw9510882515248764253:=0
def tw3292692648552136829:=0
def tw6366815964763446122:=0
def tw16302649748677616620:=0
def tw16849900869164708517:=0
def tw14483241625423386308:=0
def tw1356928932392437689:=0
def tw1695244284228552820:=0
def tw1553324045746216020:=0
def tw17398212338882392956:=0
def tw3992660992677048010:=0
def tw11595428411984743945:=0
def tw2961516548613612843:=0
def tw1001871125702361960:=0
def tw17600855698876342825:=0
def tw2968974707960855731:=0
def tw3303259719578286336:=0
def tw10531870606661365563:=0
def tw11976590091423474136:=0
def tw16044231483032090606:=0
def tw5771288286208702721:=0
def tw3383464562134640593:=0
def tw11817274275251125517:=0
def tw4850409714535001139:=0
def tw10816437610772166304:=0
def tw3847081947027761534:=0
def tw5779455758043488045:=0
def tw13002622306979486815:=0
def tw6725754604710989238:=0
def tw5676070507490144704:=0
def tw2415232195124008829:=0
def tw5705936740188670722:=0
def tw15645100807236523588:=0
def tw5705747656615190896:=0
def tw8031730056617287706:=0
def tw14021735614175766231:=0
def tw398945299430752833:=0
def tw1661030911163406952:=0
def tw16634136517448265420:=0
def tw10655199410671542521:=0
def tw2996236177314406506:=0
def tw7065207641257814023:=0
def tw8394093741458489356:=0
def tw13709512980038606505:=0
def tw11414628188369268970:=0
def tw3161207596183924167:=0
def tw4074230692413487190:=0
def tw8339382346117018270:=0
def tw10265768508461973360:=0
def tw3777820817519425688:=0
def tw1207065546779352775:=0
def tw14965058718362458268:=0
def tw14213362931197572094:=0
def tw3113460533440205815:=0
def tw17885163663075966247:=0
def tw12647871656894039504:=0
def tw6252450261392738796:=0
def tw8260903493828731847:=0
def tw3264869536942417531:=0
def tw14656230015641912792:=0
def tw9713672304530998275:=0
def tw17082400555571990874:=0
def tw10015933195398260183:=0
def tw4856140033235482143:=0
def tw6899189844656869857:=0
def tw8526636914105631227:=0
def tw9096582349627232976:=0
def tw9546078548042929443:=0
def tw8814634668797830661:=0
def tw9094351593183531953:=0
def tw11158146165817109502:=0
def tw11900890314180414345:=0
def tw11505836578876512811:=0
def tw16924081120167668463:=0
def tw356719728768147926:=0
def tw11479705139130726383:=0
def tw2770802163988400780:=0
def tw17095583848893510988:=0
def tw8854629175331415878:=0
def tw4117224496969942176:=0
def tw16007740857612471460:=0
def tw7064758943957437134:=0
def tw7150385146629486802:=0
def tw6711491126139232396:=0
def tw16928286800932652160:=0
def tw17034718931454689150:=0
def tw801492522598351142:=0
def tw15021647868923077478:=0
def tw6212002008780538445:=0
def tw696183326360509002:=0
def tw9887491401654469179:=0
def tw463720693779904556:=0
def tw9932417777821036792:=0
def tw18101230508261574021:=0
def tw17649139640979317513:=0
def tw12274109803389136248:=0
def tw18329547239549262646:=0
def tw6917532986360403762:=0
def tw14342057869250211876:=0
def tw14966319130370256142:=0
def tw11162543237511541162:=0
def tw8180709838757496175:=0
def tw16306170318459786398:=0
def tw1096753172861572377:=0
def tw2938972906332141434:=0
def tw14504623024580561016:=0
def tw2752597427316794245:=0
def tw3895750346546946544:=0
def tw3694399129922531338:=0
def tw14071687070351028214:=0
def tw12368722452001273267:=0
def tw13673228314431156289:=0
def tw14601325703041505885:=0
def tw3458102388281485178:=0
def tw15693704762664658782:=0
def tw10641104432747187992:=0
def tw2107457716564033775:=0
def tw13429624776230282257:=0
def tw12544857412830485117:=0
def tw15975973804448213869:=0
def tw14196715970503049264:=0
def tw15422736274167746300:=0
def tw12389448340725488013:=0
def tw13894644811843979792:=0
def tw6745857523591908168:=0
def tw8047633452528591864:=0
def tw17234821980384043329:=0
def tw5435221156336889789:=0
def tw2874031108505931270:=0
def tw7257047798141042139:=0
def tw1598575345190628348:=0
def tw14559815292332347853:=0
def tw4124230582831949824:=0
def tw9533109147545278829:=0
def tw6884524755906646435:=0
def tw5630787569486904911:=0
def tw1089096309402948216:=0
def tw13579010090964658734:=0
def tw6744581517280049454:=0
def tw15685571011185412747:=0
def tw10661137148627728826:=0
def tw2396489153227691822:=0
def tw821169388897590267:=0
def tw9481055220985814701:=0
def tw3875622693177936235:=0
def tw4861710949212887906:=0
def tw4999414432906054801:=0
def tw3791880883087563521:=0
def tw14014839378434712545:=0
def tw15879440228064625268:=0
def tw12334712178892143881:=0
def tw9482571596611611865:=0
def tw14912565698524970339:=0
def tw11180681512042033328:=0
def tw5584163689083321529:=0
def tw9630640884291473029:=0
def tw5355989199394147342:=0
def tw3839301837675288064:=0
def tw2233389160709118831:=0
def tw2082749371105524256:=0
def tw10000826818851022248:=0
def tw3561411606453733151:=0
def tw2252423303928829174:=0
def tw4855161514889730481:=0
def tw13671198661251750661:=0
def tw11123143093457140043:=0
def tw9381637766877091611:=0
def tw12694801575804811277:=0
def tw9866961350846235041:=0
def tw6441603073228513877:=0
def tw7780255171689955264:=0
def tw749434912167373695:=0
def tw8991379269519084915:=0
def tw2796851806548169126:=0
def tw205295971885739622:=0
def tw7207668136379060587:=0
def tw16735926078750258089:=0
def tw3067911196980265063:=0
def tw6188836614406026746:=0
def tw12213912113846389362:=0
def tw2036331965680138062:=0
def tw1782507889266137109:=0
def tw15761119259489680295:=0
def tw17111132022683561714:=0
def tw1704181058736360223:=0
def tw130166971718871908:=0
def tw9504339295796667232:=0
def tw11475208094108064621:=0
def tw13841102223695593614:=0
def tw9351034238323642294:=0
def tw16462523414465065516:=0
def tw9654622863375612619:=0
def tw7053052387116979481:=0
def tw10738976436595740300:=0
def tw11026945389789585283:=0
def tw4514006623728257822:=0
def tw10832978556743394371:=0
def tw13896126155875228397:=0
def tw5369419494271280191:=0
def tw16607967638525858204:=0
def tw815156759190826336:=0
def tw11927570327878844667:=0
def tw339171644838919005:=0
def tw6649734130925906449:=0
def tw18392419946588854324:=0
def tw5887091926756577282:=0
def tw12827034620080330302:=0
def tw2964868892014634742:=0
def tw11487143003275240381:=0
def tw3127444026983825062:=0
def tw2947245140848595319:=0
def tw8798337560325161309:=0
def tw10692486920283287820:=0
def tw11192915875152429036:=0
def tw9569116963350209681:=0
def tw17503161782423470301:=0
def tw3841001698928062033:=0
def tw10083314144450768081:=0
def tw713211616269864278:=0
def tw9570685526764850060:=0
def tw12960995538070923073:=0
def tw14157082051672232598:=0
def tw10255593009369852710:=0
def tw4056999087901333656:=0
def tw14384921299972866908:=0
def tw17254045670047816705:=0
def tw3631709816942273303:=0
def tw7579550526223666515:=0
def tw9611107419627224619:=0
def tw4596828955149852519:=0
def tw5376752095897484290:=0
def tw10381625993917432870:=0
def tw1878945970319597980:=0
def tw15800007562378924716:=0
def tw1522164998468405058:=0
def tw5855953208582870602:=0
def tw7652514427037372009:=0
def tw2628998940652061679:=0
def tw16991293593951133734:=0
def tw17258054990896486891:=0
def tw816504982509233947:=0
def tw5888344195435113492:=0
def tw12959441643557731795:=0
def tw4104864977119194410:=0
def tw18110770460918816801:=0
def tw9907730796670872201:=0
def tw15162165772275285502:=0
def tw4210473148276438346:=0
def tw15035861301077104340:=0
def tw3277172822221534901:=0
def tw6885080966086073221:=0
def tw15490541983405186825:=0
def tw11726459995972820402:=0
def tw385912259243960001:=0
def tw10318194745132355547:=0
def tw2758604214730720608:=0
def tw4383171284765576801:=0
def tw3932837732833624254:=0
def tw17139773447595079249:=0
def tw12067543240214352889:=0
def tw754817147951962975:=0
def tw7073814225767190660:=0
def tw7703559616040759869:=0
def tw13787161583623834998:=0
def tw5001225583039149965:=0
def tw17646755950686697537:=0
def tw7211138339165937484:=0
def tw6161535745128622218:=0
def tw810536019785606749:=0
def tw6735719181188064684:=0
def tw10759801887489193055:=0
def tw6746227491270239912:=0
def tw18360312246425166328:=0
def tw1309427683407035185:=0
def tw684622118545901702:=0
def tw4194258943178036849:=0
def tw18307622622893283065:=0
def tw10177006735395359629:=0
def tw832342203426422670:=0
def tw3977100457911310274:=0
def tw4422525807779916825:=0
def tw10854853762368934785:=0
def tw4868249957386096053:=0
def tw13161099251302517136:=0
def tw7904889372389263088:=0
def tw5742954796472488296:=0
def tw17053147274625967983:=0
def tw11441664113660895809:=0
def tw2952191311347363710:=0
def tw7890030681021158416:=0
def tw8863115305984507355:=0
def tw8374912161333015631:=0
def tw17606217795878160083:=0
def tw11698649196506513137:=0
def tw7375919501268343624:=0
def tw15297283652368080099:=0
def tw16038372931158593286:=0
def tw15634575636221439080:=0
def tw4468133148433206410:=0
def tw6743669753519686451:=0
def tw9616316822319684754:=0
def tw8416732536357825668:=0
end PySem.W.Fast
open PySem PySem.W PyProof.Rows
set_option maxRecDepth 100000 in
set_option maxHeartbeats 0 in
theorem PySem.Challenge.cw_skewread_k65_whole_mendings_in_order_holds : PySem.Challenge.rw_skewread_k65_whole_mendings_in_order.Holds := by
  w_on; o_law; k_head; (case hw=>w_witness2)
  k_fill
  refine K65.walk (l:=PySem.Challenge.rw_skewread_k65_whole_mendings_in_order) rfl rfl (fun w h Y=>PySem.W.km_in_of Y) (fun w h Y=>PySem.W.km_tabs_of Y _ (by k_mem)) ?hpk ?F
  case hpk=>exact fun w=>by kernel_rfl
  case F =>
    intro w mg fa h KX G hmg
    refine' K65.all_mk KX G hmg ?aC ?gx_NoSign ?gx_NoReading ?gx_TooMany ?gx_Family ?h0 ?h1 ?h2 ?h3 ?h4 ?h5 ?h6 ?h7 ?h8 ?h9 ?h10 ?a11 ?l11 ?c11 ?k11 ?n11 ?h12 ?h13 ?h14 ?h15 ?h16 ?h17 ?h18 ?h19 ?h20 ?h21 ?h22 ?h23 ?h24 ?h25 ?h26 ?h27 ?h28 ?h29 ?h30 ?h31 ?h32 ?h33 ?h34 ?h35 ?h36 ?h37 ?h38 ?h39 ?h40 ?h41 ?h42 ?h43 ?xc_NoSign ?xin_NoSign ?xna_at_NoSign ?xc_NoReading ?xin_NoReading ?xna_at_NoReading ?xc_TooMany ?xin_TooMany ?xna_most_TooMany ?xca_TooMany ?xca_NoSign ?xca_NoReading ?mtt ?mss ?msr ?mrs ?mrr ?cl_Family ?mk_Family ?na_codes_by_name_Family ?na_marks_by_name_Family ?hd ?cl ?mk ?y_pairs ?y_words_by_sign ?y_signs_by_word ?y_begun ?y_word_sizes ?z
    any_goals first | (refine' ⟨?g,L2.Zjh ?l ?c ?k⟩; (case g=>k_is); (case l=>k_is); (case c=>k_is); case k=>k_is) | (refine' ⟨?g,?n,L2.Zjh ?l ?c ?k⟩; (case g=>k_is); (case n=>k_is); (case l=>k_is); (case c=>k_is); case k=>k_is) | k_is | kernel_rfl | (first | apply L2.Cls.mk | apply L2.MkG.mk | apply L2.XCl.mk | apply L2.CaG.mk) <;> first | k_is | kernel_rfl
#print axioms PySem.Challenge.cw_skewread_k65_whole_mendings_in_order_holds