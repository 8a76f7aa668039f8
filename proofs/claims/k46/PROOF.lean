import PyProof.Rows.All
import Wide.All
import OpenK.AllK
import Wide.FinOn
import Lean
import PyProof.EqAt
import PyProof.EqKinds
import PyProof.TupleCall
import PyProof.DictItems
import KE.KPairComp
import KE.KDictList
import PyProof.ListRange
import KE.KUnpack
import KE.KEqDict
import PyProof.DictFindH
import KE.KDictSum
import PyProof.AutoListH
import PyProof.SumAny
import PyProof.Rows.Range3
import KE.KStateDown
import KE.KSortTup
import KE.KLam
import KE.KNestM
import KE.KDictOf
import PyProof.AttrMissHeap
import KE.KRevSl
import PyProof.RaisesMany
import PyProof.ExcInit
import PyProof.ExcClass2
import PyProof.RulesTry
import PyProof.PassesOwn
import OpenK.KOwn
import PyProof.RulesDel
import KE.KIsAll
import PyProof.EnumMake
import PyProof.LayNew
import PyProof.ZipIter
import PyProof.Rows.ZipGen
import KE.KIntText
import KE.KMinKey
import PyProof.SetKind
import PyProof.TupleKey
import PyProof.IsRules
import PyProof.Rows.SetFrom
import PyProof.SetRoads
import PyProof.FactsAll.set
import PySem.Challenge.RW_skewread_k46_whole_misled_or_never
set_option Elab.async false
set_option linter.all false
set_option maxRecDepth 100000
def qp:Nat->Lean.TSyntax `term->Lean.MacroM (Lean.TSyntax `rcasesPat)
 |0,_=>Lean.Macro.throwUnsupported
 |n+1,t=>match t with
  |`(_)=>`(rcasesPat|_)
  |`(⟨$ts,*⟩)=>do
   let ps<-ts.getElems.mapM fun t=>do
    let p<-qp n t
    `(Lean.Parser.Tactic.rcasesPatLo|$p:rcasesPat)
   `(rcasesPat|⟨$ps,*⟩)
  |`($i:ident)=>`(rcasesPat|$i:ident)
  |_=>Lean.Macro.throwUnsupported
theorem rd{α:Sort u}{a p:α->Prop}{w:α}(h:a w)(k:p w):∃x,a x/\p x:=⟨w,h,k⟩
theorem rd2{α:Sort u}{β:Sort v}{a:α->Prop}{b p:α->β->Prop}{w:α}{y:β}(h:a w)(i:b w y)(k:p w y):∃x,a x/\∃z,b x z/\p x z:=⟨w,h,y,i,k⟩
theorem rd3{α:Sort u}{β:Sort v}{γ:Sort t}{a:α->Prop}{b:α->β->Prop}{c p:α->β->γ->Prop}{w:α}{y:β}{v:γ}(h:a w)(i:b w y)(j:c w y v)(k:p w y v):∃x,a x/\∃z,b x z/\∃q,c x z q/\p x z q:=⟨w,h,y,i,v,j,k⟩
def rdw(t:Lean.TSyntax `term):Nat->Lean.MacroM (Lean.TSyntax `term)
 |0=>pure t
 |1=>`(rd rfl $t)
 |2=>`(rd2 rfl rfl $t)
 |n+3=>do
  let r<-rdw t n
  `(rd3 rfl rfl rfl $r)
def rdb(r:Array (Lean.TSyntax `term)):Lean.MacroM (Lean.TSyntax `term):=if h:r.size=1 then pure r[0] else `(⟨$r,*⟩)
local macro_rules | `(def $n:declId $s:optDeclSig $v:declVal)=>`(noncomputable def $n:declId $s:optDeclSig $v:declVal)
local macro_rules | `(abbrev $n:declId $s:optDeclSig $v:declVal)=>`(noncomputable abbrev $n:declId $s:optDeclSig $v:declVal)
open List renaming length_map->Ja,getElem?_eq_getElem->Jb,length_append->Jc,take_succ_eq_append_getElem->Je,map_append->Jf,mem_singleton->Jg,mem_map->Jh,prefix_refl->Ji,getElem?_eq_some_iff->Jj,mem_cons_of_mem->Jk,mem_cons_self->Jl,size_toArray->Jm,getElem_mem->Jn,map_cons->Jo,append_nil->Jp,getElem?_map->Jq,mem_append_right->Js,mem_cons->Jt,length_cons->Jv,take_length->Jw,getD_eq_getElem?_getD->Jx,mem_filter->Jz,getElem?_append_left->J0,length_take->J8,mem_append->J9,getElem_of_mem->Gb,prefix_append->Gc,getElem?_set_self->Ge,filter_cons->Gf,append_assoc->Gg,map_map->Gh,length_pos_iff->Gi,filter_append->Gj,pairwise_map->Gm,length_drop->Gn,getElem?_append_right->Go,mem_of_getElem?->Gq,length_set->Gs,getElem_map->Gv,mem_append_left->Gw,getElem?_set_ne->Gx,prefix_append_right_inj->G0,lookup_cons->G1,replicate_succ->G3,length_range->G9,length_singleton->Ba,nodup_cons->Bb,length_eq_zero_iff->Bd,take_of_length_le->Be,find?_cons->Bg,pairwise_iff_getElem->Bh,take_append_drop->Bi,getElem?_eq_none->Bj,mem_of_mem_take->Bl,flatten_cons->Bn,length_nil->Bo,getElem_inj->Br,mem_range->Bs,take_zero->Bu,drop_eq_getElem_cons->Bw,nil_prefix->Bx,map_take->By,take_prefix->Bz,mem_filterMap->B0,filter_nil->B3,any_cons->B4,length_filter_le->B5,drop_zero->B7,any_eq_true->B8,map_eq_nil_iff->Fb,zip_cons_cons->Fe,take_left->Fh,drop_left->Fi,map_drop->Fj,replicate->Co,range->Cv,prefix_or_prefix_of_prefix->Hj,mem_or_eq_of_mem_set->Ko,lookup->Kp,getElem?_take_of_lt->Kq,take->K0,length->K7,ext_getElem?->La,set_append_right->Lg,filterMap_cons->Lu,range_succ->L5,getElem_range->Mf,getElem?_take->Mg,getElem?_replicate->Mw,pairwise_singleton->Ja0,cons_append->Ja9,map_reverse->Jb0,of_mem_zip->Jc2,mem_of_mem_drop->Jdn,toList_toArray->Jdv,push_toArray->Jet,reverse_perm->Jey,map_nil->Je6,set_set->Je8,countP_cons->Jfd,map_snd_zip->Jfe,mem_nil_iff->Jfh,forIn_cons->Jft,foldl->Jgv
open Nat renaming le_refl->Jd,zero_le->Ju,le_trans->Jy,lt_of_lt_of_le->Ga,ne_of_lt->Gd,not_lt_zero->Gp,add_sub_cancel->Gy,le_succ->G2,lt_of_le_of_lt->G4,lt_irrefl->G5,lt_succ_self->Bc,le_of_lt->Bp,le_of_eq->Bq,min_eq_left->B2,ne_of_gt->Ff,succ_pos->Fg,lt_succ_of_lt->Mq,min_le_right->Ja8,zero_add->Jc4,mul_le_mul_right->Jdo,sub_zero->Je7,min_eq_right->Jff,succ_lt_succ->Jfg,succ_mul->Jhm,add_comm->Jhn,add_mul->Jib
open Bool renaming false_ne_true->Jr,false_eq_true->Gk,and_eq_true->G6,not_eq_true->Bk,false_and->B6,true_and->Fc,eq_iff_iff->Fd,not_eq_true'->Kf,beq_eq_decide_eq->Jdb,and_false->Jgf,false_or->Jg8,not_true->Jhd
open Int renaming emod_lt_of_pos->Gr,eq_ofNat_of_zero_le->Gu,emod_nonneg->Gz,toNat_natCast->G8,zero_add->B9,mul_le_mul_of_nonneg_left->Lj,le_refl->M8,natCast_add->Jc8,natCast_nonneg->Jeg,mul_one->Jfn,mul_sub->Jfy,le_trans->Jhp,le_of_lt->Jhq,mul_pos->Jh9
open Array renaming length_toList->G7,getElem?_eq_some_iff->Bf,perm_iff_toList_perm->Bt,getElem?_setIfInBounds_self->Bv,getD_eq_getD_getElem?->L4,find?_toList->Mb,getElem?_toList->Jc7,getD->Jdg,toList_append->Jdw,forIn_toList->Jea,toList->Jez
open Option renaming map_some->B1,getD_some->Li,isSome_map->Mp,isNone_none->Jec,getD_none->Jfb,map->Jih
open PySem renaming wpAny_bind->Fo,wpAny_pure->Fp,boot_len->F6,wpAny_mono->F7,wpAny_letGo->F8,Value->Ca,sizeLine->Cb,Shared->Cc,wpAny->Cd,starEach->Cj,model->Ck,mainGlobals->Ct,wpAny_holding->Cy,plainId_quiet->C4,wpAny_tryCatch->Eb,codeAny_builtin->Ef,wpAny_updateSeq->Eg,wpAny_loadPart'->Eh,sizeLine_eq->Ei,wpAny_Call_Name_kw->Ej,compareOp->Eo,wpAny_truthy_bool->Ep,Program->Ez,wpAny_pyIter_list->E2,wpAny_loadPart_at->E4,NameKind->E5,sysModules->E6,wpAny_standAt->E7,cLine->E9,binaryOp->Hd,wpAny_passesOwn->He,wpAny_newObj_type->Hh,codeAny_mono->Hl,World->Hm,codeAny->Ho,keywordEach->Hq,mem_of_lookup->Hr,wpAny_getItem_str_slice->Hs,backTo->Ht,tupleKind_room_in1->Hu,Within->Hv,holding->Hw,wpAny_execs_nil->Hy,rawInt->Hz,behindInMarks->Ke,wpAny_newList->Kh,Around->Kj,wpAny_typeOf->Ks,wpAny_rule->Kt,getattributeRaised->Kx,seqItems?->Ky,plainObj_wpAny_Assign_Attribute->K5,wpAny_call->K6,wpAny_field->K8,sliceBounds->K9,bootBuiltins->Lb,wpAny_call_entry->Lh,attributeBase->Ll,backToKw->Lm,call_meets->Lr,standAt->Lv,getItem->Lw,pyNext->Lx,letOwnedTupleGo->Ly,getMethod->Lz,post_val_or_str->L0,wpAny_newFunctionEnv_cells->L8,FuncData->Md,tupleKind->Mi,swapsWith->Mj,assignEach->Ml,foldedSetIterable->Mm,wpAny_getItem_list_slice->Mo,wpAny_comprehension_free->Mr,wpAny_pyNext_tuple_item->Mv,wpAny_callSpecial?_slot->Mx,subscripted->Mz,ExceptHandler->Ja3,wpAny_execs_cons->Ja4,wpAny_lookBehind->Ja5,pastItsLine_dict->Ja6,noFill_tuple_add->Ja7,wpAny_pyNext_list_item->Jb1,wpAny_pyNext_tuple_end->Jb2,wpAny_isTrue_Compare1->Jb9,wpAny_pyNext_list_end->Jcz,Result->Jc0,noteFrame->Jc3,builtinLookup_eq_fast->Jc6,setFlight->Jc9,builtinsNs->Jdd,bindArgs->Jde,typeLookup->Jdf,wpAny_loadName_local->Jdi,codeAny_call_builtin->Jdk,wpAny_setFlight_none->Jdl,wpAny_loadName_cell->Jds,wpAny_isSubtype_exc->Jdy,wpAny_pyIter_tuple->Jd0,callWith->Jd4,IsPart->Jd5,evalPart_none->Jd7,Fin->Jd9,sub_AttributeError->Jeb,wpAny_tupleItemsOf->Jee,Addr->Jeh,wpAny_assign_Name->Jei,wpAny_load->Jej,BindsTo->Jem,wpAny_sequenceKey->Jen,valueAt->Jep,callerA->Jeq,closureFor->Jes,wpAny_pyIter_enum->Jew,assign->Je0,wpAny_nsSet1->Je1,seqIndex_neg->Je5,wpAny_eqBool_int->Je9,wpAny_Dict_empty->Jfc,Str->Jfj,Keyword->Jfq,seqIndex_of->Jfr,codeAmong->Jfw,typeLookup_type->Jfx,wpAny_Name->Jgg,typeIs_str->Jgt,typeIs_int->Jgu,call->Jgw,isInstance->Jg1,Operator->Jg3,getAttr?->Jha,storeName->Jhi,CmpOp->Jhj,cellsFrom->Jhl,atKey->Jho,Model->Jhx,setItem->Jhz,setAttr->Jh0,bindL->Jh2,bindC->Jh3,leaving->Jh4,operate->Jh5,relabel->Jh6,Stmt->Jid,Expr->Jie,Obj->Jik
open PySem.Heap renaming get?_push_of_some->Fs,get?_push_size->Ft,lt_size->Fu,get?_update_self->Cu,get?_update_other->Cw,size_push->El,SameBut->Hk,get?_none_of_le->Lk,get?_push_cases->Jdm,MadeExcOf->Jdp,get?_push_ne->Jeu,NewExcOf->Jg9
open Option.some renaming inj->Fz,injEq->Jev
open Or renaming inl->Cg,inr->C5
open PySem.Value renaming ref->Ch,int->C0,bool->Lq,str->Jb8,float->Jfk,isStrOf->Jg2,builtin->Jhb,isInt->Jhv,bytes->Jhw,type->Jif
open PySem.Str renaming ofString->Ci,empty->Jd2
open PySem.PassesOwn renaming never->Cm
open PyProof.Rows renaming boot_list->Cp,slot_tuple_getitem->C8,boot_tuple->Ec,boot_max->E8,envOfC->Hf,callWith_type1->Ka,seqObj->Kb,boot_min->Kc,IntsAre->Kv,boot_dict->K4,boot_isinstance->Lp,boot_sorted->Ms,AllBare->Mu,subscriptTail->My,listUpdate_at->M9,subscriptTail_builtinR->Jb3,get?_update_seq->Jc5,boot_int->Jdc,entry_tuple_getitem->Jdt,lt_int->Jdu,Constant_none->Jdz,args_tuple_getitem->Jd6,Subscript_->Jeo,callWith_builtin1->Je4,entry_list_sort->Jfv,size_push'->Jgx,join_ones->Jhg,boot_bool->Jhh,boot_abs->Jht,gt_int->Jh8
open False renaming elim->Cq
open PySem.W renaming Frag->Cr,findIn->Ed,kia_one->Kl,fnOf->Lc,codeIn->Ln,instObj->Ls,mroIn->L7,keepIn->Mc,callWith_K->Me,methodCall_KW->Jc1,codeHdIn->Jdh,plainGet_of->Jd1,codeHd_of_K->Jef,plainGet->Jek,cellsFrom_some->Jfa,methodObj->Jfl,hasDictIn->Jfo,set_plain->Jfp,looks_mroIn->Jfz,isNs_of_in->Jg0,lookIn->Jg5,kitOne->Jg6,callWith_K0->Jg7,tabObj->Jhe,takerIn->Jhk,OpenLaw->Jhs,nsIn->Jhu,kas_rev->Jh7,typeIn->Jic
open PySem.Around renaming under_plainId->Cs,under->Je2
open PySem.F renaming plainAttrs_list->Cz,slot_list_append->C9,type_list_append->Ea,plain_max_loop->Et,args_tuple_add_2->Kr,entry_tuple_add->Ku,slot_tuple_add->K1,slot_dict_get->Ld,args_dict_get_2->M7,entry_dict_get->Jb4,entry_max_loop->Jb5,slot_list_extend->Jda,slot_int_rmul->Jfs,slot_tuple_lt->Jf0
open PySem.PyData renaming eqv->C1,strOk->C6,canLayAll0->Em,eqvAll->E1,canLay0->Hb,depthAll->Hi,int->Kg,depth->Le,list->Jia
open PySem.Heap.SameBut renaming update->C2
open PySem.Builtin.Builtins renaming bindParams->C3
open PySem.Obj renaming mapSeq->C7,isFreed_of_fields->Lf,mapFields->Ja2,data_mapFields->Jed
open Ne renaming symm->Ee
open PySem.NameKind renaming free->Ek,cell->Lo
open PySem.SeqAt renaming shaped->Er,EqAt->Ki
open True renaming intro->Es
open Sum renaming inl->Eu,inr->Jb7
open ToString renaming toString->Ew
open PySem.Builtin.List renaming listTooLong->Ey
open PySem.Builtin.Slice renaming slicePlaces->Ha,sliceAdjust->Km,sliceApplied->L9,slicePartIndex->Jfi,sliceFields->Jge
open PySem.Builtin.Tuple renaming tupleExact->Hg,tupleItemsOf->Ma,tupleHashOf->Mh,tupleCompareSizes->Jex,tupleIsExact->Jf2
open PySem.Builtin.Str renaming strSliceIndices->Kd,glued->Jii
open PySem.W.KasT renaming kasWp_bind->Kw
open PySem.Code renaming quiet_builtin->Kz,isFrame->Je3,frames->Jh1
open PySem.Calls renaming callWith_builtin->K2,Name_function_global->L6,evalArgs_plain->Jdj,spliced_cons->Jd3,spliced_nil->Jel
open PySem.Within renaming cons->Mn
open PySem.AutoSeq1 renaming wpAny_loadPart'->Mt,sub_list_list->Jb6
open PySem.Builtin.Dict renaming updateFrom->Ja1,addKeywords->Jgy,selfAndRest->Jgz,pairItems->Jhf
open Sum.inl renaming inj->Jdq
open Sum.inr renaming inj->Jdr
open PySem.EntryCells renaming newEntry->Jdx
open PySem.Heap.IsSliceOf renaming new->Jd8
open List.Pairwise renaming nil->Jer,sublist->Jhr
open PySem.Data renaming fields->Jfm
open ForInStep renaming yield->Jfu
open PyProof.Rows.LSm renaming kept_iter->Jf1
open List.IsPrefix renaming eq_of_length->Jf3
open PySem.EqNone renaming eq_none_none->Jf4,eq_none_bool->Jf5,eq_bool_none->Jf6,ne_none_none->Jf9,ne_none_bool->Jga,ne_bool_none->Jgb,eq_none_int->Jgh,eq_none_str->Jgi,eq_int_none->Jgj,eq_str_none->Jgl,ne_none_int->Jgn,ne_none_str->Jgo,ne_int_none->Jgp,ne_str_none->Jgr
open PySem.EqMixed renaming eq_bool_str->Jf7,eq_str_bool->Jf8,ne_bool_str->Jgc,ne_str_bool->Jgd,eq_int_str->Jgk,eq_str_int->Jgm,ne_int_str->Jgq,ne_str_int->Jgs
open PySem.Builtin.Range renaming rangeSize->Jg4
open PySem.Shared renaming TypeIs->Jhc
open PySem.CmpOp renaming NotIn->Jhy
open PySem.W.WShape renaming has->Jig
open List.Sublist renaming refl->Jij
open PySem.Heap.DictOf renaming new->Jil
open PySem.W.WData renaming int->Jim
theorem Fk:type_of% @of_decide_eq_true:=@of_decide_eq_true
def Fl:type_of% @absurd:=@absurd
theorem Fm:type_of% @of_decide_eq_false:=@of_decide_eq_false
theorem Fn:type_of% @decide_eq_true_iff:=@decide_eq_true_iff
theorem Fv:type_of% @if_neg:=@if_neg
theorem Fw:type_of% @if_pos:=@if_pos
theorem Fx:type_of% @decide_eq_true:=@decide_eq_true
theorem Fy:type_of% @decide_eq_false:=@decide_eq_false
local macro_rules | `(tactic| rfl')=>`(tactic| refine ⟨rfl,rfl,rfl,?_,rfl,?_,?_⟩<;>decide +kernel)
local macro_rules | `(nofun)=>`(term| by decide)
local macro_rules | `(tactic| exists $es,*)=>do
 let mut a:Array (Lean.TSyntax `term):=#[]
 for e in es.getElems do
  if e.raw.isOfKind ``Lean.Parser.Term.cdot then a:=a++#[<-`(_),<-`(rfl)] else a:=a.push e
 let mut r:Array (Lean.TSyntax `term):=#[]
 let mut c:=0
 for e in es.getElems.reverse do
  if e.raw.isOfKind ``Lean.Parser.Term.cdot then
   if r.isEmpty then r:=#[<-`(_),<-`(rfl)] else c:=c+1
  else if c=0 then r:=#[e]++r
  else
   r:=#[e,<-rdw (<-rdb r) c]
   c:=0
 let t<-rdw (<-rdb r) c
 `(tactic| first | refine $t | refine ⟨$a,*⟩)
local macro_rules |`(tactic|let $d:letDecl)=>match d with
 |`(Lean.Parser.Term.letDecl|$p:term:=$e:term)=>do
  let q<-qp 9 p
  `(tactic|obtain $q:rcasesPat:=$e:term)
 |_=>`(tactic|have $d:letDecl)
local macro_rules |`(())=>`(by lia)
variable{s:Cc}{C ea Zd Pt it l dx Zs fI Cl P2:Jeh}{α α' fp:List Jeh}{w:PySem.World}{K K':PySem.W.Frag}{fd:PySem.FuncData}{pq:List (Jeh×Jik)}{A:PySem.Around}{pos kpos apos pos' cpos:PySem.Pos}{P prog:PySem.Program}{i t' x1 lg:Nat}{h h':PySem.Heap}{E:Ca->Cc->Prop}{mg mA:Jfj->Option Ca}{ps N T:List Jfj}{ns ts:List Int}{τ κ β:Type}{ws rs:List (List Int)}{us its:List Ca}{st:Jid}{qual q:Jfj}{es elts:List Jie}{cs:List Nat}{oe:Jik}{tg value:Jie}{B:Prop}{pm doc cdv ct oc:Ca}{lo hi:Option Int}{body:List Jid}{kw:List (Jfj×Ca)}{an od T0:Option Jeh}{osl:Array (Option Ca)}
namespace L2
open PySem PySem.Spec PyProof.Rows
abbrev Key:=Sum Int Str
def Nq:Key->Ca->Bool
 |.inl k,v=>Jhv k v
 |.inr x,v=>Jg2 x v
def keyH(w:Hm):Key->Int
 |.inl k=>hashInt k
 |.inr x=>hashStr w x
theorem Yh:∀{k:Key}{v:Ca},Nq k v=true->(∃i t,k=Eu i/\v=C0 i t)\/(∃x t,k=Jb7 x/\v=Jb8 x t)
 |.inl i,v,h=>by
  let⟨t,e⟩:=Ca.isInt_shape (k:=i) (v:=v) h;exact .inl ⟨i,t,rfl,e⟩
 |.inr x,v,h=>by
  let⟨t,e⟩:=Ca.isStrOf_shape (x:=x) (v:=v) h;exact .inr ⟨x,t,rfl,e⟩
def Zin(i:Int)(t:Tok):Nq (.inl i) (.int i t)=true:=by simp[Nq,Jhv]
def Zim(x:Str)(t:Tok):Nq (.inr x) (.str x t)=true:=by simp[Nq,Jg2]
def Zte(a b:Int):decide ((Eu a:Key)=Eu b)=(a==b):=by
 by_cases e:a=b
 .subst e;simp
 .let h:¬ (Eu a:Key)=Eu b:=λq=>e (Jdq q);rw[Fy h];exact(beq_eq_false_iff_ne.mpr e).symm
def Ztb(a b:Str):decide ((Jb7 a:Key)=Jb7 b)=decide (a=b):=by
 by_cases e:a=b
 .subst e;simp
 .let h:¬ (Jb7 a:Key)=Jb7 b:=λq=>e (Jdr q);rw[Fy h,Fy e]
def Ztd(a:Int)(b:Str):decide ((Eu a:Key)=Jb7 b)=false:=Fy (λq=>nomatch q)
def Ztc(a:Str)(b:Int):decide ((Jb7 a:Key)=Eu b)=false:=Fy (λq=>nomatch q)
def Yt(prog:Ez)(w:Hm):PySem.KeyKind prog w Key where
 is:=Nq
 hash:=keyH w
 inj:=λv a b ha hb=>by
  rcases Yh ha with⟨i,t,rfl,rfl⟩|⟨x,t,rfl,rfl⟩
  .rcases Yh hb with⟨j,u,rfl,e⟩|⟨y,u,rfl,e⟩
   .injection e with e1 _;rw[e1]
   .exact nomatch e
  .rcases Yh hb with⟨j,u,rfl,e⟩|⟨y,u,rfl,e⟩
   .exact nomatch e
   .injection e with e1 _;rw[e1]
 byValue:=λk v h=>by
  rcases Yh h with⟨i,t,rfl,rfl⟩|⟨x,t,rfl,rfl⟩<;>rfl
 pyHash:=λhv h=>by
  rcases Yh hv with⟨i,t,rfl,rfl⟩|⟨x,t,rfl,rfl⟩
  .exact wpAny_pyHash_int h
  .exact wpAny_pyHash_str h
 eqBool:=λhu hv h=>by
  rcases Yh hu with⟨i,t,rfl,rfl⟩|⟨x,t,rfl,rfl⟩
  .rcases Yh hv with⟨j,u,rfl,rfl⟩|⟨y,u,rfl,rfl⟩
   .rw[Zte]at h;exact Je9 h
   .rw[Ztd]at h;exact SeqAt.EqAt.int_str i t y u _ _ _ _ h
  .rcases Yh hv with⟨j,u,rfl,rfl⟩|⟨y,u,rfl,rfl⟩
   .rw[Ztc]at h;exact SeqAt.EqAt.str_int x t j u _ _ _ _ h
   .rw[Ztb]at h;exact wpAny_eqBool_str h
 «strs»:=λk x t v h=>by
  rcases Yh h with⟨i,u,rfl,e⟩|⟨y,u,rfl,e⟩
  .exact nomatch e
  .injection e with e1 _
   subst e1;cases v<;>rfl
def Zcq(prog:Ez)(w:Hm)(i:Int)(t:Tok):(Yt prog w).is (.inl i) (.int i t)=true:=Zin i t
def Zcp(prog:Ez)(w:Hm)(x:Str)(t:Tok):(Yt prog w).is (.inr x) (.str x t)=true:=Zim x t
inductive V where
 |non|bl (b:Bool)|int (i:Int)|str (x:Str)|byt (b:Array UInt8)|flt (b:UInt64)|ref (a:Addr)|ty (n:String)
 deriving DecidableEq
variable{v:L2.V}{vs xs ys:List L2.V}{kvs:List (List L2.Key×L2.V)}
def RelV:V->Ca->Prop
 |.non,u=>u=Ca.none
 |.bl b,u=>u=Lq b
 |.int i,u=>∃t,u=C0 i t
 |.str x,u=>∃t,u=Jb8 x t
 |.byt b,u=>∃t,u=Jhw b t
 |.flt b,u=>∃t,u=Jfk b t
 |.ref a,u=>u=Ch a
 |.ty n,u=>u=Jif n
abbrev Vals:List V->List Ca->Prop:=Paired RelV
def Vals.length(r:Vals xs us):xs.length=us.length:=Paired.length r
theorem Vals.get:∀{xs:List V}{us:List Ca}{i:Nat}{x:V},Vals xs us->xs[i]?=some x->∃u,us[i]?=some u/\RelV x u
 |_,_,_,_,.nil,e=>by simp at e
 |_,_,0,_,.cons r _,e=>by simp at e;subst e;exists ·,r
 |_,_,i+1,x,.cons _ t,e=>by
  let⟨u,h1,h2⟩:=Vals.get (i:=i) (x:=x) t (by simpa using e);exists u,by simpa using h1,h2
theorem Vals.set{x:V}{u:Ca}(r:RelV x u):∀{xs:List V}{us:List Ca}(i:Nat),Vals xs us->Vals (xs.set i x) (us.set i u)
 |_,_,_,.nil=>.nil
 |_,_,0,.cons _ t=>.cons r t
 |_,_,i+1,.cons q t=>.cons q (Vals.set r i t)
theorem Vals.append:∀{xs ys:List V}{us ws:List Ca},Vals xs us->Vals ys ws->Vals (xs++ys) (us++ws):=by
 intro _ _ _ _ hz9 s;cases hz9 with
 |nil=>
  exact s
 |cons r t=>
  exact .cons r (Vals.append t s)
theorem Vals.take:∀{xs:List V}{us:List Ca}(n:Nat),Vals xs us->Vals (xs.take n) (us.take n)
 |_,_,0,_=>.nil
 |_,_,_+1,.nil=>.nil
 |_,_,n+1,.cons r t=>.cons r (Vals.take n t)
theorem Vals.drop:∀{xs:List V}{us:List Ca}(n:Nat),Vals xs us->Vals (xs.drop n) (us.drop n)
 |_,_,0,r=>r
 |_,_,_+1,.nil=>.nil
 |_,_,n+1,.cons _ t=>Vals.drop n t
def RelO:Option V->Option Ca->Prop
 |some v,some u=>RelV v u
 |none,none=>True
 |_,_=>False
def KV :List (κ×V)->List (κ×Ca)->Prop:=Paired λ(p:κ×V)(q:κ×Ca)=>p.1=q.1/\RelV p.2 q.2
def kV:Key->V
 |.inl i=>.int i
 |.inr x=>.str x
def Up(h:Heap)(a:Addr)(items:Array Ca):Prop:=∃o,h.get? a=some o/\o.cls=.type "tuple"/\∃n,o.data=.seq items n/\o.dict=none
def Up.tup{h:Heap}{a:Addr}{items:Array Ca}(x:Up h a items):IsTup h a items:=let⟨o,e,c,n,d,_⟩:=x;⟨o,e,c,n,d⟩
def Up.new(h:Heap)(items:Array Ca):Up (h.push {cls:=.type "tuple",data:=.seq items}) h.objs.size items:=⟨_,Ft _ rfl,rfl,_,rfl,rfl⟩
def Up.lt{a:Addr}{items:Array Ca}(x:Up h a items):a<h.objs.size:=let⟨_,e,_⟩:=x;Fu e
inductive HO where
 |lst (xs:List V)
 |tup (xs:List V)
 |dK (kvs:List (Key×V))|dT (kvs:List (List Key×V))
 |set (S:Int->Bool) (n:Nat)
 |ins (C dx:Addr) (fs:List (Str×V))
 |own (x:Addr)
 |xd (fs:List (Str×V))
 |met (f x:Addr)
 |rng (lo hi:Int)
 |frz (o:Obj) (u:HO)
 |tbl (ps:Array Ca)
 |ext (φ:Heap->Prop)
variable{o:L2.HO}
abbrev Hp:=Addr->Option HO
variable{H I H' I' H1 H2:L2.Hp}
def upd(H:Hp)(a:Addr)(o:HO):Hp:=λb=>if b=a then some o else H b
def Zh{a:Addr} :upd H a o a=some o:=by unfold upd;rw[if_pos rfl]
def Zo{a b:Addr}(h:b≠a):upd H a o b=H b:=by unfold upd;rw[if_neg h]
def Zf8{a:Addr}{u:HO}:upd (upd H a o) a u=upd H a u:=by
 funext b;unfold upd;split<;>rfl
def Rj{a b:Addr}{u:HO}(h:H a=some o)(h':H b=some u)(d:o≠u):a≠b:=by
 intro e;subst e;rw[h]at h';exact d (Fz h')
def Zq{a b:Addr}(h:H a=some o)(h':H b=none):a≠b:=by
 intro e;subst e;rw[h]at h';cases h'
section
variable(P:Ez)(w:Hm)
def Y3(H:Hp)(h:Heap)(a:Addr):HO->Prop
 |.lst xs=>xs.length<=Cb/\∃(its:List Ca)(n:Nat),Vals xs its/\h.get? a=some {cls:=.type "list",data:=.seq its.toArray n}
 |.tup xs=>xs.length<=Cb/\∃its:List Ca,Vals xs its/\Up h a its.toArray
 |.dK kvs=>kvs.length<=Cb/\(a==E6)=false/\∃vs,KV kvs vs/\h.DictOf (Yt P w) a vs
 |.dT kvs=>kvs.length<=Cb/\(a==E6)=false/\∃xs:List (List Key×Addr×Ca),
   Paired (λ(p:List Key×V)(q:List Key×Addr×Ca)=>p.1=q.1/\H q.2.1=some (.tup (p.1.map kV))/\RelV p.2 q.2.2) kvs xs /\
   ∃o es ep,h.get? a=some o/\o.ExactDict/\o.data=.dict es ep/\es.toList=xs.map (entryOfKey (Mi (Yt P w)))/\(xs.map (·.1)).Nodup
 |.set S n=>h.SetOf (intKind P w) a S n
 |.ins C dx fs=>H dx=some (.own a)/\fs.length<=1000/\dx≠a/\h.get? a=some (Ls C dx) /\
   ∃mA,h.Ns1 dx mA/\(∀f,RelO (fs.lookup f) (mA f))/\Hv mA (fs.map (·.1))
 |.own _=>∃o,h.get? a=some o
 |.xd fs=>∃mA,h.Ns1 a mA/\∀f,RelO (fs.lookup f) (mA f)
 |.rng lo hi=>∃t u v,h.get? a=some {cls:=.type "range",data:=.fields #[.int lo t,.int hi u,.int 1 v]}
 |.frz o u=>h.get? a=some o/\Y3 H h a u
 |.tbl ps=>h.get? a=some {cls:=.none,data:=.fields ps}
 |.met f x=>h.get? a=some (Jfl (.ref f) (.ref x))
 |.ext φ=>φ h/\(∃o,h.get? a=some o)/\∀h1 h2:Heap,φ h1->(∀o,h1.get? a=some o->h2.get? a=some o)->φ h2
def HOk(H:Hp)(h:Heap):Prop:=∀a o,H a=some o->Y3 P w H h a o
end
section
variable{a:Addr} 
theorem Y3.lt(x:Y3 P w H h a o):a<h.objs.size:=by
 cases o with
 |lst xs=>obtain⟨_,_,_,_,e⟩:=x;exact Fu e
 |tup xs=>obtain⟨_,_,_,p⟩:=x;exact p.lt
 |dK kvs=>obtain⟨_,_,_,_,o,_,_,e,_⟩:=x;exact Fu e
 |dT kvs=>obtain⟨_,_,_,_,o,_,_,e,_⟩:=x;exact Fu e
 |set S n=>obtain⟨o,_,_,_,e,_⟩:=x;exact Fu e
 |ins C dx fs=>obtain⟨_,_,_,e,_⟩:=x;exact Fu e
 |own y=>obtain⟨_,e⟩:=x;exact Fu e
 |xd fs=>obtain⟨_,⟨_,_,_,e,_⟩,_⟩:=x;exact Fu e
 |rng lo hi=>obtain⟨_,_,_,e⟩:=x;exact Fu e
 |frz ob u=>obtain⟨e,_⟩:=x;exact Fu e
 |tbl ps=>exact Fu (show h.get? a=some _ from x)
 |met f y=>exact Fu (show h.get? a=some _ from x)
 |ext φ=>obtain⟨_,⟨_,e⟩,_⟩:=x;exact Fu e
theorem Paired.mapP{α:Type}{F G:α->β->Prop}:∀{l₁:List α}{l₂:List β},Paired F l₁ l₂->(∀a b,F a b->G a b)->Paired G l₁ l₂
 |_,_,.nil,_=>.nil
 |_,_,.cons r t,f=>.cons (f _ _ r) (Paired.mapP t f)
theorem Y3.stay(x:Y3 P w H h a o)(k:∀b u,(b=a\/H b=some (.own a))->h.get? b=some u->h'.get? b=some u)(ho:∀b,H b=some (.own a)->H' b=some (.own a))(ht:∀b xs,H b=some (.tup xs)->H' b=some (.tup xs)):Y3 P w H' h' a o:=by
 induction o with
 |lst xs=>obtain⟨z,its,n,r,e⟩:=x;exists z,its,n,r,k _ _ (.inl rfl) e
 |tup xs=>obtain⟨z,its,r,ob,e,c⟩:=x;exists z,its,r,ob,k _ _ (.inl rfl) e,c
 |dK kvs=>obtain⟨z,y,vs,r,ob,es,ep,e,c⟩:=x;exists z,y,vs,r,ob,es,ep,k _ _ (.inl rfl) e,c
 |dT kvs =>
  let⟨z,y,xs,r,ob,es,ep,e,c⟩:=x;exists z,y,xs,Paired.mapP r λp q z=>⟨z.1,ht _ _ z.2.1,z.2.2⟩,ob,es,ep,k _ _ (.inl rfl) e,c
 |set S n=>obtain⟨ob,es,ep,t,e,c⟩:=x;exists ob,es,ep,t,k _ _ (.inl rfl) e,c
 |ins C dx fs =>
  let⟨d,z,ne,e,mA,⟨od,es,ep,e2,c⟩,r⟩:=x;exists ho _ d,z,ne,k _ _ (.inl rfl) e,mA,⟨od,es,ep,k _ _ (.inr d) e2,c⟩,r
 |own y=>obtain⟨ob,e⟩:=x;exists ob,k _ _ (.inl rfl) e
 |xd fs=>obtain⟨mA,⟨od,es,ep,e,c⟩,r⟩:=x;exists mA,⟨od,es,ep,k _ _ (.inl rfl) e,c⟩,r
 |rng lo hi=>obtain⟨t,u,v,e⟩:=x;exists t,u,v,k _ _ (.inl rfl) e
 |frz ob u ih=>obtain⟨e,q⟩:=x;exists k _ _ (.inl rfl) e,ih q
 |tbl ps =>
  let e:h.get? a=some {cls:=.none,data:=.fields ps}:=x;show h'.get? a=some {cls:=.none,data:=.fields ps};exact k a _ (.inl rfl) e
 |met f y =>
  let e:h.get? a=some (Jfl (.ref f) (.ref y)):=x;show h'.get? a=some (Jfl (.ref f) (.ref y));exact k a _ (.inl rfl) e
 |ext φ=>obtain⟨p,⟨o,e⟩,st⟩:=x;exists st _ _ p λo q=>k _ _ (.inl rfl) q,⟨o,k _ _ (.inl rfl) e⟩,st
def HOk.lt(x:HOk P w H h)(e:H a=some o):a<h.objs.size:=(x a o e).lt
theorem HOk.fresh(x:HOk P w H h)(e:h.objs.size<=a):H a=none:=by
 cases q:H a with
 |none=>rfl
 |some u=>exact Fl (Ga (x.lt q) e) (G5 _)
def HOk.kept(x:HOk P w H h)(k:∀b u,h.get? b=some u->h'.get? b=some u):HOk P w H h':=λa o e =>
 (x a o e).stay (λb u _ q=>k b u q) (λ_ q=>q) λ_ _ q=>q
def HOk.laid(x:HOk P w H h)(k:∀b u,h.get? b=some u->h'.get? b=some u)(hp:h.objs.size<=a)(new:Y3 P w (upd H a o) h' a o):HOk P w (upd H a o) h':=λb u e=>by
 let hn:=x.fresh hp
 by_cases hb:b=a
 .subst hb;rw[Zh]at e;cases e;exact new
 .rw[Zo hb]at e;exact(x b u e).stay (λc v _ q=>k c v q) (λc q=>by rw[Zo (Zq q hn)];exact q) λc xs q=>by rw[Zo (Zq q hn)];exact q
end
def Rd(H:Hp)(a:Addr)(u:HO):Prop:=H a=some u\/∃o,H a=some (.frz o u)
def Rd.ok{a:Addr}{u:HO}(r:Rd H a u)(x:HOk P w H h):Y3 P w H h a u:=by
 rcases r with r|⟨o,r⟩
 .exact x a u r
 .let⟨_,q⟩:=x a _ r;exact q
def Mut:Option HO->Prop
 |some (.lst _)=>True
 |some (.dK _)=>True
 |some (.dT _)=>True
 |some (.set _ _)=>True
 |some (.ins _ _ _)=>True
 |some (.ext _)=>True
 |_=>False
section
variable{x e:Addr}{o':HO}
def HOk.write(ok:HOk P w H h)(mu:Mut (H x))(he:e=x\/H e=some (.own x))(k:∀b u,b≠e->h.get? b=some u->h'.get? b=some u)(heo:∃u,h'.get? e=some u)(new:Y3 P w (upd H x o') h' x o'):HOk P w (upd H x o') h':=λb u q=>by
 let nown:∀c y,H c=some (.own y)->c≠x:=λc y r z=>by subst z;rw[r]at mu;exact mu
 let ntup:∀c xs,H c=some (.tup xs)->c≠x:=λc xs r z=>by subst z;rw[r]at mu;exact mu
 by_cases hb:b=x
 .subst hb;rw[Zh]at q;cases q;exact new
 .rw[Zo hb]at q
  by_cases hbe:b=e
  .let q':H b=some (.own x):=by
    rcases he with z|z
    .exact Fl (hbe.trans z) hb
    .rw[hbe];exact z
   rw[q]at q';cases q';let⟨v,hv⟩:=heo;exact⟨v,by rw[hbe];exact hv⟩
  .refine(ok b u q).stay (λc v hc r=>k c v ?_ r) (λc r=>by rw[Zo (nown c b r)];exact r) λc xs r=>by rw[Zo (ntup c xs r)];exact r
   rcases hc with rfl|hc
   .exact hbe
   .rintro rfl;rcases he with z|z
    .exact nown c b hc z
    .rw[hc]at z;cases z;exact hb rfl
end
structure Un(fs ex:List Addr)(H H':Hp)(h h':Heap):Prop where
 keep:∀b o,h.get? b=some o->H b=none->b∉fs->b∉ex->h'.get? b=some o
 slot:∀b o,h.get? b=some o->H b=none->b∈fs->b∉ex->∃sl,h'.get? b=some {o with slots:=sl}
 free:∀b o,h.get? b=some o->H b=none->b∉ex->H' b=none
 there:∀b o,h.get? b=some o->b∉ex->∃o',h'.get? b=some o'
 tups:∀b xs,H b=some (.tup xs)->H' b=some (.tup xs)
 frzs:∀b o u,H b=some (.frz o u)->H' b=some (.frz o u)
 tbls:∀b ps,H b=some (.tbl ps)->∃more,H' b=some (.tbl (ps++more))
section
variable{fs ex:List Addr}{h1:Heap}{a x e:Addr} 
def Un.any(u:Un fs ex H H1 h h1){b:Addr}{ob:Obj}(q:h.get? b=some ob)(n:H b=none)(hx:b∉ex):∃sl,h1.get? b=some {ob with slots:=sl}:=by
 by_cases hb:b∈fs
 .exact u.slot b ob q n hb hx
 .exists ob.slots,u.keep b ob q n hb hx
def Un.kept(k:∀b u,h.get? b=some u->h'.get? b=some u):Un fs ex H H h h' :=
 ⟨λb ob q _ _ _=>k b ob q,λb ob q _ _ _=>⟨ob.slots,k b ob q⟩,λ_ _ _ n _=>n,λb ob q _=>⟨ob,k b ob q⟩,λ_ _ q=>q,λ_ _ _ q=>q,λ_ ps q=>⟨#[],by rw[q];simp⟩⟩
def Un.refl:Un fs ex H H h h:=Un.kept λ_ _ q=>q
def Un.laid(k:∀b u,h.get? b=some u->h'.get? b=some u)(hp:h.objs.size<=a)(hn:H a=none):Un fs ex H (upd H a o) h h' where
 keep:=λb u q _ _ _=>k b u q
 slot:=λb u q _ _ _=>⟨u.slots,k b u q⟩
 free:=λb u q n _=>by rw[Zo (Gd (Ga (Fu q) hp))];exact n
 there:=λb u q _=>⟨u,k b u q⟩
 tups:=λb xs q=>by rw[Zo (Zq q hn)];exact q
 frzs:=λb u xs q=>by rw[Zo (Zq q hn)];exact q
 tbls:=λb ps q=>⟨#[],by rw[Zo (Zq q hn),q];simp⟩
def Un.write(mu:Mut (H x))(he:e=x\/H e=some (.own x))(k:∀b u,b≠e->h.get? b=some u->h'.get? b=some u)(heo:∃u,h'.get? e=some u):Un fs ex H (upd H x o) h h':=by
 let hx:∀b,H b=none->b≠x:=λb n z=>by subst z;rw[n]at mu;exact mu
 let hb:∀b,H b=none->b≠e:=λb n z=>by
  subst z;rcases he with r|r
  .exact hx b n r
  .rw[n]at r;cases r
 let hm:∀b u,H b=some u->¬ Mut (some u)->b≠x:=λb u q nm z=>by subst z;rw[q]at mu;exact nm mu
 refine⟨λb u q n _ _=>k b u (hb b n) q,λb u q n _ _=>⟨u.slots,k b u (hb b n) q⟩,λb u q n _=>by rw[Zo (hx b n)];exact n,λb u q _=>?_,
  λb xs q=>by rw[Zo (hm b _ q λz=>z)];exact q,λb u xs q=>by rw[Zo (hm b _ q λz=>z)];exact q,λb ps q=>⟨#[],by rw[Zo (hm b _ q λz=>z),q];simp⟩⟩
 by_cases hbe:b=e
 .subst hbe;exact heo
 .exists u,k b u hbe q
end
def trk(h:Heap)(H:Hp):List Addr:=(Cv h.objs.size).filter λa=>(H a).isSome
def hidT(h:Heap)(H:Hp):Heap:=W.hideAll h (trk h H)
def Ziz(h:Heap)(H:Hp):(hidT h H).objs.size=h.objs.size:=W.hideAll_size _ _
def Zlp{b:Addr}{o:Obj}(e:h.get? b=some o)(n:H b=none):(hidT h H).get? b=some o :=
 W.hideAll_get _ e λhm=>by
  let q:(H b).isSome=true:=(Jz.mp hm).2;rw[n]at q;simp at q
theorem Zo5{b:Addr}{o:Obj}(e:(hidT h H).get? b=some o):h.get? b=some o/\H b=none:=by
 let e':h.get? b=some o:=W.of_hideAll (trk h H) e;exists e',?_;cases q:H b with
 |none=>rfl
 |some x =>
  let hm:b∈trk h H:=Jz.mpr ⟨Bs.mpr (Fu e'),by simp[q]⟩;let z:(hidT h H).get? b=none:=W.hideAll_none (trk h H) hm;rw[z]at e;cases e
structure Mod(K:Cr)(mg:Str->Option Ca)(base:Heap):Prop where
 kin:K.In base
 glob:base.Ns Ct mg
 blt:∃mb,base.Ns Jdd mb/\∀x:Str,x≠"__name__"->mb x=Lb x
 nolimit:base.NoLimit
structure Cx where
 prog:Ez
 w:Hm
 K:Cr
 mg:Str->Option Ca
 base:Heap
 A:Kj
 N:List Str
 s₀:Cc
 H₀:Hp
 env:Env
 outer:List Env
 stack:List Env
 ex:List Addr
 fn:Str->Bool
 calm:Bool
 pn:List (Addr×Obj)
 xe:Ca->Cc->Prop
variable{X:L2.Cx}
def frs(l:List Env):List Addr:=l.filterMap (·.frame)
abbrev Cx.fs(X:Cx):List Addr:=frs X.outer
def Vis(sc:Scope)(x:Str):Prop:=sc.names.lookup x=some .local\/sc.names.lookup x=some .cell\/sc.names.lookup x=some .free
def Loc(sc:Scope)(x:Str):Prop:=sc.names.lookup x=some .local\/sc.names.lookup x=some .cell
def Look(env:Env)(h:Heap)(m:Str->Option Ca)(x:Str)(u:Ca):Prop :=
 (env.kindOf x=some .local/\m x=some u)\/((env.kindOf x=some .cell\/env.kindOf x=some .free)/\∃c,env.cells.lookup x=some c/\h.IsCell c (some u))
structure Cx.Ok(X:Cx):Prop where
 mod:Mod X.K X.mg X.base
 kind:X.env.scope.kind=.function
 glob:X.env.globals=Ct
 blt:X.env.builtins=Jdd
 above:X.s₀.heap.objs.size<=X.env.locals
 inj:∀x y c,X.env.cells.lookup x=some c->X.env.cells.lookup y=some c->x=y
 has:∀x,(X.env.kindOf x=some .cell\/X.env.kindOf x=some .free)->∃c,X.env.cells.lookup x=some c
 cab:∀x c,X.fn x=true->X.env.cells.lookup x=some c->X.s₀.heap.objs.size<=c
 hd:X.calm=true->X.A.handled=none
 frames:X.A.frames=some X.stack
 stk:X.stack=X.outer\/(X.stack=X.env::X.outer/\X.env.frame=some X.env.locals)
 exf:∀b∈X.ex,b≠X.env.locals/\∀x c,X.env.cells.lookup x=some c->c≠b
 bs:∀b o,X.base.get? b=some o->X.s₀.heap.get? b=some o/\X.H₀ b=none
 bsz:X.base.objs.size<=X.s₀.heap.objs.size
 noex:∀b o,X.base.get? b=some o->b∉X.ex
 exfs:∀b∈X.ex,b∉X.fs
 funs:X.s₀.heap.FunFrames X.base X.outer
 frf:∀b∈X.fs,X.H₀ b=none
structure Inv(X:Cx)(pq:List (Addr×Obj))(σ:List (Option V))(H:Hp)(s:Cc):Prop where
 ok:X.Ok
 os:s.os=X.s₀.os
 bare:Mu s.gens
 base:Un X.fs X.ex X.H₀ H X.s₀.heap s.heap
 loc:∃m,s.heap.Ns X.env.locals m/\∀(i:Nat)(x:Str)(v:V),X.N[i]?=some x->σ[i]?=some (some v)->Vis X.env.scope x->∃u,RelV v u/\Look X.env s.heap m x u
 cell:∀x c,X.env.cells.lookup x=some c->∃v,s.heap.IsCell c v
 free:H X.env.locals=none
 freeC:∀x c,X.env.cells.lookup x=some c->H c=none
 pin:∀p∈X.pn++pq,s.heap.get? p.1=some p.2/\H p.1=none/\p.1≠X.env.locals/\p.1∉X.fs/\∀v,p.2.data≠.cell v
 hok:HOk X.prog X.w H s.heap
 len:σ.length=X.N.length
section
variable{σ:List (Option V)} 
def Cx.Ok.nofr(ok:X.Ok){b:Addr}{o:Obj}(e:X.base.get? b=some o):b∉X.fs:=λhb=>by
 let:=(ok.funs.mem hb).1;rw[e]at this;cases this
def Inv.bs(I:Inv X pq σ H s):∀b o,X.base.get? b=some o->s.heap.get? b=some o/\H b=none:=λb o e =>
 ⟨I.base.keep b o (I.ok.bs b o e).1 (I.ok.bs b o e).2 (I.ok.nofr e) (I.ok.noex b o e),I.base.free b o (I.ok.bs b o e).1 (I.ok.bs b o e).2 (I.ok.noex b o e)⟩
def Inv.bk(I:Inv X pq σ H s):∀b o,X.base.get? b=some o->s.heap.get? b=some o:=λb o e=>(I.bs b o e).1
def Inv.mod(I:Inv X pq σ H s):Mod X.K X.mg X.base:=I.ok.mod
def Inv.kIn(I:Inv X pq σ H s):X.K.In s.heap:=I.ok.mod.kin.keeps I.bk
def Inv.lt(I:Inv X pq σ H s):X.env.locals<s.heap.objs.size:=let⟨_,hn,_⟩:=I.loc;hn.lt
def Inv.sz(I:Inv X pq σ H s):X.s₀.heap.objs.size<=s.heap.objs.size:=Jy I.ok.above (Bp I.lt)
def Inv.nofs(I:Inv X pq σ H s){a:Addr}(h:s.heap.objs.size<=a):a∉X.fs:=λhb=>by
 let⟨_,o,ho,_⟩:=I.ok.funs.mem hb;exact Fl (Ga (Fu ho) (Jy I.sz h)) (G5 _)
def Inv.cne(I:Inv X pq σ H s):∀x c,X.env.cells.lookup x=some c->c≠X.env.locals:=λx c e z=>by
 let⟨v,o,ho,hd⟩:=I.cell x c e;let⟨m,⟨o',es,ep,ho',hd',_⟩,_⟩:=I.loc;rw[z,ho']at ho;cases ho;rw[hd']at hd;cases hd
def Inv.funs(I:Inv X pq σ H s):s.heap.FunFrames X.base X.outer:=by
 let all:∀(l:List Env),(∀b∈frs l,b∈X.fs)->X.s₀.heap.FunFrames X.base l->s.heap.FunFrames X.base l:=by
  intro l
  induction l with
  |nil=>intro _ _;trivial
  |cons env r ih =>
   intro hs hl;let⟨hk,⟨L,o,hf,hn,ho,hd⟩,hr⟩:=hl;let hL:L∈X.fs:=hs L (by unfold frs;rw[Lu,hf];exact List.mem_cons_self);let⟨sl,e⟩:=I.base.slot L o ho (I.ok.frf L hL) hL λz=>I.ok.exfs L z hL;exists hk,⟨L,_,hf,hn,e,hd⟩,ih (λb hb=>hs b (by unfold frs;rw[Lu,hf];exact List.mem_cons_of_mem _ hb)) hr
 exact all X.outer (λ_ hb=>hb) I.ok.funs
def Inv.stack(I:Inv X pq σ H s):s.heap.FunFrames X.base X.stack:=by
 rcases I.ok.stk with e|⟨e,hf⟩
 .rw[e];exact I.funs
 .rw[e];let⟨m,hn,_⟩:=I.loc;refine .cons (by rw[I.ok.kind];decide) hf hn ?_ I.funs;exact Lk (Jy I.ok.bsz I.ok.above)
def Inv.stkSub(I:Inv X pq σ H s):∀b∈frs X.stack,b∈X.env.locals::X.fs:=λb hb=>by
 rcases I.ok.stk with e|⟨e,hf⟩
 .rw[e]at hb;exact Jk _ hb
 .rw[e]at hb;unfold frs at hb;rw[Lu,hf]at hb;exact hb
def Inv.stkFree(I:Inv X pq σ H s):∀b∈frs X.stack,H b=none:=λb hb=>by
 rcases Jt.mp (I.stkSub b hb)with e|hb
 .rw[e];exact I.free
 .let⟨_,o,ho,_⟩:=I.ok.funs.mem hb;exact I.base.free b o ho (I.ok.frf b hb) λz=>I.ok.exfs b z hb
def Inv.step{g':Array GenState}{d':Drawn}{ch:List Addr}(I:Inv X pq σ H s)(hch:∀b∈ch,(b∈X.ex\/X.s₀.heap.objs.size<=b)/\b≠X.env.locals/\(∀x c,X.env.cells.lookup x=some c->c≠b)/\∀p∈X.pn++pq,p.1≠b)(keep:∀b o,b≠X.env.locals->b∉X.fs->b∉ch->s.heap.get? b=some o->H b=none->h'.get? b=some o)(slot:∀b o,b≠X.env.locals->b∈X.fs->b∉ch->s.heap.get? b=some o->H b=none->∃sl,h'.get? b=some {o with slots:=sl})(free:∀b o,b∉ch->s.heap.get? b=some o->H b=none->H' b=none)(there:∀b o,b∉ch->s.heap.get? b=some o->∃o',h'.get? b=some o')(tups:∀b xs,H b=some (.tup xs)->H' b=some (.tup xs))(frzs:∀b o u,H b=some (.frz o u)->H' b=some (.frz o u))(tbls:∀b ps,H b=some (.tbl ps)->∃more,H' b=some (.tbl (ps++more)))(ns:∀m,s.heap.Ns X.env.locals m->h'.Ns X.env.locals m)(hok:HOk X.prog X.w H' h')(hg:Mu g') :
  Inv X pq σ H' {s with heap:=h',gens:=g',drawn:=d',toks:=t'}:=by
 let neL:∀b o,X.s₀.heap.get? b=some o->b≠X.env.locals:=λb o e=>Gd (Ga (Fu e) I.ok.above);let neC:∀b o,X.s₀.heap.get? b=some o->b∉X.ex->b∉ch:=λb o e hx hb=>by
  rcases(hch b hb).1 with z|z
  .exact hx z
  .exact Fl (Ga (Fu e) z) (G5 _)
 let cellK:∀x c,X.env.cells.lookup x=some c->∀v,s.heap.IsCell c v->h'.IsCell c v:=λx c e v⟨o,ho,hd⟩=>by
  let nch:c∉ch:=λz=>(hch c z).2.2.1 x c e rfl
  by_cases hc:c∈X.fs
  .let⟨sl,q⟩:=slot c o (I.cne x c e) hc nch ho (I.freeC x c e);exists _,q,hd
  .exists o,keep c o (I.cne x c e) hc nch ho (I.freeC x c e),hd
 exists I.ok,I.os,hg,⟨λb o e n hb hx=>?_,λb o e n hb hx=>?_,λb o e n hx=>?_,λb o e hx=>?_,λb xs e=>tups b xs (I.base.tups b xs e),λb o xs e=>frzs b o xs (I.base.frzs b o xs e),λb ps e=>?_⟩,?_,λx c e=>?_,?_,λx c e=>?_,λp hp=>?_,hok,I.len
 .exact keep b o (neL b o e) hb (neC b o e hx) (I.base.keep b o e n hb hx) (I.base.free b o e n hx)
 .let⟨sl,e1⟩:=I.base.slot b o e n hb hx;let⟨sl',e2⟩:=slot b _ (neL b o e) hb (neC b o e hx) e1 (I.base.free b o e n hx);exists sl',e2
 .let⟨o',e1⟩:=I.base.there b o e hx;exact free b o' (neC b o e hx) e1 (I.base.free b o e n hx)
 .let⟨o',e1⟩:=I.base.there b o e hx;exact there b o' (neC b o e hx) e1
 .let⟨m1,e1⟩:=I.base.tbls b ps e;let⟨m2,e2⟩:=tbls b _ e1;exact⟨m1++m2,by rw[e2,Array.append_assoc]⟩
 .let⟨m,hn,hl⟩:=I.loc;exists m,ns m hn,λi x v e1 e2 e3=>?_;let⟨u,r,l⟩:=hl i x v e1 e2 e3;exists u,r,?_;rcases l with l|⟨k,c,e,z⟩
  .exact .inl l
  .exact .inr ⟨k,c,e,cellK x c e _ z⟩
 .let⟨v,z⟩:=I.cell x c e;exists v,cellK x c e v z
 .let⟨m,⟨o,_,_,ho,_⟩,_⟩:=I.loc;exact free _ o (λz=>(hch _ z).2.1 rfl) ho I.free
 .let⟨v,o,ho,hd⟩:=I.cell x c e;exact free c o (λz=>(hch c z).2.2.1 x c e rfl) ho (I.freeC x c e)
 .let⟨e,n,ne,nf,d⟩:=I.pin p hp;let nch:p.1∉ch:=λz=>(hch p.1 z).2.2.2 p hp rfl;exists keep p.1 p.2 ne nf nch e n,free p.1 p.2 nch e n,ne,nf,d
def Inv.un(I:Inv X pq σ H s)(u:Un X.fs [] H H' s.heap h')(hok:HOk X.prog X.w H' h'):Inv X pq σ H' {s with heap:=h',toks:=t'}:=by
 let⟨m,⟨o,es,ep,ho,r⟩,_⟩:=id I.loc;let⟨sl,hL⟩:=u.any ho I.free (by simp);exact I.step (g':=s.gens) (d':=s.drawn) (ch:=[]) (λ_ z=>nomatch z) (λb o _ hb _ e n=>u.keep b o e n hb (by simp)) (λb o _ hb _ e n=>u.slot b o e n hb (by simp)) (λb o _ e n=>u.free b o e n (by simp)) (λb o _ e=>u.there b o e (by simp)) u.tups u.frzs u.tbls (λm' hm=>by
  let⟨o',es',ep',ho',r'⟩:=hm;rw[ho]at ho';cases ho';exact⟨_,es',ep',hL,r'⟩) hok I.bare
def Inv.call{g':Array GenState}{d':Drawn}{ch:List Addr}(I:Inv X pq σ H s)(u:Un (frs X.stack) ch H H' s.heap h')(hok:HOk X.prog X.w H' h')(hg:Mu g')(hch:∀b∈ch,(b∈X.ex\/X.s₀.heap.objs.size<=b)/\b≠X.env.locals/\(∀x c,X.env.cells.lookup x=some c->c≠b)/\∀p∈X.pn++pq,p.1≠b) :
  Inv X pq σ H' {s with heap:=h',gens:=g',drawn:=d',toks:=t'}:=by
 let⟨m,⟨o,es,ep,ho,r⟩,_⟩:=id I.loc;let⟨sl,hL⟩:=u.any ho I.free λz=>(hch _ z).2.1 rfl;exact I.step (ch:=ch) hch (λb o hL hb hc e n=>u.keep b o e n (λz=>(Jt.mp (I.stkSub b z)).elim hL hb) hc) (λb o _ _ hc e n=>u.any e n hc) (λb o hc e n=>u.free b o e n hc) (λb o hc e=>u.there b o e hc) u.tups u.frzs u.tbls (λm' hm=>by
  let⟨o',es',ep',ho',r'⟩:=hm;rw[ho]at ho';cases ho';exact⟨_,es',ep',hL,r'⟩) hok hg
def Inv.turned(I:Inv X pq σ H s)(k:∀b o,b≠it->s.heap.get? b=some o->h'.get? b=some o)(hn:H it=none)(hL:it≠X.env.locals)(h1:it∈X.ex\/X.s₀.heap.objs.size<=it)(h2:∀x c,X.env.cells.lookup x=some c->c≠it)(h3:∀p∈X.pn++pq,p.1≠it):Inv X pq σ H {s with heap:=h',toks:=t'}:=by
 let nit:∀b u,H b=some u->b≠it:=λb u e z=>by rw[z,hn]at e;cases e
 refine I.step (g':=s.gens) (d':=s.drawn) (ch:=[it]) (λb hb=>?_) (λb o _ _ hc e _=>k b o (λz=>hc (by simp[z])) e) (λb o _ _ hc e _=>⟨o.slots,k b o (λz=>hc (by simp[z])) e⟩) (λ_ _ _ _ n=>n)
  (λb o hc e=>⟨o,k b o (λz=>hc (by simp[z])) e⟩) (λ_ _ e=>e) (λ_ _ _ e=>e) (λb ps e=>⟨#[],by rw[e];simp⟩) (λm hm=>?_) (λb u e=>?_) I.bare
 .let e:b=it:=by simpa using hb
  subst e;exists h1,hL,h2,h3
 .let⟨o,es,ep,ho,r⟩:=hm;exists o,es,ep,k _ o (Ee hL) ho,r
 .refine(I.hok b u e).stay (λc v hc q=>k c v ?_ q) (λ_ q=>q) λ_ _ q=>q;rcases hc with z|z
  .rw[z];exact nit b u e
  .exact nit c _ z
def Inv.tok(I:Inv X pq σ H s)(t:Nat):Inv X pq σ H {s with toks:=t}:=I.un (h':=s.heap) (t':=t) Un.refl I.hok
def Inv.kept(I:Inv X pq σ H s)(k:∀b u,s.heap.get? b=some u->h'.get? b=some u):Inv X pq σ H {s with heap:=h',toks:=t'}:=I.un (Un.kept k) (I.hok.kept k)
def Inv.laid{a:Addr}(I:Inv X pq σ H s)(k:∀b u,s.heap.get? b=some u->h'.get? b=some u)(hp:s.heap.objs.size<=a)(new:Y3 X.prog X.w (upd H a o) h' a o) :
  Inv X pq σ (upd H a o) {s with heap:=h',toks:=t'}:=I.un (Un.laid k hp (I.hok.fresh hp)) (I.hok.laid k hp new)
def Inv.write{x e:Addr}(I:Inv X pq σ H s)(mu:Mut (H x))(he:e=x\/H e=some (.own x))(k:∀b u,b≠e->s.heap.get? b=some u->h'.get? b=some u)(heo:∃u,h'.get? e=some u)(new:Y3 X.prog X.w (upd H x o) h' x o):Inv X pq σ (upd H x o) {s with heap:=h',toks:=t'}:=I.un (Un.write mu he k heo) (I.hok.write mu he k heo new)
def Inv.weak{σ':List (Option V)}(I:Inv X pq σ H s)(hl:σ'.length=σ.length)(w:∀(i:Nat)v,σ'[i]?=some (some v)->σ[i]?=some (some v)):Inv X pq σ' H s :=
 ⟨I.ok,I.os,I.bare,I.base,let⟨m,hn,hl'⟩:=I.loc;⟨m,hn,λi x v e1 e2 e3=>hl' i x v e1 (w i v e2) e3⟩,I.cell,I.free,I.freeC,I.pin,I.hok,hl.trans I.len⟩
def Inv.pins_of{pins':List (Addr×Obj)}(I:Inv X pq σ H s)(h:∀p∈pins',s.heap.get? p.1=some p.2/\H p.1=none/\p.1≠X.env.locals/\p.1∉X.fs/\∀v,p.2.data≠.cell v):Inv X pins' σ H s :=
 ⟨I.ok,I.os,I.bare,I.base,I.loc,I.cell,I.free,I.freeC,λp hp=>(J9.mp hp).elim (λz=>I.pin p (Gw _ z)) (h p),I.hok,I.len⟩
def Zed(hN:N.Nodup){j:Nat}{x:Str}(a:N[i]?=some x)(b:N[j]?=some x):i=j:=by
 let⟨h1,e1⟩:=Jj.mp a;let⟨h2,e2⟩:=Jj.mp b;exact(Br hN).mp (e1.trans e2.symm)
def Zap{M:Jhx}{x:Str}{u:Ca}{Q:Unit->Cc->Prop}(I:Inv X pq σ H s)(hN:X.N.Nodup)(hi:X.N[i]?=some x)(hx:Loc X.env.scope x)(r:RelV v u)(h:∀s',Inv X pq (σ.set i (some v)) H s'->(∃a,Hk a s.heap s'.heap/\(a=X.env.locals\/X.env.cells.lookup x=some a))->Q ⟨⟩ s')(hf:X.fn x=true\/X.env.scope.names.lookup x=some .local:=by first|left;rfl|right;rfl|assumption):Cd M A (Jhi X.env x u) Q E s:=by
 let⟨m,hn,hl⟩:=id I.loc;let hcls:(X.env.scope.kind == .class ||(X.env.scope.kind == .module&&X.env.locals != X.env.globals))=false:=by rw[I.ok.kind];rfl
 let hiσ:i < σ.length:=by rw[I.len];exact(Jj.mp hi).1
 let cne:=I.cne;let tracked:∀{a:Addr}{h':Heap},(∃o,s.heap.get? a=some o/\H a=none)->Hk a s.heap h'->HOk X.prog X.w H h':=λ{a h'}ha hs b ob e=>by
  let⟨_,_,hfree⟩:=ha;refine(I.hok b ob e).stay (λc w' hc q=>(hs.2 c ?_).trans q) (λ_ q=>q) λ_ _ q=>q;rintro rfl;rcases hc with rfl|hc
  .rw[hfree]at e;cases e
  .rw[hfree]at hc;cases hc
 rcases hx with hk|hk
 .refine wpAny_storeName_local hk hn (λh' hn' hs=>?_) hcls;let⟨oL,_,_,hoL,_⟩:=id hn;refine h _ ⟨I.ok,I.os,I.bare,⟨λb o e n hb hx=>?_,λb o e n hb hx=>?_,I.base.free,λb o e hx=>?_,I.base.tups,I.base.frzs,I.base.tbls⟩,⟨_,hn',λj y v' e1 e2 e3=>?_⟩,λy c e=>?_,I.free,I.freeC,λp hp=>?_,tracked ⟨oL,hoL,I.free⟩ hs,by simpa using I.len⟩ ⟨_,hs,.inl rfl⟩
  .exact(hs.2 b (Gd (Ga (Fu e) I.ok.above))).trans (I.base.keep b o e n hb hx)
  .let⟨sl,e1⟩:=I.base.slot b o e n hb hx;exists sl,(hs.2 b (Gd (Ga (Fu e) I.ok.above))).trans e1
  .let⟨o',e1⟩:=I.base.there b o e hx;exists o',(hs.2 b (Gd (Ga (Fu e) I.ok.above))).trans e1
  .by_cases hj:j=i
   .subst hj;rw[hi]at e1;cases e1;rw[Ge hiσ]at e2;cases e2;exists u,r,.inl ⟨hk,by simp⟩
   .rw[Gx (Ee hj)]at e2;let⟨u',r',q⟩:=hl j y v' e1 e2 e3;exists u',r',?_;rcases q with⟨k,e⟩|⟨k,c,e,z⟩
    .refine .inl ⟨k,?_⟩;let:y≠x:=λe=>hj (Zed hN e1 (e ▸ hi));simp[this,e]
    .exact .inr ⟨k,c,e,z.sameBut hs (cne y c e)⟩
  .let⟨w',z⟩:=I.cell y c e;exists w',z.sameBut hs (cne y c e)
  .let⟨e,n,ne,nf,d⟩:=I.pin p hp;exists(hs.2 p.1 ne).trans e,n,ne,nf,d
 .let hfn:X.fn x=true:=by
   rcases hf with z|z
   .exact z
   .rw[z]at hk;cases hk
  let⟨c,hc⟩:=I.ok.has x (.inl hk);let⟨w',z⟩:=I.cell x c hc;refine wpAny_storeName_cell I.ok.kind hk hc z (λh' hc' hs=>?_);let⟨oc,hoc,hocd⟩:=id z;refine h {s with heap:=h'} ⟨I.ok,I.os,I.bare,⟨λb o e n hb hx=>?_,λb o e n hb hx=>?_,I.base.free,λb o e hx=>?_,I.base.tups,I.base.frzs,I.base.tbls⟩,⟨m,hn.sameBut hs (Ee (cne x c hc)),λj y v' e1 e2 e3=>?_⟩,λy c' e=>?_,I.free,I.freeC,λp hp=>?_,tracked ⟨oc,hoc,I.freeC x c hc⟩ hs,by simpa using I.len⟩ ⟨c,hs,.inr hc⟩
  .exact(hs.2 b (Gd (Ga (Fu e) (I.ok.cab x c hfn hc)))).trans (I.base.keep b o e n hb hx)
  .let⟨sl,e1⟩:=I.base.slot b o e n hb hx;exists sl,(hs.2 b (Gd (Ga (Fu e) (I.ok.cab x c hfn hc)))).trans e1
  .let⟨o',e1⟩:=I.base.there b o e hx;exists o',(hs.2 b (Gd (Ga (Fu e) (I.ok.cab x c hfn hc)))).trans e1
  .by_cases hj:j=i
   .subst hj;rw[hi]at e1;cases e1;rw[Ge hiσ]at e2;cases e2;exists u,r,.inr ⟨.inl hk,c,hc,hc'⟩
   .rw[Gx (Ee hj)]at e2;let⟨u',r',q⟩:=hl j y v' e1 e2 e3;exists u',r',?_;rcases q with q|⟨k,c',e,z'⟩
    .exact .inl q
    .refine .inr ⟨k,c',e,z'.sameBut hs ?_⟩;rintro rfl;exact hj (Zed hN e1 (I.ok.inj _ _ _ e hc ▸ hi))
  .by_cases hcc:c'=c
   .subst hcc;exists _,hc'
   .let⟨w2,z2⟩:=I.cell y c' e;exists w2,z2.sameBut hs hcc
  .let⟨e,n,ne,nf,d⟩:=I.pin p hp;exists(hs.2 p.1 ?_).trans e,n,ne,nf,d;intro q;rw[q,hoc]at e;let q':oc=p.2:=Fz e;exact d w' (by rw[<-q'];exact hocd)
def Nc{M:Jhx}{x:Str}{u:Ca}{Q:Unit->Cc->Prop}(I:Inv X pq σ H s)(hN:X.N.Nodup)(hi:X.N[i]?=some x)(hx:Loc X.env.scope x)(r:RelV v u)(h:∀s',Inv X pq (σ.set i (some v)) H s'->Q ⟨⟩ s')(hf:X.fn x=true\/X.env.scope.names.lookup x=some .local:=by first|left;rfl|right;rfl|assumption):Cd M A (Jhi X.env x u) Q E s :=
 Zap I hN hi hx r (λs' I' _=>h s' I') hf
def Inv.call'{s':Cc}{ch:List Addr}(I:Inv X pq σ H s)(ho:s'.os=s.os)(u:Un (frs X.stack) ch H H' s.heap s'.heap)(hok:HOk X.prog X.w H' s'.heap)(hg:Mu s'.gens)(hch:∀b∈ch,(b∈X.ex\/X.s₀.heap.objs.size<=b)/\b≠X.env.locals/\(∀x c,X.env.cells.lookup x=some c->c≠b)/\∀p∈X.pn++pq,p.1≠b):Inv X pq σ H' s':=by
 let⟨h',g',d',t',o'⟩:=s';let e:o'=s.os:=ho;subst e;exact I.call (g':=g') (t':=t') (d':=d') u hok hg hch
end
abbrev XK:=Ca->Option Addr->Hp->Prop
abbrev St:=List (Option V)
variable{σ:L2.St}
abbrev VK:=V->Hp->Prop
variable{Q:L2.VK}
abbrev TE:=St->Hp->VK->Prop
variable{te ta tb to:L2.TE}
abbrev TT:=St->Hp->(Bool->Hp->Prop)->Prop
variable{tc:L2.TT}
abbrev TA:=St->Hp->(List V->Hp->Prop)->Prop
structure Ends where
 nx:St->Hp->Prop
 rt:VK
 bk:St->Hp->Prop:=λ_ _=>False
 ct:St->Hp->Prop:=λ_ _=>False
abbrev TS:=Ends->St->Hp->Prop
def EP(X:Cx)(pq:List (Addr×Obj))(σ:St)(Q:VK)(u:Ca)(s':Cc):Prop:=∃v H',Inv X pq σ H' s'/\RelV v u/\Q v H'
def TP(X:Cx)(pq:List (Addr×Obj))(σ:St)(Q:Bool->Hp->Prop)(b:Bool)(s':Cc):Prop:=∃H',Inv X pq σ H' s'/\Q b H'
def AP(X:Cx)(pq:List (Addr×Obj))(σ:St)(Q:List V->Hp->Prop)(us:List Ca)(s':Cc):Prop:=∃vs H',Inv X pq σ H' s'/\Vals vs us/\Q vs H'
def SP(X:Cx)(pq:List (Addr×Obj))(D:Ends)(f:Flow)(s':Cc):Prop :=
 match f with
 |.next=>∃σ' H',Inv X pq σ' H' s'/\D.nx σ' H'
 |.brk=>∃σ' H',Inv X pq σ' H' s'/\D.bk σ' H'
 |.cont=>∃σ' H',Inv X pq σ' H' s'/\D.ct σ' H'
 |.ret u=>∃v σ' H',Inv X pq σ' H' s'/\RelV v u/\D.rt v H'
def PE(X:Cx)(e:Expr)(t:TE):Prop :=
 ∀(pq:List (Addr×Obj))(s:Cc)(σ:St)(H:Hp)(Q:VK),Inv X pq σ H s->t σ H Q->Cd (Ck X.prog X.w) X.A (eval e X.env) (EP X pq σ Q) X.xe s
def PT(X:Cx)(e:Expr)(t:TT):Prop :=
 ∀(pq:List (Addr×Obj))(s:Cc)(σ:St)(H:Hp)(Q:Bool->Hp->Prop),Inv X pq σ H s->t σ H Q->Cd (Ck X.prog X.w) X.A (isTrue e X.env (eval e X.env)) (TP X pq σ Q) X.xe s
def PW(X:Cx)(e:Expr)(t:TT):Prop :=
 ∀(whole:Sem Ca)(pq:List (Addr×Obj))(s:Cc)(σ:St)(H:Hp)(Q:Bool->Hp->Prop),Inv X pq σ H s->t σ H Q->Cd (Ck X.prog X.w) X.A (isTrue e X.env whole) (TP X pq σ Q) X.xe s
def PW.pt{e:Expr}{t:TT}(h:PW X e t):PT X e t:=h _
def PA(X:Cx)(es:List Expr)(t:TA):Prop :=
 ∀(pos:Pos)(pq:List (Addr×Obj))(s:Cc)(σ:St)(H:Hp)(Q:List V->Hp->Prop),Inv X pq σ H s->t σ H Q->Cd (Ck X.prog X.w) X.A (spliced (Ht pos (Cj es X.env))) (AP X pq σ Q) X.xe s
def PS(X:Cx)(st:Stmt)(t:TS):Prop :=
 ∀(pq:List (Addr×Obj))(s:Cc)(σ:St)(H:Hp)(D:Ends),Inv X pq σ H s->t D σ H->Cd (Ck X.prog X.w) X.A (exec st X.env) (SP X pq D) X.xe s
def PSs(X:Cx)(st:List Stmt)(t:TS):Prop :=
 ∀(pq:List (Addr×Obj))(s:Cc)(σ:St)(H:Hp)(D:Ends),Inv X pq σ H s->t D σ H->Cd (Ck X.prog X.w) X.A (execs st X.env) (SP X pq D) X.xe s
def thn{α:Type}{t:Sem α}{Q Q':α->Cc->Prop}{M:Jhx}(h:Cd M A t Q E s)(hQ:∀a s,Q a s->Q' a s):Cd M A t Q' E s:=F7 h hQ λ_ _ x=>x
section
def tVar(i:Nat):TE:=λσ H Q=>∃v,σ[i]?=some (some v)/\Q v H
def tC(v:V):TE:=λ_ H Q=>Q v H
def Zst{x:Str}(hN:X.N[i]?=some x)(hv:Vis X.env.scope x)(hd:(x==("__debug__":Str))=false:=by decide)(hcd:(x==("__classdict__":Str))=false:=by decide):PE X (.Name x pos) (tVar i):=by
 intro pq s σ H Q I h;let⟨v,e,h⟩:=h;let⟨m,hn,hl⟩:=I.loc;let⟨u,r,l⟩:=hl i x v hN e hv;let fin:EP X pq σ Q u s:=⟨v,H,I,r,h⟩;rcases l with⟨hk,hm⟩|⟨hk,c,hc,hcell⟩
 .exact Jgg (Jdi I.ok.kind hk hn hm fin) hd
 .rcases hk with hk|hk
  .exact Jgg (Jds I.ok.kind hk hc hcell fin) hd
  .exact Jgg (wpAny_loadName_free I.ok.kind hk hc hcell fin hcd) hd
def Ze{i j pos}:PE X (.Constant (.int i) j pos) (tC (.int i)):=λ_ _ _ H _ I h=>wpAny_Constant_int ⟨.int i,H,I.tok _,⟨_,rfl⟩,h⟩
def Tc{b j pos}:PE X (.Constant (.bool b) j pos) (tC (.bl b)):=λ_ _ _ H _ I h=>Constant_bool ⟨.bl b,H,I,rfl,h⟩
def T5{j pos}:PE X (.Constant .none j pos) (tC .non):=λ_ _ _ H _ I h=>Jdz ⟨.non,H,I,rfl,h⟩
def Qe{x j pos}:PE X (.Constant (.str x) j pos) (tC (.str x)):=λ_ _ _ H _ I h=>Calls.Constant_str ⟨.str x,H,I.tok _,⟨_,rfl⟩,h⟩
def Gl(X:Cx)(x:Str):Prop:=X.env.kindOf x=some .globalImplicit
def Qk{x:Str}{u:Ca}{Q:Ca->Cc->Prop}(I:Inv X pq σ H s)(hg:Gl X x)(hm:X.mg x=some u)(h:Q u s)(hd:(x==("__debug__":Str))=false:=by decide):Cd (Ck X.prog X.w) X.A (eval (.Name x pos) X.env) Q E s :=
 L6 I.ok.kind hg (Calls.loadGlobal_global (by rw[I.ok.glob];exact I.mod.glob.keeps I.bk) hm h) hd
def T8{x:Str}{u:Ca}{Q:Ca->Cc->Prop}(I:Inv X pq σ H s)(hg:Gl X x)(hm:X.mg x=none)(hv:Lb x=some u)(h:Q u s)(hn:x≠"__name__":=by decide)(hd:(x==("__debug__":Str))=false:=by decide):Cd (Ck X.prog X.w) X.A (eval (.Name x pos) X.env) Q E s:=by
 let⟨mb,h1,h2⟩:=I.mod.blt;exact L6 I.ok.kind hg (Calls.loadGlobal_builtin (by rw[I.ok.glob];exact I.mod.glob.keeps I.bk) hm (by rw[I.ok.blt];exact h1.keeps I.bk) ((h2 x hn).trans hv) h) hd
def Zhv{x:Str}{u:Ca}(hg:Gl X x)(hm:X.mg x=none)(hv:Lb x=some u)(r:RelV v u)(hn:x≠"__name__":=by decide)(hd:(x==("__debug__":Str))=false:=by decide):PE X (.Name x pos) (tC v) :=
 λ_ _ _ H _ I h=>T8 I hg hm hv ⟨v,H,I,r,h⟩ hn hd
variable{a b:Expr} 
def PC(X:Cx)(op:Jhj)(a b:Expr)(t:TE):Prop :=
 ∀(pq:List (Addr×Obj))(s:Cc)(σ:St)(H:Hp)(Q:VK),Inv X pq σ H s->t σ H Q ->
  Cd (Ck X.prog X.w) X.A (eval a X.env) (λv s₁=>Cd (Ck X.prog X.w) X.A (eval b X.env) (λu s₂=>Cd (Ck X.prog X.w) X.A (Eo op v u) (EP X pq σ Q) X.xe s₂) X.xe s₁) X.xe s
def Zla(b:Expr){op:Jhj}(h:op≠.In)(h2:op≠.NotIn):Ke op b=false:=by
 let e1:(op==Jhj.In)=false:=by cases op<;>first|rfl|exact Fl rfl h
 let e2:(op==Jhy)=false:=by cases op<;>first|rfl|exact Fl rfl h2
 cases b<;>simp[Ke,e1,e2]
def tIsN(ta:TE):TE:=λσ H Q=>ta σ H λx H1=>Q (.bl (decide (x=.non))) H1
def Zrq(ta:TE):TE:=λσ H Q=>ta σ H λx H1=>Q (.bl (!decide (x=.non))) H1
theorem RelV.none_iff{x:V}{v:Ca}(r:RelV x v):(v==Ca.none)=decide (x=.non):=by
 cases x with
 |non=>cases r;rfl
 |bl _=>cases r;rfl
 |int _=>obtain⟨t,rfl⟩:=r;rfl
 |str _=>obtain⟨t,rfl⟩:=r;rfl
 |byt _=>obtain⟨t,rfl⟩:=r;rfl
 |flt _=>obtain⟨t,rfl⟩:=r;rfl
 |ref _=>cases r;rfl
 |ty _=>cases r;rfl
def Qh{j pos'}(ha:PE X a ta):PC X .Is a (.Constant .none j pos') (tIsN ta):=by
 intro pq s σ H Q I h;refine thn (ha pq s σ H _ I h) λv s1 hz=>?_;let⟨x,H1,I1,r1,q1⟩:=hz;exact Jdz (is_none_gen ⟨.bl _,H1,I1,by rw[r1.none_iff];rfl,q1⟩)
def Sq{j pos'}(ha:PE X a ta):PC X .IsNot a (.Constant .none j pos') (Zrq ta):=by
 intro pq s σ H Q I h;refine thn (ha pq s σ H _ I h) λv s1 hz=>?_;let⟨x,H1,I1,r1,q1⟩:=hz;exact Jdz (isnot_none_gen ⟨.bl _,H1,I1,by rw[r1.none_iff];rfl,q1⟩)
def tB(t:TE):TT:=λσ H Q=>t σ H λx H1=>∃c,x=.bl c/\Q c H1
def Wl{op:Jhj}{t:TE}(h:PC X op a b t)(h1:Ke op b=false:=by first|exact Zla _ nofun nofun|rfl):PT X (.Compare a [op] [b] pos) (tB t):=by
 intro pq s σ H Q I hw;refine Jb9 (thn (h pq s σ H _ I hw) λv s1 h1=>thn h1 λu s2 h2=>thn h2 λc s3 hz=>?_) h1;let⟨x,H1,I1,r1,q1⟩:=hz;let⟨d,rfl,q⟩:=q1;cases r1;exact Ep ⟨H1,I1,q⟩
def V9{e:Expr}{t:TE}(h:PE X e t)(he:∀whole,isTrue e X.env whole=(do let v <-whole;Lv e.pos;Hw [v] (truthy v)):=by intro _;rfl):PT X e (tB t):=by
 intro pq s σ H Q I hw;refine isTrue_plain (thn (h pq s σ H _ I hw) λv s1 hz=>?_) (he _);let⟨x,H1,I1,r1,q1⟩:=hz;let⟨d,rfl,q⟩:=q1;cases r1;exact Ep ⟨H1,I1,q⟩
variable{tA tB':TT}{rest:List Expr}
def tAnd(t u:TT):TT:=λσ H Q=>t σ H λc H1=>if c=true then u σ H1 Q else Q false H1
def tOr(t u:TT):TT:=λσ H Q=>t σ H λc H1=>if c=true then Q true H1 else u σ H1 Q
def tNot(t:TT):TT:=λσ H Q=>t σ H λc H1=>Q (!c) H1
theorem Tp(ha:PT X a tA):PW X (.BoolOp .And [a] pos) tA:=by
 intro wh pq s σ H Q I h;refine isTrue_and (thn (ha pq s σ H Q I h) λc s1 e=>?_);cases c with
 |true=>exact isTrue_and_nil e
 |false=>exact e
theorem Zd3(ha:PT X a tA):PW X (.BoolOp .Or [a] pos) tA:=by
 intro wh pq s σ H Q I h;refine isTrue_or (thn (ha pq s σ H Q I h) λc s1 e=>?_);cases c with
 |false=>exact isTrue_or_nil e
 |true=>exact e
theorem Rc(ha:PT X a tA)(hb:PW X (.BoolOp .And (b::rest) pos) tB'):PW X (.BoolOp .And (a::b::rest) pos) (tAnd tA tB'):=by
 intro wh pq s σ H Q I h;refine isTrue_and (thn (ha pq s σ H _ I h) λc s1 hz=>?_);let⟨H1,I1,q1⟩:=hz;cases c with
 |true=>exact hb wh pq s1 σ H1 Q I1 q1
 |false=>exact⟨H1,I1,q1⟩
theorem Zky(ha:PT X a tA)(hb:PW X (.BoolOp .Or (b::rest) pos) tB'):PW X (.BoolOp .Or (a::b::rest) pos) (tOr tA tB'):=by
 intro wh pq s σ H Q I h;refine isTrue_or (thn (ha pq s σ H _ I h) λc s1 hz=>?_);let⟨H1,I1,q1⟩:=hz;cases c with
 |true=>exact⟨H1,I1,q1⟩
 |false=>exact hb wh pq s1 σ H1 Q I1 q1
def Pk(ha:PT X a tA):PT X (.UnaryOp .Not a pos) (tNot tA):=by
 intro pq s σ H Q I h;exact isTrue_not (ha pq s σ H (λc H1=>Q (!c) H1) I h)
def Zrx(ta tb:TE):TE:=λσ H Q=>ta σ H λx H1=>∃c,x=.bl c/\if c=true then tb σ H1 Q else Q (.bl false) H1
def Zm2{op}{t:TE}(h:PE X a t):PE X (.BoolOp op [a] pos) t:=λpq s σ H Q I hw=>BoolOp_one (h pq s σ H Q I hw)
theorem Zm3(ha:PE X a ta)(hb:PE X (.BoolOp .And (b::rest) pos) tb):PE X (.BoolOp .And (a::b::rest) pos) (Zrx ta tb):=by
 intro pq s σ H Q I h;refine BoolOp_and (thn (ha pq s σ H _ I h) λv s1 hz=>?_);let⟨x,H1,I1,r1,q1⟩:=hz;let⟨c,rfl,q1⟩:=q1;cases r1;refine Ep ?_;cases c with
 |true=>exact hb pq s1 σ H1 Q I1 q1
 |false=>exact⟨.bl false,H1,I1,rfl,q1⟩
def tIf(t:TT)(ta tb:TE):TE:=λσ H Q=>t σ H λc H1=>if c=true then ta σ H1 Q else tb σ H1 Q
theorem Zk7{c:Expr}(hc:PT X c tA)(ha:PE X a ta)(hb:PE X b tb):PE X (.IfExp c a b pos) (tIf tA ta tb):=by
 intro pq s σ H Q I h;refine wpAny_IfExp (thn (hc pq s σ H _ I h) λd s1 hz=>?_);let⟨H1,I1,q1⟩:=hz;cases d with
 |true=>exact ha pq s1 σ H1 Q I1 q1
 |false=>exact hb pq s1 σ H1 Q I1 q1
end
def SqL(K:Cr)(H:Hp)(a:Addr)(xs:List V):Prop :=
 Rd H a (.lst xs) \/
  ∃(o:Obj)(its:Array Ca)(n:Nat),K.lookup a=some o/\o.cls=.type "list"/\o.dict=none/\o.data=.seq its n/\its.size<=Cb/\Vals xs its.toList
def SqT(K:Cr)(H:Hp)(a:Addr)(xs:List V):Prop :=
 Rd H a (.tup xs) \/
  ∃(o:Obj)(its:Array Ca)(n:Nat),K.lookup a=some o/\o.cls=.type "tuple"/\o.data=.seq its n/\its.size<=Cb/\Vals xs its.toList
def absV:Ca->Option V
 |.none=>some .non
 |.bool b=>some (.bl b)
 |.int i _=>some (.int i)
 |.str x _=>some (.str x)
 |.bytes b _=>some (.byt b)
 |.float b _=>some (.flt b)
 |.ref a=>some (.ref a)
 |.type n=>some (.ty n)
 |_=>none
theorem RelV.abs{x:V}{u:Ca}(r:RelV x u):absV u=some x:=by
 cases x with
 |non=>cases r;rfl
 |bl _=>cases r;rfl
 |int _=>obtain⟨t,rfl⟩:=r;rfl
 |str _=>obtain⟨t,rfl⟩:=r;rfl
 |byt _=>obtain⟨t,rfl⟩:=r;rfl
 |flt _=>obtain⟨t,rfl⟩:=r;rfl
 |ref _=>cases r;rfl
 |ty _=>cases r;rfl
def RelV.inj{x y:V}{u:Ca}(r:RelV x u)(q:RelV y u):x=y:=Fz (r.abs.symm.trans q.abs)
theorem Vals.inj:∀{xs ys:List V}{us:List Ca},Vals xs us->Vals ys us->xs=ys:=by
 intro _ _ _ hz9 hz8;cases hz9 with
 |nil=>
  cases hz8 with
  |nil=>
   exact rfl
 |cons r t=>
  cases hz8 with
  |cons r' t'=>
   exact by rw[r.inj r',Vals.inj t t']
section
variable{a:Addr} 
def SqL.of(h:H a=some (.lst xs)):SqL K H a xs:=.inl (.inl h)
def SqT.of(h:H a=some (.tup xs)):SqT K H a xs:=.inl (.inl h)
theorem Inv.list(I:Inv X pq σ H s)(h:SqL X.K H a xs):∃its:List Ca,Vals xs its/\PlainL s.heap a its.toArray/\xs.length<=Cb:=by
 rcases h with h|⟨o,its,n,hk,hc,hd,hs,hz,r⟩
 .let⟨z,its,n,r,e⟩:=h.ok I.hok;exists its,r,⟨_,n,e,rfl,rfl,rfl⟩,z
 .exists its.toList,r,⟨o,n,I.kIn a o hk,hc,hd,by simpa using hs⟩,?_;let e:=r.length;simp only[G7]at e;lia
theorem Inv.tuple(I:Inv X pq σ H s)(h:SqT X.K H a xs):∃its:List Ca,Vals xs its/\IsTup s.heap a its.toArray/\xs.length<=Cb:=by
 rcases h with h|⟨o,its,n,hk,hc,hs,hz,r⟩
 .let⟨z,its,r,p⟩:=h.ok I.hok;exists its,r,p.tup,z
 .exists its.toList,r,⟨o,I.kIn a o hk,hc,n,by simpa using hs⟩,?_;let e:=r.length;simp only[G7]at e;lia
def Inv.list_inj(I:Inv X pq σ H s)(h:SqL X.K H a xs)(h':SqL X.K H a ys):xs=ys:=by
 let⟨its,r,⟨o,n,e,_,_,d⟩,_⟩:=I.list h;let⟨its',r',⟨o',n',e',_,_,d'⟩,_⟩:=I.list h';rw[e]at e';cases e';rw[d]at d';injection d' with d1 _
 let:its=its':=by simpa using congrArg Jez d1
 subst this;exact r.inj r'
def Inv.tuple_inj(I:Inv X pq σ H s)(h:SqT X.K H a xs)(h':SqT X.K H a ys):xs=ys:=by
 let⟨its,r,⟨o,e,_,n,d⟩,_⟩:=I.tuple h;let⟨its',r',⟨o',e',_,n',d'⟩,_⟩:=I.tuple h';rw[e]at e';cases e';rw[d]at d';injection d' with d1 _
 let:its=its':=by simpa using congrArg Jez d1
 subst this;exact r.inj r'
end
abbrev Cx.wish(X:Cx)(E:Ca->Cc->Prop):Cx:={X with xe:=E}
abbrev Cx.nox(X:Cx):Cx:=X.wish λ_ _=>False
def Cx.Ok.wish(ok:X.Ok)(E:Ca->Cc->Prop):(X.wish E).Ok :=
 ⟨ok.mod,ok.kind,ok.glob,ok.blt,ok.above,ok.inj,ok.has,ok.cab,ok.hd,ok.frames,ok.stk,ok.exf,ok.bs,ok.bsz,ok.noex,ok.exfs,ok.funs,ok.frf⟩
def Cx.Ok.unwish(ok:(X.wish E).Ok):X.Ok :=
 ⟨ok.mod,ok.kind,ok.glob,ok.blt,ok.above,ok.inj,ok.has,ok.cab,ok.hd,ok.frames,ok.stk,ok.exf,ok.bs,ok.bsz,ok.noex,ok.exfs,ok.funs,ok.frf⟩
section
def Inv.wish(I:Inv X pq σ H s)(E:Ca->Cc->Prop):Inv (X.wish E) pq σ H s:=⟨I.ok.wish E,I.os,I.bare,I.base,I.loc,I.cell,I.free,I.freeC,I.pin,I.hok,I.len⟩
def Inv.unwish(I:Inv (X.wish E) pq σ H s):Inv X pq σ H s:=⟨I.ok.unwish,I.os,I.bare,I.base,I.loc,I.cell,I.free,I.freeC,I.pin,I.hok,I.len⟩
theorem SP.unwish{D:Ends}{f:Flow}{s':Cc}(h:SP (X.wish E) pq D f s'):SP X pq D f s':=by
 cases f with
 |next=>obtain⟨σ',H',I,q⟩:=h;exists σ',H',I.unwish,q
 |brk=>obtain⟨σ',H',I,q⟩:=h;exists σ',H',I.unwish,q
 |cont=>obtain⟨σ',H',I,q⟩:=h;exists σ',H',I.unwish,q
 |ret u=>obtain⟨v,σ',H',I,r,q⟩:=h;exists v,σ',H',I.unwish,r,q
def PSs.nox{st:List Stmt}{t:TS}(h:PSs X.nox st t):PSs X st t:=λpq s σ H D I hw =>
 F7 (h pq s σ H D (I.wish _) hw) (λ_ _ q=>q.unwish) λ_ _ z=>Cq z
end
section
variable{rest:List Stmt}{t u:TS}{e:Expr} 
def Zrr:TS:=λD σ H=>D.nx σ H
def tSeq(t u:TS):TS:=λD σ H=>t {D with nx:=u D} σ H
def Z0:PSs X [] Zrr:=λ_ _ σ H _ I h=>Hy ⟨σ,H,I,h⟩
theorem Zc(h1:PS X st t)(h2:PSs X rest u):PSs X (st::rest) (tSeq t u):=by
 intro pq s σ H D I h;refine Ja4 (thn (h1 pq s σ H {D with nx:=u D} I h) λf s1 q=>?_);cases f with
 |next =>
  let⟨σ',H',I',q⟩:=q;exact h2 pq s1 σ' H' D I' q
 |ret v=>exact q
 |brk=>exact q
 |cont=>exact q
theorem Zf(h1:PS X st t):PSs X [st] t:=by
 intro pq s σ H D I h;refine Ja4 (thn (h1 pq s σ H D I h) λf s1 q=>?_);cases f with
 |next=>exact Hy q
 |ret v=>exact q
 |brk=>exact q
 |cont=>exact q
def Zrw:TS:=λD σ H=>D.ct σ H
def Zck:PS X (.Continue pos) Zrw:=λ_ _ σ H _ I h=>wpAny_Continue ⟨σ,H,I,h⟩
def Inv.quiet(I:Inv X pq σ H s):interactive X.env=false:=by simp[interactive,I.ok.kind]
def Zn7(te:TE):TS:=λD σ H=>te σ H λ_ H1=>D.nx σ H1
def Wu(he:PE X e te)(hs:Mj e none pos.line X.env=pure false:=by rfl):PS X (.Expr e pos) (Zn7 te):=by
 intro pq s σ H D I h;exact wpAny_Expr_any (thn (he pq s σ H _ I h) λv s1⟨x,H1,I1,r1,q1⟩=>⟨σ,H1,I1,q1⟩) I.quiet hs
def tRet(te:TE):TS:=λD σ H=>te σ H D.rt
def Zu(he:PE X e te):PS X (.Return (some e) pos) (tRet te):=by
 intro pq s σ H D I h;exact wpAny_Return_some (thn (he pq s σ H _ I h) λv s1⟨x,H1,I1,r1,q1⟩=>⟨x,σ,H1,I1,r1,q1⟩)
def Zu6:TS:=λD _ H=>D.rt .non H
def Zov:PS X (.Return none pos) Zu6:=λ_ _ σ H _ I h=>wpAny_Return_none ⟨.non,σ,H,I,rfl,h⟩
def tIfS(c:TT)(t u:TS):TS:=λD σ H=>c σ H λb H1=>if b=true then t D σ H1 else u D σ H1
theorem Yu{c:Expr}{a b:List Stmt}(hc:PT X c tc)(ha:PSs X a t)(hb:PSs X b u):PS X (.If c a b pos) (tIfS tc t u):=by
 intro pq s σ H D I h;refine wpAny_If (thn (hc pq s σ H _ I h) λd s1 hz=>?_);let⟨H1,I1,q1⟩:=hz;cases d with
 |true=>exact ha pq s1 σ H1 D I1 q1
 |false=>exact hb pq s1 σ H1 D I1 q1
def Zrs:TS:=λ_ _ _=>False
def Zd4:PS X st Zrs:=λ_ _ _ _ _ _ h=>h.elim
end
abbrev TG:=V->St->Hp->(St->Hp->Prop)->Prop
variable{g:L2.TG}
abbrev TGs:=List V->St->Hp->(St->Hp->Prop)->Prop
def PG(X:Cx)(target:Expr)(t:TG):Prop :=
 ∀(pq:List (Addr×Obj))(s:Cc)(σ:St)(H:Hp)(v:V)(u:Ca)(Q:St->Hp->Prop),Inv X pq σ H s->RelV v u->t v σ H Q ->
  Cd (Ck X.prog X.w) X.A (Je0 target X.env u) (λ_ s'=>∃σ' H',Inv X pq σ' H' s'/\Q σ' H') X.xe s
def PGs(X:Cx)(ts:List Expr)(t:TGs):Prop :=
 ∀(pq:List (Addr×Obj))(s:Cc)(σ:St)(H:Hp)(vs:List V)(us:List Ca)(Q:St->Hp->Prop),Inv X pq σ H s->Vals vs us->t vs σ H Q ->
  Cd (Ck X.prog X.w) X.A (assignInOrder ((Ml ts X.env).map (·.2)) us) (λ_ s'=>∃σ' H',Inv X pq σ' H' s'/\Q σ' H') X.xe s
abbrev TSet:=V->V->V->Hp->(Hp->Prop)->Prop
def PSet(X:Cx)(t:TSet):Prop :=
 ∀(pq:List (Addr×Obj))(s:Cc)(σ:St)(H:Hp)(o i v:V)(ov iv u:Ca)(Q:Hp->Prop),Inv X pq σ H s->RelV o ov->RelV i iv->RelV v u->t o i v H Q ->
  Cd (Ck X.prog X.w) X.A (Jhz ov iv u) (λ_ s'=>∃H',Inv X pq σ H' s'/\Q H') X.xe s
abbrev TIp:=V->V->Hp->VK->Prop
def PIp(X:Cx)(op:Jg3)(t:TIp):Prop :=
 ∀(pq:List (Addr×Obj))(s:Cc)(σ:St)(H:Hp)(x y:V)(v u:Ca)(Q:VK),Inv X pq σ H s->RelV x v->RelV y u->t x y H Q ->
  Cd (Ck X.prog X.w) X.A (inplaceOp op v u) (EP X pq σ Q) X.xe s
section
def Zc2(i:Nat):TG:=λv σ H Q=>Q (σ.set i (some v)) H
def Zn{x:Str}(hN:X.N.Nodup)(hi:X.N[i]?=some x)(hx:Loc X.env.scope x)(hf:X.fn x=true\/X.env.scope.names.lookup x=some .local:=by first|left;rfl|right;rfl|assumption):PG X (.Name x pos) (Zc2 i):=by
 intro pq s σ H v u Q I r h;exact Jei (Nc I hN hi hx r (λs' I'=>⟨_,H,I',h⟩) hf)
def gNil:TGs:=λvs σ H Q=>vs=[]/\Q σ H
def Zpu(t:TG)(u:TGs):TGs:=λvs σ H Q=>∃v r,vs=v::r/\t v σ H λσ' H'=>u r σ' H' Q
def Xf:PGs X [] gNil:=by
 intro pq s σ H vs us Q I r h;let⟨e,h⟩:=h;subst e;cases r;exact assignInOrder_nil ⟨σ,H,I,h⟩
theorem Zw{e:Expr}{t:TG}{u:TGs}(h1:PG X e t)(h2:PGs X es u)(hs:(Ml (e::es) X.env).map (·.2)=Je0 e X.env::(Ml es X.env).map (·.2):=by rfl):PGs X (e::es) (Zpu t u):=by
 intro pq s σ H vs us Q I r h;let⟨v,vr,e1,h⟩:=h;subst e1;cases r with
 |cons r rr =>
  rw[hs];refine assignInOrder_cons (thn (h1 pq s σ H _ _ _ I r h) λ_ s1 hz=>?_);let⟨σ1,H1,I1,q1⟩:=hz;exact h2 pq s1 σ1 H1 _ _ Q I1 rr q1
def gTup(K:Cr)(n:Nat)(t:TGs):TG:=λv σ H Q=>∃a xs,v=.ref a/\SqT K H a xs/\xs.length=n/\t xs σ H Q
def Wm{k:Nat}{t:TGs}{n:Nat}(hc:X.calm=true)(h:PGs X es t)(hn:(Ml es X.env).length=n:=by rfl)(hst:(Ml es X.env).findIdx? (·.1)=none:=by rfl):PG X (.Tuple es k pos) (gTup X.K n t):=by
 intro pq s σ H v u Q I r hw;let⟨a,xs,e1,hq,hl,hw⟩:=hw;subst e1;cases r;let⟨its,rv,ht,hz⟩:=I.tuple hq;refine assign_Tuple_tuple (I.ok.hd hc) ht (by simp[hn,<-hl,rv.length]) hst λh' hx=>?_;let I1:Inv X pq σ H {s with heap:=h'}:=I.kept (t':=s.toks) λb o e=>hx b o (Gd (Fu e)) e;exact h pq _ σ H xs _ Q I1 (by simpa using rv) hw
def gSub(to ti:TE)(t:TSet):TG:=λv σ H Q=>to σ H λo H1=>ti σ H1 λi H2=>t o i v H2 λH3=>Q σ H3
def Zhq{o i:Expr}{ti:TE}{t:TSet}(ho:PE X o to)(hi:PE X i ti)(hs:PSet X t)(ha:∀v,Je0 (.Subscript o i pos) X.env v=(do
   let ov <-Hw [v] (eval o X.env)
   let iv <-Hw [v,ov] (eval i X.env)
   Lv pos
   Hw [v,ov,iv] (Jhz ov iv v)
   release [v,ov,iv] []):=by intro _;rfl):PG X (.Subscript o i pos) (gSub to ti t):=by
 intro pq s σ H v u Q I r h;rw[ha];refine Fo (Cy (thn (ho pq s σ H _ I h) λov s1 hz=>?_));let⟨x,H1,I1,r1,q1⟩:=hz;refine Fo (Cy (thn (hi pq s1 σ H1 _ I1 q1) λiv s2 hz=>?_));let⟨y,H2,I2,r2,q2⟩:=hz;refine Fo (E7 (Fo (Cy (thn (hs pq s2 σ H2 x y v ov iv u _ I2 r1 r2 r q2) λ_ s3 hz=>?_))));let⟨H3,I3,q3⟩:=hz;exact wpAny_release ⟨σ,H3,I3,q3⟩
def tAsg(te:TE)(g:TG):TS:=λD σ H=>te σ H λx H1=>g x σ H1 D.nx
def Pl{e:Expr}(he:PE X e te)(hg:PG X tg g)(hs:swapsWithSole [tg] e pos.line X.env=pure false:=by rfl)(hw:swappedStores [tg] e X.env=pure none:=by rfl)(h1:(Ml [tg] X.env).map (·.2)=[Je0 tg X.env]:=by rfl):PS X (.Assign [tg] e pos) (tAsg te g):=by
 intro pq s σ H D I h;refine wpAny_Assign_stores (thn (he pq s σ H _ I h) λv s1 hz=>?_) hs hw;let⟨x,H1,I1,r1,q1⟩:=hz;rw[h1];exact thn (hg pq s1 σ H1 x v _ I1 r1 q1) λ_ s2 q=>q
def Zr{x:Str}{e:Expr}(hN:X.N.Nodup)(hi:X.N[i]?=some x)(hx:Loc X.env.scope x)(he:PE X e te)(hs:Mj e (some (.Name x pos')) pos.line X.env=pure false:=by rfl)(hf:X.fn x=true\/X.env.scope.names.lookup x=some .local:=by first|left;rfl|right;rfl|assumption) :
  PS X (.Assign [.Name x pos'] e pos) (tAsg te (Zc2 i)):=by
 intro pq s σ H D I h;refine wpAny_Assign_Name (thn (he pq s σ H _ I h) λv s1 hz=>?_) hs;let⟨y,H1,I1,r1,q1⟩:=hz;exact Nc I1 hN hi hx r1 (λs2 I2=>⟨_,H1,I2,q1⟩) hf
def tAug(i:Nat)(te:TE)(ti:TIp):TS:=λD σ H=>∃x,σ[i]?=some (some x)/\te σ H λy H1=>ti x y H1 λz H2=>D.nx (σ.set i (some z)) H2
def Zss{x:Str}{e:Expr}{op:Jg3}{ti:TIp}(hN:X.N.Nodup)(hi:X.N[i]?=some x)(hx:Loc X.env.scope x)(he:PE X e te)(ho:PIp X op ti)(hf:X.fn x=true\/X.env.scope.names.lookup x=some .local:=by first|left;rfl|right;rfl|assumption) :
  PS X (.AugAssign (.Name x pos') op e pos) (tAug i te ti):=by
 intro pq s σ H D I h;let⟨v,e1,h⟩:=h;let⟨m,hn,hl⟩:=I.loc;let vis:Vis X.env.scope x:=by rcases hx with k|k;exact .inl k;exact .inr (.inl k)
 let⟨u,r,l⟩:=hl i x v hi e1 vis;refine wpAny_AugAssign_Name ?_;let go:Cd (Ck X.prog X.w) X.A (eval e X.env) (λw s₂=>Cd (Ck X.prog X.w) X.A (inplaceOp op u w) (λr s₃=>Cd (Ck X.prog X.w) X.A (Jhi X.env x r) (λ_=>SP X pq D .next) X.xe s₃) X.xe s₂) X.xe s:=by
  refine thn (he pq s σ H _ I h) λw s1 hz=>?_;let⟨y,H1,I1,r1,q1⟩:=hz;refine thn (ho pq s1 σ H1 v y u w _ I1 r r1 q1) λz s2 hz=>?_;let⟨zv,H2,I2,r2,q2⟩:=hz;exact Nc I2 hN hi hx r2 (λs3 I3=>⟨_,H2,I3,q2⟩) hf
 rcases l with⟨hk,hm⟩|⟨hk,c,hc,hcell⟩
 .exact Jdi I.ok.kind hk hn hm go
 .rcases hk with hk|hk
  .exact Jds I.ok.kind hk hc hcell go
  .rcases hx with k|k
   .let:X.env.scope.names.lookup x=some .free:=hk;rw[k]at this;cases this
   .let:X.env.scope.names.lookup x=some .free:=hk;rw[k]at this;cases this
def Zu7(to ti te:TE)(tget:V->V->Hp->VK->Prop)(tip:TIp)(tset:TSet):TS:=λD σ H=>to σ H λo H1=>ti σ H1 λi H2=>tget o i H2 λx H3=>te σ H3 λy H4=>tip x y H4 λz H5=>tset o i z H5 λH6=>D.nx σ H6
def PGet(X:Cx)(t:V->V->Hp->VK->Prop):Prop :=
 ∀(pq:List (Addr×Obj))(s:Cc)(σ:St)(H:Hp)(o i:V)(ov iv:Ca)(Q:VK),Inv X pq σ H s->RelV o ov->RelV i iv->t o i H Q ->
  Cd (Ck X.prog X.w) X.A (Lw ov iv) (EP X pq σ Q) X.xe s
def Zow{o i e:Expr}{ti:TE}{tget:V->V->Hp->VK->Prop}{tip:TIp}{tset:TSet}{op:Jg3}{tpos:Pos}(ho:PE X o to)(hi:PE X i ti)(hg:PGet X tget)(he:PE X e te)(hp:PIp X op tip)(hs:PSet X tset)(ha:∀ov iv new,augStore i ov iv new=(do Hw [new,ov,iv] (Jhz ov iv new);release [new,ov,iv] [];pure .next):=by intros;rfl):PS X (.AugAssign (.Subscript o i tpos) op e pos) (Zu7 to ti te tget tip tset):=by
 intro pq s σ H D I h;refine wpAny_AugAssign_SubscriptAny (thn (ho pq s σ H _ I h) λov s1 hz=>?_) ha;let⟨x1,H1,I1,r1,q1⟩:=hz;refine thn (hi pq s1 σ H1 _ I1 q1) λiv s2 hz=>?_;let⟨x2,H2,I2,r2,q2⟩:=hz;refine thn (hg pq s2 σ H2 x1 x2 ov iv _ I2 r1 r2 q2) λold s3 hz=>?_;let⟨x3,H3,I3,r3,q3⟩:=hz;refine thn (he pq s3 σ H3 _ I3 q3) λv s4 hz=>?_;let⟨x4,H4,I4,r4,q4⟩:=hz;refine thn (hp pq s4 σ H4 x3 x4 old v _ I4 r3 r4 q4) λnew s5 hz=>?_;let⟨x5,H5,I5,r5,q5⟩:=hz;exact thn (hs pq s5 σ H5 x1 x2 x5 ov iv new _ I5 r1 r2 r5 q5) λ_ s6⟨H6,I6,q6⟩=>⟨σ,H6,I6,q6⟩
def ipI(f:Int->Int->Int):TIp:=λx y H Q=>∃i j,x=.int i/\y=.int j/\Q (.int (f i j)) H
def Zm7:PIp X .Add (ipI λi j=>i+j):=by
 intro pq s σ H x y v u Q I r1 r2 h;let⟨i,j,e1,e2,q⟩:=h;subst e1;subst e2;let⟨t,rfl⟩:=r1;let⟨t',rfl⟩:=r2;exact iadd_int ⟨.int _,H,I.tok _,⟨_,rfl⟩,q⟩
end
section
def Zmd(c:TT)(tb:TS):TS:=λD σ H=>∃W:Nat->St->Hp->Prop,(∃m,W m σ H)/\∀m σ H,W m σ H ->
 c σ H λb H1=>if b=true then ∃N:St->Hp->Prop,(∀σ' H',N σ' H'->∃m',m'<m/\W m' σ' H')/\tb {D with nx:=N,ct:=N,bk:=D.nx} σ H1 else D.nx σ H1
theorem Zk0{c:Expr}{tb:TS}(hp:PassesOwn (Ck X.prog X.w) X.A X.env X.xe)(hc:PT X c tc)(hb:PSs X body tb):PS X (.While c body [] pos) (Zmd tc tb):=by
 intro pq s σ H D I h;let⟨W,⟨m0,w0⟩,turn⟩:=h;refine wpAny_While (codeAny_whileLoop (λn s'=>∃σ' H',Inv X pq σ' H' s'/\W n σ' H') ?_ m0 ⟨σ,H,I,w0⟩);rintro n s1 ⟨σ1,H1,I1,w1⟩;refine He hp (thn (hc pq s1 σ1 H1 _ I1 (turn n σ1 H1 w1)) λb s2 hz=>?_);let⟨H2,I2,q2⟩:=hz;cases b with
 |true =>
  let⟨N,hN,q2⟩:=q2;rw[Fw rfl];refine He hp (thn (hb pq s2 σ1 H2 _ I2 q2) λf s3 q3=>?_);cases f with
  |next =>
   let⟨σ3,H3,I3,n3⟩:=q3;let⟨m',hm,w3⟩:=hN σ3 H3 n3;exists m',hm,σ3,H3,I3,w3
  |cont =>
   let⟨σ3,H3,I3,n3⟩:=q3;let⟨m',hm,w3⟩:=hN σ3 H3 n3;exists m',hm,σ3,H3,I3,w3
  |brk=>exact q3
  |ret v=>exact q3
 |false =>
  rw[Fv Jr];exact Hy ⟨σ1,H2,I2,q2⟩
end
structure It where
 go:Nat->Hp->Prop
 yld:Nat->Hp->V->Hp->Prop
 stop:Nat->Hp->Prop
def FpOk(X:Cx)(pq:List (Addr×Obj))(H:Hp)(b:Addr):Prop :=
 H b=none/\b≠X.env.locals/\b∉X.fs/\(b∈X.ex\/X.s₀.heap.objs.size<=b)/\(∀x c,X.env.cells.lookup x=some c->c≠b)/\∀p∈X.pn++pq,p.1≠b
def Inv.fpOk{b:Addr}(I:Inv X pq σ H s)(hb:s.heap.objs.size<=b)(hn:H' b=none):FpOk X pq H' b:=by
 exists hn,Ff (Ga I.lt hb),I.nofs hb,.inr (Jy I.sz hb),λx c e z=>?_,λp hp z=>?_
 .let⟨v,q⟩:=I.cell x c e;exact Fl (Ga q.lt (by rw[z];exact hb)) (G5 _)
 .exact Fl (Ga (Fu (I.pin p hp).1) (by rw[z];exact hb)) (G5 _)
structure Turn(P:Ez)(w:Hm)(K:Cr)(tg:Expr)(J:It)(fp:List Addr)(it:Addr)(tn:Nat->Heap->Prop):Prop where
 mem:it∈fp
 obj:∀i h,tn i h->∀b∈fp,∃o,h.get? b=some o/\∀v,o.data≠.cell v
 keep:∀i h h',tn i h->(∀b∈fp,∀o,h.get? b=some o->h'.get? b=some o)->tn i h'
 item:∀(X:Cx),X.prog=P->X.w=w->X.K=K->X.calm=true->∀(i:Nat)(pq:List (Addr×Obj))(s:Cc)(σ:St)(H:Hp)(E:Ca->Cc->Prop),Inv X pq σ H s->(∀b∈fp,FpOk X pq H b)->tn i s.heap->J.go i H ->
  Cd (Ck P w) X.A (Lx (.ref it)) (λr s1=>∃u,r=some u /\
   Cd (Ck P w) X.A (Ly tg (.ref it) u) (λ_ s2=>∃x H',Inv X pq σ H' s2/\RelV x u/\J.yld i H x H'/\tn (i+1) s2.heap/\∀b∈fp,H' b=none) E s1) E s
 done:∀(X:Cx),X.prog=P->X.w=w->X.K=K->X.calm=true->∀(i:Nat)(pq:List (Addr×Obj))(s:Cc)(σ:St)(H:Hp)(E:Ca->Cc->Prop),Inv X pq σ H s->(∀b∈fp,FpOk X pq H b)->tn i s.heap->J.stop i H ->
  Cd (Ck P w) X.A (Lx (.ref it)) (λr s1=>r=none/\Inv X pq σ H s1) E s
 self:∀(A:Kj)(i:Nat)(s:Cc)(Q:Ca->Cc->Prop)(E:Ca->Cc->Prop),tn i s.heap->Q (.ref it) s->Cd (Ck P w) A (pyIter (.ref it)) Q E s
abbrev TI:=St->Hp->(It->Hp->Prop)->Prop
variable{wi:L2.TI}
def PIE(X:Cx)(pq:List (Addr×Obj))(σ:St)(tg:Expr)(R:It->Hp->Prop)(itv:Ca)(s2:Cc):Prop :=
 ∃(it:Addr)(fp:List Addr)(tn:Nat->Heap->Prop)(J:It)(H':Hp),itv=.ref it/\Inv X pq σ H' s2/\Turn X.prog X.w X.K tg J fp it tn/\tn 0 s2.heap/\(∀b∈fp,FpOk X pq H' b)/\R J H'
def PI(X:Cx)(tg iter:Expr)(wi:TI):Prop :=
 ∀(pq:List (Addr×Obj))(s:Cc)(σ:St)(H:Hp)(R:It->Hp->Prop),Inv X pq σ H s->wi σ H R ->
  Cd (Ck X.prog X.w) X.A (eval iter X.env) (λv s1=>Cd (Ck X.prog X.w) X.A (pyIter v) (PIE X pq σ tg R) X.xe s1) X.xe s
def Zps{M:Jhx}{u:Ca}{o:Obj}{n:String}{vs:Array Ca}{Q:Unit->Cc->Prop}(ho:s.heap.get? it=some o)(hc:o.cls=.type n)(hd:o.data=.fields vs)(hn:["enumerate","zip","dict_itemiterator","dict_reverseitemiterator","odict_iterator","itertools.zip_longest","itertools.pairwise"].contains n=false)(hQ:Q ⟨⟩ s):Cd M A (Ly tg (.ref it) u) Q E s:=by
  unfold Ly;cases tg<;>first
    |exact Fp hQ
    | (cases u <;> first
        |exact Fp hQ
        | (refine Fo (Jej ho ?_)
           rw[hc,hd];show Cd M A (if(["enumerate","zip","dict_itemiterator","dict_reverseitemiterator","odict_iterator","itertools.zip_longest","itertools.pairwise"].contains n&&vs[0]? == some (Hz _))=true then _ else _) Q E s;rw[Fv (by intro h;rw[hn,B6]at h;cases h)];exact Fp hQ))
def Itl(K:Cr)(a:Addr):It :=
 ⟨λi H=>∃xs x,SqL K H a xs/\xs[i]?=some x,λi H x H'=>H'=H/\∀xs,SqL K H a xs->xs[i]?=some x,λi H=>∃xs,SqL K H a xs/\xs.length<=i⟩
def Itt(K:Cr)(a:Addr):It :=
 ⟨λi H=>∃xs x,SqT K H a xs/\xs[i]?=some x,λi H x H'=>H'=H/\∀xs,SqT K H a xs->xs[i]?=some x,λi H=>∃xs,SqT K H a xs/\xs.length<=i⟩
def Itr(lo:Int)(n:Nat):It:=⟨λi _=>i<n,λi H x H'=>H'=H/\x=.int (lo+i),λi _=>n<=i⟩
theorem Zgg(a it:Addr):Turn P w K tg (Itl K a) [it] it (λi h=>h.IsListIter it a i) where
 mem:=by simp
 obj:=λi h st b hb=>by
  let e:b=it:=by simpa using hb
  subst e;let⟨o,e,c,d⟩:=st;exact⟨o,e,λv z=>by rw[d]at z;cases z⟩
 keep:=λi h h' st k=>st.at λo e=>k it (by simp) o e
 item:=by
  intro X hP hw hK hc i pq s σ H E I hf st hg;subst hP hw hK;let⟨xs,x,hq,hx⟩:=hg;let⟨its,rv,p,hz⟩:=I.list hq;let⟨u,hu,ru⟩:=rv.get hx;let⟨f0,f1,f2,f3,f4,f5⟩:=hf it (by simp);refine Jb1 st p.isList (x:=u) (by simpa using hu) λh' st' sb=>?_;let I1:Inv X pq σ H {s with heap:=h'}:=I.turned (t':=s.toks) (λb o hb e=>(sb.2 b hb).trans e) f0 f1 f3 f4 f5;let⟨o,e,c,d⟩:=id st';exists u,rfl,Zps (s:={s with heap:=h'}) e c d nofun ⟨x,H,I1,ru,⟨rfl,λys hy=>by rw[I.list_inj hy hq];exact hx⟩,st',λb hb=>(hf b hb).1⟩
 done:=by
  intro X hP hw hK hc i pq s σ H E I hf st hg;subst hP hw hK;let⟨xs,hq,hx⟩:=hg;let⟨its,rv,p,hz⟩:=I.list hq;let⟨f0,f1,f2,f3,f4,f5⟩:=hf it (by simp);let hl:=rv.length;exact Jcz (I.ok.hd hc) st p.isList (by simp;lia) λh' eb=>⟨rfl,I.turned (t':=s.toks) (λb o hb e=>eb b o hb e) f0 f1 f3 f4 f5⟩
 self:=λ_ _ _ _ _ st h=>wpAny_pyIter_listiter st h
theorem Zex(a it:Addr):Turn P w K tg (Itt K a) [it] it (λi h=>h.IsTupleIter it a i) where
 mem:=by simp
 obj:=λi h st b hb=>by
  let e:b=it:=by simpa using hb
  subst e;let⟨o,e,c,d⟩:=st;exact⟨o,e,λv z=>by rw[d]at z;cases z⟩
 keep:=λi h h' st k=>st.at λo e=>k it (by simp) o e
 item:=by
  intro X hP hw hK hc i pq s σ H E I hf st hg;subst hP hw hK;let⟨xs,x,hq,hx⟩:=hg;let⟨its,rv,p,hz⟩:=I.tuple hq;let⟨u,hu,ru⟩:=rv.get hx;let⟨f0,f1,f2,f3,f4,f5⟩:=hf it (by simp);refine Mv st (show s.heap.IsTuple a its.toArray from p) (x:=u) (by simpa using hu) λh' st' sb=>?_;let I1:Inv X pq σ H {s with heap:=h'}:=I.turned (t':=s.toks) (λb o hb e=>(sb.2 b hb).trans e) f0 f1 f3 f4 f5;let⟨o,e,c,d⟩:=id st';exists u,rfl,Zps (s:={s with heap:=h'}) e c d nofun ⟨x,H,I1,ru,⟨rfl,λys hy=>by rw[I.tuple_inj hy hq];exact hx⟩,st',λb hb=>(hf b hb).1⟩
 done:=by
  intro X hP hw hK hc i pq s σ H E I hf st hg;subst hP hw hK;let⟨xs,hq,hx⟩:=hg;let⟨its,rv,p,hz⟩:=I.tuple hq;let⟨f0,f1,f2,f3,f4,f5⟩:=hf it (by simp);let hl:=rv.length;exact Jb2 (I.ok.hd hc) st (show s.heap.IsTuple a its.toArray from p) (by simp;lia) λh' eb=>⟨rfl,I.turned (t':=s.toks) (λb o hb e=>eb b o hb e) f0 f1 f3 f4 f5⟩
 self:=λ_ _ _ _ _ st h=>wpAny_pyIter_tupleiter st h
theorem Zey(it:Addr)(lo:Int)(n:Nat):Turn P w K tg (Itr lo n) [it] it (λi h=>IsRangeIter h it (lo+(i:Nat)*1) ((n:Int)-(i:Nat)) 1) where
 mem:=by simp
 obj:=λi h st b hb=>by
  let e:b=it:=by simpa using hb
  subst e;exact⟨_,st,λv z=>by
   let z':Jfm _=Data.cell v:=z;cases z'⟩
 keep:=λi h h' st k=>k it (by simp) _ st
 item:=by
  intro X hP hw hK hc i pq s σ H E I hf st hg;subst hP hw hK;let⟨f0,f1,f2,f3,f4,f5⟩:=hf it (by simp);let W:=Walks.range (prog:=X.prog) (w:=X.w) (I.ok.hd hc) it lo 1 n;refine W.item i s _ _ hg st λv h' tk hv st' kk=>?_;let⟨t,rfl⟩:=hv;let I1:Inv X pq σ H {s with heap:=h',toks:=tk}:=I.turned (λb o hb e=>kk b o (by simpa using hb) e) f0 f1 f3 f4 f5;exists ·,Zps (s:={s with heap:=h',toks:=tk}) (n:="range_iterator") st' rfl rfl nofun ⟨.int (lo+i),H,I1,⟨t,?_⟩,⟨rfl,rfl⟩,st',λb hb=>(hf b hb).1⟩;rw[Jfn]
 done:=by
  intro X hP hw hK hc i pq s σ H E I hf st hg;subst hP hw hK;let⟨f0,f1,f2,f3,f4,f5⟩:=hf it (by simp);exact wpAny_pyNext_range_end (I.ok.hd hc) st (by have:n<=i:=hg;lia) λh' eb=>⟨rfl,I.turned (t':=s.toks) (λb o hb e=>eb b o hb e) f0 f1 f3 f4 f5⟩
 self:=λ_ _ _ _ _ st h=>wpAny_pyIter_rangeiter st h
section
def Zpp(K:Cr)(tl:TE):TI:=λσ H R=>tl σ H λx H1=>∃a,x=.ref a/\(∃xs,SqL K H1 a xs)/\R (Itl K a) H1
def iTup(K:Cr)(tl:TE):TI:=λσ H R=>tl σ H λx H1=>∃a,x=.ref a/\(∃xs,SqT K H1 a xs)/\R (Itt K a) H1
def Z8{l:Expr}{tl:TE}(hl:PE X l tl):PI X tg l (Zpp X.K tl):=by
 intro pq s σ H R I h;refine thn (hl pq s σ H _ I h) λv s1 hz=>?_;let⟨x,H1,I1,r1,q1⟩:=hz;let⟨a,e,⟨xs,hq⟩,q⟩:=q1;subst e;cases r1;let⟨its,rv,p,hz⟩:=I1.list hq;refine E2 p.isList ?_;exists s1.heap.objs.size,[s1.heap.objs.size],_,_,H1,rfl,I1.kept (t':=s1.toks) λb o e=>Fs _ e,Zgg a _,⟨_,Ft _ rfl,rfl,rfl⟩,λb hb=>?_,q;let e:b=s1.heap.objs.size:=by simpa using hb
 subst e;exact I1.fpOk (Jd _) (I1.hok.fresh (Jd _))
def Zd5{l:Expr}{tl:TE}(hl:PE X l tl):PI X tg l (iTup X.K tl):=by
 intro pq s σ H R I h;refine thn (hl pq s σ H _ I h) λv s1 hz=>?_;let⟨x,H1,I1,r1,q1⟩:=hz;let⟨a,e,⟨xs,hq⟩,q⟩:=q1;subst e;cases r1;let⟨its,rv,p,hz⟩:=I1.tuple hq;refine Jd0 (show s1.heap.IsTuple a its.toArray from p) ?_;exists s1.heap.objs.size,[s1.heap.objs.size],_,_,H1,rfl,I1.kept (t':=s1.toks) λb o e=>Fs _ e,Zex a _,⟨_,Ft _ rfl,rfl,rfl⟩,λb hb=>?_,q;let e:b=s1.heap.objs.size:=by simpa using hb
 subst e;exact I1.fpOk (Jd _) (I1.hok.fresh (Jd _))
theorem Zku{R:It->Hp->Prop}{lo hi:Int}{t u v:Tok}{tk:Nat}(I:Inv X pq σ H s)(h1:-(2 ^ 62)<=lo)(h2:lo<2 ^ 62)(h3:-(2 ^ 62)<=hi)(h4:hi<2 ^ 62)(q:R (Itr lo (hi-lo).toNat) H):Cd (Ck X.prog X.w) X.A (pyIter (.ref s.heap.objs.size)) (PIE X pq σ tg R) E {s with heap:=s.heap.push {cls:=.type "range",data:=.fields #[.int lo t,.int hi u,.int 1 v]},toks:=tk}:=by
 refine wpAny_pyIter_range (IsRange.new ..) (small_one h1 h2 h3 h4) ?_;let I1:Inv X pq σ H {s with heap:=s.heap.push {cls:=.type "range",data:=.fields #[.int lo t,.int hi u,.int 1 v]},toks:=tk}:=I.kept λb o e=>Fs _ e;refine⟨(s.heap.push {cls:=.type "range",data:=.fields #[.int lo t,.int hi u,.int 1 v]}).objs.size,[(s.heap.push {cls:=.type "range",data:=.fields #[.int lo t,.int hi u,.int 1 v]}).objs.size],_,_,H,rfl,
  I1.kept (t':=tk) λb o e=>Fs _ e,Zey _ lo (hi-lo).toNat,?_,λb hb=>?_,q⟩
 .let e1:lo+((0:Nat):Int)*1=lo:=by simp
  let e2:(((hi-lo).toNat:Nat):Int)-((0:Nat):Int)=Jg4 lo hi 1:=by rw[rangeSize_one];split<;>lia
  show IsRangeIter _ _ (lo+((0:Nat):Int)*1) ((((hi-lo).toNat:Nat):Int)-((0:Nat):Int)) 1;rw[e1,e2];exact Ft _ rfl
 .let e:b=(s.heap.push {cls:=.type "range",data:=.fields #[.int lo t,.int hi u,.int 1 v]}).objs.size:=by simpa using hb
  subst e;exact I1.fpOk (Jd _) (I1.hok.fresh (Jd _))
def Ztk(ta:TA):TI:=λσ H R=>ta σ H λvs H1=>∃j:Int,vs=[.int j]/\-(2 ^ 62)<=j/\j<2 ^ 62/\R (Itr 0 j.toNat) H1
theorem Yb{a:Expr}{ta:TA}{p:Pos}(hg:Gl X "range")(hm:X.mg "range"=none)(ha:PA X [a] ta)(hs:Cj [a] X.env=[(false,eval a X.env)]:=by rfl):PI X tg (.Call (.Name "range" p) [a] [] pos) (Ztk ta):=by
 intro pq s σ H R I h;refine Call_ (T8 I hg hm boot_range (Ka (thn (ha pos pq s σ H _ I h) λus s1 hz=>?_) hs rfl));let⟨vs,H1,I1,r1,q1⟩:=hz;let⟨j,e,q1,q2,q⟩:=q1;subst e;cases r1 with
 |cons r rr =>
  cases rr;let⟨t,rfl⟩:=r;exact call_range_1 (Zku I1 () () q1 q2 (by simpa using q))
def tFor(wi:TI)(g:TG)(tb:TS):TS:=λD σ H=>wi σ H λJ H1=>∃W:Nat->Nat->St->Hp->Prop,(∃m,W 0 m σ H1)/\∀i m σ H,W i m σ H ->
 (J.stop i H/\D.nx σ H)\/(J.go i H/\∃N:St->Hp->Prop,(∀σ' H',N σ' H'->∃m',m'<m/\W (i+1) m' σ' H')/\∀x H',J.yld i H x H'->g x σ H' λσ2 H2=>tb {D with nx:=N,ct:=N,bk:=D.nx} σ2 H2)
def Zay(fp:List Addr)(h:Heap):List (Addr×Obj):=fp.filterMap λb=>(h.get? b).map λo=>(b,o)
def U4{b:Addr}{o:Obj}(hb:b∈fp)(e:h.get? b=some o):(b,o)∈Zay fp h:=B0.mpr ⟨b,hb,by rw[e];rfl⟩
theorem Zh5{p:Addr×Obj}(hp:p∈Zay fp h):p.1∈fp/\h.get? p.1=some p.2:=by
 let⟨b,hb,e⟩:=B0.mp hp;cases q:h.get? b with
 |none=>rw[q]at e;cases e
 |some o =>
  rw[q]at e;let e':(b,o)=p:=Fz e;subst e';exists hb,q
def Inv.pinned(I:Inv X pq σ H s)(hf:∀b∈fp,FpOk X pq H b)(ho:∀b∈fp,∃o,s.heap.get? b=some o/\∀v,o.data≠.cell v):Inv X (pq++Zay fp s.heap) σ H s :=
 I.pins_of λp hp=>(J9.mp hp).elim (λz=>I.pin p (Js _ z)) λz=>by
  let⟨hb,e⟩:=Zh5 z;let⟨f0,f1,f2,_⟩:=hf p.1 hb;let⟨o,e',d⟩:=ho p.1 hb;rw[e]at e';cases e';exists e,f0,f1,f2,d
def Inv.unpinned{pl:List (Addr×Obj)}(I:Inv X (pq++pl) σ H s):Inv X pq σ H s:=I.pins_of λp hp=>I.pin p (Js _ (Gw _ hp))
def Y8{iter:Expr}{tb:TS}(hp:PassesOwn (Ck X.prog X.w) X.A X.env X.xe)(hc:X.calm=true)(hi:PI X tg iter wi)(hg:PG X tg g)(hb:PSs X body tb)(hs:∀x,Mm iter X.env x=pure x:=by intro _;rfl):PS X (.For tg iter body [] pos) (tFor wi g tb):=by
 intro pq s σ H D I h;refine wpAny_For (thn (hi pq s σ H _ I h) λv s1 h1=>thn h1 λitv s2 h2=>?_) hs;let⟨it,fp,tn,J,H2,e,I2,T,st2,f2,W,⟨m0,w0⟩,turn⟩:=h2;subst e;let stat:∀{H':Hp},(∀b∈fp,H' b=none)->∀b∈fp,FpOk X pq H' b:=λhn b hb=>⟨hn b hb,(f2 b hb).2⟩;refine codeAny_forLoop_any (λn s'=>∃i σ' H',Inv X pq σ' H' s'/\tn i s'.heap/\(∀b∈fp,H' b=none)/\W i n σ' H') ?_ m0 ⟨0,σ,H2,I2,st2,λb hb=>(f2 b hb).1,w0⟩;rintro n s3 ⟨i,σ3,H3,I3,st3,fr3,w3⟩;rcases turn i n σ3 H3 w3 with⟨stop,qn⟩|⟨go,N,hN,step⟩
 .refine He hp (thn (T.done X rfl rfl rfl hc i pq s3 σ3 H3 X.xe I3 (stat fr3) st3 stop) λr s4 hz=>?_);let⟨hr,I4⟩:=hz;subst hr;exact Hy ⟨σ3,H3,I4,qn⟩
 .refine He hp (thn (T.item X rfl rfl rfl hc i pq s3 σ3 H3 X.xe I3 (stat fr3) st3 go) λr s4 hz=>?_);let⟨u,hr,h4⟩:=hz;subst hr;refine He hp (thn h4 λ_ s5 hz=>?_);let⟨x,H5,I5,r5,y5,st5,fr5⟩:=hz;let I5':=I5.pinned (stat fr5) (T.obj _ _ st5);refine He hp (thn (hg _ s5 σ3 H5 x u _ I5' r5 (step x H5 y5)) λ_ s6 hz=>?_);let⟨σ6,H6,I6,q6⟩:=hz;refine He hp (thn (hb _ s6 σ6 H6 _ I6 q6) λf s7 q7=>?_);let again:∀{σ7:St}{H7:Hp},Inv X (pq++Zay fp s5.heap) σ7 H7 s7->N σ7 H7->∃m,m<n/\∃i σ' H',Inv X pq σ' H' s7/\tn i s7.heap/\(∀b∈fp,H' b=none)/\W i m σ' H':=λ{σ7 H7}I7 n7=>by
   let⟨m',hm,w7⟩:=hN σ7 H7 n7;exists m',hm,i+1,σ7,H7,I7.unpinned,T.keep _ _ _ st5 λb hb o e=>(I7.pin (b,o) (Js _ (Js _ (U4 hb e)))).1,λb hb=>?_,w7;let⟨o,e,d⟩:=T.obj _ _ st5 b hb;exact(I7.pin (b,o) (Js _ (Js _ (U4 hb e)))).2.1
  cases f with
  |next=>obtain⟨σ7,H7,I7,n7⟩:=q7;exact again I7 n7
  |cont=>obtain⟨σ7,H7,I7,n7⟩:=q7;exact again I7 n7
  |brk=>obtain⟨σ7,H7,I7,q7⟩:=q7;exists σ7,H7,I7.unpinned,q7
  |ret v=>obtain⟨x7,σ7,H7,I7,r7,q7⟩:=q7;exists x7,σ7,H7,I7.unpinned,r7,q7
end
theorem Zlt{a:Addr}{tb:TS}{D:Ends}(Pv:Nat->St->Hp->Prop)(h0:Pv 0 σ H)(hl:∀i σ H,i<=xs.length->Pv i σ H->SqL K H a xs)(hs:∀i x σ H,xs[i]?=some x->Pv i σ H->g x σ H λσ2 H2=>tb {D with nx:=Pv (i+1),ct:=Pv (i+1),bk:=D.nx} σ2 H2)(hd:∀σ H,Pv xs.length σ H->D.nx σ H) :
  ∃W:Nat->Nat->St->Hp->Prop,(∃m,W 0 m σ H)/\∀i m σ H,W i m σ H ->
   ((Itl K a).stop i H/\D.nx σ H)\/((Itl K a).go i H/\∃N:St->Hp->Prop,(∀σ' H',N σ' H'->∃m',m'<m/\W (i+1) m' σ' H')/\∀x H',(Itl K a).yld i H x H'->g x σ H' λσ2 H2=>tb {D with nx:=N,ct:=N,bk:=D.nx} σ2 H2):=by
 exists λi m σ H=>m=xs.length-i/\i<=xs.length/\Pv i σ H,⟨xs.length,by simp,Ju _,h0⟩,?_;rintro i m σ H ⟨rfl,hi,p⟩;let q:=hl i σ H hi p
 by_cases hlt:i<xs.length
 .refine .inr ⟨⟨xs,xs[i],q,by simp[hlt]⟩,Pv (i+1),λσ' H' p'=>⟨xs.length-(i+1),(),rfl,hlt,p'⟩,λx H' y=>?_⟩;let⟨e,y⟩:=y;subst e;exact hs i x σ _ (y xs q) p
 .let e:i=xs.length:=by lia
  subst e;exact .inl ⟨⟨xs,q,Jd _⟩,hd σ H p⟩
theorem Zpv{a:Addr}{tb:TS}{D:Ends}(Pv:Nat->St->Hp->Prop)(h0:Pv 0 σ H)(hl:∀i σ H,i<=xs.length->Pv i σ H->SqT K H a xs)(hs:∀i x σ H,xs[i]?=some x->Pv i σ H->g x σ H λσ2 H2=>tb {D with nx:=Pv (i+1),ct:=Pv (i+1),bk:=D.nx} σ2 H2)(hd:∀σ H,Pv xs.length σ H->D.nx σ H) :
  ∃W:Nat->Nat->St->Hp->Prop,(∃m,W 0 m σ H)/\∀i m σ H,W i m σ H ->
   ((Itt K a).stop i H/\D.nx σ H)\/((Itt K a).go i H/\∃N:St->Hp->Prop,(∀σ' H',N σ' H'->∃m',m'<m/\W (i+1) m' σ' H')/\∀x H',(Itt K a).yld i H x H'->g x σ H' λσ2 H2=>tb {D with nx:=N,ct:=N,bk:=D.nx} σ2 H2):=by
 exists λi m σ H=>m=xs.length-i/\i<=xs.length/\Pv i σ H,⟨xs.length,by simp,Ju _,h0⟩,?_;rintro i m σ H ⟨rfl,hi,p⟩;let q:=hl i σ H hi p
 by_cases hlt:i<xs.length
 .refine .inr ⟨⟨xs,xs[i],q,by simp[hlt]⟩,Pv (i+1),λσ' H' p'=>⟨xs.length-(i+1),(),rfl,hlt,p'⟩,λx H' y=>?_⟩;let⟨e,y⟩:=y;subst e;exact hs i x σ _ (y xs q) p
 .let e:i=xs.length:=by lia
  subst e;exact .inl ⟨⟨xs,q,Jd _⟩,hd σ H p⟩
theorem Sd{lo:Int}{n:Nat}{tb:TS}{D:Ends}(Pv:Nat->St->Hp->Prop)(h0:Pv 0 σ H)(hs:∀i σ H,i<n->Pv i σ H->g (.int (lo+i)) σ H λσ2 H2=>tb {D with nx:=Pv (i+1),ct:=Pv (i+1),bk:=D.nx} σ2 H2)(hd:∀σ H,Pv n σ H->D.nx σ H) :
  ∃W:Nat->Nat->St->Hp->Prop,(∃m,W 0 m σ H)/\∀i m σ H,W i m σ H ->
   ((Itr lo n).stop i H/\D.nx σ H)\/((Itr lo n).go i H/\∃N:St->Hp->Prop,(∀σ' H',N σ' H'->∃m',m'<m/\W (i+1) m' σ' H')/\∀x H',(Itr lo n).yld i H x H'->g x σ H' λσ2 H2=>tb {D with nx:=N,ct:=N,bk:=D.nx} σ2 H2):=by
 exists λi m σ H=>m=n-i/\i<=n/\Pv i σ H,⟨n,by simp,Ju _,h0⟩,?_;rintro i m σ H ⟨rfl,hi,p⟩
 by_cases hlt:i<n
 .refine .inr ⟨hlt,Pv (i+1),λσ' H' p'=>⟨n-(i+1),(),rfl,hlt,p'⟩,λx H' y=>?_⟩;let⟨e,y⟩:=y;subst e y;exact hs i σ _ hlt p
 .let e:i=n:=by lia
  subst e;exact .inl ⟨Jd _,hd σ H p⟩
abbrev R2:=V->V->Hp->VK->Prop
variable{r:L2.R2}
def OpR(X:Cx)(f:Ca->Ca->Sem Ca)(r:R2):Prop :=
 ∀(pq:List (Addr×Obj))(s:Cc)(σ:St)(H:Hp)(x y:V)(v u:Ca)(Q:VK),Inv X pq σ H s->RelV x v->RelV y u->r x y H Q ->
  Cd (Ck X.prog X.w) X.A (f v u) (EP X pq σ Q) X.xe s
def UnR(X:Cx)(f:Ca->Sem Ca)(r:V->Hp->VK->Prop):Prop :=
 ∀(pq:List (Addr×Obj))(s:Cc)(σ:St)(H:Hp)(x:V)(v:Ca)(Q:VK),Inv X pq σ H s->RelV x v->r x H Q ->
  Cd (Ck X.prog X.w) X.A (f v) (EP X pq σ Q) X.xe s
def Wr(X:Cx)(f:Ca)(r:List V->Hp->VK->Prop):Prop :=
 ∀(pq:List (Addr×Obj))(s:Cc)(σ:St)(H:Hp)(xs:List V)(us:List Ca)(Q:VK),Inv X pq σ H s->Vals xs us->r xs H Q ->
  Cd (Ck X.prog X.w) X.A (call f us) (EP X pq σ Q) X.xe s
def tOp(r:R2)(ta tb:TE):TE:=λσ H Q=>ta σ H λx H1=>tb σ H1 λy H2=>r x y H2 Q
def tUn(r:V->Hp->VK->Prop)(ta:TE):TE:=λσ H Q=>ta σ H λx H1=>r x H1 Q
def rI(C:Int->Int->Prop)(g:Int->Int->V):R2:=λx y H Q=>∃i j,x=.int i/\y=.int j/\C i j/\Q (g i j) H
def rI0(g:Int->Int->V):R2:=λx y H Q=>∃i j,x=.int i/\y=.int j/\Q (g i j) H
def rU(g:Int->V):V->Hp->VK->Prop:=λx H Q=>∃i,x=.int i/\Q (g i) H
section
variable{a b:Expr} 
def binT(ha:PE X a ta)(hb:PE X b tb){R:V->V->Hp->Prop}(I:Inv X pq σ H s)(h:ta σ H λx H1=>tb σ H1 λy H2=>R x y H2){Q:Ca->Cc->Prop}{f:Ca->Ca->Sem Ca}(hf:∀v u s2 x y H2,Inv X pq σ H2 s2->RelV x v->RelV y u->R x y H2->Cd (Ck X.prog X.w) X.A (f v u) Q X.xe s2) :
  Cd (Ck X.prog X.w) X.A (eval a X.env) (λv s₁=>Cd (Ck X.prog X.w) X.A (eval b X.env) (λu s₂=>Cd (Ck X.prog X.w) X.A (f v u) Q X.xe s₂) X.xe s₁) X.xe s:=by
 refine thn (ha pq s σ H _ I h) λv s1 hz=>?_;let⟨x,H1,I1,r1,q1⟩:=hz;refine thn (hb pq s1 σ H1 _ I1 q1) λu s2 hz=>?_;let⟨y,H2,I2,r2,q2⟩:=hz;exact hf v u s2 x y H2 I2 r1 r2 q2
def Zy{op:Jg3}(ho:OpR X (Hd op) r)(ha:PE X a ta)(hb:PE X b tb):PE X (.BinOp a op b pos) (tOp r ta tb):=by
 intro pq s σ H Q I h;exact wpAny_BinOp (binT ha hb I h λv u s2 x y H2 I2 rx ry q=>ho pq s2 σ H2 x y v u Q I2 rx ry q)
def Zsu{op:UnaryOp}{r:V->Hp->VK->Prop}(ho:UnR X (unaryOp op) r)(ha:PE X a ta):PE X (.UnaryOp op a pos) (tUn r ta):=by
 intro pq s σ H Q I h;exact UnaryOp_ (thn (ha pq s σ H _ I h) λv s1⟨x,H1,I1,r1,q1⟩=>ho pq s1 σ H1 x v Q I1 r1 q1)
def opI{f:Ca->Ca->Sem Ca}{C:Int->Int->Prop}{g:Int->Int->Int}(rule:∀(i j:Int)(t u:Tok)(s:Cc)(Q:Ca->Cc->Prop)(E:Ca->Cc->Prop),C i j->Q (.int (g i j) s.toks) {s with toks:=s.toks+1}->Cd (Ck X.prog X.w) X.A (f (.int i t) (.int j u)) Q E s) :
  OpR X f (rI C λi j=>.int (g i j)):=by
 intro pq s σ H x y v u Q I rx ry h;let⟨i,j,rfl,rfl,hc,q⟩:=h;let⟨t,rfl⟩:=rx;let⟨t',rfl⟩:=ry;exact rule i j t t' s _ _ hc ⟨.int (g i j),H,I.tok _,⟨_,rfl⟩,q⟩
def opI0{f:Ca->Ca->Sem Ca}{g:Int->Int->Int}(rule:∀(i j:Int)(t u:Tok)(s:Cc)(Q:Ca->Cc->Prop)(E:Ca->Cc->Prop),Q (.int (g i j) s.toks) {s with toks:=s.toks+1}->Cd (Ck X.prog X.w) X.A (f (.int i t) (.int j u)) Q E s) :
  OpR X f (rI0 λi j=>.int (g i j)):=by
 intro pq s σ H x y v u Q I rx ry h;let⟨i,j,rfl,rfl,q⟩:=h;let⟨t,rfl⟩:=rx;let⟨t',rfl⟩:=ry;exact rule i j t t' s _ _ ⟨.int (g i j),H,I.tok _,⟨_,rfl⟩,q⟩
def opB0{f:Ca->Ca->Sem Ca}{g:Int->Int->Bool}(rule:∀(i j:Int)(t u:Tok)(s:Cc)(Q:Ca->Cc->Prop)(E:Ca->Cc->Prop),Q (.bool (g i j)) s->Cd (Ck X.prog X.w) X.A (f (.int i t) (.int j u)) Q E s) :
  OpR X f (rI0 λi j=>.bl (g i j)):=by
 intro pq s σ H x y v u Q I rx ry h;let⟨i,j,rfl,rfl,q⟩:=h;let⟨t,rfl⟩:=rx;let⟨t',rfl⟩:=ry;exact rule i j t t' s _ _ ⟨.bl (g i j),H,I,rfl,q⟩
def CDiv(i j:Int):Prop:=0<j/\j<1073741824
def CPow(i j:Int):Prop:=0<=j/\j<=1000000/\i.natAbs<2 ^ 64
def CMul(i j:Int):Prop:=(-(2 ^ 64)<i/\i<2 ^ 64)\/(-(2 ^ 64)<j/\j<2 ^ 64)
def CMul.ok{i j:Int}(h:CMul i j):IntMulOk i j:=by
 rcases h with⟨h1,h2⟩|⟨h1,h2⟩
 .exact .of_left (intBits_le_64 h1 h2)
 .exact .of_right (intBits_le_64 h1 h2)
def Wv:OpR X (Hd .Add) (rI0 λi j=>.int (i+j)):=opI0 λ_ _ _ _ _ _ _ q=>add_int q
def Zhz:OpR X (Hd .Sub) (rI0 λi j=>.int (i-j)):=opI0 λ_ _ _ _ _ _ _ q=>sub_int q
def Tf:OpR X (Hd .Mult) (rI CMul λi j=>.int (i*j)):=opI λ_ _ _ _ _ _ _ hc q=>mul_int q hc.ok
theorem Zh2:OpR X (Hd .FloorDiv) (rI CDiv λi j=>.int (i / j)):=opI λi j _ _ _ _ _ hc q=>by
 let h1:(0:Int)<j:=hc.1;let h2:j<1073741824:=hc.2;exact floordiv_int () (by rw[Int.fdiv_eq_ediv_of_nonneg i ()];exact q) (.inl (PyProof.noPylong_small ()))
theorem Xe:OpR X (Hd .Mod) (rI (λ_ j=>0<j) λi j=>.int (i % j)):=opI λi j _ _ _ _ _ hc q=>by
 let h1:(0:Int)<j:=hc;exact mod_int' () (by rw[Int.fmod_eq_emod_of_nonneg i ()];exact q)
def Zh0:OpR X (Hd .Pow) (rI CPow λi j=>.int (i ^ j.toNat)):=opI λ_ _ _ _ _ _ _ hc q=>pow_int_small hc.1 hc.2.1 hc.2.2 q
def unI{f:Ca->Sem Ca}{g:Int->Int}(rule:∀(i:Int)(t:Tok)(s:Cc)(Q:Ca->Cc->Prop)(E:Ca->Cc->Prop),Q (.int (g i) s.toks) {s with toks:=s.toks+1}->Cd (Ck X.prog X.w) X.A (f (.int i t)) Q E s) :
  UnR X f (rU λi=>.int (g i)):=by
 intro pq s σ H x v Q I rx h;let⟨i,rfl,q⟩:=h;let⟨t,rfl⟩:=rx;exact rule i t s _ _ ⟨.int (g i),H,I.tok _,⟨_,rfl⟩,q⟩
def Zmb:UnR X (unaryOp .USub) (rU λi=>.int (-i)):=unI λ_ _ _ _ _ q=>neg_int q
end
def scal:V->V->Bool
 |.non,.non=>true|.non,.int _=>true|.int _,.non=>true|.non,.bl _=>true|.bl _,.non=>true|.non,.str _=>true|.str _,.non=>true
 |.int _,.int _=>true|.bl _,.bl _=>true|.str _,.str _=>true|.byt _,.byt _=>true
 |.int _,.str _=>true|.str _,.int _=>true|.bl _,.str _=>true|.str _,.bl _=>true
 |_,_=>false
def rEq:R2:=λx y H Q=>scal x y=true/\Q (.bl (decide (x=y))) H
def rNe:R2:=λx y H Q=>scal x y=true/\Q (.bl (!decide (x=y))) H
def Zi9{i j:Int}:decide (V.int i=V.int j)=(i==j):=by
 rw[Fd];simp
def Znc{i j:Bool}:decide (V.bl i=V.bl j)=(i==j):=by
 rw[Fd];simp
def Zi8{i j:Str}:decide (V.str i=V.str j)=(i==j):=by
 rw[Fd];simp
def Zja{i j:Array UInt8}:decide (V.byt i=V.byt j)=(i.toList==j.toList):=by
 rw[Fd];cases i;cases j;simp
section
variable{a b c:Expr} 
def Ys{k k':Bool}(I:Inv X pq σ H s)(q:Q (.bl k) H)(e:k=k'):EP X pq σ Q (.bool k') s:=by
 subst e;exists .bl k,H,I,rfl,q
theorem Zk9:OpR X (Eo .Eq) rEq:=by
 intro pq s σ H x y v u Q I rx ry h;let⟨hs,q⟩:=h;cases x with
 |non =>
  cases rx;cases y with
  |non=>cases ry;exact Jf4 (Ys I q (by simp))
  |bl j=>cases ry;exact Jf5 (Ys I q (by simp))
  |int j=>obtain⟨t',rfl⟩:=ry;exact Jgh (Ys I q (by simp))
  |str j=>obtain⟨t',rfl⟩:=ry;exact Jgi (Ys I q (by simp))
  |_=>exact Fl (show false=true from hs) Jr
 |bl i =>
  cases rx;cases y with
  |non=>cases ry;exact Jf6 (Ys I q (by simp))
  |bl j=>cases ry;exact eq_bool (Ys I q Znc)
  |str j=>obtain⟨t',rfl⟩:=ry;exact Jf7 (Ys I q (by simp))
  |_=>exact Fl (show false=true from hs) Jr
 |int i =>
  let⟨t,rfl⟩:=rx;cases y with
  |non=>cases ry;exact Jgj (Ys I q (by simp))
  |int j=>obtain⟨t',rfl⟩:=ry;exact eq_int (Ys I q Zi9)
  |str j=>obtain⟨t',rfl⟩:=ry;exact Jgk (Ys I q (by simp))
  |_=>exact Fl (show false=true from hs) Jr
 |str i =>
  let⟨t,rfl⟩:=rx;cases y with
  |non=>cases ry;exact Jgl (Ys I q (by simp))
  |bl j=>cases ry;exact Jf8 (Ys I q (by simp))
  |int j=>obtain⟨t',rfl⟩:=ry;exact Jgm (Ys I q (by simp))
  |str j=>obtain⟨t',rfl⟩:=ry;exact eq_str (Ys I q Zi8)
  |_=>exact Fl (show false=true from hs) Jr
 |byt i =>
  let⟨t,rfl⟩:=rx;cases y with
  |byt j=>obtain⟨t',rfl⟩:=ry;exact W.eq_bytes (Ys I q Zja)
  |_=>exact Fl (show false=true from hs) Jr
 |_=>cases y<;>exact Fl (show false=true from hs) Jr
theorem Zvw:OpR X (Eo .NotEq) rNe:=by
 intro pq s σ H x y v u Q I rx ry h;let⟨hs,q⟩:=h;cases x with
 |non =>
  cases rx;cases y with
  |non=>cases ry;exact Jf9 (Ys I q (by simp))
  |bl j=>cases ry;exact Jga (Ys I q (by simp))
  |int j=>obtain⟨t',rfl⟩:=ry;exact Jgn (Ys I q (by simp))
  |str j=>obtain⟨t',rfl⟩:=ry;exact Jgo (Ys I q (by simp))
  |_=>exact Fl (show false=true from hs) Jr
 |bl i =>
  cases rx;cases y with
  |non=>cases ry;exact Jgb (Ys I q (by simp))
  |bl j=>cases ry;exact ne_bool (Ys I q (congrArg not Znc))
  |str j=>obtain⟨t',rfl⟩:=ry;exact Jgc (Ys I q (by simp))
  |_=>exact Fl (show false=true from hs) Jr
 |int i =>
  let⟨t,rfl⟩:=rx;cases y with
  |non=>cases ry;exact Jgp (Ys I q (by simp))
  |int j=>obtain⟨t',rfl⟩:=ry;exact ne_int (Ys I q (congrArg not Zi9))
  |str j=>obtain⟨t',rfl⟩:=ry;exact Jgq (Ys I q (by simp))
  |_=>exact Fl (show false=true from hs) Jr
 |str i =>
  let⟨t,rfl⟩:=rx;cases y with
  |non=>cases ry;exact Jgr (Ys I q (by simp))
  |bl j=>cases ry;exact Jgd (Ys I q (by simp))
  |int j=>obtain⟨t',rfl⟩:=ry;exact Jgs (Ys I q (by simp))
  |str j=>obtain⟨t',rfl⟩:=ry;exact ne_str (Ys I q (congrArg not Zi8))
  |_=>exact Fl (show false=true from hs) Jr
 |byt i =>
  let⟨t,rfl⟩:=rx;cases y with
  |byt j=>obtain⟨t',rfl⟩:=ry;exact W.ne_bytes (Ys I q (congrArg not Zja))
  |_=>exact Fl (show false=true from hs) Jr
 |_=>cases y<;>exact Fl (show false=true from hs) Jr
def Zh1:OpR X (Eo .Lt) (rI0 λi j=>.bl (decide (i<j))):=opB0 λ_ _ _ _ _ _ _ q=>lt_int q
def Za1:OpR X (Eo .Gt) (rI0 λi j=>.bl (decide (j<i))):=opB0 λ_ _ _ _ _ _ _ q=>gt_int q
def Zvx:OpR X (Eo .GtE) (rI0 λi j=>.bl (decide (j<=i))):=opB0 λ_ _ _ _ _ _ _ q=>ge_int q
def Z4(b:Expr){op:Jhj}(h:op≠.In:=by decide)(h2:op≠.NotIn:=by decide):Ke op b=false:=by
 let e1:(op==Jhj.In)=false:=by cases op<;>first|rfl|exact Fl rfl h
 let e2:(op==Jhy)=false:=by cases op<;>first|rfl|exact Fl rfl h2
 cases b<;>simp[Ke,e1,e2]
def Vr{op:Jhj}(ho:OpR X (Eo op) r)(ha:PE X a ta)(hb:PE X b tb)(hm:Ke op b=false):PE X (.Compare a [op] [b] pos) (tOp r ta tb):=by
 intro pq s σ H Q I h;exact wpAny_Compare1 (binT ha hb I h λv u s2 x y H2 I2 rx ry q=>ho pq s2 σ H2 x y v u Q I2 rx ry q) hm
def Zrn(t:TE):TT:=λσ H Q=>t σ H λx H'=>∃k,x=.bl k/\Q k H'
def Zz{op:Jhj}(ho:OpR X (Eo op) r)(ha:PE X a ta)(hb:PE X b tb)(hm:Ke op b=false):PT X (.Compare a [op] [b] pos) (Zrn (tOp r ta tb)):=by
 intro pq s σ H Q I h;refine Jb9 (thn (ha pq s σ H _ I h) λv s1⟨x,H1,I1,r1,q1⟩=>thn (hb pq s1 σ H1 _ I1 q1) λu s2 ⟨y,H2,I2,r2,q2⟩ =>
  thn (ho pq s2 σ H2 x y v u _ I2 r1 r2 q2) λc s3⟨z,H3,I3,r3,k,e,q3⟩=>?_) hm
 subst e;cases r3;exact Ep ⟨H3,I3,q3⟩
def Pq:(Cb:Nat)<2 ^ 63:=by rw[Ei];decide
def Ze8:OpR X (Hd .Add) (λx y H Q=>∃i j,x=.str i/\y=.str j/\i.length+j.length<=Cb/\Q (.str (i++j)) H):=by
 intro pq s σ H x y v u Q I rx ry h;let⟨i,j,rfl,rfl,hz,q⟩:=h;let⟨t,rfl⟩:=rx;let⟨t',rfl⟩:=ry;exact add_str (λt' tk=>⟨.str (i++j),H,I.tok _,⟨_,rfl⟩,q⟩) hz
theorem Tl{x:V}(r:Vals [x] us):∃u,us=[u]/\RelV x u:=by
 cases r with
 |cons r1 r2=>cases r2;exists ·,r1
theorem Zj4{x y:V}(r:Vals [x,y] us):∃u w',us=[u,w']/\RelV x u/\RelV y w':=by
 cases r with
 |cons r1 r2 =>
  cases r2 with
  |cons r3 r4=>cases r4;exists _,·,r1,r3
def Zl2:Wr X (.builtin "abs") (λxs H Q=>∃i,xs=[.int i]/\Q (.int (if i<0 then -i else i)) H):=by
 intro pq s σ H xs us Q I r h;let⟨i,rfl,q⟩:=h;let⟨u,rfl,t,rfl⟩:=Tl r;exact call_abs_int λu tk=>⟨.int (if i<0 then -i else i),H,I.tok _,⟨_,rfl⟩,q⟩
def Sf(hc:X.calm=true):Wr X (.builtin "max") (λxs H Q=>∃i j,xs=[.int i,.int j]/\Q (.int (if j > i then j else i)) H):=by
 intro pq s σ H xs us Q I r h;let⟨i,j,rfl,q⟩:=h;let⟨u,w',rfl,⟨t,rfl⟩,⟨t',rfl⟩⟩:=Zj4 r;refine max_two_ints (I.ok.hd hc) λh' tk k=>⟨_,H,I.kept k,?_,q⟩
 by_cases hj:j > i
 .rw[Fw hj,Fw hj];exists ·
 .rw[Fv hj,Fv hj];exists ·
def Zjn(hc:X.calm=true):Wr X (.builtin "min") (λxs H Q=>∃i j,xs=[.int i,.int j]/\Q (.int (if j<i then j else i)) H):=by
 intro pq s σ H xs us Q I r h;let⟨i,j,rfl,q⟩:=h;let⟨u,w',rfl,⟨t,rfl⟩,⟨t',rfl⟩⟩:=Zj4 r;refine min_two_ints (I.ok.hd hc) λh' tk k=>⟨_,H,I.kept k,?_,q⟩
 by_cases hj:j<i
 .rw[Fw hj,Fw hj];exists ·
 .rw[Fv hj,Fv hj];exists ·
def Zbr:Wr X (.type "int") (λxs H Q=>(∃i,xs=[.int i]/\Q (.int i) H)\/∃k,xs=[.bl k]/\Q (.int (if k then 1 else 0)) H):=by
 intro pq s σ H xs us Q I r h;rcases h with⟨i,rfl,q⟩|⟨k,rfl,q⟩
 .let⟨u,rfl,t,rfl⟩:=Tl r;exact call_int_int ⟨.int i,H,I,⟨_,rfl⟩,q⟩
 .let⟨u,rfl,r1⟩:=Tl r;cases r1;exact call_int_bool ⟨.int (if k then 1 else 0),H,I.tok _,⟨_,rfl⟩,q⟩
def LenV(K:Cr)(x:V)(H:Hp)(n:Nat):Prop :=
 match x with
 |.str y=>y.length<=Cb/\n=y.length
 |.byt y=>y.size<=Cb/\n=y.size
 |.ref p=>(∃xs,SqL K H p xs/\n=xs.length)\/∃xs,SqT K H p xs/\n=xs.length
 |_=>False
theorem W4:Wr X (.builtin "len") (λxs H Q=>∃x n,xs=[x]/\LenV X.K x H n/\Q (.int n) H):=by
 intro pq s σ H xs us Q I r h;let⟨x,n,rfl,e,q⟩:=h;let⟨u,rfl,rx⟩:=Tl r;let hl:=Pq;let hs:Cb=16777216:=Ei;cases x with
 |str y =>
  let⟨t,rfl⟩:=rx;obtain⟨hy,e'⟩:y.length<=Cb/\n=y.length:=e;subst e';exact len_str () ⟨.int _,H,I.tok _,⟨_,rfl⟩,q⟩
 |byt y =>
  let⟨t,rfl⟩:=rx;obtain⟨hy,e'⟩:y.size<=Cb/\n=y.size:=e;subst e';exact W.len_bytes () ⟨.int _,H,I.tok _,⟨_,rfl⟩,q⟩
 |ref p =>
  cases rx;let e':(∃xs,SqL X.K H p xs/\n=xs.length)\/∃xs,SqT X.K H p xs/\n=xs.length:=e;rcases e' with⟨xs,hx,e'⟩|⟨xs,hx,e'⟩
  .subst e';let⟨its,r',pl,hz⟩:=I.list hx;let hlen:=r'.length;exact Calls.call_len_list pl.isList (by simp only[Jm];lia) ⟨.int xs.length,H,I.tok _,⟨_,by simp only[Jm];rw[hlen]⟩,q⟩
  .subst e';let⟨its,r',pl,hz⟩:=I.tuple hx;let hlen:=r'.length;exact len_tuple pl (by simp only[Jm];lia) ⟨.int xs.length,H,I.tok _,⟨_,by simp only[Jm];rw[hlen]⟩,q⟩
 |_=>exact(show False from e).elim
end
structure ObjM(h:Heap)(x dx C:Addr)(mA:Str->Option Ca):Prop where
 obj:h.get? x=some (Ls C dx)
 ns:h.Ns1 dx mA
 ne:dx≠x
def Zig(n:h.Ns1 dx mA):∃od,h.get? dx=some od/\∀name,Jg5 name od=some (mA name):=by
 let⟨o,es,ep,ho,hd,hk,_,hm⟩:=n;exists o,ho,λname=>?_;let e:=hm name;unfold nsFind findBy at e;rw[<-Mb]at e;unfold Jg5;rw[hd];dsimp only
 split
 .rename_i y q
  rw[q]at e;exact congrArg some e
 .rename_i q
  rw[q]at e;let a:es.toList.any (·.refKey)=false:=by
   rw[List.any_eq_false];intro y hy;let⟨z,t,hkey⟩:=hk y (Array.mem_toList_iff.mp hy);simp[DictEntry.refKey,hkey]
  let a':¬ es.toList.any (·.refKey)=true:=by rw[a];exact Jr
  rw[Fv a'];exact congrArg some e
def ObjM.look{x:Addr}(I:ObjM h x dx C mA):∃od,W.InstAt h x (Ls C dx) C (some od)/\∀name,Jg5 name od=some (mA name) :=
 let⟨od,ho,hl⟩:=Zig I.ns
 ⟨od,⟨I.obj,rfl,rfl,ho⟩,hl⟩
section
variable{x f:Addr}{name:Str}{v:Ca}
def Zpt{expr:Bool}{Q:Ca->Cc->Prop}(X:K.In s.heap)(I:ObjM s.heap x dx C mA)(hg:Jek K C name=true)(hh:Jfo K C=true)(ha:Ed K (.ref C) name=some none)(hv:mA name=some v)(hv':W.handedIn v=true)(h:Q v {s with toks:=s.toks+1}) :
  Cd (Ck prog w) A (getAttr (.ref x) name expr) Q E s:=by
 let⟨od,J,hl⟩:=I.look;exact W.get_value X J (Jd1 hg).1 (W.findObj_own hh ha rfl (by rw[hl,hv])) hv' h
def Zls{pl:Sem Bool}{Q:Ca×List Ca->Cc->Prop}(X:K.In s.heap)(I:ObjM s.heap x dx C mA)(hg:Jek K C name=true)(hf:Ed K (.ref C) name=some (some (.ref f)))(ht:W.isFn K (.ref f)=true)(hv:mA name=none)(h:Q (.ref f,[.ref x]) s) :
  Cd (Ck prog w) A (Lz (.ref x) name pl) Q E s:=by
 let⟨od,J,hl⟩:=I.look;exact W.method_fn X J (Jd1 hg).1 (Jd1 hg).2 hf (beq_iff_eq.mp ht) (by show(Jg5 name od).map (·.isSome)=some false;rw[hl,hv];rfl) h
theorem Zoa{ns:List Str}{Q:Unit->Cc->Prop}(X:K.In s.heap)(I:ObjM s.heap x dx C mA)(hs:Ed K (.ref C) "__setattr__"=some (some (.builtin "object.__setattr__")))(hp:W.plainOver K C=true)(ht:Jhk K C name=some none)(hh:Jfo K C=true)(hw:Hv mA ns)(hsz:ns.length<=Cb)(h:∀h',ObjM h' x dx C (λy=>if y=name then some v else mA y)->Hk dx s.heap h'->Q ⟨⟩ {s with heap:=h',toks:=s.toks+2}) :
  Cd (Ck prog w) A (Jh0 (.ref x) name v) Q E s:=by
 let⟨od,J,hl⟩:=I.look;refine Jfp X J hs (W.osa_open (s:={s with toks:=s.toks+1}) (r:=none) X J hp ht λb=>?_);let⟨cd,hc,hd'⟩:=W.any_some hh;let hx:s.heap.get? x=some ⟨.ref C,some dx,.plain,#[]⟩:=I.obj;refine Fo (Fp (Fo (Fo (wpAny_loadPart hx (Fo (W.Looks.here (s:={s with toks:=s.toks+1}) (W.looks_clsIn X hc) ?_))))));rw[hd'];refine Fp (a:=some dx) (Fo (Fp (Fo ?_)));refine Je1 (s:={s with toks:=s.toks+1}) I.ns λh' hn2 hs2=>?_;let⟨oD,esD,epD,hoD,hdD,hcD⟩:=hn2.count (Mn name v hw);refine Fo (Ja5 hoD (by rw[hdD];exact Ja6 (Jy hcD (by rw[Jv];lia))) ?_)
 exact Fp (h _ ⟨(hs2.2 _ (Ee I.ne)).trans I.obj,hn2,I.ne⟩ hs2)
def Zle{R:Jc0->Cc->Prop}{vs:List Ca}(X:K.In s.heap)(hm:W.makesIn K C=true)(hi:Ed K (.ref C) "__init__"=some (some (.ref f)))(hf:W.typeIn K (.ref f)=some (.type "function"))(h:Ho (Ck prog w) (A.under (.builtin "type.__call__" ⟨.ref C::vs,kw⟩)) (.call (.ref f) ⟨.ref (s.heap.objs.size+1)::vs,kw⟩) (W.InitBack (s.heap.objs.size+1) R)
   {s with heap:=(s.heap.push W.emptyDict).push (Ls C s.heap.objs.size)}) :
  Ho (Ck prog w) A (.call (.ref C) ⟨vs,kw⟩) R s:=by
 let⟨hh,g,d,t,os⟩:=s;exact W.make_core (W.makes_of X hm) (W.looks_findIn X hi) (λself=>W.bind_fn X self hf) (.inl rfl) h
end
def putF(f:Str)(v:V):List (Str×V)->List (Str×V)
 |[]=>[(f,v)]
 |(g,x)::r=>if g=f then(g,v)::r else(g,x)::putF f v r
theorem Tr(f g:Str)(v:V):∀fs:List (Str×V),(putF f v fs).lookup g=if g=f then some v else fs.lookup g
 |[]=>by
  show Kp g [(f,v)]=_
  by_cases h:g=f
  .let hb:(g==f)=true:=beq_iff_eq.mpr h;simp only[Kp,hb,Fw h]
  .let hb:(g==f)=false:=beq_eq_false_iff_ne.mpr h;simp only[Kp,hb,Fv h]
 |(k,x)::r=>by
  let ih:=Tr f g v r;rw[show putF f v ((k,x)::r)=(if k=f then(k,v)::r else(k,x)::putF f v r)from rfl]
  by_cases hk:k=f
  .rw[Fw hk]
   by_cases h:g=k
   .let hb:(g==k)=true:=beq_iff_eq.mpr h;simp only[Kp,hb,Fw (h.trans hk)]
   .let hb:(g==k)=false:=beq_eq_false_iff_ne.mpr h;simp only[Kp,hb,Fv (λe:g=f=>h (e.trans hk.symm))]
  .rw[Fv hk]
   by_cases h:g=k
   .let hb:(g==k)=true:=beq_iff_eq.mpr h;simp only[Kp,hb,Fv (λe:g=f=>hk (h.symm.trans e))]
   .let hb:(g==k)=false:=beq_eq_false_iff_ne.mpr h;simp only[Kp,hb];exact ih
theorem Uc(f:Str)(v:V):∀fs:List (Str×V),f∈(putF f v fs).map (·.1)/\∀g,g∈fs.map (·.1)->g∈(putF f v fs).map (·.1)
 |[]=>⟨by simp[putF],λg h=>by simp at h⟩
 |(k,x)::r=>by
  let⟨i1,i2⟩:=Uc f v r;rw[show putF f v ((k,x)::r)=(if k=f then(k,v)::r else(k,x)::putF f v r)from rfl]
  by_cases hk:k=f
  .rw[Fw hk];subst hk;exact⟨by simp,λg h=>by simpa using h⟩
  .rw[Fv hk];exists ?_,λg h=>?_
   .rw[Jo];exact Jk _ i1
   .rw[Jo]at h⊢;rcases Jt.mp h with e|e
    .exact Jt.mpr (.inl e)
    .exact Jk _ (i2 g e)
theorem Qj(f:Str)(v:V):∀fs:List (Str×V),(putF f v fs).length<=fs.length+1
 |[]=>by simp[putF]
 |(k,x)::r=>by
  let ih:=Qj f v r;rw[show putF f v ((k,x)::r)=(if k=f then(k,v)::r else(k,x)::putF f v r)from rfl]
  by_cases hk:k=f
  .rw[Fw hk,Jv,Jv];lia
  .rw[Fv hk,Jv,Jv];lia
theorem RelO.some_of{o:Option Ca}(r:RelO (some v) o):∃u,o=some u/\RelV v u:=by
 cases o with
 |none=>exact(show False from r).elim
 |some u=>exact⟨u,rfl,r⟩
theorem RelO.none_of{o:Option Ca}(r:RelO none o):o=none:=by
 cases o with
 |none=>rfl
 |some u=>exact(show False from r).elim
theorem Zi0{u:Ca}(r:RelV v u):W.handedIn u=true:=by
 cases v with
 |non=>cases(show u=Ca.none from r);rfl
 |bl b=>cases(show u=Lq b from r);rfl
 |int i=>obtain⟨t,e⟩:=(show ∃t,u=C0 i t from r);cases e;rfl
 |str x=>obtain⟨t,e⟩:=(show ∃t,u=Jb8 x t from r);cases e;rfl
 |byt b=>obtain⟨t,e⟩:=(show ∃t,u=Jhw b t from r);cases e;rfl
 |flt b=>obtain⟨t,e⟩:=(show ∃t,u=Jfk b t from r);cases e;rfl
 |ref a=>cases(show u=Ch a from r);rfl
 |ty n=>cases(show u=Jif n from r);rfl
section
variable{a:Addr}{fs:List (Str×V)}
def Nu(hok:HOk P w H h)(e:H a=some (.ins C dx fs)):∃mA,ObjM h a dx C mA/\(∀f,RelO (fs.lookup f) (mA f))/\Hv mA (fs.map (·.1))/\fs.length<=1000/\H dx=some (.own a):=by
 let⟨d,z,ne,ob,mA,n,r,q⟩:=(show Y3 P w H h a (.ins C dx fs)from hok a _ e);exists mA,⟨ob,n,ne⟩,r,q,z,d
end
structure Cls(K:Cr)(C:Addr):Prop where
 pg:Jek K C Jd2=true
 hd:Jfo K C=true
 po:W.plainOver K C=true
 sa:Ed K (.ref C) "__setattr__"=some (some (.builtin "object.__setattr__"))
def Cls.get(c:Cls K C)(f:Str):Jek K C f=true:=c.pg
def Yp(K:Cr)(C:Addr)(f:Str):Prop:=Ed K (.ref C) f=some none
def Yp.taker{f:Str}(n:Yp K C f):Jhk K C f=some none:=by
 unfold Jhk;rw[show Ed K (.ref C) f=some none from n];rfl
structure Meth(K:Cr)(C:Addr)(m:Str)(f:Addr):Prop where
 at_:Ed K (.ref C) m=some (some (.ref f))
 fn:W.isFn K (.ref f)=true
 kp:Mc K (.ref f)=true
section
variable{a:Addr}{fs:List (Str×V)}{f:Str} 
def Zfn{b:Bool}{Q:Ca->Cc->Prop}(I:Inv X pq σ H s)(e:H a=some (.ins C dx fs))(c:Cls X.K C)(n:Yp X.K C f)(l:fs.lookup f=some v)(h:∀u s',Inv X pq σ H s'->RelV v u->Q u s'):Cd (Ck X.prog X.w) A (getAttr (.ref a) f b) Q E s:=by
 let⟨mA,O,r,_,_,_⟩:=Nu I.hok e;let⟨u,hu,ru⟩:=RelO.some_of (v:=v) (o:=mA f) (by rw[<-l];exact r f);exact Zpt I.kIn O (c.get f) c.hd n hu (Zi0 ru) (h u _ (I.tok _) ru)
def Sx{m:Str}{g:Addr}{pl:Sem Bool}{Q:Ca×List Ca->Cc->Prop}(I:Inv X pq σ H s)(e:H a=some (.ins C dx fs))(c:Cls X.K C)(k:Meth X.K C m g)(l:fs.lookup m=none)(h:Q (.ref g,[.ref a]) s):Cd (Ck X.prog X.w) A (Lz (.ref a) m pl) Q E s:=by
 let⟨mA,O,r,_,_,_⟩:=Nu I.hok e;let hn:mA m=none:=RelO.none_of (by rw[<-l];exact r m);exact Zls I.kIn O (c.get m) k.at_ k.fn hn h
theorem Ze4{y:V}{u:Ca}{Q:Unit->Cc->Prop}(I:Inv X pq σ H s)(e:H a=some (.ins C dx fs))(c:Cls X.K C)(n:Yp X.K C f)(hl:fs.length<1000)(ry:RelV y u)(h:∀s',Inv X pq σ (upd H a (.ins C dx (putF f y fs))) s'->Q ⟨⟩ s'):Cd (Ck X.prog X.w) A (Jh0 (.ref a) f u) Q E s:=by
 let⟨mA,O,r,wi,_,ho⟩:=Nu I.hok e;let hz:(fs.map (·.1)).length<=Cb:=by rw[Ja,Ei];lia
 refine Zoa I.kIn O c.sa c.po n.taker c.hd wi hz λh' O' sb=>h _ ?_;let hd:∃o,h'.get? dx=some o:=let⟨o,_,_,e',_⟩:=O'.ns;⟨o,e'⟩
 refine I.write (x:=a) (e:=dx) (by rw[e];exact Es) (.inr ho) (λb q hb z=>(sb.2 b hb).trans z) hd ?_;exists by rw[Zo O.ne];exact ho,?_,O.ne,O'.obj,_,O'.ns,λg=>?_,λg hg=>?_
 .let:=Qj f y fs;lia
 .show RelO ((putF f y fs).lookup g) (if g=f then some u else mA g);rw[Tr]
  by_cases q:g=f
  .rw[Fw q,Fw q];exact ry
  .rw[Fv q,Fv q];exact r g
 .by_cases q:g=f
  .rw[q];exact(Uc f y fs).1
  .refine(Uc f y fs).2 g (wi g λz=>hg ?_);show(if g=f then some u else mA g)=none;rw[Fv q];exact z
def Inv.made(I:Inv X pq σ H s):Inv X pq σ (upd (upd H s.heap.objs.size (.own (s.heap.objs.size+1))) (s.heap.objs.size+1) (.ins C s.heap.objs.size []))
  {s with heap:=(s.heap.push W.emptyDict).push (Ls C s.heap.objs.size)}:=by
 let e1:(s.heap.push W.emptyDict).get? s.heap.objs.size=some W.emptyDict:=Ft s.heap rfl;let e2:((s.heap.push W.emptyDict).push (Ls C s.heap.objs.size)).get? (s.heap.objs.size+1)=some (Ls C s.heap.objs.size):=by
  let:=Ft (s.heap.push W.emptyDict) (o:=Ls C s.heap.objs.size) rfl;rwa [El]at this
 let e3:(s.heap.push W.emptyDict).Ns s.heap.objs.size (λ_=>none):=⟨W.emptyDict,#[],_,e1,rfl,(λe he=>Fl he (by simp)),λ_=>rfl⟩;let I1:=I.laid (a:=s.heap.objs.size) (o:=.own (s.heap.objs.size+1)) (h':=s.heap.push W.emptyDict) (t':=s.toks) (λb u q=>Fs _ q) (Jd _) ⟨_,e1⟩;refine I1.laid (a:=s.heap.objs.size+1) (o:=.ins C s.heap.objs.size []) (t':=s.toks) (λb u q=>Fs _ q) (Bq (El _ _)) ?_;let ne:s.heap.objs.size≠s.heap.objs.size+1:=Gd (Bc _);exists by rw[Zo ne,Zh],Ju _,ne,e2,λ_=>none,(Heap.Ns1.of_empty e3).at λo q=>Fs _ q,λ_=>Es,λy hy=>Fl rfl hy
def Zqf{env:Env}{e:Expr}{f:Str}{Q:Ca->Cc->Prop}(hb:Ll e f env (eval e env)=eval e env)(h:Cd (Ck prog w) A (eval e env) (λo s₁=>Cd (Ck prog w) A (getAttr o f true) Q E s₁) E s):Cd (Ck prog w) A (eval (.Attribute e f pos) env) Q E s :=
 Attribute_any_ h (by rw[arm_eval_Attribute,hb])
end
def tFld(K:Cr)(ta:TE)(f:Str):TE:=λσ H Q=>ta σ H λx H1=>∃a C dx fs v,x=.ref a/\H1 a=some (.ins C dx fs)/\Cls K C/\Yp K C f/\fs.lookup f=some v/\Q v H1
def sFld(K:Cr)(ta tv:TE)(f:Str):TS:=λD σ H=>tv σ H λy H1=>ta σ H1 λx H2=>∃a C dx fs,x=.ref a/\H2 a=some (.ins C dx fs)/\Cls K C/\Yp K C f/\fs.length<1000 /\
 D.nx σ (upd H2 a (.ins C dx (putF f y fs)))
section
variable{o e:Expr}{f:Str}{tv:TE}
def Xx(he:PE X e ta)(hb:Ll e f X.env (eval e X.env)=eval e X.env):PE X (.Attribute e f pos) (tFld X.K ta f):=by
 intro pq s σ H Q I h;refine Zqf hb (thn (he pq s σ H _ I h) λu s1 hz=>?_);let⟨x,H1,I1,rx,a,C,dx,fs,v,ex,ea,c,n,l,q⟩:=hz;subst ex;obtain rfl:u=Ch a:=rx;exact Zfn I1 ea c n l λu' s2 I2 ru=>⟨v,H1,I2,ru,q⟩
def Qc(ha:PE X o ta)(hv:PE X value tv)(hs:Mj value (some (.Attribute o f pos')) pos.line X.env=pure false):PS X (.Assign [.Attribute o f pos'] value pos) (sFld X.K ta tv f):=by
 intro pq s σ H D I h;refine K5 (thn (hv pq s σ H _ I h) λu s1⟨y,H1,I1,ry,q⟩=>thn (ha pq s1 σ H1 _ I1 q) λov s2 hz=>?_) hs;let⟨x,H2,I2,rx,a,C,dx,fs,ex,ea,c,n,l,q2⟩:=hz;subst ex;obtain rfl:ov=Ch a:=rx;exact Ze4 I2 ea c n l ry λs3 I3=>⟨σ,_,I3,q2⟩
end
section
variable{Q:Ca->Cc->Prop}{c:Ca}{b:Bool}
inductive TyOf(K:Cr)(H:Hp):V->Ca->Prop where
 |non:TyOf K H .non (.type "NoneType")
 |bl (x:Bool):TyOf K H (.bl x) (.type "bool")
 |int (i:Int):TyOf K H (.int i) (.type "int")
 |str (x:Str):TyOf K H (.str x) (.type "str")
 |flt (x:UInt64):TyOf K H (.flt x) (.type "float")
 |lst {a:Addr} {xs:List V} (e:H a=some (.lst xs)):TyOf K H (.ref a) (.type "list")
 |frz {a:Addr} {o:Obj} {xs:List V} (e:H a=some (.frz o (.lst xs))):TyOf K H (.ref a) (.type "list")
 |tup {a:Addr} {xs:List V} (e:H a=some (.tup xs)):TyOf K H (.ref a) (.type "tuple")
 |dK {a:Addr} {kvs:List (Key×V)} (e:H a=some (.dK kvs)):TyOf K H (.ref a) (.type "dict")
 |dT {a:Addr} {kvs:List (List Key×V)} (e:H a=some (.dT kvs)):TyOf K H (.ref a) (.type "dict")
 |ins {a C dx:Addr} {fs:List (Str×V)} (e:H a=some (.ins C dx fs)) (cl:Cls K C) (ha:Ed K (.ref C) "__class__"=some (some (.builtin "object.__class__")))
   (hn:W.specialIn K (.builtin "object.__class__") "__get__"=some (some (.builtin "getset_descriptor.__get__"))) (htk:W.takesIn K (.builtin "object.__class__")=some true)
   (hm:L7 K C (.type "object")=some true):TyOf K H (.ref a) (.ref C)
theorem Zir{x:V}{u t:Ca}(I:Inv X pq σ H s)(rx:RelV x u)(ty:TyOf X.K H x t)(e:Jg6 X.K t c=some b)(h:∀tk,Q (.bool b) {s with toks:=tk}) :
  Cd (Ck X.prog X.w) A (call (.builtin "isinstance") [u,c]) Q E s:=by
 cases ty with
 |non=>cases(show u=Ca.none from rx);exact Kl W.kitx_none I.kIn Es e (λz=>nomatch z) h
 |bl y=>cases(show u=Lq y from rx);exact Kl W.kitx_bool I.kIn Es e (λz=>nomatch z) h
 |int i=>obtain⟨t,q⟩:=(show ∃t,u=C0 i t from rx);cases q;exact Kl W.kitx_int I.kIn Es e (λz=>nomatch z) h
 |str y=>obtain⟨t,q⟩:=(show ∃t,u=Jb8 y t from rx);cases q;exact Kl W.kitx_str I.kIn Es e (λz=>nomatch z) h
 |flt y=>obtain⟨t,q⟩:=(show ∃t,u=Jfk y t from rx);cases q;exact Kl W.kitx_float I.kIn Es e (λz=>nomatch z) h
 | @lst a xs ea =>
  cases(show u=Ch a from rx);let⟨_,_,n,_,h1⟩:=(show Y3 X.prog X.w H s.heap a (.lst xs)from I.hok a _ ea);exact Kl W.kitx_list I.kIn ⟨_,h1,rfl⟩ e (λz=>nomatch z) h
 | @frz a ob xs ea =>
  cases(show u=Ch a from rx);let⟨_,_,_,n,_,h1⟩:=(show Y3 X.prog X.w H s.heap a (.frz ob (.lst xs))from I.hok a _ ea);exact Kl W.kitx_list I.kIn ⟨_,h1,rfl⟩ e (λz=>nomatch z) h
 | @tup a xs ea =>
  cases(show u=Ch a from rx);let⟨_,_,_,p⟩:=(show Y3 X.prog X.w H s.heap a (.tup xs)from I.hok a _ ea);let⟨o,h1,h2,_⟩:=p;exact Kl W.kitx_tuple I.kIn ⟨o,h1,h2⟩ e (λz=>nomatch z) h
 | @dK a kvs ea =>
  cases(show u=Ch a from rx);let⟨_,_,vs,_,p⟩:=(show Y3 X.prog X.w H s.heap a (.dK kvs)from I.hok a _ ea);let⟨o,es,ep,h1,h2,_⟩:=p;exact Kl W.kitx_dict I.kIn ⟨o,h1,h2.1⟩ e (λz=>nomatch z) h
 | @dT a kvs ea =>
  cases(show u=Ch a from rx);let⟨_,_,xs,_,o,es,ep,h1,h2,_⟩:=(show Y3 X.prog X.w H s.heap a (.dT kvs)from I.hok a _ ea);exact Kl W.kitx_dict I.kIn ⟨o,h1,h2.1⟩ e (λz=>nomatch z) h
 | @ins a C dx fs ea cl ha hn htk hm =>
  cases(show u=Ch a from rx);let⟨mA,O,_⟩:=Nu I.hok ea;let⟨od,J,_⟩:=O.look;exact Kl (W.kitx_own (cl.get _) cl.hd ha hn htk hm) I.kIn J e (λz=>nomatch z) h
end
structure Room(k:Nat)(A:Kj):Prop where
 hd:A.handled=none
 dp:A.depth+3*k+5<recursionLimit
 un:A.units+16*k+200<E9
theorem Room.mono{j k:Nat}(r:Room k A)(h:j<=k):Room j A:=⟨r.hd,by have:=r.dp;lia,by have:=r.un;lia⟩
theorem Room.deeper{k:Nat}(r:Room (k+1) A)(env:Env):Room k (A.deeper env) :=
 ⟨r.hd,by have:=r.dp;show A.depth+1+3*k+5<_;lia,by have:=r.un;show A.units+3+16*k+200<_;lia⟩
theorem Room.in1{k:Nat}(r:Room (k+1) A):Room k A.in1 :=
 ⟨r.hd,by have:=r.dp;show A.depth+3*k+5<_;lia,by have:=r.un;show A.units+1+16*k+200<_;lia⟩
def Zff :(A.under (.builtin "type.__call__" ⟨.ref C::us,kw⟩)).depth=A.depth+1:=by
 first|rfl|simp[Je2,Code.weight,Code.isCreation,Code.isGuard,Code.isCaller,Jh1,Je3,guardIds]
def Zfe :(A.under (.builtin "type.__call__" ⟨.ref C::us,kw⟩)).units=A.units+1:=by
 first|rfl|simp[Je2,Code.cUnits,Jh1,Je3]
theorem Room.make{k:Nat}(r:Room (k+1) A)(C:Addr)(us:List Ca)(kw:List (Str×Ca)):Room k (A.under (.builtin "type.__call__" ⟨.ref C::us,kw⟩)) :=
 ⟨r.hd,by have:=r.dp;rw[Zff];lia,by have:=r.un;rw[Zfe];lia⟩
theorem Room.depth{k:Nat}(r:Room k A):A.depth<recursionLimit:=by have:=r.dp;lia
theorem Room.units{k:Nat}(r:Room k A):A.units+64<E9:=by have:=r.un;lia
def tNil:TA:=λ_ H Q=>Q [] H
def Zao(ta:TE)(tr:TA):TA:=λσ H Q=>ta σ H λx H1=>tr σ H1 λxs H2=>Q (x::xs) H2
section
variable{e:Expr}{t:TA} 
def Zb:PA X [] tNil:=λ_ _ _ _ H Q I h=>Jel ⟨[],H,I,.nil,h⟩
def Za(ha:PE X e te)(hr:PA X es t)(hs:Cj (e::es) X.env=(false,eval e X.env)::Cj es X.env:=by rfl):PA X (e::es) (Zao te t):=by
 intro pos pq s σ H Q I h;rw[hs];show Cd _ _ (spliced ((false,eval e X.env)::Ht pos (Cj es X.env))) _ _ s;refine Jd3 (thn (ha pq s σ H _ I h) λu s1 hz=>?_);let⟨x,H1,I1,r1,q1⟩:=hz;exact thn (hr pos pq s1 σ H1 _ I1 q1) λus s2⟨xs,H2,I2,r2,q2⟩=>⟨x::xs,H2,I2,.cons r1 r2,q2⟩
def tTup(t:TA):TE:=λσ H Q=>t σ H λxs H1=>xs.length<=Cb/\∀p,H1 p=none->Q (.ref p) (upd H1 p (.tup xs))
def tLst(t:TA):TE:=λσ H Q=>t σ H λxs H1=>xs.length<=Cb/\∀p,H1 p=none->Q (.ref p) (upd H1 p (.lst xs))
def Xd{x1}(h:PA X es t):PE X (.Tuple es x1 pos) (tTup t):=by
 intro pq s σ H Q I hq;refine wpAny_Tuple_spliced (thn (h pos pq s σ H _ I hq) λus s1⟨xs,H1,I1,r,z,q⟩=>⟨by rw[<-r.length];exact z,?_⟩);let hf:H1 s1.heap.objs.size=none:=I1.hok.fresh (Jd _);exists .ref s1.heap.objs.size,upd H1 s1.heap.objs.size (.tup xs),I1.laid (t':=s1.toks) (λb u e=>Fs _ e) (Jd _) ?_,rfl,q _ hf;exists z,us,r,⟨_,Ft _ rfl,rfl,_,rfl,rfl⟩
def Yf(h:PA X es t):PE X (.List es pos) (tLst t):=by
 intro pq s σ H Q I hq;refine wpAny_List_spliced (thn (h pos pq s σ H _ I hq) λus s1⟨xs,H1,I1,r,z,q⟩=>⟨by rw[<-r.length];exact z,?_⟩);let hf:H1 s1.heap.objs.size=none:=I1.hok.fresh (Jd _);exists .ref s1.heap.objs.size,upd H1 s1.heap.objs.size (.lst xs),I1.laid (t':=s1.toks) (λb u e=>Fs _ e) (Jd _) ?_,rfl,q _ hf;exists z,us,0,r,Ft _ rfl
end
abbrev Sp:=List V->Hp->VK->XK->Prop
variable{sp sp':L2.Sp}
abbrev CXT:=List Env->Hp->Cc->XK->Ca->Cc->Prop
variable{CX:L2.CXT}
structure Env0(P:Ez)(w:Hm)(K:Cr)(mg:Str->Option Ca)(base:Heap)(A:Kj)(outer:List Env)(s:Cc)(H:Hp):Prop where
 frames:A.frames=some outer
 mod:Mod K mg base
 bs:∀b o,base.get? b=some o->s.heap.get? b=some o/\H b=none
 bsz:base.objs.size<=s.heap.objs.size
 funs:s.heap.FunFrames base outer
 frf:∀b∈frs outer,H b=none
 hok:HOk P w H s.heap
 bare:Mu s.gens
def CE(outer:List Env)(P:Ez)(w:Hm)(H:Hp)(s:Cc)(Q:VK)(u:Ca)(s':Cc):Prop :=
 ∃v H',s'.os=s.os/\Mu s'.gens/\Un (frs outer) [] H H' s.heap s'.heap/\HOk P w H' s'.heap/\RelV v u/\Q v H'
def CR(CX:CXT)(outer:List Env)(P:Ez)(w:Hm)(H:Hp)(s:Cc)(Q:VK)(E:XK)(r:Jc0)(s':Cc):Prop :=
 match r with
 |.ok (.ret u)=>CE outer P w H s Q u s'
 |.ok _=>False
 |.error e=>CX outer H s E e s'
structure FnOk(P:Ez)(w:Hm)(K:Cr)(mg:Str->Option Ca)(base:Heap)(CX:CXT)(k:Nat)(f:Addr)(fd:Md)(ps:List Str)(sp:Sp):Prop where
 len:∀vs H Q E,sp vs H Q E->vs.length=ps.length
 run:∀(A:Kj)(outer:List Env)(s:Cc)(H:Hp)(args:Args)(us:List Ca)(vs:List V)(Q:VK)(E:XK),Room k A->Env0 P w K mg base A outer s H->Jem s fd args (ps.zip us)->Vals vs us->sp vs H Q E ->
  Ho (Ck P w) A (.call (.ref f) args) (CR CX outer P w H s Q E) s
def FnOk.imp{base:Heap}{k:Nat}{f:Addr}(F:FnOk P w K mg base CX k f fd ps sp)(h:∀vs H Q E,sp' vs H Q E->sp vs H Q E):FnOk P w K mg base CX k f fd ps sp' :=
 ⟨λvs H Q E q=>F.len vs H Q E (h _ _ _ _ q),λA outer s H args us vs Q E hr he hb hv hs=>F.run A outer s H args us vs Q E hr he hb hv (h _ _ _ _ hs)⟩
def Env0.make{base:Heap}{outer:List Env}(e:Env0 P w K mg base A outer s H)(C:Addr)(us:List Ca)(kw:List (Str×Ca)) :
  Env0 P w K mg base (A.under (.builtin "type.__call__" ⟨.ref C::us,kw⟩)) outer s H:=⟨by first|exact e.frames|(simpa[Je2,Code.envs,Je3,pushEnvs]using e.frames),e.mod,e.bs,e.bsz,e.funs,e.frf,e.hok,e.bare⟩
def Env0.in1{base:Heap}{outer:List Env}(e:Env0 P w K mg base A outer s H) :
  Env0 P w K mg base A.in1 outer s H:=⟨e.frames,e.mod,e.bs,e.bsz,e.funs,e.frf,e.hok,e.bare⟩
section
variable{s':Cc}
def Inv.env0(I:Inv X pq σ H s):Env0 X.prog X.w X.K X.mg X.base X.A X.stack s H :=
 ⟨I.ok.frames,I.ok.mod,I.bs,Jy I.ok.bsz I.sz,I.stack,I.stkFree,I.hok,I.bare⟩
def Inv.after{u:Ca}(I:Inv X pq σ H s)(h:CE X.stack X.prog X.w H s Q u s'):EP X pq σ Q u s':=by
 let⟨v,H',os,bare,un,hok,r,q⟩:=h;let⟨hh,g,d,t,os'⟩:=s';obtain rfl:os'=s.os:=os;exists v,H',I.call (h':=hh) (g':=g) (d':=d) (t':=t) (ch:=[]) un hok bare (λb z=>Fl z (by simp)),r,q
end
def Zgo(sp:Sp)(dvs:List V)(E:XK)(t:TA):TE:=λσ H Q=>t σ H λvs H1=>sp (vs++dvs) H1 Q E
def Nb(C:Addr)(m:Str)(sp:Sp)(dvs:List V)(E:XK)(ta:TE)(t:TA):TE:=λσ H Q=>ta σ H λx H1=>∃a dx fs,x=.ref a/\H1 a=some (.ins C dx fs)/\fs.lookup m=none /\
 t σ H1 λvs H2=>sp (x::(vs++dvs)) H2 Q E
def Ze1(C:Addr)(sp:Sp)(dvs:List V)(E:XK)(t:TA):TE:=λσ H Q=>t σ H λvs H1=>∀x dx,H1 x=none->H1 dx=none->dx≠x ->
 sp (.ref x::(vs++dvs)) (upd (upd H1 dx (.own x)) x (.ins C dx [])) (λv H2=>v=.non/\Q (.ref x) H2) E
def Vo(K:Cr)(fd:Md)(ps:List Str)(ds:List Ca):Prop :=
 ∀(s:Cc)(us:List Ca),K.In s.heap->(us++ds).length=ps.length->Jem s fd ⟨us,[]⟩ (ps.zip (us++ds))
def Vo.all(h:∀us:List Ca,us.length=ps.length->Jde fd ⟨us,[]⟩=pure (ps.zip us)):Vo K fd ps []:=λs us _ hl=>by
 rw[Jp]at hl⊢;exact .of_eq (h us hl)
def Uo(CX:CXT)(X:Cx)(E:XK):Prop:=∀(pq:List (Addr×Obj))(σ:St)(H:Hp)(s:Cc)(e:Ca)(s':Cc),Inv X pq σ H s->CX X.stack H s E e s'->X.xe e s'
section
variable{k:Nat}{f:Addr}{dvs:List V}{ds:List Ca}{E:XK}{x m:Str}{p:Pos}{e o:Expr}{t:TA}
theorem Zhd(F:FnOk X.prog X.w X.K X.mg X.base CX k f fd ps sp)(hr:Room k X.A)(hb:Vo X.K fd ps ds)(hd:Vals dvs ds)(hx:Uo CX X E)(I:Inv X pq σ H s)(r:Vals vs us)(h:sp (vs++dvs) H Q E):Cd (Ck X.prog X.w) X.A (call (.ref f) us) (EP X pq σ Q) X.xe s:=by
 let r2:Vals (vs++dvs) (us++ds):=r.append hd;let hl:(us++ds).length=ps.length:=by rw[<-r2.length];exact F.len _ _ _ _ h
 refine K6 (Hl (F.run X.A X.stack s H ⟨us,[]⟩ (us++ds) (vs++dvs) Q E hr I.env0 (hb s us I.kIn hl) r2 h) λr s' hq=>?_);cases r with
 |error e=>exact hx pq σ H s e s' I hq
 |ok fl =>
  cases fl with
  |ret u=>exact I.after hq
  |next=>exact Cq hq
  |brk=>exact Cq hq
  |cont=>exact Cq hq
def Zhu(F:FnOk X.prog X.w X.K X.mg X.base CX k f fd ps sp)(hr:Room k X.A)(hg:Gl X x)(hm:X.mg x=some (.ref f))(hk:Mc X.K (.ref f)=true)(hb:Vo X.K fd ps ds)(hd:Vals dvs ds)(hx:Uo CX X E)(ha:PA X (e::es) t)(hdb:(x==("__debug__":Str))=false:=by decide)(he:Cj (e::es) X.env=(false,eval e X.env)::Cj es X.env:=by rfl)(hpl:(Ht pos (Cj es X.env)).any (·.1)=false:=by rfl) :
  PE X (.Call (.Name x p) (e::es) [] pos) (Zgo sp dvs E t):=by
 intro pq s σ H Q I h;refine Ej (Qk I hg hm ?_ hdb);refine Me (h₀:=X.base) I.ok.mod.kin hk (thn (ha pos pq s σ H _ I h) λus s1⟨vs,H1,I1,r,q⟩=>⟨I1.kIn,?_⟩) he hpl;exact Zhd F hr hb hd hx I1 r q
def Zhs{pl:Sem Bool}(he:PE X o ta)(c:Cls X.K C)(hm:Meth X.K C m f)(F:FnOk X.prog X.w X.K X.mg X.base CX k f fd ps sp)(hr:Room k X.A)(hb:Vo X.K fd ps ds)(hd:Vals dvs ds)(hx:Uo CX X E)(ha:PA X (e::es) t)(hst:Cj (e::es) X.env=(false,eval e X.env)::Cj es X.env:=by rfl)(hpl:(Ht pos (Cj es X.env)).any (·.1)=false:=by rfl)(ht:eval (.Call (.Attribute o m apos) (e::es) [] pos) X.env=(do
   let ov <-eval o X.env
   Lv apos.atName
   let(f,first) <-Hw [ov] (Lz ov m pl)
   Jd4 pos f first (Ht pos (Cj (e::es) X.env)) (Lm pos (Hq [] X.env))):=by rfl) :
  PE X (.Call (.Attribute o m apos) (e::es) [] pos) (Nb C m sp dvs E ta t):=by
 intro pq s σ H Q I h;refine Jc1 (pl:=pl) (thn (he pq s σ H _ I h) λu s1 hz=>?_) ht;let⟨x,H1,I1,rx,a,dx,fs,ex,ea,l,q⟩:=hz;subst ex;obtain rfl:u=Ch a:=rx;refine Sx I1 ea c hm l ?_;refine Me (first:=[.ref a]) (h₀:=X.base) I.ok.mod.kin hm.kp (thn (ha pos pq s1 σ H1 _ I1 q) λus s2⟨vs,H2,I2,r,q2⟩=>⟨I2.kIn,?_⟩) hst hpl;exact Zhd (us:=.ref a::us) (vs:=.ref a::vs) F hr hb hd hx I2 (.cons rfl r) q2
def Zk5{pl:Sem Bool}(he:PE X o ta)(c:Cls X.K C)(hm:Meth X.K C m f)(F:FnOk X.prog X.w X.K X.mg X.base CX k f fd ps sp)(hr:Room k X.A)(hb:Vo X.K fd ps ds)(hd:Vals dvs ds)(hx:Uo CX X E)(ht:eval (.Call (.Attribute o m apos) [] [] pos) X.env=(do
   let ov <-eval o X.env
   Lv apos.atName
   let(f,first) <-Hw [ov] (Lz ov m pl)
   Jd4 pos f first (Ht pos (Cj [] X.env)) (Lm pos (Hq [] X.env))):=by rfl) :
  PE X (.Call (.Attribute o m apos) [] [] pos) (Nb C m sp dvs E ta tNil):=by
 intro pq s σ H Q I h;refine Jc1 (pl:=pl) (thn (he pq s σ H _ I h) λu s1 hz=>?_) ht;let⟨x,H1,I1,rx,a,dx,fs,ex,ea,l,q⟩:=hz;subst ex;obtain rfl:u=Ch a:=rx;refine Sx I1 ea c hm l ?_;exact Jg7 (first:=[.ref a]) I1.kIn hm.kp (Zhd (us:=[.ref a]) (vs:=[.ref a]) F hr hb hd hx I1 (.cons rfl .nil) q)
structure Mk(K:Cr)(C f:Addr):Prop where
 makes:W.makesIn K C=true
 init:Ed K (.ref C) "__init__"=some (some (.ref f))
 fn:W.isFn K (.ref f)=true
 kp:Mc K (.ref C)=true
theorem Zdz(M:Mk X.K C f)(F:FnOk X.prog X.w X.K X.mg X.base CX k f fd ps sp)(hr:Room (k+1) X.A)(hb:Vo X.K fd ps ds)(hd:Vals dvs ds)(hx:Uo CX X E)(I:Inv X pq σ H s)(r:Vals vs us)(h:∀x dx,H x=none->H dx=none->dx≠x->sp (.ref x::(vs++dvs)) (upd (upd H dx (.own x)) x (.ins C dx [])) (λv H2=>v=.non/\Q (.ref x) H2) E) :
  Cd (Ck X.prog X.w) X.A (call (.ref C) us) (EP X pq σ Q) X.xe s:=by
 let hq:=h (s.heap.objs.size+1) s.heap.objs.size (I.hok.fresh (G2 _)) (I.hok.fresh (Jd _)) (Gd (Bc _));let I2:=Inv.made (C:=C) I;let r2:Vals (V.ref (s.heap.objs.size+1)::(vs++dvs)) (Ch (s.heap.objs.size+1)::(us++ds)):=.cons rfl (r.append hd);let hl:(Ch (s.heap.objs.size+1)::us++ds).length=ps.length:=by
  let e:=r2.length;rw[F.len _ _ _ _ hq]at e;exact e.symm
 refine K6 (Zle (f:=f) I.kIn M.makes M.init (beq_iff_eq.mp M.fn) (Hl (F.run _ X.stack _ _ ⟨Ch (s.heap.objs.size+1)::us,[]⟩ (Ch (s.heap.objs.size+1)::(us++ds)) _ _ E (hr.make C us [])
  (I2.env0.make C us []) (hb _ (Ch (s.heap.objs.size+1)::us) I2.kIn hl) r2 hq) λr s' hq'=>?_))
 cases r with
 |error e=>exact hx pq σ _ _ e s' I2 hq'
 |ok fl =>
  cases fl with
  |ret u =>
   let⟨v,H',I3,rv,ev,q3⟩:=I2.after hq';subst ev;exists rv,⟨V.ref (s.heap.objs.size+1),H',I3,rfl,q3⟩
  |next=>exact Cq hq'
  |brk=>exact Cq hq'
  |cont=>exact Cq hq'
def Zo0(M:Mk X.K C f)(F:FnOk X.prog X.w X.K X.mg X.base CX k f fd ps sp)(hr:Room (k+1) X.A)(hg:Gl X x)(hm:X.mg x=some (.ref C))(hb:Vo X.K fd ps ds)(hd:Vals dvs ds)(hx:Uo CX X E)(ha:PA X (e::es) t)(hdb:(x==("__debug__":Str))=false:=by decide)(he:Cj (e::es) X.env=(false,eval e X.env)::Cj es X.env:=by rfl)(hpl:(Ht pos (Cj es X.env)).any (·.1)=false:=by rfl) :
  PE X (.Call (.Name x p) (e::es) [] pos) (Ze1 C sp dvs E t):=by
 intro pq s σ H Q I h;refine Ej (Qk I hg hm ?_ hdb);refine Me (h₀:=X.base) I.ok.mod.kin M.kp (thn (ha pos pq s σ H _ I h) λus s1⟨vs,H1,I1,r,q⟩=>⟨I1.kIn,?_⟩) he hpl;exact Zdz M F hr hb hd hx I1 r q
def Zk6(M:Mk X.K C f)(F:FnOk X.prog X.w X.K X.mg X.base CX k f fd ps sp)(hr:Room (k+1) X.A)(hg:Gl X x)(hm:X.mg x=some (.ref C))(hb:Vo X.K fd ps ds)(hd:Vals dvs ds)(hx:Uo CX X E)(hdb:(x==("__debug__":Str))=false:=by decide):PE X (.Call (.Name x p) [] [] pos) (Ze1 C sp dvs E tNil):=by
 intro pq s σ H Q I h;refine Ej (Qk I hg hm ?_ hdb);exact Jg7 I.kIn M.kp (Zdz (us:=[]) M F hr hb hd hx I .nil h)
end
def PK(X:Cx)(kws:List Jfq)(t:TA):Prop :=
 ∀(pos:Pos)(pq:List (Addr×Obj))(s:Cc)(σ:St)(H:Hp)(Q:List V->Hp->Prop),Inv X pq σ H s->t σ H Q->Cd (Ck X.prog X.w) X.A (evalAll ((Lm pos (Hq kws X.env)).map (·.2))) (AP X pq σ Q) X.xe s
section
variable{x:Str}{e:Expr}{kws:List Jfq}{t:TA}{nm:Option Str}
def Zm0:PK X [] tNil:=λ_ _ _ _ H Q I h=>wpAny_evalAll_nil ⟨[],H,I,.nil,h⟩
def Zhn(ha:PE X e te)(hr:PK X kws t):PK X (⟨nm,e,kpos⟩::kws) (Zao te t):=by
 intro pos pq s σ H Q I h;show Cd _ _ (evalAll ((do let v <-eval e X.env;Lv pos;pure v)::(Lm pos (Hq kws X.env)).map (·.2))) _ _ s;refine wpAny_evalAll_cons (Fo (thn (ha pq s σ H _ I h) λu s1⟨x,H1,I1,r1,q1⟩=>Fo (E7 (Fp ?_))));exact thn (hr pos pq s1 σ H1 _ I1 q1) λus s2⟨xs,H2,I2,r2,q2⟩=>⟨x::xs,H2,I2,.cons r1 r2,q2⟩
end
structure FnScope(N P:List Str)(sc:Scope):Prop where
 kind:sc.kind=.function
 co:sc.isCoroutine=false
 gen:sc.isGenerator=false
 nd:N.Nodup
 pre:N.take P.length=P
 par:∀x∈P,sc.names.lookup x=some .local\/sc.names.lookup x=some .cell
 nofree:∀y∈sc.names,y.2≠.free
theorem Zbs{kindOf:Str->Option E5}{x:Str}:∀{binds:List (Str×Ca)}{m:Str->Option Ca},(∀v,(x,v)∉binds)->Jh2 kindOf binds m x=m x
 |[],_,_=>rfl
 |(n,v)::r,m,h=>by
  unfold Jh2;rw[Zbs λw hw=>h w (Jk _ hw)]
  split
  .let:x≠n:=by rintro rfl;exact h v Jl
   simp[this]
  .rfl
theorem Zbu{kindOf:Str->Option E5}{x:Str}:∀{binds:List (Str×Ca)}{m:Str->Option Ca},(∀v,(x,v)∉binds)->Jh3 kindOf binds m x=m x
 |[],_,_=>rfl
 |(n,v)::r,m,h=>by
  unfold Jh3;rw[Zbu λw hw=>h w (Jk _ hw)]
  split
  .rfl
  .let:x≠n:=by rintro rfl;exact h v Jl
   simp[this]
theorem Zbt{kindOf:Str->Option E5}{x:Str}{v:Ca}:∀{P:List Str}{vs:List Ca}{i:Nat}{m:Str->Option Ca},P.Nodup->P[i]?=some x->vs[i]?=some v->kindOf x=some .local ->
  Jh2 kindOf (P.zip vs) m x=some v
 |[],_,_,_,_,h,_,_=>by simp at h
 |_::_,[],_,_,_,_,h,_=>by simp at h
 |p::P,w::vs,0,m,nd,h1,h2,hk=>by
  simp at h1 h2;subst h1;subst h2;show Jh2 kindOf ((p,w)::P.zip vs) m p=_;unfold Jh2;rw[Zbs λv hv=>(Bb.mp nd).1 (Jc2 hv).1,Fw hk];simp
 |p::P,w::vs,i+1,m,nd,h1,h2,hk=>by
  show Jh2 kindOf ((p,w)::P.zip vs) m x=_;unfold Jh2;exact Zbt (i:=i) (Bb.mp nd).2 (by simpa using h1) (by simpa using h2) hk
theorem Zbv{kindOf:Str->Option E5}{x:Str}{v:Ca}:∀{P:List Str}{vs:List Ca}{i:Nat}{m:Str->Option Ca},P.Nodup->P[i]?=some x->vs[i]?=some v->kindOf x≠some .local ->
  Jh3 kindOf (P.zip vs) m x=some v
 |[],_,_,_,_,h,_,_=>by simp at h
 |_::_,[],_,_,_,_,h,_=>by simp at h
 |p::P,w::vs,0,m,nd,h1,h2,hk=>by
  simp at h1 h2;subst h1;subst h2;show Jh3 kindOf ((p,w)::P.zip vs) m p=_;unfold Jh3;rw[Zbu λv hv=>(Bb.mp nd).1 (Jc2 hv).1,Fv hk];simp
 |p::P,w::vs,i+1,m,nd,h1,h2,hk=>by
  show Jh3 kindOf ((p,w)::P.zip vs) m x=_;unfold Jh3;exact Zbv (i:=i) (Bb.mp nd).2 (by simpa using h1) (by simpa using h2) hk
def Tb(N:List Str)(vs:List V):St:=vs.map some++Co (N.length-vs.length) none
def cxOf(CX:CXT)(P:Ez)(w:Hm)(K:Cr)(mg:Str->Option Ca)(base:Heap)(N:List Str)(qual:Str)(scope:Scope)(f:Addr)(cd:Ca)(A:Kj)(outer:List Env)(s:Cc)(H:Hp)(E:XK):Cx where
 prog:=P
 w:=w
 K:=K
 mg:=mg
 base:=base
 A:=A.deeper (Hf qual scope s.heap.objs.size f cd)
 N:=N
 s₀:=s
 H₀:=H
 env:=Hf qual scope s.heap.objs.size f cd
 outer:=outer
 stack:=Hf qual scope s.heap.objs.size f cd::outer
 ex:=[]
 calm:=true
 fn:=λ_=>true
 pn:=[]
 xe:=λe s'=>Cd (Ck P w) (A.deeper (Hf qual scope s.heap.objs.size f cd)) (Jh4 (Hf qual scope s.heap.objs.size f cd) e) (λ_ s''=>CX outer H s E e s'') (λe' s''=>CX outer H s E e' s'') s'
def Zes{sc:Scope}{n:Nat}{x:Str}(h:sc.names.lookup x=some .cell):∃c,(Jhl n sc.names []).lookup x=some c:=by
 let q:=Jfa sc.names n [] (.inl h);exact Option.isSome_iff_exists.mp q
theorem Zbe{base:Heap}{scope:Scope}{f:Addr}{cd:Ca}{outer:List Env}{s1:Cc}{E:XK}(S:FnScope N ps scope)(hd:A.handled=none)(e0:Env0 P w K mg base A outer s H)(hl:vs.length=ps.length)(r:Vals vs us)(x:InCallC s s.heap.objs.size (Jh2 (Hf qual scope s.heap.objs.size f cd).kindOf (ps.zip us) λ_=>none) (Jhl (s.heap.objs.size+1) scope.names []) (Jh3 (Hf qual scope s.heap.objs.size f cd).kindOf (ps.zip us) λ_=>none) s1) :
  Inv (cxOf CX P w K mg base N qual scope f cd A outer s H E) [] (Tb N vs) H s1:=by
 let hpl:ps.length<=N.length:=by have:=congrArg K7 S.pre;rw[J8]at this;lia
 let⟨h1,tk,rfl,hk⟩:=x.done;let noA:∀b:Addr,b∉(cxOf CX P w K mg base N qual scope f cd A outer s H E).ex:=λb z=>Fl (show b∈([]:List Addr)from z) (by simp);refine⟨⟨e0.mod,S.kind,rfl,rfl,Jd _,λy z c h1 h2=>?_,λy hy=>?_,λy c _ h=>?_,λ_=>hd,Kj.frames_deeper e0.frames,.inr ⟨rfl,rfl⟩,λb z=>Fl z (noA b),e0.bs,e0.bsz,λb _ _=>noA b,λb z=>Fl z (noA b),e0.funs,e0.frf⟩,
  rfl,e0.bare,Un.kept hk,⟨_,x.toInCall.ns,λi y v h1 h2 h3=>?_⟩,λy c h=>⟨_,x.cell y c h⟩,e0.hok.fresh (Jd _),λy c h=>?_,λp hp=>Fl (show p∈([]:List (Addr×Obj))from hp) (by simp),e0.hok.kept hk,?_⟩
 .exact name_of_addr x.apart (Hr h1) (Hr h2)
 .let hy:scope.names.lookup y=some .cell\/scope.names.lookup y=some .free:=hy;rcases hy with hy|hy
  .exact Zes hy
  .exact Fl rfl (S.nofree _ (Hr hy))
 .exact Bp (x.above y c (Hr h))
 .let hi:i<vs.length:=by
   unfold Tb at h2
   by_cases hi:i<vs.length
   .exact hi
   .rw[Go (by simpa using hi)]at h2;rw[Mw]at h2
    split at h2<;>cases h2
  let ha:vs[i]?=some v:=by
   unfold Tb at h2;rw[J0 (by simpa using hi),Jq]at h2;cases e:vs[i]? with
   |none=>rw[e]at h2;cases h2
   |some a=>rw[e]at h2;cases h2;rfl
  let⟨u,hu,rv⟩:=r.get ha;let hp:ps[i]?=some y:=by
   rw[<-S.pre,Kq ()];exact h1
  let ndP:ps.Nodup:=by rw[<-S.pre];exact S.nd.sublist (List.take_sublist _ _)
  exists u,rv,?_;rcases S.par y (Gq hp)with k|k
  .exact .inl ⟨k,Zbt ndP hp hu k⟩
  .let⟨c,e⟩:=Zes (n:=s.heap.objs.size+1) k;refine .inr ⟨.inl k,c,e,?_⟩;let q:=x.cell y c e;rw[Zbv ndP hp hu (by show scope.names.lookup y≠_;rw[k];decide)]at q;exact q
 .exact e0.hok.fresh (Bp (x.above y c (Hr h)))
 .unfold Tb;show _=N.length;rw[Jc,Ja,List.length_replicate];lia
theorem Zlv{base:Heap}{k:Nat}{f:Addr}{name:Str}{params:Arguments}{scope:Scope}{dV kV:Ca}{osl:Array (Option Ca)}{N ps:List Str}{sp:Sp}(lk:K.lookup f=some ⟨oc,od,.func (Lc name qual params body scope dV kV doc pm an cdv ct),osl⟩)(hcd:Ln K cdv qual=true)(S:FnScope N ps scope)(len:∀vs H Q E,sp vs H Q E->vs.length=ps.length)(hbody:∀(A:Kj)(outer:List Env)(s:Cc)(H:Hp)(vs:List V)(Q:VK)(E:XK),Room k (A.deeper (Hf qual scope s.heap.objs.size f cdv))->sp vs H Q E ->
   ∃t,PSs (cxOf CX P w K mg base N qual scope f cdv A outer s H E) body t/\t {nx:=λ_ H'=>Q .non H',rt:=Q} (Tb N vs) H) :
  FnOk P w K mg base CX (k+1) f (Lc name qual params body scope dV kV doc pm an cdv ct) ps sp:=by
 refine⟨len,λA outer s H args us vs Q E hr e0 hb r hsp=>?_⟩;let hl:=len _ _ _ _ hsp;let KX:K.In s.heap:=e0.mod.kin.keeps λb o e=>(e0.bs b o e).1;let lim:s.heap.NoLimit:=e0.mod.nolimit.keeps λb o e=>(e0.bs b o e).1;let hkind:∀y∈ps.zip us,scope.names.lookup y.1=some .local\/(scope.names.lookup y.1=some .cell/\((Jhl (s.heap.objs.size+1) scope.names []).lookup y.1).isSome=true):=λ⟨n,v⟩hy=>by
  rcases S.par n (Jc2 hy).1 with q|q
  .exact .inl q
  .exact .inr ⟨q,Jfa _ _ _ (.inl q)⟩
 refine codeAny_call_function hr.depth (KX _ _ lk) rfl S.co S.gen rfl (W.codeRec_of KX hcd) (hb _ _ _ _ ?_);refine L8 S.kind hkind λenv he s1 x=>?_;subst he;refine⟨lim.keeps x.toInCall.keep,codeAny_func ?_⟩;let⟨t,ht,hq⟩:=hbody A outer s H vs Q E (hr.deeper _) hsp;let I:Inv (cxOf CX P w K mg base N qual scope f cdv A outer s H E) [] (Tb N vs) H s1:=Zbe S hr.hd e0 hl r x;refine F7 (ht [] s1 (Tb N vs) H _ I hq) (λfl s' hs=>?_) λe s' hs=>hs;let fin:∀{σ':St}{H':Hp}{v:V}{u:Ca},Inv (cxOf CX P w K mg base N qual scope f cdv A outer s H E) [] σ' H' s'->RelV v u->Q v H'->CE outer P w H s Q u s' :=
  λ{σ' H' v u}J rv q=>⟨v,H',J.os,J.bare,J.base,J.hok,rv,q⟩
 cases fl with
 |ret u =>
  let⟨v,σ',H',J,rv,q⟩:=hs;exact fin J rv q
 |next =>
  let⟨σ',H',J,q⟩:=hs;exact fin (v:=V.non) (u:=Ca.none) J rfl q
 |brk =>
  let⟨_,_,_,q⟩:=hs;exact Cq q
 |cont =>
  let⟨_,_,_,q⟩:=hs;exact Cq q
section
variable{x:Str}{p:Pos}{e:Expr}{t:TA}{id T:String}{r:List V->Hp->VK->Prop}
def tCB(r:List V->Hp->VK->Prop)(t:TA):TE:=λσ H Q=>t σ H λvs H1=>r vs H1 Q
def Zp(hc:Wr X (.builtin id) r)(hg:Gl X x)(hm:X.mg x=none)(hv:Lb x=some (.builtin id))(ha:PA X (e::es) t)(hn:x≠"__name__":=by decide)(hdb:(x==("__debug__":Str))=false:=by decide)(he:Cj (e::es) X.env=(false,eval e X.env)::Cj es X.env:=by rfl)(hpl:(Ht pos (Cj es X.env)).any (·.1)=false:=by rfl):PE X (.Call (.Name x p) (e::es) [] pos) (tCB r t):=by
 intro pq s σ H Q I h;refine Ej (T8 I hg hm hv ?_ hn hdb);exact Je4 (thn (ha pos pq s σ H _ I h) λus s1⟨vs,H1,I1,r1,q1⟩=>hc pq s1 σ H1 vs us Q I1 r1 q1) he hpl
def Z2(hc:Wr X (.type T) r)(hg:Gl X x)(hm:X.mg x=none)(hv:Lb x=some (.type T))(ha:PA X (e::es) t)(hn:x≠"__name__":=by decide)(hdb:(x==("__debug__":Str))=false:=by decide)(he:Cj (e::es) X.env=(false,eval e X.env)::Cj es X.env:=by rfl)(hpl:(Ht pos (Cj es X.env)).any (·.1)=false:=by rfl):PE X (.Call (.Name x p) (e::es) [] pos) (tCB r t):=by
 intro pq s σ H Q I h;refine Ej (T8 I hg hm hv ?_ hn hdb);exact Ka (thn (ha pos pq s σ H _ I h) λus s1⟨vs,H1,I1,r1,q1⟩=>hc pq s1 σ H1 vs us Q I1 r1 q1) he hpl
end
end L2
variable{H I H' I' H1 H2:L2.Hp}{X:L2.Cx}{σ:L2.St}{v:L2.V}{Q:L2.VK}{vs xs ys:List L2.V}{sp sp':L2.Sp}{o:L2.HO}{te ta tb to:L2.TE}{kvs:List (List L2.Key×L2.V)}{g:L2.TG}{wi:L2.TI}{r:L2.R2}{CX:L2.CXT}{tc:L2.TT}
namespace HT
open PySem PyProof.Rows
def lexLt:List Int->List Int->Bool
 |[],[]=>false
 |[],_::_=>true
 |_::_,[]=>false
 |x::xs,y::ys=>if x=y then lexLt xs ys else decide (x<y)
def lexLt_cons(x y:Int)(xs ys:List Int):lexLt (x::xs) (y::ys)=if x=y then lexLt xs ys else decide (x<y):=rfl
def No:lexLt [] []=false:=rfl
def Th(y:Int)(ys:List Int):lexLt [] (y::ys)=true:=rfl
def Vd(x:Int)(xs:List Int):lexLt (x::xs) []=false:=rfl
section
def cat_tup{t b:Addr}{vs ws:List Ca}{Q:Ca->Cc->Prop}(ht:IsTup s.heap t vs.toArray)(hb:IsTup s.heap b ws.toArray)(hv:vs≠[])(h1:ws=[]->Q (.ref t) s)(h2:ws≠[]->Q (.ref s.heap.objs.size) {s with heap:=s.heap.push {cls:=.type "tuple",data:=.seq (vs++ws).toArray} })(hsz:vs.length+ws.length<=Cb):Cd (Ck prog w) A (Hd .Add (.ref t) (.ref b)) Q E s:=by
 let⟨⟨cls,dd,data,sl⟩,ho,hc,n,hd⟩:=id ht;let⟨⟨cls2,dd2,data2,sl2⟩,ho2,hc2,n2,hd2⟩:=id hb;simp only at hc hd hc2 hd2;subst hc hd hc2 hd2;let e:vs.toArray++ws.toArray=(vs++ws).toArray:=by simp
 by_cases hw:ws=[]
 .exact concat_meets ⟨_,ho,rfl⟩ ⟨_,ho2,rfl⟩ Ja7 seq_tuple_add K1 Ku (Kr _ _)
   (tuple_addW1 t b vs.toArray ws.toArray n n2 dd dd2 sl sl2 (by simpa using hv) (by simp[hw])) ⟨ho,ho2,h1 hw⟩
 .refine concat_meets ⟨_,ho,rfl⟩ ⟨_,ho2,rfl⟩ Ja7 seq_tuple_add K1 Ku (Kr _ _)
   (tuple_addW2 t b vs.toArray ws.toArray n n2 dd dd2 sl sl2 (by simpa using hv) (by simpa using hw) (by rw[Jm,Jm];exact hsz)) ⟨ho,ho2,?_⟩
  rw[e];exact h2 hw
def sIx(n d:Nat):Option Int->Nat
 |none=>d
 |some v=>if v<0 then(v+(n:Int)).toNat else min v.toNat n
def sIx_none(n d:Nat):sIx n d none=d:=rfl
theorem sIx_nat(n d k:Nat):sIx n d (some (k:Int))=min k n:=by
 show(if(k:Int)<0 then((k:Int)+(n:Int)).toNat else min (k:Int).toNat n)=min k n;rw[Fv (),G8]
theorem Zsj(n d:Nat)(hd:d<=n)(o:Option Int):sIx n d o<=n:=by
 cases o with
 |none=>exact hd
 |some v =>
  show(if v<0 then(v+(n:Int)).toNat else min v.toNat n)<=n
  by_cases hv:v<0
  .rw[Fw hv];lia
  .rw[Fv hv];exact Ja8 _ _
theorem Zjl(v:Int)(n d:Nat):(if v<0 then max (v+(n:Int)) 0 else min v (n:Int))=((sIx n d (some v):Nat):Int):=by
 show(if v<0 then max (v+(n:Int)) 0 else min v (n:Int))=(((if v<0 then(v+(n:Int)).toNat else min v.toNat n):Nat):Int)
 by_cases hv:v<0
 .simp only[Fw hv];lia
 .simp only[Fv hv];lia
theorem Zfu(lo hi:Option Int)(n:Nat):Km lo hi 1 (n:Int)=(((sIx n 0 lo:Nat):Int),((sIx n n hi:Nat):Int)):=by
 let h1:¬ ((1:Int)<0):=by lia
 unfold Km;simp only[h1,if_false];refine Prod.ext ?_ ?_
 .cases lo with
  |none=>rfl
  |some v=>exact Zjl v n 0
 .cases hi with
  |none=>rfl
  |some v=>exact Zjl v n n
theorem Ze7(i j:Nat):Ha (i:Int) (j:Int) 1=j-i:=by
 unfold Ha;let h1:(1:Int) > 0:=by lia
 simp only[h1,if_true,Int.ediv_one]
 split<;>lia
theorem Pi{v:Ca}{o:Option Int}{Q:Option Int->Cc->Prop}(p:Jd5 v o)(h:Q o s):Cd (Ck prog w) A (Jfi v) Q E s:=by
 cases p with
 |none=>exact slicePart_none h
 |int i t=>exact slicePart_int h
def sliceApplied_gen{sl:Addr}{vl vu:Ca}{n:Nat}{Q:Int×Int×Nat->Cc->Prop}(hs:s.heap.IsSliceOf sl vl vu .none)(pl:Jd5 vl lo)(pu:Jd5 vu hi)(h:Q (((sIx n 0 lo:Nat):Int),1,sIx n n hi-sIx n 0 lo) s):Cd (Ck prog w) A (L9 (.ref sl) (pure (n:Int))) Q E s:=by
 let⟨os,hos,hcs,hds⟩:=id hs;unfold L9 Jge;refine Fo (Fo (K8 hos hds (x:=vl) rfl (Fo (K8 hos hds (x:=vu) rfl (Fo (K8 hos hds (x:=.none) rfl (Fp ?_)))))));refine Fo (slicePart_none ?_);show Cd _ _ (if((1:Int)==0)=true then _ else _) _ _ s;rw[Fv nofun];refine Fo (Pi pl (Fo (Pi pu (Fo (Fp ?_)))));show Cd _ _ (match Km lo hi 1 (n:Int)with|(lo,hi)=>pure (lo,(1:Int),Ha lo hi 1)) _ _ s;rw[Zfu lo hi n];show Cd _ _ (pure (((sIx n 0 lo:Nat):Int),(1:Int),Ha ((sIx n 0 lo:Nat):Int) ((sIx n n hi:Nat):Int) 1)) _ _ s
 rw[Ze7];exact Fp h
theorem Zk1(xs:Array Ca)(i k:Nat):((Cv k).filterMap λ(m:Nat)=>xs[((i:Int)+(m:Int)*1).toNat]?).toArray=((xs.toList.drop i).take k).toArray:=by
 let e:(λ(m:Nat)=>xs[((i:Int)+(m:Int)*1).toNat]?)=λm=>xs[i+m]?:=by
  funext m
  let:((i:Int)+(m:Int)*1).toNat=i+m:=by lia
  rw[this]
 rw[e];let:=pick_run xs i k;rw[List.filterMap_map]at this;let e2:((λx=>xs[x]?) ∘ λx=>i+x)=λm=>xs[i+m]?:=rfl;rw[e2]at this;rw[this]
theorem getItem_tuple_cut{t sl:Addr}{items:Array Ca}{vl vu:Ca}{Q:Ca->Cc->Prop}(ht:IsTup s.heap t items)(hs:s.heap.IsSliceOf sl vl vu .none)(pl:Jd5 vl lo)(pu:Jd5 vu hi)(hw:¬ (sIx items.size 0 lo=0/\sIx items.size items.size hi=items.size))(h:Q (.ref s.heap.objs.size) {s with heap:=s.heap.push {cls:=.type "tuple",data:=.seq ((items.toList.drop (sIx items.size 0 lo)).take (sIx items.size items.size hi-sIx items.size 0 lo)).toArray} })(hsz:items.size<=Cb):Cd (Ck prog w) A (Lw (.ref t) (.ref sl)) Q E s:=by
 let htake:sizeOk (.seq ((items.toList.drop (sIx items.size 0 lo)).take (sIx items.size items.size hi-sIx items.size 0 lo)).toArray):=by
  show((items.toList.drop (sIx items.size 0 lo)).take (sIx items.size items.size hi-sIx items.size 0 lo)).toArray.size<=Cb;rw[Jm,J8,Gn,G7];lia
 let hj:sIx items.size items.size hi<=items.size:=Zsj _ _ (Jd _) hi;let⟨os,hos,hcs,hds⟩:=id hs;let hTs:s.TypeIs (.ref sl) "slice":=⟨os,hos,hcs⟩;unfold Lw
 try with_reducible refine Cy ?_
 first|refine Fo (Fp ?_)|skip
 refine Fo (Jen ht.typeIs nofun ?_);refine Fo (Mx (name:=Ci "__getitem__") ht.typeIs C8
  (Lh C8 ht.typeIs Jdt ?_ (Jd6 _ _)))
 show Cd _ _ (Ma (.ref t) >>= _) _ _ s;refine Fo (tupleItemsOf_ ht ?_);refine Fo (Ks hTs ?_);rw[Fw nofun];refine Fo (sliceApplied_gen hs pl pu ?_);let hno:¬ ((((sIx items.size 0 lo:Nat):Int)==0&&(1:Int)==1&&(sIx items.size items.size hi-sIx items.size 0 lo)==items.size)=true):=by
  intro q;rw[G6,G6]at q;let q1:((sIx items.size 0 lo:Nat):Int)=0:=eq_of_beq q.1.1;let q2:sIx items.size items.size hi-sIx items.size 0 lo=items.size:=eq_of_beq q.2;exact hw ⟨(),()⟩
 show Cd _ _ (if(((sIx items.size 0 lo:Nat):Int)==0&&(1:Int)==1&&(sIx items.size items.size hi-sIx items.size 0 lo)==items.size)=true then _ else _) _ _ s;rw[Fv hno,Zk1]
 first
  |exact Fo (m:=Hg _) (Hh (Fp ⟨_,rfl,Fp h⟩) htake)
  |exact Fo (m:=Hg _) (Hh (Fo (Fp (Fp ⟨_,rfl,Fp h⟩))) htake)
  |exact Fo (Fo (m:=Hg _) (Hh (Fp (Fp ⟨_,rfl,Fp h⟩)) htake))
  |exact Fo (Fo (m:=Hg _) (Hh (Fp ⟨_,rfl,Fp h⟩) htake))
end
end HT
namespace L2
open PySem PySem.Spec PyProof.Rows
abbrev TO:=St->Hp->(Option Int->Hp->Prop)->Prop
def PO(X:Cx)(e:Option Expr)(t:TO):Prop :=
 ∀(pq:List (Addr×Obj))(s:Cc)(σ:St)(H:Hp)(Q:Option Int->Hp->Prop),Inv X pq σ H s->t σ H Q ->
  Cd (Ck X.prog X.w) X.A (evalPart e X.env) (λu s'=>∃o H',Inv X pq σ H' s'/\Jd5 u o/\Q o H') X.xe s
def Zgl:TO:=λ_ H Q=>Q none H
def Zrp(t:TE):TO:=λσ H Q=>t σ H λx H1=>∃i,x=.int i/\Q (some i) H1
section
variable{e:Expr}{lo hi:Option Expr}{tl th:TO}{p2:Pos}
def Ye:PO X none Zgl:=by
 intro pq s σ H Q I h;rw[Jd7];exact Fp ⟨none,H,I,.none,h⟩
def Z7(h:PE X e te):PO X (some e) (Zrp te):=by
 intro pq s σ H Q I hw;rw[evalPart_some];refine thn (h pq s σ H _ I hw) λu s1 hz=>?_;let⟨x,H1,I1,r1,q1⟩:=hz;let⟨i,rfl,q⟩:=q1;let⟨t,rfl⟩:=r1;exists some i,H1,I1,.int i t,q
def SlR(X:Cx)(r:V->Option Int->Option Int->Hp->VK->Prop):Prop :=
 ∀(pq:List (Addr×Obj))(s:Cc)(σ:St)(H:Hp)(x:V)(v vl vu:Ca)(lo hi:Option Int)(sl:Addr)(Q:VK),Inv X pq σ H s->RelV x v->s.heap.IsSliceOf sl vl vu .none->Jd5 vl lo->Jd5 vu hi->r x lo hi H Q ->
  ∃T id,Jdf (.type T) "__getitem__"=pure (some (.builtin id))/\s.TypeIs v T/\Cd (Ck X.prog X.w) X.A (Lw v (.ref sl)) (EP X pq σ Q) X.xe s
def tSl(r:V->Option Int->Option Int->Hp->VK->Prop)(te:TE)(tl th:TO):TE:=λσ H Q=>te σ H λx H1=>tl σ H1 λl H2=>th σ H2 λu H3=>r x l u H3 Q
def Z5{r:V->Option Int->Option Int->Hp->VK->Prop}(hr:SlR X r)(he:PE X e te)(hl:PO X lo tl)(hu:PO X hi th):PE X (.Subscript e (.Slice lo hi none p2) pos) (tSl r te tl th):=by
 intro pq s σ H Q I h;refine Jeo (thn (he pq s σ H _ I h) λv s1 hz=>?_);let⟨x,H1,I1,r1,q1⟩:=hz;refine wpAny_Slice (thn (hl pq s1 σ H1 _ I1 q1) λvl s2⟨l,H2,I2,pl,q2⟩=>thn (hu pq s2 σ H2 _ I2 q2) λvu s3 hz=>?_);let⟨u,H3,I3,pu,q3⟩:=hz;rw[Jd7];refine Fp ?_;let I4:Inv X pq σ H3 {s3 with heap:=s3.heap.push {cls:=.type "slice",data:=.fields #[vl,vu,.none]} }:=I3.kept (t':=s3.toks) λb ob q=>Fs _ q;let⟨T,id,hT,ht,hg⟩:=hr pq {s3 with heap:=s3.heap.push {cls:=.type "slice",data:=.fields #[vl,vu,.none]} } σ H3 x v vl vu l u s3.heap.objs.size Q I4 r1 (Jd8 ..) pl pu q3
 show Cd (Ck X.prog X.w) X.A (My e (.Slice lo hi none p2) v (.ref s3.heap.objs.size)) (EP X pq σ Q) X.xe {s3 with heap:=s3.heap.push {cls:=.type "slice",data:=.fields #[vl,vu,.none]} };exact tail_any (ops:=[.ref s3.heap.objs.size,v]) ht hT hg (by with_unfolding_all rfl)
def cutV(xs:List V)(lo hi:Option Int):List V:=(xs.drop (HT.sIx xs.length 0 lo)).take (HT.sIx xs.length xs.length hi-HT.sIx xs.length 0 lo)
theorem Tu(xs:List V)(lo hi:Option Int):(cutV xs lo hi).length<=xs.length:=by
 unfold cutV;rw[J8,Gn];lia
def rSlT(K:Cr):V->Option Int->Option Int->Hp->VK->Prop:=λx lo hi H Q=>∃a xs,x=.ref a/\SqT K H a xs /\
 ¬ (HT.sIx xs.length 0 lo=0/\HT.sIx xs.length xs.length hi=xs.length)/\∀p,H p=none->Q (.ref p) (upd H p (.tup (cutV xs lo hi)))
def Zrz:SlR X (rSlT X.K):=by
 intro pq s σ H x v vl vu lo hi sl Q I rx hs pl pu h;let⟨a,xs,rfl,hx,hw,q⟩:=h;cases rx;let⟨its,r,ht,hz⟩:=I.tuple hx;let hlen:its.toArray.size=xs.length:=by rw[Jm];exact r.length.symm
 exists "tuple",_,C8.lookup,ht.typeIs,?_;refine HT.getItem_tuple_cut ht hs pl pu (by rw[hlen];exact hw) ?_ (by rw[hlen];exact hz);rw[hlen];exists .ref s.heap.objs.size,_,I.laid (t':=s.toks) (o:=.tup (cutV xs lo hi)) (λb ob q=>Fs _ q) (Jd _) ?_,rfl,q _ (I.hok.fresh (Jd _));exists Jy (Tu xs lo hi) hz,_,(r.drop (HT.sIx xs.length 0 lo)).take (HT.sIx xs.length xs.length hi-HT.sIx xs.length 0 lo),Up.new _ _
def Zkw(K:Cr):R2:=λx y H Q=>∃a b xs ys,x=.ref a/\y=.ref b/\SqT K H a xs/\SqT K H b ys/\xs≠[]/\xs.length+ys.length<=Cb /\
 (ys=[]->Q (.ref a) H)/\(ys≠[]->∀p,H p=none->Q (.ref p) (upd H p (.tup (xs++ys))))
theorem Vals.nil_iff(r:Vals xs us):us=[]↔xs=[]:=by
 cases r with
 |nil=>simp
 |cons _ _=>simp
def Zcn:OpR X (Hd .Add) (Zkw X.K):=by
 intro pq s σ H x y v u Q I rx ry h;let⟨a,b,xs,ys,rfl,rfl,ha,hb,hx,hz,q1,q2⟩:=h;cases rx;cases ry;let⟨its,r1,p1,_⟩:=I.tuple ha;let⟨its2,r2,p2,_⟩:=I.tuple hb;refine HT.cat_tup p1 p2 (λz=>hx (r1.nil_iff.mp z)) (λz=>⟨.ref a,H,I,rfl,q1 (r2.nil_iff.mp z)⟩) (λz=>?_) (by rw[<-r1.length,<-r2.length];exact hz);exists .ref s.heap.objs.size,_,I.laid (t':=s.toks) (o:=.tup (xs++ys)) (λb ob q=>Fs _ q) (Jd _) ?_,rfl,q2 (λw=>z (r2.nil_iff.mpr w)) _ (I.hok.fresh (Jd _));exists by rw[Jc];exact hz,_,r1.append r2,Up.new _ _
end
def ixN(n:Nat)(i:Int):Option Nat:=if 0<=i then(if i<n then some i.toNat else none)else if -(n:Int)<=i then some (i+n).toNat else none
def atI{α:Type}(xs:List α)(i:Int):Option α:=(ixN xs.length i).bind λj=>xs[j]?
theorem Zio{n:Nat}{i:Int}{j:Nat}(h:ixN n i=some j):seqIndex? i n=some j/\j<n/\-(n:Int)<=i/\i<n:=by
 unfold ixN at h
 by_cases h0:0<=i
 .rw[Fw h0]at h
  by_cases h1:i<n
  .rw[Fw h1]at h;let e:i.toNat=j:=Fz h;exists by rw[Jfr h0 h1,e],(),(),h1
  .rw[Fv h1]at h;cases h
 .rw[Fv h0]at h
  by_cases h1:-(n:Int)<=i
  .rw[Fw h1]at h;let e:(i+n).toNat=j:=Fz h;exact⟨by rw[Je5 () h1,e],(),h1,()⟩
  .rw[Fv h1]at h;cases h
theorem Zdc{α:Type}{xs:List α}{i:Int}{v:α}(h:atI xs i=some v):∃j,seqIndex? i xs.length=some j/\xs[j]?=some v/\j<xs.length/\-(xs.length:Int)<=i/\i<xs.length:=by
 unfold atI at h;cases e:ixN xs.length i with
 |none=>rw[e]at h;cases h
 |some j =>
  rw[e]at h;let⟨h1,h2,h3,h4⟩:=Zio e;exists j,h1,h,h2,h3,h4
theorem Wy{α:Type}{xs:List α}{j:Nat}{v:α}(h:xs[j]?=some v):atI xs (j:Int)=some v:=by
 let hj:j<xs.length:=(Jj.mp h).1;let e:ixN xs.length (j:Int)=some j:=by
  unfold ixN;rw[Fw (),Fw ()];simp
 unfold atI;rw[e];exact h
def Zql(b:Expr):Prop:=∀o i,Mz b false o i=Jh5 [o,i] (Lw o i)
def IxR(X:Cx)(r:R2):Prop :=
 ∀(value slice:Expr)(pq:List (Addr×Obj))(s:Cc)(σ:St)(H:Hp)(x y:V)(v u:Ca)(Q:VK),Inv X pq σ H s->RelV x v->RelV y u->r x y H Q ->
  Mz slice false v u=Jh5 [v,u] (Lw v u)->Cd (Ck X.prog X.w) X.A (My value slice v u) (EP X pq σ Q) X.xe s
def MtR(X:Cx)(id:String)(r:V->List V->Hp->VK->Prop):Prop :=
 ∀(pq:List (Addr×Obj))(s:Cc)(σ:St)(H:Hp)(x:V)(xs:List V)(v:Ca)(us:List Ca)(Q:VK),Inv X pq σ H s->RelV x v->Vals xs us->r x xs H Q ->
  Cd (Ck X.prog X.w) X.A (call (.builtin id) (v::us)) (EP X pq σ Q) X.xe s
section
variable{a b:Expr} 
def IxR.or{r':R2}(h:IxR X r)(h':IxR X r'):IxR X (λx y H Q=>r x y H Q\/r' x y H Q):=by
 intro value slice pq s σ H x y v u Q I rx ry q hs;rcases q with q|q
 .exact h value slice pq s σ H x y v u Q I rx ry q hs
 .exact h' value slice pq s σ H x y v u Q I rx ry q hs
def Yc(hr:IxR X r)(ha:PE X a ta)(hb:PE X b tb)(hs:Zql b):PE X (.Subscript a b pos) (tOp r ta tb):=by
 intro pq s σ H Q I h;exact Jeo (binT ha hb I h λv u s2 x y H2 I2 rx ry q=>hr a b pq s2 σ H2 x y v u Q I2 rx ry q (hs _ _))
def rIxL(K:Cr):R2:=λx y H Q=>∃p xs i v,x=.ref p/\y=.int i/\SqL K H p xs/\atI xs i=some v/\Q v H
def rIxT(K:Cr):R2:=λx y H Q=>∃p xs i v,x=.ref p/\y=.int i/\SqT K H p xs/\atI xs i=some v/\Q v H
def rIxS:R2:=λx y H Q=>∃z i c,x=.str z/\y=.int i/\z.length<=Cb/\atI z.cps.toList i=some c/\Q (.str ⟨#[c]⟩) H
theorem Xl:IxR X (rIxL X.K):=by
 intro value slice pq s σ H x y v u Q I rx ry h hs;let⟨p,xs,i,z,rfl,rfl,hq,he,q⟩:=h;cases rx;let⟨t,rfl⟩:=ry;let⟨its,r,pl,hz⟩:=I.list hq;let⟨j,h1,h2,h3,h4,h5⟩:=Zdc he;let⟨w,ew,rw'⟩:=r.get h2;let hl:=r.length;let hn:=Pq;let fin:EP X pq σ Q w s:=⟨z,H,I,rw',q⟩
 by_cases h0:0<=i
 .let hj:i.toNat=j:=by
   rw[Jfr h0 h5]at h1;exact Fz h1
  exact item_listR pl.isList h0 () (by rw[hj];simpa using ew) fin hs
 .let hj:(i+(its.toArray.size:Int)).toNat=j:=by
   rw[Je5 () h4]at h1;rw[Jm,<-hl];exact Fz h1
  exact Jb3 (x:=w) pl.isList.typeIs slot_list_getitem.lookup
   (wpAny_getItem_list_neg (Q:=λr s'=>r=w/\EP X pq σ Q r s') pl.isList () (by rw[Jm]<;>lia) () (by rw[hj];simpa using ew) ⟨rfl,fin⟩) hs
theorem T9:IxR X (rIxT X.K):=by
 intro value slice pq s σ H x y v u Q I rx ry h hs;let⟨p,xs,i,z,rfl,rfl,hq,he,q⟩:=h;cases rx;let⟨t,rfl⟩:=ry;let⟨its,r,pl,hz⟩:=I.tuple hq;let⟨j,h1,h2,h3,h4,h5⟩:=Zdc he;let⟨w,ew,rw'⟩:=r.get h2;let hl:=r.length;let hn:=Pq;let fin:EP X pq σ Q w s:=⟨z,H,I,rw',q⟩;exact Jb3 (x:=w) pl.typeIs slot_tuple_getitem.lookup
  (getItem_tuple (j:=j) (Q:=λr s'=>r=w/\EP X pq σ Q r s') pl () () (by rw[Jm,<-hl];exact h1) (by simpa using ew) ⟨rfl,fin⟩) hs
theorem Ztf:IxR X rIxS:=by
 intro value slice pq s σ H x y v u Q I rx ry h hs;let⟨z,i,c,rfl,rfl,hz,he,q⟩:=h;let⟨t,rfl⟩:=rx;let⟨t',rfl⟩:=ry;let⟨j,h1,h2,h3,h4,h5⟩:=Zdc he;let hl:z.cps.toList.length=z.length:=by simp[Str.length]
 rw[hl]at h1 h4 h5;let hn:=Pq;exact tail_any (Jgt s z t) slot_str_getitem.lookup (getItem_str (c:=c) (by
  let e1:decide (i < -(2 ^ 63:Int))=false:=Fy ();let e2:decide (i≥2 ^ 63)=false:=Fy ();rw[e1,e2,Bool.or_false]) (by rw[h1];simpa using h2) ⟨.str ⟨#[c]⟩,H,I.tok _,⟨_,rfl⟩,q⟩) hs
def rIx(K:Cr):R2:=λx y H Q=>rIxL K x y H Q\/rIxT K x y H Q\/rIxS x y H Q
def Ztg:IxR X (rIx X.K):=Xl.or (T9.or Ztf)
def Zfd(its:List Ca)(n j:Nat)(u:Ca):C7 (·.setIfInBounds j u) {cls:=.type "list",data:=.seq its.toArray n}={cls:=.type "list",data:=.seq (its.set j u).toArray n}:=by
 simp[C7]
def Inv.lst{pq:List (Addr×Obj)}{σ:St}{H:Hp}{s:Cc}{p:Addr}{xs:List V}(I:Inv X pq σ H s)(h:H p=some (.lst xs)) :
  ∃(its:List Ca)(n:Nat),Vals xs its/\s.heap.get? p=some {cls:=.type "list",data:=.seq its.toArray n}/\xs.length<=Cb:=by
 let⟨z,its,n,r,e⟩:=I.hok p _ h;exists its,n,r,e,z
def Inv.lstUpd{p:Addr}{its':List Ca}{n n':Nat}{f:Obj->Obj}(I:Inv X pq σ H s)(h:H p=some (.lst xs))(ho:s.heap.get? p=some {cls:=.type "list",data:=.seq its.toArray n})(hf:f {cls:=.type "list",data:=.seq its.toArray n}={cls:=.type "list",data:=.seq its'.toArray n'})(r:Vals ys its')(hz:ys.length<=Cb)(t:Nat) :
  Inv X pq σ (upd H p (.lst ys)) {s with heap:=s.heap.update p f,toks:=t}:=by
 let e:(s.heap.update p f).get? p=some {cls:=.type "list",data:=.seq its'.toArray n'}:=by
  rw[Cu f ho (by rw[hf]<;>rfl),hf]
 refine I.write (x:=p) (e:=p) (by rw[h];trivial) (.inl rfl) (λb u hb q=>(Cw _ _ (Ee hb)).trans q) ⟨_,e⟩ ?_;exists hz,its',n',r,e
def Zso:V->V->V->Hp->(Hp->Prop)->Prop:=λo i v H Q=>∃p xs k j,o=.ref p/\i=.int k/\H p=some (.lst xs)/\ixN xs.length k=some j/\Q (upd H p (.lst (xs.set j v)))
theorem Ro:PSet X Zso:=by
 intro pq s σ H o i v ov iv u Q I ro ri rv h;let⟨p,xs,k,j,rfl,rfl,hp,hj,q⟩:=h;cases ro;let⟨t,rfl⟩:=ri;let⟨its,n,r,ho,hz⟩:=I.lst hp;let⟨h1,h2,h3,h4⟩:=Zio hj;let hl:=r.length;let hn:=Pq;let I':Inv X pq σ (upd H p (.lst (xs.set j v))) {s with heap:=s.heap.update p (C7 (·.setIfInBounds j u))} :=
  I.lstUpd hp ho (Zfd its n j u) (r.set rv j) (by rw[Gs];exact hz) s.toks
 by_cases h0:0<=k
 .let hk:k.toNat=j:=by
   rw[Jfr h0 h4]at h1;exact Fz h1
  exact W.ki_setAt ho h0 () (by rw[Jm,<-hl];exact h4) (by rw[hk];exact⟨_,I',q⟩)
 .let hk:(k+(its.toArray.size:Int)).toNat=j:=by
   rw[Je5 () h3]at h1;rw[Jm,<-hl];exact Fz h1
  exact W.ki_setBack ho () (by rw[Jm,<-hl];exact h3) () (by rw[hk];exact⟨_,I',q⟩)
theorem Zas(lo hi:Option Int)(n:Nat):(K9 lo hi none n).1=((HT.sIx n 0 lo:Nat):Int)/\(K9 lo hi none n).2.1=((HT.sIx n n hi:Nat):Int)/\(K9 lo hi none n).2.2=1:=by
 exists ?_,?_,rfl
 .cases lo with
  |none=>simp[K9,HT.sIx]
  |some i =>
   simp only[K9,HT.sIx,Jfb,show(1:Int) > 0 by decide,if_true]
   by_cases h:i<0
   .simp only[h,if_true]<;>lia
   .simp only[h,if_false]<;>lia
 .cases hi with
  |none=>simp[K9,HT.sIx]
  |some i =>
   simp only[K9,HT.sIx,Jfb,show(1:Int) > 0 by decide,if_true]
   by_cases h:i<0
   .simp only[h,if_true]<;>lia
   .simp only[h,if_false]<;>lia
def Nf(its:List Ca)(lo hi:Option Int):slicePick its.toArray lo hi none=((its.drop (HT.sIx its.length 0 lo)).take (HT.sIx its.length its.length hi-HT.sIx its.length 0 lo)).toArray:=by
 let⟨h1,h2,h3⟩:=Zas lo hi its.toArray.size;unfold slicePick;rw[h1,h2,h3];simp only[sliceRange_one,pick_run,Jm]<;>rfl
def rSlL(K:Cr):V->Option Int->Option Int->Hp->VK->Prop:=λx lo hi H Q=>∃a xs,x=.ref a/\SqL K H a xs/\∀p,H p=none->Q (.ref p) (upd H p (.lst (cutV xs lo hi)))
theorem R7:SlR X (rSlL X.K):=by
 intro pq s σ H x v vl vu lo hi sl Q I rx hs pl pu h;let⟨a,xs,rfl,hx,q⟩:=h;cases rx;let⟨its,r,ht,hz⟩:=I.list hx;let hlen:=r.length;refine⟨"list",_,slot_list_getitem.lookup,ht.isList.typeIs,?_⟩;refine Mo ht.isList hs pl pu .none (by simp) ?_ (by rw[Jm]<;>lia);rw[Nf,<-hlen];refine⟨.ref s.heap.objs.size,_,I.laid (t':=s.toks) (o:=.lst (cutV xs lo hi)) (λb ob q=>Fs _ q) (Jd _) ?_,rfl,q _ (I.hok.fresh (Jd _))⟩;exact⟨Jy (Tu xs lo hi) hz,_,0,(r.drop (HT.sIx xs.length 0 lo)).take (HT.sIx xs.length xs.length hi-HT.sIx xs.length 0 lo),Ft _ rfl⟩
theorem Rg:Wr X (.type "list") (λxs H Q=>∃p ys,xs=[.ref p]/\(SqL X.K H p ys\/SqT X.K H p ys)/\∀l,H l=none->Q (.ref l) (upd H l (.lst ys))):=by
 intro pq s σ H xs us Q I r h;let⟨p,ys,rfl,hq,q⟩:=h;let⟨u,rfl,rx⟩:=Tl r;cases rx;let fin:∀(its:List Ca),Vals ys its->ys.length<=Cb->∀(h':Heap)(c':Nat),(∀b o',s.heap.get? b=some o'->h'.get? b=some o') ->
   h'.get? s.heap.objs.size=some {cls:=.type "list",dict:=none,data:=.seq its.toArray c',slots:=#[]}->EP X pq σ Q (.ref s.heap.objs.size) {s with heap:=h'}:=λits r' hz h' c' kp e =>
  ⟨.ref s.heap.objs.size,_,I.laid (t':=s.toks) kp (Jd _) (show Y3 X.prog X.w _ h' _ (.lst ys)from⟨hz,its,c',r',e⟩),rfl,q _ (I.hok.fresh (Jd _))⟩
 rcases hq with hq|hq
 .let⟨its,r',pl,hz⟩:=I.list hq;let hlen:=r'.length;let⟨o,ho,hc,n,hd⟩:=pl.isList;exact call_list_seq p (.inl rfl) ho hc hd (λh' c' kp e=>fin its r' hz h' c' kp e) (by simp only[Jm]<;>lia)
 .let⟨its,r',pl,hz⟩:=I.tuple hq;let hlen:=r'.length;let⟨o,ho,hc,n,hd⟩:=pl;exact call_list_seq p (.inr rfl) ho hc hd (λh' c' kp e=>fin its r' hz h' c' kp e) (by simp only[Jm]<;>lia)
theorem Vx:Wr X (.type "tuple") (λxs H Q=>∃p ys,xs=[.ref p]/\((SqL X.K H p ys/\∀l,H l=none->Q (.ref l) (upd H l (.tup ys)))\/(SqT X.K H p ys/\Q (.ref p) H))):=by
 intro pq s σ H xs us Q I r h;let⟨p,ys,rfl,h⟩:=h;let⟨u,rfl,rx⟩:=Tl r;cases rx;rcases h with⟨hq,q⟩|⟨hq,q⟩
 .let⟨its,r',pl,hz⟩:=I.list hq;let hlen:=r'.length;refine call_tuple_list pl.isList (λh' kp=>?_) (by simp only[Jm]<;>lia);let I1:Inv X pq σ H {s with heap:=h'}:=I.kept (t':=s.toks) kp;let I2:Inv X pq σ (upd H h'.objs.size (.tup ys)) {s with heap:=h'.push {cls:=.type "tuple",data:=.seq its.toArray} } :=
   I1.laid (t':=s.toks) (λb o e=>Fs _ e) (Jd _) (show Y3 X.prog X.w _ _ _ (.tup ys)from⟨hz,its,r',Up.new _ _⟩)
  exists .ref h'.objs.size,_,I2,rfl,q _ (I1.hok.fresh (Jd _))
 .let⟨its,r',pl,hz⟩:=I.tuple hq;exact call_tuple_same pl ⟨.ref p,H,I,rfl,q⟩
def tyV(K:Cr)(T:String)(x:V)(H:Hp):Prop:=match x with
 |.str _=>T="str"
 |.int _=>T="int"
 |.ref p=>(T="list"/\∃xs,SqL K H p xs)\/(T="tuple"/\∃o,K.lookup p=some o/\o.cls=.type "tuple"/\o.dict=none) \/
   (T="dict"/\((∃kvs,H p=some (.dK kvs))\/∃kvs,H p=some (.dT kvs)))\/(T="set"/\∃S n,H p=some (.set S n))
 |_=>False
theorem Zmc{T:String}{x:V}{v:Ca}(I:Inv X pq σ H s)(r:RelV x v)(ty:tyV X.K T x H) :
  s.TypeIs v T/\∀a,v=.ref a->∃ob,s.heap.get? a=some ob/\ob.dict=none:=by
 cases x with
 |str z =>
  let⟨t,rfl⟩:=r;cases(show T="str" from ty);exists Jgt s z t,λ_ e=>nomatch e
 |int i =>
  let⟨t,rfl⟩:=r;cases(show T="int" from ty);exists Jgu s i t,λ_ e=>nomatch e
 |ref p =>
  cases r;rcases ty with⟨rfl,xs,hq⟩|⟨rfl,o,hk,hc,hd⟩|⟨rfl,hk⟩|⟨rfl,S,n,hk⟩
  .let⟨its,_,pl,_⟩:=I.list hq;exists pl.isList.typeIs,λa e=>?_;cases e;let⟨o,n,e,c,hd,_⟩:=pl;exists o,e,hd
  .exists⟨o,I.kIn p o hk,hc⟩,λa e=>?_;cases e;exists o,I.kIn _ o hk,hd
  .let z:∃o,s.heap.get? p=some o/\o.ExactDict:=by
    rcases hk with⟨kvs,hk⟩|⟨kvs,hk⟩
    .let⟨_,_,_,_,o,_,_,e,ex,_⟩:=I.hok p _ hk;exists o,e,ex
    .let⟨_,_,_,_,o,_,_,e,ex,_⟩:=I.hok p _ hk;exists o,e,ex
   let⟨o,e,ex⟩:=z;exists⟨o,e,ex.1⟩,λa e2=>?_;cases e2;exists o,e,ex.2.1
  .let⟨o,_,_,_,e,ex,_⟩:=I.hok p _ hk;exists⟨o,e,ex.1⟩,λa e2=>?_;cases e2;exists o,e,ex.2.1
 |_=>exact Cq ty
def tBM(K:Cr)(T:String)(r:V->List V->Hp->VK->Prop)(to:TE)(t:TA):TE:=λσ H Q=>to σ H λx H1=>tyV K T x H1/\t σ H1 λxs H2=>r x xs H2 Q
variable{o e:Expr}{t:TA}{name:Str}{T id:String}{r:V->List V->Hp->VK->Prop}
def Qg(pa:PlainAttrs T)(slot:Slot T name id)(hty:typeOf (.builtin id)=pure (.type "method_descriptor"))(hm:MtR X id r)(ho:PE X o to)(ha:PA X (e::es) t)(hbase:Ll o name X.env (eval o X.env)=eval o X.env:=by rfl)(hfew:((Ht cpos (Cj (e::es) X.env)).all (λx=>!x.1)&&(Lm cpos (Hq [] X.env)).all (λx=>x.1.isSome)
   && decide ((e::es).length+([]:List Jfq).length+(if([]:List Jfq).isEmpty then 0 else 1)<30))=true:=by rfl)(hline:(apos.endLine==cpos.line)=true:=by rfl)(hs:Cj (e::es) X.env=(false,eval e X.env)::Cj es X.env:=by rfl)(hplain:(Ht cpos (Cj es X.env)).any (·.1)=false:=by rfl) :
  PE X (.Call (.Attribute o name apos) (e::es) [] cpos) (tBM X.K T r to t):=by
 intro pq s σ H Q I h;refine wpAny_Call_method_late hbase hfew hline rfl (thn (ho pq s σ H _ I h) λv s1 hz=>?_);let⟨x,H1,I1,r1,ty,q1⟩:=hz;let⟨h1,h2⟩:=Zmc I1 r1 ty;refine⟨T,id,pa,slot,hty,h1,h2,?_⟩;let hA:=ha cpos pq s1 σ H1 _ I1 q1;rw[hs]at hA⊢;refine K2 (by show(false ||(Ht cpos (Cj es X.env)).any (·.1))=false;rw[hplain]<;>rfl) (Jdj ?_);exact thn hA λus s2⟨vs,H2,I2,r2,q2⟩=>hm pq s2 σ H2 x vs v us Q I2 r1 r2 q2
end
def MtM(X:Cx)(id:String)(r:V->List V->Hp->VK->Prop):Prop :=
 ∀(pq:List (Addr×Obj))(s:Cc)(σ:St)(H:Hp)(x:V)(xs:List V)(v:Ca)(us:List Ca)(Q:VK),Inv X pq σ H s->RelV x v->Vals xs us->r x xs H Q ->
  Cd (Ck X.prog X.w) X.A (call (.builtin id) (v::us)) (EP X pq σ Q) X.xe s
theorem Vals.one:∀{x:V}{us:List Ca},Vals [x] us->∃u,us=[u]/\RelV x u
 |_,_,.cons r .nil=>⟨_,rfl,r⟩
theorem Vals.rep(h:Vals xs us):∀k:Nat,Vals (Co k xs).flatten (Co k us).flatten
 |0=>.nil
 |k+1=>by
  rw[G3,G3,Bn,Bn];exact Vals.append h (Vals.rep h k)
theorem Zbh(its:List Ca):∀(k:Nat)(acc:List Ca),
  Jgv (λx1 x2=>x1++x2) acc.toArray (Co k its.toArray)=(acc++(Co k its).flatten).toArray
 |0,acc=>by simp
 |k+1,acc=>by
  let e:acc.toArray++its.toArray=(acc++its).toArray:=by simp
  let e2:(acc++its)++(Co k its).flatten=acc++(Co (k+1) its).flatten:=by
   rw[G3,Bn,Gg]
  rw[<-e2,<-Zbh its k (acc++its),<-e,G3,List.foldl_cons]
section
def Inv.lset{its':List Ca}{n:Nat}{f:Array Ca->Array Ca}(I:Inv X pq σ H s)(hH:H l=some (.lst xs))(e:s.heap.get? l=some {cls:=.type "list",data:=.seq its.toArray n})(hf:f its.toArray=its'.toArray)(hv:Vals ys its')(hz:ys.length<=Cb) :
  Inv X pq σ (upd H l (.lst ys)) {s with heap:=s.heap.update l (C7 f),toks:=t'}:=by
 let q:=PySem.IsL.update e f;rw[hf]at q;refine I.write (x:=l) (e:=l) (by rw[hH];exact trivial) (.inl rfl) (λb' u hb hu=>(Cw s.heap (C7 f) (Ee hb)).trans hu) ⟨_,q⟩ ?_;exists hz,its',_,hv,q
def Inv.lnew(I:Inv X pq σ H s)(hv:Vals ys its)(hz:ys.length<=Cb) :
  Inv X pq σ (upd H s.heap.objs.size (.lst ys)) {s with heap:=s.heap.push {cls:=.type "list",data:=.seq its.toArray},toks:=t'} :=
 I.laid (λ_ _ q=>Fs _ q) (Jd _) ⟨hz,its,0,hv,Ft _ rfl⟩
def Inv.fresh(I:Inv X pq σ H s):H s.heap.objs.size=none:=I.hok.fresh (Jd _)
def Inv.lstM(I:Inv X pq σ H s)(hH:H l=some (.lst xs)):xs.length<=Cb/\∃(its:List Ca)(n:Nat),Vals xs its/\xs.length=its.length/\s.heap.get? l=some {cls:=.type "list",data:=.seq its.toArray n}:=by
 let⟨z,its,n,r,e⟩:=I.hok l _ hH;exists z,its,n,r,r.length,e
theorem Zec{n:Nat}(h:n<=Cb):Ey n=false:=by
 unfold Ey;exact Fy ()
end
section
def Zch:V->List V->Hp->VK->Prop:=λx vs H Q=>∃l xs y,x=.ref l/\vs=[y]/\H l=some (.lst xs)/\xs.length<Cb/\Q .non (upd H l (.lst (xs++[y])))
theorem We:MtM X "list.append" Zch:=by
 intro pq s σ H x vs v us Q I rx rv h;let⟨l,xs,y,rfl,rfl,hH,hz,q⟩:=h;cases rx;let⟨u,rfl,ru⟩:=rv.one;let⟨z,its,n,r,hl,e⟩:=I.lstM hH;refine Lr F.slot_list_append ⟨_,e,rfl⟩ F.entry_list_append (F.args_list_append_2 _ _) (PySem.list_append l its.toArray n u (by rw[Jm];lia)) ⟨e,?_⟩;exists .non,_,I.lset (its':=its++[u]) hH e (by simp) (r.append (.cons ru .nil)) ?_,rfl,q;rw[Jc,Ba];lia
def rCat:R2:=λx y H Q=>∃l b xs zs,x=.ref l/\y=.ref b/\H l=some (.lst xs)/\H b=some (.lst zs)/\xs.length+zs.length<=Cb/\∀p,H p=none->Q (.ref p) (upd H p (.lst (xs++zs)))
theorem Zeb:OpR X (Hd .Add) rCat:=by
 intro pq s σ H x y v u Q I rx ry h;let⟨l,b,xs,zs,rfl,rfl,hH,hB,hz,q⟩:=h;cases rx;cases ry;let⟨z,its,n,r,hl,e⟩:=I.lstM hH;let⟨z2,its2,n2,r2,hl2,e2⟩:=I.lstM hB;refine PySem.P.add_list e e2 ?_ (by rw[Jm,Jm];lia);let ea:its.toArray++its2.toArray=(its++its2).toArray:=by simp
 rw[ea];exists .ref _,_,I.lnew (t':=s.toks) (r.append r2) (by rw[Jc];lia),rfl,q _ I.fresh
def rRep:R2:=λx y H Q=>∃l k xs,x=.ref l/\y=.int k/\H l=some (.lst xs)/\-(2 ^ 63)<=k/\k<2 ^ 63/\xs.length*k.toNat<=Cb /\
 ∀p,H p=none->Q (.ref p) (upd H p (.lst (Co k.toNat xs).flatten))
theorem Zpg{α:Type}(xs:List α)(k:Nat):(Co k xs).flatten.length=k*xs.length:=by
 induction k with
 |zero=>simp
 |succ k ih=>rw[G3,Bn,Jc,ih,Jhm,Jhn]
theorem Zsz:OpR X (Hd .Mult) rRep:=by
 intro pq s σ H x y v u Q I rx ry h;let⟨l,k,xs,rfl,rfl,hH,h1,h2,hz,q⟩:=h;cases rx;let⟨t,rfl⟩:=ry;let⟨z,its,n,r,hl,e⟩:=I.lstM hH;let hlen:its.toArray.size*k.toNat<=Cb:=by rw[Jm,<-hl];exact hz
 let hcap:¬ its.toArray.size*k.toNat > (2 ^ 63-1) / 8:=by
  let:(Cb:Nat)<=(2 ^ 63-1) / 8:=by decide
  lia
 let hfit:¬ (!Builtin.List.listFitsIndex k)=true:=by
  rw[fitsIndex_both h1 h2];exact Jr
 let hlong:¬ Ey (its.toArray.size*k.toNat)=true:=by
  rw[Zec hlen];exact Jr
 let hnew:Jgv (λx1 x2=>x1++x2) #[] (Co (if its.toArray.isEmpty=true then 0 else k.toNat) its.toArray)=(Co k.toNat its).flatten.toArray:=by
  let f0:∀m:Nat,Jgv (λx1 x2=>x1++x2) #[] (Co m its.toArray)=(Co m its).flatten.toArray:=λm=>by
   let:=Zbh its m [];rw[List.nil_append]at this;exact this
  rw[f0];cases its with
  |nil=>simp
  |cons a r'=>rw[Fv (by simp)]
 refine wpAny_binaryOp_repeat_ref (T:="list") (U:="int") nofun ⟨_,e,rfl⟩ (λs'=>Jgu s' k t) noFill_list_mul F.fills_int_mul Jfs repeat_list F.slot_int_index.lookup
  (Lr Jfs (Jgu s k t) F.entry_int_rmul (F.args_int_rmul_2 _ _) (int___rmul___int_list k t l its.toArray n)
   ⟨e,rfl,⟨_,e,rfl⟩,Lr F.slot_list_mul ⟨_,e,rfl⟩ F.entry_list_mul (F.args_list_mul_2 _ _) (AutoListH.list___mul___list_int_3 l its.toArray n k t hfit hcap hlong) ⟨e,?_⟩⟩)
 rw[hnew];exists .ref _,_,I.lnew (t':=s.toks) (r.rep k.toNat) (by rw[Zpg,Nat.mul_comm];exact hz),rfl,q _ I.fresh
end
section
variable[DecidableEq κ]
def valV(kvs:List (κ×V))(k:κ):Option V:=(kvs.find? λkv=>decide (kv.1=k)).map (·.2)
def putK(kvs:List (κ×V))(k:κ)(v:V):List (κ×V) :=
 if(kvs.any λkv=>decide (kv.1=k))=true then kvs.map (λkv=>if kv.1=k then(kv.1,v)else kv)else kvs++[(k,v)]
def Zj5{k:κ}:valV ([]:List (κ×V)) k=none:=rfl
def Xr{p:κ×V}{r:List (κ×V)}{k:κ}(e:p.1=k):valV (p::r) k=some p.2:=by simp[valV,Bg,e]
def Xs{p:κ×V}{r:List (κ×V)}{k:κ}(e:¬ p.1=k):valV (p::r) k=valV r k:=by simp[valV,Bg,e]
theorem Rn(k:κ):∀kvs:List (κ×V),(kvs.any λkv=>decide (kv.1=k))=(valV kvs k).isSome
 |[]=>rfl
 |p::r=>by
  rw[B4]
  by_cases e:p.1=k
  .simp only[Xr e,Fx e,Bool.true_or,Option.isSome_some]
  .rw[Xs e,Fy e,Jg8];exact Rn k r
theorem Zdm(k j:κ)(y:V):∀kvs:List (κ×V),valV (kvs.map λkv=>if kv.1=k then(kv.1,y)else kv) j=(valV kvs j).map λx=>if j=k then y else x
 |[]=>rfl
 |p::r=>by
  let ih:=Zdm k j y r;rw[Jo]
  by_cases h:p.1=k
  .rw[Fw h]
   by_cases e:p.1=j
   .rw[Xr (p:=(p.1,y)) e,Xr e,B1,Fw (e.symm.trans h)]
   .rw[Xs (p:=(p.1,y)) e,Xs e,ih]
  .rw[Fv h]
   by_cases e:p.1=j
   .rw[Xr (p:=p) e,Xr e,B1,Fv (λz=>h (e.trans z))]
   .rw[Xs (p:=p) e,Xs e,ih]
theorem Zaj(k j:κ)(y:V):∀kvs:List (κ×V),valV kvs k=none->valV (kvs++[(k,y)]) j=if j=k then some y else valV kvs j
 |[],_=>by
  by_cases e:k=j
  .rw[Fw e.symm];exact Xr (p:=(k,y)) e
  .rw[Fv (λz=>e z.symm)];exact Xs (p:=(k,y)) e
 |p::r,hn=>by
  rw[Ja9];let hk:¬ p.1=k:=λz=>by rw[Xr z]at hn;cases hn
  rw[Xs hk]at hn;let ih:=Zaj k j y r hn
  by_cases e:p.1=j
  .rw[Xr e,Xr e,Fv (λz=>hk (e.trans z))]
  .rw[Xs e,Xs e,ih]
def P9(kvs:List (κ×V))(k j:κ)(y:V):valV (putK kvs k y) j=if j=k then some y else valV kvs j:=by
 unfold putK
 by_cases a:(kvs.any λkv=>decide (kv.1=k))=true
 .rw[Fw a,Zdm];rw[Rn]at a
  by_cases e:j=k
  .let⟨x,hx⟩:=Option.isSome_iff_exists.mp a;rw[Fw e,e,hx,B1,Fw rfl]
  .rw[Fv e];cases valV kvs j with
   |none=>rfl
   |some x=>rw[B1,Fv e]
 .rw[Fv a];refine Zaj k j y kvs ?_;rw[Rn]at a;cases q:valV kvs k with
  |none=>rfl
  |some x=>rw[q]at a;exact(a rfl).elim
theorem Y9(kvs:List (κ×V))(k:κ)(v:V):(putK kvs k v).length<=kvs.length+1:=by
 unfold putK
 split
 .rw[Ja];lia
 .rw[Jc,Jv,Bo];lia
theorem RelO.isSome_eq{o:Option V}{u:Option Ca}(r:RelO o u):o.isSome=u.isSome:=by
 cases o with
 |none=>cases u with
  |none=>rfl
  |some _=>exact(show False from r).elim
 |some _=>cases u with
  |none=>exact(show False from r).elim
  |some _=>rfl
theorem RelO.getD{o:Option V}{u:Option Ca}{d:V}{d':Ca}(r:RelO o u)(rd:RelV d d'):RelV (o.getD d) (u.getD d'):=by
 cases o with
 |none=>cases u with
  |none=>exact rd
  |some _=>exact(show False from r).elim
 |some _=>cases u with
  |none=>exact(show False from r).elim
  |some _=>exact r
theorem KV.val{kvs:List (κ×V)}{vs:List (κ×Ca)}(r:KV kvs vs)(k:κ):RelO (valV kvs k) (Jep vs k):=by
 unfold KV at r
 induction r with
 |nil=>exact Es
 | @cons p q ps qs h t ih =>
  let⟨h1,h2⟩:=h
  by_cases e:p.1=k
  .let e':q.1=k:=h1.symm.trans e;let b:Jep (q::qs) k=some q.2:=by simp[Jep,Bg,e']
   rw[Xr e,b];exact h2
  .let e':¬ q.1=k:=λz=>e (h1.trans z);let b:Jep (q::qs) k=Jep qs k:=by simp[Jep,Bg,e']
   rw[Xs e,b];exact ih
theorem KV.any{kvs:List (κ×V)}{vs:List (κ×Ca)}(r:KV kvs vs)(k:κ):(kvs.any λkv=>decide (kv.1=k))=vs.any λkv=>decide (kv.1=k):=by
 unfold KV at r
 induction r with
 |nil=>rfl
 |cons h t ih=>rw[B4,B4,ih,h.1]
theorem KV.repl{kvs:List (κ×V)}{vs:List (κ×Ca)}(r:KV kvs vs)(k:κ){y:V}{u:Ca}(ry:RelV y u) :
  KV (kvs.map λkv=>if kv.1=k then(kv.1,y)else kv) (vs.map λkv=>if kv.1=k then(kv.1,u)else kv):=by
 unfold KV at r⊢
 induction r with
 |nil=>exact .nil
 | @cons p q ps qs h t ih =>
  rw[Jo,Jo];refine .cons ?_ ih;let⟨h1,h2⟩:=h
  by_cases e:p.1=k
  .rw[Fw e,Fw (h1.symm.trans e)];exists h1,ry
  .rw[Fv e,Fv (λz=>e (h1.trans z))];exists h1,h2
def KV.put{kvs:List (κ×V)}{vs:List (κ×Ca)}(r:KV kvs vs)(k:κ){y:V}{u:Ca}(ry:RelV y u):KV (putK kvs k y) (stored vs k u):=by
 unfold putK stored;rw[r.any k]
 by_cases e:(vs.any λkv=>decide (kv.1=k))=true
 .rw[Fw e,Fw e];exact r.repl k ry
 .rw[Fv e,Fv e];exact Paired.snoc r ⟨rfl,ry⟩
def KV.length{kvs:List (κ×V)}{vs:List (κ×Ca)}(r:KV kvs vs):kvs.length=vs.length:=Paired.length r
end
theorem Zcv{k:Key}{u:Ca}(r:RelV (kV k) u):(Yt P w).is k u=true:=by
 cases k with
 |inl i=>obtain⟨t,e⟩:=(show ∃t,u=C0 i t from r);subst e;exact Zcq P w i t
 |inr x=>obtain⟨t,e⟩:=(show ∃t,u=Jb8 x t from r);subst e;exact Zcp P w x t
theorem Zbd :∀{ks:List Key}{us:List Ca},Vals (ks.map kV) us->ItemsAre (Yt P w) ks us
 |[],_,r=>by rw[Je6]at r;cases r;exact .nil
 |k::ks,_,r=>by
  rw[Jo]at r;cases r with
  |cons h t=>exact .cons (Zcv h) (Zbd t)
abbrev KT(H:Hp):List (List Key×V)->List (List Key×Addr×Ca)->Prop:=Paired λp q=>p.1=q.1/\H q.2.1=some (.tup (p.1.map kV))/\RelV p.2 q.2.2
theorem KT.val{xs:List (List Key×Addr×Ca)}(r:KT H kvs xs)(k:List Key):RelO (valV kvs k) ((Jho xs k).map (·.2)):=by
 induction r with
 |nil=>exact Es
 | @cons p q ps qs h t ih =>
  let⟨h1,_,h2⟩:=h
  by_cases e:p.1=k
  .let e':q.1=k:=h1.symm.trans e;let b:Jho (q::qs) k=some q.2:=by simp[Jho,Bg,e']
   rw[Xr e,b];exact h2
  .let e':¬ q.1=k:=λz=>e (h1.trans z);let b:Jho (q::qs) k=Jho qs k:=by simp[Jho,Bg,e']
   rw[Xs e,b];exact ih
theorem KT.repl{xs:List (List Key×Addr×Ca)}(r:KT H kvs xs)(k:List Key){y:V}{u:Ca}(ry:RelV y u) :
  KT H (kvs.map λkv=>if kv.1=k then(kv.1,y)else kv) (xs.map (putAt k u)):=by
 induction r with
 |nil=>exact .nil
 | @cons p q ps qs h t ih =>
  rw[Jo,Jo];refine .cons ?_ ih;let⟨h1,h2,h3⟩:=h;unfold putAt
  by_cases e:p.1=k
  .rw[Fw e,Fw (h1.symm.trans e)];exists h1,h2,ry
  .rw[Fv e,Fv (λz=>e (h1.trans z))];exists h1,h2,h3
def KT.put{xs:List (List Key×Addr×Ca)}(r:KT H kvs xs)(k:List Key){b:Addr}{y:V}{u:Ca}(hb:H b=some (.tup (k.map kV)))(ry:RelV y u) :
  KT H (putK kvs k y) (storedH xs k b u):=by
 let e:(kvs.any λkv=>decide (kv.1=k))=(Jho xs k).isSome:=by
  rw[Rn,(r.val k).isSome_eq,Mp]
 unfold putK storedH;rw[e]
 by_cases q:(Jho xs k).isSome=true
 .rw[Fw q,Fw q];exact r.repl k ry
 .rw[Fv q,Fv q];exact Paired.snoc r ⟨rfl,hb,ry⟩
def KT.keeps{xs:List (List Key×Addr×Ca)}(r:KT H kvs xs)(ht:∀b ys,H b=some (.tup ys)->H' b=some (.tup ys)):KT H' kvs xs :=
 Paired.mapP r λ_ _ z=>⟨z.1,ht _ _ z.2.1,z.2.2⟩
section
variable{a:Addr}
def Zsm{u:HO}(ok:HOk P w H h)(e:Rd H a u):Y3 P w H h a u:=e.ok ok
def Zbl{kvs:List (Key×V)}(ok:HOk P w H h)(e:Rd H a (.dK kvs)):kvs.length<=Cb/\(a==E6)=false/\∃vs,KV kvs vs/\h.DictOf (Yt P w) a vs :=
 show Y3 P w H h a (.dK kvs)from Zsm ok e
def Zp2{kvs:List (Key×V)}(ok:HOk P w H h)(e:H a=some (.dK kvs)):kvs.length<=Cb/\(a==E6)=false/\∃vs,KV kvs vs/\h.DictOf (Yt P w) a vs:=Zbl ok (.inl e)
def Qm{ks:List Key}(ok:HOk P w H h)(e:H a=some (.tup (ks.map kV))):(Mi (Yt P w)).is h ks a:=by
 let⟨_,its,r,o,h1,h2,n,h3,_⟩:=(show Y3 P w H h a (.tup (ks.map kV))from ok a _ e);exact⟨o,its.toArray,n,h1,h2,h3,by simpa using Zbd r⟩
def Zc5(ok:HOk P w H h)(e:Rd H a (.dT kvs)):kvs.length<=Cb/\(a==E6)=false /\
  ∃xs,KT H kvs xs/\h.DictOfH (Mi (Yt P w)) a xs:=by
 let⟨z,y,xs,r,o,es,ep,h1,h2,h3,h4,h5⟩:=(show Y3 P w H h a (.dT kvs)from Zsm ok e);refine⟨z,y,xs,r,o,es,ep,h1,h2,h3,h4,λx hx=>?_,h5⟩;let all:∀{l:List (List Key×V)}{m:List (List Key×Addr×Ca)},KT H l m->∀x∈m,(Mi (Yt P w)).is h x.1 x.2.1:=by
  intro l m q
  induction q with
  |nil=>intro x hx;exact nomatch hx
  | @cons p q ps qs hq t ih =>
   intro x hx;rcases Jt.mp hx with e|hx
   .subst e;exact Qm ok (by rw[<-hq.1];exact hq.2.1)
   .exact ih x hx
 exact all r x hx
def Zto(ok:HOk P w H h)(e:H a=some (.dT kvs)):kvs.length<=Cb/\(a==E6)=false /\
  ∃xs,KT H kvs xs/\h.DictOfH (Mi (Yt P w)) a xs:=Zc5 ok (.inl e)
end
def DGet(H:Hp)(a:Addr)(y:V)(r:Option V):Prop :=
 (∃kvs k,Rd H a (.dK kvs)/\y=kV k/\r=valV kvs k)\/∃kvs k b,Rd H a (.dT kvs)/\y=.ref b/\H b=some (.tup (k.map kV))/\r=valV kvs k
def DPut(H:Hp)(a:Addr)(y v:V)(H':Hp):Prop :=
 (∃kvs k,H a=some (.dK kvs)/\y=kV k/\kvs.length<Cb/\H'=upd H a (.dK (putK kvs k v))) \/
 ∃kvs k b,H a=some (.dT kvs)/\y=.ref b/\H b=some (.tup (k.map kV))/\kvs.length<Cb/\H'=upd H a (.dT (putK kvs k v))
theorem DGet.k{a:Addr}{kvs:List (Key×V)}{k:Key}(e:H a=some (.dK kvs)):DGet H a (kV k) (valV kvs k):=.inl ⟨kvs,k,.inl e,rfl,rfl⟩
def DGet.t{a b:Addr}{k:List Key}(e:H a=some (.dT kvs))(eb:H b=some (.tup (k.map kV))):DGet H a (.ref b) (valV kvs k):=.inr ⟨kvs,k,b,.inl e,rfl,eb,rfl⟩
theorem DPut.k{a:Addr}{kvs:List (Key×V)}{k:Key}(e:H a=some (.dK kvs))(hl:kvs.length<Cb):DPut H a (kV k) v (upd H a (.dK (putK kvs k v))):=.inl ⟨kvs,k,e,rfl,hl,rfl⟩
def DPut.t{a b:Addr}{k:List Key}(e:H a=some (.dT kvs))(eb:H b=some (.tup (k.map kV)))(hl:kvs.length<Cb) :
  DPut H a (.ref b) v (upd H a (.dT (putK kvs k v))):=.inr ⟨kvs,k,b,e,rfl,eb,hl,rfl⟩
section
variable{a:Addr}{y:V}{u r:Ca}{o:Option V} 
def Inv.big(I:Inv X pq σ H s):E6<s.heap.objs.size:=by
 let h:Ct<s.heap.objs.size:=(I.mod.glob.keeps I.bk).lt;exact Nat.lt_trans nofun h
def Zjc{Q:Ca->Cc->Prop}(hu:A.units+1<E9)(I:Inv X pq σ H s)(g:DGet H a y (some v))(ry:RelV y u)(h:∀w' s',Inv X pq σ H s'->RelV v w'->Q w' s') :
  Cd (Ck X.prog X.w) A (Lw (.ref a) u) Q E s:=by
 rcases g with⟨kvs,k,e,ey,l⟩|⟨kvs,k,b,e,ey,eb,l⟩
 .subst ey;let⟨z,hd,vs,rel,dd⟩:=Zbl I.hok e;let⟨w',hw,rw'⟩:=RelO.some_of (v:=v) (o:=Jep vs k) (by rw[l];exact rel.val k);exact wpAny_getItem_of (Zcv ry) dd.mapOf hw (h w' _ (I.tok _) rw')
 .subst ey;cases(show u=Ch b from ry);let⟨z,hd,xs,rel,dd⟩:=Zc5 I.hok e;let⟨w',hw,rw'⟩:=RelO.some_of (v:=v) (o:=(Jho xs k).map (·.2)) (by rw[l];exact rel.val k);let⟨p,hp,hp2⟩:=Option.map_eq_some_iff.mp hw;refine wpAny_getItem_heap (Hu hu) (Qm I.hok eb) dd hp ?_;rw[hp2];exact h w' _ (I.tok _) rw'
def d_in{Q:Ca->Cc->Prop}(hu:A.units+1<E9)(I:Inv X pq σ H s)(g:DGet H a y o)(ry:RelV y u)(h:∀s',Inv X pq σ H s'->Q (.bool o.isSome) s') :
  Cd (Ck X.prog X.w) A (Eo .In u (.ref a)) Q E s:=by
 rcases g with⟨kvs,k,e,ey,l⟩|⟨kvs,k,b,e,ey,eb,l⟩
 .subst ey;let⟨z,hd,vs,rel,dd⟩:=Zbl I.hok e;refine wpAny_in_of (Zcv ry) hd dd.mapOf ?_;rw[<-(rel.val k).isSome_eq,<-l];exact h _ (I.tok _)
 .subst ey;cases(show u=Ch b from ry);let⟨z,hd,xs,rel,dd⟩:=Zc5 I.hok e;refine wpAny_in_heap (Hu hu) (Qm I.hok eb) hd dd ?_;let q:=(rel.val k).isSome_eq;rw[Mp]at q;rw[<-q,<-l];exact h _ (I.tok _)
def Zp4{Q:Ca->Cc->Prop}(hu:A.units+1<E9)(I:Inv X pq σ H s)(g:DGet H a y o)(ry:RelV y u)(h:∀s',Inv X pq σ H s'->Q (.bool (!o.isSome)) s') :
  Cd (Ck X.prog X.w) A (Eo .NotIn u (.ref a)) Q E s:=by
 rcases g with⟨kvs,k,e,ey,l⟩|⟨kvs,k,b,e,ey,eb,l⟩
 .subst ey;let⟨z,hd,vs,rel,dd⟩:=Zbl I.hok e;refine wpAny_notIn_of (Zcv ry) hd dd.mapOf ?_;rw[<-(rel.val k).isSome_eq,<-l];exact h _ (I.tok _)
 .subst ey;cases(show u=Ch b from ry);let⟨z,hd,xs,rel,dd⟩:=Zc5 I.hok e;refine wpAny_notIn_heap (Hu hu) (Qm I.hok eb) hd dd ?_;let q:=(rel.val k).isSome_eq;rw[Mp]at q;rw[<-q,<-l];exact h _ (I.tok _)
def N7{ob:HO}(I:Inv X pq σ H s)(mu:Mut (H a))(hs:Hk a s.heap h')(he:∃q,h'.get? a=some q)(new:Y3 X.prog X.w (upd H a ob) h' a ob) :
  Inv X pq σ (upd H a ob) {s with heap:=h',toks:=t'} :=
 I.write (x:=a) (e:=a) mu (.inl rfl) (λb q hb z=>(hs.2 b hb).trans z) he new
def Zna{kvs:List (Key×V)}{vs:List (Key×Ca)}(z:kvs.length<=Cb)(hd:(a==E6)=false)(rel:KV kvs vs)(dd:h'.DictOf (Yt P w) a vs) :
  Y3 P w H' h' a (.dK kvs):=⟨z,hd,vs,rel,dd⟩
theorem Zjb{Q:Unit->Cc->Prop}(hu:A.units+1<E9)(I:Inv X pq σ H s)(g:DPut H a y v H')(ry:RelV y u)(rv:RelV v r)(h:∀s',Inv X pq σ H' s'->Q ⟨⟩ s') :
  Cd (Ck X.prog X.w) A (Jhz (.ref a) u r) Q E s:=by
 rcases g with⟨kvs,k,e,ey,l,eH⟩|⟨kvs,k,b,e,ey,eb,l,eH⟩
 .subst ey eH;let⟨z,hd,vs,rel,dd⟩:=Zp2 I.hok e;let hz:vs.length<=Cb:=by rw[<-rel.length];exact z
  let hl:(putK kvs k v).length<=Cb:=by have:=Y9 kvs k v;lia
  refine wpAny_setItem_pairs (hsz:=hz) (Zcv ry) dd λh' dd' hs=>h _ ?_;let he:∃q,h'.get? a=some q:=let⟨q,_,_,hq,_⟩:=dd';⟨q,hq⟩
  exact N7 I (by rw[e];exact Es) hs he (Zna hl hd (rel.put k rv) dd')
 .subst ey eH;cases(show u=Ch b from ry);let⟨z,hd,xs,rel,dd⟩:=Zto I.hok e;let hz:xs.length<=Cb:=by rw[<-Paired.length rel];exact z
  let hl:(putK kvs k v).length<=Cb:=by have:=Y9 kvs k v;lia
  refine wpAny_setItem_heap (hsz:=hz) (Hu hu) (Qm I.hok eb) dd λh' dd' hs=>h _ ?_;let⟨q,es,ep,hq,h2,h3,h4,_,h5⟩:=dd';refine N7 I (by rw[e];exact Es) hs ⟨q,hq⟩ ⟨hl,hd,_,(rel.put k eb rv).keeps λc ys ec=>?_,q,es,ep,hq,h2,h3,h4,h5⟩;rw[Zo (Rj ec e (λz=>nomatch z))];exact ec
end
def NoSl(i:Expr):Prop:=∀ov iv,Mz i false ov iv=Jh5 [ov,iv] (Lw ov iv)
def Zn8{env:Env}{slice:Expr}{T id:String}{Q:Ca->Cc->Prop}(hl:Jdf (.type T) "__getitem__"=pure (some (.builtin id)))(hs:NoSl slice)(h:Cd (Ck prog w) A (eval value env) (λo s₁=>Cd (Ck prog w) A (eval slice env) (λi s₂=>s₂.TypeIs o T/\Cd (Ck prog w) A (Lw o i) Q E s₂) E s₁) E s) :
  Cd (Ck prog w) A (eval (.Subscript value slice pos) env) Q E s:=by
 refine Jeo (F7 h (λo s₁ h₁=>F7 h₁ (λi s₂ h₂=>?_) λ_ _ x=>x) λ_ _ x=>x);let⟨hT,h₂⟩:=h₂;unfold My;refine Fo ?_;rw[getitemInPython_of_ne hT.not_modules];refine Fo (wpAny_specialOf hT hl ?_);let fin:Cd (Ck prog w) A (Mz slice false o i) (λr s₃=>Cd (Ck prog w) A (letTemporaryGo value o r >>= λ_=>pure r) Q E s₃) E s₂:=by
  rw[hs o i];exact wpAny_operating (F7 h₂ (λr s₃ h₃=>Fo (wpAny_letTemporaryGo (Fp h₃))) λ_ _ x=>x)
 first
  |exact Fp (Fo fin)
  |exact Fo (Fp (Fo fin))
  |exact Fo fin
def Zc6{a:Addr}{y:V}{o:Option V}(I:Inv X pq σ H s)(g:DGet H a y o):s.TypeIs (.ref a) "dict":=by
 rcases g with⟨kvs,k,e,_,_⟩|⟨kvs,k,b,e,_,_,_⟩
 .let⟨_,_,vs,_,dd⟩:=Zbl I.hok e;exact dd.typeIs
 .let⟨_,_,xs,_,dd⟩:=Zc5 I.hok e;exact dd.typeIs
def Zrv(td ty:TE):TE:=λσ H Q=>td σ H λx H1=>ty σ H1 λy H2=>∃a v,x=.ref a/\DGet H2 a y (some v)/\Q v H2
def tDIn(ty td:TE):TE:=λσ H Q=>ty σ H λy H1=>td σ H1 λx H2=>∃a o,x=.ref a/\DGet H2 a y o/\Q (.bl o.isSome) H2
def Zgm(ty td:TE):TE:=λσ H Q=>ty σ H λy H1=>td σ H1 λx H2=>∃a o,x=.ref a/\DGet H2 a y o/\Q (.bl (!o.isSome)) H2
def Zsk(td ty tv:TE):TS:=λD σ H=>tv σ H λv H1=>td σ H1 λx H2=>ty σ H2 λy H3=>∃a H4,x=.ref a/\DPut H3 a y v H4/\D.nx σ H4
section
variable{o i:Expr}{td ty tv:TE}
def Zht(hu:X.A.units+1<E9)(ho:PE X o td)(hi:PE X i ty)(hs:NoSl i):PE X (.Subscript o i pos) (Zrv td ty):=by
 intro pq s σ H Q I h;refine Zn8 PySem.F.slot_dict_getitem.lookup hs (thn (ho pq s σ H _ I h) λu s1⟨x,H1,I1,rx,q1⟩=>thn (hi pq s1 σ H1 _ I1 q1) λiv s2 hz=>?_);let⟨y,H2,I2,ry,a,v,ex,g,q2⟩:=hz;subst ex;obtain rfl:u=Ch a:=rx;exists Zc6 I2 g,Zjc hu I2 g ry λw' s3 I3 rw'=>⟨v,H2,I3,rw',q2⟩
def Zsy(hu:X.A.units+1<E9)(hi:PE X i ty)(ho:PE X o td):PC X .In i o (tDIn ty td):=by
 intro pq s σ H Q I h;refine thn (hi pq s σ H _ I h) λiv s1⟨y,H1,I1,ry,q1⟩=>thn (ho pq s1 σ H1 _ I1 q1) λu s2 hz=>?_;let⟨x,H2,I2,rx,a,ov,ex,g,q2⟩:=hz;subst ex;obtain rfl:u=Ch a:=rx;exact d_in hu I2 g ry λs3 I3=>⟨.bl ov.isSome,H2,I3,rfl,q2⟩
def Zaz(hu:X.A.units+1<E9)(hi:PE X i ty)(ho:PE X o td):PC X .NotIn i o (Zgm ty td):=by
 intro pq s σ H Q I h;refine thn (hi pq s σ H _ I h) λiv s1⟨y,H1,I1,ry,q1⟩=>thn (ho pq s1 σ H1 _ I1 q1) λu s2 hz=>?_;let⟨x,H2,I2,rx,a,ov,ex,g,q2⟩:=hz;subst ex;obtain rfl:u=Ch a:=rx;exact Zp4 hu I2 g ry λs3 I3=>⟨.bl (!ov.isSome),H2,I3,rfl,q2⟩
def Zcj(hu:X.A.units+1<E9)(ho:PE X o td)(hi:PE X i ty)(hv:PE X value tv)(hs:Mj value (some (.Subscript o i pos')) pos.line X.env=pure false) :
  PS X (.Assign [.Subscript o i pos'] value pos) (Zsk td ty tv):=by
 intro pq s σ H D I h;refine wpAny_Assign_Subscript (thn (hv pq s σ H _ I h) λr s1⟨v,H1,I1,rv,q1⟩=>thn (ho pq s1 σ H1 _ I1 q1) λu s2⟨x,H2,I2,rx,q2⟩=>thn (hi pq s2 σ H2 _ I2 q2) λiv s3 hz=>?_) hs;let⟨y,H3,I3,ry,a,H4,ex,g,q3⟩:=hz;subst ex;obtain rfl:u=Ch a:=rx;exact Zjb hu I3 g ry rv λs4 I4=>⟨σ,H4,I4,q3⟩
end
def Zep(h:Heap)(hb:E6<h.objs.size):Y3 P w H (h.push {cls:=.type "dict",data:=.dict #[]}) h.objs.size (.dK []) :=
 ⟨Ju _,beq_eq_false_iff_ne.mpr (Ee (Gd hb)),[],.nil,Jil h⟩
def Zeo(h:Heap)(hb:E6<h.objs.size):Y3 P w H (h.push {cls:=.type "dict",data:=.dict #[]}) h.objs.size (.dT []) :=
 ⟨Ju _,beq_eq_false_iff_ne.mpr (Ee (Gd hb)),[],.nil,_,#[],0,Ft _ rfl,⟨rfl,rfl,rfl⟩,rfl,rfl,List.nodup_nil⟩
def Zmg:TE:=λ_ H Q=>∀p,H p=none->Q (.ref p) (upd H p (.dK []))
def Zrt:TE:=λ_ H Q=>∀p,H p=none->Q (.ref p) (upd H p (.dT []))
section
def Zd9:PE X (.Dict [] [] pos) Zmg:=λpq s σ H Q I h =>
 Jfc ⟨.ref s.heap.objs.size,_,I.laid (a:=s.heap.objs.size) (o:=.dK []) (t':=s.toks) (λ_ _ q=>Fs _ q) (Jd _) (Zep s.heap I.big),rfl,h _ (I.hok.fresh (Jd _))⟩
def Zk8:PE X (.Dict [] [] pos) Zrt:=λpq s σ H Q I h =>
 Jfc ⟨.ref s.heap.objs.size,_,I.laid (a:=s.heap.objs.size) (o:=.dT []) (t':=s.toks) (λ_ _ q=>Fs _ q) (Jd _) (Zeo s.heap I.big),rfl,h _ (I.hok.fresh (Jd _))⟩
end
structure M1(X:Cx)(o:Expr)(m:Str)(apos:Pos)(e:Expr)(cpos:Pos):Prop where
 base:Ll o m X.env (eval o X.env)=eval o X.env
 few:((Ht cpos (Cj [e] X.env)).all (λx=>!x.1)&&(Lm cpos (Hq [] X.env)).all (λx=>x.1.isSome)
  && decide (([e]:List Expr).length+([]:List Jfq).length+(if([]:List Jfq).isEmpty then 0 else 1)<30))=true
 line:(apos.endLine==cpos.line)=true
 trees:Ht cpos (Cj [e] X.env)=[(false,eval e X.env)]
def IsD(H:Hp)(a:Addr):Prop:=(∃kvs,Rd H a (.dK kvs))\/∃kvs,Rd H a (.dT kvs)
def Zti{a:Addr}(I:Inv X pq σ H s)(d:IsD H a) :
  s.TypeIs (.ref a) "dict"/\(∀b,Ch a=.ref b->∃ob,s.heap.get? b=some ob/\ob.dict=none)/\(a==E6)=false:=by
 rcases d with⟨kvs,e⟩|⟨kvs,e⟩
 .let⟨_,hd,vs,_,dd⟩:=Zbl I.hok e;exists dd.typeIs,λb q=>?_,hd;cases q;let⟨ob,_,_,h1,h2,_⟩:=dd;exists ob,h1,h2.2.1
 .let⟨_,hd,xs,_,dd⟩:=Zc5 I.hok e;exists dd.typeIs,λb q=>?_,hd;cases q;let⟨ob,_,_,h1,h2,_⟩:=dd;exists ob,h1,h2.2.1
section
variable{a:Addr}{y:V}{u:Ca}{o:Option V} 
def Ztq{Q:Ca->Cc->Prop}(hu:A.units+1<E9)(I:Inv X pq σ H s)(g:DGet H a y o)(ry:RelV y u)(h:∀w' s',Inv X pq σ H s'->RelV (o.getD .non) w'->Q w' s') :
  Cd (Ck X.prog X.w) A (call (.builtin "dict.get") [.ref a,u]) Q E s:=by
 rcases g with⟨kvs,k,e,ey,l⟩|⟨kvs,k,b,e,ey,eb,l⟩
 .subst ey;let⟨z,hd,vs,rel,dd⟩:=Zbl I.hok e;refine call_meetsIn Ld dd.typeIs Jb4 (M7 _ _) (meets_dict_get (Yt X.prog X.w) a (Zcv ry) hd) ⟨_,dd.mapOf,h _ _ (I.tok _) ?_⟩;rw[l];exact(rel.val k).getD rfl
 .subst ey;cases(show u=Ch b from ry);let⟨z,hd,xs,rel,dd⟩:=Zc5 I.hok e;refine call_meetsIn Ld dd.typeIs Jb4 (M7 _ _) (meetsH_dict_get (Mi (Yt X.prog X.w)) a b hd) ⟨Hu hu,k,xs,Qm I.hok eb,dd,h _ _ (I.tok _) ?_⟩;rw[l];exact(rel.val k).getD rfl
end
def Zru(td ty:TE):TE:=λσ H Q=>td σ H λx H1=>∃a,x=.ref a/\IsD H1 a/\ty σ H1 λy H2=>∃o,DGet H2 a y o/\Q (o.getD .non) H2
section
variable{o e:Expr}{td ty:TE}
def Zea(hu:X.A.units+1<E9)(ho:PE X o td)(he:PE X e ty)(m:M1 X o "get" apos e cpos):PE X (.Call (.Attribute o "get" apos) [e] [] cpos) (Zru td ty):=by
 intro pq s σ H Q I h;refine wpAny_Call_method m.base m.few m.line PySem.F.plainAttrs_dict Ld PySem.F.type_dict_get (thn (ho pq s σ H _ I h) λu s1 hz=>?_);let⟨x,H1,I1,rx,a,ex,d,q1⟩:=hz;subst ex;obtain rfl:u=Ch a:=rx;let⟨t1,t2,_⟩:=Zti I1 d;exists t1,t2,?_;rw[m.trees];refine K2 rfl (Jdj (Jd3 (thn (he pq s1 σ H1 _ I1 q1) λiv s2⟨y,H2,I2,ry,ov,g,q2⟩=>Jel ?_)));exact Ztq hu I2 g ry λw' s3 I3 rw'=>⟨_,H2,I3,rw',q2⟩
end
end L2
namespace Att
open PySem PySem.W PySem.Calls PyProof.Rows
theorem Qp{P:Params} :∀(ns:List Int)(vs:List Ca),WellAll P h vs (ns.map Jim)->Kv vs ns:=by
 intro ns
 induction ns with
 |nil =>
  intro vs w;rw[Je6]at w;cases w;exact .nil
 |cons n ns ih =>
  intro vs w;rw[Jo]at w;cases w with
  |cons a b =>
   cases a;exact .cons _ _ (ih _ b)
theorem Zg2{l:OpenLaw}{n:Nat}(hn:l.most=some n){P:Params}{args:List WData}{vals:List Ca}(hpre:l.row.toRowW.claim.pre args=true)(hwl:WellAll P h vals args) :
  ∃a vs ns,vals=[Ch a]/\args=[WData.list (ns.map Jim)]/\h.get? a=some {cls:=.type "list",data:=.seq vs.toArray}/\Kv vs ns/\ns.length<=n:=by
 let hsh:WShape.hasAll [] args [.list .int]=true:=(pre_splitW hpre).1;let hc:l.pre.holds [] {args:=args}=true:=(pre_splitW hpre).2;let⟨d,r,rfl,h1,h2⟩:=hasAllW_cons hsh;obtain rfl:=hasAllW_nil h2;let⟨xs,rfl,h3⟩:=hasW_list h1;let⟨ns,rfl⟩:=items_int h3;let hlen:ns.length<=n:=by
  unfold OpenLaw.pre at hc;let h4:(WTm.not (.lt (.lit (.int (n:Int))) (.len (.arg 0)))).holds [] {args:=[.list (ns.map .int)]}=true:=by
   let h4:=(holds_andW hc).1;rw[hn]at h4;exact h4
  let h5:=condW_of h4 (w_not (w_lt w_lit (w_len_list (w_arg rfl))));rw[Ja]at h5;refine Nat.le_of_not_lt λq=>?_;let q':(n:Int)<((ns.length:Nat):Int):=by lia
  first
   |(rw[Fx q']at h5;exact Fl h5 nofun)
   |(simp at h5;lia)
 cases hwl with
 |cons w1 w2 =>
  cases w2;cases w1 with
  |list ho hall=>exact⟨_,_,ns,rfl,rfl,ho,Qp ns _ hall,hlen⟩
def Zhm(l:OpenLaw)(args:List WData):l.row.toRowW.claim.post args (.bool true) args=true :=
 postW_of (r:=l.row.toRowW) (X:=(true==true))
  (show Jig [] (.bool true) .bool=true by first|rfl|decide|simp[Jig,WShape.arms,WShape.armsAll])
  (show(WTm.eq .res (.lit (.bool true))).value [] {args:=args,res:=some (.bool true),after:=args}=some (.bool (true==true))from w_eq_bool (w_res rfl) w_lit) rfl
def attach_call{l:OpenLaw}{n:Nat}{q:Ez}{loose:List Str}{XP:(Str->Option Ca)->Heap->Prop}{YP:Hm->Heap->Prop}{d:DefRec}(hn:l.most=some n)(hdf:d.params.defaults=[])(call:∀(w:Hm)(s₀ s₁:Cc)(mg mb:Str->Option Ca)(fa:Addr)(o:Obj)(pm cd doc:Ca)(a:Addr)(vs:List Ca)(ns:List Int),
   Ground q loose [] XP w s₀ mg mb s₁.heap->YP w s₁.heap ->
   s₁.heap.get? fa=some o->o.data=.func (docDef d.name d.params d.body d.scope pm cd doc)->s₁.heap.CodeRec cd d.name->mg d.name=some (.ref fa) ->
   s₁.heap.get? a=some {cls:=.type "list",data:=.seq vs.toArray}->Kv vs ns->ns.length<=n->s₁.gens=#[] ->
   Ho (Ck l.prog w) Jeq (.call (.ref fa) ⟨[.ref a],[]⟩) (λr s'=>r=.ok (.ret (.bool true))/\OldK s₁.heap s'.heap/\s'.os=s₁.os/\Mu s'.gens) s₁) :
  WalkO q loose XP YP l.row.toRowW d [] (λf vs=>Jgw f vs):=by
 intro w s₀ s₁ mg mb G Y fa o pm cd doc dV kV ho hd hcd hD hmg hg args vals as hpre hlay hrd hwl hlo;obtain rfl:dV=.none:=Dflts.none hD hdf;obtain rfl:kV=.none:=Dflts.noKw hD;let⟨a,vs,ns,rfl,rfl,hobj,hints,hlen⟩:=Zg2 hn hpre hwl;refine enter_call (Hl (call w s₀ s₁ mg mb fa o pm cd doc a vs ns G Y ho (fd_plain hd) hcd hmg hobj hints hlen hg) λr s' hq=>?_);let⟨rfl,h2,h3,h4⟩:=hq;exists .inl ⟨.bool true,.bool true,[],rfl,λ_=>rfl,.bool true,Zhm l _,λ_=>⟨Jer,λ_ hm=>(nomatch hm)⟩⟩,h2,h3,h4
end Att
namespace L2
open PySem PySem.Spec PyProof.Rows
theorem Zai:∀{vs:List Ca}{ns:List Int},Kv vs ns->Vals (ns.map V.int) vs:=by
 intro _ _ hz9;cases hz9 with
 |nil=>
  exact .nil
 |cons n t h=>
  exact .cons ⟨t,rfl⟩ (Zai h)
def Xh(s:Stmt)(j:Nat):Stmt:=match s with
 |.ClassDef _ _ _ body _ _ _ _ _ _ _=>body.getD j (.Pass ⟨0,0,0,0⟩)
 |_=>.Pass ⟨0,0,0,0⟩
def Y4(s:Stmt):Arguments:=match s with
 |.FunctionDef _ a _ _ _ _ _ _ _ _=>a
 |_=>{posonlyargs:=[],args:=[],vararg:=none,kwonlyargs:=[],kw_defaults:=[],kwarg:=none,defaults:=[]}
def Yi(s:Stmt):List Stmt:=match s with
 |.FunctionDef _ _ b _ _ _ _ _ _ _=>b
 |_=>[]
def Zg(s:Stmt):Scope:=match s with
 |.FunctionDef _ _ _ _ _ _ sc _ _ _=>sc
 |_=>{kind:=.function,names:=[],isGenerator:=false,isCoroutine:=false}
abbrev CX0:CXT:=λ_ _ _ _ _ _=>False
abbrev E0:XK:=λ_ _ _=>False
def Zhx :Uo CX0 X E0:=λ_ _ _ _ _ _ _ h=>h.elim
structure Fun(K:Cr)(x qual:Str)(st:Stmt)(f:Addr)(fd:Md):Prop where
 ex:∃(oc:Ca)(od:Option Addr)(kV doc pm:Ca)(an:Option Addr)(cdv ct:Ca)(osl:Array (Option Ca)),
  fd=Lc x qual (Y4 st) (Yi st) (Zg st) .none kV doc pm an cdv ct/\K.lookup f=some ⟨oc,od,.func fd,osl⟩/\Ln K cdv qual=true
 kp:Mc K (.ref f)=true
section
variable{base:Heap}
def Fun.ok{x:Str}{f:Addr}{k:Nat}(F:Fun K x qual st f fd)(S:FnScope N ps (Zg st))(len:∀vs H Q E,sp vs H Q E->vs.length=ps.length)(hbody:∀(cdv:Ca)(A:Kj)(outer:List Env)(s:Cc)(H:Hp)(vs:List V)(Q:VK)(E:XK),Room k (A.deeper (Hf qual (Zg st) s.heap.objs.size f cdv))->sp vs H Q E ->
   ∃t,PSs (cxOf CX0 P w K mg base N qual (Zg st) f cdv A outer s H E).nox (Yi st) t/\t {nx:=λ_ H'=>Q .non H',rt:=Q} (Tb N vs) H):FnOk P w K mg base CX0 (k+1) f fd ps sp:=by
 let⟨oc,od,kV,doc,pm,an,cdv,ct,osl,rfl,lk,hcd⟩:=F.ex;refine Zlv lk hcd S len λA outer s H vs Q E hr hsp=>?_;let⟨t,h,q⟩:=hbody cdv A outer s H vs Q E hr hsp;exists t,h.nox,q
def Fun.binds{x:Str}{f:Addr}(F:Fun K x qual st f fd)(h:∀(kV doc pm:Ca)(an:Option Addr)(cdv ct:Ca)(us:List Ca),us.length=ps.length->Jde (Lc x qual (Y4 st) (Yi st) (Zg st) .none kV doc pm an cdv ct) ⟨us,[]⟩=pure (ps.zip us)):Vo K fd ps []:=by
 let⟨oc,od,kV,doc,pm,an,cdv,ct,osl,rfl,lk,hcd⟩:=F.ex;exact .all (h kV doc pm an cdv ct)
def Zej{x:Str}{f:Addr}{kV:Ca}(l:K.lookup f=some ⟨oc,od,.func (Lc x qual (Y4 st) (Yi st) (Zg st) .none kV doc pm an cdv ct),osl⟩)(c:Ln K cdv qual=true)(k:Mc K (.ref f)=true):Fun K x qual st f (Lc x qual (Y4 st) (Yi st) (Zg st) .none kV doc pm an cdv ct):=⟨⟨oc,od,kV,doc,pm,an,cdv,ct,osl,rfl,l,c⟩,k⟩
end
def Xv{k:Nat}(hr:Room k A):A.units+1<E9:=G4 (Nat.add_le_add_left (by decide:1<=64) _) hr.units
section
def pv(i:Nat){x:Str}(hN:X.N[i]?=some x:=by rfl)(hv:Vis X.env.scope x:=by first|left;rfl|right;left;rfl|right;right;rfl)(hd:(x==("__debug__":Str))=false:=by decide)(hcd:(x==("__classdict__":Str))=false:=by decide):PE X (.Name x pos) (tVar i):=Zst hN hv hd hcd
end
def iteF{A:Prop}(h:B):if false=true then A else B:=by
 rw[Fv Jr];exact h
def iteT{A:Prop}(h:A):if true=true then A else B:=by
 rw[Fw rfl];exact h
def ite2{c A:Prop}[Decidable c](h1:c->A)(h2:¬ c->B):if c then A else B:=by
 by_cases h:c
 .rw[Fw h];exact h1 h
 .rw[Fv h];exact h2 h
def Zth{c A:Prop}[Decidable c](hc:c)(h:B):if(!decide c)=true then A else B:=by
 rw[Fx hc];exact iteF h
def Same(H H':Hp):Prop:=∀b o,H b=some o->H' b=some o
def Same.refl(H:Hp):Same H H:=λ_ _ h=>h
def Same.trans(a:Same H H1)(b:Same H1 H2):Same H H2:=λc o h=>b c o (a c o h)
theorem Same.free(e:Same H H')(h:H' l=Option.none):H l=Option.none:=by
 cases q:H l with
 |none=>rfl
 |some o =>
  rw[e l o q]at h;cases h
def Same.seq{a:Addr}(e:Same H H')(h:SqL K H a xs):SqL K H' a xs:=by
 rcases h with(h|⟨o,h⟩)|h
 .exact .inl (.inl (e _ _ h))
 .exact .inl (.inr ⟨o,e _ _ h⟩)
 .exact .inr h
end L2
namespace L2
open PySem
def Wx(cells:List (Str×Addr)):List (Str×E5)->List (Str×Addr)->List (Str×Addr)
 |[],acc=>acc
 |(n,k)::r,acc=>if k == .free then Wx cells r ((n,(cells.lookup n).getD 0)::acc)else Wx cells r acc
def Zjk(env:Env)(l:List (Str×E5))(acc:List (Str×Addr)):Sem (List (Str×Addr)):=do
 let mut cs:=acc
 for (name,kind) in l do
  if kind == .free then cs:=(name,<-cellOf env name)::cs
 return cs
theorem Py{env:Env}:∀(l:List (Str×E5))(acc:List (Str×Addr)),(∀y∈l,y.2=.free->∃c,env.cells.lookup y.1=some c) ->
  Zjk env l acc=pure (Wx env.cells l acc)
 |[],acc,_=>rfl
 |(n,k)::r,acc,h=>by
  let ih:=λacc=>Py r acc λy hy=>h y (Jk _ hy);unfold Zjk at ih⊢;rw[Wx];cases hk:(k==Ek)with
  |false =>
   simp only[Jft,hk,Gk,if_false,pure_bind]at ih⊢;exact ih acc
  |true =>
   let⟨c,hc⟩:=h (n,k) Jl (by simpa using hk);let hc':env.cells.lookup n=some c:=hc;simp only[Jft,hk,if_true,cellOf,hc',pure_bind,Li]at ih⊢;exact ih _
def Px{scope:Scope}{env:Env}(h:∀y∈scope.names,y.2=.free->∃c,env.cells.lookup y.1=some c):Jes scope env=pure (Wx env.cells scope.names []) :=
 Py scope.names [] h
theorem Tv{cells:List (Str×Addr)}{x:Str}{c:Addr}:∀{l:List (Str×E5)}{acc:List (Str×Addr)},(∀y∈l,y.2=.free->∃c,cells.lookup y.1=some c) ->
  (Wx cells l acc).lookup x=some c->acc.lookup x=some c\/cells.lookup x=some c
 |[],acc,_,h=>.inl h
 |(n,k)::r,acc,hl,h=>by
  rw[Wx]at h
  by_cases hk:(k==Ek)=true
  .rw[Fw hk]at h;let⟨c',hc⟩:=hl (n,k) Jl (by simpa using hk);let hc':cells.lookup n=some c':=hc;rcases Tv (λy hy=>hl y (Jk _ hy)) h with z|z
   .rw[G1,hc']at z;cases hx:(x==n)with
    |true =>
     rw[hx]at z;let e:x=n:=by simpa using hx
     subst e;let z':c'=c:=by simpa using z
     subst z';exact .inr hc'
    |false=>rw[hx]at z;exact .inl z
   .exact .inr z
  .rw[Fv hk]at h;exact Tv (λy hy=>hl y (Jk _ hy)) h
theorem Ui{cells:List (Str×Addr)}{x:Str}:∀{l:List (Str×E5)}{acc:List (Str×Addr)},(∃c,acc.lookup x=some c)->∃c,(Wx cells l acc).lookup x=some c
 |[],acc,h=>h
 |(n,k)::r,acc,h=>by
  rw[Wx]
  by_cases hk:(k==Ek)=true
  .rw[Fw hk];refine Ui ?_;rw[G1];cases hx:(x==n)with
   |true=>exact⟨_,rfl⟩
   |false=>exact h
  .rw[Fv hk];exact Ui h
theorem U6{cells:List (Str×Addr)}{x:Str}:∀{l:List (Str×E5)}{acc:List (Str×Addr)},(x,Ek)∈l->∃c,(Wx cells l acc).lookup x=some c
 |[],acc,h=>nomatch h
 |(n,k)::r,acc,h=>by
  rw[Wx];rcases Jt.mp h with e|h
  .cases e;rw[Fw (by rfl)];refine Ui ?_;rw[G1,beq_self_eq_true];exists ·
  .by_cases hk:(k==Ek)=true
   .rw[Fw hk];exact U6 h
   .rw[Fv hk];exact U6 h
def V8{scope:Scope}{env:Env}(nc:∀y∈scope.names,y.2≠.cell){x:Str}(h:(Jh6 scope env).names.lookup x=some .cell\/(Jh6 scope env).names.lookup x=some .free):(x,Ek)∈scope.names:=by
  let go:∀(l:List (Str×E5)),(∀y∈l,y.2≠.cell) ->
      ((l.map λ(n,k)=>if(k==Ek&&env.scope.kind == .function&&env.kindOf n==some .cell)then(n,Lo)else(n,k)).lookup x=some .cell \/
       (l.map λ(n,k)=>if(k==Ek&&env.scope.kind == .function&&env.kindOf n==some .cell)then(n,Lo)else(n,k)).lookup x=some .free)->(x,Ek)∈l:=by
    intro l
    induction l with
    |nil=>intro _ h;rcases h with h|h<;>cases h
    |cons a r ih =>
      let⟨n,k⟩:=a;intro nc h;let nck:k≠.cell:=nc (n,k) Jl;simp only[Jo]at h
      by_cases hx:(x==n)=true
      · let e:x=n:=by simpa using hx
        subst e
        by_cases hk:k=.free
        · subst hk;exact Jl
        · let hb:(k==Ek)=false:=by simpa using hk
          simp only[hb,B6,Gk,if_false,G1,beq_self_eq_true]at h;rcases h with h|h
          · exact Fl (Fz h) nck
          · exact Fl (Fz h) hk
      · let hx':(x==n)=false:=by simpa using hx
        refine Jk _ (ih (λy hy=>nc y (Jk _ hy)) ?_);let el:∀(p:Str×E5)(t:List (Str×E5)),p.1=n->(p::t).lookup x=t.lookup x:=by
          intro p t e;let⟨a,b⟩:=p;let e':a=n:=e;subst e';rw[G1,hx']
        rw[el _ _ (by split<;>rfl)]at h;exact h
  exact go scope.names nc h
def T4{scope:Scope}{env:Env}{x:Str}(h:(Jh6 scope env).names.lookup x=some .local):scope.names.lookup x=some .local:=by
 let go:∀(l:List (Str×E5)),
   (l.map λ(n,k)=>if(k==Ek&&env.scope.kind == .function&&env.kindOf n==some .cell)then(n,Lo)else(n,k)).lookup x=some .local->l.lookup x=some .local:=by
  intro l
  induction l with
  |nil=>intro h;cases h
  |cons a r ih =>
   let⟨n,k⟩:=a;intro h;simp only[Jo]at h
   by_cases hx:(x==n)=true
   .let e:x=n:=by simpa using hx
    subst e
    by_cases hc:(k==Ek&&env.scope.kind == .function&&env.kindOf x==some .cell)=true
    .rw[Fw hc,G1,beq_self_eq_true]at h;cases h
    .rw[Fv hc,G1,beq_self_eq_true]at h;rw[G1,beq_self_eq_true];exact h
   .let hx':(x==n)=false:=by simpa using hx
    let el:∀(p:Str×E5)(t:List (Str×E5)),p.1=n->(p::t).lookup x=t.lookup x:=by
     intro p t e;let⟨a,b⟩:=p;let e':a=n:=e;subst e';rw[G1,hx']
    rw[el _ _ (by split<;>rfl)]at h;rw[el _ _ rfl];exact ih h
 exact go scope.names h
end L2
namespace L2
open PySem PySem.Spec PyProof.Rows
def nbOf(N T:List Str)(cs:List Nat):List Str:=T++cs.map λi=>N.getD i Jd2
def sgOf(σ:St)(T:List Str)(cs:List Nat):St:=T.map (λ_=>none)++cs.map λi=>σ.getD i none
structure CScope(outer scope:Scope)(N T:List Str)(cs:List Nat):Prop where
 kind:scope.kind=.function
 nocell:∀y∈scope.names,y.2≠.cell
 names:∀y∈scope.names,y.2=.local->scope.names.lookup y.1=some .local
 free:∀y∈scope.names,y.2=.free->outer.names.lookup y.1=some .cell\/outer.names.lookup y.1=some .free
 cap:∀i∈cs,scope.names.lookup (N.getD i Jd2)≠some .local
def Zjh(outer scope:Scope)(N:List Str)(cs:List Nat):Bool :=
 decide (scope.kind=.function)&&(scope.names.all (λy=>!decide (y.2=Lo))&&(scope.names.all (λy=>!decide (y.2=E5.local) ||decide (scope.names.lookup y.1=some E5.local)) &&
  (scope.names.all (λy=>!decide (y.2=Ek) ||(decide (outer.names.lookup y.1=some Lo) ||decide (outer.names.lookup y.1=some Ek)))&&cs.all (λi=>!decide (scope.names.lookup (N.getD i Jd2)=some E5.local)))))
def CScope.ok{outer scope:Scope}(h:Zjh outer scope N cs=true):CScope outer scope N T cs:=by
 unfold Zjh at h;simp only[G6,List.all_eq_true,Bool.or_eq_true,decide_eq_true_eq,Kf,decide_eq_false_iff_not]at h;let⟨h1,h2,h3,h4,h5⟩:=h;exists h1,h2,λy hy e=>(h3 y hy).resolve_left (λq=>q e),λy hy e=>(h4 y hy).resolve_left (λq=>q e),h5
def Yw{l:List Str}(h:decide l.Nodup=true):l.Nodup:=Fk h
def blk(X:Cx)(T:List Str)(cs:List Nat)(scope:Scope)(C:Addr)(s₀:Cc)(H₀:Hp)(ex:List Addr):Cx where
 prog:=X.prog
 w:=X.w
 K:=X.K
 mg:=X.mg
 base:=X.base
 A:=X.A
 N:=nbOf X.N T cs
 s₀:=s₀
 H₀:=H₀
 env:=compEnvC scope (Wx X.env.cells scope.names []) C X.env
 outer:=X.stack
 stack:=X.stack
 ex:=ex
 fn:=λ_=>false
 calm:=X.calm
 pn:=[]
 xe:=λ_ _=>False
section
variable{scope:Scope} 
def Inv.hl(I:Inv X pq σ H s)(S:CScope X.env.scope scope X.N T cs):∀y∈scope.names,y.2=.free->∃c,X.env.cells.lookup y.1=some c :=
 λy hy e=>I.ok.has y.1 (S.free y hy e)
def Inv.clo(I:Inv X pq σ H s)(S:CScope X.env.scope scope X.N T cs){x:Str}{c:Addr}(h:(Wx X.env.cells scope.names []).lookup x=some c):X.env.cells.lookup x=some c :=
 (Tv (I.hl S) h).resolve_left (by simp)
theorem Zpn(I:Inv X pq σ H s)(S:CScope X.env.scope scope X.N T cs)(hf:∀b∈fp,FpOk X pq H b)(hfe:∀b∈fp,∃o,s.heap.get? b=some o){h1:Heap}{m:Str->Option Ca}{tk:Nat}(hC:s.heap.objs.size<=C)(ns:h1.Ns C m)(k:∀b o,s.heap.get? b=some o->h1.get? b=some o) :
  Inv (blk X T cs scope C s H fp) [] (sgOf σ T cs) H {s with heap:=h1,toks:=tk}:=by
 let fr:H C=none:=I.hok.fresh hC;let cellS:∀{c:Addr}{v:Option Ca},s.heap.IsCell c v->h1.IsCell c v:=λ⟨o,e,d⟩=>⟨o,k _ o e,d⟩;refine⟨⟨I.ok.mod,S.kind,I.ok.glob,I.ok.blt,hC,λx y c e1 e2=>I.ok.inj x y c (I.clo S e1) (I.clo S e2),λx hx=>U6 (V8 S.nocell hx),λx c h _=>Fl (show false=true from h) Jr,
  I.ok.hd,I.ok.frames,.inl rfl,λb hb=>⟨?_,λx c e=>(hf b hb).2.2.2.2.1 x c (I.clo S e)⟩,I.bs,Jy I.ok.bsz I.sz,λb o e hb=>?_,λb hb z=>?_,I.stack,I.stkFree⟩,
  rfl,I.bare,Un.kept k,⟨m,ns,λi x v h1' h2' h3'=>?_⟩,λx c e=>?_,fr,λx c e=>I.freeC x c (I.clo S e),λp hp=>Fl (show p∈([]:List (Addr×Obj))from hp) (by simp),I.hok.kept k,?_⟩
 .let⟨o,e⟩:=hfe b hb;exact Gd (Ga (Fu e) hC)
 .rcases(hf b hb).2.2.2.1 with z|z
  .exact I.ok.noex b o e z
  .exact Fl (Ga (Ga (Fu e) I.ok.bsz) z) (G5 _)
 .rcases Jt.mp (I.stkSub b z)with e|e
  .exact(hf b hb).2.1 e
  .exact(hf b hb).2.2.1 e
 .let h2:(sgOf σ T cs)[i]?=some (some v):=h2';let h1'':(nbOf X.N T cs)[i]?=some x:=h1';unfold sgOf at h2;unfold nbOf at h1''
  by_cases hi:i<T.length
  .rw[J0 (by simpa using hi),Jq]at h2;cases e:T[i]? with
   |none=>rw[e]at h2;cases h2
   |some a=>rw[e]at h2;cases h2
  .rw[Go (by simpa using hi),Jq,Ja]at h2;rw[Go (),Jq]at h1'';cases e:cs[i-T.length]? with
   |none=>rw[e]at h2;cases h2
   |some c0 =>
    rw[e]at h2 h1'';let ex:X.N.getD c0 Jd2=x:=Fz h1'';let ev:σ.getD c0 none=some v:=Fz h2;let eσ:σ[c0]?=some (some v):=by
     rw[Jx]at ev;cases q:σ[c0]? with
     |none=>rw[q]at ev;cases ev
     |some z=>rw[q]at ev;exact congrArg some ev
    let hlt:c0<X.N.length:=by
     let:=(Jj.mp eσ).1;rw[I.len]at this;exact this
    let eN:X.N[c0]?=some x:=by
     rw[Jx,Jb hlt]at ex;rw[Jb hlt];exact congrArg some ex
    let hfree:(x,Ek)∈scope.names:=by
     rcases h3' with z|z|z
     .exact Fl (T4 z) (by rw[<-ex];exact S.cap c0 (Gq e))
     .exact V8 S.nocell (.inl z)
     .exact V8 S.nocell (.inr z)
    let ok:=S.free _ hfree rfl;let⟨m',hn',hl'⟩:=I.loc;let⟨u,r,l⟩:=hl' c0 x v eN eσ (.inr ok);exists u,r,?_;rcases l with⟨kd,_⟩|⟨_,c,ec,z⟩
    .let kd':X.env.scope.names.lookup x=some .local:=kd;rcases ok with q|q<;>(rw[show X.env.scope.names.lookup x=_ from q]at kd';cases kd')
    .let⟨c',ec'⟩:=U6 (cells:=X.env.cells) (acc:=[]) hfree;let:c'=c:=by
      let q:=I.clo S ec';rw[ec]at q;exact(Fz q).symm
     subst this;refine .inr ⟨?_,c',ec',cellS z⟩;rcases h3' with q|q|q
     .exact Fl (T4 q) (by rw[<-ex];exact S.cap c0 (Gq e))
     .exact .inl q
     .exact .inr q
 .let⟨v,z⟩:=I.cell x c (I.clo S e);exists v,cellS z
 .show(sgOf σ T cs).length=(nbOf X.N T cs).length;simp[sgOf,nbOf]
def Inv.track{D:Addr}{n:Nat}(I:Inv X pq σ H s)(hD:s.heap.get? D=some {cls:=.type "list",data:=.seq its.toArray n})(f:FpOk X pq H D)(rv:Vals ys its)(hz:ys.length<=Cb) :
  Inv X pq σ (upd H D (.lst ys)) s:=by
 let⟨f0,f1,f2,f3,f4,f5⟩:=f;let hok:HOk X.prog X.w (upd H D (.lst ys)) s.heap:=λb u e=>by
  by_cases hb:b=D
  .subst hb;rw[Zh]at e;cases e;exists hz,its,n,rv,hD
  .rw[Zo hb]at e;exact(I.hok b u e).stay (λ_ _ _ q=>q) (λc q=>by rw[Zo (Zq q f0)];exact q) λc xs q=>by rw[Zo (Zq q f0)];exact q
 let st:=I.step (H':=upd H D (.lst ys)) (h':=s.heap) (g':=s.gens) (t':=s.toks) (d':=s.drawn) (ch:=[D])
  (λb hb=>by
   let e:b=D:=by simpa using hb
   subst e;exact⟨f3,f1,f4,f5⟩)
  (λb o _ _ _ e _=>e) (λb o _ _ _ e _=>⟨o.slots,e⟩) (λb o hc e n=>by rw[Zo (λz=>hc (by simp[z]))];exact n) (λb o _ e=>⟨o,e⟩)
  (λb xs e=>by rw[Zo (Zq e f0)];exact e) (λb o u e=>by rw[Zo (Zq e f0)];exact e) (λb ps e=>⟨#[],by rw[Zo (Zq e f0),e];simp⟩) (λm h=>h) hok I.bare
 exact st
end
section
variable{R:Jc0->Cc->Prop} 
abbrev Zgi(ifs:List Expr)(env:Env):Sem Bool:=forIn ifs true λc r=>if r=true then do let ok <-isTrue c env (eval c env);pure (Jfu ok)else pure (Jfu r)
theorem Zbp{elt target iter:Expr}{ifs:List Expr}{scope:Scope}{it acc:Ca}{env:Env}(I:Nat->Cc->Prop)(turn:∀n s,I n s->Cd (Ck prog w) A (Lx it) (λr s₁=>match r with
   |none=>R (.ok .next) s₁
   |some v=>Cd (Ck prog w) A (Ly target it v) (λ_ s₂=>Cd (Ck prog w) A (Je0 target env v) (λ_ s₃ =>
     Cd (Ck prog w) A (Zgi ifs env) (λok s₄ =>
      if ok=true then Cd (Ck prog w) A (eval elt env) (λx s₅ =>
       Cd (Ck prog w) A (call (.builtin "list.append") [acc,x]) (λ_ s₆=>∃m,m<n/\I m s₆) (λ_ _=>False) s₅) (λ_ _=>False) s₄
      else ∃m,m<n/\I m s₄) (λ_ _=>False) s₃) (λ_ _=>False) s₂) (λ_ _=>False) s₁) (λ_ _=>False) s)(n:Nat)(h:I n s) :
  Ho (Ck prog w) A (.compLoop (.ListComp elt [⟨target,iter,ifs,0⟩] scope pos) 0 it acc env) R s:=by
 refine codeAny_loop rfl I (λn s hI=>?_) n h;show Cd _ A ((compTurn (.ListComp elt [⟨target,iter,ifs,0⟩] scope pos) 0 it acc env).onRaise (λx=>do Jc3 x env;theTreesLotGoes x)) _ _ s;refine wpAny_noted ?_;rw[compTurn_list];refine Fo (E7 (Fo (F7 (turn n s hI) (λr s₁ h₁=>?_) λ_ _ h'=>Cq h')));cases r with
 |none=>exact Fp h₁
 |some v =>
  refine Fo (F7 h₁ (λ_ s₂ h₂=>?_) λ_ _ h'=>Cq h');refine Fo (F7 h₂ (λ_ s₃ h₃=>Fo (F7 h₃ (λok s₄ h₄=>?_) λ_ _ h'=>Cq h')) λ_ _ h'=>Cq h');cases ok with
  |false=>exact Fp ⟨rfl,h₄⟩
  |true =>
   exact Fo (Fo (F7 h₄ (λx s₅ h₅=>Fo (F7 h₅ (λ_ s₆ h₆=>Fp (Fp ⟨rfl,h₆⟩)) λ_ _ h'=>Cq h')) λ_ _ h'=>Cq h'))
end
def PTs(X:Cx)(ifs:List Expr)(t:TT):Prop :=
 ∀(pq:List (Addr×Obj))(s:Cc)(σ:St)(H:Hp)(Q:Bool->Hp->Prop),Inv X pq σ H s->t σ H Q->Cd (Ck X.prog X.w) X.A (Zgi ifs X.env) (TP X pq σ Q) X.xe s
def Zrm:TT:=λ_ H Q=>Q true H
def Yo :PTs X [] Zrm:=λpq s σ H Q I h=>wpAny_tests_nil ⟨H,I,h⟩
def Vc{c:Expr}{t:TT}(hc:PT X c t):PTs X [c] t:=λpq s σ H Q I h=>wpAny_tests_one (hc pq s σ H Q I h)
def Ag(n:Nat)(σ σ0:St):Prop:=σ.length=σ0.length/\∀i,n<=i->σ[i]?=σ0[i]?
def Zb4(g:TG)(n:Nat):Prop:=∀σ0 x σ H R,Ag n σ σ0->g x σ H R->g x σ H λσ2 H2=>R σ2 H2/\Ag n σ2 σ0
def Zag(g:TGs)(n:Nat):Prop:=∀σ0 xs σ H R,Ag n σ σ0->g xs σ H R->g xs σ H λσ2 H2=>R σ2 H2/\Ag n σ2 σ0
theorem Ag.set{n:Nat}{σ0:St}(a:Ag n σ σ0)(h:i<n)(v:Option V):Ag n (σ.set i v) σ0 :=
 ⟨by rw[Gs];exact a.1,λj hj=>(Gx ()).trans (a.2 j hj)⟩
def Ym{n:Nat}(h:i<n):Zb4 (Zc2 i) n:=λσ0 x σ H R a q=>⟨q,a.set h _⟩
def Vu{n:Nat}:Zag gNil n:=λσ0 xs σ H R a q=>⟨q.1,q.2,a⟩
def Yl{n:Nat}{u:TGs}(h:i<n)(h2:Zag u n):Zag (Zpu (Zc2 i) u) n:=λσ0 xs σ H R a q=>by
 let⟨v,r,e,q⟩:=q;exists v,r,e,h2 σ0 r _ _ _ (a.set h _) q
def Sc{m n:Nat}{t:TGs}(h:Zag t n):Zb4 (gTup K m t) n:=λσ0 x σ H R ag q=>by
 let⟨a,xs,e,hq,hl,q⟩:=q;exists a,xs,e,hq,hl,h σ0 xs σ H R ag q
section
variable{scope:Scope}{elt iter:Expr}{ifs:List Expr}{tt:TT} 
theorem Zbo{RR:Ca->Addr->Jc0->Cc->Prop}{Fin:List V->Hp->Prop}{J:It}{tn:Nat->Heap->Prop}(I:Inv X pq σ H s)(hc:X.calm=true)(S:CScope X.env.scope scope X.N T cs)(Tn:Turn X.prog X.w X.K tg J fp it tn)(st:tn 0 s.heap)(hf:∀b∈fp,FpOk X pq H b)(hg:∀C s₀ H₀ ex,PG (blk X T cs scope C s₀ H₀ ex) tg g)(ht:∀C s₀ H₀ ex,PTs (blk X T cs scope C s₀ H₀ ex) ifs tt)(he:∀C s₀ H₀ ex,PE (blk X T cs scope C s₀ H₀ ex) elt te)(hk:Zb4 g T.length)(W:Nat->Nat->List V->Hp->Prop)(w0:∃m,W 0 m [] H)(turn:∀i m ys H,W i m ys H->(J.stop i H/\ys.length<=Cb/\Fin ys H)\/(J.go i H/\ys.length<Cb/\∃N:List V->Hp->Prop,(∀ys' H',N ys' H'->∃m',m'<m/\W (i+1) m' ys' H') /\
   ∀x H',J.yld i H x H'->g x (sgOf σ T cs) H' λσ2 H2=>tt σ2 H2 λb H3=>if b=true then te σ2 H3 λy H4=>N (ys++[y]) H4 else N ys H3))(fin:∀(D C:Addr)(s':Cc)(m:Str->Option Ca)(ys:List V)(H':Hp),Fin ys H'->H' D=none->s'.heap.Ns C m->FpOk X pq H' C->C≠D->Inv X pq σ (upd H' D (.lst ys)) s'->RR (.ref D) C (.ok .next) s') :
  Cd (Ck X.prog X.w) X.A (newList []) (λacc s₃=>Cd (Ck X.prog X.w) X.A (newFunctionEnv scope X.env.globals (Wx X.env.cells scope.names []) [] X.env.qual none .none (some X.env)) (λcenv s₄ =>
   Ho (Ck X.prog X.w) X.A (.compStart (.ListComp elt [⟨tg,iter,ifs,0⟩] scope pos) 0 (.ref it) acc {cenv with scope:=Jh6 scope X.env}) (RR acc cenv.locals) s₄) E s₃) E s:=by
 refine Hh (wpAny_newFunctionEnv S.nocell (by intro y hy;simp at hy) (λh₁ hns₁ hsb₁=>?_) S.kind);dsimp only at hns₁ hsb₁⊢;generalize hH2:s.heap.push {cls:=.type "list",dict:=none,data:=.seq ([]:List Ca).toArray}=H2 at hns₁ hsb₁⊢;let hCe:H2.objs.size=s.heap.objs.size+1:=by rw[<-hH2,El]
 let hDC:s.heap.objs.size≠H2.objs.size:=by rw[hCe];exact Gd (Bc _)
 let hCle:s.heap.objs.size<=H2.objs.size:=by rw[hCe];exact G2 _
 let old:∀b o,s.heap.get? b=some o->h₁.get? b=some o:=λb o e =>
  hsb₁.extBut b o (by rw[hCe];exact Gd (Mq (Fu e))) (Fs _ (hH2 ▸ Fs _ e))
 let hacc:h₁.get? s.heap.objs.size=some {cls:=.type "list",data:=.seq ([]:List Ca).toArray 0}:=hsb₁.extBut _ _ hDC (Fs _ (hH2 ▸ Ft _ rfl));let hfe:∀b∈fp,∃o,s.heap.get? b=some o:=λb hb=>let⟨o,e,_⟩:=Tn.obj _ _ st b hb;⟨o,e⟩
 let hlt:∀b∈fp,b<s.heap.objs.size:=λb hb=>let⟨o,e⟩:=hfe b hb;Fu e
 let st₁:tn 0 h₁:=Tn.keep _ _ _ st λb _ o e=>old b o e;generalize hDD:s.heap.objs.size=D at *
 generalize hCC:H2.objs.size=C at *
 let hnD:H D=none:=I.hok.fresh (Bq hDD);let stat:∀{H':Hp}{its:List Ca}{n:Nat},(∀b∈fp,H' b=none)->∀b∈fp,FpOk (blk X T cs scope C s H fp) [(D,({cls:=.type "list",data:=.seq its.toArray n}:Obj))] H' b:=λhn b hb=>by
  let⟨f0,f1,f2,f3,f4,f5⟩:=hf b hb;exists hn b hb,Gd (Ga (hlt b hb) hCle),λz=>?_,.inl hb,λx c e=>f4 x c (I.clo S e),λp hp z=>?_
  .rcases Jt.mp (I.stkSub b z)with e|e
   .exact f1 e
   .exact f2 e
  .let e:p.1=D:=by
    rcases J9.mp hp with q|q
    .exact Fl (show p∈([]:List (Addr×Obj))from q) (by simp)
    .rw[Jg.mp q]
   exact Fl (hlt b hb) (by rw[<-z,e];exact G5 _)
 let loop:∀tk:Nat,Ho (Ck X.prog X.w) X.A (.compLoop (.ListComp elt [⟨tg,iter,ifs,0⟩] scope pos) 0 (.ref it) (.ref D) (compEnvC scope (Wx X.env.cells scope.names []) C X.env)) (RR (.ref D) C) {s with heap:=h₁,toks:=tk}:=by
  intro tk;let I1:Inv (blk X T cs scope C s H fp) [] (sgOf σ T cs) H {s with heap:=h₁,toks:=tk}:=Zpn I S hf hfe (by rw[hDD];exact hCle) hns₁ old;let⟨m0,w0⟩:=w0;let pinD:∀{σ':St}{H':Hp}{s':Cc}{its:List Ca}{n:Nat}{pl:List (Addr×Obj)},Inv (blk X T cs scope C s H fp) pl σ' H' s'->s'.heap.get? D=some {cls:=.type "list",data:=.seq its.toArray n}->H' D=none ->
    Inv (blk X T cs scope C s H fp) [(D,({cls:=.type "list",data:=.seq its.toArray n}:Obj))] σ' H' s':=λ{σ' H' s' its n pl}J e hn=>J.pins_of λp hp=>by
   obtain rfl:=Jg.mp hp;refine⟨e,hn,hDC,λz=>?_,λv q=>by cases q⟩;let z':D∈frs X.stack:=z;let⟨_,o,ho,_⟩:=I.stack.mem z';exact Fl (Fu ho) (by rw[hDD];exact G5 _)
  refine Zbp (λn s'=>∃(i:Nat)(ys:List V)(its:List Ca)(k:Nat)(H':Hp),Inv (blk X T cs scope C s H fp) [(D,({cls:=.type "list",data:=.seq its.toArray k}:Obj))] (sgOf σ T cs) H' s'/\Vals ys its/\tn i s'.heap/\(∀b∈fp,H' b=none)/\W i n ys H') ?_ m0
   ⟨0,[],[],0,H,pinD I1 hacc hnD,.nil,st₁,λb hb=>(hf b hb).1,w0⟩
  rintro n s1 ⟨i,ys,its,k,H1,J1,rv,st1,fr1,w1⟩;rcases turn i n ys H1 w1 with⟨stop,hz,fq⟩|⟨go,hz,N,hN,step⟩
  .refine F7 (Tn.done (blk X T cs scope C s H fp) rfl rfl rfl hc i _ s1 _ H1 (λ_ _=>False) J1 (stat fr1) st1 stop) (λr s2 hz=>?_) λ_ _ z=>z;let⟨hr,J2⟩:=hz;subst hr;let⟨eD,nD,_⟩:=J2.pin (D,({cls:=.type "list",data:=.seq its.toArray k}:Obj)) (Js _ (Jg.mpr rfl));let J3:Inv X pq σ H1 s2:=I.call' (ch:=fp) J2.os J2.base J2.hok J2.bare λb hb=>by
    let⟨f0,f1,f2,f3,f4,f5⟩:=hf b hb;exists f3,f1,f4,f5
   let⟨mC,hnC,_⟩:=J2.loc;let fC:FpOk X pq H1 C:=I.fpOk (by rw[hDD];exact hCle) J2.free;let fD:FpOk X pq H1 D:=I.fpOk (Bq hDD) nD;exact fin D C s2 mC ys H1 fq nD hnC fC (Ee hDC) (J3.track eD fD rv hz)
  .refine F7 (Tn.item (blk X T cs scope C s H fp) rfl rfl rfl hc i _ s1 _ H1 (λ_ _=>False) J1 (stat fr1) st1 go) (λr s2 hz=>?_) λ_ _ z=>z;let⟨u,hr,h2⟩:=hz;subst hr;refine F7 h2 (λ_ s3 hz=>?_) λ_ _ z=>z;let⟨x,H3,J3,r3,y3,st3,fr3⟩:=hz;let J3':=J3.pinned (stat fr3) (Tn.obj _ _ st3);refine F7 (hg C s H fp _ s3 _ H3 x u _ J3' r3 (hk (sgOf σ T cs) x _ H3 _ ⟨rfl,λ_ _=>rfl⟩ (step x H3 y3))) (λ_ s4 hz=>?_) λ_ _ z=>z;let⟨σ4,H4,J4,q4,l4,k4⟩:=hz;refine F7 (ht C s H fp _ s4 σ4 H4 _ J4 q4) (λb s5 hz=>?_) λ_ _ z=>z;let⟨H5,J5,q5⟩:=hz;let wk:∀{pl:List (Addr×Obj)}{H':Hp}{s':Cc},Inv (blk X T cs scope C s H fp) pl σ4 H' s'->Inv (blk X T cs scope C s H fp) pl (sgOf σ T cs) H' s':=λJ=>J.weak l4.symm λj v e=>by
    by_cases hj:T.length<=j
    .rw[k4 j hj];exact e
    .exfalso
     unfold sgOf at e;rw[J0 (by simp;lia),Jq]at e;cases q:T[j]? with
     |none=>rw[q]at e;cases e
     |some a=>rw[q]at e;cases e
   let tnk:∀{H':Hp}{s':Cc}{σ':St},Inv (blk X T cs scope C s H fp) ([(D,({cls:=.type "list",data:=.seq its.toArray k}:Obj))]++Zay fp s3.heap) σ' H' s'->tn (i+1) s'.heap/\∀b∈fp,H' b=none:=λ{H' s' σ'}J=>by
    exists Tn.keep _ _ _ st3 λb hb o e=>(J.pin (b,o) (Js _ (Js _ (U4 hb e)))).1,λb hb=>?_;let⟨o,e,d⟩:=Tn.obj _ _ st3 b hb;exact(J.pin (b,o) (Js _ (Js _ (U4 hb e)))).2.1
   cases b with
   |false =>
    rw[Fv Jr]at q5⊢;let⟨m',hm,w5⟩:=hN _ _ q5;let⟨t5,f5⟩:=tnk J5;exists m',hm,i+1,ys,its,k,H5,wk J5.unpinned,rv,t5,f5,w5
   |true =>
    rw[Fw rfl]at q5⊢;refine F7 (he C s H fp _ s5 σ4 H5 _ J5 q5) (λuy s6 hz=>?_) λ_ _ z=>z;let⟨y,H6,J6,ry,n6⟩:=hz;let⟨m',hm,w6⟩:=hN _ _ n6;let⟨t6,f6⟩:=tnk J6;let⟨eD,nD,_⟩:=J6.pin (D,({cls:=.type "list",data:=.seq its.toArray k}:Obj)) (Js _ (Gw _ (Jg.mpr rfl)));let hsz:its.toArray.size<=Cb:=by rw[Jm,<-rv.length];lia
    refine append_at (hsz:=hsz) eD λh7 sb hD7=>?_;let J6':Inv (blk X T cs scope C s H fp) [] σ4 H6 s6:=J6.pins_of λp hp=>Fl hp (by simp);let J7:Inv (blk X T cs scope C s H fp) [] σ4 H6 {s6 with heap:=h7}:=J6'.turned (t':=s6.toks) (it:=D) (λb o hb e=>(sb.2 b hb).trans e) nD hDC (.inr (Bq hDD))
     (λx c e z=>by
      let⟨v,q⟩:=I.cell x c (I.clo S e);exact Fl q.lt (by rw[z,hDD];exact G5 _))
     (λp hp=>Fl hp (by simp[blk]))
    let hD7':h7.get? D=some {cls:=.type "list",data:=.seq (its++[uy]).toArray (k+1)}:=by
     rw[hD7,Jet]
    exists m',hm,i+1,ys++[y],its++[uy],k+1,H6,wk (pinD J7 hD7' nD),rv.append (.cons ry .nil),Tn.keep _ _ _ t6 λb hb o e=>(sb.2 b (Gd (hlt b hb))).trans e,f6,w6
 exact codeAny_compStart_list (loop _) (Tn.self _ 0 _ _ _ st₁ (loop _))
def Zgn(wi:TI)(g:TG)(tt:TT)(te:TE)(T:List Str)(cs:List Nat):TE:=λσ H Q=>wi σ H λJ H1=>∃W:Nat->Nat->List V->Hp->Prop,(∃m,W 0 m [] H1) /\
 ∀i m ys H,W i m ys H->(J.stop i H/\ys.length<=Cb/\∀p,H p=none->Q (.ref p) (upd H p (.lst ys)))\/(J.go i H/\ys.length<Cb/\∃N:List V->Hp->Prop,(∀ys' H',N ys' H'->∃m',m'<m/\W (i+1) m' ys' H') /\
  ∀x H',J.yld i H x H'->g x (sgOf σ T cs) H' λσ2 H2=>tt σ2 H2 λb H3=>if b=true then te σ2 H3 λy H4=>N (ys++[y]) H4 else N ys H3)
def Yv(hc:X.calm=true)(S:CScope X.env.scope scope X.N T cs)(hi:PI X tg iter wi)(hg:∀C s₀ H₀ ex,PG (blk X T cs scope C s₀ H₀ ex) tg g)(ht:∀C s₀ H₀ ex,PTs (blk X T cs scope C s₀ H₀ ex) ifs tt)(he:∀C s₀ H₀ ex,PE (blk X T cs scope C s₀ H₀ ex) elt te)(hk:Zb4 g T.length)(hs:∀x,Mm iter X.env x=pure x:=by intro _;rfl):PE X (.ListComp elt [⟨tg,iter,ifs,0⟩] scope pos) (Zgn wi g tt te T cs):=by
 intro pq s σ H Q I h;rw[eval_ListComp];refine Mr (use:=none) rfl hs (Px (I.hl S)) S.kind S.names (thn (hi pq s σ H _ I h) λv s1 h1=>thn h1 λitv s2 h2=>?_);let⟨it,fp,tn,J,H2,e,I2,Tn,st,hf,W,w0,turn⟩:=h2;subst e;refine Zbo (RR:=λacc C=>compPost (Ck X.prog X.w) X.A X.xe none (EP X pq σ Q) acc C) (Fin:=λys H=>∀p,H p=none->Q (.ref p) (upd H p (.lst ys))) I2 hc S Tn st hf hg ht he hk W w0 turn ?_;intro D C s' m ys H' q nD hn fC hCD I';exists m,hn,λh' sb=>⟨.ref D,_,I'.turned (t':=s'.toks) (it:=C) (λb o hb e=>(sb.2 b hb).trans e) ?_ fC.2.1 fC.2.2.2.1 fC.2.2.2.2.1 fC.2.2.2.2.2,rfl,q D nD⟩
 rw[Zo hCD];exact fC.1
def Wi{y:Str}{py spos:Pos}(hN:X.N.Nodup)(hy:X.N[i]?=some y)(hl:X.env.scope.names.lookup y=some .local)(hc:X.calm=true)(S:CScope X.env.scope scope X.N T cs)(hi:PI X tg iter wi)(hg:∀C s₀ H₀ ex,PG (blk X T cs scope C s₀ H₀ ex) tg g)(ht:∀C s₀ H₀ ex,PTs (blk X T cs scope C s₀ H₀ ex) ifs tt)(he:∀C s₀ H₀ ex,PE (blk X T cs scope C s₀ H₀ ex) elt te)(hk:Zb4 g T.length)(hs:∀x,Mm iter X.env x=pure x:=by intro _;rfl)(hsw:Mj (.ListComp elt [⟨tg,iter,ifs,0⟩] scope pos) (some (.Name y py)) spos.line X.env=pure true:=by rfl):PS X (.Assign [.Name y py] (.ListComp elt [⟨tg,iter,ifs,0⟩] scope pos) spos) (tAsg (Zgn wi g tt te T cs) (Zc2 i)):=by
 intro pq s σ H D I h;rw[exec_Assign_Name_used _ _ _ _ hsw];refine Fo (E7 (Fo ?_));show Cd _ X.A (do let _ <-comprehension (.ListComp elt [⟨tg,iter,ifs,0⟩] scope pos) scope X.env _ (newList []) false (eval iter X.env) (some (Je0 (.Name y py) X.env))) _ _ s;refine Fo (F7 (Mr (use:=some (Je0 (.Name y py) X.env)) (Q:=λ_ s'=>SP X pq D .next s') rfl hs (Px (I.hl S)) S.kind S.names
  (thn (hi pq s σ H _ I h) λv s1 h1=>thn h1 λitv s2 h2=>?_)) (λ_ s' hq=>Fp (Fp hq)) λ_ _ e=>e)
 let⟨it,fp,tn,J,H2,e,I2,Tn,st,hf,W,w0,turn⟩:=h2;subst e;refine Zbo (RR:=λacc C=>compPost (Ck X.prog X.w) X.A X.xe (some (Je0 (.Name y py) X.env)) (λ_ s'=>SP X pq D .next s') acc C) (Fin:=λys H=>∀p,H p=none->Zc2 i (.ref p) σ (upd H p (.lst ys)) D.nx) I2 hc S Tn st hf hg ht he hk W w0 turn ?_;intro B C s' m ys H' q nB hn fC hCB I';show Cd _ X.A (Je0 (.Name y py) X.env (.ref B)) _ _ s';refine Jei (Zap (v:=.ref B) I' hN hy (.inl hl) rfl (λs'' I'' hz=>?_) (.inr hl));let⟨a,sb,ha⟩:=hz;let nC:C≠a:=by
  rcases ha with z|z
  .rw[z];exact fC.2.1
  .exact Ee (fC.2.2.2.2.1 y a z)
 exists m,hn.sameBut sb nC,λh' sb'=>⟨_,_,I''.turned (t':=s''.toks) (it:=C) (λb o hb e=>(sb'.2 b hb).trans e) ?_ fC.2.1 fC.2.2.2.1 fC.2.2.2.2.1 fC.2.2.2.2.2,q B nB⟩;rw[Zo hCB];exact fC.1
end
theorem Vw{J:It}{n:Nat}{tt:TT}{σB:St}{F:List V->Hp->Prop}(Pv:Nat->List V->Hp->Prop)(h0:Pv 0 [] H1)(hn:∀i ys H,Pv i ys H->ys.length<=i)(hz:n<=Cb)(hgo:∀i ys H,i<n->Pv i ys H->J.go i H)(hstop:∀ys H,Pv n ys H->J.stop n H)(hs:∀i ys H,i<n->Pv i ys H->∀x H',J.yld i H x H'->g x σB H' λσ2 H2=>tt σ2 H2 λb H3=>if b=true then te σ2 H3 λy H4=>Pv (i+1) (ys++[y]) H4 else Pv (i+1) ys H3)(hd:∀ys H,Pv n ys H->F ys H) :
  ∃W:Nat->Nat->List V->Hp->Prop,(∃m,W 0 m [] H1)/\∀i m ys H,W i m ys H->(J.stop i H/\ys.length<=Cb/\F ys H)\/(J.go i H/\ys.length<Cb/\∃N:List V->Hp->Prop,(∀ys' H',N ys' H'->∃m',m'<m/\W (i+1) m' ys' H') /\
   ∀x H',J.yld i H x H'->g x σB H' λσ2 H2=>tt σ2 H2 λb H3=>if b=true then te σ2 H3 λy H4=>N (ys++[y]) H4 else N ys H3):=by
 exists λi m ys H=>m=n-i/\i<=n/\Pv i ys H,⟨n,rfl,Ju _,h0⟩,?_;rintro i m ys H ⟨rfl,hi,p⟩;let hl:=hn i ys H p
 by_cases hlt:i<n
 .exact .inr ⟨hgo i ys H hlt p,(),Pv (i+1),λys' H' q=>⟨n-(i+1),(),rfl,hlt,q⟩,hs i ys H hlt p⟩
 .let e:i=n:=by lia
  subst e;exact .inl ⟨hstop ys H p,(),hd ys H p⟩
section
def Zvs(K:Cr):V->V->Hp->VK->Prop:=λo i H Q=>∃p xs k v,o=.ref p/\i=.int ((k:Nat):Int)/\SqL K H p xs/\xs[k]?=some v/\Q v H
theorem Zhp:PGet X (Zvs X.K):=by
 intro pq s σ H o i ov iv Q I ro ri h;let⟨p,xs,k,v,rfl,rfl,hq,hx,q⟩:=h;cases ro;let⟨t,rfl⟩:=ri;let⟨its,rv,pl,hz⟩:=I.list hq;let⟨u,hu,ru⟩:=rv.get hx;let hk:k<xs.length:=(Jj.mp hx).1;let hn:=Pq;exact wpAny_getItem_list pl.isList () () (by simpa using hu) ⟨v,H,I,ru,q⟩
theorem Vals.bl_get{bs:List Bool}(r:Vals (bs.map V.bl) us){v:Ca}(e:us[i]?=some v):∃b,bs[i]?=some b/\v=.bool b:=by
 let hi:i<us.length:=(Jj.mp e).1;let hl:=r.length;rw[Ja]at hl;let hb:i<bs.length:=by lia
 let eb:(bs.map V.bl)[i]?=some (V.bl bs[i]):=by rw[Jq,Jb hb];rfl
 let⟨u,hu,ru⟩:=r.get eb;rw[e]at hu;cases hu;exists bs[i],Jb hb,ru
def Zt9(bs:List Bool):((Cv bs.length).any λi=>(bs[i]?).getD false)=bs.any id:=by
 rw[Fd];simp only[B8,Bs,id]
 constructor
 .rintro⟨i,hi,e⟩;rw[Jb hi]at e;exists _,Jn hi,e
 .rintro⟨b,hb,e⟩;let⟨i,hi,e'⟩:=List.mem_iff_getElem.mp hb;exists i,hi,?_;rw[Jb hi,e'];exact e
def Zl1(hc:X.calm=true):Wr X (.builtin "any") (λxs H Q=>∃(p:Addr)(bs:List Bool),xs=[.ref p]/\SqL X.K H p (bs.map V.bl)/\Q (.bl (bs.any id)) H):=by
 intro pq s σ H xs us Q I r h;let⟨p,bs,rfl,hq,q⟩:=h;let⟨u,rfl,ru⟩:=Tl r;cases ru;let⟨its,rv,pl,hz⟩:=I.list hq;let hlen:=rv.length;rw[Ja]at hlen;let hlt:p<s.heap.objs.size:=by let⟨_,e,_⟩:=pl.isList;exact Fu e
 refine call_any_walk (E2 pl.isList ?_);refine⟨s.heap.objs.size,[s.heap.objs.size,p],[s.heap.objs.size],its.toArray.size,_,_,λi=>(bs[i]?).getD false,rfl,Walks.list (A:=X.A.in1) (I.ok.hd hc) _ p (Gd hlt) its.toArray,
  ⟨⟨_,Ft _ rfl,rfl,rfl⟩,pl.isList.push _⟩,λi v s' Q' E' hP hQ=>?_,λh' tk hk=>?_⟩
 .let⟨b,e,rfl⟩:=rv.bl_get (by simpa using hP);simp only[e,Li]at hQ;exact Ep hQ
 .rw[Jm,<-hlen,Zt9];exists .bl (bs.any id),H,I.kept (t':=tk) (Jf1 hk),rfl,q
theorem Ze2{ys:List Str}:∀{us:List Ca},Vals (ys.map V.str) us->StrsAre us ys:=by
 induction ys with
 |nil=>intro us r;rw[Je6]at r;cases r;exact .nil
 |cons n ns ih =>
  intro us r;rw[Jo]at r;cases r with
  |cons r1 r2 =>
   let⟨t,e⟩:=r1;subst e;exact .cons n t (ih r2)
def Zo9:MtR X "str.join" (λx xs H Q=>∃(z:Str)(p:Addr)(ys:List Str),x=.str z/\xs=[.ref p]/\SqL X.K H p (ys.map V.str)/\(ys.map (·.length)).sum+ys.length*z.length<=16777216/\Q (.str (Txt.join z ys)) H):=by
 intro pq s σ H x xs v us Q I rx r h;let⟨z,p,ys,rfl,rfl,hq,hz,q⟩:=h;let⟨t,rfl⟩:=rx;let⟨u,rfl,ru⟩:=Tl r;cases ru;let⟨its,rv,pl,_⟩:=I.list hq;exact join_list pl.isList (by simpa using Ze2 rv) hz λt' k=>⟨.str _,H,I.tok _,⟨_,rfl⟩,q⟩
def Zlz:Wr X (.builtin "isinstance") (λxs H Q=>∃x T t b,xs=[x,.ty T]/\TyOf X.K H x t/\Jg6 X.K t (.type T)=some b/\Q (.bl b) H):=by
 intro pq s σ H xs us Q I r h;let⟨x,T,t,b,rfl,ty,e,q⟩:=h;let⟨u,w',rfl,ru,rw'⟩:=Zj4 r;cases rw';exact Zir I ru ty e λtk=>⟨.bl b,H,I.tok tk,rfl,q⟩
def rSlS:V->Option Int->Option Int->Hp->VK->Prop:=λx lo hi H Q=>∃z,x=.str z/\z.length<=Cb/\Q (.str (Txt.slice z lo hi)) H
theorem Zr0:SlR X rSlS:=by
 intro pq s σ H x v vl vu lo hi sl Q I rx hs pl pu h;let⟨z,rfl,hz,q⟩:=h;let⟨t,rfl⟩:=rx;exists "str",_,F.slot_str_getitem.lookup,Jgt _ _ _,?_;cases pl with
 |none =>
  cases pu with
  |none=>exact Hs (l:=none) (u:=none) (st:=none) hs rfl (L0 ⟨Jy (Txt.slice_le z _ _) hz,λt' k=>⟨.str _,H,I.tok _,⟨_,rfl⟩,q⟩⟩)
  |int j tj=>exact Hs (l:=none) (u:=some (j,tj)) (st:=none) hs rfl (L0 ⟨Jy (Txt.slice_le z _ _) hz,λt' k=>⟨.str _,H,I.tok _,⟨_,rfl⟩,q⟩⟩)
 |int i ti =>
  cases pu with
  |none=>exact Hs (l:=some (i,ti)) (u:=none) (st:=none) hs rfl (L0 ⟨Jy (Txt.slice_le z _ _) hz,λt' k=>⟨.str _,H,I.tok _,⟨_,rfl⟩,q⟩⟩)
  |int j tj=>exact Hs (l:=some (i,ti)) (u:=some (j,tj)) (st:=none) hs rfl (L0 ⟨Jy (Txt.slice_le z _ _) hz,λt' k=>⟨.str _,H,I.tok _,⟨_,rfl⟩,q⟩⟩)
end
mutual
inductive DV(K:Cr)(H:Hp):V->PyData->Prop
 |non:DV K H .non .none
 |bl (b:Bool):DV K H (.bl b) (.bool b)
 |int (i:Int):DV K H (.int i) (.int i)
 |str (x:Str):DV K H (.str x) (.str x)
 |lst {a:Addr} {xs:List V} {ds:List PyData} (h:SqL K H a xs) (r:DVs K H xs ds):DV K H (.ref a) (.list ds)
 |tup {a:Addr} {xs:List V} {ds:List PyData} (h:SqT K H a xs) (r:DVs K H xs ds):DV K H (.ref a) (.tuple ds)
inductive DVs(K:Cr)(H:Hp):List V->List PyData->Prop
 |nil:DVs K H [] []
 |cons {x:V} {d:PyData} {xs:List V} {ds:List PyData} (h:DV K H x d) (r:DVs K H xs ds):DVs K H (x::xs) (d::ds)
end
section
mutual
theorem Wb(I:Inv X pq σ H s):∀{x:V}{d:PyData}{u:Ca},DV X.K H x d->RelV x u->∃as,Reads s.heap u d as
 |_,_,u,.non,r=>by obtain rfl:u=Ca.none:=r;exists _,Reads.none
 |_,_,u,.bl b,r=>by obtain rfl:u=Lq b:=r;exists _,Reads.bool b
 |_,_,u,.int i,r=>by let⟨t,rfl⟩:=(show ∃t,u=C0 i t from r);exists _,Reads.int i t
 |_,_,u,.str x,r=>by let⟨t,rfl⟩:=(show ∃t,u=Jb8 x t from r);exists _,Reads.str x t
 |_,_,u,.lst (a:=a) h q,r=>by
  obtain rfl:u=Ch a:=r;let⟨its,rv,⟨o,n,e,c,d,dt⟩,_⟩:=I.list h;let⟨as,ra⟩:=dvs_reads I q rv;exists _,reads_list_at e c dt (by simpa using ra)
 |_,_,u,.tup (a:=a) h q,r=>by
  obtain rfl:u=Ch a:=r;let⟨its,rv,⟨o,e,c,n,dt⟩,_⟩:=I.tuple h;let⟨as,ra⟩:=dvs_reads I q rv;exists _,reads_tuple_at e c dt (by simpa using ra)
theorem dvs_reads(I:Inv X pq σ H s):∀{xs:List V}{ds:List PyData}{us:List Ca},DVs X.K H xs ds->Vals xs us->∃as,ReadsAll s.heap us ds as:=by
 intro _ _ _ hz9 hz8;cases hz9 with
 |nil=>
  cases hz8 with
  |nil=>
   exists _,ReadsAll.nil
 |cons h q=>
  cases hz8 with
  |cons r rr=>
   exact by
     let⟨as,ra⟩:=Wb I h r;let⟨bs,rb⟩:=dvs_reads I q rr;exists _,ReadsAll.cons ra rb
end
def rEqD(K:Cr):R2:=λx y H Q=>∃dx dy,DV K H x dx/\DV K H y dy/\Er dx=true/\Er dy=true/\Q (.bl (C1 dx dy)) H
def rNeD(K:Cr):R2:=λx y H Q=>∃dx dy,DV K H x dx/\DV K H y dy/\Er dx=true/\Er dy=true/\Q (.bl (!PyData.eqv dx dy)) H
def Zh3(hu:X.A.units+64<E9):OpR X (Eo .Eq) (rEqD X.K):=by
 intro pq s σ H x y v u Q I rx ry h;let⟨dx,dy,hx,hy,sx,sy,q⟩:=h;let⟨as,ra⟩:=Wb I hx rx;let⟨bs,rb⟩:=Wb I hy ry;exact eq_dataH ra rb sx sy hu ⟨.bl _,H,I,rfl,q⟩
def Zs0(hu:X.A.units+64<E9):OpR X (Eo .NotEq) (rNeD X.K):=by
 intro pq s σ H x y v u Q I rx ry h;let⟨dx,dy,hx,hy,sx,sy,q⟩:=h;let⟨as,ra⟩:=Wb I hx rx;let⟨bs,rb⟩:=Wb I hy ry;exact ne_dataH ra rb sx sy hu ⟨.bl _,H,I,rfl,q⟩
end
theorem U5 :∀ns:List Int,DVs K H (ns.map V.int) (ns.map Kg)
 |[]=>.nil
 |n::r=>.cons (.int n) (U5 r)
def Cal(P:Ez)(w:Hm)(K:Cr)(mg:Str->Option Ca)(base:Heap)(x:Str)(k:Nat)(ps:List Str)(sp:Sp):Prop :=
 ∃(f:Addr)(fd:Md),FnOk P w K mg base CX0 k f fd ps sp/\mg x=some (.ref f)/\Mc K (.ref f)=true/\Vo K fd ps []
section
variable{x:Str}{k:Nat}{e:Expr}{t:TA}{p:Pos}
def Zt(C:Cal X.prog X.w X.K X.mg X.base x k ps sp)(hr:Room k X.A)(hg:Gl X x)(ha:PA X (e::es) t)(hdb:(x==("__debug__":Str))=false:=by decide)(he:Cj (e::es) X.env=(false,eval e X.env)::Cj es X.env:=by rfl)(hpl:(Ht pos (Cj es X.env)).any (·.1)=false:=by rfl):PE X (.Call (.Name x p) (e::es) [] pos) (Zgo sp [] E0 t):=by
 let⟨f,fd,F,hm,hk,hb⟩:=C;exact Zhu F hr hg hm hk hb .nil Zhx ha hdb he hpl
end
def Grow(p:Addr)(H H':Hp):Prop:=∀b o,H b=some o->b≠p->H' b=some o
def Grow.refl(p:Addr)(H:Hp):Grow p H H:=λ_ _ e _=>e
def Grow.trans{p:Addr}(a:Grow p H H1)(b:Grow p H1 H2):Grow p H H2:=λc o e n=>b c o (a c o e n) n
def Grow.same{p:Addr}(s:Same H H'):Grow p H H':=λb o e _=>s b o e
theorem Grow.free{p:Addr}(g:Grow p H H')(h:H' l=none)(n:l≠p):H l=none:=by
 cases q:H l with
 |none=>rfl
 |some o=>rw[g l o q n]at h;cases h
def Zl{p:Addr}(h:H p=none):Same H (upd H p o):=λb u e=>by rw[Zo (Zq e h)];exact e
structure HandAt(H:Hp)(p a:Addr):Prop where
 ex:∃(d k:Int)(cs:List Int),H p=some (.lst [.int d,.int k,.ref a])/\H a=some (.lst (cs.map V.int))/\cs≠[]/\cs.length<=63/\0<=d/\0<=k/\∀c∈cs,0<=c
theorem HandAt.ne{p a:Addr}(h:HandAt H p a):p≠a:=by
 let⟨d,k,cs,e1,e2,_⟩:=h.ex;refine Rj e1 e2 λz=>?_;injection z with z
 cases cs with
 |nil=>cases z
 |cons c r =>
  rw[Jo]at z;injection z with _ z
  cases r with
  |nil=>cases z
  |cons c2 r =>
   rw[Jo]at z;injection z with _ z
   cases r with
   |nil=>cases z
   |cons c3 r=>rw[Jo]at z;injection z with z _;cases z
def HandAt.same{p a:Addr}(h:HandAt H p a)(g:Same H H'):HandAt H' p a:=by
 let⟨d,k,cs,e1,e2,r⟩:=h.ex;exists d,k,cs,g _ _ e1,g _ _ e2,r
def Ph:Sp:=λvs H Q _=>∃(p a:Addr)(n:Int),vs=[.ref p,.int n]/\HandAt H p a/\0<n/\n<1073741824 /\
 ∀(r:Int)(H':Hp),0<=r->r<n->HandAt H' p a->Grow p H H'->(∀b,b≠p->H' b=H b)->Q (.int r) H'
theorem Zjw{cs:List Int}(h:cs≠[])(z:Int):∃c,c∈cs/\atI (cs.map V.int) (z % ((cs.map V.int).length:Nat))=some (.int c):=by
 let hl:0<cs.length:=Gi.mpr h;let h0:0<=z % ((cs.map V.int).length:Nat):=Gz _ (by rw[Ja];lia);let h1:z % ((cs.map V.int).length:Nat)<((cs.map V.int).length:Nat):=Gr _ (by rw[Ja];lia);generalize z % ((cs.map V.int).length:Nat)=m at h0 h1;rw[Ja]at h1;let hm:m.toNat<cs.length:=by lia
 let⟨k,rfl⟩:=Gu h0;let hm:k<cs.length:=hm;exists cs[k],Jn hm,Wy ?_;rw[Jq,Jb hm];rfl
def Shp(n:Nat)(d:PyData):Prop:=d.canLay0=true/\d.depth<=n
def Shp.shaped{n:Nat}{d:PyData}(h:Shp n d)(hn:n<=64):Er d=true:=by
 unfold Er;rw[h.1,Fc];exact Fx (Jy h.2 hn)
theorem Nh{n:Nat}:∀{ds:List PyData},(∀d∈ds,Shp n d)->Em ds=true/\Hi ds<=n
 |[],_=>⟨by simp only[Em],by simp only[Hi];exact Ju _⟩
 |d::r,h=>by
  let⟨h1,h2⟩:=h d Jl;let⟨h3,h4⟩:=Nh (n:=n) λx hx=>h x (Jk _ hx);exists by simp only[Em,h1,h3,Bool.and_self],?_;simp only[Hi];lia
theorem Zds{n:Nat}{ds:List PyData}(h:∀d∈ds,Shp n d):Shp (n+1) (.list ds):=by
 let⟨h1,h2⟩:=Nh h;exact⟨by simp only[Hb,h1],by simp only[Le];lia⟩
theorem R8{n:Nat}{ds:List PyData}(h:∀d∈ds,Shp n d):Shp (n+1) (.tuple ds):=by
 let⟨h1,h2⟩:=Nh h;exact⟨by simp only[Hb,h1],by simp only[Le];lia⟩
def Ng(i:Int):Shp 0 (.int i):=⟨by simp only[Hb],by simp only[Le];exact Jd _⟩
def Zdt(ns:List Int):Shp 1 (.list (ns.map Kg)):=Zds λd hd=>by
 let⟨i,_,rfl⟩:=Jh.mp hd;exact Ng i
def Zk{n:Nat}(h:n<=100000):n<=Cb:=Jy h nofun
theorem Zeq{as:List V}{j:Int}(h0:0<=j)(h1:j<=as.length):cutV as (some j) none=as.drop j.toNat:=by
 let⟨m,rfl⟩:=Gu h0;unfold cutV;rw[HT.sIx_nat,HT.sIx_none,B2 (),Be (by rw[Gn];exact Jd _)];rfl
theorem Zjf{as:List V}{j:Int}(h0:0<=j)(h1:j<=as.length):cutV as none (some j)=as.take j.toNat:=by
 let⟨m,rfl⟩:=Gu h0;unfold cutV;rw[HT.sIx_nat,HT.sIx_none,B2 (),B7,Je7];rfl
theorem Zl6{α:Type}{xs:List α}{r:Int}(h0:0<=r)(h1:r<xs.length):∃v,v∈xs/\atI xs r=some v:=by
 let hm:r.toNat<xs.length:=by lia
 let⟨k,rfl⟩:=Gu h0;let hm:k<xs.length:=hm;exists xs[k],Jn hm,Wy (Jb hm)
def Ztx{base:Heap}{x:Str}{f:Addr}{k:Nat}(F:Fun K x x st f fd)(G:FnOk P w K mg base CX0 k f fd ps sp)(m:mg x=some (.ref f))(b:Vo K fd ps []) :
  Cal P w K mg base x k ps sp:=⟨f,fd,G,m,F.kp,b⟩
end L2
set_option maxHeartbeats 4000000
namespace L2
open PySem PySem.W PyProof.Rows
def Rk(rk:Nat->Int)(p:Array Nat)(i:Nat):Int:=rk (p.getD i 0)
def SrtR(rk:Nat->Int)(p:Array Nat)(k:Nat):Prop:=∀i j,i<=j->j<k->Rk rk p i<=Rk rk p j
structure GoodP(n:Nat)(p:Array Nat):Prop where
 perm:p.Perm (Cv n).toArray
def GoodP.size{n:Nat}{p:Array Nat}(g:GoodP n p):p.size=n:=by have:=g.perm.size_eq;simpa using this
def GoodP.lt{n:Nat}{p:Array Nat}(g:GoodP n p)(i:Nat)(hi:i<n):p.getD i 0<n:=by
 let hi':i<p.size:=by rw[g.size];exact hi
 let e:p.getD i 0=p[i]:=by simp[Jdg,hi']
 rw[e];let hm:p[i]∈p.toList:=by simp
 let:=(Bt.mp g.perm).mem_iff.mp hm;simpa using this
def GoodP.ne{n:Nat}{p:Array Nat}(g:GoodP n p){j:Nat}(hi:i<n)(hj:j<n)(h:i≠j):p.getD i 0≠p.getD j 0:=by
 let nd:p.toList.Nodup:=(Bt.mp g.perm).nodup_iff.mpr (by simpa using List.nodup_range);let hi':i<p.size:=by rw[g.size];exact hi
 let hj':j<p.size:=by rw[g.size];exact hj
 let e:p.getD i 0=p[i]:=by simp[Jdg,hi']
 let e2:p.getD j 0=p[j]:=by simp[Jdg,hj']
 rw[e,e2];intro z;let:=(Br (h₀:=by simpa using hi') (h₁:=by simpa using hj') nd).mp (by simpa using z);exact h this
def Vl{p q:Array Nat}{j:Nat}(h:p[i]?=q[j]?):p.getD i 0=q.getD j 0:=by
 rw[L4,L4,h]
def Zb2{rk:Nat->Int}{xs:Array Nat}{src d:Nat}(hs:src<xs.size)(hd:d<=src)(k:Nat) :
  Rk rk (bubble xs src d) k=if k=src-d then Rk rk xs src else if src-d<k/\k<=src then Rk rk xs (k-1)else Rk rk xs k:=by
 let e:=getElem?_bubble hs d hd k;unfold Rk
 by_cases h1:k=src-d
 .rw[Fw h1]at e⊢;rw[Vl e]
 .rw[Fv h1]at e⊢
  by_cases h2:src-d<k/\k<=src
  .rw[Fw h2]at e⊢;rw[Vl e]
  .rw[Fv h2]at e⊢;rw[Vl e]
def Zni{rk:Nat->Int}{xs:Array Nat}{j:Nat}(hj:j<=xs.size)(k:Nat) :
  Rk rk (Jh7 xs 0 j) k=if k<j then Rk rk xs (j-1-k)else Rk rk xs k:=by
 let e:=getElem?_mirror_all (xs:=xs) (i:=0) hj k;unfold Rk Jh7
 by_cases h1:k<j
 .rw[Fw ⟨Ju _,h1⟩]at e;rw[Fw h1,Vl e,Jc4]
 .rw[Fv (λz=>h1 z.2)]at e;rw[Fv h1,Vl e]
section
variable{rk:Nat->Int}{n:Nat}{cmp:Nat->Nat->(Bool->Cc->Prop)->Cc->Prop} 
def CmpR(rk:Nat->Int)(n:Nat)(cmp:Nat->Nat->(Bool->Cc->Prop)->Cc->Prop)(s:Cc):Prop :=
 ∀i j(C:Bool->Cc->Prop),i<n->j<n->C (decide (rk i<rk j)) s->cmp i j C s
theorem Zqg(hc:CmpR rk n cmp s){p:Array Nat}(g:GoodP n p){G:Nat->Cc->Prop}:∀(f m:Nat),1<=m->m+f<=n->SrtR rk p m ->
  (∀m',m<=m'->m'<=m+f->SrtR rk p m'->(m'=m+f\/(m'<n/\Rk rk p m'<Rk rk p (m'-1)))->G m' s)->(kas_asc p f m).kasWp cmp G s
 |0,m,_,_,hs,h=>h m (Jd _) (Jd _) hs (.inl rfl)
 |f+1,m,h1,h2,hs,h=>by
  show cmp (p.getD m 0) (p.getD (m-1) 0) _ s;refine hc _ _ _ (g.lt _ ()) (g.lt _ ()) ?_
  by_cases q:rk (p.getD m 0)<rk (p.getD (m-1) 0)
  .simp only[q,decide_true,if_true];exact h m (Jd _) () hs (.inr ⟨(),q⟩)
  .simp only[q,decide_false,Gk,if_false];refine Zqg hc g f (m+1) () () (λi j hij hj=>?_) λm' a b c d=>h m' () () c (by
    rcases d with d|d
    .exact .inl ()
    .exact .inr d)
   by_cases hjm:j=m
   .subst hjm
    by_cases him:i=j
    .subst him;exact M8 _
    .exact Jhp (hs i (j-1) () ()) (Int.not_lt.mp q)
   .exact hs i j hij ()
theorem Znb(hc:CmpR rk n cmp s)(inj:∀i j,i<n->j<n->rk i=rk j->i=j){p:Array Nat}(g:GoodP n p){G:Array Nat×Nat×Nat->Cc->Prop}:∀(f m:Nat),1<=m->m+f<=n ->
  (∀i j,i<j->j<m->Rk rk p j<Rk rk p i) ->
  (∀m',m<=m'->m'<=m+f->(∀i j,i<j->j<m'->Rk rk p j<Rk rk p i)->G (p,m',0) s)->(kas_desc f p m 0).kasWp cmp G s
 |0,m,_,_,hs,h=>h m (Jd _) (Jd _) hs
 |f+1,m,h1,h2,hs,h=>by
  show cmp (p.getD m 0) (p.getD (m-1) 0) _ s;refine hc _ _ _ (g.lt _ ()) (g.lt _ ()) ?_
  by_cases q:rk (p.getD m 0)<rk (p.getD (m-1) 0)
  .simp only[q,decide_true,if_true,G5,if_false,gt_iff_lt];refine Znb hc inj g f (m+1) () () (λi j hij hj=>?_) λm' a b c=>h m' () () c
   by_cases hjm:j=m
   .subst hjm
    by_cases him:i=j-1
    .subst him;exact q
    .exact Int.lt_trans q (hs i (j-1) () ())
   .exact hs i j hij ()
  .simp only[q,decide_false,Gk,if_false];show cmp (p.getD (m-1) 0) (p.getD m 0) _ s;refine hc _ _ _ (g.lt _ ()) (g.lt _ ()) ?_;let lt2:rk (p.getD (m-1) 0)<rk (p.getD m 0):=by
    let ne:rk (p.getD (m-1) 0)≠rk (p.getD m 0):=λz=>g.ne () () (by lia:m-1≠m) (inj _ _ (g.lt _ ()) (g.lt _ ()) z);lia
   simp only[lt2,decide_true,if_true];exact h m (Jd _) () hs
def GoodP.rev{p:Array Nat}(g:GoodP n p)(i j:Nat):GoodP n (Jh7 p i j):=⟨(mirror_perm _ _ _ _).trans g.perm⟩
theorem Zp6(hc:CmpR rk n cmp s)(inj:∀i j,i<n->j<n->rk i=rk j->i=j)(h2:2<=n){p:Array Nat}(g:GoodP n p){G:Nat×Array Nat->Cc->Prop}(h:∀m p',1<=m->m<=n->GoodP n p'->SrtR rk p' m->G (m,p') s):(kas_count n p).kasWp cmp G s:=by
 unfold kas_count;rw[Kw];refine Zqg hc g (n-1) 1 (Jd _) () (λi j hij hj=>by rw[show i=j by lia];exact M8 _) λm a b c d=>?_
 by_cases e:m=n
 .subst e;simp only[beq_self_eq_true,if_true];exact h m p () (Jd _) g c
 .let hb:(m==n)=false:=by simpa using e
  simp only[hb,Gk,if_false];let hd:m<n/\Rk rk p m<Rk rk p (m-1):=by
   rcases d with d|d
   .lia
   .exact d
  by_cases hm:m > 1
  .rw[Fw hm];show cmp (p.getD 0 0) (p.getD (m-1) 0) _ s;refine hc _ _ _ (g.lt _ ()) (g.lt _ ()) ?_;let lt2:rk (p.getD 0 0)<rk (p.getD (m-1) 0):=by
    let ne:rk (p.getD 0 0)≠rk (p.getD (m-1) 0):=λz=>g.ne () () (by lia:0≠m-1) (inj _ _ (g.lt _ ()) (g.lt _ ()) z);let le:=c 0 (m-1) () ();unfold Rk at le;lia
   simp only[lt2,decide_true,if_true];exact h m p () () g c
  .rw[Fv hm];let hm1:m=1:=by lia
   subst hm1;unfold kas_descPart;rw[Kw];refine Znb hc inj g (n-2) 2 () () (λi j hij hj=>?_) λm' a' b' c'=>?_
   .let:j=1:=by lia
    let:i=0:=by lia
    subst i;subst j;exact hd.2
   .simp only[gt_iff_lt,G5,if_false];unfold kas_tail3;rw[Kw];let hm':m'<=n:=by lia
    refine Zqg hc (g.rev 0 m') (n-m') m' () () (λi j hij hj=>?_) λk a2 b2 c2 _=>?_
    .rw[Zni (by rw[g.size];exact hm'),Zni (by rw[g.size];exact hm'),Fw (),Fw hj]
     by_cases hij2:i=j
     .subst hij2;exact M8 _
     .exact Jhq (c' _ _ () ())
    .show G (k,Jh7 p 0 m') s;exact h k _ () () (g.rev 0 m') c2
theorem Zcm(hc:CmpR rk n cmp s){p:Array Nat}(g:GoodP n p){k:Nat}(hk:k<n)(hs:SrtR rk p k){G:Nat->Cc->Prop}(h:∀l,l<=k->(∀i,i<l->Rk rk p i<=Rk rk p k)->(∀i,l<=i->i<k->Rk rk p k<Rk rk p i)->G l s):∀(f l r:Nat),l<=r->r<=k->r-l<=f ->
  (∀i,i<l->Rk rk p i<=Rk rk p k)->(∀i,r<=i->i<k->Rk rk p k<Rk rk p i)->(kas_place p k f l r).kasWp cmp G s
 |0,l,r,h1,h2,h3,lo,hi=>by
  let:l=r:=by lia
  subst this;exact h l h2 lo hi
 |f+1,l,r,h1,h2,h3,lo,hi=>by
  unfold kas_place
  by_cases hge:l≥r
  .rw[Fw hge];let:l=r:=by lia
   subst this;exact h l h2 lo hi
  .rw[Fv hge];show cmp (p.getD k 0) (p.getD ((l+r) / 2) 0) _ s;refine hc _ _ _ (g.lt _ hk) (g.lt _ ()) ?_
   by_cases q:rk (p.getD k 0)<rk (p.getD ((l+r) / 2) 0)
   .simp only[q,decide_true,if_true];exact Zcm hc g hk hs h f l ((l+r) / 2) () () () lo λi a b=>Int.lt_of_lt_of_le q (hs _ _ a b)
   .simp only[q,decide_false,Gk,if_false];exact Zcm hc g hk hs h f ((l+r) / 2+1) r () () () (λi a=>Jhp (hs i ((l+r) / 2) () ()) (Int.not_lt.mp q)) hi
theorem Zt8(hc:CmpR rk n cmp s){G:Array Nat->Cc->Prop}(h:∀p,GoodP n p->SrtR rk p n->G p s):∀(f:Nat)(p:Array Nat)(k:Nat),k+f=n->GoodP n p->SrtR rk p k->(kas_bin f p k).kasWp cmp G s
 |0,p,k,e,g,hs=>h p g (by rw[<-e];exact hs)
 |f+1,p,k,e,g,hs=>by
  unfold kas_bin;rw[Kw];refine Zcm hc g () hs (λl hl lo hi=>?_) k 0 k (Ju _) (Jd _) () (λi z=>Fl z (Gp _)) (λi a b=>by lia);refine Zt8 hc h f _ (k+1) () ⟨(bubble_perm _ _ _).trans g.perm⟩ λi j hij hj=>?_;let hks:k<p.size:=by rw[g.size];lia
  rw[Zb2 hks (),Zb2 hks (),show k-(k-l)=l by lia]
  repeat' split
  all_goals first
   |(exfalso;lia)
   |exact M8 _
   |exact lo _ ()
   |exact Jhq (hi _ () ())
   |exact hs _ _ () ()
theorem Zry(hc:CmpR rk n cmp s)(inj:∀i j,i<n->j<n->rk i=rk j->i=j)(h2:2<=n){G:Array Nat->Cc->Prop}(h:∀p,GoodP n p->SrtR rk p n->G p s):(kas_sort n).kasWp cmp G s:=by
 unfold kas_sort;rw[Kw];refine Zp6 hc inj h2 ⟨Array.Perm.refl _⟩ λm p' a b g hs=>?_
 by_cases hm:m<n
 .rw[Fw hm];let e:max m 1=m:=by lia
  rw[e];exact Zt8 hc h (n-m) p' m () g hs
 .rw[Fv hm];let:m=n:=by lia
  subst this;exact h p' g hs
end
end L2
namespace L2
open PySem PySem.W PyProof.Rows HT
theorem Ts:∀a:List Int,lexLt a a=false
 |[]=>rfl
 |x::r=>by rw[lexLt_cons,Fw rfl];exact Ts r
theorem T7:∀{a b c:List Int},lexLt a b=true->lexLt b c=true->lexLt a c=true
 |[],[],_,h,_=>by rw[No]at h;cases h
 |[],_::_,[],_,h=>by rw[Vd]at h;cases h
 |[],_::_,_::_,_,_=>rfl
 |_::_,[],_,h,_=>by rw[Vd]at h;cases h
 |_::_,_::_,[],_,h=>by rw[Vd]at h;cases h
 |x::a,y::b,z::c,h1,h2=>by
  rw[lexLt_cons]at h1 h2⊢
  by_cases e1:x=y
  .subst e1;rw[Fw rfl]at h1
   by_cases e2:x=z
   .rw[Fw e2]at h2⊢;exact T7 h1 h2
   .rw[Fv e2]at h2⊢;exact h2
  .rw[Fv e1]at h1;let l1:x<y:=Fk h1
   by_cases e2:y=z
   .subst e2;rw[Fv e1];exact h1
   .rw[Fv e2]at h2;let l2:y<z:=Fk h2;rw[Fv ()];exact Fx ()
theorem Nn:∀{a b:List Int},lexLt a b=false->lexLt b a=false->a=b
 |[],[],_,_=>rfl
 |[],_::_,h,_=>by rw[Th]at h;cases h
 |_::_,[],_,h=>by rw[Th]at h;cases h
 |x::a,y::b,h1,h2=>by
  rw[lexLt_cons]at h1 h2
  by_cases e:x=y
  .subst e;rw[Fw rfl]at h1 h2;rw[Nn h1 h2]
  .rw[Fv e]at h1;rw[Fv (λz=>e z.symm)]at h2;let:=Fm h1;let:=Fm h2;lia
theorem Zbn{α:Type}{p q:α->Bool}:∀{l:List α},(∀x∈l,p x=true->q x=true)->(∃x∈l,q x=true/\p x=false)->l.countP p<l.countP q
 |[],_,⟨_,h,_⟩=>nomatch h
 |a::l,h1,⟨x,hx,hq,hp⟩=>by
  let le:l.countP p<=l.countP q:=List.countP_mono_left λy hy=>h1 y (Jk _ hy);rw[Jfd,Jfd];rcases Jt.mp hx with e|hx
  .subst e;rw[hq,hp];simp;lia
  .let lt:=Zbn (λy hy=>h1 y (Jk _ hy)) ⟨x,hx,hq,hp⟩;let:=h1 a Jl;cases ha:p a<;>cases hb:q a<;>simp_all<;>lia
def W0(ks:List (List Int))(i:Nat):Int:=((Cv ks.length).countP λj=>lexLt (ks.getD j []) (ks.getD i []):Nat)
theorem Zhh{ks:List (List Int)}{j:Nat}(hi:i<ks.length)(h:lexLt (ks.getD i []) (ks.getD j [])=true):W0 ks i<W0 ks j:=by
 unfold W0;let:=Zbn (l:=Cv ks.length) (p:=λx=>lexLt (ks.getD x []) (ks.getD i [])) (q:=λx=>lexLt (ks.getD x []) (ks.getD j [])) (λx _ hx=>T7 hx h) ⟨i,Bs.mpr hi,h,Ts _⟩;lia
theorem Rp{ks:List (List Int)}(nd:ks.Nodup){j:Nat}(hi:i<ks.length)(hj:j<ks.length):decide (W0 ks i<W0 ks j)=lexLt (ks.getD i []) (ks.getD j []):=by
 cases e:lexLt (ks.getD i []) (ks.getD j [])with
 |true=>exact Fx (Zhh hi e)
 |false =>
  refine Fy λz=>?_;cases e2:lexLt (ks.getD j []) (ks.getD i [])with
  |true=>have:=Zhh hj e2;lia
  |false =>
   let e3:=Nn e e2;unfold W0 at z;rw[e3]at z;exact Fl z (Int.lt_irrefl _)
theorem Zd2{ks:List (List Int)}(nd:ks.Nodup){j:Nat}(hi:i<ks.length)(hj:j<ks.length)(h:W0 ks i=W0 ks j):i=j:=by
 let e1:lexLt (ks.getD i []) (ks.getD j [])=false:=by rw[<-Rp nd hi hj];exact Fy ()
 let e2:lexLt (ks.getD j []) (ks.getD i [])=false:=by rw[<-Rp nd hj hi];exact Fy ()
 let e3:=Nn e1 e2;rw[Jx,Jx,Jb hi,Jb hj]at e3;exact(Br (h₀:=hi) (h₁:=hj) nd).mp (by simpa using e3)
section
theorem Zef{Q:Bool->Cc->Prop}:∀{vs ws:List Ca}{ns ms:List Int}{fin:Bool}{i:Nat},Kv vs ns->Kv ws ms->(fin=decide (ns.length<ms.length))->Q (lexLt ns ms) s->KatLex prog w A true fin Q (vs.zip ws) i s
 |_,_,_,_,fin,i,.nil,.nil,e,h=>by
  subst e;exact kat_nil h
 |_,_,_,_,fin,i,.nil,.cons _ _ r,e,h=>by
  subst e;exact kat_nil (by simpa[HT.lexLt]using h)
 |_,_,_,_,fin,i,.cons _ _ r,.nil,e,h=>by
  subst e;exact kat_nil (by simpa[HT.lexLt]using h)
 |_,_,_,_,fin,i,.cons a t r,.cons c u r2,e,h=>by
  rw[Fe];refine kat_cons (Je9 ?_);rw[lexLt_cons]at h
  by_cases z:a=c
  .subst z;rw[Fw rfl]at h;rw[beq_self_eq_true];exact kat_yes (Zef r r2 (by rw[e];simp) h)
  .rw[Fv z]at h;let hb:(a==c)=false:=by simpa using z
   rw[hb];refine kat_no ?_;cases hi:(true&&i==0)with
   |true=>exact oneLt_int h
   |false=>exact kat_one _ _ (Jdu (show PySem.W.BoolBack Q (.bool (decide (a<c))) s from h))
end
abbrev KIt:=V×Addr×List Int
section
def Inv.pin1{b:Addr}{o:Obj}(I:Inv X pq σ H s)(f:FpOk X pq H b)(e:s.heap.get? b=some o)(hd:∀v,o.data≠.cell v):Inv X (pq++[(b,o)]) σ H s :=
 I.pins_of λp hp=>(J9.mp hp).elim (λz=>I.pin p (Js _ z)) λz=>by
  rw[Jg.mp z];exists e,f.1,f.2.1,f.2.2.1,hd
def Inv.turn1{b:Addr}(I:Inv X pq σ H s)(f:FpOk X pq H b)(hs:Hk b s.heap h'):Inv X pq σ H {s with heap:=h'} :=
 I.turned (t':=s.toks) (λc o hc e=>(hs.2 c hc).trans e) f.1 f.2.1 f.2.2.2.1 f.2.2.2.2.1 f.2.2.2.2.2
def FpOk.snoc{b c:Addr}{o:Obj}(f:FpOk X pq H b)(h:c≠b):FpOk X (pq++[(c,o)]) H b :=
 ⟨f.1,f.2.1,f.2.2.1,f.2.2.2.1,f.2.2.2.2.1,λp hp=>by
  rw[<-Gg]at hp;rcases J9.mp hp with z|z
  .exact f.2.2.2.2.2 p z
  .rw[Jg.mp z];exact h⟩
def Yk(L:List KIt):List Ca:=L.map λq=>Ch q.2.1
def Vm{α:Type}{f:α->β}{l:List α}{d:β}(h:i<l.length):(l.map f).getD i d=f l[i]:=by
 rw[Jx,Jq,Jb h];rfl
theorem Zlk{L:List KIt}(I:Inv X pq σ H s)(hk:∀q∈L,SqT X.K H q.2.1 (q.2.2.map V.int)/\q.2.2≠[])(h2:0<L.length){Q:SortKind->Cc->Prop}(h:Q (tuples' true) s) :
  Cd (Ck X.prog X.w) A (keyKind' (Yk L).toArray) Q E s:=by
 let tk:∀L':List KIt,(∀q∈L',q∈L)->∃fs:List Ca,KatTups s.heap (Yk L') fs/\fs.length=L'.length/\∀v∈fs,∃n t,v=.int n t:=by
  intro L'
  induction L' with
  |nil=>intro _;exists [],.nil,rfl,λv hv=>nomatch hv
  |cons q r ih =>
   intro hm;let⟨fs,a,b,c⟩:=ih λx hx=>hm x (Jk _ hx);let⟨sq,ne⟩:=hk q (hm q Jl);let⟨its,rv,⟨o,e,hc,n,hd⟩,_⟩:=I.tuple sq
   match hq:q.2.2,ne with
   |z::zs,_ =>
    rw[hq]at rv;cases rv with
    |cons rv1 rv2 =>
     let⟨t,et⟩:=rv1;exists .int z t::fs,KatTups.cons e hc hd ?_ a,by simp[b],λv hv=>?_
     .rw[et];simp
     .rcases Jt.mp hv with e|hv
      .exists z,t,e
      .exact c v hv
 let⟨fs,a,b,c⟩:=tk L λ_ h=>h;exact kat_kind (T:=.type "int") a () (λv hv=>by let⟨n,t,e⟩:=c v hv;subst e;exact .now) nofun h
def Zpl{L:List KIt}(I:Inv X pq σ H s)(hk:∀q∈L,SqT X.K H q.2.1 (q.2.2.map V.int)/\q.2.2≠[])(nd:(L.map (·.2.2)).Nodup) :
  CmpR (W0 (L.map (·.2.2))) L.length (kas_ask X.prog X.w A (tuples' true) (Yk L)) s:=by
 intro i j C hi hj h;rw[Rp nd (by simpa using hi) (by simpa using hj),Vm hi,Vm hj]at h;unfold kas_ask;rw[show(Yk L).getD i Ca.none=Ch L[i].2.1 from Vm hi,show(Yk L).getD j Ca.none=Ch L[j].2.1 from Vm hj];let⟨its,rv,⟨o,e,hc,n,hd⟩,_⟩:=I.tuple (hk _ (Jn hi)).1;let⟨its2,rv2,⟨o2,e2,hc2,n2,hd2⟩,_⟩:=I.tuple (hk _ (Jn hj)).1;let ia:∀{ns:List Int}{vs:List Ca},Vals (ns.map V.int) vs->Kv vs ns:=by
  intro ns
  induction ns with
  |nil=>intro vs h;cases h;exact .nil
  |cons a r ih =>
   intro vs h;cases h with
   |cons h1 h2=>obtain⟨t,e⟩:=h1;subst e;exact .cons a t (ih h2)
 refine kat_lt e hd e2 hd2 ?_;let i1:=ia rv;let i2:=ia rv2;exact Zef i1 i2 (by rw[<-i1.length,<-i2.length];simp) h
end
section
abbrev PD(D:Addr)(e1:Nat):Addr×Obj:=(D,Kb "list" #[] e1)
abbrev PKs(kS:Addr)(e:Nat)(L:List KIt):Addr×Obj:=(kS,Kb "list" (Yk L).toArray e)
theorem Vals.perm_get{L:List KIt}(rv:Vals (L.map (·.1)) its){p:List Nat}(hp:∀i∈p,i<L.length):Vals (p.map λi=>(L.getD i (.non,0,[])).1) (p.map λi=>its.getD i Ca.none):=by
 let e:=rv.length;simp only[Ja]at e
 induction p with
 |nil=>exact .nil
 |cons i r ih =>
  let hi:=hp i Jl;let hi2:i<its.length:=by lia
  let⟨u,hu,r1⟩:=Vals.get rv (i:=i) (x:=L[i].1) (by rw[Jq,Jb hi];rfl);refine .cons ?_ (ih λj hj=>hp j (Jk _ hj));show RelV (L.getD i (.non,0,[])).1 (its.getD i Ca.none);rw[Jx,Jx,hu,Jb hi];exact r1
theorem Zar{D kS:Addr}{e e1:Nat}{L L':List KIt}{st:SortSt}{out:List Ca}{P:Jd9->Cc->Prop}(I:Inv X ((pq++[PD D e1])++[PKs kS e L]) σ H s)(h64:L.length<64)(fD:FpOk X pq H D)(fK:FpOk X (pq++[PD D e1]) H kS)(hout:(arrOf st).map (·.2)=out.toArray)(hf:failedOf st=none)(rv:Vals (L'.map (·.1)) out)(hl:L'.length=L.length)(h:∀s',Inv X pq σ (upd H D (.lst (L'.map (·.1)))) s'->P (.done (.ret .none)) s'):Cd (Ck X.prog X.w) A (ksk_tail D false e1 (.ref kS) st) P E s:=by
 let pk:=I.pin (PKs kS e L) (Js _ (Js _ (Jg.mpr rfl)));let s1:=C2 s.heap kS (C7 λ_=>(#[]:Array Ca));let I1:=(I.unpinned (pl:=[PKs kS e L])).turn1 fK s1;let pd:=I1.pin (PD D e1) (Js _ (Js _ (Jg.mpr rfl)));let s2:=C2 (s.heap.update kS (C7 λ_=>(#[]:Array Ca))) D (C7 λ_=>out.toArray);obtain⟨c2,hc2⟩:∃c2,((s.heap.update kS (C7 λ_=>(#[]:Array Ca))).update D (C7 λ_=>out.toArray)).get? D=some (Kb "list" out.toArray c2):=⟨_,Jc5 pd.1 λ_=>out.toArray⟩;let lo:out.length=L.length:=by have:=rv.length;simp only[Ja]at this;lia
 let hz:L'.length<=Cb:=by rw[Ei];lia
 unfold ksk_tail
 try dsimp only
 rw[hout];refine Fo (M9 pk.1 rfl ?_ (by simp only[Jm,Yk,Ja,Ei];lia) (Ju _));refine Fo (F8 ?_);refine Fo (seqEpoch_at pd.1 rfl ?_);refine Fo (M9 pd.1 rfl ?_ (Ju _) (by simp only[Jm,Ei,Gk,if_false];lia));rw[hf];simp only[bne_self_eq_false,Gk,if_false];refine Fp (h _ ?_);let I2:=(I1.unpinned (pl:=[PD D e1])).turn1 fD s2;exact I2.track (its:=out) (n:=c2) hc2 fD rv (by rw[Ja];exact hz)
theorem Zkl{D kS:Addr}{e e1:Nat}{L:List KIt}{P:Jd9->Cc->Prop}(I:Inv X ((pq++[PD D e1])++[PKs kS e L]) σ H s)(h64:L.length<64)(fD:FpOk X pq H D)(fK:FpOk X (pq++[PD D e1]) H kS)(hk:∀q∈L,SqT X.K H q.2.1 (q.2.2.map V.int)/\q.2.2≠[])(nd:(L.map (·.2.2)).Nodup)(rv:Vals (L.map (·.1)) its)(h:∀(s':Cc)(L':List KIt),L'.Perm L->L'.Pairwise (λa b=>HT.lexLt a.2.2 b.2.2=true)->Inv X pq σ (upd H D (.lst (L'.map (·.1)))) s'->P (.done (.ret .none)) s') :
  Cd (Ck X.prog X.w) A (ksk_end D false its.toArray e1 (.ref kS) (Yk L).toArray) P E s:=by
 let el:its.length=L.length:=by have:=rv.length;simp only[Ja]at this;lia
 let ek:(Yk L).length=its.length:=by rw[el];simp[Yk]
 unfold ksk_end
 try dsimp only
 simp only[Gk,if_false]
 by_cases h2:its.toArray.size<2
 .rw[Fw h2];refine Fo (Fp ?_);rw[Fw h2];let h2':its.length<2:=by simpa using h2
  refine Fo (m:=(pure ⟨⟩:StateT SortSt Sem Unit).run _) (Fp ?_);refine Zar (L':=L) (out:=its) I h64 fD fK ?_ rfl rv rfl λs'=>h s' L (List.Perm.refl _) ?_
  .show(((Yk L).toArray.zip its.toArray).map (·.2))=its.toArray
   apply Array.toList_inj.mp
   rw[Array.toList_map,ksk_zip];simp only[Jfe (by lia:its.length<=(Yk L).length)]
  .match L,el with
   |[],_=>exact .nil
   |[q],_=>exact Ja0 _ _
   |_::_::_,el=>simp only[Jv]at el;lia
 .rw[Fv h2,Fv h2];let h2':2<=its.length:=by simpa using h2
  refine Fo (Zlk (I.unpinned (pl:=[PKs kS e L])) hk () ?_);refine Fo (F7 (kat_run (vs:=its) (ks:=Yk L) (G:=λp s'=>s'=s/\GoodP L.length p/\SrtR (W0 (L.map (·.2.2))) p L.length) (Q:=λst' s'=>∃p:Array Nat,s'=s/\GoodP L.length p/\SrtR (W0 (L.map (·.2.2))) p L.length/\arrOf st'=p.map (kas_item ((Yk L).toArray.zip its.toArray))/\failedOf st'=none) ek h2' ()
   (λp st' s' a1 a2 a3 a4=>⟨p,a4.1,a4.2.1,a4.2.2,a2,a3⟩)
   (by
    rw[el];exact Zry (Zpl (I.unpinned (pl:=[PKs kS e L])) hk nd) (λi j hi hj z=>Zd2 nd (by simpa using hi) (by simpa using hj) z) () (G:=λp s'=>s'=s/\GoodP L.length p/\SrtR (W0 (L.map (·.2.2))) p L.length) λp g hs=>⟨rfl,g,hs⟩)) ?_ λ_ _ x=>x)
  rintro⟨⟨⟩,st'⟩ s' ⟨p,rfl,g,hs,har,hf⟩;let hp:∀i∈p.toList,i<L.length:=λi hi=>by
   let:=(Bt.mp g.perm).mem_iff.mp hi;simpa using this
  let pl:p.toList.Perm (Cv L.length):=by have:=Bt.mp g.perm;simpa using this
  let hmap:∀(F:KIt->V),(p.toList.map λi=>F (L.getD i (.non,0,[])))=(p.toList.map λi=>L.getD i (.non,0,[])).map F:=λF=>by rw[Gh];rfl
  let rangeL:(Cv L.length).map (λi=>L.getD i (.non,0,[]))=L:=by
   apply List.ext_getElem
   .simp
   .intro i h1 h2;simp[Jx,h2]
  refine Zar (L':=p.toList.map λi=>L.getD i (.non,0,[])) (out:=p.toList.map λi=>its.getD i Ca.none) I h64 fD fK (kat_snds ek har) hf (by rw[<-hmap (·.1)];exact Vals.perm_get rv hp) (by rw[Ja,G7,g.size]) λs'=>h s' _ ?_ ?_
  .let:=pl.map λi=>L.getD i (.non,0,[]);rwa [rangeL]at this
  .rw[Bh];intro i j hi hj hij;simp only[Ja,G7,g.size]at hi hj;let gi:=g.lt i hi;let gj:=g.lt j hj;let hle:=hs i j (Bp hij) hj;let hne:=g.ne hi hj (Gd hij);unfold Rk at hle;let hlt:W0 (L.map (·.2.2)) (p.getD i 0)<W0 (L.map (·.2.2)) (p.getD j 0):=by
    rcases Int.lt_or_eq_of_le hle with z|z
    .exact z
    .exact Fl (Zd2 nd (by simpa using gi) (by simpa using gj) z) hne
   let hd:=Rp nd (i:=p.getD i 0) (j:=p.getD j 0) (by simpa using gi) (by simpa using gj);rw[Fx hlt,Vm gi,Vm gj]at hd;let ei:p.getD i 0=p[i]'(by rw[g.size];exact hi):=by simp[Jdg,g.size,hi]
   let ej:p.getD j 0=p[j]'(by rw[g.size];exact hj):=by simp[Jdg,g.size,hj]
   simp only[Gv,Array.getElem_toList,Jx];let gi':=gi;let gj':=gj;rw[ei]at gi';rw[ej]at gj';rw[Jb gi',Jb gj'];simp only[ei,ej]at hd;exact hd.symm
end
section
theorem Zgw{D kS f:Addr}{e1:Nat}{L:List KIt}{P:Jd9->Cc->Prop}(I:Inv X ((pq++[PD D e1])++[PKs kS 0 []]) σ H s)(h64:L.length<64)(fD:FpOk X pq H D)(fK:FpOk X (pq++[PD D e1]) H kS)(hk:∀q∈L,SqT X.K H q.2.1 (q.2.2.map V.int)/\q.2.2≠[])(nd:(L.map (·.2.2)).Nodup)(rv:Vals (L.map (·.1)) its)(hcall:∀(pins':List (Addr×Obj))(s':Cc)(q:KIt)(u:Ca),(∀p∈pq,p∈pins')->Inv X pins' σ H s'->q∈L->RelV q.1 u->Cd (Ck X.prog X.w) A (call (.ref f) [u]) (EP X pins' σ λv H'=>v=.ref q.2.1/\H'=H) (λ_ _=>False) s')(h:∀(s':Cc)(L':List KIt),L'.Perm L->L'.Pairwise (λa b=>HT.lexLt a.2.2 b.2.2=true)->Inv X pq σ (upd H D (.lst (L'.map (·.1)))) s'->P (.done (.ret .none)) s') :
  Cd (Ck X.prog X.w) A (ksk_rest D (.ref f) false its.toArray e1 (.ref kS)) P E s:=by
 let el:its.length=L.length:=by have:=rv.length;simp only[Ja]at this;lia
 unfold ksk_rest;refine Fo (Kt ?_)
 first
  |rw[List.forIn_toArray]
  |(rw[<-Jea];simp only[Jdv])
  |rw[<-Jea]
 refine Fo (ksk_fold (λn s'=>∃e,Inv X ((pq++[PD D e1])++[PKs kS e (L.take n)]) σ H s') its 0 s ⟨0,by simpa using I⟩ (λj x s' hx⟨e,J⟩=>?_) λs'⟨e,J⟩=>?_)
 .simp only[Jc4]at J⊢;let hj:j<its.length:=(Jj.mp hx).1;let hj':j<L.length:=by lia
  let⟨u,hu,r1⟩:=Vals.get rv (i:=j) (x:=L[j].1) (by rw[Jq,Jb hj'];rfl);rw[hx]at hu;cases hu;refine Fo (wpAny_attempt (F7 (hcall _ s' L[j] x (λp hp=>Gw _ (Gw _ hp)) J (Jn hj') r1) (λk s'' hkk=>?_) λ_ _ hF=>hF.elim));let⟨v,H',J',rk,ev,eH⟩:=hkk;subst ev;subst eH;obtain rfl:k=Ch L[j].2.1:=rk;let pk:=J'.pin (PKs kS e (L.take j)) (Js _ (Js _ (Jg.mpr rfl)));let s1:=C2 s''.heap kS (C7 (·.push (Ch L[j].2.1)));let ea:(Yk (L.take j)).toArray.push (Ch L[j].2.1)=(Yk (L.take (j+1))).toArray:=by
   let e2:Yk (L.take (j+1))=Yk (L.take j)++[Ch L[j].2.1]:=by
    unfold Yk;rw[Je hj',Jf];rfl
   rw[e2,Jet]
  obtain⟨c2,hc2⟩:∃c2,(s''.heap.update kS (C7 (·.push (Ch L[j].2.1)))).get? kS=some (Kb "list" (Yk (L.take (j+1))).toArray c2):=⟨_,by rw[<-ea];exact Jc5 pk.1 (·.push (Ch L[j].2.1))⟩;let hsz:(Yk (L.take j)).toArray.size<64:=by simp only[Jm,Yk,Ja,J8];lia
  try dsimp only
  refine Fo (M9 pk.1 rfl ?_ (by rw[Ei];show(Yk (L.take j)).toArray.size<=_;lia) (Jy (Bq (Array.size_push ..)) (by rw[Ei];show(Yk (L.take j)).toArray.size+1<=_;lia)));refine Fp ⟨rfl,c2,?_⟩;let J1:=(J'.unpinned (pl:=[PKs kS e (L.take j)])).turn1 fK s1;exact J1.pin1 fK hc2 (by intro v;simp)
 .simp only[Jc4]at J;rw[el,Jw]at J;let pk:=J.pin (PKs kS e L) (Js _ (Js _ (Jg.mpr rfl)))
  try dsimp only
  refine Fo (listItems_at pk.1 rfl ?_);exact Zkl J h64 fD fK hk nd rv h
theorem Zn9{f:Addr}{L:List KIt}(I:Inv X pq σ H s)(hl:SqL X.K H l (L.map (·.1)))(h64:L.length<64)(hk:∀q∈L,SqT X.K H q.2.1 (q.2.2.map V.int)/\q.2.2≠[])(nd:(L.map (·.2.2)).Nodup)(hcall:∀(pins':List (Addr×Obj))(s':Cc)(q:KIt)(u:Ca),(∀p∈pq,p∈pins')->Inv X pins' σ H s'->q∈L->RelV q.1 u->Cd (Ck X.prog X.w) X.A.in1.in1 (call (.ref f) [u]) (EP X pins' σ λv H'=>v=.ref q.2.1/\H'=H) (λ_ _=>False) s')(h:∀(D:Addr)(L':List KIt),H D=none->L'.Perm L->L'.Pairwise (λa b=>HT.lexLt a.2.2 b.2.2=true)->Q (.ref D) (upd H D (.lst (L'.map (·.1))))) :
  Cd (Ck X.prog X.w) X.A (call (.builtin "sorted") [.ref l] [(Ci "key",.ref f)]) (EP X pq σ Q) E s:=by
 let⟨its,rv,pl,_⟩:=I.list hl;let el:its.length=L.length:=by have:=rv.length;simp only[Ja]at this;lia
 refine call_function_entry_kw kind_sorted plain_sorted entry_sorted (ksk_s1 _ _) ?_;unfold Builtin.«sorted»;refine Fo (m:=checkCount "sorted" 1 1 _) (Fp ?_);refine Fo (collect_list pl.isList ?_ (by rw[Ei];lia));refine Fo (Kh ?_ (by rw[Ei];lia));let hsz:((s.heap.push (Kb "list" #[] 0)).update s.heap.objs.size (C7 (·++its.toArray))).objs.size=s.heap.objs.size+1:=by
  rw[Heap.size_update,Jgx]
 let hoL:(((s.heap.push (Kb "list" #[] 0)).update s.heap.objs.size (C7 (·++its.toArray))).push (Kb "list" its.toArray 0)).get? (s.heap.objs.size+1)=some (Kb "list" its.toArray 0):=by
  rw[<-hsz];exact Ft _ rfl
 let keep:∀b o,s.heap.get? b=some o->(((s.heap.push (Kb "list" #[] 0)).update s.heap.objs.size (C7 (·++its.toArray))).push (Kb "list" its.toArray 0)).get? b=some o:=λb o q=>by
  let hlt:b<s.heap.objs.size:=Fu q;rw[Jeu _ _ _ (by rw[hsz];exact Gd (Mq hlt)),Heap.get?_update_ne _ _ _ _ (Gd hlt),Jeu _ _ _ (Gd hlt)];exact q
 let fD:FpOk X pq H (s.heap.objs.size+1):=I.fpOk (G2 _) (I.hok.fresh (G2 _));let I1:Inv X pq σ H {s with heap:=((s.heap.push (Kb "list" #[] 0)).update s.heap.objs.size (C7 (·++its.toArray))).push (Kb "list" its.toArray 0)}:=I.kept (t':=s.toks) keep;show Cd _ _ _ _ _ {s with heap:=((s.heap.push (Kb "list" #[] 0)).update s.heap.objs.size (C7 (·++its.toArray))).push (Kb "list" its.toArray 0)};rw[hsz];generalize hD:s.heap.objs.size+1=D at *
 generalize hh:((s.heap.push (Kb "list" #[] 0)).update s.heap.objs.size (C7 (·++its.toArray))).push (Kb "list" its.toArray 0)=hp at *
 refine Fo (Cy (wpAny_call_entry_kw slot_list_sort ⟨_,hoL,rfl⟩ Jfv ?body (ksk_l1 _ _)))
 case body =>
  show Cd (Ck X.prog X.w) X.A.in1.in1 (Builtin.«list.sort» ⟨[.ref D],[(Ci "key",.ref f)]⟩) _ _ _;rw[ksk_t1];let s1:=C2 hp D (C7 λ_=>(#[]:Array Ca));obtain⟨e1,ho1⟩:∃e1,(hp.update D (C7 λ_=>(#[]:Array Ca))).get? D=some (Kb "list" #[] e1):=⟨_,Jc5 hoL λ_=>#[]⟩;let I2:=(I1.turn1 fD s1).pin1 fD ho1 (by intro v;simp);let I3:Inv X (pq++[PD D e1]) σ H {s with heap:=((hp.update D (C7 λ_=>(#[]:Array Ca))).push (Kb "tuple" its.toArray 0)).push (Kb "list" #[] 0)} :=
   I2.kept (t':=s.toks) λb o e=>Fs _ (Fs _ e)
  let hKz:(hp.update D (C7 λ_=>(#[]:Array Ca))).objs.size<=((hp.update D (C7 λ_=>(#[]:Array Ca))).push (Kb "tuple" its.toArray 0)).objs.size:=by rw[Jgx];exact G2 _
  let fK:FpOk X (pq++[PD D e1]) H ((hp.update D (C7 λ_=>(#[]:Array Ca))).push (Kb "tuple" its.toArray 0)).objs.size:=I2.fpOk hKz (I2.hok.fresh hKz);unfold ksk_tree;refine Fo (listItems_at hoL rfl ?_);refine Fo (M9 hoL rfl ?_ (by rw[Jm,Ei];lia) (Ju _));refine Fo (seqEpoch_at ho1 rfl ?_);refine Fo (wpAny_newTuple ?_ (by show its.length<=_;rw[Ei];lia));refine Fo (Kh ?_ (Ju _));refine Cy ?_;refine Zgw (L:=L) (I3.pin1 fK (Ft _ rfl) (by intro v;simp)) h64 fD fK hk nd rv hcall λs' L' p w I'=>?_;exists ·,Fp ⟨_,rfl,.ref D,_,I',rfl,h D L' fD.1 p w⟩
end
def codeφ(c:Addr)(q:Str):HO:=.ext λh=>h.CodeRec (.ref c) q
def Ve(P:Addr)(pos:Pos)(q:Str)(H:Hp):Prop :=
 ∃ps,H P=some (.tbl ps)/\TriplesOk ps.toList/\(Jfw pos ps.toList=none\/∃c,Jfw pos ps.toList=some (.ref c)/\H c=some (codeφ c q))
def S2(P:Addr)(H H':Hp):Prop:=∀b o,b≠P->H b=some o->H' b=some o
def S2.refl(P:Addr)(H:Hp):S2 P H H:=λ_ _ _ h=>h
def Ve.same{P:Addr}(t:Ve P pos q H)(s:Same H H'):Ve P pos q H':=by
 let⟨ps,a,b,c⟩:=t;exists ps,s _ _ a,b,?_;rcases c with c|⟨c',d,e⟩
 .exact .inl c
 .exact .inr ⟨c',d,s _ _ e⟩
def Bm(mg:Str->Option Ca)(h:Heap):Prop:=∃bm ob,mg "__builtins__"=some (.ref bm)/\bm≠Jdd/\h.get? bm=some ob/\ob.cls=.type "module"/\ob.dict=some Jdd/\ob.data=.plain
abbrev Ti(q:Str)(params:Arguments)(body:Expr)(scope:Scope)(pm cv ctv:Ca):Obj :=
 {cls:=.type "function",data:=.func (kla_fn "<lambda>" q params body scope [] pm cv ctv)}
section
def Zly{c:Addr}(x:h.CodeRec (.ref c) q) :Y3 P w H h c (codeφ c q) :=
 ⟨x,let⟨c',o,_,_,e,ho,_⟩:=x;⟨o,by cases e;exact ho⟩,λ_ _ a b=>a.at λo e=>b o e⟩
def Zeh{params:Arguments}{body:Expr}{scope:Scope}{c P:Addr}{R:Ca->Cc->Prop}(I:Inv X pq σ H s)(hcode:X.env.code=.ref c)(C:CodeHd X.base c P)(B:Bm X.mg X.base)(T:Ve P pos (X.env.qual++"<lambda>") H)(hcl:Jes scope X.env=pure [])(hdef:defaultsOf params X.env=([],[]))(h:∀(f c':Addr)(pm ctv:Ca)(H2:Hp)(s2:Cc),S2 P H H2->Ve P pos (X.env.qual++"<lambda>") H2->H2 c'=some (codeφ c' (X.env.qual++"<lambda>")) ->
   Inv X (pq++[(f,Ti (X.env.qual++"<lambda>") params body scope pm (.ref c') ctv)]) σ H2 s2->R (.ref f) s2) :
  Cd (Ck X.prog X.w) X.A (eval (.Lambda params body scope pos) X.env) R E s:=by
 let⟨ps,hP,ht,hc⟩:=T;let oP:s.heap.get? P=some (tabObj ps):=I.hok P _ hP;let⟨bm,ob,b1,b2,b3,b4,b5,b6⟩:=B;let gl:s.heap.Ns Ct X.mg:=I.mod.glob.keeps I.bk;let hgP:Ct≠P:=λz=>by
  let⟨o,es,ep,e,hd,_⟩:=gl;rw[z,oP]at e;cases e;cases hd
 let hbP:bm≠P:=λz=>by
  let e:=I.bk _ _ b3;rw[z,oP]at e;cases e;cases b4
 let hbG:bm≠Ct:=λz=>by
  let⟨o,es,ep,e,hd,_⟩:=gl;let e3:=I.bk _ _ b3;rw[z,e]at e3;cases e3;rw[hd]at b6;cases b6
 let BA:s.heap.BuiltinsAt X.mg P:=⟨bm,ob,b1,b2,hbG,hbP,I.bk _ _ b3,b4,b5,b6⟩;refine kla_eval hdef ?_;rcases hc with hc|⟨c',hc,hx⟩
 .refine kla_makeFunction (mg:=X.mg) hcl I.ok.glob gl hcode (C.keeps I.bk) oP ht hc hgP BA λc' ctv h' tk hx hge hlt hrec htb=>?_;let hn:H c'=none:=I.hok.fresh hge;let cP:c'≠P:=λz=>by rw[z,hP]at hn;cases hn
  let cR:(h'.push (Ti (X.env.qual++"<lambda>") params body scope ((X.mg "__name__").getD .none) (.ref c') ctv)).CodeRec (.ref c') (X.env.qual++"<lambda>"):=hrec.at λo e=>Fs _ e;let keep:∀b o,b≠P->s.heap.get? b=some o->(h'.push (Ti (X.env.qual++"<lambda>") params body scope ((X.mg "__name__").getD .none) (.ref c') ctv)).get? b=some o:=λb o n e=>Fs _ (hx b o n e);let tb:=Fs (Ti (X.env.qual++"<lambda>") params body scope ((X.mg "__name__").getD .none) (.ref c') ctv) htb;let H2e:∀b o,b≠P->H b=some o->upd (upd H P (.tbl (ps++#[Hz pos.line,Hz pos.col,.ref c']))) c' (codeφ c' (X.env.qual++"<lambda>")) b=some o:=λb o n e=>by
   rw[Zo (Zq e hn),Zo n];exact e
  let hok:HOk X.prog X.w (upd (upd H P (.tbl (ps++#[Hz pos.line,Hz pos.col,.ref c']))) c' (codeφ c' (X.env.qual++"<lambda>"))) (h'.push (Ti (X.env.qual++"<lambda>") params body scope ((X.mg "__name__").getD .none) (.ref c') ctv)):=λb u e=>by
   by_cases hb:b=c'
   .subst hb;rw[Zh]at e;cases e;exact Zly cR
   .rw[Zo hb]at e
    by_cases hb2:b=P
    .subst hb2;rw[Zh]at e;cases e;exact tb
    .rw[Zo hb2]at e;refine(I.hok b u e).stay (λd v hd q=>keep d v ?_ q) (λd q=>H2e d _ (λz=>by rw[z,hP]at q;cases q) q) λd xs q=>H2e d _ (λz=>by rw[z,hP]at q;cases q) q;rcases hd with z|z
     .rw[z];exact hb2
     .intro w;rw[w,hP]at z;cases z
  let un:Un X.fs [] H (upd (upd H P (.tbl (ps++#[Hz pos.line,Hz pos.col,.ref c']))) c' (codeφ c' (X.env.qual++"<lambda>"))) s.heap (h'.push (Ti (X.env.qual++"<lambda>") params body scope ((X.mg "__name__").getD .none) (.ref c') ctv)):=by
   let nP:∀b,H b=none->b≠P:=λb n z=>by rw[z,hP]at n;cases n
   exists λb o e n _ _=>keep b o (nP b n) e,λb o e n _ _=>⟨o.slots,keep b o (nP b n) e⟩,λb o e n _=>?_,λb o e _=>?_,λb xs q=>H2e b _ (λz=>by rw[z,hP]at q;cases q) q,λb o u q=>H2e b _ (λz=>by rw[z,hP]at q;cases q) q,λb qs q=>?_
   .let:b≠c':=Gd (Ga (Fu e) hge);rw[Zo this,Zo (nP b n)];exact n
   .by_cases hb:b=P
    .exists _,hb ▸ tb
    .exists o,keep b o hb e
   .by_cases hb:b=P
    .subst hb;rw[hP]at q;cases q;exact⟨#[Hz pos.line,Hz pos.col,.ref c'],by rw[Zo cP.symm,Zh]⟩
    .exact⟨#[],by rw[H2e b _ hb q];simp⟩
  let I2:=I.un (t':=tk) un hok;let fz:s.heap.objs.size<=h'.objs.size:=Jy hge (Bp hlt);let fn:upd (upd H P (.tbl (ps++#[Hz pos.line,Hz pos.col,.ref c']))) c' (codeφ c' (X.env.qual++"<lambda>")) h'.objs.size=none:=by
   rw[Zo (Ff hlt),Zo (λz=>Fl (Fu oP) (by rw[<-z];exact Nat.not_lt.mpr fz))];exact I.hok.fresh fz
  let fF:=I.fpOk (H':=upd (upd H P (.tbl (ps++#[Hz pos.line,Hz pos.col,.ref c']))) c' (codeφ c' (X.env.qual++"<lambda>"))) fz fn;refine h h'.objs.size c' _ ctv _ _ H2e ⟨_,by rw[Zo cP.symm,Zh],?_,.inr ⟨c',?_,Zh⟩⟩ Zh (I2.pin1 fF (Ft _ rfl) (by intro v;simp))
  .rw[Jdw];exact TriplesOk_snoc _ _ _ _ ht
  .rw[Jdw];exact codeAmong_snoc _ ht hc
 .refine kla_makeFunctionHit (mg:=X.mg) hcl I.ok.glob gl hcode (C.keeps I.bk) oP ht hc BA λctv h' tk hk hsz=>?_;let I2:Inv X pq σ H {s with heap:=h'.push (Ti (X.env.qual++"<lambda>") params body scope ((X.mg "__name__").getD .none) (.ref c') ctv),toks:=tk}:=I.kept (t':=tk) λb o e=>Fs _ (hk b o e);let fF:=I.fpOk (H':=H) hsz (I.hok.fresh hsz);exact h h'.objs.size c' _ ctv H _ (.refl _ _) ⟨ps,hP,ht,.inr ⟨c',hc,hx⟩⟩ hx (I2.pin1 fF (Ft _ rfl) (by intro v;simp))
def Zij{Pg:Ez}{K:Frag}{base:Heap}{outer:List Env}{f c':Addr}{x:Str}{params:Arguments}{body:Expr}{scope:Scope}{ctv:Ca}{u:Ca}{t:TE}(e0:Env0 Pg w K mg base A outer s H)(hr:Room 1 A)(ho:s.heap.get? f=some (Ti q params body scope pm (.ref c') ctv))(hcd:s.heap.CodeRec (.ref c') q)(S:FnScope [x] [x] scope)(hbind:Jde (kla_fn "<lambda>" q params body scope [] pm (.ref c') ctv) ⟨[u],[]⟩=pure [(x,u)])(rv:RelV v u)(hb:PE (cxOf CX0 Pg w K mg base [x] q scope f (.ref c') A outer s H E0) body t)(ht:t [some v] H Q) :
  Ho (Ck Pg w) A (.call (.ref f) ⟨[u],[]⟩) (CR CX0 outer Pg w H s Q E0) s:=by
 let KX:K.In s.heap:=e0.mod.kin.keeps λb o e=>(e0.bs b o e).1;let lim:s.heap.NoLimit:=e0.mod.nolimit.keeps λb o e=>(e0.bs b o e).1;refine kla_callFunE hr.depth ho rfl S.co S.gen rfl hcd ?_;rw[hbind];refine Fp ?_;refine L8 S.kind (λy hy=>?_) λenv he s1 x1=>?_
 .let ey:y=(x,u):=Jg.mp hy;subst ey;rcases S.par x (Jg.mpr rfl)with z|z
  .exact .inl z
  .exact .inr ⟨z,PySem.W.cellsFrom_some _ _ _ (.inl z)⟩
 .subst he;exists lim.keeps x1.toInCall.keep,kla_codeExpr ?_;let I:Inv (cxOf CX0 Pg w K mg base [x] q scope f (.ref c') A outer s H E0) [] (Tb [x] [v]) H s1:=Zbe (us:=[u]) S hr.hd e0 rfl (.cons rv .nil) x1;refine F7 (hb [] s1 (Tb [x] [v]) H Q I ht) (λr s' hs=>?_) λe s' hs=>hs;let⟨v',H',J,rv',q'⟩:=hs;exists v',H',J.os,J.bare,J.base,J.hok,rv',q'
end
def S2.sqL{K:Frag}{P:Addr}{ps:Array Ca}(e:S2 P H H')(hP:H P=some (.tbl ps)){a:Addr}(h:SqL K H a xs):SqL K H' a xs:=by
 rcases h with(h|⟨o,h⟩)|h
 .exact .inl (.inl (e _ _ (λz=>by rw[z,hP]at h;cases h) h))
 .exact .inl (.inr ⟨o,e _ _ (λz=>by rw[z,hP]at h;cases h) h⟩)
 .exact .inr h
def S2.sqT{K:Frag}{P:Addr}{ps:Array Ca}(e:S2 P H H')(hP:H P=some (.tbl ps)){a:Addr}(h:SqT K H a xs):SqT K H' a xs:=by
 rcases h with(h|⟨o,h⟩)|h
 .exact .inl (.inl (e _ _ (λz=>by rw[z,hP]at h;cases h) h))
 .exact .inl (.inr ⟨o,e _ _ (λz=>by rw[z,hP]at h;cases h) h⟩)
 .exact .inr h
def Zro(K:Frag)(P:Addr)(lpos:Pos)(qual:Str)(tb:TE)(ta:TA):TE:=λσ H Q=>ta σ H λvs H1=>∃(l:Addr)(L:List KIt),vs=[.ref l]/\SqL K H1 l (L.map (·.1))/\L.length<64 /\
 (∀q∈L,SqT K H1 q.2.1 (q.2.2.map V.int)/\q.2.2≠[])/\(L.map (·.2.2)).Nodup/\Ve P lpos qual H1/\(∀H2 q,S2 P H1 H2->q∈L->tb [some q.1] H2 λv H'=>v=.ref q.2.1/\H'=H2) /\
 ∀(H2:Hp)(D:Addr)(L':List KIt),S2 P H1 H2->Ve P lpos qual H2->H2 D=none->L'.Perm L->L'.Pairwise (λa b=>HT.lexLt a.2.2 b.2.2=true)->Q (.ref D) (upd H2 D (.lst (L'.map (·.1))))
section
theorem Zk3{e:Expr}{ta:TA}{c P:Addr}{x:Str}{params:Arguments}{body:Expr}{scope:Scope}{p lpos:Pos}(hr:Room 3 X.A)(hg:Gl X "sorted")(hm:X.mg "sorted"=none)(ha:PA X [e] ta)(hcode:X.env.code=.ref c)(C:CodeHd X.base c P)(B:Bm X.mg X.base)(hcl:Jes scope X.env=pure [])(hdef:defaultsOf params X.env=([],[]))(S:FnScope [x] [x] scope)(hbind:∀(pm cv ctv u:Ca),Jde (kla_fn "<lambda>" (X.env.qual++"<lambda>") params body scope [] pm cv ctv) ⟨[u],[]⟩=pure [(x,u)])(hb:∀(f c':Addr)(A:Kj)(outer:List Env)(s:Cc)(H:Hp),PE (cxOf CX0 X.prog X.w X.K X.mg X.base [x] (X.env.qual++"<lambda>") scope f (.ref c') A outer s H E0) body tb)(he:Cj [e] X.env=[(false,eval e X.env)]:=by rfl) :
  PE X (.Call (.Name "sorted" p) [e] [⟨some "key",.Lambda params body scope lpos,kpos⟩] pos) (Zro X.K P lpos (X.env.qual++"<lambda>") tb ta):=by
 intro pq s σ H Q I h;refine Ej (T8 I hg hm Ms ?_);refine callWith_kw (thn (ha pos pq s σ H _ I h) λus s1 hz=>?_) (by rw[he];rfl) (by rw[he];rfl);let⟨vs,H1,I1,r1,l,L,ev,hl,h64,hk,nd,T,hbo,q1⟩:=hz;subst ev;let⟨u,rfl,ru⟩:=Vals.one r1;obtain rfl:u=Ch l:=ru;let⟨ps,hP,_,_⟩:=id T;show Cd _ _ (evalAll [do let v <-eval (.Lambda params body scope lpos) X.env;Lv pos;pure v]) _ _ s1;refine wpAny_evalAll_cons (Fo (Zeh I1 hcode C B T hcl hdef λf c' pm ctv H2 s2 sT T2 hx I2=>Fo (E7 (Fp (wpAny_evalAll_nil ?_)))));show Cd _ _ (call (.builtin "sorted") [.ref l] [(Ci "key",.ref f)]) _ _ s2
 refine F7 (Zn9 (Q:=Q) (E:=X.xe) I2 (sT.sqL hP hl) h64 (λq hq=>⟨sT.sqT hP (hk q hq).1,(hk q hq).2⟩) nd (λpins' s' q u hp I' hq rv=>?_) λD L' n p w=>q1 H2 D L' sT T2 n p w) (λv s'⟨v',H',J,rv,qq⟩=>⟨v',H',J.unpinned,rv,qq⟩) λ_ _ z=>z;let hpin:=I'.pin (f,Ti (X.env.qual++"<lambda>") params body scope pm (.ref c') ctv) (Js _ (hp _ (Js _ (Jg.mpr rfl))));refine K6 (Hl (Zij (I'.env0.in1.in1) hr.in1.in1 hpin.1 (I'.hok c' _ hx).1 S (hbind pm (.ref c') ctv u) rv (hb f c' _ _ _ _) (hbo H2 q sT hq)) λr s'' hq'=>?_);cases r with
 |error e=>exact Cq hq'
 |ok fl =>
  cases fl with
  |ret u=>exact I'.after hq'
  |next=>exact Cq hq'
  |brk=>exact Cq hq'
  |cont=>exact Cq hq'
end
end L2
namespace L2
open PySem PySem.Spec PyProof.Rows
section
variable{a:Addr}{o:Obj}{xs:Array Ca}{k:Nat}
def Pc{Q:Option Ca->Cc->Prop}(hx:s.heap.get? a=some o)(hc:o.cls=.type "list")(hdat:o.data=.seq xs k)(hd:o.dict=none)(hA:A.handled=none)(h:∀h' tk e,Jg9 s.heap h' e "AttributeError"->Q none {s with heap:=h',toks:=tk}):Cd (Ck prog w) A (Jha (.ref a) "keys") Q E s:=by
 let⟨c,dct,dat,sl⟩:=o;simp only at hc hdat hd;subst hc hdat hd;let⟨hp,g,d,tk,os⟩:=s;let hT:∀tk',(⟨hp,g,d,tk',os⟩:Cc).TypeIs (.ref a) "list":=λ_=>⟨_,hx,rfl⟩;let f1:=Jeb;let f3:=F.slot_list_getattribute.lookup;let f4:=F.slot_list_getattribute.bind (.ref a);let f5:=am_list_getattr_none;let hmiss:Jdf (.type "list") "keys"=pure none:=by rw[Jfx,Jc6];kernel_rfl
 unfold Jha getAttrBy? getAttrBy
 repeat (any_goals (first|assumption|exact hT _|((with_reducible show Cd _ _ (call (Jhb "list.__getattribute__") _ _) _ _ _);refine Lr F.slot_list_getattribute (hT _) am_entry_list_getattribute (F.args_list_getattribute_2 _ _) (meets_getattribute_miss_list a xs k sl "keys" _ hmiss (by decide +kernel)) ⟨hx,hA,λh' tk' e hx'=>?_⟩)|wp_step))
 let⟨t',u',he⟩:=hx'.there;let hTe:∀tk'',(⟨h',g,d,tk'',os⟩:Cc).TypeIs (.ref e) "AttributeError":=λ_=>⟨_,he,rfl⟩;show Cd _ _ (Kx _ _ _ _ _ _ _) _ _ _;unfold Kx
 repeat (any_goals (first|assumption|exact hTe _|wp_step))
 all_goals exact h _ _ _ hx'.of
def Ql{Q:Option Ca->Cc->Prop}(hx:s.heap.get? a=some o)(hc:o.cls=.type "tuple")(hdat:o.data=.seq xs k)(hd:o.dict=none)(hA:A.handled=none)(h:∀h' tk e,Jg9 s.heap h' e "AttributeError"->Q none {s with heap:=h',toks:=tk}):Cd (Ck prog w) A (Jha (.ref a) "keys") Q E s:=by
 let⟨c,dct,dat,sl⟩:=o;simp only at hc hdat hd;subst hc hdat hd;let⟨hp,g,d,tk,os⟩:=s;let hT:∀tk',(⟨hp,g,d,tk',os⟩:Cc).TypeIs (.ref a) "tuple":=λ_=>⟨_,hx,rfl⟩;let f1:=Jeb;let f3:=F.slot_tuple_getattribute.lookup;let f4:=F.slot_tuple_getattribute.bind (.ref a);let f5:=am_tuple_getattr_none;let hmiss:Jdf (.type "tuple") "keys"=pure none:=by rw[Jfx,Jc6];kernel_rfl
 unfold Jha getAttrBy? getAttrBy
 repeat (any_goals (first|assumption|exact hT _|((with_reducible show Cd _ _ (call (Jhb "tuple.__getattribute__") _ _) _ _ _);refine Lr F.slot_tuple_getattribute (hT _) am_entry_tuple_getattribute (F.args_tuple_getattribute_2 _ _) (meets_getattribute_miss_tuple a xs k sl "keys" _ hmiss (by decide +kernel)) ⟨hx,hA,λh' tk' e hx'=>?_⟩)|wp_step))
 let⟨t',u',he⟩:=hx'.there;let hTe:∀tk'',(⟨h',g,d,tk'',os⟩:Cc).TypeIs (.ref e) "AttributeError":=λ_=>⟨_,he,rfl⟩;show Cd _ _ (Kx _ _ _ _ _ _ _) _ _ _;unfold Kx
 repeat (any_goals (first|assumption|exact hTe _|wp_step))
 all_goals exact h _ _ _ hx'.of
end
end L2
namespace L2
open PySem PySem.Spec PyProof.Rows PySem.W
def Zbk:entryFor table "dict.update.loop"=some Builtin.«dict.update.loop»:=entryFor_of_tree (by kernel_rfl)
def Zax:plainId "dict.update.loop"=true:=by decide +kernel
inductive DFill(H:Hp)(D:Addr):HO->List (V×V)->HO->Prop
 |nil {o:HO}:DFill H D o [] o
 |cons {o o' o'':HO} {k v:V} {r:List (V×V)} (h:DPut (upd H D o) D k v (upd H D o')) (t:DFill H D o' r o''):DFill H D o ((k,v)::r) o''
def Zj0(K:Cr)(H:Hp)(ys:List V)(zs:List (V×V)):Prop:=Paired (λy z=>∃t,y=.ref t/\SqT K H t [z.1,z.2]) ys zs
def SqT.upd'{a D:Addr}(h:SqT K H a xs)(n:H D=none):SqT K (upd H D o) a xs:=by
 rcases h with(h|⟨o,h⟩)|h
 .exact .inl (.inl (by rw[Zo (Zq h n)];exact h))
 .exact .inl (.inr ⟨o,by rw[Zo (Zq h n)];exact h⟩)
 .exact .inr h
section
def Um(K:Cr)(H:Hp)(h:Heap)(p it:Addr)(ys:List V)(i:Nat):Prop:=(SqL K H p ys/\h.IsListIter it p i)\/(SqT K H p ys/\h.IsTupleIter it p i)
def Um.at{p:Addr}(x:Um K H h p it ys i)(k:∀o,h.get? it=some o->h'.get? it=some o)(hl:SqL K H p ys->SqL K H' p ys)(ht:SqT K H p ys->SqT K H' p ys):Um K H' h' p it ys i:=by
 rcases x with⟨a,b⟩|⟨a,b⟩
 .exact .inl ⟨hl a,b.at k⟩
 .exact .inr ⟨ht a,b.at k⟩
def Tz{p:Addr}{x:V}{Q:Option Ca->Cc->Prop}(I:Inv X pq σ H s)(f:FpOk X pq H it)(src:Um X.K H s.heap p it ys i)(hx:ys[i]?=some x)(h:∀u s',RelV x u->Inv X pq σ H s'->Um X.K H s'.heap p it ys (i+1)->Q (some u) s'):Cd (Ck X.prog X.w) A (Lx (.ref it)) Q E s:=by
 let⟨f0,f1,f2,f3,f4,f5⟩:=f;rcases src with⟨hq,st⟩|⟨hq,st⟩
 .let⟨its,rv,p',hz⟩:=I.list hq;let⟨u,hu,ru⟩:=rv.get hx;exact Jb1 st p'.isList (x:=u) (by simpa using hu) λh' st' sb=>h u _ ru (I.turned (t':=s.toks) (λb o hb e=>(sb.2 b hb).trans e) f0 f1 f3 f4 f5) (.inl ⟨hq,st'⟩)
 .let⟨its,rv,p',hz⟩:=I.tuple hq;let⟨u,hu,ru⟩:=rv.get hx;exact Mv st (show s.heap.IsTuple p its.toArray from p') (x:=u) (by simpa using hu) λh' st' sb=>h u _ ru (I.turned (t':=s.toks) (λb o hb e=>(sb.2 b hb).trans e) f0 f1 f3 f4 f5) (.inr ⟨hq,st'⟩)
theorem Sl{p:Addr}{Q:Option Ca->Cc->Prop}(I:Inv X pq σ H s)(f:FpOk X pq H it)(hA:A.handled=none)(src:Um X.K H s.heap p it ys i)(hx:ys.length<=i)(h:∀s',Inv X pq σ H s'->Q none s'):Cd (Ck X.prog X.w) A (Lx (.ref it)) Q E s:=by
 let⟨f0,f1,f2,f3,f4,f5⟩:=f;rcases src with⟨hq,st⟩|⟨hq,st⟩
 .let⟨its,rv,p',hz⟩:=I.list hq;let hl:=rv.length;exact Jcz hA st p'.isList (by simp;lia) λh' eb=>h _ (I.turned (t':=s.toks) (λb o hb e=>eb b o hb e) f0 f1 f3 f4 f5)
 .let⟨its,rv,p',hz⟩:=I.tuple hq;let hl:=rv.length;exact Jb2 hA st (show s.heap.IsTuple p its.toArray from p') (by simp;lia) λh' eb=>h _ (I.turned (t':=s.toks) (λb o hb e=>eb b o hb e) f0 f1 f3 f4 f5)
theorem Zjd{a:Addr}{y:V}{u r:Ca}{Q:Unit->Cc->Prop}(hu:A.units<E9)(I:Inv X pq σ H s)(g:DPut H a y v H')(ry:RelV y u)(rv:RelV v r)(h:∀s',Inv X pq σ H' s'->Hk a s.heap s'.heap->Q ⟨⟩ s') :
  Cd (Ck X.prog X.w) A (dictSet a u r) Q E s:=by
 rcases g with⟨kvs,k,e,ey,l,eH⟩|⟨kvs,k,b,e,ey,eb,l,eH⟩
 .subst ey eH;let⟨z,hd,vs,rel,dd⟩:=Zp2 I.hok e;let hz:vs.length<=Cb:=by rw[<-rel.length];exact z
  let hl:(putK kvs k v).length<=Cb:=by have:=Y9 kvs k v;lia
  refine wpAny_dictSet_pairs (hsz:=hz) (Zcv ry) dd λh' dd' hs=>h _ ?_ hs;let he:∃q,h'.get? a=some q:=let⟨q,_,_,hq,_⟩:=dd';⟨q,hq⟩
  exact N7 I (by rw[e];exact Es) hs he (Zna hl hd (rel.put k rv) dd')
 .subst ey eH;cases(show u=Ch b from ry);let⟨z,hd,xs,rel,dd⟩:=Zto I.hok e;let hz:xs.length<=Cb:=by rw[<-Paired.length rel];exact z
  let hl:(putK kvs k v).length<=Cb:=by have:=Y9 kvs k v;lia
  refine wpAny_dictSet_heap (hsz:=hz) (show(Mi (Yt X.prog X.w)).room A from hu) (Qm I.hok eb) dd λh' dd' hs=>h _ ?_ hs;let⟨q,es,ep,hq,h2,h3,h4,_,h5⟩:=dd';refine N7 I (by rw[e];exact Es) hs ⟨q,hq⟩ ⟨hl,hd,_,(rel.put k eb rv).keeps λc ys ec=>?_,q,es,ep,hq,h2,h3,h4,h5⟩;rw[Zo (Rj ec e (λz=>nomatch z))];exact ec
theorem Zbm{p D:Addr}{R:Jc0->Cc->Prop}(hu:A.units+8<E9)(hA:A.handled=none)(hn:H D=none)(hit:it≠D)(fit:FpOk X pq H it) :
  ∀(zs:List (V×V))(i:Nat)(o o':HO)(s:Cc)(t:Tok),Inv X pq σ (upd H D o) s->Um X.K (upd H D o) s.heap p it ys i->Zj0 X.K H (ys.drop i) zs->DFill H D o zs o' ->
   (∀s',Inv X pq σ (upd H D o') s'->R (.ok (.ret .none)) s')->Ho (Ck X.prog X.w) A (.builtin "dict.update.loop" ⟨[.ref D,.ref it,.int i t,.none],[]⟩) R s
 |[],i,o,o',s,t,I,src,pa,df,h=>by
  cases df;let hl:ys.length<=i:=by
   let e:=Paired.length pa;simp only[Gn,Bo]at e;lia
  refine Ef Zbk ?_;rw[Cs Zax _];show Cd _ A.in1 (Lx (.ref it) >>= _) _ _ s;refine Fo (Sl I (show FpOk X pq (upd H D o) it from⟨by rw[Zo hit];exact fit.1,fit.2⟩) hA src hl λs' I'=>?_);show Cd _ A.in1 (Jgy D [] >>= _) _ _ s';exact Fo (Fp (Fp (h s' I')))
 |z::zs,i,o,o'',s,t,I,src,pa,df,h=>by
  let hil:i<ys.length:=by
   let e:=Paired.length pa;simp only[Gn,Jv]at e;lia
  rw[Bw hil]at pa;cases pa with
  |cons p1 p2 =>
   let⟨tp,ep,sq⟩:=p1;cases df with
   | @cons _ o1 _ k v _ d1 d2 =>
    refine Ef Zbk ?_;rw[Cs Zax _];show Cd _ A.in1 (Lx (.ref it) >>= _) _ _ s;let fit':∀o,FpOk X pq (upd H D o) it:=λo=>⟨by rw[Zo hit];exact fit.1,fit.2⟩;refine Fo (Tz I (fit' o) src (Jb hil) λu s1 ru I1 src1=>?_);rw[ep]at ru;obtain rfl:u=Ch tp:=ru;let⟨its,rv,⟨ob,eo,hc,n,hd⟩,_⟩:=I1.tuple (sq.upd' (o:=o) hn);cases rv with
    |cons r1 rv =>
     cases rv with
     |cons r2 rv =>
      cases rv with
      |nil =>
       rename_i uk uv
       show Cd _ A.in1 (Hw [Ch tp] _ >>= _) _ _ s1;refine Fo (Cy ?_);refine Fo (Eb ?_);unfold Jhf;refine Fo (Looks.here (show Looks (Ck X.prog X.w) s1.heap (typeOf (.ref tp)) ob.cls from(Looks.ld eo).andThen .now) ?_);rw[hc,Fw nofun];unfold Ky;refine Fo (Fo (Jej eo ?_));rw[hd];refine Fp (Fp ?_);show Cd _ A.in1 (Hw [uk,uv] (dictSet D uk uv)) _ _ s1;refine Cy (Zjd (by show A.units+1<E9;lia) I1 d1 r1 r2 λs2 I2 sb=>?_);refine Fp ⟨Kz _ (by decide +kernel),?_⟩;refine Zbm hu hA hn hit fit zs (i+1) o1 o'' s2 _ I2 (src1.at (λob' e=>(sb.2 it hit).trans e) (λq=>?_) λq=>?_) p2 d2 h
       .rcases q with(q|⟨oo,q⟩)|q
        .by_cases hpD:p=D
         .subst hpD;exact Fl d1 (λz=>by
           rw[Zh]at q;cases q;rcases z with⟨_,_,e,_⟩|⟨_,_,_,e,_⟩<;>rw[Zh]at e<;>cases e)
         .rw[Zo hpD]at q;exact .inl (.inl (by rw[Zo hpD];exact q))
        .by_cases hpD:p=D
         .subst hpD;exact Fl d1 (λz=>by
           rw[Zh]at q;cases q;rcases z with⟨_,_,e,_⟩|⟨_,_,_,e,_⟩<;>rw[Zh]at e<;>cases e)
         .rw[Zo hpD]at q;exact .inl (.inr ⟨oo,by rw[Zo hpD];exact q⟩)
        .exact .inr q
       .rcases q with(q|⟨oo,q⟩)|q
        .by_cases hpD:p=D
         .subst hpD;exact Fl d1 (λz=>by
           rw[Zh]at q;cases q;rcases z with⟨_,_,e,_⟩|⟨_,_,_,e,_⟩<;>rw[Zh]at e<;>cases e)
         .rw[Zo hpD]at q;exact .inl (.inl (by rw[Zo hpD];exact q))
        .by_cases hpD:p=D
         .subst hpD;exact Fl d1 (λz=>by
           rw[Zh]at q;cases q;rcases z with⟨_,_,e,_⟩|⟨_,_,_,e,_⟩<;>rw[Zh]at e<;>cases e)
         .rw[Zo hpD]at q;exact .inl (.inr ⟨oo,by rw[Zo hpD];exact q⟩)
        .exact .inr q
end
section
def Zou(K:Cr):List V->Hp->VK->Prop:=λxs H Q=>∃(p:Addr)(ys:List V)(zs:List (V×V))(o:HO),xs=[.ref p]/\(H p=some (.lst ys)\/H p=some (.tup ys))/\Zj0 K H ys zs/\(o=.dK []\/o=.dT []) /\
 ∀D,H D=none->∃o',DFill H D o zs o'/\Q (.ref D) (upd H D o')
theorem Uj(hr:Room 3 X.A)(hc:X.calm=true):Wr X (.type "dict") (Zou X.K):=by
 intro pq s σ H xs us Q I r h;let⟨p,ys,zs,o,rfl,hp,pa,ho,q⟩:=h;let⟨u,rfl,rx⟩:=Tl r;cases rx;let hA:X.A.handled=none:=I.ok.hd hc;let hD:H s.heap.objs.size=none:=I.hok.fresh (Jd _);let⟨o',df,q'⟩:=q _ hD;let pD:p≠s.heap.objs.size:=λz=>by
  rcases hp with e|e<;>rw[z,hD]at e<;>cases e
 refine callType_codes (Q₁:=λobj s₁=>obj=.ref s.heap.objs.size/\s₁={s with heap:=s.heap.push {cls:=.type "dict",data:=.dict #[]} }) PySem.F.kt_called_dict (PySem.F.kt_typeCall_dict_1 _) PySem.F.entry_dict_init (kt_code_dict_new _ ⟨rfl,rfl⟩) ?_;rintro obj s₁ ⟨rfl,rfl⟩;let I1:Inv X pq σ (upd H s.heap.objs.size o) {s with heap:=s.heap.push {cls:=.type "dict",data:=.dict #[]} }:=by
  rcases ho with e|e
  .subst e;exact I.laid (a:=s.heap.objs.size) (o:=.dK []) (t':=s.toks) (λ_ _ q=>Fs _ q) (Jd _) (Zep s.heap I.big)
  .subst e;exact I.laid (a:=s.heap.objs.size) (o:=.dT []) (t':=s.toks) (λ_ _ q=>Fs _ q) (Jd _) (Zeo s.heap I.big)
 let hT:(⟨s.heap.push {cls:=.type "dict",data:=.dict #[]},s.gens,s.drawn,s.toks,s.os⟩:Cc).TypeIs (.ref s.heap.objs.size) "dict":=⟨_,Ft _ rfl,rfl⟩;refine⟨hT,PySem.F.args_dict_init_2 _ _,?_⟩;unfold Builtin.«dict.__init__»;refine Fo ?_;unfold Jgz;refine Fo (wpAny_notOrdered_dict hT ?_);show Cd _ _ (pure (s.heap.objs.size,[Ch p])) _ _ _;refine Fp ?_;show Cd _ _ (Ja1 "dict.__init__" s.heap.objs.size (.ref p) [] .none) _ _ _;unfold Ja1;let hA2:X.A.in1.in1.handled=none:=hA;let fin:∀(s2:Cc)(it:Addr),it≠s.heap.objs.size->FpOk X pq H it->Inv X pq σ (upd H s.heap.objs.size o) s2->Um X.K (upd H s.heap.objs.size o) s2.heap p it ys 0 ->
   Ho (Ck X.prog X.w) X.A.in1 (.builtin "dict.update.loop" ⟨[.ref s.heap.objs.size,.ref it,Hz 0,.none],[]⟩) (wants (λr s₂=>r=.none/\EP X pq σ Q (.ref s.heap.objs.size) s₂) X.xe) s2:=λs2 it nit fit I2 src =>
  Zbm (A:=X.A.in1) (by have:=hr.units;show X.A.units+1+8<E9;lia) (show X.A.in1.handled=none from hA) hD nit fit zs 0 o o' s2 _ I2 src (by simpa using pa) df λs' I'=>⟨rfl,.ref s.heap.objs.size,_,I',rfl,q'⟩
 let nq:∀it:Addr,Code.quiet (.builtin "dict.update.loop" ⟨[.ref s.heap.objs.size,.ref it,Hz 0,.none],[]⟩)=true:=λit=>Kz _ (by decide +kernel);rcases hp with hp|hp
 .let⟨hz,its,n,rv,eo⟩:=I1.hok p _ (show upd H s.heap.objs.size o p=some (.lst ys)by rw[Zo pD];exact hp);refine Fo (Ks (show Jhc _ (.ref p) "list" from⟨_,eo,rfl⟩) ?_);rw[Fw nofun];refine Fo (Pc eo rfl rfl rfl hA2 λh' tk e ne=>?_);let I2:Inv X pq σ (upd H s.heap.objs.size o) {s with heap:=h',toks:=tk}:=I1.kept ne.keeps;simp only[Jec,if_true];refine Fo (Kt (Fo (E2 (s:={s with heap:=h',toks:=tk}) ⟨_,ne.keeps _ _ eo,rfl,n,rfl⟩ (Fp ⟨nq _,?_⟩))));let hsz:s.heap.objs.size<h'.objs.size:=Fu (ne.keeps _ _ (Ft (o:={cls:=.type "dict",data:=.dict #[]}) s.heap rfl))
  let hle:({s with heap:=h',toks:=tk}:Cc).heap.objs.size<=h'.objs.size:=Jd _;let fI:=I2.fpOk (H':=H) hle (I.hok.fresh (Bp hsz));refine fin _ _ (Ff hsz) fI (I2.kept (t':=tk) λb o e=>Fs _ e) (.inl ⟨.inl (.inl (by rw[Zo pD];exact hp)),⟨_,Ft _ rfl,rfl,rfl⟩⟩)
 .let⟨hz,its,rv,ob,eo,hcl,n,hda,hdi⟩:=I1.hok p _ (show upd H s.heap.objs.size o p=some (.tup ys)by rw[Zo pD];exact hp);refine Fo (Ks (show Jhc _ (.ref p) "tuple" from⟨_,eo,hcl⟩) ?_);rw[Fw nofun];refine Fo (Ql eo hcl hda hdi hA2 λh' tk e ne=>?_);let I2:Inv X pq σ (upd H s.heap.objs.size o) {s with heap:=h',toks:=tk}:=I1.kept ne.keeps;simp only[Jec,if_true];refine Fo (Kt (Fo (Jd0 (s:={s with heap:=h',toks:=tk}) (show Heap.IsTuple h' p its.toArray from⟨_,ne.keeps _ _ eo,hcl,n,hda⟩) (Fp ⟨nq _,?_⟩))));let hsz:s.heap.objs.size<h'.objs.size:=Fu (ne.keeps _ _ (Ft (o:={cls:=.type "dict",data:=.dict #[]}) s.heap rfl))
  let hle:({s with heap:=h',toks:=tk}:Cc).heap.objs.size<=h'.objs.size:=Jd _;let fI:=I2.fpOk (H':=H) hle (I.hok.fresh (Bp hsz));refine fin _ _ (Ff hsz) fI (I2.kept (t':=tk) λb o e=>Fs _ e) (.inr ⟨.inl (.inl (by rw[Zo pD];exact hp)),⟨_,Ft _ rfl,rfl,rfl⟩⟩)
end
end L2
namespace L2
open PySem PySem.Spec PyProof.Rows
section
variable{e:Expr}{st:Option Expr}{ts:TO}{p2:Pos}
def tRev(K:Cr)(te:TE)(ts:TO):TE:=λσ H Q=>te σ H λx H1=>ts σ H1 λk H2=>k=some (-1)/\∃a xs,x=.ref a/\SqL K H2 a xs/\∀p,H2 p=none->Q (.ref p) (upd H2 p (.lst xs.reverse))
theorem Zm1(he:PE X e te)(hs:PO X st ts)(hsub:∀o i,∃ops,Mz (.Slice none none st p2) false o i=Jh5 ops (Lw o i)):PE X (.Subscript e (.Slice none none st p2) pos) (tRev X.K te ts):=by
 intro pq s σ H Q I h;refine Jeo (thn (he pq s σ H _ I h) λv s1 hz=>?_);let⟨x,H1,I1,r1,q1⟩:=hz;refine wpAny_Slice ?_;rw[Jd7];refine Fp ?_;refine Fp ?_;refine thn (hs pq s1 σ H1 _ I1 q1) λvk s3 hz=>?_;let⟨k,H3,I3,pk,ek,a,xs,ex,hx,q⟩:=hz;subst ek;subst ex;cases r1;let I4:Inv X pq σ H3 {s3 with heap:=s3.heap.push {cls:=.type "slice",data:=.fields #[.none,.none,vk]} }:=I3.kept (t':=s3.toks) λb ob q=>Fs _ q;let⟨its,r,ht,hz⟩:=I4.list hx;let hlen:=r.length;show Cd (Ck X.prog X.w) X.A (My e (.Slice none none st p2) (.ref a) (.ref s3.heap.objs.size)) (EP X pq σ Q) X.xe {s3 with heap:=s3.heap.push {cls:=.type "slice",data:=.fields #[.none,.none,vk]} }
 let⟨ops,hop⟩:=hsub (.ref a) (.ref s3.heap.objs.size);refine tail_any (ops:=ops) ht.isList.typeIs slot_list_getitem.lookup ?_ hop;refine Mo ht.isList (Jd8 ..) .none .none pk nofun ?_ (by rw[Jm]<;>lia);rw[W.krv_pick];refine⟨.ref _,_,I4.laid (t':=s3.toks) (o:=.lst xs.reverse) (λb ob q=>Fs _ q) (Jd _) ?_,rfl,q _ (I4.hok.fresh (Jd _))⟩;refine⟨by rw[List.length_reverse];exact hz,its.reverse,0,?_,?_⟩
 .let rev:∀{a:List V}{b:List Ca},Vals a b->Vals a.reverse b.reverse:=by
   intro a b h
   induction h with
   |nil=>exact .nil
   |cons h1 h2 ih=>rw[List.reverse_cons,List.reverse_cons];exact ih.append (.cons h1 .nil)
  exact rev r
 .exact Ft _ rfl
end
def mxOf:Option Int->List Int->Option Int
 |c,[]=>c
 |none,n::r=>mxOf (some n) r
 |some c,n::r=>mxOf (some (if c<n then n else c)) r
def Xa:Option Ca->Array Ca
 |none=>#[]
 |some v=>#[v,v]
section
def Vy(c:Option Ca):(Xa c).size<=Cb:=by rw[Ei];cases c<;>simp[Xa]
abbrev lst0(vs:Array Ca)(c:Nat):Obj:={cls:=.type "list",data:=.seq vs c}
theorem Rv{p B:Addr}{d:Ca}{R:Jc0->Cc->Prop}(hA:A.handled=none)(hBi:it≠B)(fit:FpOk X pq H it)(fB:FpOk X pq H B) :
  ∀(k:Nat)(i:Nat)(cur:Option Int)(cv:Option Ca)(s:Cc)(c:Nat),ns.length=i+k->Inv X pq σ H s->Um X.K H s.heap p it (ns.map V.int) i->s.heap.get? B=some (lst0 (Xa cv) c) ->
   (match cur,cv with|none,none=>True|some n,some v=>∃t,v=C0 n t|_,_=>False) ->
   (∀s' u,Inv X pq σ H s'->(match mxOf cur (ns.drop i)with|none=>u=d|some n=>∃t,u=C0 n t)->R (.ok (.ret u)) s') ->
   Ho (Ck X.prog X.w) A (.builtin "max.loop" ⟨[.ref it,.none,.ref B],[(Ci "default",d)]⟩) R s
 |0,i,cur,cv,s,c,hk,I,src,hB,hc,h=>by
  let hname:(Ew "max"++Ew ".loop":String)="max.loop":=by decide
  refine Ef Jb5 ?_;rw[Cs Et _];show Cd _ A.in1 (Ky (.ref B) >>= _) _ _ s;refine Fo (wpAny_seqItems hB rfl ?_);show Cd _ A.in1 (tryCatch (Lx (.ref it)) _ >>= _) _ _ s;refine Fo (Eb (F7 (Sl (Q:=λr s'=>r=none/\Inv X pq σ H s'/\s'.heap.get? B=some (lst0 (Xa cv) c)) (I.pin1 fB hB (by intro v;simp)) (fit.snoc hBi.symm) hA src (by simp;lia) λs' I'=>⟨rfl,I'.unpinned,(I'.pin (B,lst0 (Xa cv) c) (by simp)).1⟩) (λr s' hz=>?_) λ_ _ z=>z));let⟨er,I',hB'⟩:=hz;subst er;let hd:ns.drop i=[]:=List.drop_eq_nil_of_le ()
  rw[hd]at h;cases cur with
  |none =>
   cases cv with
   |some v=>exact hc.elim
   |none =>
    refine Fo (Kt (Fp ?_));exact h s' d I' rfl
  |some n =>
   cases cv with
   |none=>exact hc.elim
   |some v =>
    show Cd _ A.in1 (updateSeq B (λ_=>#[]) >>= _) _ _ _;refine Fo (Eg hB' rfl (Fo (F8 (Fp ?_))) (Vy _));exact h _ v (I'.turn1 fB (C2 _ _ _)) hc
 |k+1,i,cur,cv,s,c,hk,I,src,hB,hc,h=>by
  let hname:(Ew "max"++Ew ".loop":String)="max.loop":=by decide
  let hil:i<ns.length:=by lia
  refine Ef Jb5 ?_;rw[Cs Et _];show Cd _ A.in1 (Ky (.ref B) >>= _) _ _ s;refine Fo (wpAny_seqItems hB rfl ?_);show Cd _ A.in1 (tryCatch (Lx (.ref it)) _ >>= _) _ _ s;refine Fo (Eb (F7 (Tz (x:=V.int ns[i]) (Q:=λr s'=>∃u,r=some u/\RelV (V.int ns[i]) u/\Inv X pq σ H s'/\s'.heap.get? B=some (lst0 (Xa cv) c)/\Um X.K H s'.heap p it (ns.map V.int) (i+1)) (I.pin1 fB hB (by intro v;simp)) (fit.snoc hBi.symm) src (by rw[Jq,Jb hil];rfl)
   λu s' ru I' src'=>⟨u,rfl,ru,I'.unpinned,(I'.pin (B,lst0 (Xa cv) c) (by simp)).1,src'⟩) (λr s'⟨u,er,ru,I',hB',src'⟩=>?_) λ_ _ z=>z))
  subst er;let⟨t,eu⟩:=ru;subst eu;rw[Bw hil]at h;let st:=λ(f:Obj->Obj)=>C2 s'.heap B f;cases cur with
  |none =>
   cases cv with
   |some v=>exact hc.elim
   |none =>
    show Cd _ A.in1 (updateSeq B (λ_=>#[C0 ns[i] t,C0 ns[i] t]) >>= _) _ _ _;refine Fo (Eg hB' rfl ?_ (Vy _));rw[hname];refine Fp ⟨C4 Et _,Rv hA hBi fit fB k (i+1) (some ns[i]) (some (C0 ns[i] t)) _ _ () (I'.turn1 fB (st _)) (src'.at (λob e=>((st _).2 it hBi).trans e) id id) (Cu _ hB' rfl) ⟨t,rfl⟩ ?_⟩;simpa only[mxOf]using h
  |some n =>
   cases cv with
   |none=>exact hc.elim
   |some v =>
    let⟨t',hv⟩:=hc;subst hv;show Cd _ A.in1 (tryCatch (Hw [C0 ns[i] t,C0 ns[i] t] (richCompare .Gt (C0 ns[i] t) (C0 n t') >>= _)) _ >>= _) _ _ _;refine Fo (Eb (Cy (Fo (show Cd (Ck X.prog X.w) A.in1 (Eo .Gt (C0 ns[i] t) (C0 n t')) _ _ _ from Jh8 ?_))));refine Fo (Cy (Ep ?_));refine Fo (F8 (Fp ?_))
    by_cases hlt:n<ns[i]
    .simp only[hlt,decide_true,if_true];refine Fo (Eg hB' rfl (Fo (F8 ?_)) (Vy _));rw[hname];refine Fp ⟨C4 Et _,Rv hA hBi fit fB k (i+1) (some ns[i]) (some (C0 ns[i] t)) _ _ () (I'.turn1 fB (st _)) (src'.at (λob e=>((st _).2 it hBi).trans e) id id) (Cu _ hB' rfl) ⟨t,rfl⟩ ?_⟩;simpa only[mxOf,hlt,if_true]using h
    .simp only[hlt,decide_false,Gk,if_false];refine Fo (F8 ?_);rw[hname];refine Fp ⟨C4 Et _,Rv hA hBi fit fB k (i+1) (some n) (some (C0 n t')) _ _ () I' src' hB' ⟨t',rfl⟩ ?_⟩;simpa only[mxOf,hlt,if_false]using h
end
theorem Pz{id:String}{b:Builtin}{args:List Ca}{Q:Ca->Cc->Prop}(hk:builtinKind id=none)(hp:plainId id=true)(hb:entryFor table id=some b)(ha:argsOk id ⟨args,kw⟩)(hc:Cd (Ck prog w) A.in1 (b ⟨args,kw⟩) (λfin s'=>match fin with
   |.done f=>(match(Except.ok f:Jc0)with|.ok (.ret v)=>Q v s'|.ok _=>False|.error e=>E e s')
   |.again c'=>c'.quiet=true/\Ho (Ck prog w) A c' (λr s'=>match r with|.ok (.ret v)=>Q v s'|.ok _=>False|.error e=>E e s') s') E s) :
  Cd (Ck prog w) A (call (.builtin id) args kw) Q E s:=by
 refine K6 (Jdk hp hb ?_);simp only[checkBuiltinCall,hk];cases hsig:Manifest.signature? id with
 |none=>exact Fp hc
 |some sig =>
  let ha':Bind.checkArgs id sig ⟨args,kw⟩=pure ⟨⟩:=by simpa only[argsOk,hsig]using ha
  simp only[ha'];exact Fp hc
section
variable{e d:Expr}{ta tk:TA}{p:Pos}
def Zn6(K:Cr)(ta tk:TA):TE:=λσ H Q=>ta σ H λvs H1=>tk σ H1 λds H2=>∃(a:Addr)(ns:List Int)(n0:Int),vs=[.ref a]/\ds=[.int n0]/\SqL K H2 a (ns.map V.int)/\Q (.int ((mxOf none ns).getD n0)) H2
theorem Zoz(hc:X.calm=true)(hg:Gl X "max")(hm:X.mg "max"=none)(ha:PA X [e] ta)(hk:PK X [⟨some "default",d,kpos⟩] tk)(he:Cj [e] X.env=[(false,eval e X.env)]:=by rfl) :
  PE X (.Call (.Name "max" p) [e] [⟨some "default",d,kpos⟩] pos) (Zn6 X.K ta tk):=by
 intro pq s σ H Q I h;refine Ej (T8 I hg hm E8 ?_);refine callWith_kw (thn (ha pos pq s σ H _ I h) λus s1 hz=>?_) (by rw[he];rfl) (by rw[he];rfl);let⟨vs,H1,I1,r1,q1⟩:=hz;refine thn (hk pos pq s1 σ H1 _ I1 q1) λws s2 hz=>?_;let⟨zs,H2,I2,rz,a,ns,n0,ev,ez,hl,q⟩:=hz;subst ev;subst ez;let⟨u,rfl,ru⟩:=Vals.one r1;obtain rfl:u=Ch a:=ru;let⟨dv,rfl,t0,rfl⟩:=Vals.one rz;let hname:(Ew "max"++Ew ".loop":String)="max.loop":=by decide
 show Cd _ _ (call (.builtin "max") [.ref a] [(Ci "default",.int n0 t0)]) _ _ s2;refine Pz PySem.F.kind_max PySem.F.plain_max PySem.F.entry_max (by unfold argsOk;kernel_rfl) ?_;show Cd _ X.A.in1 (C3 "max" ["key","default"] 0 ⟨[],[(Ci "default",.int n0 t0)]⟩ >>= _) _ _ s2;refine Fo (wpAny_of_eq (show C3 "max" ["key","default"] 0 ⟨[],[(Ci "default",.int n0 t0)]⟩=pure [none,some (.int n0 t0)]from rfl) ?_);refine Fo (Fp ?_);let⟨its,rv,pl,hz⟩:=I2.list hl;refine Fo (E2 pl.isList ?_);refine Fo (Kh ?_ (Ju _))
 rw[hname];let I3:Inv X pq σ H2 {s2 with heap:=(s2.heap.push {cls:=.type "list_iterator",data:=.fields #[.ref a,.int 0 0]}).push (lst0 #[] 0)}:=I2.kept (t':=s2.toks) λb o e=>Fs _ (Fs _ e);let hit:FpOk X pq H2 s2.heap.objs.size:=I2.fpOk (Jd _) (I2.hok.fresh (Jd _));let hle:s2.heap.objs.size<=(s2.heap.push {cls:=.type "list_iterator",data:=.fields #[.ref a,.int 0 0]}).objs.size:=by rw[El];exact G2 _
 let hB:=I2.fpOk (H':=H2) hle (I2.hok.fresh hle);let nB:s2.heap.objs.size≠(s2.heap.push {cls:=.type "list_iterator",data:=.fields #[.ref a,.int 0 0]}).objs.size:=by rw[El];exact Gd (Bc _)
 refine Fp ⟨C4 Et _,Rv (A:=X.A) (I2.ok.hd hc) nB hit hB ns.length 0 none none _ 0 () I3 (.inl ⟨hl,⟨_,Fs _ (Ft _ rfl),rfl,rfl⟩⟩) (Ft _ rfl) trivial λs' u I' hu=>?_⟩;rw[B7]at hu;exists _,H2,I',?_,q;cases hm:mxOf none ns with
 |none=>rw[hm]at hu;exists t0,hu
 |some n=>rw[hm]at hu;exact hu
end
section
def Tt{t sl:Addr}{items:Array Ca}{vl vu:Ca}{Q:Ca->Cc->Prop}(ht:IsTup s.heap t items)(hs:s.heap.IsSliceOf sl vl vu .none)(pl:Jd5 vl lo)(pu:Jd5 vu hi)(hw:HT.sIx items.size 0 lo=0/\HT.sIx items.size items.size hi=items.size)(h:Q (.ref t) s):Cd (Ck prog w) A (Lw (.ref t) (.ref sl)) Q E s:=by
 let⟨os,hos,hcs,hds⟩:=id hs;let hTs:s.TypeIs (.ref sl) "slice":=⟨os,hos,hcs⟩;unfold Lw
 try with_reducible refine Cy ?_
 first|refine Fo (Fp ?_)|skip
 refine Fo (Jen ht.typeIs nofun ?_);refine Fo (Mx (name:=Ci "__getitem__") ht.typeIs C8
  (Lh C8 ht.typeIs Jdt ?_ (Jd6 _ _)))
 show Cd _ _ (Ma (.ref t) >>= _) _ _ s;refine Fo (tupleItemsOf_ ht ?_);refine Fo (Ks hTs ?_);rw[Fw nofun];refine Fo (HT.sliceApplied_gen hs pl pu ?_);show Cd _ _ (if(((HT.sIx items.size 0 lo:Nat):Int)==0&&(1:Int)==1&&(HT.sIx items.size items.size hi-HT.sIx items.size 0 lo)==items.size)=true then _ else _) _ _ s;let hyes:((((HT.sIx items.size 0 lo:Nat):Int)==0&&(1:Int)==1&&(HT.sIx items.size items.size hi-HT.sIx items.size 0 lo)==items.size)=true):=by
  rw[hw.1,hw.2];simp
 rw[Fw hyes];unfold Jf2;refine Fo ?_
 first
  |exact Fo (Ks ht.typeIs (Fp (by rw[Fw nofun];exact Fo (Kt (Fp ⟨_,rfl,Fp h⟩)))))
  |exact Fo (Ks ht.typeIs (Fp (by simp;exact Fo (Kt (Fp ⟨_,rfl,Fp h⟩)))))
end
section
def rSlW(K:Cr):V->Option Int->Option Int->Hp->VK->Prop:=λx lo hi H Q=>∃a xs,x=.ref a/\SqT K H a xs /\
 ((cutV xs lo hi=xs->Q (.ref a) H)/\∀p,H p=none->Q (.ref p) (upd H p (.tup (cutV xs lo hi))))
def Zca:SlR X (rSlW X.K):=by
 intro pq s σ H x v vl vu lo hi sl Q I rx hs pl pu h;let⟨a,xs,rfl,hx,q0,q⟩:=h;cases rx;let⟨its,r,ht,hz⟩:=I.tuple hx;let hlen:its.toArray.size=xs.length:=by rw[Jm];exact r.length.symm
 exists "tuple",_,C8.lookup,ht.typeIs,?_
 by_cases hw:HT.sIx xs.length 0 lo=0/\HT.sIx xs.length xs.length hi=xs.length
 .refine Tt ht hs pl pu (by rw[hlen];exact hw) ⟨.ref a,H,I,rfl,q0 ?_⟩;unfold cutV;rw[hw.1,hw.2];simp
 .refine HT.getItem_tuple_cut ht hs pl pu (by rw[hlen];exact hw) ?_ (by rw[hlen];exact hz);rw[hlen];exists .ref s.heap.objs.size,_,I.laid (t':=s.toks) (o:=.tup (cutV xs lo hi)) (λb ob q=>Fs _ q) (Jd _) ?_,rfl,q _ (I.hok.fresh (Jd _));exists Jy (Tu xs lo hi) hz,_,(r.drop (HT.sIx xs.length 0 lo)).take (HT.sIx xs.length xs.length hi-HT.sIx xs.length 0 lo),Up.new _ _
end
def Met(P:Ez)(w:Hm)(K:Cr)(mg:Str->Option Ca)(base:Heap)(C:Addr)(m:Str)(k:Nat)(ps:List Str)(sp:Sp):Prop :=
 ∃f fd,Cls K C/\Meth K C m f/\FnOk P w K mg base CX0 k f fd ps sp/\Vo K fd ps []
def Mkr(P:Ez)(w:Hm)(K:Cr)(mg:Str->Option Ca)(base:Heap)(x:Str)(C:Addr)(k:Nat)(ps:List Str)(sp:Sp):Prop :=
 ∃f fd,Mk K C f/\FnOk P w K mg base CX0 k f fd ps sp/\mg x=some (.ref C)/\Vo K fd ps []
section
variable{k:Nat}{x m:Str}{p:Pos}{e o:Expr}{t:TA}
def Qf{pl:Sem Bool}(he:PE X o ta)(M:Met X.prog X.w X.K X.mg X.base C m k ps sp)(hr:Room k X.A)(ha:PA X (e::es) t)(hst:Cj (e::es) X.env=(false,eval e X.env)::Cj es X.env:=by rfl)(hpl:(Ht pos (Cj es X.env)).any (·.1)=false:=by rfl)(ht:eval (.Call (.Attribute o m apos) (e::es) [] pos) X.env=(do
   let ov <-eval o X.env
   Lv apos.atName
   let(f,first) <-Hw [ov] (Lz ov m pl)
   Jd4 pos f first (Ht pos (Cj (e::es) X.env)) (Lm pos (Hq [] X.env))):=by rfl) :
  PE X (.Call (.Attribute o m apos) (e::es) [] pos) (Nb C m sp [] E0 ta t):=by
 let⟨f,fd,c,hm,F,hb⟩:=M;exact Zhs he c hm F hr hb .nil Zhx ha hst hpl ht
def Zsv{pl:Sem Bool}(he:PE X o ta)(M:Met X.prog X.w X.K X.mg X.base C m k ps sp)(hr:Room k X.A)(ht:eval (.Call (.Attribute o m apos) [] [] pos) X.env=(do
   let ov <-eval o X.env
   Lv apos.atName
   let(f,first) <-Hw [ov] (Lz ov m pl)
   Jd4 pos f first (Ht pos (Cj [] X.env)) (Lm pos (Hq [] X.env))):=by rfl) :
  PE X (.Call (.Attribute o m apos) [] [] pos) (Nb C m sp [] E0 ta tNil):=by
 let⟨f,fd,c,hm,F,hb⟩:=M;exact Zk5 he c hm F hr hb .nil Zhx ht
def Zsx(M:Mkr X.prog X.w X.K X.mg X.base x C k ps sp)(hr:Room (k+1) X.A)(hg:Gl X x)(ha:PA X (e::es) t)(hdb:(x==("__debug__":Str))=false:=by decide)(he:Cj (e::es) X.env=(false,eval e X.env)::Cj es X.env:=by rfl)(hpl:(Ht pos (Cj es X.env)).any (·.1)=false:=by rfl):PE X (.Call (.Name x p) (e::es) [] pos) (Ze1 C sp [] E0 t):=by
 let⟨f,fd,hm,F,g,hb⟩:=M;exact Zo0 hm F hr hg g hb .nil Zhx ha hdb he hpl
end
def Fun.okC{base:Heap}{x:Str}{f:Addr}{kV:Ca}{k:Nat}(lk:K.lookup f=some ⟨oc,od,.func (Lc x qual (Y4 st) (Yi st) (Zg st) .none kV doc pm an cdv ct),osl⟩)(hcd:Ln K cdv qual=true)(S:FnScope N ps (Zg st))(len:∀vs H Q E,sp vs H Q E->vs.length=ps.length)(hbody:∀(A:Kj)(outer:List Env)(s:Cc)(H:Hp)(vs:List V)(Q:VK)(E:XK),Room k (A.deeper (Hf qual (Zg st) s.heap.objs.size f cdv))->sp vs H Q E ->
   ∃t,PSs (cxOf CX0 P w K mg base N qual (Zg st) f cdv A outer s H E).nox (Yi st) t/\t {nx:=λ_ H'=>Q .non H',rt:=Q} (Tb N vs) H) :
  FnOk P w K mg base CX0 (k+1) f (Lc x qual (Y4 st) (Yi st) (Zg st) .none kV doc pm an cdv ct) ps sp :=
 Zlv lk hcd S len λA outer s H vs Q E hr hsp=>by
  let⟨t,h,q⟩:=hbody A outer s H vs Q E hr hsp;exists t,h.nox,q
abbrev Pr:=Int×List Int
variable{L S U:List L2.Pr}
def TupK(H H':Hp):Prop:=∀b xs,H b=some (.tup xs)->H' b=some (.tup xs)
def TupK.trans(a:TupK H H1)(b:TupK H1 H2):TupK H H2:=λc xs h=>b c xs (a c xs h)
def Same.tk(s:Same H H'):TupK H H':=λb xs h=>s b _ h
def Grow.tk{p:Addr}(g:Grow p H H')(e:H p=some (.lst xs)):TupK H H':=λb ys h=>g b _ h (Rj h e λz=>by cases z)
def S2.tk{P:Addr}(s:S2 P H H'){ps:Array Ca}(e:H P=some (.tbl ps)):TupK H H':=λb xs h=>s b _ (Rj h e λz=>by cases z) h
def Zfv(H:Hp)(v:V)(w:List Int):Prop:=∃t,v=.ref t/\H t=some (.tup (w.map V.int))
def Zae(H:Hp)(v:V)(p:Pr):Prop:=∃t tw,v=.ref t/\H t=some (.tup [.int p.1,.ref tw])/\H tw=some (.tup (p.2.map V.int))
def Zfv.tk{w:List Int}(h:Zfv H v w)(s:TupK H H'):Zfv H' v w:=by
 let⟨t,e,a⟩:=h;exists t,e,s _ _ a
def Zae.tk{p:Pr}(h:Zae H v p)(s:TupK H H'):Zae H' v p:=by
 let⟨t,tw,e,a,b⟩:=h;exists t,tw,e,s _ _ a,s _ _ b
abbrev Wp(H:Hp):List V->List (List Int)->Prop:=Paired (Zfv H)
abbrev Prs(H:Hp):List V->List Pr->Prop:=Paired (Zae H)
def Wp.tk(h:Wp H vs ws)(s:TupK H H'):Wp H' vs ws:=Paired.mapP h λ_ _ z=>z.tk s
def Prs.tk(h:Prs H vs L)(s:TupK H H'):Prs H' vs L:=Paired.mapP h λ_ _ z=>z.tk s
theorem Paired.at{α:Type}{F:α->β->Prop}:∀{l:List α}{m:List β},Paired F l m->∀{i:Nat}(h1:i<l.length)(h2:i<m.length),F l[i] m[i]
 |_,_,.nil,_,h,_=>Fl h (Gp _)
 |_,_,.cons a r,0,_,_=>a
 |_,_,.cons a r,i+1,h1,h2=>Paired.at r (i:=i) (by simpa using h1) (by simpa using h2)
theorem Paired.snoc{α:Type}{F:α->β->Prop}{x:α}{y:β}(h:F x y):∀{l:List α}{m:List β},Paired F l m->Paired F (l++[x]) (m++[y]):=by
 intro _ _ hz9;cases hz9 with
 |nil=>
  exact .cons h .nil
 |cons a r=>
  exact .cons a (Paired.snoc h r)
theorem Paired.app{α:Type}{F:α->β->Prop}{l':List α}{m':List β}(h:Paired F l' m'):∀{l:List α}{m:List β},Paired F l m->Paired F (l++l') (m++m'):=by
 intro _ _ hz9;cases hz9 with
 |nil=>
  exact h
 |cons a r=>
  exact .cons a (Paired.app h r)
theorem Paired.tak{α:Type}{F:α->β->Prop}:∀{l:List α}{m:List β}(n:Nat),Paired F l m->Paired F (l.take n) (m.take n)
 |_,_,0,_=>by rw[Bu,Bu];exact .nil
 |_,_,n+1,.nil=>.nil
 |_,_,n+1,.cons a r=>.cons a (Paired.tak n r)
theorem Paired.drp{α:Type}{F:α->β->Prop}:∀{l:List α}{m:List β}(n:Nat),Paired F l m->Paired F (l.drop n) (m.drop n)
 |_,_,0,h=>h
 |_,_,n+1,.nil=>.nil
 |_,_,n+1,.cons a r=>Paired.drp n r
def Zqq(a b:Pr):Prop:=a.1≠b.1/\¬ a.2<+:b.2/\¬ b.2<+:a.2
def Free(L:List Pr):Prop:=L.Pairwise Zqq
def Free.get(h:Free L){j:Nat}(hi:i<L.length)(hj:j<L.length)(hij:i<j):Zqq L[i] L[j]:=Bh.mp h i j hi hj hij
def Zh6(p q:Pr):V:=if p.1=q.1 then .str (Ci "twice")else if p.2.take (min p.2.length q.2.length)=q.2.take (min p.2.length q.2.length)then .str (Ci "begins")else .non
def Ze9{p q:Pr}(h:Zqq p q):Zh6 p q=.non:=by
 unfold Zh6;rw[Fv h.1,Fv];intro e;rcases Nat.le_total p.2.length q.2.length with l|l
 .rw[B2 l,Jw]at e;exact h.2.1 (e ▸ Bz _ _)
 .rw[Jff l,Jw]at e;exact h.2.2 (e ▸ Bz _ _)
theorem N6:∀(a b:List Int),E1 (a.map Kg) (b.map Kg)=decide (a=b)
 |[],[]=>by simp[E1]
 |[],_::_=>by simp[E1]
 |_::_,[]=>by simp[E1]
 |x::a,y::b=>by
  simp only[Jo,E1,C1,N6 a b]
  by_cases h:x=y
  .subst h;simp
  .simp[h]
def Zpz(a b:List Int):C1 (.tuple (a.map Kg)) (.tuple (b.map Kg))=decide (a=b):=by
 simp only[C1,N6]
def Zp0(a b:List Int):C1 (.list (a.map Kg)) (.list (b.map Kg))=decide (a=b):=by
 simp only[C1,N6]
def Zat(ns:List Int):Shp 1 (.tuple (ns.map Kg)):=R8 λd hd=>by
 let⟨i,_,rfl⟩:=Jh.mp hd;exact Ng i
def Zc9(w:List Int){j:Int}(h0:0<=j)(h1:j<=w.length):cutV (w.map V.int) none (some j)=(w.take j.toNat).map V.int:=by
 rw[Zjf h0 (by rw[Ja];exact h1),By]
def Zmi:Sp:=λvs H Q _=>∃v1 v2 p q,vs=[v1,v2]/\Zae H v1 p/\Zae H v2 q/\p.2.length<=1000/\q.2.length<=1000/\∀H',Same H H'->Q (Zh6 p q) H'
def S1(H:Hp)(a:Addr)(L:List Pr):Prop:=∃vs,H a=some (.lst vs)/\Prs H vs L
def S1.same{a:Addr}(h:S1 H a L)(s:Same H H'):S1 H' a L:=by
 let⟨vs,e,p⟩:=h;exists vs,s _ _ e,p.tk s.tk
def Fits(L:List Pr):Prop:=L.length<64/\∀p∈L,p.2≠[]/\p.2.length<=4
def T3:Sp:=λvs H Q _=>∃a L,vs=[.ref a]/\S1 H a L/\Free L/\Fits L/\∀H',Same H H'->Q .non H'
abbrev wk(w:List Int):List Key:=w.map Eu
def Znj(w:List Int):(wk w).map kV=w.map V.int:=by rw[Gh];rfl
def Zdk(kvs:List (List Key×V))(ws:List (List Int)):Prop:=∀u:List Int,(valV kvs (wk u)).isSome=decide (∃w∈ws,u<+:w/\u.length<w.length)
def Zgv:Sp:=λvs H Q _=>∃a vws ws,vs=[.ref a]/\H a=some (.lst vws)/\Wp H vws ws/\ws.length<64/\(∀w∈ws,w.length<=4) /\
 ∀(d:Addr)(kvs:List (List Key×V))(H':Hp),Same H H'->H d=none->H' d=some (.dT kvs)->Zdk kvs ws->Q (.ref d) H'
def Zhj{a:Addr}{w:List Int}{j:Int}(e:H a=some (.tup (w.map V.int)))(h0:0<=j)(h1:j<=w.length)(h:∀t H',Same H H'->H' t=some (.tup ((w.take j.toNat).map V.int))->Q (.ref t) H'):rSlW K (.ref a) none (some j) H Q:=by
 exists a,·,SqT.of e,λhw=>h a H (.refl _) ?_,λp hp=>h p _ (Zl hp) ?_
 .rw[Zc9 w h0 h1]at hw;rw[hw];exact e
 .rw[Zh,Zc9 w h0 h1]
theorem Zpd(a b:Nat):(if(b:Int)<(a:Int)then(b:Int)else(a:Int))=((min a b:Nat):Int):=by split<;>lia
def Zfj[DecidableEq κ](kvs:List (κ×V))(k k':κ)(v:V):(valV (putK kvs k v) k').isSome=(decide (k'=k) ||(valV kvs k').isSome):=by
 rw[P9]
 by_cases h:k'=k
 .rw[Fw h,Fx h];rfl
 .rw[Fv h,Fy h,Jg8]
theorem Zdl:∀{u v:List Int},wk u=wk v->u=v
 |[],[],_=>rfl
 |[],_::_,h=>nomatch h
 |_::_,[],h=>nomatch h
 |x::u,y::v,h=>by
  let h':(Eu x:Key)::wk u=Eu y::wk v:=h;injection h' with a b
  rw[Jdq a,Zdl b]
def Zjx{α:Type}{xs:List α}{j:Nat}{v:α}(h:xs[j]?=some v):atI xs (0+(j:Int))=some v:=by rw[B9];exact Wy h
def Ra(kvs:List (List Key×V))(ws:List (List Int))(w:List Int)(n:Nat):Prop :=
 ∀u:List Int,(valV kvs (wk u)).isSome=decide ((∃x∈ws,u<+:x/\u.length<x.length)\/(u<+:w/\u.length<n))
theorem Ra.put{w:List Int}{n:Nat}(h:Ra kvs ws w n)(hn:n<=w.length) :Ra (putK kvs (wk (w.take n)) v) ws w (n+1):=by
 intro u;rw[Zfj,h u];let e:(wk u=wk (w.take n))↔(u=w.take n):=⟨Zdl,λz=>by rw[z]⟩;rw[decide_eq_decide.mpr e,<-Bool.decide_or];refine decide_eq_decide.mpr ⟨λz=>?_,λz=>?_⟩
 .rcases z with z|z|⟨z1,z2⟩
  .subst z;exact .inr ⟨Bz _ _,by rw[J8];lia⟩
  .exact .inl z
  .exact .inr ⟨z1,()⟩
 .rcases z with z|⟨z1,z2⟩
  .exact .inr (.inl z)
  .by_cases l:u.length<n
   .exact .inr (.inr ⟨z1,l⟩)
   .refine .inl ?_;let:u.length=n:=by lia
    rw[<-this];exact List.prefix_iff_eq_take.mp z1
def Ra.next{w:List Int}(h:Ra kvs ws w w.length)(w':List Int):Ra kvs (ws++[w]) w' 0:=by
 intro u;rw[h u];refine decide_eq_decide.mpr ⟨λz=>?_,λz=>?_⟩
 .rcases z with⟨x,hx,z⟩|z
  .exact .inl ⟨x,Gw _ hx,z⟩
  .exact .inl ⟨w,Js _ (Jg.mpr rfl),z⟩
 .rcases z with⟨x,hx,z⟩|⟨_,z⟩
  .rcases J9.mp hx with hx|hx
   .exact .inl ⟨x,hx,z⟩
   .rw[Jg.mp hx]at z;exact .inr z
  .exact Fl z (Gp _)
def Ra.nil(w:List Int):Ra [] [] w 0:=by
 intro u;rw[Zj5];refine(Fy ?_).symm;rintro(⟨x,hx,_⟩|⟨_,z⟩)
 .exact nomatch hx
 .exact Fl z (Gp _)
def Ra.done{w:List Int}(h:Ra kvs ws w 0):Zdk kvs ws:=by
 intro u;rw[h u];refine decide_eq_decide.mpr ⟨λz=>?_,λz=>.inl z⟩;rcases z with z|⟨_,z⟩
 .exact z
 .exact Fl z (Gp _)
theorem Zhr{α:Type}{f:α->β}{m n:List β}(h:m.Perm n):∀{l:List α},l.map f=n->∃l':List α,l'.Perm l/\l'.map f=m:=by
 induction h with
 |nil=>intro l e;exists l,.refl _,e
 |cons x _ ih =>
  intro l e;cases l with
  |nil=>cases e
  |cons a l =>
   rw[Jo]at e;injection e with e1 e2
   let⟨l',p,q⟩:=ih e2;exact⟨a::l',p.cons a,by rw[Jo,e1,q]⟩
 |swap x y l0 =>
  intro l e
  match l,e with
  |a::b::r,e =>
   rw[Jo,Jo]at e;injection e with e1 e2
   injection e2 with e2 e3
   exact⟨b::a::r,.swap _ _ _,by rw[Jo,Jo,e1,e2,e3]⟩
 |trans _ _ ih1 ih2 =>
  intro l e;let⟨l2,p2,q2⟩:=ih2 e;let⟨l1,p1,q1⟩:=ih1 q2;exists l1,p1.trans p2,q1
structure PK3 where
 v:V
 tw:Addr
 p:Pr
def PK3.At(H:Hp)(e:PK3):Prop:=∃t,e.v=.ref t/\H t=some (.tup [.int e.p.1,.ref e.tw])/\H e.tw=some (.tup (e.p.2.map V.int))
def PK3.At.tk{e:PK3}(h:e.At H)(s:TupK H H'):e.At H':=by
 let⟨t,a,b,c⟩:=h;exists t,a,s _ _ b,s _ _ c
theorem Zmy :∀{vs:List V}{L:List Pr},Prs H vs L->∃M:List PK3,M.map (·.v)=vs/\M.map (·.p)=L/\∀e∈M,e.At H
 |_,_,.nil=>⟨[],rfl,rfl,λ_ h=>nomatch h⟩
 |_,_,.cons ⟨t,tw,a,b,c⟩ r=>by
  let⟨M,e1,e2,e3⟩:=Zmy r;exists⟨_,tw,_⟩::M,by rw[Jo,e1],by rw[Jo,e2],λe he=>?_;rcases Jt.mp he with z|z
  .rw[z];exists t,a,b,c
  .exact e3 e z
theorem Zmz :∀{M:List PK3},(∀e∈M,e.At H)->Prs H (M.map (·.v)) (M.map (·.p))
 |[],_=>.nil
 |e::M,h=>by
  let⟨t,a,b,c⟩:=h e Jl;exact .cons ⟨t,e.tw,a,b,c⟩ (Zmz λx hx=>h x (Jk _ hx))
def PK3.k(e:PK3):KIt:=(e.v,e.tw,e.p.2)
def Ug[DecidableEq κ](kvs:List (κ×V))(zs:List (κ×V)):List (κ×V):=zs.foldl (λa z=>putK a z.1 z.2) kvs
theorem Zen[DecidableEq κ]:∀(zs kvs:List (κ×V)),(Ug kvs zs).length<=kvs.length+zs.length
 |[],kvs=>by simp[Ug]
 |z::r,kvs=>by
  let:=Zen r (putK kvs z.1 z.2);let l:=Y9 kvs z.1 z.2;show(Ug (putK kvs z.1 z.2) r).length<=_;rw[Jv];lia
theorem Se[DecidableEq κ]{k:κ}:∀(zs kvs:List (κ×V)),(∀z∈zs,z.1≠k)->valV (Ug kvs zs) k=valV kvs k
 |[],kvs,_=>rfl
 |z::r,kvs,h=>by
  show valV (Ug (putK kvs z.1 z.2) r) k=_;rw[Se r _ λy hy=>h y (Jk _ hy),P9,Fv (λe=>h z Jl e.symm)]
theorem Q0[DecidableEq κ]{k:κ} :∀(zs kvs:List (κ×V)),(zs.map (·.1)).Nodup->(k,v)∈zs->valV (Ug kvs zs) k=some v
 |[],kvs,_,h=>nomatch h
 |z::r,kvs,nd,h=>by
  show valV (Ug (putK kvs z.1 z.2) r) k=_;rw[Jo,Bb]at nd;rcases Jt.mp h with e|h
  .subst e;rw[Se r _ λy hy e=>nd.1 (by
    let hm:y.1∈r.map (·.1):=Jh.mpr ⟨y,hy,rfl⟩;rw[e]at hm;exact hm),P9,Fw rfl]
  .exact Q0 r _ nd.2 h
theorem Zc7{D:Addr}:∀(zs kvs:List (Key×V)),kvs.length+zs.length<Cb->DFill H D (.dK kvs) (zs.map λz=>(kV z.1,z.2)) (.dK (Ug kvs zs))
 |[],kvs,_=>.nil
 |z::r,kvs,h=>by
  rw[Jv]at h;let l:=Y9 kvs z.1 z.2;let d:=DPut.k (H:=upd H D (.dK kvs)) (a:=D) (k:=z.1) (v:=z.2) Zh ();rw[Zf8]at d;exact .cons d (Zc7 r (putK kvs z.1 z.2) ())
theorem Zi7{D:Addr}(hD:H D=none):∀(zs:List (Addr×List Key×V))(kvs:List (List Key×V)),kvs.length+zs.length<Cb->(∀z∈zs,H z.1=some (.tup (z.2.1.map kV))) ->
  DFill H D (.dT kvs) (zs.map λz=>(.ref z.1,z.2.2)) (.dT (Ug kvs (zs.map λz=>(z.2.1,z.2.2))))
 |[],kvs,_,_=>.nil
 |z::r,kvs,h,ht=>by
  rw[Jv]at h;let l:=Y9 kvs z.2.1 z.2.2;let e:=ht z Jl;let d:=DPut.t (H:=upd H D (.dT kvs)) (a:=D) (b:=z.1) (k:=z.2.1) (v:=z.2.2) Zh (by rw[Zo (Zq e hD)];exact e) ();rw[Zf8]at d;exact .cons d (Zi7 hD r (putK kvs z.2.1 z.2.2) () λy hy=>ht y (Jk _ hy))
def Zf1(H:Hp)(k1:List (Key×V))(S:List Pr):Prop:=(∀p∈S,∃t,valV k1 (Eu p.1)=some (.ref t)/\H t=some (.tup (p.2.map V.int)))/\∀s:Int,(∀p∈S,p.1≠s)->valV k1 (Eu s)=none
def Zg0(k2:List (List Key×V))(S:List Pr):Prop:=(∀p∈S,valV k2 (wk p.2)=some (.int p.1))/\∀u:List Int,(∀p∈S,p.2≠u)->valV k2 (wk u)=none
def Zeu(ns:List Int)(S:List Pr):Prop:=ns.Pairwise (· < ·)/\∀n:Int,n∈ns↔∃p∈S,(p.2.length:Int)=n
structure CodeIn(H:Hp)(tp d1 d2 d3 d4:Addr)(S:List Pr):Prop where
 pr:∃vs,H tp=some (.tup vs)/\Prs H vs S
 wb:∃k1,H d1=some (.dK k1)/\Zf1 H k1 S
 sb:∃k2,H d2=some (.dT k2)/\Zg0 k2 S
 bg:∃k3,H d3=some (.dT k3)/\Zdk k3 (S.map (·.2))
 sz:∃ns:List Int,H d4=some (.tup (ns.map V.int))/\Zeu ns S
def Vz(C:Addr)(H:Hp)(x:Addr)(S:List Pr):Prop:=∃dx tp d1 d2 d3 d4,H x=some (.ins C dx [("pairs",.ref tp),("words_by_sign",.ref d1),("signs_by_word",.ref d2),("begun",.ref d3),("word_sizes",.ref d4)])/\CodeIn H tp d1 d2 d3 d4 S
def Zab(S:List Pr):Prop:=S.Pairwise λa b=>HT.lexLt a.2 b.2=true
def Ve.grow{x:Addr}(t:Ve Pt pos q H){fs:List (Str×V)}(e:H x=some (.ins C dx fs))(g:Grow x H H'):Ve Pt pos q H':=by
 let⟨ps,a,b,c⟩:=t;exists ps,g _ _ a (Rj a e λz=>by cases z),b,?_;rcases c with c|⟨c',d,f⟩
 .exact .inl c
 .exact .inr ⟨c',d,g _ _ f (Rj f e λz=>by cases z)⟩
def Grow.tkI{x:Addr}(g:Grow x H H'){fs:List (Str×V)}(e:H x=some (.ins C dx fs)):TupK H H':=λb ys h=>g b _ h (Rj h e λz=>by cases z)
section
def rLen(K:Cr):List V->Hp->VK->Prop:=λxs H Q=>∃x n,xs=[x]/\LenV K x H n/\Q (.int n) H
def Yd(h:X.K=K):Wr X (.builtin "len") (rLen K):=by subst h;exact W4
def Zng(h:X.K=K):IxR X (rIxL K):=by subst h;exact Xl
def Zt7(h:X.K=K):IxR X (rIxT K):=by subst h;exact T9
def Zqe(h:X.K=K):OpR X (Hd .Add) (Zkw K):=by subst h;exact Zcn
end
end L2
variable{L S U:List L2.Pr}
namespace L2
open PySem PySem.W PyProof.Rows HT
theorem Zei:∀{us:List Ca}{ns:List Int},Kv us ns->Vals (ns.map V.int) us:=by
 intro _ _ hz9;cases hz9 with
 |nil=>
  exact .nil
 |cons n t h=>
  exact .cons ⟨t,rfl⟩ (Zei h)
theorem Zit:∀{us:List Ca}{ns:List Int},us.length=ns.length->(∀(j:Nat)(v:Ca),us[j]?=some v->∃n t,ns[j]?=some n/\v=C0 n t)->Kv us ns
 |[],[],_,_=>.nil
 |u::us,n::ns,hl,h=>by
  let⟨m,t,e,rfl⟩:=h 0 u rfl;cases e;exact .cons _ t (Zit (by simpa using hl) λj v e=>h (j+1) v e)
section
def Zsn:List V->Hp->VK->Prop:=λxs H Q=>∃(d:Addr)(kvs:List (Key×V))(ns:List Int),xs=[.ref d]/\H d=some (.dK kvs)/\kvs.map (·.1)=ns.map Eu/\kvs.length<64 /\
 ∀(D:Addr)(ns':List Int),H D=none->ns'.Perm ns->ns'.Pairwise (·<=·)->Q (.ref D) (upd H D (.lst (ns'.map V.int)))
theorem Zfo(hc:X.calm=true):Wr X (.builtin "sorted") Zsn:=by
 intro pq s σ H xs us Q I r h;let⟨d,kvs,ns,rfl,ed,ek,hl,q⟩:=h;let⟨u,rfl,rx⟩:=Tl r;cases rx;let⟨hz,lo,vs,rel,dof⟩:=Zp2 I.hok ed;let⟨ep,da⟩:=dof.dictAt;let hv:=Paired.length rel;refine Calls.call_function_entry kind_sorted plain_sorted entry_sorted (args_sorted1 _) ?_;unfold Builtin.«sorted»;refine Fo (m:=checkCount "sorted" 1 1 _) (Fp ?_);refine Fo (kdu_collect (A:=X.A.in1) (kdl_dict (knd:=Yt X.prog X.w) (kvs:=vs) (ep:=ep) lo) (I.ok.hd hc) da (by rw[Ei];lia) λh' tk acc hk hacc=>?_);let hal:acc.toList.length=vs.length:=by rw[G7];exact hacc.1
 let hkl:kvs.length=ns.length:=by have:=congrArg K7 ek;simpa using this
 refine Fo (Kh ?_ (by rw[hal,Ei];lia));let hI:Kv acc.toList ns:=Zit () λj v e=>by
  let⟨k,x,e1,e2⟩:=hacc.2 j v (by rw[<-Jc7];exact e);let hj:j<vs.length:=(Jj.mp e1).1;let hr:=L2.Paired.at rel (by lia:j<kvs.length) hj;let e3:=congrArg (·[j]?) ek;simp only[Jq,Jb (by lia:j<kvs.length),Jb (by lia:j<ns.length),B1,Jev]at e3;rw[Jb hj]at e1;let e4:=Fz e1;rw[hr.1,e4]at e3;subst e3;rcases Yh (show Nq (Eu ns[j]) v=true from e2)with⟨i,t,e5,rfl⟩|⟨y,t,e5,rfl⟩
  .cases e5;exists _,t,Jb (by lia:j<ns.length),rfl
  .cases e5
 let hoL:(h'.push (Kb "list" acc.toList.toArray 0)).get? h'.objs.size=some (Kb "list" acc.toList.toArray 0):=Ft _ rfl;refine Fo (Cy (Lh (s:={s with heap:=h'.push (Kb "list" acc.toList.toArray 0),toks:=tk}) slot_list_sort ⟨_,hoL,rfl⟩ Jfv (list_sort_tree hoL hI () λout ns' a1 a2 a3=>⟨_,rfl,?_⟩) (args_list_sort _)));let⟨e,he⟩:=sortedHeap_at (vs:=acc.toList) (out:=out) hoL;let I1:Inv X pq σ H {s with heap:=h',toks:=tk}:=I.kept hk;refine Fp ⟨_,rfl,.ref h'.objs.size,_,I1.laid (t':=tk) (λb o eb=>?_) (Jd _) (show Y3 X.prog X.w _ _ _ (.lst (ns'.map V.int))from⟨?_,out.toList,e,Zei a1,he⟩),rfl,q _ ns' (I1.hok.fresh (Jd _)) a2 a3⟩
 .let hb:h'.get? b=some o:=eb;let hlt:=Fu hb;rw[sortedHeap_old (Gd hlt) (by rw[Jgx];exact Mq hlt)];exact Fs _ hb
 .rw[Ja,a2.length_eq,Ei];lia
end
end L2
namespace L2
open PySem PySem.Spec PyProof.Rows
def Zlj[DecidableEq κ](kvs:List (κ×V))(k:κ)(v:V):(putK kvs k v).map (·.1)=if k∈kvs.map (·.1)then kvs.map (·.1)else kvs.map (·.1)++[k]:=by
 unfold putK;let hiff:(kvs.any λkv=>decide (kv.1=k))=true↔k∈kvs.map (·.1):=by
  rw[B8,Jh]
  constructor
  .rintro⟨x,h1,h2⟩;exists x,h1,Fk h2
  .rintro⟨x,h1,h2⟩;exists x,h1,Fx h2
 by_cases h:k∈kvs.map (·.1)
 .rw[Fw h,Fw (hiff.mpr h),Gh];refine List.map_congr_left λkv _=>?_;show(if kv.1=k then(kv.1,v)else kv).1=kv.1
  split<;>rfl
 .rw[Fv h,Fv (λz=>h (hiff.mp z)),Jf];rfl
theorem Q1:∀(zs:List Int)(kvs:List (Key×V))(ns:List Int),kvs.map (·.1)=ns.map Eu->ns.Nodup ->
  ∃ns':List Int,(Ug kvs (zs.map λz=>((Eu z:Key),V.bl true))).map (·.1)=ns'.map Eu/\ns'.Nodup/\∀n,n∈ns'↔n∈ns\/n∈zs
 |[],kvs,ns,e,nd=>⟨ns,e,nd,λn=>by simp⟩
 |z::r,kvs,ns,e,nd=>by
  let hm:(Eu z:Key)∈kvs.map (·.1)↔z∈ns:=by
   rw[e,Jh]
   constructor
   .rintro⟨x,h,h2⟩;cases h2;exact h
   .exact λh=>⟨z,h,rfl⟩
  let hp:=Zlj kvs (Eu z) (V.bl true);show ∃ns':List Int,(Ug (putK kvs (Eu z) (V.bl true)) (r.map _)).map (·.1)=_/\_
  by_cases h:z∈ns
  .rw[Fw (hm.mpr h),e]at hp;let⟨ns',a,b,c⟩:=Q1 r _ ns hp nd;exists ns',a,b,λn=>?_;rw[c,Jt]
   constructor
   .rintro(q|q)
    .exact .inl q
    .exact .inr (.inr q)
   .rintro(q|rfl|q)
    .exact .inl q
    .exact .inl h
    .exact .inr q
  .rw[Fv (λq=>h (hm.mp q)),e]at hp;let⟨ns',a,b,c⟩:=Q1 r _ (ns++[z]) (by rw[hp,Jf];rfl) (List.nodup_append.mpr ⟨nd,by simp,λx hx y hy=>by
    rw[Jg.mp hy];exact λq=>h (q ▸ hx)⟩)
   exists ns',a,b,λn=>?_;rw[c,Jt,J9,Jg]
   constructor
   .rintro((q|q)|q)
    .exact .inl q
    .exact .inr (.inl q)
    .exact .inr (.inr q)
   .rintro(q|q|q)
    .exact .inl (.inl q)
    .exact .inl (.inr q)
    .exact .inr q
theorem Zgy{ns':List Int}(nd:ns.Nodup)(h:∀n,n∈ns↔n∈S.map λp=>(p.2.length:Int))(p:ns'.Perm ns)(ri:ns'.Pairwise (·<=·)):Zeu ns' S:=by
 exists ?_,λn=>?_
 .let nd':ns'.Nodup:=p.nodup_iff.mpr nd;exact(List.pairwise_and_iff.mpr ⟨ri,nd'⟩).imp λ{a b}z=>by
   let:=z.1;let:=z.2;lia
 .rw[p.mem_iff,h,Jh]
def Zgu:Sp:=λvs H Q _=>∃(p a:Addr)(m:Int),vs=[.ref p,.int m]/\HandAt H p a/\2<=m/\m<=4 /\
 ∀(l:Addr)(bs:List Int)(H':Hp),H l=none->l≠p->H' l=some (.lst (bs.map V.int))->bs.Nodup->2<=bs.length->(bs.length:Int)<=m->(∀b∈bs,0<=b/\b<256)->HandAt H' p a->Grow p H H'->Q (.ref l) H'
theorem Zb9{b s:Int}(hs:1<=s){n:Nat}(hn:s*n<=255+s):((Cv n).map λk:Nat=>(b+s*(k:Int)) % 256).Nodup:=by
 refine Gm.mpr ?_;refine Bh.mpr λi j hi hj hij=>?_;simp only[G9]at hi hj;simp only[Mf];intro e;let h2:s*((j:Int)-(i:Int))=s*(j:Int)-s*(i:Int):=Jfy _ _ _;let h3:0<s*((j:Int)-(i:Int)):=Jh9 () ();let h4:s*((j:Int)-(i:Int))<=s*((n:Int)-1):=Lj () ();let h5:s*((n:Int)-1)<=255:=by rw[Jfy,Jfn];lia
 rw[h2]at h3 h4;generalize s*(j:Int)=X at *
 generalize s*(i:Int)=Y at *
 lia
def PF(ws:List (List Int)):Prop:=ws.Pairwise λa b=>¬ a<+:b/\¬ b<+:a
def WOk(ws:List (List Int)):Prop:=PF ws/\∀w∈ws,w≠[]/\w.length<=4
def PF.sub{a b:List (List Int)}(h:PF b)(s:a.Sublist b):PF a:=Jhr s h
def WOk.sub{a b:List (List Int)}(h:WOk b)(s:a.Sublist b):WOk a:=⟨h.1.sub s,λw hw=>h.2 w (s.subset hw)⟩
def U0{w:List Int}{a b:Int}(h:a≠b):¬ (w++[a])<+:(w++[b]):=λe=>by
 let:=Jf3 e (by simp);simp at this;exact h this
def Zo3{bs:List Int}(nd:bs.Nodup):WOk (bs.map λb=>[b]):=by
 exists Gm.mpr (nd.imp λz=>⟨U0 (w:=[]) z,U0 (w:=[]) z.symm⟩),λw hw=>?_;let⟨b,_,rfl⟩:=Jh.mp hw;exact⟨by simp,by simp⟩
theorem Zk2{a c:List (List Int)}{w:List Int}{bs:List Int}(nd:bs.Nodup)(h:WOk (a++w::c))(hw:w.length<4):WOk (a++(bs.map λb=>w++[b])++c):=by
 let⟨h1,h2⟩:=h;let hk:∀x,(¬ x<+:w/\¬ w<+:x)->∀b,¬ x<+:w++[b]/\¬ (w++[b])<+:x:=λx hx b=>by
  exists λz=>?_,λz=>hx.2 ((Gc _ _).trans z);rcases List.prefix_concat_iff.mp z with e|e
  .exact hx.2 (e ▸ Gc _ _)
  .exact hx.1 e
 unfold PF at h1;rw[List.pairwise_append]at h1;let⟨pa,pwc,pac⟩:=h1;rw[List.pairwise_cons]at pwc;let⟨pw,pc⟩:=pwc;exists ?_,λx hx=>?_
 .unfold PF;rw[Gg,List.pairwise_append];exists pa,?_,λx hx y hy=>?_
  .rw[List.pairwise_append];exists Gm.mpr (nd.imp λz=>⟨U0 z,U0 z.symm⟩),pc,λx hx y hy=>?_;let⟨b,_,rfl⟩:=Jh.mp hx;let:=hk y ⟨(pw y hy).2,(pw y hy).1⟩ b;exists this.2,this.1
  .rcases J9.mp hy with hy|hy
   .let⟨b,_,rfl⟩:=Jh.mp hy;exact hk x (pac x hx w Jl) b
   .exact pac x hx y (Jk _ hy)
 .rcases J9.mp hx with hx|hx
  .rcases J9.mp hx with hx|hx
   .exact h2 x (Gw _ hx)
   .let⟨b,_,rfl⟩:=Jh.mp hx;exact⟨by simp,by rw[Jc,Ba];lia⟩
  .exact h2 x (Js _ (Jk _ hx))
theorem Zf0:∀(ss:List Int)(ws:List (List Int)),((ss.zip ws).map (·.1)).Sublist ss
 |[],_=>by simp
 |_::_,[]=>by simp
 |a::r,b::t=>by rw[Fe,Jo];exact(Zf0 r t).cons₂ a
theorem Zfz:∀(ss:List Int)(ws:List (List Int)),((ss.zip ws).map (·.2)).Sublist ws
 |[],_=>by simp
 |_::_,[]=>by simp
 |a::r,b::t=>by rw[Fe,Jo];exact(Zfz r t).cons₂ b
def WOk.free(h:WOk ws){ss:List Int}(nd:ss.Nodup):Free (ss.zip ws):=by
 let h1:((ss.zip ws).map (·.1)).Nodup:=nd.sublist (Zf0 ss ws);let h2:PF ((ss.zip ws).map (·.2)):=h.1.sub (Zfz ss ws);exact(Gm.mp h1).and (Gm.mp h2) |>.imp λz=>⟨z.1,z.2.1,z.2.2⟩
def Zde(H:Hp)(a:Addr)(ws:List (List Int)):Prop:=∃vs,H a=some (.lst vs)/\Wp H vs ws
section
variable{a:Addr}{y:V}
def Ziq(e:H a=some (.lst xs))(hi:i<xs.length):(Itl K a).go i H:=⟨_,_,SqL.of e,Jb hi⟩
def Nr(e:H a=some (.lst xs))(hi:xs.length<=i):(Itl K a).stop i H:=⟨_,SqL.of e,hi⟩
def Zcw(e:H a=some (.lst xs))(hi:i<xs.length)(z:(Itl K a).yld i H y H'):H'=H/\y=xs[i]:=by
 exists z.1,?_;let:=z.2 _ (SqL.of e);rw[Jb hi]at this;exact(Fz this).symm
end
def X5{p a:Addr}(h:HandAt H p a):∃xs,H p=some (.lst xs):=let⟨_,_,_,e,_⟩:=h.ex;⟨_,e⟩
def Wp.take1(h:Wp H vs ws)(hi:i<vs.length):∃(hj:i<ws.length)(t:Addr),vs[i]=.ref t/\H t=some (.tup (ws[i].map V.int)):=by
 let hj:i<ws.length:=by rw[<-Paired.length h];exact hi
 let⟨t,e,z⟩:=L2.Paired.at h hi hj;exists hj,t,e,z
def Zgs:Sp:=λvs H Q _=>∃(p a:Addr)(m:Int),vs=[.ref p,.int m]/\HandAt H p a/\0<=m/\m<=100 /\
 ∀(l:Addr)(ss:List Int)(H':Hp),H l=none->l≠p->H' l=some (.lst (ss.map V.int))->ss.Nodup->(ss.length:Int)=m->HandAt H' p a->Grow p H H'->Q (.ref l) H'
def Free.rev(h:Free L):Free L.reverse:=List.pairwise_reverse.mpr (h.imp λz=>⟨z.1.symm,z.2.2,z.2.1⟩)
theorem Zgp{b s:Int}(hs:1<=s)(n:Nat):((Cv n).map λk:Nat=>b+s*(k:Int)).Nodup:=by
 refine Gm.mpr (Bh.mpr λi j hi hj hij=>?_);simp only[Mf];intro e;let h3:0<s*((j:Int)-(i:Int)):=Jh9 () ();rw[Jfy]at h3;lia
def Ze3{ss:List Int}(h:ss.Nodup)(n:Nat):(ss.drop n++ss.take n).Nodup:=by
 let:(ss.take n++ss.drop n).Nodup:=by rw[Bi];exact h
 exact(List.perm_append_comm.nodup_iff).mp this
def Vz.same{x:Addr}(h:Vz C H x S)(s:Same H H'):Vz C H' x S:=by
 let⟨dx,tp,d1,d2,d3,d4,ex,⟨⟨vs,a1,a2⟩,⟨k1,b1,b2⟩,⟨k2,c1,c2⟩,⟨k3,f1,f2⟩,⟨k4,g1,g2⟩⟩⟩:=h;exists dx,tp,d1,d2,d3,d4,s _ _ ex,⟨vs,s _ _ a1,Prs.tk a2 s.tk⟩,⟨k1,s _ _ b1,λp hp=>?_,b2.2⟩,⟨k2,s _ _ c1,c2⟩,⟨k3,s _ _ f1,f2⟩,⟨k4,s _ _ g1,g2⟩;let⟨t,u,v⟩:=b2.1 p hp;exists t,u,s _ _ v
def Zgt(C:Addr):Sp:=λvs H Q _=>∃(x t:Addr)(S:List Pr)(u:List Int),vs=[.ref x,.ref t]/\Vz C H x S/\H t=some (.tup (u.map V.int))/\(∀p∈S,p.2=u->Q (.int p.1) H)/\((∀p∈S,p.2≠u)->Q .non H)
def Zi4(h:Free S){p q:Pr}(hp:p∈S)(hq:q∈S){l:List Int}(p1:p.2<+:l)(q1:q.2<+:l):p=q:=by
 let⟨i,hi,rfl⟩:=Gb hp;let⟨j,hj,rfl⟩:=Gb hq;let z:=Hj p1 q1;rcases Nat.lt_trichotomy i j with l|l|l
 .let a:=h.get hi hj l;rcases z with z|z
  .exact Fl z a.2.1
  .exact Fl z a.2.2
 .subst l;rfl
 .let a:=h.get hj hi l;rcases z with z|z
  .exact Fl z a.2.2
  .exact Fl z a.2.1
def Zi3(h:Free S){p q:Pr}(hp:p∈S)(hq:q∈S)(e:p.1=q.1):p=q:=by
 let⟨i,hi,rfl⟩:=Gb hp;let⟨j,hj,rfl⟩:=Gb hq;rcases Nat.lt_trichotomy i j with l|l|l
 .exact Fl e (h.get hi hj l).1
 .subst l;rfl
 .exact Fl e.symm (h.get hj hi l).1
def Free.perm(h:Free L)(p:S.Perm L):Free S:=(p.pairwise_iff (λ{a b}z=>⟨z.1.symm,z.2.2,z.2.1⟩)).mpr h
def Fits.perm(h:Fits L)(p:S.Perm L):Fits S:=⟨by rw[p.length_eq];exact h.1,λx hx=>h.2 x (p.mem_iff.mp hx)⟩
def Zv(T:List Pr):List Int:=(T.map λq:Pr=>q.2).flatten
def Zm(T:List Pr):List Int:=T.map λq:Pr=>q.1
def U2(p:Pr)(T:List Pr):Zv (p::T)=p.2++Zv T:=rfl
def V6(A B:List Pr):Zv (A++B)=Zv A++Zv B:=by unfold Zv;rw[Jf,List.flatten_append]
theorem Sm(h:Fits S):∀{T:List Pr},(∀p∈T,p∈S)->(Zv T).length<=4*T.length
 |[],_=>by simp[Zv]
 |p::T,m=>by
  let a:=Sm h (T:=T) λq hq=>m q (Jk _ hq);let b:=(h.2 p (m p Jl)).2;rw[U2,Jc,Jv];lia
def Zmh:Sp:=λvs H Q _=>∃(p a sa:Addr)(ss:List Int)(m:Int),vs=[.ref p,.ref sa,.int m]/\HandAt H p a/\H sa=some (.lst (ss.map V.int))/\sa≠p/\0<=m/\m<=200 /\
 ∀(l:Addr)(ts:List Int)(H':Hp),H l=none->l≠p->H' l=some (.lst (ts.map V.int))->(∀t∈ts,t∈ss)->(ts.length:Int)<=m->HandAt H' p a->Grow p H H'->Q (.ref l) H'
theorem Pe :∀{ts:List Int},(∀t∈ts,t∈Zm L)->∃T:List Pr,Zm T=ts/\∀p∈T,p∈L
 |[],_=>⟨[],rfl,λ_ h=>nomatch h⟩
 |t::r,h=>by
  let⟨p,hp,e⟩:=Jh.mp (h t Jl);let⟨T,e2,h2⟩:=Pe (ts:=r) λx hx=>h x (Jk _ hx);exists p::T,?_,λq hq=>?_
  .show p.1::Zm T=t::r;rw[e,e2]
  .rcases Jt.mp hq with z|z
   .rw[z];exact hp
   .exact h2 q z
theorem Zp5(w:List Int){k m:Nat}(h:k<=w.length):cutV (w.map V.int) (some (k:Int)) (some ((k:Int)+(m:Int)))=((w.drop k).take m).map V.int:=by
 unfold cutV;rw[<-Jc8,HT.sIx_nat,HT.sIx_nat,Ja,B2 h,By,Fj];refine List.take_eq_take_iff.mpr ?_;rw[Gn,Ja];lia
def Zv3{c A:Prop}[Decidable c](hc:¬ c)(h:A):if(!decide c)=true then A else B:=by
 rw[Fy hc];exact iteT h
def Zv4{c A:Prop}[Decidable c](hc:c)(h:A):if decide c=true then A else B:=by
 rw[Fx hc];exact iteT h
def Zv5{c A:Prop}[Decidable c](hc:¬ c)(h:B):if decide c=true then A else B:=by
 rw[Fy hc];exact iteF h
section
def Zcf(K:Cr):List V->Hp->VK->Prop:=λxs H Q=>∃p ys,xs=[.ref p]/\(SqL K H p ys\/SqT K H p ys)/\∀l,H l=none->Q (.ref l) (upd H l (.lst ys))
def Uk(h:X.K=K):Wr X (.type "list") (Zcf K):=by subst h;exact Rg
def Zhi(K:Cr):List V->Hp->VK->Prop:=λxs H Q=>∃p ys,xs=[.ref p]/\((SqL K H p ys/\∀l,H l=none->Q (.ref l) (upd H l (.tup ys)))\/(SqT K H p ys/\Q (.ref p) H))
def P0(h:X.K=K):Wr X (.type "tuple") (Zhi K):=by subst h;exact Vx
def rIsi(K:Cr):List V->Hp->VK->Prop:=λxs H Q=>∃x T t b,xs=[x,.ty T]/\TyOf K H x t/\Jg6 K t (.type T)=some b/\Q (.bl b) H
def Znh(h:X.K=K):Wr X (.builtin "isinstance") (rIsi K):=by subst h;exact Zlz
end
def Zpj{k:Key}{v:Ca}(h:Nq k v=true):RelV (kV k) v:=by
 rcases Yh h with⟨i,t,rfl,rfl⟩|⟨x,t,rfl,rfl⟩
 .exists t,rfl
 .exists t,rfl
def Zek{d:Addr}{o:Obj}{kvs:List (Key×V)}{es0:Array DictEntry}{ep:Nat}(ok:HOk P w H h)(e:H d=some (.frz o (.dK kvs)))(hep:o.data=.dict es0 ep) :
  kvs.length<=Cb/\(d==E6)=false/\∃vs,KV kvs vs/\h.DictAt (Yt P w) d vs ep:=by
 let⟨e1,z,hd,vs,r,ob,es,ep',e2,c,dd,rest⟩:=(show Y3 P w H h d (.frz o (.dK kvs))from ok d _ e);let eo:ob=o:=Fz (e2.symm.trans e1);subst eo;rw[hep]at dd;injection dd with d1 d2
 subst d1 d2;exists z,hd,vs,r,ob,es0,e1,c,hep,rest
def Zjo(h:X.K=K)(hc:X.calm=true):Wr X (.builtin "any") (λxs H Q=>∃(p:Addr)(bs:List Bool),xs=[.ref p]/\SqL K H p (bs.map V.bl)/\Q (.bl (bs.any id)) H):=by subst h;exact Zl1 hc
section
variable{M:Jhx}{Ex:Ca->Cc->Prop} 
structure Noted(fs:List Addr)(ea T:Addr)(oe:Obj)(fl:Ca)(h h':Heap):Prop where
 keep:∀b o,b∉fs->b≠ea->h.get? b=some o->h'.get? b=some o
 slot:∀b o,b≠ea->h.get? b=some o->∃sl,h'.get? b=some {o with slots:=sl}
 new:h.objs.size<=T
 exc:h'.get? ea=some (oe.mapFields (·.setIfInBounds 1 (.ref T)))
 tb:∃ob ts,h'.get? T=some ob/\ob.data=.fields ts/\ts[3]?=some fl
 ne:T≠ea
def Za2{base:Heap}{l:List Env}{vs:Array Ca}(ff:h.FunFrames base l)(eo:h.get? ea=some oe)(od:oe.data=.fields vs):ea∉frs l:=λz=>by
 let⟨_,o,ho,hnf⟩:=ff.mem z;rw[eo]at ho;cases ho;exact hnf vs od
def Zdo{base:Heap}{env:Env}{outer:List Env}{L:Addr}{vs:Array Ca}{head:Ca}{flag:Bool}{Q:Unit->Cc->Prop}(fr:A.frames=some (env::outer))(ff:s.heap.FunFrames base (env::outer))(ef:env.frame=some L)(eo:s.heap.get? ea=some oe)(od:oe.data=.fields vs)(sz:1<vs.size)(k:∀h' T,Noted (frs (env::outer)) ea T oe (Hz L) s.heap h'->Q ⟨⟩ {s with heap:=h'}) :
  Cd M A (do let a <-frameOf env;let pl <-entryPlaceOf L flag;let b <-Jdx head a .none (Hz L) .none pl;setField (.ref ea) 1 b) Q Ex s:=by
 let nf:ea∉frs (env::outer):=Za2 ff eo od;refine Fo (wpAny_frameOf_fun fr ff ef λg1 sl1=>?_);refine Fo (wpAny_entryPlaceOf λpl hpl=>?_);unfold Jdx newFields;refine Fo (Hh ?_ (hpl.sizeOk5 _ _ _ _ _));let e1:g1.get? ea=some oe:=(sl1.2.1 ea nf).trans eo;generalize hO:({cls:=.type "traceback",dict:=none,data:=.fields ([head,.ref L,.none,Hz L,.none]++(if pl.isEmpty then Co 6 Ca.none else pl)).toArray}:Obj)=tbo;let e2:(g1.push tbo).get? ea=some oe:=Fs _ e1;let lt:ea<g1.objs.size:=Fu e1;let nT:g1.objs.size≠ea:=Ff lt;refine wpAny_setField e2 od sz (k _ g1.objs.size ?_)
 let td:tbo.data=.fields ([head,.ref L,.none,Hz L,.none]++(if pl.isEmpty then Co 6 Ca.none else pl)).toArray:=by rw[<-hO]
 let gT:(g1.push tbo).get? g1.objs.size=some tbo:=Ft g1 (Lf td);let ed:=Jed od (·.setIfInBounds 1 (Ch g1.objs.size));exists λb o hb hne q=>?_,λb o hne q=>?_,Bq sl1.1.symm,Cu _ e2 (Lf ed),⟨tbo,_,?_,td,?_⟩,nT
 .rw[Cw _ _ (Ee hne)];exact Fs _ ((sl1.2.1 b hb).trans q)
 .let⟨sl,e⟩:=sl1.2.2 b o q;exact⟨sl,by rw[Cw _ _ (Ee hne)];exact Fs _ e⟩
 .rw[Cw _ _ (Ee nT)];exact gT
 .simp
structure Gone(fs:List Addr)(ea:Addr)(T0:Option Addr)(oe:Obj)(vs:Array Ca)(h h':Heap):Prop where
 keep:∀b o,b∉fs->b≠ea->some b≠T0->h.get? b=some o->h'.get? b=some o
 slot:∀b o,b≠ea->some b≠T0->h.get? b=some o->∃sl,h'.get? b=some {o with slots:=sl}
 flow:∃T vs' ob ts,h.objs.size<=T/\h'.get? ea=some {oe with data:=.fields vs'}/\vs'.size=vs.size/\vs'[1]?=some (.ref T)/\h'.get? T=some ob/\ob.data=.fields ts/\ts[3]?=some .none/\T≠ea
def mapF{vs:Array Ca}(od:oe.data=.fields vs)(f:Array Ca->Array Ca):oe.mapFields f={oe with data:=.fields (f vs)}:=by
 let⟨c,d,dt,sl⟩:=oe;cases od;rfl
def Pw{fs:List Addr}{T:Addr}{vs:Array Ca}{L:Addr}{h0:Heap}{Q:Unit->Cc->Prop}(od:oe.data=.fields vs)(sz:1<vs.size)(nt:Noted fs ea T oe (Hz L) h0 s.heap)(k:∀h',Gone fs ea none oe vs h0 h'->Q ⟨⟩ {s with heap:=h'}):Cd M A (Jc9 (.ref ea) none) Q Ex s:=by
 let ex:=nt.exc;rw[mapF od]at ex;let⟨ob,ts,eT,dT,h3⟩:=nt.tb;let s3:3<ts.size:=(Bf.mp h3).1;refine Jdl ex rfl (by rw[Bv,Fw sz]) eT dT s3 (k _ ?_);let dd:=Jed dT (·.setIfInBounds 3 Ca.none);let lt0:∀b o,h0.get? b=some o->T≠b:=λb o q z=>Fl (Fu q) (Nat.not_lt.mpr (by rw[<-z];exact nt.new));exists λb o hb hne _ q=>?_,λb o hne _ q=>?_,T,vs.setIfInBounds 1 (.ref T),_,_,nt.new,?_,?_,?_,Cu _ eT (Lf dd),dd,?_,nt.ne
 .rw[Cw _ _ (lt0 b o q)];exact nt.keep b o hb hne q
 .let⟨sl,e⟩:=nt.slot b o hne q;exact⟨sl,by rw[Cw _ _ (lt0 b o q)];exact e⟩
 .rw[Cw _ _ nt.ne];exact ex
 .simp
 .rw[Bv,Fw sz]
 .rw[Bv,Fw s3]
def Zco{base:Heap}{env:Env}{outer:List Env}{L:Addr}{vs:Array Ca}{Q:Unit->Cc->Prop}(fr:A.frames=some (env::outer))(ff:s.heap.FunFrames base (env::outer))(ef:env.frame=some L)(eo:s.heap.get? ea=some oe)(od:oe.data=.fields vs)(v1:vs[1]?=some .none)(k:∀h',Gone (frs (env::outer)) ea none oe vs s.heap h'->Q ⟨⟩ {s with heap:=h'}) :
  Cd M A (Jc3 (.ref ea) env) (λ_ s2=>Cd M A (Jc9 (.ref ea) none) Q Ex s2) Ex s:=by
 let sz:1<vs.size:=(Bf.mp v1).1;unfold Jc3;simp only[ef];refine Fo (K8 eo od v1 ?_);rw[Fv nofun];exact Zdo fr ff ef eo od sz λh' T nt=>Pw (s:={s with heap:=h'}) od sz nt λh2 g=>k h2 g
def Pm{base:Heap}{env:Env}{outer:List Env}{L T0:Addr}{oT:Obj}{vs ts:Array Ca}{Q:Unit->Cc->Prop}(fr:A.frames=some (env::outer))(ff:s.heap.FunFrames base (env::outer))(ef:env.frame=some L)(eo:s.heap.get? ea=some oe)(od:oe.data=.fields vs)(v1:vs[1]?=some (.ref T0))(eT:s.heap.get? T0=some oT)(dT:oT.data=.fields ts)(t3:ts[3]?=some .none)(ne:T0≠ea)(k:∀h',Gone (frs (env::outer)) ea (some T0) oe vs s.heap h'->Q ⟨⟩ {s with heap:=h'}) :
  Cd M A (Jc3 (.ref ea) env) (λ_ s2=>Cd M A (Jc9 (.ref ea) none) Q Ex s2) Ex s:=by
 let sz:1<vs.size:=(Bf.mp v1).1;unfold Jc3;simp only[ef];refine Fo (K8 eo od v1 ?_);rw[Fw (show(Ch T0 != Ca.none)=true by simp)];refine Fo (K8 eT dT t3 ?_);rw[Fv (show ¬ ((Ca.none==Hz L)=true)by simp[Hz])];refine Fo (wpAny_setField eT dT (Bf.mp t3).1 ?_);let oth:∀b,b≠T0->(s.heap.update T0 (Ja2 (·.setIfInBounds 3 Ca.none))).get? b=s.heap.get? b:=λb hb=>Cw _ _ (Ee hb);let nfT:T0∉frs (env::outer):=Za2 ff eT dT;let ff2:(s.heap.update T0 (Ja2 (·.setIfInBounds 3 Ca.none))).FunFrames base (env::outer):=ff.of_keeps λb o hb hnf=>⟨o,(oth b λz=>by
  rw[z,eT]at hb;cases hb;exact hnf ts dT).trans hb,rfl⟩
 refine Zdo (s:={s with heap:=s.heap.update T0 (Ja2 (·.setIfInBounds 3 Ca.none))}) fr ff2 ef ((oth ea (Ee ne)).trans eo) od sz λh' T nt=>Pw (s:={s with heap:=h'}) od sz nt λh2 g=>k h2 ?_;let szU:(s.heap.update T0 (Ja2 (·.setIfInBounds 3 Ca.none))).objs.size=s.heap.objs.size:=Heap.size_after_update ..;let⟨T1,vs1,ob1,ts1,z1,zr⟩:=g.flow;exists λb o hb hne hT q=>g.keep b o hb hne (by simp) ((oth b λz=>hT (by rw[z])).trans q),λb o hne hT q=>g.slot b o hne (by simp) ((oth b λz=>hT (by rw[z])).trans q),T1,vs1,ob1,ts1,by rw[<-szU];exact z1,zr
def Pu{env:Env}{e:Ca}{Q:Unit->Cc->Prop}(h:Cd M A (Jc3 e env) (λ_ s2=>Cd M A (Jc9 e none) Q Ex s2) Ex s):Cd M A (Jh4 env e) Q Ex s:=by
 unfold Jh4;exact Fo h
end
def excP(ea C:Addr)(d:Option Addr)(h:Heap):Prop:=∃oe vs,h.get? ea=some oe/\oe.cls=.ref C/\oe.dict=d/\oe.data=.fields vs/\vs.size=6
def excP.ok{d:Option Addr}(x:excP ea C d h):Y3 P w H h ea (.ext (excP ea C d)):=by
 let⟨oe,vs,e,r⟩:=id x;exists x,⟨oe,e⟩,λh1 h2⟨o1,v1,e1,r1⟩k=>⟨o1,v1,k _ e1,r1⟩
def Zfy(ea T:Addr)(h:Heap):Prop:=∃oe vs oT ts,h.get? ea=some oe/\oe.data=.fields vs/\vs[1]?=some (.ref T)/\h.get? T=some oT/\oT.data=.fields ts/\ts[3]?=some .none/\T≠ea
def CXE(P:Ez)(w:Hm):CXT:=λouter H s E e s'=>∃(ea C T:Addr)(d:Option Addr)(H':Hp),e=.ref ea/\s'.os=s.os/\Mu s'.gens/\Un (frs outer) [] H H' s.heap s'.heap/\HOk P w H' s'.heap /\
 H' ea=some (.ext (excP ea C d))/\s.heap.objs.size<=ea/\H' T=none/\s.heap.objs.size<=T/\Zfy ea T s'.heap/\E (.ref C) d H'
section
def Inv.gone{d:Option Addr}{vs:Array Ca}(I:Inv X pq σ H s)(hx:X.ex=[])(hst:∀b∈frs X.stack,b∈X.fs\/X.s₀.heap.objs.size<=b)(hea:H ea=some (.ext (excP ea C d)))(eo:s.heap.get? ea=some oe)(od:oe.data=.fields vs)(hT:∀T,T0=some T->H T=none/\X.s₀.heap.objs.size<=T)(g:Gone (frs X.stack) ea T0 oe vs s.heap h'):Un X.fs [] X.H₀ H X.s₀.heap h'/\HOk X.prog X.w H h':=by
 let u:=I.base;rw[hx]at u;let ub:∀b o,X.s₀.heap.get? b=some o->some b≠T0:=λb o q z=>by
  let:=(hT b z.symm).2;exact Fl (Fu q) (Nat.not_lt.mpr this)
 exists⟨λb o q n hb _=>?_,λb o q n hb _=>?_,λb o q n _=>u.free b o q n (by simp),λb o q _=>?_,u.tups,u.frzs,u.tbls⟩,λb o q=>?_
 .let n2:=u.free b o q n (by simp);let ne:b≠ea:=λz=>by rw[z,hea]at n2;cases n2
  refine g.keep b o (λz=>?_) ne (ub b o q) (u.keep b o q n hb (by simp));rcases hst b z with z|z
  .exact hb z
  .exact Fl (Fu q) (Nat.not_lt.mpr z)
 .let n2:=u.free b o q n (by simp);let ne:b≠ea:=λz=>by rw[z,hea]at n2;cases n2
  let⟨sl,e⟩:=u.slot b o q n hb (by simp);let⟨sl2,e2⟩:=g.slot b _ ne (ub b o q) e;exists sl2,e2
 .let⟨o',e⟩:=u.there b o q (by simp)
  by_cases ne:b=ea
  .subst ne;let⟨_,_,_,_,_,e3,_⟩:=g.flow;exists _,e3
  .let⟨sl,e2⟩:=g.slot b o' ne (ub b o q) e;exists _,e2
 .let nfr:∀c y,H c=some y->c∉frs X.stack:=λc y r z=>by rw[I.stkFree c z]at r;cases r
  let nT:∀c y,H c=some y->some c≠T0:=λc y r z=>by rw[(hT c z.symm).1]at r;cases r
  by_cases ne:b=ea
  .subst ne;rw[hea]at q;cases q;let⟨⟨o1,v1,a1,a2,a3,a4,a5⟩,_,_⟩:=I.hok b _ hea;let⟨T,vs',ob,ts,_,e3,e4,_⟩:=g.flow;rw[eo]at a1;cases a1;rw[od]at a4;cases a4;exact excP.ok ⟨_,vs',e3,a2,a3,rfl,by rw[e4];exact a5⟩
  .refine(I.hok b o q).stay (λc v hc r=>?_) (λ_ z=>z) λ_ _ z=>z;rcases hc with hc|hc
   .rw[hc]at r⊢;exact g.keep b v (nfr b o q) ne (nT b o q) r
   .let ne2:c≠ea:=λz=>by rw[z,hea]at hc;cases hc
    exact g.keep c v (nfr c _ hc) ne2 (nT c _ hc) r
end
section
variable{base:Heap}{scope:Scope}{f:Addr}{cd:Ca}{outer:List Env}{E:XK}
abbrev cxE(P:Ez)(w:Hm)(K:Cr)(mg:Str->Option Ca)(base:Heap)(N:List Str)(qual:Str)(scope:Scope)(f:Addr)(cd:Ca)(A:Kj)(outer:List Env)(s:Cc)(H:Hp)(E:XK):Cx:=cxOf (CXE P w) P w K mg base N qual scope f cd A outer s H E
def Zje:∀b∈frs (cxE P w K mg base N qual scope f cd A outer s H E).stack,b∈(cxE P w K mg base N qual scope f cd A outer s H E).fs\/(cxE P w K mg base N qual scope f cd A outer s H E).s₀.heap.objs.size<=b:=λb hb=>by
 rcases Jt.mp (show b∈s.heap.objs.size::frs outer from hb)with z|z
 .exact .inr (Bq z.symm)
 .exact .inl z
def Lies(ea:Addr)(T0:Option Addr)(h:Heap):Prop:=match T0 with
 |none=>∃oe vs,h.get? ea=some oe/\oe.data=.fields vs/\vs[1]?=some .none
 |some T=>Zfy ea T h
theorem Zqr{s2:Cc}{d:Option Addr}(I:Inv (cxE P w K mg base N qual scope f cd A outer s H E) pq σ H2 s2)(hea:H2 ea=some (.ext (excP ea C d)))(lea:s.heap.objs.size<=ea)(hT:∀T,T0=some T->H2 T=none/\s.heap.objs.size<=T)(fl:Lies ea T0 s2.heap)(q:E (.ref C) d H2):(cxE P w K mg base N qual scope f cd A outer s H E).xe (.ref ea) s2:=by
 let fin:∀(oe:Obj)(vs:Array Ca)(h':Heap),s2.heap.get? ea=some oe->oe.data=.fields vs->Gone (frs (cxE P w K mg base N qual scope f cd A outer s H E).stack) ea T0 oe vs s2.heap h'->CXE P w outer H s E (.ref ea) {s2 with heap:=h'}:=λoe vs h' eo od g=>by
  let⟨un,hok⟩:=I.gone rfl Zje hea eo od hT g;let⟨T,vs',ob,ts,z1,z2,z3,z4,z5,z6,z7,z8⟩:=g.flow;exists ea,C,T,d,H2,rfl,I.os,I.bare,un,hok,hea,lea,I.hok.fresh z1,Jy I.sz z1,⟨_,vs',ob,ts,z2,rfl,z4,z5,z6,z7,z8⟩,q
 show Cd (Ck P w) _ (Jh4 _ _) _ _ _;cases T0 with
 |none =>
  let⟨oe,vs,eo,od,v1⟩:=fl;exact Pu (Zco (base:=base) I.ok.frames I.stack rfl eo od v1 λh' g=>fin oe vs h' eo od g)
 |some T =>
  let⟨oe,vs,oT,ts,eo,od,v1,eT,dT,t3,ne⟩:=fl;exact Pu (Pm (base:=base) I.ok.frames I.stack rfl eo od v1 eT dT t3 ne λh' g=>fin oe vs h' eo od g)
def Zhw:Uo (CXE P w) (cxE P w K mg base N qual scope f cd A outer s H E) E:=by
 intro pq σ H1 s1 e s2 I hx;let⟨ea,C,T,d,H2,rfl,os,bare,un,hok,hea,lea,nT,lT,fl,q⟩:=hx;let I2:Inv (cxE P w K mg base N qual scope f cd A outer s H E) pq σ H2 s2:=I.call' os un hok bare (ch:=[]) λb z=>Fl z (by simp);exact Zqr (T0:=some T) I2 hea (Jy I.sz lea) (λT' z=>by cases z;exact⟨nT,Jy I.sz lT⟩) fl q
end
def CalE(P:Ez)(w:Hm)(K:Cr)(mg:Str->Option Ca)(base:Heap)(x:Str)(k:Nat)(ps:List Str)(sp:Sp):Prop :=
 ∃f fd,FnOk P w K mg base (CXE P w) k f fd ps sp/\mg x=some (.ref f)/\Mc K (.ref f)=true/\Vo K fd ps []
section
variable{E:XK}{k:Nat}{x:Str}{p:Pos}{e:Expr}{t:TA}
def Zo1(C:CalE X.prog X.w X.K X.mg X.base x k ps sp)(hr:Room k X.A)(hg:Gl X x)(hx:Uo (CXE X.prog X.w) X E)(ha:PA X (e::es) t)(hdb:(x==("__debug__":Str))=false:=by decide)(he:Cj (e::es) X.env=(false,eval e X.env)::Cj es X.env:=by rfl)(hpl:(Ht pos (Cj es X.env)).any (·.1)=false:=by rfl):PE X (.Call (.Name x p) (e::es) [] pos) (Zgo sp [] E t):=by
 let⟨f,fd,F,hm,hk,hb⟩:=C;exact Zhu F hr hg hm hk hb .nil hx ha hdb he hpl
end
section
variable{base:Heap}
def Fun.okE{x:Str}{f:Addr}{k:Nat}(F:Fun K x qual st f fd)(S:FnScope N ps (Zg st))(len:∀vs H Q E,sp vs H Q E->vs.length=ps.length)(hbody:∀(cdv:Ca)(A:Kj)(outer:List Env)(s:Cc)(H:Hp)(vs:List V)(Q:VK)(E:XK),Room k (A.deeper (Hf qual (Zg st) s.heap.objs.size f cdv))->sp vs H Q E ->
   ∃t,PSs (cxE P w K mg base N qual (Zg st) f cdv A outer s H E) (Yi st) t/\t {nx:=λ_ H'=>Q .non H',rt:=Q} (Tb N vs) H):FnOk P w K mg base (CXE P w) (k+1) f fd ps sp:=by
 let⟨oc,od,kV,doc,pm,an,cdv,ct,osl,rfl,lk,hcd⟩:=F.ex;exact Zlv lk hcd S len λA outer s H vs Q E hr hsp=>hbody cdv A outer s H vs Q E hr hsp
theorem FnOk.calm{k:Nat}{f:Addr}(F:FnOk P w K mg base (CXE P w) k f fd ps sp)(h:∀vs H Q E,sp' vs H Q E->sp vs H Q E0):FnOk P w K mg base CX0 k f fd ps sp':=by
 exists λvs H Q E q=>F.len vs H Q E0 (h _ _ _ _ q),λA outer s H args us vs Q E hr he hb hv hs=>?_;refine Hl (F.run A outer s H args us vs Q E0 hr he hb hv (h _ _ _ _ hs)) λr s' hq=>?_;cases r with
 |ok fl=>cases fl<;>exact hq
 |error e =>
  let⟨_,_,_,_,_,_,_,_,_,_,_,_,_,_,_,z⟩:=hq;exact z.elim
end
end L2
namespace L2
open PySem PySem.Spec PyProof.Rows PySem.W
abbrev veB:List Ca:=[.type "ValueError",.type "Exception",.type "BaseException",.type "object"]
def excI(K:Frag)(C fI:Addr):Bool:=match K.lookup C with
 |some ⟨.type "type",_,.cls cd,sl⟩=>(match cd.mro,sl.toList with
  |.ref C'::bm,[_,_,_,_,some (.builtin n),_]=>C'==C&&(n == "ValueError.__new__" && (!cd.hasDel&&(tailIn K veB bm&&(nsOkIn K cd.ns&&cd.hasDict))))
  |_,_=>false)
 |_=>false
def Qq(K:Frag)(C:Addr):Option (Option Ca):=match K.lookup C with
 |some ⟨_,_,.cls cd,_⟩=>nsIn K cd.ns "__init__"
 |_=>none
def ExcA(h:Heap)(C:Addr)(o:Option (Option Ca)):Prop:=∃bm N nm q bs sn sub ab col dd k0 k1 k2 k3 k5 mN,h.get? C=some (excClassObj nm q C N bs bm true sn sub ab col dd k0 k1 k2 k3 k5 "ValueError.__new__")/\h.Ns N mN/\(∀z,o=some z->mN "__init__"=z)/\OwnTail h veB bm
def ExcI(h:Heap)(C fI:Addr):Prop:=∃bm N nm q bs sn sub ab col dd k0 k1 k2 k3 k5 mN,h.get? C=some (excClassObj nm q C N bs bm true sn sub ab col dd k0 k1 k2 k3 k5 "ValueError.__new__")/\h.Ns N mN/\mN "__init__"=some (.ref fI)/\OwnTail h veB bm
def Zfa{K:Frag}{N:Addr}{n:Str}{v:Ca}(X:K.In h)(G:h.Ns N mg)(e:nsIn K N n=some (some v)):mg n=some v:=by
 let⟨o,es,ep,ho,hd,_,hf⟩:=G;unfold nsIn at e
 split at e
 .rename_i c d es' n' sl q
  let z:=X _ _ q;rw[ho]at z;cases z;cases hd
  split at e
  .rename_i y he
   injection e with e
   rw[<-hf];unfold nsFind findBy;rw[<-Mb,he];exact e
  .rename_i he
   split at e<;>cases e
 .cases e
def Zfb{K:Frag}{N:Addr}{n:Str}(X:K.In h)(G:h.Ns N mg)(e:nsIn K N n=some none):mg n=none:=by
 let⟨o,es,ep,ho,hd,_,hf⟩:=G;unfold nsIn at e
 split at e
 .rename_i c d es' n' sl q
  let z:=X _ _ q;rw[ho]at z;cases z;cases hd
  split at e
  .cases e
  .rename_i he
   rw[<-hf];unfold nsFind findBy;rw[<-Mb,he];rfl
 .cases e
def Q3{K:Frag}(X:K.In h)(q:excI K C fI=true):ExcA h C (Qq K C):=by
 unfold excI at q
 split at q
 .rename_i dd cd sl ho
  split at q
  .rename_i C' bm k0 k1 k2 k3 n k5 hm hs
   let hin:Qq K C=nsIn K cd.ns "__init__":=by unfold Qq;rw[ho]
   simp only[G6,beq_iff_eq,Kf]at q;let⟨rfl,rfl,hdel,ht,hok,hdi⟩:=q;let⟨nm,bs,mro,ns,qn,hd,sn,sub,ab,col,del⟩:=cd;dsimp only at hm hdel hok hdi hin;subst hm hdel hdi;let hsl:sl=#[k0,k1,k2,k3,some (.builtin "ValueError.__new__"),k5]:=by
    rcases sl with⟨l⟩;simp only at hs;rw[hs]
   subst hsl;exists bm,ns,nm,qn,bs,sn,sub,ab,col,dd,k0,k1,k2,k3,k5,_,X _ _ ho,.of_isNs (Jg0 X hok),λz hz=>?_,tail_of_in X ht;rw[hin]at hz;cases z with
   |none=>exact Zfb X (.of_isNs (Jg0 X hok)) hz
   |some v=>exact Zfa X (.of_isNs (Jg0 X hok)) hz
  .cases q
 .cases q
def Zpy{K:Frag}(X:K.In h)(q:excI K C fI=true)(hi:Qq K C=some (some (.ref fI))):ExcI h C fI:=by
 let⟨bm,N,nm,q,bs,sn,sub,ab,col,dd,k0,k1,k2,k3,k5,mN,cO,cN,cI,T⟩:=Q3 X q;exists bm,N,nm,q,bs,sn,sub,ab,col,dd,k0,k1,k2,k3,k5,mN,cO,cN,cI _ hi,T
section
variable{g:Array GenState}{d:Drawn}{t:Nat}{os:OsState}
def Zgk{oI:Obj}{rest:List Ca}{Q:Jd9->Cc->Prop}(x:ExcI h C fI)(fo:h.get? fI=some oI)(fc:oI.cls=.type "function")(sz:rest.length<=Cb)(k:∀h',Jdp h h' (h.objs.size+1) (.ref C) rest->Cd (Ck prog w) A (call (.ref fI) (.ref (h.objs.size+1)::rest)) (λr s'=>r=.none/\Q (.done (.ret (.ref (h.objs.size+1)))) s') E ⟨h',g,d,t,os⟩) :
  Cd (Ck prog w) A (Builtin.«type.__call__» ⟨.ref C::rest,[]⟩) Q E ⟨h,g,d,t,os⟩:=by
 let⟨bm,N,nm,q,bs,sn,sub,ab,col,dd,k0,k1,k2,k3,k5,mN,cO,cN,cI,T⟩:=x;let F:=PySem.F.excBase_ValueError
 repeat (first|wp_step|with_reducible refine E4 cO ?_|with_reducible refine wpAny_madeBy_exc cO ?_)
 refine codeAny_call_builtin_code (Kz _ F.quiet) (wpAny_check_new_subT F T cO ?_);refine codeAny_exc_new_subT F T cO ?_ sz;show Cd _ _ _ _ _ _;generalize hO1:({cls:=.type "tuple",data:=.seq rest.toArray}:Obj)=o1;generalize hO2:({cls:=.ref C,data:=.fields #[.ref h.objs.size,.none,.none,.none,.bool false,.none]}:Obj)=o2;let kp:∀b o,h.get? b=some o->((h.push o1).push o2).get? b=some o:=λb o e=>Fs _ (Fs _ e);let f1:o1.isFreed=false:=by rw[<-hO1];rfl
 let f2:o2.isFreed=false:=by rw[<-hO2];rfl
 let at2:((h.push o1).push o2).get? (h.objs.size+1)=some o2:=by
  let:=Ft (h.push o1) f2;rwa [El]at this
 let c2:o2.cls=.ref C:=by rw[<-hO2]
 let self:(Ch C::bm).contains (.ref C)=true:=by simp
 let cO1:=kp _ _ cO;let cN1:=cN.keeps kp;let T1:=T.keeps kp;unfold Jg1
 repeat (first|(with_reducible refine E4 at2 ?_;rw[c2])|(with_reducible refine Jdy cO1 ?_;rw[self])|wp_step)
 show Cd _ _ (Jdf (.ref C) _) _ _ _;refine wpAny_typeLookup_tail cO1 cN1 T1 F.mroIs F.init.lookup ?_;rw[cI];refine Cy (Fo ?_);unfold bindSpecial;refine Fo (Ks (T:="function") ⟨_,kp _ _ fo,fc⟩ ?_);rw[Fw nofun];let made:Jdp h ((h.push o1).push o2) (h.objs.size+1) (.ref C) rest:=⟨kp,Lk (G2 _),h.objs.size,by rw[at2,<-hO2],Lk (Jd _),by rw[hO1];exact Fs _ (Ft h f1)⟩;refine Fp (Fo (F7 (k _ made) (λr s' hr=>?_) λ_ _ z=>z));let⟨rfl,hQ⟩:=hr
 wp_walk
 exact hQ
def Zl0{oI:Obj}{rest:List Ca}{Q:Ca->Cc->Prop}(x:ExcI h C fI)(fo:h.get? fI=some oI)(fc:oI.cls=.type "function")(sz:rest.length<=Cb)(k:∀h',Jdp h h' (h.objs.size+1) (.ref C) rest->Cd (Ck prog w) (A.under (.builtin "type.__call__" ⟨.ref C::rest,[]⟩)) (call (.ref fI) (.ref (h.objs.size+1)::rest)) (λr s'=>r=.none/\Q (.ref (h.objs.size+1)) s') E ⟨h',g,d,t,os⟩) :
  Cd (Ck prog w) A (call (.ref C) rest) Q E ⟨h,g,d,t,os⟩:=by
 let⟨bm,N,nm,q,bs,sn,sub,ab,col,dd,k0,k1,k2,k3,k5,mN,cO,cN,cI,T⟩:=id x;let z1:=tc_lookup;let z2:=tc_bind (.ref C);let ty:(⟨h,g,d,t,os⟩:Cc).TypeIs (.ref C) "type":=⟨_,cO,rfl⟩;refine K6 (codeAny_of_tree ?_);show Cd _ _ (callAny (.ref C) _) _ _ _
 repeat (any_goals (first|assumption|wp_step|with_reducible refine E4 cO ?_))
 exists rfl,?_;exact codeAny_call_builtin_at (Kz _ (by decide +kernel)) entry_typeCall (wpAny_check_type_call_sub cO (Zgk x fo fc sz k))
end
end L2
namespace L2
open PySem PySem.Spec PyProof.Rows PySem.W PySem.Builtin PySem.Builtin.ObjectAttr
def Zhg(self:Ca):refuseLoop self "__setattr__" veB=pure ⟨⟩:=by kernel_rfl
theorem Zce(self:Ca){bm:List Ca}(T:OwnTail h veB bm):refuseLoop self "__setattr__" bm=pure ⟨⟩:=by
 induction T with
 |base=>exact Zhg self
 |own _ _ _ _ ih=>rw[refuseLoop_ref];exact ih
section
variable{K:Frag}{a:Addr}
def Zhy{ox:Obj}{od:Option Obj}{name:Str}{tk:Tok}{v:Ca}{R:Jc0->Cc->Prop}(X:K.In s.heap)(q:excI K C fI=true)(I:InstAt s.heap a ox C od)(ho:L7 K C (.type "object")=some true)(ht:Ed K (.ref C) name=some none)(k:Cd (Ck prog w) A.in1 (storeInOwnDict (.ref a) (.ref C) (.str name tk) name v false) (λfin s'=>match fin with|.done f=>R (.ok f) s'|.again c'=>c'.quiet=true/\Ho (Ck prog w) A c' R s') (λe s'=>R (.error e) s') s) :
  Ho (Ck prog w) A (.call (.builtin "object.__setattr__") ⟨[.ref a,.str name tk,v],[]⟩) R s:=by
 let SF:=PySem.F.store_object;let sub:Looks (Ck prog w) s.heap (Jg1 (.ref a) (.type "object")) true:=I.type.andThen (Jfz X ho);refine Jdk SF.slot.plain SF.entry (@check_slot (Ck prog w) _ _ s "object.__setattr__" "object" "__setattr__" (.ref a) [.str name tk,v] [] _ SF.kind SF.split sub (SF.args (.ref a) (.str name tk) v) ?_);let⟨bm,N,nm,qn,bs,sn,sub',ab,col,dd,k0,k1,k2,k3,k5,mN,cO,cN,cI,T⟩:=Q3 X q;rw[osa_eq,refuse_eq];refine Fo (Fo (I.type.here (Fo ?_)));let⟨hh,g,d,t,os⟩:=s;refine wpAny_mroOf_exc cO ?_;rw[refuseLoop_ref,Zce _ T];refine Fp (Fo (I.type.here (Fo ((looks_findIn X ht).here (Fo ?_)))))
 show Cd _ _ (pure none) _ _ _;refine Fp ?_;exact k
theorem Zkp{ox:Obj}{vs:Array Ca}{name:Str}{v:Ca}{Q:Unit->Cc->Prop}(X:K.In s.heap)(q:excI K C fI=true)(ho:L7 K C (.type "object")=some true)(ht:Ed K (.ref C) name=some none)(hs:Ed K (.ref C) "__setattr__"=some (some (.builtin "object.__setattr__")))(ao:s.heap.get? a=some ox)(cl:ox.cls=.ref C)(dn:ox.dict=none)(od:ox.data=.fields vs)(k:∀h',h'.Ns1 s.heap.objs.size (λy=>if y=name then some v else none)->h'.get? a=some {ox with dict:=some s.heap.objs.size}->(∀b o,b≠a->s.heap.get? b=some o->h'.get? b=some o)->Q ⟨⟩ {s with heap:=h',toks:=s.toks+2}) :
  Cd (Ck prog w) A (Jh0 (.ref a) name v) Q E s:=by
 let I:InstAt s.heap a ox C none:=⟨ao,cl,by let⟨c,dd,dt,sl⟩:=ox;cases od;rfl,by rw[dn];trivial⟩;refine Jfp X I hs (Zhy (s:={s with toks:=s.toks+1}) X q I ho ht ?_);let⟨bm,N,nm,qn,bs,sn,sub',ab,col,dd,k0,k1,k2,k3,k5,mN,cO,cN,cI,T⟩:=Q3 X q;let⟨c,di,dt,sl⟩:=ox;dsimp only at cl dn od;subst cl dn od;refine Fo (Fp (Fo (Fo (wpAny_loadPart ao (Fo ?_)))));unfold classData;refine Fo (Jej cO (Fp ?_));show Cd _ _ (alloc {cls:=.type "dict",data:=.dict #[]} >>= λd=>update a (λo=>{o with dict:=some d}) >>= λ_=>dictMade (.ref C) a d) _ _ _;refine Fo (wpAny_alloc ?_)
 let ao2:(s.heap.push {cls:=.type "dict",data:=.dict #[]}).get? a=some _:=Fs _ ao;refine Fo (wpAny_update ao2 ?_);refine Fp ?_;refine Fo (Fp (Fo ?_));let fz:(s.heap.push {cls:=.type "dict",data:=.dict #[]}).objs.size=s.heap.objs.size+1:=El ..;let ne:a≠s.heap.objs.size:=Gd (Fu ao);generalize hU:(s.heap.push {cls:=.type "dict",data:=.dict #[]}).update a (λo=>{o with dict:=some s.heap.objs.size})=hp;let aU:hp.get? a=some {cls:=.ref C,dict:=some s.heap.objs.size,data:=.fields vs,slots:=sl}:=by
  rw[<-hU];exact Cu _ ao2 rfl
 let oU:∀b o,b≠a->(s.heap.push {cls:=.type "dict",data:=.dict #[]}).get? b=some o->hp.get? b=some o:=λb o hb e=>by
  rw[<-hU,Cw _ _ (Ee hb)];exact e
 let dU:hp.get? s.heap.objs.size=some {cls:=.type "dict",data:=.dict #[]}:=oU _ _ (Ee ne) (Ft s.heap rfl);let hn0:hp.Ns1 s.heap.objs.size (λ_=>none):=⟨_,#[],_,dU,rfl,(λe he=>Fl he (by simp)),by first|trivial|exact Jer|(intro x;simp),λ_=>rfl⟩;let w0:Hv (λ_:Str=>(none:Option Ca)) []:=λn hn=>Fl rfl hn;refine Je1 (s:={s with heap:=hp,toks:=s.toks+1}) hn0 λh' hn2 hs2=>?_;let⟨oD,esD,epD,hoD,hdD,hcD⟩:=hn2.count (Mn name v w0);refine Fo (Ja5 hoD (by rw[hdD];exact Ja6 (Jy hcD (by show 1<=Cb+1;lia))) ?_)
 exact Fp (k h' hn2 ((hs2.2 _ ne).trans aU) λb o hb e=>(hs2.2 b (λz=>by
  rw[z]at e;exact Fl (Fu e) (G5 _))).trans (oU b o hb (Fs _ e)))
theorem Zko{ox:Obj}{vs:Array Ca}{name:Str}{v:Ca}{ns:List Str}{Q:Unit->Cc->Prop}(X:K.In s.heap)(q:excI K C fI=true)(ho:L7 K C (.type "object")=some true)(ht:Ed K (.ref C) name=some none)(hs:Ed K (.ref C) "__setattr__"=some (some (.builtin "object.__setattr__")))(ao:s.heap.get? a=some ox)(cl:ox.cls=.ref C)(dn:ox.dict=some dx)(od:ox.data=.fields vs)(hn:s.heap.Ns1 dx mA)(ne:dx≠a)(hw:Hv mA ns)(sz:ns.length<=1000)(k:∀h',h'.Ns1 dx (λy=>if y=name then some v else mA y)->Hk dx s.heap h'->Q ⟨⟩ {s with heap:=h',toks:=s.toks+2}) :
  Cd (Ck prog w) A (Jh0 (.ref a) name v) Q E s:=by
 let⟨odx,_,_,edx,_⟩:=id hn;let I:InstAt s.heap a ox C (some odx):=⟨ao,cl,by let⟨c,dd,dt,sl⟩:=ox;cases od;rfl,by rw[dn];exact edx⟩;refine Jfp X I hs (Zhy (s:={s with toks:=s.toks+1}) X q I ho ht ?_);let⟨bm,N,nm,qn,bs,sn,sub',ab,col,dd,k0,k1,k2,k3,k5,mN,cO,cN,cI,T⟩:=Q3 X q;let⟨c,di,dt,sl⟩:=ox;dsimp only at cl dn od;subst cl dn od;refine Fo (Fp (Fo (Fo (wpAny_loadPart ao (Fo ?_)))));unfold classData;refine Fo (Jej cO (Fp ?_));refine Fp (a:=some dx) (Fo (Fp (Fo ?_)));refine Je1 (s:={s with toks:=s.toks+1}) hn λh' hn2 hs2=>?_;let⟨oD,esD,epD,hoD,hdD,hcD⟩:=hn2.count (Mn name v hw)
 refine Fo (Ja5 hoD (by rw[hdD];exact Ja6 (Jy hcD (by rw[Jv,Ei];lia))) ?_);exact Fp (k h' hn2 hs2)
end
end L2
namespace L2
open PySem PySem.Spec PyProof.Rows PySem.W
structure XCl(K:Frag)(C fI:Addr):Prop where
 ei:excI K C fI=true
 ob:L7 K C (.type "object")=some true
 bx:L7 K C (.type "BaseException")=some true
 sa:Ed K (.ref C) "__setattr__"=some (some (.builtin "object.__setattr__"))
 ga:Ed K (.ref C) "__getattribute__"=some (some (.builtin "BaseException.__getattribute__"))
 gt:Ed K (.ref C) "__getattr__"=some none
 hd:hasDictIn K C=true
 kp:keepIn K (.ref C)=true
 fn:Jic K (.ref fI)=some (.type "function")
 cc:Ed K (.ref C) "__class__"=some (some (.builtin "object.__class__"))
 cg:specialIn K (.builtin "object.__class__") "__get__"=some (some (.builtin "getset_descriptor.__get__"))
 ct:takesIn K (.builtin "object.__class__")=some true
def excN(ea C:Addr)(d:Option Addr)(h:Heap):Prop:=∃oe vs,h.get? ea=some oe/\oe.cls=.ref C/\oe.dict=d/\oe.data=.fields vs/\vs.size=6/\vs[1]?=some .none
def excN.ok{d:Option Addr}(x:excN ea C d h):Y3 P w H h ea (.ext (excN ea C d)):=by
 let⟨oe,vs,e,r⟩:=id x;exists x,⟨oe,e⟩,λh1 h2⟨o1,v1,e1,r1⟩k=>⟨o1,v1,k _ e1,r1⟩
def xdP(d:Addr)(fs:List (Str×V))(h:Heap):Prop:=∃mA,h.Ns1 d mA/\(∀f,RelO (fs.lookup f) (mA f))/\Hv mA (fs.map (·.1))
def xdP.ok{d:Addr}{fs:List (Str×V)}(x:xdP d fs h):Y3 P w H h d (.ext (xdP d fs)):=by
 let⟨mA,⟨o,es,ep,e,r⟩,q⟩:=id x;exists x,⟨o,e⟩,λh1 h2⟨m1,n1,q1⟩k=>⟨m1,n1.at k,q1⟩
section
def Inv.two{d:Addr}{φ ψ o1:HO}(I:Inv X pq σ H s)(hea:H ea=some φ)(mu:Mut (some φ))(hd:s.heap.objs.size<=d)(k:∀b o,b≠ea->s.heap.get? b=some o->h'.get? b=some o)(te:∃o,h'.get? ea=some o)(n1:∀H2,Y3 X.prog X.w H2 h' ea o1)(n2:∀H2,Y3 X.prog X.w H2 h' d ψ):Inv X pq σ (upd (upd H ea o1) d ψ) {s with heap:=h',toks:=t'}:=by
 let nd:H d=none:=I.hok.fresh hd;let ed:d≠ea:=λz=>by rw[z,hea]at nd;cases nd
 let ld:∀b o,s.heap.get? b=some o->b≠d:=λb o q z=>by rw[z]at q;exact Fl (Fu q) (Nat.not_lt.mpr hd)
 let at':∀b u,b≠ea->H b=some u->upd (upd H ea o1) d ψ b=some u:=λb u h1 e=>by rw[Zo (λz=>by rw[z,nd]at e;cases e),Zo h1];exact e
 let own:∀c y,H c=some (.own y)->c≠ea:=λc y e z=>by rw[z,hea]at e;cases e;exact mu
 let tup:∀c y,H c=some (.tup y)->c≠ea:=λc y e z=>by rw[z,hea]at e;cases e;exact mu
 let frz:∀c y u,H c=some (.frz y u)->c≠ea:=λc y u e z=>by rw[z,hea]at e;cases e;exact mu
 let tbl:∀c y,H c=some (.tbl y)->c≠ea:=λc y e z=>by rw[z,hea]at e;cases e;exact mu
 refine I.un ⟨λb o q n _ _=>?_,λb o q n _ _=>?_,λb o q n _=>?_,λb o q _=>?_,λb xs e=>at' _ _ (tup _ _ e) e,λb o u e=>at' _ _ (frz _ _ _ e) e,λb ps e=>⟨#[],by rw[at' _ _ (tbl _ _ e) e];simp⟩⟩ (λb o q=>?_)
 .exact k b o (λz=>by rw[z,hea]at n;cases n) q
 .exists o.slots,k b o (λz=>by rw[z,hea]at n;cases n) q
 .rw[Zo (ld b o q),Zo (λz=>by rw[z,hea]at n;cases n)];exact n
 .by_cases z:b=ea
  .rw[z];exact te
  .exists o,k b o z q
 .by_cases z:b=d
  .subst z;rw[Zh]at q;cases q;exact n2 _
  .rw[Zo z]at q
   by_cases z2:b=ea
   .subst z2;rw[Zh]at q;cases q;exact n1 _
   .rw[Zo z2]at q;refine(I.hok b o q).stay (λc v hc r=>?_) (λc e=>at' _ _ (own _ _ e) e) λc xs e=>at' _ _ (tup _ _ e) e;rcases hc with hc|hc
    .rw[hc]at r⊢;exact k b v z2 r
    .exact k c v (own _ _ hc) r
end
def Zvo(K:Frag)(ta tv:TE)(f:Str):TS:=λD σ H=>tv σ H λy H1=>ta σ H1 λx H2=>∃ea C fI,x=.ref ea/\XCl K C fI/\Ed K (.ref C) f=some none /\
  ((H2 ea=some (.ext (excN ea C none))/\∀d,H2 d=none->d≠ea->D.nx σ (upd (upd H2 ea (.ext (excN ea C (some d)))) d (.ext (xdP d [(f,y)])))) \/
   ∃d fs,H2 ea=some (.ext (excN ea C (some d)))/\H2 d=some (.ext (xdP d fs))/\fs.length<1000/\D.nx σ (upd H2 d (.ext (xdP d (putF f y fs)))))
section
variable{o:Expr}{f:Str}{tv:TE}
def Zd1{fs:List (Str×V)}{f:Str}{y:V}{u:Ca}(r:∀g,RelO (fs.lookup g) (mA g))(ry:RelV y u)(g:Str):RelO ((putF f y fs).lookup g) (if g=f then some u else mA g):=by
 rw[Tr]
 by_cases q:g=f
 .rw[Fw q,Fw q];exact ry
 .rw[Fv q,Fv q];exact r g
def Pd{fs:List (Str×V)}{f:Str}{y:V}{u:Ca}(wi:Hv mA (fs.map (·.1))):Hv (λg=>if g=f then some u else mA g) ((putF f y fs).map (·.1)):=λg hg=>by
 by_cases q:g=f
 .rw[q];exact(Uc f y fs).1
 .refine(Uc f y fs).2 g (wi g λz=>hg ?_);show(if g=f then some u else mA g)=none;rw[Fv q];exact z
theorem Zci(ha:PE X o ta)(hv:PE X value tv)(hs:Mj value (some (.Attribute o f pos')) pos.line X.env=pure false):PS X (.Assign [.Attribute o f pos'] value pos) (Zvo X.K ta tv f):=by
 intro pq s σ H D I h;refine K5 (thn (hv pq s σ H _ I h) λu s1⟨y,H1,I1,ry,q⟩=>thn (ha pq s1 σ H1 _ I1 q) λov s2 hz=>?_) hs;let⟨x,H2,I2,rx,ea,C,fI,ex,xc,hf,q2⟩:=hz;subst ex;obtain rfl:ov=Ch ea:=rx;rcases q2 with⟨hea,q2⟩|⟨d,fs,hea,hd,hl,q2⟩
 .let⟨⟨oe,vs,e1,e2,e3,e4,e5,e6⟩,_,_⟩:=I2.hok ea _ hea;refine Zkp I2.kIn xc.ei xc.ob hf xc.sa e1 e2 e3 e4 λh' hn ha' hk=>?_;let nd:=I2.hok.fresh (Jd s2.heap.objs.size);refine⟨σ,_,I2.two (d:=s2.heap.objs.size) (ψ:=.ext (xdP s2.heap.objs.size [(f,y)])) (o1:=.ext (excN ea C (some s2.heap.objs.size))) hea Es (Jd _) hk ⟨_,ha'⟩ (λ_=>excN.ok ⟨_,vs,ha',e2,rfl,e4,e5,e6⟩) (λ_=>xdP.ok ⟨_,hn,Zd1 (fs:=[]) (λ_=>Es) ry,Pd (fs:=[]) (y:=y) λg hg=>Fl rfl hg⟩),q2 _ nd λz=>by rw[z,hea]at nd;cases nd⟩
 .let⟨⟨oe,vs,e1,e2,e3,e4,e5,e6⟩,_,_⟩:=I2.hok ea _ hea;let⟨⟨mA,n1,r1,w1⟩,_,_⟩:=I2.hok d _ hd;let ne:d≠ea:=λz=>by
   rw[z]at n1;let⟨o',_,_,a1,a2,_⟩:=n1;rw[e1]at a1;cases a1;rw[e4]at a2;cases a2
  refine Zko I2.kIn xc.ei xc.ob hf xc.sa e1 e2 e3 e4 n1 ne w1 (by rw[Ja];lia) λh' hn sb=>?_;let⟨od',_,_,ed',_⟩:=id hn;exists σ,_,I2.write (x:=d) (e:=d) (by rw[hd];exact Es) (.inl rfl) (λb u hb e=>(sb.2 b hb).trans e) ⟨od',ed'⟩ (xdP.ok ⟨_,hn,Zd1 r1 ry,Pd w1⟩),q2
end
def Rx(P:Ez)(w:Hm)(K:Frag)(mg:Str->Option Ca)(base:Heap)(x:Str)(C:Addr)(k:Nat)(ps:List Str)(sp:Sp):Prop :=
 ∃fI fd,XCl K C fI/\Qq K C=some (some (.ref fI))/\FnOk P w K mg base CX0 k fI fd ps sp/\mg x=some (.ref C)/\Vo K fd ps []
section
variable{k:Nat} 
theorem Zor{R:Addr->Hp->Prop}(xc:XCl X.K C fI)(xi:Qq X.K C=some (some (.ref fI)))(F:FnOk X.prog X.w X.K X.mg X.base CX0 k fI fd ps sp)(hr:Room (k+1) X.A)(hb:Vo X.K fd ps [])(I:Inv X pq σ H s)(r:Vals vs us)(sz:us.length<=Cb)(h:∀ea,H ea=none->sp (.ref ea::vs) (upd H ea (.ext (excN ea C none))) (λv H2=>v=.non/\R ea H2) E0) :
  Cd (Ck X.prog X.w) X.A (call (.ref C) us) (λu s'=>∃ea H2,u=.ref ea/\Inv X pq σ H2 s'/\s.heap.objs.size<=ea/\R ea H2) X.xe s:=by
 let hq:=h (s.heap.objs.size+1) (I.hok.fresh (G2 _));obtain⟨oI,lI,tI⟩:∃o,X.K.lookup fI=some o/\o.cls=.type "function":=by
  let z:Jih (λx=>x.cls) (X.K.lookup fI)=some (.type "function"):=xc.fn;let⟨o,e,c⟩:=Option.map_eq_some_iff.mp z;exists o,e,c
 let fo:=I.kIn _ _ lI;let⟨hp,g,d,t,os⟩:=s;refine Zl0 (Zpy I.kIn xc.ei xi) fo tI sz λh' hm=>?_;let⟨tt,h1,h2,h3⟩:=hm.there;let I2:Inv X pq σ (upd H (hp.objs.size+1) (.ext (excN (hp.objs.size+1) C none))) ⟨h',g,d,t,os⟩:=I.laid (a:=hp.objs.size+1) (h':=h') (t':=t) hm.keeps (G2 _) (excN.ok ⟨_,_,h1,rfl,rfl,rfl,rfl,rfl⟩);let r2:Vals (V.ref (hp.objs.size+1)::vs) (Ch (hp.objs.size+1)::us):=.cons rfl r;let hl:(Ch (hp.objs.size+1)::us++[]).length=ps.length:=by
  let e:=r2.length;rw[F.len _ _ _ _ hq]at e;rw[Jp];exact e.symm
 let bb:=hb ⟨h',g,d,t,os⟩ (Ch (hp.objs.size+1)::us) I2.kIn hl;rw[Jp]at bb;refine K6 (Hl (F.run _ X.stack _ _ ⟨Ch (hp.objs.size+1)::us,[]⟩ (Ch (hp.objs.size+1)::us) _ _ E0 (hr.make C us []) (I2.env0.make C us []) bb r2 hq) λr s' hq'=>?_);cases r with
 |error e=>exact Cq hq'
 |ok fl =>
  cases fl with
  |ret u =>
   let⟨v,H',I3,rv,hv,q⟩:=I2.after hq';subst hv;obtain rfl:u=Ca.none:=rv;exists rfl,_,H',rfl,I3,G2 _,q
  |next=>exact Cq hq'
  |brk=>exact Cq hq'
  |cont=>exact Cq hq'
end
section
variable{M:Jhx}{Ex:Ca->Cc->Prop}{env:Env}
def Ze6{x:Sem Ca}{Q:Flow->Cc->Prop}{oi:Option (Option Ca)}(hh:A.handled=none)(h:Cd M A x (λv s1=>∃e oe vs,v=.ref e/\ExcA s1.heap C oi/\s1.heap.get? e=some oe/\oe.cls=.ref C/\oe.data=.fields vs/\vs[1]?=some .none/\Ex (.ref e) s1) Ex s) :
  Cd M A (raiseStmt env (some x) none) Q Ex s:=by
 unfold raiseStmt;refine Fo (F7 h (λv s1 h1=>?_) λ_ _ z=>z);let⟨e,oe,vs,rfl,⟨bm,N,nm,q,bs,sn,sub,ab,col,dd,k0,k1,k2,k3,k5,mN,cO,cN,cI,T⟩,he,hc,hd,v1,hE⟩:=h1;let hB:(Ch C::bm).contains (.type "BaseException")=true:=by rw[List.contains_cons,T.hasType PySem.F.excBase_ValueError.hasBase,Bool.or_true]
 let⟨hp,g,d,tk,os⟩:=s1
 repeat (first|(with_reducible refine E4 he ?_;rw[hc])|with_reducible refine K8 he hd v1 ?_|with_reducible refine E4 cO ?_|(with_reducible refine Jdy cO ?_;rw[hB])|wp_step)
 exact wpAny_raiseNew_none hh hE
end
def Zme(C:Addr)(sp:Sp)(E:XK)(t:TA):TS:=λ_ σ H=>t σ H λvs H1=>vs.length<=10/\∀ea,H1 ea=none->sp (.ref ea::vs) (upd H1 ea (.ext (excN ea C none))) (λv H2=>v=.non/\∃d,H2 ea=some (.ext (excN ea C (some d)))/\E (.ref C) (some d) (upd H2 ea (.ext (excP ea C (some d))))) E0
section
variable{K:Frag}{base:Heap}{scope:Scope}{f:Addr}{cd:Ca}{outer:List Env}{E:XK}
def Rr{k:Nat}{x:Str}{np:Pos}{e:Expr}{t:TA}(R:Rx P w K mg base x C k ps sp)(hr:Room (k+1) (cxE P w K mg base N qual scope f cd A outer s H E).A)(hg:Gl (cxE P w K mg base N qual scope f cd A outer s H E) x)(ha:PA (cxE P w K mg base N qual scope f cd A outer s H E) (e::es) t)(hdb:(x==("__debug__":Str))=false:=by decide)(he:Cj (e::es) (cxE P w K mg base N qual scope f cd A outer s H E).env=(false,eval e (cxE P w K mg base N qual scope f cd A outer s H E).env)::Cj es (cxE P w K mg base N qual scope f cd A outer s H E).env:=by rfl)(hpl:(Ht cpos (Cj es (cxE P w K mg base N qual scope f cd A outer s H E).env)).any (·.1)=false:=by rfl) :
  PS (cxE P w K mg base N qual scope f cd A outer s H E) (.Raise (some (.Call (.Name x np) (e::es) [] cpos)) none pos) (Zme C sp E t):=by
 intro pq s1 σ H1 D I h;let⟨fI,fd,xc,xi,F,hm,hb⟩:=R;rw[arm_exec_Raise];refine Fo (E7 (Ze6 (C:=C) (oi:=Qq K C) (I.ok.hd rfl) ?_));refine Fo (F7 ?_ (λv s3 h3=>Fo (E7 (Fp h3))) λ_ _ z=>z);refine Ej (Qk I hg hm ?_ hdb);refine Me (h₀:=base) I.ok.mod.kin xc.kp (thn (ha cpos pq s1 σ H1 _ I h) λus s2⟨vs,H2,I2,r,l10,q⟩=>⟨I2.kIn,?_⟩) he hpl;refine F7 (Zor (R:=λea H2=>∃d,H2 ea=some (.ext (excN ea C (some d)))/\E (.ref C) (some d) (upd H2 ea (.ext (excP ea C (some d))))) xc xi F hr hb I2 r (by show us.length<=Cb;rw[<-r.length];exact Jy l10 nofun) q) (λu s3 hu=>?_) λ_ _ z=>z
 let⟨ea,H3,rfl,I3,lea,d,hea,qE⟩:=hu;let⟨⟨oe,ws,e1,e2,e3,e4,e5,e6⟩,_,_⟩:=I3.hok ea _ hea;exists ea,oe,ws,rfl,Q3 I3.kIn xc.ei,e1,e2,e4,e6,?_;let I4:Inv (cxE P w K mg base N qual scope f cd A outer s H E) pq σ (upd H3 ea (.ext (excP ea C (some d)))) {s3 with heap:=s3.heap,toks:=s3.toks}:=I3.write (x:=ea) (e:=ea) (by rw[hea];exact Es) (.inl rfl) (λb u _ z=>z) ⟨_,e1⟩ (excP.ok ⟨oe,ws,e1,e2,e3,e4,e5⟩);exact Zqr (T0:=none) I4 Zh (Jy I2.sz lea) (λT z=>by cases z) ⟨oe,ws,e1,e4,e6⟩ qE
end
section
def Zuf(X:Cx)(pq:List (Addr×Obj))(σ:St)(Ex:XK)(e:Ca)(s':Cc):Prop:=∃(ea C T:Addr)(d:Option Addr)(H':Hp),e=.ref ea/\Inv X pq σ H' s'/\H' ea=some (.ext (excP ea C d))/\Zfy ea T s'.heap/\FpOk X pq H' T/\Ex (.ref C) d H'
def Zad(CX:CXT)(X:Cx)(pq:List (Addr×Obj))(σ:St)(E:XK):Prop:=∀(H:Hp)(s:Cc)(e:Ca)(s':Cc),Inv X pq σ H s->CX X.stack H s E e s'->X.xe e s'
def Zvt{Ex:XK}:Zad (CXE X.prog X.w) (X.wish (Zuf X pq σ Ex)) pq σ Ex:=by
 intro H s e s' I hx;let⟨ea,C,T,d,H2,rfl,os,bare,un,hok,hea,lea,nT,lT,fl,q⟩:=hx;let I':=I.unwish;let I2:Inv X pq σ H2 s':=I'.call' os un hok bare (ch:=[]) λb z=>Fl z (by simp);exists ea,C,T,d,H2,rfl,I2,hea,fl,I'.fpOk lT nT,q
def Inv.noted{d:Option Addr}{vs:Array Ca}(I:Inv X pq σ H s)(hea:H ea=some (.ext (excP ea C d)))(eo:s.heap.get? ea=some oe)(od:oe.data=.fields vs)(hT:∀T,T0=some T->FpOk X pq H T)(g:Gone (frs X.stack) ea T0 oe vs s.heap h'):Inv X pq σ H {s with heap:=h'}:=by
 let nfr:∀c y,H c=some y->c∉frs X.stack:=λc y r z=>by rw[I.stkFree c z]at r;cases r
 let nT:∀c y,H c=some y->some c≠T0:=λc y r z=>by rw[(hT c z.symm).1]at r;cases r
 let hok:HOk X.prog X.w H h':=λb o q=>by
  by_cases ne:b=ea
  .subst ne;rw[hea]at q;cases q;let⟨⟨o1,v1,a1,a2,a3,a4,a5⟩,_,_⟩:=I.hok b _ hea;let⟨T,vs',ob,ts,_,e3,e4,_⟩:=g.flow;rw[eo]at a1;cases a1;rw[od]at a4;cases a4;exact excP.ok ⟨_,vs',e3,a2,a3,rfl,by rw[e4];exact a5⟩
  .refine(I.hok b o q).stay (λc v hc r=>?_) (λ_ z=>z) λ_ _ z=>z;rcases hc with hc|hc
   .rw[hc]at r⊢;exact g.keep b v (nfr b o q) ne (nT b o q) r
   .let ne2:c≠ea:=λz=>by rw[z,hea]at hc;cases hc
    exact g.keep c v (nfr c _ hc) ne2 (nT c _ hc) r
 let un:Un (frs X.stack) T0.toList H H s.heap h':=by
  let tl:∀b,b∉T0.toList->some b≠T0:=λb hb z=>hb (by rw[<-z];simp);exists λb o q n hb hx=>?_,λb o q n hb hx=>?_,λb o q n _=>n,λb o q hx=>?_,λ_ _ e=>e,λ_ _ _ e=>e,λb ps e=>⟨#[],by rw[e];simp⟩
  .exact g.keep b o hb (λz=>by rw[z,hea]at n;cases n) (tl b hx) q
  .exact g.slot b o (λz=>by rw[z,hea]at n;cases n) (tl b hx) q
  .by_cases ne:b=ea
   .let⟨_,_,_,_,_,e3,_⟩:=g.flow;exact⟨_,by rw[ne];exact e3⟩
   .let⟨sl,e2⟩:=g.slot b o ne (tl b hx) q;exists _,e2
 let:=I.call (g':=s.gens) (d':=s.drawn) (t':=s.toks) un hok I.bare λb hb=>by
  let z:T0=some b:=by
   cases T0 with
   |none=>simp at hb
   |some T=>simp at hb;rw[hb]
  let⟨_,f1,f2,f3,f4,f5⟩:=hT b z;exists f3,f1,f4,f5
 exact this
def Gone.flies{fs:List Addr}{vs:Array Ca}(g:Gone fs ea T0 oe vs h h'):∃T,h.objs.size<=T/\Zfy ea T h':=by
 let⟨T,vs',ob,ts,z1,z2,z3,z4,z5,z6,z7,z8⟩:=g.flow;exists T,z1,_,vs',ob,ts,z2,rfl,z4,z5,z6,z7,z8
end
abbrev Cx.mrk(X:Cx)(e:Ca):Cx:={X with A:=X.A.mark (some e),calm:=false,xe:=λ_ _=>False}
section
variable{e:Ca}
def Inv.mrk(I:Inv X pq σ H s)(e:Ca):Inv (X.mrk e) pq σ H s :=
 ⟨⟨I.ok.mod,I.ok.kind,I.ok.glob,I.ok.blt,I.ok.above,I.ok.inj,I.ok.has,I.ok.cab,(λz=>by cases z),I.ok.frames,I.ok.stk,I.ok.exf,I.ok.bs,I.ok.bsz,I.ok.noex,I.ok.exfs,I.ok.funs,I.ok.frf⟩,I.os,I.bare,I.base,I.loc,I.cell,I.free,I.freeC,I.pin,I.hok,I.len⟩
def Inv.unmrk(ok:X.Ok)(I:Inv (X.mrk e) pq σ H s):Inv X pq σ H s:=⟨ok,I.os,I.bare,I.base,I.loc,I.cell,I.free,I.freeC,I.pin,I.hok,I.len⟩
theorem SP.unmrk{D:Ends}{f:Flow}(ok:X.Ok)(h:SP (X.mrk e) pq D f s):SP X pq D f s:=by
 cases f with
 |next=>obtain⟨σ',H',I,q⟩:=h;exists σ',H',I.unmrk ok,q
 |brk=>obtain⟨σ',H',I,q⟩:=h;exists σ',H',I.unmrk ok,q
 |cont=>obtain⟨σ',H',I,q⟩:=h;exists σ',H',I.unmrk ok,q
 |ret u=>obtain⟨v,σ',H',I,r,q⟩:=h;exists v,σ',H',I.unmrk ok,r,q
end
section
variable{M:Jhx}{K:Frag}{D:Addr}
def Zn2{K:Frag}{D:Addr}(X:K.In s.heap)(ht:Jic K (.ref D)=some (.type "type")):s.TypeIs (.ref D) "type":=by
 let z:Jih (λx=>x.cls) (K.lookup D)=some (.type "type"):=ht;let⟨o,e,c⟩:=Option.map_eq_some_iff.mp z;exists o,X _ _ e,c
def Zc3{b:Bool}{Q:Bool->Cc->Prop}(X:K.In s.heap)(ht:Jic K (.ref D)=some (.type "type"))(hb:L7 K D (.type "BaseException")=some true)(he:s.heap.get? ea=some oe)(hc:oe.cls=.ref C)(hm:L7 K C (.ref D)=some b)(k:Q b s) :
  Cd M A (excMatches (.ref ea) (.ref D)) Q E s:=by
 let hT:=Zn2 X ht;let L1:=Jfz (M:=M) X hb;let L2:=Jfz (M:=M) X hm;let n1:=tc_notTuple;let n2:=tc_sub;obtain⟨oD,cd,lD,dD⟩:∃(oD:Obj)(cd:ClassData),K.lookup D=some oD/\oD.data=.cls cd:=by
  let z:=hb;unfold L7 at z;let⟨cd,z,_⟩:=Option.bind_eq_some_iff.mp z;unfold clsIn at z
  split at z
  .rename_i e
   exists _,_,e,rfl
  .cases z
 let dO:=X _ _ lD;let⟨c0,dd0,dt0,sl0⟩:=oD;dsimp only at dD;subst dD;let⟨hp,g,d,t,os⟩:=s;unfold excMatches
 repeat (first|(with_reducible refine E4 he ?_;rw[hc])|with_reducible refine E4 dO ?_|with_reducible refine L1.at ?_|with_reducible refine L2.at ?_|wp_step)
 cases b<;>(wp_walk;exact k)
end
section
variable{env:Env}{R:Jc0->Cc->Prop}
def Zkj{e:Ca}{b0:Stmt}(h:Cd (Ck prog w) A (Jc9 e none) (λ_ s2=>Cd (Ck prog w) A (execs (b0::body) env) (λf s3=>R (.ok f) s3) (λ_ _=>False) s2) (λ_ _=>False) s) :
  Ho (Ck prog w) A (.handlers e [.ExceptHandler none none (b0::body) pos] env) R s :=
 codeAny_handlers_suite (F7 h (λ_ _ h1=>F7 h1 (λ_ _ q=>q) λ_ _ z=>z.elim) λ_ _ z=>z.elim)
end
abbrev TH:=Addr->Option Addr->Addr->TS
def HS(X:Cx)(hs:List Ja3)(th:TH):Prop:=∀(pq:List (Addr×Obj))(s:Cc)(σ:St)(H:Hp)(ea C T:Addr)(d:Option Addr)(D:Ends),Inv X pq σ H s->H ea=some (.ext (excP ea C d))->Zfy ea T s.heap->FpOk X pq H T->th C d ea D σ H ->
 Cd (Ck X.prog X.w) X.A (handleBy (.ref ea) X.env hs) (SP X pq D) X.xe s
def Zrl:TH:=λ_ _ _ _ _ _=>False
def Zm9 :HS X [] Zrl:=λ_ _ _ _ _ _ _ _ _ _ _ _ _ h=>h.elim
def thNo(K:Frag)(Dc:Addr)(ts:TS)(thr:TH):TH:=λC d ea D σ H=>∃b,L7 K C (.ref Dc)=some b/\if b=true then ts D σ H else thr C d ea D σ H
structure Cau(K:Frag)(mg:Str->Option Ca)(x:Str)(Dc:Addr):Prop where
 mg:mg x=some (.ref Dc)
 ty:Jic K (.ref Dc)=some (.type "type")
 bx:L7 K Dc (.type "BaseException")=some true
section
variable{c:Str}{Dc:Addr}{b0:Stmt}{rest:List Ja3}{np:Pos}{ts:TS}{thr:TH}
def Zbi{T:Addr}{M:Jhx}{Q:Unit->Cc->Prop}(I:Inv X pq σ H s)(fl:Zfy ea T s.heap)(fp:FpOk X pq H T)(k:∀s',Inv X pq σ H s'->Q ⟨⟩ s'):Cd M A (Jc9 (.ref ea) none) Q E s:=by
 let⟨oe,vs,oT,ts,e1,d1,v1,e2,d2,t3,ne⟩:=fl;let⟨f0,f1,f2,f3,f4,f5⟩:=fp;refine Jdl e1 d1 v1 e2 d2 (Bf.mp t3).1 (k _ ?_);exact I.turned (t':=s.toks) (λb o hb e=>by rw[Cw _ _ (Ee hb)];exact e) f0 f1 f3 f4 f5
theorem Ztl(ca:Cau X.K X.mg c Dc)(hg:Gl X c)(hs:∀e,PSs (X.mrk e) (b0::body) ts)(hr:HS X rest thr)(hd:(c==("__debug__":Str))=false:=by decide) :
  HS X (.ExceptHandler (some (.Name c np)) none (b0::body) pos::rest) (thNo X.K Dc ts thr):=by
 intro pq s σ H ea C T d D I hea fl fp h;let⟨b,hb,h⟩:=h;refine wpAny_handleBy_cons (codeAny_handlers_test ?_) (by intro q;cases q);let J:=I.mrk (.ref ea);refine Qk (X:=X.mrk (.ref ea)) J hg ca.mg ?_ hd;let⟨⟨oe,vs,e1,e2,e3,e4,e5⟩,_,_⟩:=I.hok ea _ hea;refine Zc3 I.kIn ca.ty ca.bx e1 e2 hb ?_;cases b with
 |false=>exact hr pq s σ H ea C T d D I hea fl fp h
 |true =>
  refine Zkj (Zbi J fl fp λs1 J1=>?_);exact F7 (hs (.ref ea) pq s1 _ H _ J1 h) (λf s3 h3=>h3.unmrk I.ok) λ_ _ z=>z
def PSF(X:Cx)(pq:List (Addr×Obj))(σ:St)(st:List Stmt)(t:TS):Prop:=∀(s:Cc)(H:Hp)(D:Ends),Inv X pq σ H s->t D σ H->Cd (Ck X.prog X.w) X.A (execs st X.env) (SP X pq D) X.xe s
def tTry(tb:XK->TS)(th:TH):TS:=λD σ H=>tb (λcls d H'=>∃C,cls=.ref C/\∀ea,H' ea=some (.ext (excP ea C d))->th C d ea D σ H') D σ H
def Zmx{bd:List Stmt}{h0:Ja3}{hs:List Ja3}{tb:XK->TS}{th:TH}{L:Addr}(hst:X.stack=X.env::X.outer)(hf:X.env.frame=some L)(hb:∀(pq:List (Addr×Obj))(σ:St)(xe:Ca->Cc->Prop)(Ex:XK),Zad (CXE X.prog X.w) (X.wish xe) pq σ Ex->PSF (X.wish xe) pq σ bd (tb Ex))(hh:HS X (h0::hs) th) :
  PS X (.Try bd (h0::hs) [] [] pos) (tTry tb th):=by
 intro pq s σ H D I h;refine wpAny_Try_except (F7 (hb pq σ _ _ Zvt s H D (I.wish _) h) (λf s1 h1=>?_) λe s1 h1=>?_)
 .let h2:=h1.unwish;cases f with
  |next=>exact Hy h2
  |brk=>exact h2
  |cont=>exact h2
  |ret u=>exact h2
 .let⟨ea,C,T,d,H1,rfl,I1,hea,fl,fp,C',hC,k⟩:=h1;cases hC;let⟨oe,vs,oT,ts,e1,d1,v1,e2,d2,t3,ne⟩:=fl;refine Pm (base:=X.base) (by rw[I1.ok.frames,hst]) (by have:=I1.stack;rw[hst]at this;exact this) hf e1 d1 v1 e2 d2 t3 ne λh' g=>?_;rw[<-hst]at g;let I2:=I1.noted hea e1 d1 (λT' z=>by cases z;exact fp) g;let⟨T',lT,fl'⟩:=g.flies;exact hh pq _ σ H1 ea C T' d D I2 hea fl' (I1.fpOk lT (I1.hok.fresh lT)) (k ea hea)
end
end L2
namespace L2
open PySem PySem.Spec PyProof.Rows PySem.W PySem.Builtin PySem.Builtin.ObjectAttr
section
def XD(H:Hp):Option Addr->List (Str×V)->Prop
 |some d,fs=>H d=some (.ext (xdP d fs))
 |none,fs=>fs=[]
theorem XD.mono(s:Same H H'):∀{o:Option Addr}{fs:List (Str×V)},XD H o fs->XD H' o fs
 |some _,_,h=>s _ _ h
 |none,_,h=>h
end
section
variable{e:Expr}{t:TA}{ts us:TS} 
def PEF(X:Cx)(pq:List (Addr×Obj))(σ:St)(e:Expr)(t:TE):Prop:=∀(s:Cc)(H:Hp)(Q:VK),Inv X pq σ H s->t σ H Q->Cd (Ck X.prog X.w) X.A (eval e X.env) (EP X pq σ Q) X.xe s
theorem Zoq{k:Nat}{f:Addr}{E:XK}{us:List Ca}(F:FnOk X.prog X.w X.K X.mg X.base CX k f fd ps sp)(hr:Room k X.A)(hb:Vo X.K fd ps [])(hx:Zad CX X pq σ E)(I:Inv X pq σ H s)(r:Vals vs us)(h:sp vs H Q E):Cd (Ck X.prog X.w) X.A (call (.ref f) us) (EP X pq σ Q) X.xe s:=by
 let hl:(us++[]).length=ps.length:=by rw[Jp,<-r.length];exact F.len _ _ _ _ h
 let bb:=hb s us I.kIn hl;rw[Jp]at bb;refine K6 (Hl (F.run X.A X.stack s H ⟨us,[]⟩ us vs Q E hr I.env0 bb r h) λr s' hq=>?_);cases r with
 |error e=>exact hx H s e s' I hq
 |ok fl =>
  cases fl with
  |ret u=>exact I.after hq
  |next=>exact Cq hq
  |brk=>exact Cq hq
  |cont=>exact Cq hq
def PSF1(X:Cx)(pq:List (Addr×Obj))(σ:St)(st:Stmt)(t:TS):Prop:=∀(s:Cc)(H:Hp)(D:Ends),Inv X pq σ H s->t D σ H->Cd (Ck X.prog X.w) X.A (exec st X.env) (SP X pq D) X.xe s
theorem So(h:PSF1 X pq σ st ts):PSF X pq σ [st] ts:=by
 intro s H D I q;refine Ja4 (F7 (h s H D I q) (λf s1 h1=>?_) λ_ _ z=>z);cases f with
 |next=>exact Hy h1
 |brk=>exact h1
 |cont=>exact h1
 |ret u=>exact h1
def Rq(he:PEF X pq σ e te)(hs:Mj e none pos.line X.env=pure false:=by rfl):PSF1 X pq σ (.Expr e pos) (Zn7 te):=by
 intro s H D I h;exact wpAny_Expr_any (thn (he s H _ I h) λv s1⟨x,H1,I1,r1,q1⟩=>⟨σ,H1,I1,q1⟩) I.quiet hs
end
end L2
namespace L2
open PySem PySem.Spec PyProof.Rows PySem.W
def spX1(C:Addr)(f:Str):Sp:=λvs H Q _=>∃(ea:Addr)(y:V),vs=[.ref ea,y]/\H ea=some (.ext (excN ea C none))/\∀d,H d=none->d≠ea->Q .non (upd (upd H ea (.ext (excN ea C (some d)))) d (.ext (xdP d [(f,y)])))
def Zp8{K:Frag}{base:Heap}{x:Str}{f:Addr}{k:Nat}(F:Fun K x x st f fd)(G:FnOk P w K mg base (CXE P w) k f fd ps sp)(m:mg x=some (.ref f))(b:Vo K fd ps []) :
  CalE P w K mg base x k ps sp:=⟨f,fd,G,m,F.kp,b⟩
end L2
namespace L2
open PySem PySem.Spec PyProof.Rows
section
def Inv.turned2{e:Addr}(I:Inv X pq σ H s)(k:∀b o,b≠e->b≠it->s.heap.get? b=some o->h'.get? b=some o)(f:FpOk X pq H e)(g:FpOk X pq H it):Inv X pq σ H {s with heap:=h',toks:=t'}:=by
 let⟨f0,f1,f2,f3,f4,f5⟩:=f;let⟨g0,g1,g2,g3,g4,g5⟩:=g;let ne:∀b u,H b=some u->b≠e:=λb u q z=>by rw[z,f0]at q;cases q
 let nit:∀b u,H b=some u->b≠it:=λb u q z=>by rw[z,g0]at q;cases q
 refine I.step (g':=s.gens) (d':=s.drawn) (ch:=[e,it]) (λb hb=>?_) (λb o _ _ hc q _=>k b o (λz=>hc (by simp[z])) (λz=>hc (by simp[z])) q) (λb o _ _ hc q _=>⟨o.slots,k b o (λz=>hc (by simp[z])) (λz=>hc (by simp[z])) q⟩) (λ_ _ _ _ n=>n)
  (λb o hc q=>⟨o,k b o (λz=>hc (by simp[z])) (λz=>hc (by simp[z])) q⟩) (λ_ _ q=>q) (λ_ _ _ q=>q) (λb ps q=>⟨#[],by rw[q];simp⟩) (λm hm=>?_) (λb u q=>?_) I.bare
 .rcases Jt.mp hb with z|hb
  .subst z;exists f3,f1,f4,f5
  .let z:b=it:=by simpa using hb
   subst z;exists g3,g1,g4,g5
 .let⟨o,es,ep,ho,r⟩:=hm;exists o,es,ep,k _ o (Ee f1) (Ee g1) ho,r
 .refine(I.hok b u q).stay (λc v hc q'=>k c v ?_ ?_ q') (λ_ q=>q) λ_ _ q=>q
  .rcases hc with z|z
   .rw[z];exact ne b u q
   .exact ne c _ z
  .rcases hc with z|z
   .rw[z];exact nit b u q
   .exact nit c _ z
end
def Ite(K:Cr)(a:Addr):It :=
 ⟨λi H=>∃xs x,SqL K H a xs/\xs[i]?=some x,λi H x H'=>∃(t:Addr)(y:V),x=.ref t/\H t=none/\H'=upd H t (.tup [.int i,y])/\∀xs,SqL K H a xs->xs[i]?=some y,λi H=>∃xs,SqL K H a xs/\xs.length<=i⟩
theorem Zgh(a e it:Addr)(hne:e≠it):Turn P w K (.Tuple elts x1 pos) (Ite K a) [e,it] e (λi h=>(∃old,IsEnum h e it i old)/\h.IsListIter it a i) where
 mem:=by simp
 obj:=λi h st b hb=>by
  let⟨⟨old,st1⟩,o,e2,c2,d2⟩:=st;rcases Jt.mp hb with z|hb
  .subst z;exact⟨_,st1,λv z=>by
    let z':Jfm _=Data.cell v:=z;cases z'⟩
  .let z:b=it:=by simpa using hb
   subst z;exact⟨o,e2,λv z=>by rw[d2]at z;cases z⟩
 keep:=λi h h' st k=>by
  let⟨⟨old,st1⟩,st2⟩:=st;exists⟨old,k e (by simp) _ st1⟩,st2.at λo q=>k it (by simp) o q
 item:=by
  intro X hP hw hK hc i pq s σ H E I hf st hg;subst hP hw hK;let⟨⟨old,st1⟩,st2⟩:=st;let⟨xs,x,hq,hx⟩:=hg;let⟨its,rv,p,hz⟩:=I.list hq;let⟨u,hu,ru⟩:=rv.get hx;refine wpAny_pyNext_enum_item st1 st2 p.isList (x:=u) (by simpa using hu) hne λh1 eo st2' et hsz hk=>?_;let he:e<s.heap.objs.size:=Fu st1;let hi:it<s.heap.objs.size:=by let⟨_,q,_⟩:=st2;exact Fu q
  exists ·,wpAny_letOwnedTupleGo_enum eo λh2 en2 sb=>?_
  replace sb:Hk e h1 h2:=sb
  let fr:H s.heap.objs.size=none:=I.fresh;let Il:Inv X pq σ (upd H s.heap.objs.size (.tup [.int i,x])) {s with heap:=s.heap.push {cls:=.type "tuple",data:=.seq #[.int i s.toks,u]},toks:=s.toks}:=I.laid (λb o q=>Fs _ q) (Jd _)
   ⟨by show 2<=Cb;decide,[.int i s.toks,u],.cons ⟨_,rfl⟩ (.cons ru .nil),⟨_,Ft _ rfl,rfl,_,rfl,rfl⟩⟩
  let up:∀b,b∈[e,it]->FpOk X pq (upd H s.heap.objs.size (.tup [.int i,x])) b:=λb hb=>by
   let⟨f0,f⟩:=hf b hb;refine⟨?_,f⟩;let hlt:b<s.heap.objs.size:=by
    rcases Jt.mp hb with z|hb
    .rw[z];exact he
    .let z:b=it:=by simpa using hb
     rw[z];exact hi
   rw[Zo (Gd hlt)];exact f0
  let I2:Inv X pq σ (upd H s.heap.objs.size (.tup [.int i,x])) {s with heap:=h2,toks:=s.toks+1}:=by
   refine Inv.turned2 (s:={s with heap:=s.heap.push {cls:=.type "tuple",data:=.seq #[.int i s.toks,u]},toks:=s.toks}) (h':=h2) (t':=s.toks+1) (e:=e) (it:=it) Il (λb o be bi q=>?_) (up e (by simp)) (up it (by simp));rcases Jdm q with⟨z1,z2⟩|q
   .subst z1 z2;exact(sb.2 _ (Ff he)).trans et
   .exact(sb.2 _ be).trans (hk b o be bi q)
  exists .ref s.heap.objs.size,_,I2,rfl,⟨_,x,rfl,fr,rfl,λys hy=>by rw[I.list_inj hy hq];exact hx⟩,⟨⟨u,?_⟩,st2'.at λo q=>(sb.2 it hne.symm).trans q⟩,λb hb=>(up b hb).1
  .let z:((i+1:Nat):Int)=(i:Int)+1:=by push_cast;rfl
   rw[z];exact en2
 done:=by
  intro X hP hw hK hc i pq s σ H E I hf st hg;subst hP hw hK;let⟨⟨old,st1⟩,st2⟩:=st;let⟨xs,hq,hx⟩:=hg;let⟨its,rv,p,hz⟩:=I.list hq;let⟨f0,f1,f2,f3,f4,f5⟩:=hf it (by simp);let hl:=rv.length;exact wpAny_pyNext_enum_end (I.ok.hd hc) st1 st2 p.isList (by simp;lia) λh' eb=>⟨rfl,I.turned (t':=s.toks) (λb o hb e=>eb b o hb e) f0 f1 f3 f4 f5⟩
 self:=λ_ _ _ _ _ st h=>let⟨⟨_,q⟩,_⟩:=st;Jew q h
section
def Zv8(K:Cr)(tl:TA):TI:=λσ H R=>tl σ H λvs H1=>∃a,vs=[.ref a]/\(∃xs,SqL K H1 a xs)/\R (Ite K a) H1
theorem Zox{pt:Pos}{l:Expr}{tl:TA}{p:Pos}(hg:Gl X "enumerate")(hm:X.mg "enumerate"=none)(ha:PA X [l] tl)(hs:Cj [l] X.env=[(false,eval l X.env)]:=by rfl):PI X (.Tuple elts x1 pt) (.Call (.Name "enumerate" p) [l] [] pos) (Zv8 X.K tl):=by
 intro pq s σ H R I h;refine Call_ (T8 I hg hm boot_enumerate (Ka (thn (ha pos pq s σ H _ I h) λus s1 hz=>?_) hs rfl));let⟨vs,H1,I1,r1,q1⟩:=hz;let⟨a,e,⟨xs,hq⟩,q⟩:=q1;subst e;cases r1 with
 |cons r rr =>
  cases rr;cases r;let⟨its,rv,pl,hz⟩:=I1.list hq;refine call_enumerate_list pl.isList λh' he hit hsz hk=>?_;let I2:Inv X pq σ H1 {s1 with heap:=h',toks:=s1.toks}:=I1.kept hk;refine Jew he ?_;exists s1.heap.objs.size+1,[s1.heap.objs.size+1,s1.heap.objs.size],_,_,H1,rfl,I2,Zgh a _ _ (Nat.succ_ne_self _),⟨⟨_,he⟩,hit⟩,λb hb=>?_,q;rcases Jt.mp hb with z|hb
  .subst z;exact I1.fpOk (G2 _) (I1.hok.fresh (G2 _))
  .let z:b=s1.heap.objs.size:=by simpa using hb
   subst z;exact I1.fpOk (Jd _) (I1.hok.fresh (Jd _))
end
def Za5(l:Addr)(items:Array Ca)(n:Nat)(b:Addr)(items2:Array Ca)(n2:Nat)(sl:Array (Option Ca))(hs0:¬(!items.isEmpty&&Ey (items.size+items2.size))=true)(hs1:items.size<=Cb)(hs2:items.size+items2.size<=Cb+1) :
  Meets (Builtin.«list.extend» ⟨[.ref l,.ref b],[]⟩) (λ_ R s=>s.heap.get? l=some {cls:=.type "list",dict:=none,data:=.seq items n,slots:=#[]}/\s.heap.get? b=some {cls:=.type "tuple",dict:=none,data:=.seq items2 n2,slots:=sl}/\R (.ok (.ret Ca.none)) {s with heap:=s.heap.update l (C7 λx=>x++items2),toks:=s.toks}) :=
 .of_wp λprog w A R s h=>by
  let⟨hp,g,d,tk,os⟩:=s;let⟨hl,hb,h⟩:=h;let f1:=AutoSeq1.idx_int;let f2:=AutoSeq1.sub_tuple_tuple;let f3:=Jb6;let f4:=AutoSeq1.sub_tuple_list;let f5:=AutoSeq1.sub_list_tuple;
  let hz':(items++items2).size<=Cb+1:=by rw[Array.size_append];exact hs2
  wp_walk using(Eg hl rfl (hz:=hs1) (_hz':=hz')),Mt hl,Mt hb;exists ·,h
def Zkv:V->List V->Hp->VK->Prop:=λx vs H Q=>∃l b xs zs,x=.ref l/\vs=[.ref b]/\H l=some (.lst xs)/\H b=some (.tup zs)/\xs.length+zs.length<=Cb/\Q .non (upd H l (.lst (xs++zs)))
theorem Zfc :MtM X "list.extend" Zkv:=by
 intro pq s σ H x vs v us Q I rx rv h;let⟨l,b,xs,zs,rfl,rfl,hH,hB,hz,q⟩:=h;cases rx;let⟨u,rfl,ru⟩:=rv.one;cases ru;let⟨z,its,n,r,hl,e⟩:=I.lstM hH;let⟨z2,its2,r2,⟨⟨c,dct,dt,sl⟩,e2,c2,n2,d2,dd2⟩⟩:=I.hok b _ hB
 replace c2:c=.type "tuple":=c2
 replace d2:dt=.seq its2.toArray n2:=d2
 replace dd2:dct=none:=dd2
 subst c2 d2 dd2;let hl2:=r2.length;let hsz:its.toArray.size+its2.toArray.size<=Cb:=by rw[Jm,Jm];lia
 let hlong:¬ (!its.toArray.isEmpty&&Ey (its.toArray.size+its2.toArray.size))=true:=by
  rw[Zec hsz,Jgf];exact Jr
 refine Lr Jda ⟨_,e,rfl⟩ F.entry_list_extend (F.args_list_extend_2 _ _)
  (Za5 l its.toArray n b its2.toArray n2 sl hlong (by rw[Jm];lia) ()) ⟨e,e2,?_⟩
 exists .non,_,I.lset (its':=its++its2) hH e (by simp) (r.append r2) ?_,rfl,q;rw[Jc];lia
end L2
namespace L2
open PySem PySem.Spec PyProof.Rows PySem.W
theorem Zlu{a:Addr}{tb:TS}{D:Ends}(Pv:Nat->St->Hp->Prop)(h0:Pv 0 σ H)(hl:∀i σ H,i<=xs.length->Pv i σ H->SqL K H a xs)(hs:∀i(hi:i<xs.length)t σ H,Pv i σ H->H t=none->g (.ref t) σ (upd H t (.tup [.int i,xs[i]])) λσ2 H2=>tb {D with nx:=Pv (i+1),ct:=Pv (i+1),bk:=D.nx} σ2 H2)(hd:∀σ H,Pv xs.length σ H->D.nx σ H) :
  ∃W:Nat->Nat->St->Hp->Prop,(∃m,W 0 m σ H)/\∀i m σ H,W i m σ H ->
   ((Ite K a).stop i H/\D.nx σ H)\/((Ite K a).go i H/\∃N:St->Hp->Prop,(∀σ' H',N σ' H'->∃m',m'<m/\W (i+1) m' σ' H')/\∀x H',(Ite K a).yld i H x H'->g x σ H' λσ2 H2=>tb {D with nx:=N,ct:=N,bk:=D.nx} σ2 H2):=by
 exists λi m σ H=>m=xs.length-i/\i<=xs.length/\Pv i σ H,⟨xs.length,by simp,Ju _,h0⟩,?_;rintro i m σ H ⟨rfl,hi,p⟩;let q:=hl i σ H hi p
 by_cases hlt:i<xs.length
 .refine .inr ⟨⟨xs,xs[i],q,by simp[hlt]⟩,Pv (i+1),λσ' H' p'=>⟨xs.length-(i+1),(),rfl,hlt,p'⟩,λx H' y=>?_⟩;let⟨t,z,rfl,ht,rfl,y⟩:=y;let y2:=y xs q;rw[Jb hlt]at y2;cases y2;exact hs i hlt t σ H p ht
 .let e:i=xs.length:=by lia
  subst e;exact .inl ⟨⟨xs,q,Jd _⟩,hd σ H p⟩
def Zgr(C:Addr):Sp:=λvs H Q _=>∃(x:Addr)(S:List Pr)(s:Int),vs=[.ref x,.int s]/\Vz C H x S/\(∀p∈S,p.1=s->∀t,H t=some (.tup (p.2.map V.int))->Q (.ref t) H)/\((∀p∈S,p.1≠s)->Q .non H)
def Wj(S:List Pr)(ts:List Int)(i:Nat):Bool:=match ts[i]? with|some s=>S.all λp=>decide (p.1≠s)|none=>false
def lk(S:List Pr)(ts:List Int)(j:Nat):List Int:=((Cv j).filter (Wj S ts)).map λi:Nat=>(i:Int)
def Ub(hi:i<ts.length):Wj S ts i=true↔∀p∈S,p.1≠ts[i]:=by
 unfold Wj;rw[Jb hi];simp[List.all_eq_true]
def Zs9{j:Nat}(h:∀i,i<j->Wj S ts i≠true):lk S ts j=[]:=by
 unfold lk;rw[Fb,List.filter_eq_nil_iff];exact λi hi=>h i (Bs.mp hi)
def Zpf{j:Nat}(h:lk S ts j=[]):∀i,i<j->Wj S ts i≠true:=by
 unfold lk at h;rw[Fb,List.filter_eq_nil_iff]at h;exact λi hi=>h i (Bs.mpr hi)
def Xb(S T:List Pr)(ts:List Int)(i:Nat):Prop:=(∀p∈T,p∈S)/\Zm T=ts.take i
theorem Xb.has{T:List Pr}(h:Xb S T ts i):∀j,j<i->Wj S ts j≠true:=λj hj z=>by
 by_cases hl:j<ts.length
 .let e:ts[j]∈Zm T:=by
   rw[h.2];exact List.mem_iff_getElem.mpr ⟨j,by rw[J8];lia,by rw[List.getElem_take]⟩
  let⟨p,hp,ep⟩:=Jh.mp e;exact(Ub hl).mp z p (h.1 p hp) ep
 .unfold Wj at z;rw[Bj ()]at z;cases z
def Xb.snoc{T:List Pr}(h:Xb S T ts i)(hi:i<ts.length){p:Pr}(hp:p∈S)(e:p.1=ts[i]):Xb S (T++[p]) ts (i+1):=by
 exists λq hq=>?_,?_
 .rcases J9.mp hq with hq|hq
  .exact h.1 q hq
  .rw[Jg.mp hq];exact hp
 .let z:Zm (T++[p])=Zm T++[p.1]:=by unfold Zm;rw[Jf];rfl
  rw[z,h.2,e,Je hi]
def Zta(h:lk S ts ts.length=[]):∃T,Xb S T ts ts.length:=by
 let z:=Zpf h;let⟨T,e,m⟩:=Pe (L:=S) (ts:=ts) λt ht=>by
  let⟨i,hi,rfl⟩:=Gb ht;let:=z i hi;rw[Ne,Ub hi]at this;let⟨p,hp⟩:=Classical.not_forall.mp this;let⟨hp,e⟩:=Classical.not_imp.mp hp;exact Jh.mpr ⟨p,hp,Classical.not_not.mp e⟩
 exact⟨T,m,by rw[e,Jw]⟩
theorem Xb.len{T:List Pr}(h:Xb S T ts i)(hi:i<=ts.length):T.length=i:=by
 let:=congrArg K7 h.2;unfold Zm at this;rw[Ja,J8]at this;lia
theorem Za0(fr:Free S):∀{T U:List Pr},(∀p∈T,p∈S)->(∀p∈U,p∈S)->Zm T=Zm U->T=U
 |[],[],_,_,_=>rfl
 |[],_::_,_,_,e=>by cases e
 |_::_,[],_,_,e=>by cases e
 |p::T,q::U,h1,h2,e=>by
  injection e with e1 e2
  rw[Zi3 fr (h1 p Jl) (h2 q Jl) e1,Za0 fr (λx hx=>h1 x (Jk _ hx)) (λx hx=>h2 x (Jk _ hx)) e2]
def Xb.one{T:List Pr}(fr:Free S)(h:Xb S T ts i)(g:Xb S U ts i):T=U:=Za0 fr h.1 g.1 (h.2.trans g.2.symm)
def Zdp(C Cn:Addr):Sp:=λvs H Q E=>∃(x xa:Addr)(S:List Pr)(ts:List Int),vs=[.ref x,.ref xa]/\Vz C H x S/\Fits S/\H xa=some (.lst (ts.map V.int))/\ts.length<=1000 /\
 (∀(T:List Pr)(l:Addr)(H':Hp),Xb S T ts ts.length->H l=none->Same H H'->H' l=some (.lst ((Zv T).map V.int))->Q (.ref l) H') /\
 (∀(i:Nat)(T:List Pr)(d:Addr)(H':Hp),i<ts.length->Xb S T ts i->Wj S ts i=true->H d=none->Same H H'->H' d=some (.ext (xdP d [("at",.int i)]))->E (.ref Cn) (some d) H')
end L2
namespace L2
open PySem PySem.Spec PyProof.Rows
inductive NI where
 |k (z:Int)|t (x:List Int)|b (t:Bool)
 deriving DecidableEq
def NI.sh:NI->Nat
 |.k _=>0
 |.t _=>1
 |.b _=>2
def niH:NI->Int
 |.k z=>hashInt z
 |.t x=>reduceHash (Mh (x.map hashInt))
 |.b t=>hashInt (if t then 1 else 0)
def nh(ks:List NI):Int:=reduceHash (Mh (ks.map niH))
abbrev Nkv:=List NI×Addr×V
def dnP(d:Addr)(kvs:List Nkv)(h:Heap):Prop:=kvs.length<=Cb/\(d==E6)=false/\∃xs:List (List NI×Addr×Ca),Paired (λ(p:Nkv)(q:List NI×Addr×Ca)=>p.1=q.1/\p.2.1=q.2.1/\RelV p.2.2 q.2.2) kvs xs /\
 ∃o es ep,h.get? d=some o/\o.ExactDict/\o.data=.dict es ep/\es.toList=xs.map (λx=>⟨nh x.1,.ref x.2.1,x.2.2⟩)/\(xs.map (·.1)).Nodup
def NkV(K:Cr)(H:Hp):NI->V->Prop
 |.k z,v=>v=.int z
 |.t x,v=>∃a,v=.ref a/\SqT K H a (x.map V.int)
 |.b t,v=>v=.bl t
def NkAt(K:Cr)(H:Hp)(ks:List NI)(a:Addr):Prop:=∃vs,SqT K H a vs/\Paired (NkV K H) ks vs
def Zgq(tk:∀b u,Rd H b (.tup u)->Rd H' b (.tup u)){a:Addr}(h:SqT K H a xs):SqT K H' a xs:=by
 rcases h with h|h
 .exact .inl (tk _ _ h)
 .exact .inr h
theorem NkV.tk(tk:∀b u,Rd H b (.tup u)->Rd H' b (.tup u)){k:NI}(h:NkV K H k v):NkV K H' k v:=by
 cases k with
 |k z=>exact h
 |t x=>obtain⟨a,e,q⟩:=h;exists a,e,Zgq tk q
 |b t=>exact h
theorem NkAt.tk(tk:∀b u,Rd H b (.tup u)->Rd H' b (.tup u)){ks:List NI}{a:Addr}(h:NkAt K H ks a):NkAt K H' ks a:=by
 let⟨vs,e,r⟩:=h;exists vs,Zgq tk e,Paired.mapP r λ_ _ z=>z.tk tk
def NkAt.same(s:Same H H'){ks:List NI}{a:Addr}(h:NkAt K H ks a):NkAt K H' ks a:=h.tk λb u r=>by
 rcases r with r|⟨o,r⟩
 .exact .inl (s _ _ r)
 .exact .inr ⟨o,s _ _ r⟩
def Zkk(s:Same H H'){a:Addr}(h:SqT K H a xs):SqT K H' a xs:=Zgq (λb u r=>by
 rcases r with r|⟨o,r⟩
 .exact .inl (s _ _ r)
 .exact .inr ⟨o,s _ _ r⟩) h
def dnP.ne{a:Addr}{kvs:List Nkv}{φ:Heap->Prop}(o:Obj){vs:Array Ca}(hd:o.data=.fields vs)(hφ:∀h:Heap,h.get? a=some o->φ h)(e:dnP a kvs=φ):False:=by
 let g:(Heap.get? ⟨Array.replicate (a+1) o,{}⟩ a)=some o:=by
  let⟨c,di,da,sl⟩:=o;cases hd;unfold Heap.get?;let z:(Array.replicate (a+1) (⟨c,di,.fields vs,sl⟩:Obj))[a]?=some ⟨c,di,.fields vs,sl⟩:=by simp
  simp only[z]
 let x:=hφ _ g;rw[<-e]at x;let⟨_,_,xs,_,ob,es,ep,g2,_,dd,_⟩:=x;rw[g]at g2;cases g2;rw[hd]at dd;cases dd
end L2
namespace L2
open PySem PySem.W PyProof.Rows HT PySem.Calls
section
theorem Nt:∀{ns:List Int}{vs:List Ca},Vals (ns.map V.int) vs->Kv vs ns
 |[],_,h=>by cases h;exact .nil
 |a::r,_,h=>by
  cases h with
  |cons h1 h2=>obtain⟨t,e⟩:=h1;subst e;exact .cons a t (Nt h2)
end
end L2
namespace L2
open PySem PySem.Spec PyProof.Rows
def mnOf:Option Int->List Int->Option Int
 |c,[]=>c
 |none,n::r=>mnOf (some n) r
 |some c,n::r=>mnOf (some (if n<c then n else c)) r
section
theorem Rt{p B:Addr}{d:Ca}{R:Jc0->Cc->Prop}(hA:A.handled=none)(hBi:it≠B)(fit:FpOk X pq H it)(fB:FpOk X pq H B) :
  ∀(k:Nat)(i:Nat)(cur:Option Int)(cv:Option Ca)(s:Cc)(c:Nat),ns.length=i+k->Inv X pq σ H s->Um X.K H s.heap p it (ns.map V.int) i->s.heap.get? B=some (lst0 (Xa cv) c) ->
   (match cur,cv with|none,none=>True|some n,some v=>∃t,v=C0 n t|_,_=>False) ->
   (∀s' u,Inv X pq σ H s'->(match mnOf cur (ns.drop i)with|none=>u=d|some n=>∃t,u=C0 n t)->R (.ok (.ret u)) s') ->
   Ho (Ck X.prog X.w) A (.builtin "min.loop" ⟨[.ref it,.none,.ref B],[(Ci "default",d)]⟩) R s
 |0,i,cur,cv,s,c,hk,I,src,hB,hc,h=>by
  let hname:(Ew "min"++Ew ".loop":String)="min.loop":=by decide
  refine Ef PySem.F.entry_min_loop ?_;rw[Cs PySem.F.plain_min_loop _];show Cd _ A.in1 (Ky (.ref B) >>= _) _ _ s;refine Fo (wpAny_seqItems hB rfl ?_);show Cd _ A.in1 (tryCatch (Lx (.ref it)) _ >>= _) _ _ s;refine Fo (Eb (F7 (Sl (Q:=λr s'=>r=none/\Inv X pq σ H s'/\s'.heap.get? B=some (lst0 (Xa cv) c)) (I.pin1 fB hB (by intro v;simp)) (fit.snoc hBi.symm) hA src (by simp;lia) λs' I'=>⟨rfl,I'.unpinned,(I'.pin (B,lst0 (Xa cv) c) (by simp)).1⟩) (λr s' hz=>?_) λ_ _ z=>z));let⟨er,I',hB'⟩:=hz;subst er;let hd:ns.drop i=[]:=List.drop_eq_nil_of_le ()
  rw[hd]at h;cases cur with
  |none =>
   cases cv with
   |some v=>exact hc.elim
   |none =>
    refine Fo (Kt (Fp ?_));exact h s' d I' rfl
  |some n =>
   cases cv with
   |none=>exact hc.elim
   |some v =>
    show Cd _ A.in1 (updateSeq B (λ_=>#[]) >>= _) _ _ _;refine Fo (Eg hB' rfl (Fo (F8 (Fp ?_))) (Vy _));exact h _ v (I'.turn1 fB (C2 _ _ _)) hc
 |k+1,i,cur,cv,s,c,hk,I,src,hB,hc,h=>by
  let hname:(Ew "min"++Ew ".loop":String)="min.loop":=by decide
  let hil:i<ns.length:=by lia
  refine Ef PySem.F.entry_min_loop ?_;rw[Cs PySem.F.plain_min_loop _];show Cd _ A.in1 (Ky (.ref B) >>= _) _ _ s;refine Fo (wpAny_seqItems hB rfl ?_);show Cd _ A.in1 (tryCatch (Lx (.ref it)) _ >>= _) _ _ s;refine Fo (Eb (F7 (Tz (x:=V.int ns[i]) (Q:=λr s'=>∃u,r=some u/\RelV (V.int ns[i]) u/\Inv X pq σ H s'/\s'.heap.get? B=some (lst0 (Xa cv) c)/\Um X.K H s'.heap p it (ns.map V.int) (i+1)) (I.pin1 fB hB (by intro v;simp)) (fit.snoc hBi.symm) src (by rw[Jq,Jb hil];rfl)
   λu s' ru I' src'=>⟨u,rfl,ru,I'.unpinned,(I'.pin (B,lst0 (Xa cv) c) (by simp)).1,src'⟩) (λr s'⟨u,er,ru,I',hB',src'⟩=>?_) λ_ _ z=>z))
  subst er;let⟨t,eu⟩:=ru;subst eu;rw[Bw hil]at h;let st:=λ(f:Obj->Obj)=>C2 s'.heap B f;cases cur with
  |none =>
   cases cv with
   |some v=>exact hc.elim
   |none =>
    show Cd _ A.in1 (updateSeq B (λ_=>#[C0 ns[i] t,C0 ns[i] t]) >>= _) _ _ _;refine Fo (Eg hB' rfl ?_ (Vy _));rw[hname];refine Fp ⟨C4 PySem.F.plain_min_loop _,Rt hA hBi fit fB k (i+1) (some ns[i]) (some (C0 ns[i] t)) _ _ () (I'.turn1 fB (st _)) (src'.at (λob e=>((st _).2 it hBi).trans e) id id) (Cu _ hB' rfl) ⟨t,rfl⟩ ?_⟩;simpa only[mnOf]using h
  |some n =>
   cases cv with
   |none=>exact hc.elim
   |some v =>
    let⟨t',hv⟩:=hc;subst hv;show Cd _ A.in1 (tryCatch (Hw [C0 ns[i] t,C0 ns[i] t] (richCompare .Lt (C0 ns[i] t) (C0 n t') >>= _)) _ >>= _) _ _ _;refine Fo (Eb (Cy (Fo (show Cd (Ck X.prog X.w) A.in1 (Eo .Lt (C0 ns[i] t) (C0 n t')) _ _ _ from Jdu ?_))));refine Fo (Cy (Ep ?_));refine Fo (F8 (Fp ?_))
    by_cases hlt:ns[i]<n
    .simp only[hlt,decide_true,if_true];refine Fo (Eg hB' rfl (Fo (F8 ?_)) (Vy _));rw[hname];refine Fp ⟨C4 PySem.F.plain_min_loop _,Rt hA hBi fit fB k (i+1) (some ns[i]) (some (C0 ns[i] t)) _ _ () (I'.turn1 fB (st _)) (src'.at (λob e=>((st _).2 it hBi).trans e) id id) (Cu _ hB' rfl) ⟨t,rfl⟩ ?_⟩;simpa only[mnOf,hlt,if_true]using h
    .simp only[hlt,decide_false,Gk,if_false];refine Fo (F8 ?_);rw[hname];refine Fp ⟨C4 PySem.F.plain_min_loop _,Rt hA hBi fit fB k (i+1) (some n) (some (C0 n t')) _ _ () I' src' hB' ⟨t',rfl⟩ ?_⟩;simpa only[mnOf,hlt,if_false]using h
end
section
variable{e d:Expr}{ta tk:TA}{p:Pos}
def Zn5(K:Cr)(ta tk:TA):TE:=λσ H Q=>ta σ H λvs H1=>tk σ H1 λds H2=>∃(a:Addr)(ns:List Int)(d0:V),vs=[.ref a]/\ds=[d0]/\SqL K H2 a (ns.map V.int)/\Q (match mnOf none ns with|none=>d0|some n=>.int n) H2
theorem Zoy(hc:X.calm=true)(hg:Gl X "min")(hm:X.mg "min"=none)(ha:PA X [e] ta)(hk:PK X [⟨some "default",d,kpos⟩] tk)(he:Cj [e] X.env=[(false,eval e X.env)]:=by rfl) :
  PE X (.Call (.Name "min" p) [e] [⟨some "default",d,kpos⟩] pos) (Zn5 X.K ta tk):=by
 intro pq s σ H Q I h;refine Ej (T8 I hg hm Kc ?_);refine callWith_kw (thn (ha pos pq s σ H _ I h) λus s1 hz=>?_) (by rw[he];rfl) (by rw[he];rfl);let⟨vs,H1,I1,r1,q1⟩:=hz;refine thn (hk pos pq s1 σ H1 _ I1 q1) λws s2 hz=>?_;let⟨zs,H2,I2,rz,a,ns,d0,ev,ez,hl,q⟩:=hz;subst ev;subst ez;let⟨u,rfl,ru⟩:=Vals.one r1;obtain rfl:u=Ch a:=ru;let⟨dv,rfl,rd⟩:=Vals.one rz;let hname:(Ew "min"++Ew ".loop":String)="min.loop":=by decide
 show Cd _ _ (call (.builtin "min") [.ref a] [(Ci "default",dv)]) _ _ s2;refine Pz PySem.F.kind_min PySem.F.plain_min PySem.F.entry_min (by unfold argsOk;kernel_rfl) ?_;show Cd _ X.A.in1 (C3 "min" ["key","default"] 0 ⟨[],[(Ci "default",dv)]⟩ >>= _) _ _ s2;refine Fo (wpAny_of_eq (show C3 "min" ["key","default"] 0 ⟨[],[(Ci "default",dv)]⟩=pure [none,some (dv)]from rfl) ?_);refine Fo (Fp ?_);let⟨its,rv,pl,hz⟩:=I2.list hl;refine Fo (E2 pl.isList ?_);refine Fo (Kh ?_ (Ju _));rw[hname]
 let I3:Inv X pq σ H2 {s2 with heap:=(s2.heap.push {cls:=.type "list_iterator",data:=.fields #[.ref a,.int 0 0]}).push (lst0 #[] 0)}:=I2.kept (t':=s2.toks) λb o e=>Fs _ (Fs _ e);let hit:FpOk X pq H2 s2.heap.objs.size:=I2.fpOk (Jd _) (I2.hok.fresh (Jd _));let hle:s2.heap.objs.size<=(s2.heap.push {cls:=.type "list_iterator",data:=.fields #[.ref a,.int 0 0]}).objs.size:=by rw[El];exact G2 _
 let hB:=I2.fpOk (H':=H2) hle (I2.hok.fresh hle);let nB:s2.heap.objs.size≠(s2.heap.push {cls:=.type "list_iterator",data:=.fields #[.ref a,.int 0 0]}).objs.size:=by rw[El];exact Gd (Bc _)
 refine Fp ⟨C4 PySem.F.plain_min_loop _,Rt (A:=X.A) (I2.ok.hd hc) nB hit hB ns.length 0 none none _ 0 () I3 (.inl ⟨hl,⟨_,Fs _ (Ft _ rfl),rfl,rfl⟩⟩) (Ft _ rfl) trivial λs' u I' hu=>?_⟩;rw[B7]at hu;exists _,H2,I',?_,q;cases hm:mnOf none ns with
 |none=>rw[hm]at hu;rw[hu];exact rd
 |some n=>rw[hm]at hu;exact hu
end
section
def Zdv{a:Addr}(e:Same H H')(h:SqT K H a xs):SqT K H' a xs:=by
 rcases h with h|h
 .rcases h with h|⟨o,h⟩
  .exact .inl (.inl (e _ _ h))
  .exact .inl (.inr ⟨o,e _ _ h⟩)
 .exact .inr h
end
end L2
namespace L2
open PySem PySem.W PySem.Spec PyProof.Rows
def MetE(P:Ez)(w:Hm)(K:Cr)(mg:Str->Option Ca)(base:Heap)(C:Addr)(m:Str)(k:Nat)(ps:List Str)(sp:Sp):Prop :=
 ∃f fd,Cls K C/\Meth K C m f/\FnOk P w K mg base (CXE P w) k f fd ps sp/\Vo K fd ps []
section
variable{k:Nat}{x m:Str}{p:Pos}{e o:Expr}{t:TA}{E:XK} 
def Zd8{pl:Sem Bool}(he:PE X o ta)(M:MetE X.prog X.w X.K X.mg X.base C m k ps sp)(hr:Room k X.A)(hx:Uo (CXE X.prog X.w) X E)(ha:PA X (e::es) t)(hst:Cj (e::es) X.env=(false,eval e X.env)::Cj es X.env:=by rfl)(hpl:(Ht pos (Cj es X.env)).any (·.1)=false:=by rfl)(ht:eval (.Call (.Attribute o m apos) (e::es) [] pos) X.env=(do
   let ov <-eval o X.env
   Lv apos.atName
   let(f,first) <-Hw [ov] (Lz ov m pl)
   Jd4 pos f first (Ht pos (Cj (e::es) X.env)) (Lm pos (Hq [] X.env))):=by rfl) :
  PE X (.Call (.Attribute o m apos) (e::es) [] pos) (Nb C m sp [] E ta t):=by
 let⟨f,fd,c,hm,F,hb⟩:=M;exact Zhs he c hm F hr hb .nil hx ha hst hpl ht
def Zd7{pl:Sem Bool}(he:PE X o ta)(M:MetE X.prog X.w X.K X.mg X.base C m k ps sp)(hr:Room k X.A)(hx:Zad (CXE X.prog X.w) X pq σ E)(ha:PA X (e::es) t)(hst:Cj (e::es) X.env=(false,eval e X.env)::Cj es X.env:=by rfl)(hpl:(Ht pos (Cj es X.env)).any (·.1)=false:=by rfl)(ht:eval (.Call (.Attribute o m apos) (e::es) [] pos) X.env=(do
   let ov <-eval o X.env
   Lv apos.atName
   let(f,first) <-Hw [ov] (Lz ov m pl)
   Jd4 pos f first (Ht pos (Cj (e::es) X.env)) (Lm pos (Hq [] X.env))):=by rfl) :
  PEF X pq σ (.Call (.Attribute o m apos) (e::es) [] pos) (Nb C m sp [] E ta t):=by
 intro s H Q I h;let⟨f,fd,c,hm,F,hb⟩:=M;refine Jc1 (pl:=pl) (thn (he pq s σ H _ I h) λu s1 hz=>?_) ht;let⟨x,H1,I1,rx,a,dx,fs,ex,ea,l,q⟩:=hz;subst ex;obtain rfl:u=Ch a:=rx;refine Sx I1 ea c hm l ?_;refine Me (first:=[.ref a]) (h₀:=X.base) I.ok.mod.kin hm.kp (thn (ha pos pq s1 σ H1 _ I1 q) λus s2⟨vs,H2,I2,r,q2⟩=>⟨I2.kIn,?_⟩) hst hpl;exact Zoq (us:=.ref a::us) (vs:=.ref a::vs) F hr hb hx I2 (.cons rfl r) (by have q':sp (V.ref a::vs++[]) H2 Q E:=q2;rw[Jp]at q';exact q')
def MetE.calm{base:Heap}(M:MetE P w K mg base C m k ps sp)(h:∀vs H Q E,sp' vs H Q E->sp vs H Q E0):Met P w K mg base C m k ps sp':=by
 let⟨f,fd,c,hm,F,hb⟩:=M;exists f,fd,c,hm,F.calm h,hb
def Zsw(M:Mkr X.prog X.w X.K X.mg X.base x C k ps sp)(hr:Room (k+1) X.A)(hg:Gl X x)(hdb:(x==("__debug__":Str))=false:=by decide):PE X (.Call (.Name x p) [] [] pos) (Ze1 C sp [] E0 tNil):=by
 let⟨f,fd,hm,F,g,hb⟩:=M;exact Zk6 hm F hr hg g hb .nil Zhx hdb
end
section
def Zhk:List V->Hp->VK->Prop:=λxs H Q=>∃(d:Addr)(kvs:List (Key×V)),xs=[.ref d]/\Rd H d (.dK kvs)/\∀(l:Addr),H l=none->Q (.ref l) (upd H l (.lst (kvs.map λkv=>kV kv.1)))
theorem Zf5:∀{us:List Ca}{vs:List V},us.length=vs.length->(∀(j:Nat)(u:Ca)(v:V),us[j]?=some u->vs[j]?=some v->RelV v u)->Vals vs us
 |[],[],_,_=>.nil
 |u::us,v::vs,hl,h=>.cons (h 0 u v rfl rfl) (Zf5 (by simpa using hl) λj u v e1 e2=>h (j+1) u v e1 e2)
theorem Zdb(hc:X.calm=true):Wr X (.type "list") Zhk:=by
 intro pq s σ H xs us Q I r h;let⟨d,kvs,rfl,rd,q⟩:=h;let⟨u,rfl,rx⟩:=Tl r;cases rx;let⟨hz,lo,vs,rel,dof⟩:=Zbl I.hok rd;let⟨ep,da⟩:=dof.dictAt;let hv:=Paired.length rel;refine W.kdl_call (kdl_dict (knd:=Yt X.prog X.w) (kvs:=vs) (ep:=ep) lo) (I.ok.hd hc) da (by rw[<-hv];exact hz) λh' tk acc' c' kp e' hacc=>?_;let hal:acc'.toList.length=vs.length:=by rw[G7];exact hacc.1
 exists .ref s.heap.objs.size,_,I.laid (t':=tk) (o:=.lst (kvs.map λkv=>kV kv.1)) kp (Jd _) ⟨by rw[Ja];exact hz,acc'.toList,c',?_,by simpa using e'⟩,rfl,q _ (I.hok.fresh (Jd _));refine Zf5 (by rw[hal,Ja];lia) λj u v e1 e2=>?_;let⟨k,x,e3,e4⟩:=hacc.2 j u (by rw[<-Jc7];exact e1);let hj:j<vs.length:=(Jj.mp e3).1;let hr:=L2.Paired.at rel (by lia:j<kvs.length) hj;rw[Jq,Jb (by lia:j<kvs.length)]at e2;cases e2;rw[Jb hj]at e3;let e5:=Fz e3;show RelV (kV kvs[j].1) u;rw[hr.1,e5];rcases Yh (show Nq k u=true from e4)with⟨i,t,rfl,rfl⟩|⟨y,t,rfl,rfl⟩
 .exists t,rfl
 .exists t,rfl
end
section
def Zsq(K:Cr):R2:=λx y H Q=>∃a b ys,x=.ref a/\y=.ref b/\SqT K H a []/\SqT K H b ys/\Q (.ref b) H
def Zo2:OpR X (Hd .Add) (Zsq X.K):=by
 intro pq s σ H x y v u Q I rx ry h;let⟨a,b,ys,rfl,rfl,ha,hb,q⟩:=h;cases rx;cases ry;let⟨its,r1,p1,_⟩:=I.tuple ha;let⟨its2,r2,p2,_⟩:=I.tuple hb;cases r1;let⟨⟨cls,dd,data,sl⟩,ho,hc,n,hd⟩:=id p1;let⟨⟨cls2,dd2,data2,sl2⟩,ho2,hc2,n2,hd2⟩:=id p2;simp only at hc hd hc2 hd2;subst hc hd hc2 hd2;exact concat_meets ⟨_,ho,rfl⟩ ⟨_,ho2,rfl⟩ Ja7 seq_tuple_add K1 Ku (Kr _ _)
  (tuple_addW0 a b _ its2.toArray n n2 dd dd2 sl sl2 rfl) ⟨ho,ho2,⟨.ref b,H,I,rfl,q⟩⟩
end
end L2
namespace L2
open PySem PySem.Spec PyProof.Rows
def ItdI(d:Addr)(o:Obj)(kvs:List (Key×V)):It:=⟨λi H=>H d=some (.frz o (.dK kvs))/\i<kvs.length,λi H x H'=>∃(t:Addr)(kv:Key×V),x=.ref t/\H t=none/\H'=upd H t (.tup [kV kv.1,kv.2])/\kvs[i]?=some kv,λi H=>H d=some (.frz o (.dK kvs))/\kvs.length<=i⟩
theorem Zez(d:Addr)(o:Obj)(kvs:List (Key×V)){es0:Array DictEntry}{ep:Nat}(hep:o.data=.dict es0 ep)(it:Addr):Turn P w K (.Tuple elts x1 pos) (ItdI d o kvs) [it] it (λi h=>∃ok ov,IsItemIter h it d i kvs.length ep ok ov) where
 mem:=by simp
 obj:=λi h st b hb=>by
  obtain rfl:b=it:=by simpa using hb
  let⟨ok,ov,e⟩:=st;exact⟨_,e,λv z=>by
   let z':Jfm _=Data.cell v:=z;cases z'⟩
 keep:=λi h h' st k=>let⟨ok,ov,e⟩:=st;⟨ok,ov,k it (by simp) _ e⟩
 item:=by
  intro X hP hw hK hc i pq s σ H E I hf st hg;subst hP hw hK;let⟨ok,ov,st⟩:=st;let⟨hd,hi⟩:=hg;let⟨_,_,vs,r,da⟩:=Zek I.hok hd hep;let hl:=Paired.length r;let hi2:i<vs.length:=by lia
  let hr:=L2.Paired.at r hi hi2;rw[hl]at st;refine wpAny_pyNext_items_item (k:=vs[i].1) (v:=vs[i].2) st da (by rw[Jb hi2]) λkey h1 hk st1 et hsz hkp=>?_;let he:it<s.heap.objs.size:=Fu st;exists ·,wpAny_letOwnedTupleGo_items st1 λh2 st2 sb=>?_
  replace sb:Hk it h1 h2:=sb
  let fr:H s.heap.objs.size=none:=I.fresh;let Il:Inv X pq σ (upd H s.heap.objs.size (.tup [kV kvs[i].1,kvs[i].2])) {s with heap:=s.heap.push {cls:=.type "tuple",data:=.seq #[key,vs[i].2]},toks:=s.toks}:=I.laid (λb o q=>Fs _ q) (Jd _)
   ⟨by show 2<=Cb;decide,[key,vs[i].2],.cons (by rw[hr.1];exact Zpj hk) (.cons hr.2 .nil),⟨_,Ft _ rfl,rfl,_,rfl,rfl⟩⟩
  let⟨f0,f⟩:=hf it (by simp);let up:FpOk X pq (upd H s.heap.objs.size (.tup [kV kvs[i].1,kvs[i].2])) it:=⟨by rw[Zo (Gd he)];exact f0,f⟩;let I2:Inv X pq σ (upd H s.heap.objs.size (.tup [kV kvs[i].1,kvs[i].2])) {s with heap:=h2,toks:=s.toks}:=by
   let⟨g0,g1,g2,g3,g4,g5⟩:=up;refine Inv.turned (s:={s with heap:=s.heap.push {cls:=.type "tuple",data:=.seq #[key,vs[i].2]},toks:=s.toks}) (h':=h2) (t':=s.toks) Il (λb o hb q=>?_) g0 g1 g3 g4 g5;rcases Jdm q with⟨z1,z2⟩|q
   .subst z1 z2;exact(sb.2 _ hb).trans et
   .exact(sb.2 _ hb).trans (hkp b o hb q)
  rw[<-hl]at st2;exact⟨.ref s.heap.objs.size,_,I2,rfl,⟨_,kvs[i],rfl,fr,rfl,Jb hi⟩,⟨_,_,st2⟩,λb hb=>by
   let e:b=it:=by simpa using hb
   rw[e];exact up.1⟩
 done:=by
  intro X hP hw hK hc i pq s σ H E I hf st hg;subst hP hw hK;let⟨ok,ov,st⟩:=st;let⟨f0,f1,f2,f3,f4,f5⟩:=hf it (by simp);let⟨hd,hi⟩:=hg;let⟨_,_,vs,r,da⟩:=Zek I.hok hd hep;let hl:=Paired.length r;rw[hl]at st;exact wpAny_pyNext_items_end (I.ok.hd hc) st da (by simp;lia) λh' eb=>⟨rfl,I.turned (t':=s.toks) (λb o hb e=>eb b o hb e) f0 f1 f3 f4 f5⟩
 self:=λ_ _ _ _ _ st h=>by
  let⟨ok,ov,q⟩:=st;exact W.kcp_self q h
section
variable{pt:Pos}
def Zm8(tl:TE):TI:=λσ H R=>tl σ H λx H1=>∃d kvs,x=.ref d/\H1 d=some (.dK kvs)/\∀o,R (ItdI d o kvs) (upd H1 d (.frz o (.dK kvs)))
def Zd6{l:Expr}{tl:TE}(hl:PE X l tl)(hbase:Ll l "items" X.env (eval l X.env)=eval l X.env:=by rfl)(hline:(apos.endLine==cpos.line)=true:=by rfl) :
  PI X (.Tuple elts x1 pt) (.Call (.Attribute l "items" apos) [] [] cpos) (Zm8 tl):=by
 intro pq s σ H R I h;refine wpAny_Call_method0_late hbase hline (thn (hl pq s σ H _ I h) λv s1 hz=>?_);let⟨x,H1,I1,r1,q1⟩:=hz;let⟨d,kvs,e,e1,q⟩:=q1;subst e;cases r1;let⟨z,hd,vs,r,ob,es,ep,e3,c,dd,rest⟩:=I1.hok d _ e1;let dof:s1.heap.DictOf (Yt X.prog X.w) d vs:=⟨ob,es,ep,e3,c,dd,rest⟩;let hl:=Paired.length r;let tyd:tyV X.K "dict" (.ref d) H1:=.inr (.inr (.inl ⟨rfl,.inl ⟨kvs,e1⟩⟩));let⟨h1,h2⟩:=Zmc I1 (x:=.ref d) (v:=.ref d) rfl tyd;exists "dict","dict.items",PySem.F.plainAttrs_dict,PySem.F.slot_dict_items,PySem.F.type_dict_items,h1,h2,K2 rfl (PySem.evalArgs_none ?_)
 refine call_meetsIn PySem.F.slot_dict_items dof.typeIs PySem.F.entry_dict_items (PySem.F.args_dict_items_1 _) (meets_dict_items (Yt X.prog X.w) d hd) ⟨⟨vs,dof⟩,?_⟩;let I2:Inv X pq σ (upd H1 d (.frz ob (.dK kvs))) {s1 with heap:=s1.heap,toks:=s1.toks}:=I1.write (x:=d) (e:=d) (by rw[e1];exact trivial) (.inl rfl) (λb u _ h=>h) ⟨_,e3⟩ ⟨e3,z,hd,vs,r,ob,es,ep,e3,c,dd,rest⟩;let I3:Inv X pq σ (upd H1 d (.frz ob (.dK kvs))) {s1 with heap:=s1.heap.push {cls:=.type "dict_items",data:=.fields #[.ref d]},toks:=s1.toks}:=I2.kept (t':=s1.toks) λb o e=>Fs _ e;refine wpAny_pyIter_items (knd:=Yt X.prog X.w) (kvs:=vs) (ep:=ep) ⟨_,Ft _ rfl,rfl,rfl⟩ ⟨ob,es,Fs _ e3,c,dd,rest⟩ ?_
 exists _,[_],_,_,upd H1 d (.frz ob (.dK kvs)),rfl,I3.kept (t':=s1.toks) λb o e=>Fs _ e,Zez d ob kvs dd _,?_,λb hb=>?_,q ob
 .rw[hl];exists _,_,Ft _ rfl
 .rw[Jg.mp hb];exact I3.fpOk (Jd _) (I3.hok.fresh (Jd _))
def Inv.thaw{σ0:St}{s1:Cc}{d:Addr}{kvs kvs0:List (Key×V)}{o:Obj}(I0:Inv X pq σ0 H s)(e0:H d=some (.dK kvs0))(I:Inv X pq σ H1 s1)(e1:H1 d=some (.frz o (.dK kvs))):Inv X pq σ (upd H1 d (.dK kvs)) s1:=by
 let nf:∀o u,X.H₀ d≠some (.frz o u):=λo u z=>by
  let:=I0.base.frzs d o u z;rw[e0]at this;cases this
 let ne:∀b,H1 b=none->b≠d:=λb n z=>by rw[z,e1]at n;cases n
 let⟨e2,z,hd,vs,r,ob,es,ep,e3,rest⟩:=(show Y3 X.prog X.w H1 s1.heap d (.frz o (.dK kvs))from I.hok d _ e1);exists I.ok,I.os,I.bare,⟨I.base.keep,I.base.slot,λb o q n hx=>?_,I.base.there,λb xs q=>?_,λb o u q=>?_,λb ps q=>?_⟩,I.loc,I.cell,?_,λx c q=>?_,λp hp=>?_,λb u q=>?_,I.len
 .let:=I.base.free b o q n hx;rw[Zo (ne b this)];exact this
 .let:=I.base.tups b xs q;rw[Zo (λw=>by rw[w,e1]at this;cases this)];exact this
 .let:=I.base.frzs b o u q;rw[Zo (λw=>nf o u (by rw[<-w];exact q))];exact this
 .let⟨more,this⟩:=I.base.tbls b ps q;exists more,?_;rw[Zo (λw=>by rw[w,e1]at this;cases this)];exact this
 .rw[Zo (ne _ I.free)];exact I.free
 .let:=I.freeC x c q;rw[Zo (ne _ this)];exact this
 .let⟨p1,p2,p3⟩:=I.pin p hp;exists p1,by rw[Zo (ne _ p2)];exact p2,p3
 .by_cases w:b=d
  .subst w;rw[Zh]at q;cases q;exists z,hd,vs,r,ob,es,ep,e3,rest
  .rw[Zo w]at q;refine(I.hok b u q).stay (λc v hc q'=>q') (λy q'=>?_) λc xs q'=>?_
   .rw[Zo (λw'=>by rw[w',e1]at q';cases q')];exact q'
   .rw[Zo (λw'=>by rw[w',e1]at q';cases q')];exact q'
def Zsi(t:TS):TS:=λD σ H=>∃d kvs0,H d=some (.dK kvs0)/\t {D with nx:=λσ' H1=>∃o kvs,H1 d=some (.frz o (.dK kvs))/\D.nx σ' (upd H1 d (.dK kvs))} σ H
theorem Zhl{t:TS}(h:PS X st t):PS X st (Zsi t):=by
 intro pq s σ H D I hq;let⟨d,kvs0,e0,hq⟩:=hq;refine F7 (h pq s σ H _ I hq) (λf s1 h1=>?_) λ_ _ z=>z;cases f with
 |next =>
  let⟨σ',H1,I1,o,kvs,e1,q⟩:=h1;exists σ',_,I.thaw e0 I1 e1,q
 |brk=>exact h1
 |cont=>exact h1
 |ret u=>exact h1
end
section
variable{c:Expr}{a b:List Stmt}{t u:TS} 
theorem Zmw(hc:PT X c tc)(ha:PSF X pq σ a t)(hb:PSF X pq σ b u):PSF1 X pq σ (.If c a b pos) (tIfS tc t u):=by
 intro s H D I h;refine wpAny_If (thn (hc pq s σ H _ I h) λd s1 hz=>?_);let⟨H1,I1,q1⟩:=hz;cases d with
 |true=>exact ha s1 H1 D I1 q1
 |false=>exact hb s1 H1 D I1 q1
end
section
def Zcg(K:Cr):V->List V->Hp->VK->Prop:=λx xs H Q=>∃(p:Addr)(ys:List V)(y:V)(ds:List PyData)(d:PyData),x=.ref p/\xs=[y]/\SqL K H p ys/\DVs K H ys ds/\DV K H y d/\Em ds=true/\d.canLay0=true/\d.depth<=60/\Q (.int ((ds.countP λz=>C1 z d:Nat):Int)) H
theorem Zia(hu:X.A.units+64<E9):MtR X "list.count" (Zcg X.K):=by
 intro pq s σ H x xs v us Q I rx r h;let⟨p,ys,y,ds,d,rfl,rfl,hq,hd,hy,c1,c2,dd,q⟩:=h;cases rx;let⟨u,rfl,ru⟩:=Tl r;let⟨its,rv,⟨o,n,e,c,dt,hd'⟩,_⟩:=I.list hq;let⟨as,ra⟩:=dvs_reads I hd rv;let⟨bs,rb⟩:=Wb I hy ru;let⟨oc,od,oda,osl⟩:=o;dsimp only at c dt hd';subst c;subst hd';refine Lr PySem.F.slot_list_count ⟨_,e,rfl⟩ PySem.F.entry_list_count (PySem.F.args_list_count_2 _ _) (SeqAt.list_countAt p its.toArray n od osl u (λy=>C1 (SeqAt.readOf s.heap y) d)) ⟨e,SeqAt.items_eqAt (by simpa using ra) rb c1 c2 (by have:=Ja8 (Hi ds) d.depth;lia),?_⟩
 refine⟨.int _,H,I.tok _,⟨_,rfl⟩,?_⟩;let em:=SeqAt.readsAll_map ds its as c1 ra;let ec:its.countP (λy=>C1 (SeqAt.readOf s.heap y) d)=ds.countP λz=>C1 z d:=by
  rw[<-em,List.countP_map];rfl
 show Q (.int ((its.toArray.toList.countP _:Nat):Int)) H;rw[show its.toArray.toList=its from rfl,ec];exact q
end
end L2
namespace L2
open PySem PySem.W PyProof.Rows HT PySem.Calls
def LtAt(A:Kj)(s:Cc)(u v:Ca)(b:Bool):Prop:=∀(prog:Ez)(w:Hm)(E:Ca->Cc->Prop)(Q:Ca->Cc->Prop),Q (.bool b) s->Cd (Ck prog w) A (Eo .Lt u v) Q E s
def lexN:(Nat->Bool×Bool)->Nat->Nat->Bool
 |_,0,n=>decide (0<n)
 |_,_+1,0=>false
 |z,m+1,n+1=>if(z 0).1 then lexN (λj=>z (j+1)) m n else(z 0).2
section
def LtAt.int(i j:Int)(t u:Tok):LtAt A s (.int i t) (.int j u) (decide (i<j)):=λprog w E Q h=>wpAny_lt_int h
def Ze0{xs ys:List Ca}{z:Nat->Bool×Bool}{a b:Addr}{oa ob:Obj}{na nb:Nat}{P:Jd9->Cc->Prop}(ha:s.heap.get? a=some oa)(da:oa.data=.seq xs.toArray na)(hb:s.heap.get? b=some ob)(cb:ob.cls=.type "tuple")(db:ob.data=.seq ys.toArray nb)(hz:∀(j:Nat)(h1:j<xs.length)(h2:j<ys.length),Ki A s xs[j] ys[j] (z j).1/\LtAt A s xs[j] ys[j] (z j).2)(h:P (.done (.ret (.bool (lexN z xs.length ys.length)))) s):Cd (Ck prog w) A (Builtin.«tuple.__lt__» ⟨[.ref a,.ref b],[]⟩) P E s:=by
 show Cd _ _ (Jg1 (.ref b) (.type "tuple") >>= _) _ _ s;refine Fo (wpAny_isInstance ⟨ob,hb,cb⟩ isSubtype_tuple_tuple ?_);simp only[Jhd,Gk,if_false];refine Fo (Jee ha da ?_);refine Fo (Jee hb db ?_);refine Fo ?_;simp only[Jdv];refine wpAny_forIn_list _
  (λrest r s'=>r.1=none/\s'=s/\∃(xs' ys':List Ca)(z':Nat->Bool×Bool),rest=List.zip xs' ys'/\(∀(j:Nat)(h1:j<xs'.length)(h2:j<ys'.length),Ki A s xs'[j] ys'[j] (z' j).1/\LtAt A s xs'[j] ys'[j] (z' j).2)/\lexN z' xs'.length ys'.length=lexN z xs.length ys.length/\decide (xs'.length<ys'.length)=decide (xs.length<ys.length))
  _ ?_ ?_ _ _ ⟨rfl,rfl,xs,ys,z,rfl,hz,rfl,rfl⟩
 .rintro⟨u,v⟩ rest r s' ⟨hr,rfl,xs',ys',z',hq,hz',hdec,hlen⟩;cases xs' with
  |nil=>simp at hq
  |cons x xs'' =>
   cases ys' with
   |nil=>simp at hq
   |cons y ys'' =>
    simp only[Fe,List.cons.injEq,Prod.mk.injEq]at hq;let⟨⟨rfl,rfl⟩,rfl⟩:=hq;let⟨h1,h2⟩:=hz' 0 (Fg _) (Fg _);refine Fo (h1 _ _ _ _ ?_);rw[Jv,Jv,lexN]at hdec;cases e:(z' 0).1 with
    |true =>
     rw[e,Fw rfl]at hdec;simp only[Jhd,Gk,if_false];exact Fp ⟨rfl,rfl,_,_,λj=>z' (j+1),rfl,λj g1 g2=>hz' (j+1) (Jfg g1) (Jfg g2),hdec,by simpa using hlen⟩
    |false =>
     rw[e,Fv nofun]at hdec;simp only[Bool.not_false,if_true];refine Fo (Kt ?_);refine Fo (h2 _ _ _ _ ?_);rw[<-hdec]at h;exact Fo (Fp (Fp (Fp h)))
 .rintro⟨r1,r2⟩ s' ⟨hr,rfl,xs',ys',z',hq,hz',hdec,hlen⟩;simp only at hr;subst hr;refine Fp ?_;let hfin:Jex Jhj.Lt xs.toArray.size ys.toArray.size=.bool (lexN z xs.length ys.length):=by
   show Lq (decide (xs.toArray.size<ys.toArray.size))=_;rw[Jm,Jm,<-hlen,<-hdec];cases xs' with
   |nil=>rfl
   |cons _ _ =>
    cases ys' with
    |nil=>rw[Jv,Bo,lexN];simp
    |cons _ _=>simp at hq
  rw[hfin];exact h
def LtAt.tup{xs ys:List Ca}{z:Nat->Bool×Bool}{a b:Addr}{oa ob:Obj}{na nb:Nat}(hu:A.units<E9)(ha:s.heap.get? a=some oa)(ca:oa.cls=.type "tuple")(da:oa.data=.seq xs.toArray na)(hb:s.heap.get? b=some ob)(cb:ob.cls=.type "tuple")(db:ob.data=.seq ys.toArray nb)(hz:∀(j:Nat)(h1:j<xs.length)(h2:j<ys.length),Ki A.in1 s xs[j] ys[j] (z j).1/\LtAt A.in1 s xs[j] ys[j] (z j).2):LtAt A s (.ref a) (.ref b) (lexN z xs.length ys.length):=λprog w E Q h =>
 wpAny_richCompare_same_room (op:=.Lt) ⟨oa,ha,ca⟩ ⟨ob,hb,cb⟩ Jf0 (Lh Jf0 ⟨oa,ha,ca⟩ F.entry_tuple_lt (Ze0 ha da hb cb db hz ⟨_,rfl,(λe=>nomatch e),h⟩) (F.args_tuple_lt_2 _ _)) hu
end
end L2
namespace PySem.SeqAt
open AutoSeq1 (wpAny_loadPart')
open MeetsSeq MeetsSeq2 MeetsSeq3 SeqRoads2
theorem Zid(l b:Addr)(items items2:Array Ca)(n n2:Nat)(dd dd2:Option Addr)(sl sl2:Array (Option Ca))(k:Nat) :
  ∀(i:Nat)(z:Nat->Bool×Bool),items.size-i=k->i<=items.size->i<=items2.size->Meets (Builtin.«list.__eq__.loop» ⟨[.ref l,.ref b,Hz i,Hz 0],[]⟩)
   (λA R s=>s.heap.get? l=some {cls:=.type "list",dict:=dd,data:=.seq items n,slots:=sl}/\s.heap.get? b=some {cls:=.type "list",dict:=dd2,data:=.seq items2 n2,slots:=sl2} /\
    (∀j(h1:i+j<items.size)(h2:i+j<items2.size),EqAt A.in1 s items[i+j] items2[i+j] (z j).1/\L2.LtAt A.in1 s items[i+j] items2[i+j] (z j).2) /\
    R (.ok (.ret (.bool (L2.lexN z (items.size-i) (items2.size-i))))) s):=by
 induction k with
 |zero =>
  intro i z hk hi hi' prog w A R s h;let⟨hp,g,d,tk,os⟩:=s;let⟨hl,hb,he,h⟩:=h
  wp_walk using Eh hl,Eh hb
  let hi1:items[((i:Nat):Int).toNat]?=none:=by simp;lia
  rw[hi1]
  wp_walk using Eh hl,Eh hb
  show R (.ok (.ret (.bool (decide (items.size<items2.size))))) _;rw[show items.size-i=0 by lia,L2.lexN]at h;rw[show decide (items.size<items2.size)=decide (0<items2.size-i)from decide_eq_decide.mpr ()];exact h
 |succ k ih =>
  intro i z hk hi hi' prog w A R s h;let⟨hp,g,d,tk,os⟩:=s;let⟨hl,hb,he,h⟩:=h
  wp_walk using Eh hl,Eh hb
  let hlt:i<items.size:=by lia
  let hi1:items[((i:Nat):Int).toNat]?=some items[i]:=by simp[hlt]
  let hc:((i:Int)+1)=((i+1:Nat):Int):=by push_cast;rfl
  by_cases hlt2:i<items2.size
  .let hi2:items2[((i:Nat):Int).toNat]?=some items2[i]:=by simp[hlt2]
   rw[show items.size-i=(items.size-(i+1))+1 by lia,show items2.size-i=(items2.size-(i+1))+1 by lia,L2.lexN]at h;let⟨h1,h2⟩:=he 0 hlt hlt2;rw[hi1,hi2];refine Fo (h1 prog w _ _ ?_);cases hb':(z 0).1 with
   |true =>
    rw[hb',Fw rfl]at h
    wp_walk
    rw[hc];exact⟨C4 plain_eq_loop _,Ef entry_eq_loop (by
     rw[Cs plain_eq_loop _];exact ih (i+1) (λj=>z (j+1)) () () () prog w A R _ ⟨hl,hb,λj g1 g2=>by
      let:=he (j+1) () ();simpa only[Jhn 1 j,<-Nat.add_assoc,Nat.add_right_comm i 1 j]using this,h⟩)⟩
   |false =>
    rw[hb',Fv nofun]at h
    wp_walk using Eh hl,Eh hb
    rw[hi1,hi2];refine Fo (h2 prog w _ _ ?_)
    wp_walk
    exact h
  .let hi2:items2[((i:Nat):Int).toNat]?=none:=by simp;lia
   rw[hi1,hi2]
   wp_walk using Eh hl,Eh hb
   show R (.ok (.ret (.bool (decide (items.size<items2.size))))) _;rw[show items.size-i=(items.size-(i+1))+1 by lia,show items2.size-i=0 by lia,L2.lexN]at h;rw[Fy (show ¬ items.size<items2.size by lia)];exact h
theorem list_ltAt(l b:Addr)(items items2:Array Ca)(n n2:Nat)(dd dd2:Option Addr)(sl sl2:Array (Option Ca))(z:Nat->Bool×Bool) :
  Meets (Builtin.«list.__lt__» ⟨[.ref l,.ref b],[]⟩)
   (λA R s=>s.heap.get? l=some {cls:=.type "list",dict:=dd,data:=.seq items n,slots:=sl}/\s.heap.get? b=some {cls:=.type "list",dict:=dd2,data:=.seq items2 n2,slots:=sl2} /\
    (∀j(h1:j<items.size)(h2:j<items2.size),EqAt A.in1 s items[j] items2[j] (z j).1/\L2.LtAt A.in1 s items[j] items2[j] (z j).2) /\
    R (.ok (.ret (.bool (L2.lexN z items.size items2.size)))) s):=by
 intro prog w A R s h;let⟨hp,g,d,tk,os⟩:=s;let⟨hl,hb,he,h⟩:=h;let f3:=Jb6
 wp_walk using Eh hl,Eh hb
 exact⟨C4 plain_eq_loop _,Ef entry_eq_loop (by
  rw[Cs plain_eq_loop _];refine Zid l b items items2 n n2 dd dd2 sl sl2 _ 0 z rfl (Ju _) (Ju _) prog w A R _ ⟨hl,hb,λj h1 h2=>?_,h⟩;let:=he j () ();simpa only[Jc4]using this)⟩
end PySem.SeqAt
namespace L2
open PySem PySem.W PyProof.Rows HT PySem.Calls
section
def LtAt.lst{items items2:Array Ca}{z:Nat->Bool×Bool}{l b:Addr}(hl:s.heap.IsList l items)(hb:s.heap.IsList b items2)(hu:A.units<E9)(hz:∀(j:Nat)(h1:j<items.size)(h2:j<items2.size),Ki A.in1 s items[j] items2[j] (z j).1/\LtAt A.in1 s items[j] items2[j] (z j).2):LtAt A s (.ref l) (.ref b) (lexN z items.size items2.size):=λprog w E Q h=>by
 let⟨⟨cls,dd,data,sl⟩,ho,hc,n,hd⟩:=id hl;let⟨⟨cls2,dd2,data2,sl2⟩,ho2,hc2,n2,hd2⟩:=id hb;simp only at hc hd hc2 hd2;subst hc hd hc2 hd2;exact richCompare_meets_room (op:=.Lt) ⟨_,ho,rfl⟩ ⟨_,ho2,rfl⟩ F.slot_list_lt F.entry_list_lt (F.args_list_lt_2 _ _) (SeqAt.list_ltAt l b items items2 n n2 dd dd2 sl sl2 z)
  ⟨ho,ho2,hz,show Lq (lexN z items.size items2.size)≠Ca.notImplemented/\Q (.bool (lexN z items.size items2.size)) s from⟨(λx=>nomatch x),h⟩⟩ hu
end
def Yx(lt:Nat->Nat->Bool):Nat->Nat
 |0=>0
 |n+1=>if lt (n+1) (Yx lt n)then n+1 else Yx lt n
theorem Ru(lt:Nat->Nat->Bool):∀n,Yx lt n<=n
 |0=>Jd _
 |n+1=>by
  let:=Ru lt n;rw[Yx]
  split<;>lia
section
def LtsV(X:Cx)(H:Hp)(x y:V)(b:Bool):Prop:=∀(pq:List (Addr×Obj))(σ:St)(s:Cc)(A:Kj)(u v:Ca),Inv X pq σ H s->A.units+190<E9->RelV x u->RelV y v->LtAt A s u v b
theorem T6{p B:Addr}{lt:Nat->Nat->Bool}{R:Jc0->Cc->Prop}(hA:A.handled=none)(hu:A.units+195<E9)(hBi:it≠B)(fit:FpOk X pq H it)(fB:FpOk X pq H B)(hlt:∀(i j:Nat)(h1:i<vs.length)(h2:j<vs.length),LtsV X H vs[i] vs[j] (lt i j)) :
  ∀(k:Nat)(i:Nat)(cv:Option Ca)(s:Cc)(c:Nat),vs.length=i+k->0<vs.length->Inv X pq σ H s->Um X.K H s.heap p it vs i->s.heap.get? B=some (lst0 (Xa cv) c) ->
   (match cv with|none=>i=0|some v=>0<i/\∃h:Yx lt (i-1)<vs.length,RelV vs[Yx lt (i-1)] v) ->
   (∀s' u,Inv X pq σ H s'->(∀h:Yx lt (vs.length-1)<vs.length,RelV vs[Yx lt (vs.length-1)] u)->R (.ok (.ret u)) s') ->
   Ho (Ck X.prog X.w) A (.builtin "min.loop" ⟨[.ref it,.none,.ref B],[]⟩) R s
 |0,i,cv,s,c,hk,hn,I,src,hB,hc,h=>by
  let hname:(Ew "min"++Ew ".loop":String)="min.loop":=by decide
  refine Ef PySem.F.entry_min_loop ?_;rw[Cs PySem.F.plain_min_loop _];show Cd _ A.in1 (Ky (.ref B) >>= _) _ _ s;refine Fo (wpAny_seqItems hB rfl ?_);show Cd _ A.in1 (tryCatch (Lx (.ref it)) _ >>= _) _ _ s;refine Fo (Eb (F7 (Sl (Q:=λr s'=>r=none/\Inv X pq σ H s'/\s'.heap.get? B=some (lst0 (Xa cv) c)) (I.pin1 fB hB (by intro v;simp)) (fit.snoc hBi.symm) hA src () λs' I'=>⟨rfl,I'.unpinned,(I'.pin (B,lst0 (Xa cv) c) (by simp)).1⟩) (λr s' hz=>?_) λ_ _ z=>z));let⟨er,I',hB'⟩:=hz;subst er;cases cv with
  |none=>exact Fl (show i=0 from hc) ()
  |some v =>
   show Cd _ A.in1 (updateSeq B (λ_=>#[]) >>= _) _ _ _;refine Fo (Eg hB' rfl (Fo (F8 (Fp ?_))) (Vy _));let⟨h0,h1,h2⟩:=hc;refine h _ v (I'.turn1 fB (C2 _ _ _)) λhm=>?_;let e:i=vs.length:=by lia
   subst e;exact h2
 |k+1,i,cv,s,c,hk,hn,I,src,hB,hc,h=>by
  let hname:(Ew "min"++Ew ".loop":String)="min.loop":=by decide
  let hil:i<vs.length:=by lia
  refine Ef PySem.F.entry_min_loop ?_;rw[Cs PySem.F.plain_min_loop _];show Cd _ A.in1 (Ky (.ref B) >>= _) _ _ s;refine Fo (wpAny_seqItems hB rfl ?_);show Cd _ A.in1 (tryCatch (Lx (.ref it)) _ >>= _) _ _ s;refine Fo (Eb (F7 (Tz (x:=vs[i]) (Q:=λr s'=>∃u,r=some u/\RelV vs[i] u/\Inv X pq σ H s'/\s'.heap.get? B=some (lst0 (Xa cv) c)/\Um X.K H s'.heap p it vs (i+1)) (I.pin1 fB hB (by intro v;simp)) (fit.snoc hBi.symm) src (Jb hil)
   λu s' ru I' src'=>⟨u,rfl,ru,I'.unpinned,(I'.pin (B,lst0 (Xa cv) c) (by simp)).1,src'⟩) (λr s'⟨u,er,ru,I',hB',src'⟩=>?_) λ_ _ z=>z))
  subst er;let st:=λ(f:Obj->Obj)=>C2 s'.heap B f;cases cv with
  |none =>
   let e0:i=0:=hc;subst e0;show Cd _ A.in1 (updateSeq B (λ_=>#[u,u]) >>= _) _ _ _;refine Fo (Eg hB' rfl ?_ (Vy _));rw[hname];exact Fp ⟨C4 PySem.F.plain_min_loop _,T6 hA hu hBi fit fB hlt k 1 (some u) _ _ () hn (I'.turn1 fB (st _)) (src'.at (λob e=>((st _).2 it hBi).trans e) id id) (Cu _ hB' rfl) ⟨Nat.one_pos,hil,ru⟩ h⟩
  |some v =>
   let⟨h0,h1,rv⟩:=hc;obtain⟨j,rfl⟩:∃j,i=j+1:=⟨i-1,()⟩;let lts:=hlt (j+1) (Yx lt j) hil h1 pq σ s' A.in1 u v I' (by show A.units+1+190<E9;lia) ru rv;let em:Yx lt (j+1)=if lt (j+1) (Yx lt j)then j+1 else Yx lt j:=rfl;show Cd _ A.in1 (tryCatch (Hw [u,u] (richCompare .Lt u v >>= _)) _ >>= _) _ _ _;refine Fo (Eb (Cy (Fo (show Cd (Ck X.prog X.w) A.in1 (Eo .Lt u v) _ _ _ from lts _ _ _ _ ?_))));refine Fo (Cy (Ep ?_));refine Fo (F8 (Fp ?_));cases hb:lt (j+1) (Yx lt j)with
   |true =>
    rw[hb,Fw rfl]at em;simp only[if_true];refine Fo (Eg hB' rfl (Fo (F8 ?_)) (Vy _));rw[hname];exact Fp ⟨C4 PySem.F.plain_min_loop _,T6 hA hu hBi fit fB hlt k (j+1+1) (some u) _ _ () hn (I'.turn1 fB (st _)) (src'.at (λob e=>((st _).2 it hBi).trans e) id id) (Cu _ hB' rfl) ⟨Fg _,by simp only[Gy,em];exact hil,by simp only[Gy,em];exact ru⟩ h⟩
   |false =>
    rw[hb,Fv nofun]at em;simp only[Gk,if_false];refine Fo (F8 ?_);rw[hname];exact Fp ⟨C4 PySem.F.plain_min_loop _,T6 hA hu hBi fit fB hlt k (j+1+1) (some v) _ _ () hn I' src' hB' ⟨Fg _,by simp only[Gy,em];exact h1,by simp only[Gy,em];exact rv⟩ h⟩
end
section
theorem Znk{k:Nat}(hr:Room k A):A.units+200<E9:=by have:=hr.un;lia
def Zvr(X:Cx):List V->Hp->VK->Prop:=λxs H Q=>∃(a:Addr)(vs:List V)(lt:Nat->Nat->Bool),xs=[.ref a]/\SqL X.K H a vs/\0<vs.length/\(∀(i j:Nat)(h1:i<vs.length)(h2:j<vs.length),LtsV X H vs[i] vs[j] (lt i j)) /\
 ∀h:Yx lt (vs.length-1)<vs.length,Q vs[Yx lt (vs.length-1)] H
theorem Zjm(hc:X.calm=true)(hu:X.A.units+200<E9):Wr X (.builtin "min") (Zvr X):=by
 intro pq s2 σ H2 xs us Q I2 r h;let⟨a,vs,lt,rfl,hl,hn,hlt,q⟩:=h;let⟨u,rfl,ru⟩:=Tl r;cases ru;let hname:(Ew "min"++Ew ".loop":String)="min.loop":=by decide
 refine call_function_tree PySem.F.kind_min PySem.F.plain_min PySem.F.entry_min (PySem.F.args_min1 _) ?_;show Cd _ X.A.in1 (C3 "min" ["key","default"] 0 ⟨[],[]⟩ >>= _) _ _ s2;refine Fo (wpAny_of_eq (show C3 "min" ["key","default"] 0 ⟨[],[]⟩=pure [none,none]from rfl) ?_);refine Fo (Fp ?_);let⟨its,rv,pl,hz⟩:=I2.list hl;refine Fo (E2 pl.isList ?_);refine Fo (Kh ?_ (Ju _));rw[hname];let I3:Inv X pq σ H2 {s2 with heap:=(s2.heap.push {cls:=.type "list_iterator",data:=.fields #[.ref a,.int 0 0]}).push (lst0 #[] 0)}:=I2.kept (t':=s2.toks) λb o e=>Fs _ (Fs _ e)
 let hit:FpOk X pq H2 s2.heap.objs.size:=I2.fpOk (Jd _) (I2.hok.fresh (Jd _));let hle:s2.heap.objs.size<=(s2.heap.push {cls:=.type "list_iterator",data:=.fields #[.ref a,.int 0 0]}).objs.size:=by rw[El];exact G2 _
 let hB:=I2.fpOk (H':=H2) hle (I2.hok.fresh hle);let nB:s2.heap.objs.size≠(s2.heap.push {cls:=.type "list_iterator",data:=.fields #[.ref a,.int 0 0]}).objs.size:=by rw[El];exact Gd (Bc _)
 refine Fp ⟨C4 PySem.F.plain_min_loop _,T6 (A:=X.A) (lt:=lt) (I2.ok.hd hc) () nB hit hB hlt vs.length 0 none _ 0 () hn I3 (.inl ⟨hl,⟨_,Fs _ (Ft _ rfl),rfl,rfl⟩⟩) (Ft _ rfl) rfl λs' u I' hu'=>?_⟩;let hm:Yx lt (vs.length-1)<vs.length:=by have:=Ru lt (vs.length-1);lia
 exists _,H2,I',hu' hm,q hm
theorem Za6:∀(ns ms:List Int),lexN (λj=>(ns[j]? == ms[j]?,decide ((ns[j]?).getD 0<(ms[j]?).getD 0))) ns.length ms.length=HT.lexLt ns ms
 |[],[]=>rfl
 |[],_::_=>rfl
 |_::_,[]=>rfl
 |n::ns,m::ms=>by
  let ih:=Za6 ns ms;rw[Jv,Jv,lexN,HT.lexLt_cons];simp only[List.getElem?_cons_zero,List.getElem?_cons_succ,Li];rw[ih]
  by_cases e:n=m
  .rw[Fw e,Fw (by rw[e];exact beq_self_eq_true _)]
  .rw[Fv e,Fv (by simp[e])]
theorem ints_at(h:Kv us ns):us.length=ns.length/\∀(j:Nat)(hj:j<us.length),∃t,us[j]=.int ((ns[j]?).getD 0) t:=by
 induction h with
 |nil=>exact⟨rfl,λj hj=>Fl hj (Gp _)⟩
 |cons n t h ih =>
  exists by rw[Jv,Jv,ih.1],λj hj=>?_;cases j with
  |zero=>exact⟨t,rfl⟩
  |succ j=>exact ih.2 j (Nat.lt_of_succ_lt_succ hj)
theorem Zpo{vs:List Ca}{ms:List Int}(h1:Kv us ns)(h2:Kv vs ms)(j:Nat)(g1:j<us.length)(g2:j<vs.length):Ki A s us[j] vs[j] (ns[j]? == ms[j]?)/\LtAt A s us[j] vs[j] (decide ((ns[j]?).getD 0<(ms[j]?).getD 0)):=by
 let⟨l1,a1⟩:=ints_at h1;let⟨l2,a2⟩:=ints_at h2;let⟨t,e1⟩:=a1 j g1;let⟨u,e2⟩:=a2 j g2;rw[e1,e2];exists ?_,.int _ _ _ _;let:=Ki.int_int (A:=A) (s:=s) ((ns[j]?).getD 0) t ((ms[j]?).getD 0) u;rw[Jb (),Jb ()]at this⊢;exact this
end
end L2
namespace L2
open PySem PySem.Spec PyProof.Rows
def Zb3(Ps:List Addr)(H:Hp):Prop:=(∀P∈Ps,H P=some (.tbl #[]))/\∀b,b∉Ps->H b=none\/∃o xs,H b=some (.frz o (.lst xs))
def Zb3.tab{P:Addr}{Ps:List Addr}(o:Zb3 Ps H)(hp:P∈Ps)(pos:Pos)(q:Str):Ve P pos q H:=⟨#[],o.1 P hp,trivial,.inl rfl⟩
theorem Zfh{mb:Str->Option Ca}{k:Nat}{fa a:Addr}{Ps:List Addr}{x:Str}{s₁:Cc}{vs:List Ca}(KX:K.In s₁.heap)(hns:s₁.heap.Ns Ct mg)(hb:s₁.heap.Ns Jdd mb)(hbb:∀x:Str,x≠"__name__"->mb x=Lb x)(hlim:s₁.heap.NoLimit)(hbm:Bm mg s₁.heap)(hg:s₁.gens=#[])(ha:s₁.heap.get? a=some {cls:=.type "list",data:=.seq vs.toArray})(hi:Kv vs ns)(hl:ns.length<=Cb)(hr:Room k Jeq)(hP:∀P∈Ps,s₁.heap.get? P=some (Jhe #[]))(hPK:∀P∈Ps,K.lookup P=none)(hC:∀P∈Ps,∃c,W.CodeHd s₁.heap c P)(F:∀base:Heap,K.In base->base.Ns Ct mg->Bm mg base->FnOk P w K mg base CX k fa fd [x] sp)(hbind:∀(s:Cc)(u:Ca),Jem s fd ⟨[u],[]⟩ [(x,u)])(hsp:∀H:Hp,Zb3 Ps H->SqL K H a (ns.map V.int)->sp [.ref a] H (λv _=>v=.bl true) λ_ _ _=>False)(hCX:∀H e s',CX [] H s₁ (λ_ _ _=>False) e s'->False) :
  Ho (Ck P w) Jeq (.call (.ref fa) ⟨[.ref a],[]⟩) (λr s'=>r=.ok (.ret (.bool true))/\OldK s₁.heap s'.heap/\s'.os=s₁.os/\Mu s'.gens) s₁:=by
 let rv:=Zai hi;let lenV:=hi.length;let aP:a∉Ps:=λz=>by rw[hP a z]at ha;cases ha
 let core:∀H:Hp,Zb3 Ps H->SqL K H a (ns.map V.int)->HOk P w H s₁.heap->(∀b,H b≠none->b=a\/b∈Ps)->(∀b,H b≠none->K.lookup b=none) ->
   Ho (Ck P w) Jeq (.call (.ref fa) ⟨[.ref a],[]⟩) (λr s'=>r=.ok (.ret (.bool true))/\OldK s₁.heap s'.heap/\s'.os=s₁.os/\Mu s'.gens) s₁:=by
  intro H hO hS hok hA hK;let base_of:∀{b:Addr}{o:Obj},s₁.heap.get? b=some o->H b=none->(hidT s₁.heap H).get? b=some o:=λe n=>Zlp e n;let noA:∀{b:Addr}{o:Obj},s₁.heap.get? b=some o->(∀its n,o.data≠.seq its n)->(∀ps,o.data≠.fields ps)->H b=none:=λ{b o}e d d2=>by
   cases q:H b with
   |none=>rfl
   |some u =>
    rcases hA b (by rw[q];simp)with e'|e'
    .subst e';rw[ha]at e;cases e;exact Fl rfl (d _ _)
    .rw[hP b e']at e;cases e;exact Fl rfl (d2 _)
  let nsK:∀{b:Addr}{m:Str->Option Ca},s₁.heap.Ns b m->(hidT s₁.heap H).Ns b m:=λ{b m}⟨o,es,ep,e,d,r⟩=>⟨o,es,ep,base_of e (noA e (by rw[d];intro _ _ z;cases z) (by rw[d];intro _ z;cases z)),d,r⟩;let hKb:K.In (hidT s₁.heap H):=λb o e=>base_of (KX b o e) (by
   cases q:H b with
   |none=>rfl
   |some u=>rw[hK b (by rw[q];simp)]at e;cases e)
  let hBm:Bm mg (hidT s₁.heap H):=by
   let⟨bm,ob,b1,b2,b3,b4,b5,b6⟩:=hbm;exists bm,ob,b1,b2,base_of b3 (noA b3 (by rw[b6];intro _ _ z;cases z) (by rw[b6];intro _ z;cases z)),b4,b5,b6
  let hM:Mod K mg (hidT s₁.heap H):=⟨hKb,nsK hns,⟨mb,nsK hb,hbb⟩,let⟨mc,h1,h2⟩:=hlim;⟨mc,nsK h1,h2⟩⟩;let e0:Env0 P w K mg (hidT s₁.heap H) Jeq [] s₁ H:=⟨rfl,hM,λb o e=>Zo5 e,Bq (Ziz _ _),trivial,λb hb=>Fl (show b∈([]:List Addr)from hb) (by simp),hok,.of_eq hg⟩;refine Hl ((F _ hKb (nsK hns) hBm).run Jeq [] s₁ H ⟨[.ref a],[]⟩ [.ref a] [.ref a] _ _ hr e0 (hbind s₁ (.ref a)) (.cons rfl .nil) (hsp H hO hS)) λr s' h=>?_;cases r with
  |error e=>exact(hCX H e s' h).elim
  |ok fl =>
   cases fl with
   |next=>exact Cq h
   |brk=>exact Cq h
   |cont=>exact Cq h
   |ret u =>
    let⟨v,H',os,bare,un,hok',r',q⟩:=h;let q':v=.bl true:=q;subst q';obtain rfl:u=Lq true:=r';let kp:∀b o,b∉Ps->s₁.heap.get? b=some o->s'.heap.get? b=some o:=λb o nP e=>by
     cases q:H b with
     |none=>exact un.keep b o e q (by intro z;exact Fl (show b∈([]:List Addr)from z) (by simp)) (by simp)
     |some u =>
      rcases hO.2 b nP with z|⟨ob,xs,z⟩
      .rw[q]at z;cases z
      .let z2:=un.frzs b ob _ z;let⟨e1,_⟩:=hok b _ z;let⟨e2,_⟩:=hok' b _ z2;rw[e]at e1;cases e1;exact e2
    let tb:∀P∈Ps,∃more,s'.heap.get? P=some {cls:=.none,data:=.fields (#[]++more)}:=λP hp=>by
     let⟨more,hm⟩:=un.tbls P #[] (hO.1 P hp);exists more,hok' P _ hm
    exists rfl,⟨λb o e=>?_,λb o e=>?_⟩,os,bare
    .by_cases hbP:b∈Ps
     .let⟨more,hPt⟩:=tb b hbP;let hP':=hP b hbP;let⟨c,hC'⟩:=hC b hbP;rw[hP']at e;cases e;exact .inr (.inl ⟨(hC'.tab hP').isCodeTable,rfl,#[],more,rfl,hPt⟩)
     .exact .inl (kp b o hbP e)
    .by_cases hbP:b∈Ps
     .exists _,(tb b hbP).choose_spec
     .exists o,kp b o hbP e
 let okP:∀(H:Hp)(b:Addr),b∈Ps->Y3 P w H s₁.heap b (.tbl #[]):=λH b hb=>hP b hb;cases hk:K.lookup a with
 |some o =>
  let e:=KX a o hk;rw[ha]at e;cases e;refine core (λb=>if b∈Ps then some (.tbl #[])else none) ⟨λb hb=>Fw hb,λb hb=>.inl (Fv hb)⟩ (.inr ⟨_,vs.toArray,_,hk,rfl,rfl,rfl,by rw[Jm,lenV];exact hl,by simpa using rv⟩) (λb u z=>?_) (λb z=>?_) λb z=>?_
  .by_cases hb:b∈Ps
   .let z':=(Fw hb).symm.trans z;cases z';exact okP _ b hb
   .let z':=(Fv hb).symm.trans z;cases z'
  .by_cases hb:b∈Ps
   .exact .inr hb
   .exact Fl (Fv hb) z
  .by_cases hb:b∈Ps
   .exact hPK b hb
   .exact Fl (Fv hb) z
 |none =>
  refine core (λb=>if b∈Ps then some (.tbl #[])else if b=a then some (.frz {cls:=.type "list",data:=.seq vs.toArray} (.lst (ns.map V.int)))else none) ⟨λb hb=>Fw hb,λb hb=>?_⟩
   (.inl (.inr ⟨{cls:=.type "list",data:=.seq vs.toArray},(Fv aP).trans (Fw rfl)⟩)) (λb u z=>?_) (λb z=>?_) λb z=>?_
  .by_cases hba:b=a
   .exact .inr ⟨_,_,(Fv hb).trans (Fw hba)⟩
   .exact .inl ((Fv hb).trans (Fv hba))
  .by_cases hb:b∈Ps
   .let z':=(Fw hb).symm.trans z;cases z';exact okP _ b hb
   .let z1:=(Fv hb).symm.trans z
    by_cases hba:b=a
    .let z':=(Fw hba).symm.trans z1;cases z';subst hba;exists ha,by rw[Ja];exact hl,vs,_,rv,ha
    .let z':=(Fv hba).symm.trans z1;cases z'
  .by_cases hb:b∈Ps
   .exact .inr hb
   .by_cases hba:b=a
    .exact .inl hba
    .exact Fl ((Fv hb).trans (Fv hba)) z
  .by_cases hb:b∈Ps
   .exact hPK b hb
   .by_cases hba:b=a
    .rw[hba];exact hk
    .exact Fl ((Fv hb).trans (Fv hba)) z
def Zf3{l:Jhs}{n k:Nat}{q:Ez}{loose:List Str}{XP:(Str->Option Ca)->Heap->Prop}{YP:Hm->Heap->Prop}{d:DefRec}{K:Params->Cr}{CX:Hm->CXT}{sp:Hm->Sp}{x:Str}{Ps:List Addr}(hn:l.most=some n)(hn2:n<=Cb)(hdf:d.params.defaults=[])(hr:Room k Jeq)(hY:∀(w:Hm)(h:Heap),YP w h->(K w.params).In h)(hYt:∀(w:Hm)(h:Heap),YP w h->∀P∈Ps,h.get? P=some (Jhe #[]))(hPK:∀w:Hm,∀P∈Ps,(K w.params).lookup P=none)(F:∀(w:Hm)(mg:Str->Option Ca)(fa:Addr)(h:Heap),(K w.params).In h->h.Ns Ct mg->mg d.name=some (.ref fa) ->
   ∃fd:Md,(∀P∈Ps,∃c,Jdh (K w.params) c P=true)/\(∀(s:Cc)(u:Ca),Jem s fd ⟨[u],[]⟩ [(x,u)]) /\
    ∀base:Heap,(K w.params).In base->base.Ns Ct mg->Bm mg base->FnOk l.prog w (K w.params) mg base (CX w) k fa fd [x] (sp w))(hsp:∀(w:Hm)(H:Hp)(a:Addr)(ns:List Int),ns.length<=n->Zb3 Ps H->SqL (K w.params) H a (ns.map V.int)->sp w [.ref a] H (λv _=>v=.bl true) λ_ _ _=>False)(hCX:∀(w:Hm)(H:Hp)(s:Cc)(e:Ca)(s':Cc),CX w [] H s (λ_ _ _=>False) e s'->False) :
  W.WalkO q loose XP YP l.row.toRowW d [] (λf vs=>Jgw f vs):=by
 refine Att.attach_call hn hdf λw s₀ s₁ mg mb fa o pm cd doc a vs ns G Y ho hd hcd hmg hobj hints hlen hg=>?_;let KX:=hY w _ Y;let⟨fd,hC,hb,hF⟩:=F w mg fa _ KX G.T.g hmg;exact Zfh KX G.T.g G.T.b G.T.builtins G.T.nolimit G.T.bmain hg hobj hints (Jy hlen hn2) hr (hYt w _ Y) (hPK w) (λP hp=>let⟨c,h⟩:=hC P hp;⟨c,Jef KX h⟩) hF hb (λH hO hS=>hsp w H a ns hlen hO hS) λH e s'=>hCX w H s₁ e s'
end L2
namespace L2
open PySem PySem.W PyProof.Rows HT PySem.Calls
def W5:Option (Ca×Ca)->Array Ca
 |none=>#[]
 |some (v,k)=>#[v,k]
def N9(cv:Option (Ca×Ca)):(W5 cv).size<=Cb:=by
 rw[Ei];cases cv<;>simp[W5]
section
def FpOk.after{b:Addr}(f:FpOk X pq H b)(h:H' b=none):FpOk X pq H' b:=⟨h,f.2⟩
end
end L2
namespace L2
open PySem PySem.Spec PyProof.Rows PySem.W
mutual
inductive LtP:PyData->PyData->Bool->Prop where
 |int (i j:Int):LtP (.int i) (.int j) (decide (i<j))
 |tup {xs ys:List PyData} {b:Bool}:LxP xs ys b->LtP (.tuple xs) (.tuple ys) b
 |lst {xs ys:List PyData} {b:Bool}:LxP xs ys b->LtP (.list xs) (.list ys) b
inductive LxP:List PyData->List PyData->Bool->Prop where
 |nn:LxP [] [] false
 |nc (y:PyData) (ys:List PyData):LxP [] (y::ys) true
 |cn (x:PyData) (xs:List PyData):LxP (x::xs) [] false
 |cc {x y:PyData} {xs ys:List PyData} {b c:Bool}:LtP x y b->LxP xs ys c->LxP (x::xs) (y::ys) (if C1 x y then c else b)
end
section
mutual
theorem Zie(I:Inv X pq σ H s):∀{d e:PyData}{b:Bool},LtP d e b->∀(x y:V)(u v:Ca)(A:Kj)(n:Nat),DV X.K H x d->DV X.K H y e->RelV x u->RelV y v->d.canLay0=true->e.canLay0=true->d.depth<=n->e.depth<=n->A.units+2*n+10<E9->LtAt A s u v b:=by
 intro _ _ _ hz9;cases hz9 with
 |int i j=>
  exact λx y u v A n h1 h2 r1 r2 _ _ _ _ _=>by
    cases h1;cases h2;let⟨t,rfl⟩:=r1;let⟨t',rfl⟩:=r2;exact .int _ _ _ _
 |tup l=>
  exact λx y u v A n h1 h2 r1 r2 c1 c2 n1 n2 hu=>by
    cases h1 with
    | @tup a vs _ q1 p1 =>
     cases h2 with
     | @tup a' ws _ q2 p2 =>
      cases r1;cases r2;let⟨its,rv,⟨o,e,cl,m,dt⟩,_⟩:=I.tuple q1;let⟨its2,rv2,⟨o2,e2,cl2,m2,dt2⟩,_⟩:=I.tuple q2;rw[Le]at n1 n2;obtain⟨k,rfl⟩:∃k,n=k+1:=⟨n-1,()⟩;let⟨z,hz,ez⟩:=lx_data I l _ _ _ _ A.in1 k p1 p2 rv rv2 (by rwa [Hb]at c1) (by rwa [Hb]at c2) () () (by show A.units+1+2*k+10<E9;lia);let:=LtAt.tup (A:=A) (z:=z) () e cl dt e2 cl2 dt2 hz;rwa [ez]at this
 |lst l=>
  exact λx y u v A n h1 h2 r1 r2 c1 c2 n1 n2 hu=>by
    cases h1 with
    | @lst a vs _ q1 p1 =>
     cases h2 with
     | @lst a' ws _ q2 p2 =>
      cases r1;cases r2;let⟨its,rv,g1,_⟩:=I.list q1;let⟨its2,rv2,g2,_⟩:=I.list q2;rw[Le]at n1 n2;obtain⟨k,rfl⟩:∃k,n=k+1:=⟨n-1,()⟩;let⟨z,hz,ez⟩:=lx_data I l _ _ _ _ A.in1 k p1 p2 rv rv2 (by rwa [Hb]at c1) (by rwa [Hb]at c2) () () (by show A.units+1+2*k+10<E9;lia);let⟨o,m,e,c,_,dt⟩:=g1;let⟨o2,m2,e2,c',_,dt2⟩:=g2;let:=LtAt.lst (A:=A) (z:=z) (items:=its.toArray) (items2:=its2.toArray) ⟨o,e,c,m,dt⟩ ⟨o2,e2,c',m2,dt2⟩ () (λj h1 h2=>by simpa using hz j (by simpa using h1) (by simpa using h2));rw[Jm,Jm,ez]at this
      exact this
theorem lx_data(I:Inv X pq σ H s):∀{ds es:List PyData}{b:Bool},LxP ds es b->∀(xs ys:List V)(us vs:List Ca)(A:Kj)(n:Nat),DVs X.K H xs ds->DVs X.K H ys es->Vals xs us->Vals ys vs->Em ds=true->Em es=true->Hi ds<=n->Hi es<=n->A.units+2*n+10<E9 ->
  ∃z:Nat->Bool×Bool,(∀(j:Nat)(h1:j<us.length)(h2:j<vs.length),Ki A s us[j] vs[j] (z j).1/\LtAt A s us[j] vs[j] (z j).2)/\lexN z us.length vs.length=b
 |_,_,_,.nn=>λxs ys us vs A n h1 h2 r1 r2 _ _ _ _ _=>by
  cases h1;cases h2;cases r1;cases r2;exists λ_=>(true,true),λj h=>Fl h (Gp _),rfl
 |_,_,_,.nc y ys=>λxs ys us vs A n h1 h2 r1 r2 _ _ _ _ _=>by
  cases h1;cases h2;cases r1;cases r2;exists λ_=>(true,true),λj h=>Fl h (Gp _),rfl
 |_,_,_,.cn x xs=>λxs ys us vs A n h1 h2 r1 r2 _ _ _ _ _=>by
  cases h1;cases h2;cases r1;cases r2;exists λ_=>(true,true),λj _ h=>Fl h (Gp _),rfl
 |_,_,_,.cc (x:=x) (y:=y) (b:=b) l r=>λxs ys us vs A n h1 h2 r1 r2 c1 c2 n1 n2 hu=>by
  cases h1 with|cons p q=>?_
  cases h2 with|cons p' q'=>?_
  cases r1 with|cons rp rq=>?_
  cases r2 with|cons rp' rq'=>?_
  rw[Em,G6]at c1 c2;rw[Hi]at n1 n2;let⟨z,hz,ez⟩:=lx_data I r _ _ _ _ A n q q' rq rq' c1.2 c2.2 () () hu;let⟨as,ra⟩:=Wb I p rp;let⟨bs,rb⟩:=Wb I p' rp';let e1:=SeqAt.eqAt_reads _ _ A s _ _ _ _ ra rb c1.1 c2.1 (by have:=Ja8 x.depth y.depth;lia);let e2:=Zie I l _ _ _ _ A n p p' rp rp' c1.1 c2.1 () () ();exists λj=>match j with|0=>(C1 x y,b)|j+1=>z j,λj h1 h2=>?_,?_
  .cases j with
   |zero=>exact⟨e1,e2⟩
   |succ j=>exact hz j (by simpa using h1) (by simpa using h2)
  .rw[<-ez];rfl
end
def rLtD(K:Frag):R2:=λx y H Q=>∃(d e:PyData)(b:Bool),DV K H x d/\DV K H y e/\LtP d e b/\Er d=true/\Er e=true/\Q (.bl b) H
theorem Zs1(hu:X.A.units+200<E9):OpR X (Eo .Lt) (rLtD X.K):=by
 intro pq s σ H x y v u Q I rx ry h;let⟨d,e,b,h1,h2,l,s1,s2,q⟩:=h;unfold Er at s1 s2;rw[G6,decide_eq_true_eq]at s1 s2;exact Zie I l _ _ _ _ _ 64 h1 h2 rx ry s1.1 s2.1 s1.2 s2.2 () _ _ _ _ ⟨.bl b,H,I,rfl,q⟩
end
end L2
namespace L2
open PySem PySem.W PyProof.Rows HT PySem.Calls
section
theorem U3{p B f:Addr}{lt:Nat->Nat->Bool}{KeyAt:Nat->V->Hp->Prop}{H0:Hp}{R:Jc0->Cc->Prop}(hA:A.handled=none)(hu:A.units+195<E9)(hBi:it≠B)(mono:∀(i:Nat)(x:V)(H H':Hp),Same H H'->KeyAt i x H->KeyAt i x H')(hlt:∀(H:Hp)(i j:Nat)(x y:V),Same H0 H->i<vs.length->j<vs.length->KeyAt i x H->KeyAt j y H->LtsV X H x y (lt i j))(hcall:∀(pins':List (Addr×Obj))(s':Cc)(H:Hp)(i:Nat)(hi:i<vs.length)(u:Ca),(∀p∈pq,p∈pins')->Same H0 H->Inv X pins' σ H s'->RelV vs[i] u ->
   Cd (Ck X.prog X.w) A.in1 (call (.ref f) [u]) (EP X pins' σ λv H'=>Same H H'/\KeyAt i v H') (λ_ _=>False) s') :
  ∀(k:Nat)(i:Nat)(cv:Option (Ca×Ca))(s:Cc)(c:Nat)(H:Hp),vs.length=i+k->0<vs.length->Same H0 H->FpOk X pq H it->FpOk X pq H B->Inv X pq σ H s->Um X.K H s.heap p it vs i->s.heap.get? B=some (lst0 (W5 cv) c) ->
   (match cv with|none=>i=0|some (v,kv)=>0<i/\∃h:Yx lt (i-1)<vs.length,RelV vs[Yx lt (i-1)] v/\∃x,RelV x kv/\KeyAt (Yx lt (i-1)) x H) ->
   (∀s' u H',Same H0 H'->Inv X pq σ H' s'->(∀h:Yx lt (vs.length-1)<vs.length,RelV vs[Yx lt (vs.length-1)] u)->R (.ok (.ret u)) s') ->
   Ho (Ck X.prog X.w) A (.builtin "min.loop" ⟨[.ref it,.ref f,.ref B],kw⟩) R s
 |0,i,cv,s,c,H,hk,hn,sm,fit,fB,I,src,hB,hc,h=>by
  refine Ef PySem.F.entry_min_loop ?_;rw[Cs PySem.F.plain_min_loop _];show Cd _ A.in1 (Ky (.ref B) >>= _) _ _ s;refine Fo (wpAny_seqItems hB rfl ?_);show Cd _ A.in1 (tryCatch (Lx (.ref it)) _ >>= _) _ _ s;refine Fo (Eb (F7 (Sl (Q:=λr s'=>r=none/\Inv X pq σ H s'/\s'.heap.get? B=some (lst0 (W5 cv) c)) (I.pin1 fB hB (by intro v;simp)) (fit.snoc hBi.symm) hA src () λs' I'=>⟨rfl,I'.unpinned,(I'.pin (B,lst0 (W5 cv) c) (by simp)).1⟩) (λr s' hz=>?_) λ_ _ z=>z));let⟨er,I',hB'⟩:=hz;subst er;cases cv with
  |none=>exact Fl (show i=0 from hc) ()
  |some q =>
   let⟨v,kv⟩:=q;show Cd _ A.in1 (updateSeq B (λ_=>#[]) >>= _) _ _ _;refine Fo (Eg hB' rfl (Fo (F8 (Fp ?_))) (N9 _));let⟨h0,h1,h2,_⟩:=hc;refine h _ v H sm (I'.turn1 fB (C2 _ _ _)) λhm=>?_;let e:i=vs.length:=by lia
   subst e;exact h2
 |k+1,i,cv,s,c,H,hk,hn,sm,fit,fB,I,src,hB,hc,h=>by
  let hname:(Ew "min"++Ew ".loop":String)="min.loop":=by decide
  let hil:i<vs.length:=by lia
  refine Ef PySem.F.entry_min_loop ?_;rw[Cs PySem.F.plain_min_loop _];show Cd _ A.in1 (Ky (.ref B) >>= _) _ _ s;refine Fo (wpAny_seqItems hB rfl ?_);show Cd _ A.in1 (tryCatch (Lx (.ref it)) _ >>= _) _ _ s;refine Fo (Eb (F7 (Tz (x:=vs[i]) (Q:=λr s'=>∃u,r=some u/\RelV vs[i] u/\Inv X pq σ H s'/\s'.heap.get? B=some (lst0 (W5 cv) c)/\Um X.K H s'.heap p it vs (i+1)) (I.pin1 fB hB (by intro v;simp)) (fit.snoc hBi.symm) src (Jb hil)
   λu s' ru I' src'=>⟨u,rfl,ru,I'.unpinned,(I'.pin (B,lst0 (W5 cv) c) (by simp)).1,src'⟩) (λr s'⟨u,er,ru,I',hB',src'⟩=>?_) λ_ _ z=>z))
  subst er;obtain⟨oI,hoI,noc⟩:∃oI,s'.heap.get? it=some oI/\∀v,oI.data≠.cell v:=by
   rcases src' with⟨_,o,e1,e2,e3⟩|⟨_,o,e1,e2,e3⟩
   .exact⟨o,e1,λv z=>by rw[e3]at z;cases z⟩
   .exact⟨o,e1,λv z=>by rw[e3]at z;cases z⟩
  let Ip:=(I'.pin1 fB hB' (by intro v;simp)).pin1 (fit.snoc hBi.symm) hoI noc;show Cd _ A.in1 (tryCatch (Hw [u] (call (.ref f) [u])) _ >>= _) _ _ _;refine Fo (Eb (Cy (F7 (hcall _ _ H i hil u (λp hp=>Gw _ (Gw _ hp)) sm Ip ru) (λku s2 he=>?_) λ_ _ hF=>hF.elim)));let⟨x,H2,I2p,rx,s2m,kx⟩:=he;let pB:=I2p.pin (B,lst0 (W5 cv) c) (by simp);let pI:=I2p.pin (it,oI) (by simp);let I2:Inv X pq σ H2 s2:=I2p.unpinned.unpinned;let sm2:Same H0 H2:=sm.trans s2m;let fit2:=fit.after (H':=H2) pI.2.1;let fB2:=fB.after (H':=H2) pB.2.1;let src2:Um X.K H2 s2.heap p it vs (i+1):=src'.at (λo e=>by rw[hoI]at e;cases e;exact pI.1) (λq=>s2m.seq q) λq=>Zdv s2m q
  let st:=λ(f:Obj->Obj)=>C2 s2.heap B f;cases cv with
  |none =>
   let e0:i=0:=hc;subst e0;show Cd _ A.in1 (updateSeq B (λ_=>#[u,ku]) >>= _) _ _ _;refine Fo (Eg pB.1 rfl ?_ (N9 _));rw[hname];exact Fp ⟨C4 PySem.F.plain_min_loop _,U3 hA hu hBi mono hlt hcall k 1 (some (u,ku)) _ _ H2 () hn sm2 fit2 fB2 (I2.turn1 fB2 (st _)) (src2.at (λob e=>((st _).2 it hBi).trans e) id id) (Cu _ pB.1 rfl) ⟨Nat.one_pos,hil,ru,x,rx,kx⟩ h⟩
  |some q =>
   let⟨v,kv⟩:=q;let⟨h0,h1,rv,y,ry,ky⟩:=hc;obtain⟨j,rfl⟩:∃j,i=j+1:=⟨i-1,()⟩;let ky2:=mono _ _ _ _ s2m ky;let lts:=hlt H2 (j+1) (Yx lt j) x y sm2 hil h1 kx ky2 pq σ s2 A.in1 ku kv I2 (by show A.units+1+190<E9;lia) rx ry;let em:Yx lt (j+1)=if lt (j+1) (Yx lt j)then j+1 else Yx lt j:=rfl;show Cd _ A.in1 (tryCatch (Hw [u,ku] (richCompare .Lt ku kv >>= _)) _ >>= _) _ _ _;refine Fo (Eb (Cy (Fo (show Cd (Ck X.prog X.w) A.in1 (Eo .Lt ku kv) _ _ _ from lts _ _ _ _ ?_))));refine Fo (Cy (Ep ?_))
   refine Fo (F8 (Fp ?_));cases hb:lt (j+1) (Yx lt j)with
   |true =>
    rw[hb,Fw rfl]at em;simp only[if_true];refine Fo (Eg pB.1 rfl (Fo (F8 ?_)) (N9 _));rw[hname];exact Fp ⟨C4 PySem.F.plain_min_loop _,U3 hA hu hBi mono hlt hcall k (j+1+1) (some (u,ku)) _ _ H2 () hn sm2 fit2 fB2 (I2.turn1 fB2 (st _)) (src2.at (λob e=>((st _).2 it hBi).trans e) id id) (Cu _ pB.1 rfl) ⟨Fg _,by simp only[Gy,em];exact hil,by simp only[Gy,em];exact ru,x,rx,by simp only[Gy,em];exact kx⟩ h⟩
   |false =>
    rw[hb,Fv nofun]at em;simp only[Gk,if_false];refine Fo (F8 ?_);rw[hname];exact Fp ⟨C4 PySem.F.plain_min_loop _,U3 hA hu hBi mono hlt hcall k (j+1+1) (some (v,kv)) _ _ H2 () hn sm2 fit2 fB2 I2 src2 pB.1 ⟨Fg _,by simp only[Gy,em];exact h1,by simp only[Gy,em];exact rv,y,ry,by simp only[Gy,em];exact ky2⟩ h⟩
end
end L2
namespace L3
open PySem L2
structure Cf where
 c:Addr
 k:Cr
inductive D where
 |non|bl (b:Bool)|int (i:Int)|str (x:Str)|ty (n:String)|at(a:Addr)
 |tup (xs:List D)|lst (xs:List D)|frz (xs:List D)|dct (kvs:List (Key×D))|dcT (kvs:List (List Key×D))
 |code (S:List Pr)|cell (k:Nat)|exc (C:Addr) (fs:List (Str×D))|nst (ks:List NI)|itp (x:List Int)
variable{ds:List L3.D}
inductive MO where
 |lst (xs:List D)|dct (kvs:List (Key×D))|dcT (kvs:List (List Key×D))|drK (kvs:List (Key×D))|drT (kvs:List (List Key×D))|dfT (o:Obj) (vs:List (List Key×V)) (kvs:List (List Key×D))|dfK (o:Obj) (vs:List (Key×V)) (kvs:List (Key×D))|ins (C:Addr) (fs:List (Str×D))|hand|tab (P:Addr) (pos:Pos) (q:Str)|dcN (sh:List Nat) (z:Option (Obj×List Nkv)) (kvs:List (List NI×D))
variable{m m':L3.MO}
abbrev Mem:=List MO
mutual
inductive Rep(C:Cf)(I:Hp)(α:List Addr):V->D->Prop where
 |non:Rep C I α .non .non
 |bl (b:Bool):Rep C I α (.bl b) (.bl b)
 |int (i:Int):Rep C I α (.int i) (.int i)
 |str (x:Str):Rep C I α (.str x) (.str x)
 |ty (n:String):Rep C I α (.ty n) (.ty n)
 |at(a:Addr):Rep C I α (.ref a) (.at a)
 |tup {a:Addr} {vs:List V} {ds:List D}:I a=some (.tup vs)->Reps C I α vs ds->Rep C I α (.ref a) (.tup ds)
 |lst {a:Addr} {vs:List V} {ds:List D}:I a=some (.lst vs)->Reps C I α vs ds->Rep C I α (.ref a) (.lst ds)
 |frz {a:Addr} {vs:List V} {ds:List D}:SqL C.k I a vs->Reps C I α vs ds->Rep C I α (.ref a) (.frz ds)
 |dct {a:Addr} {vs:List (Key×V)} {ds:List (Key×D)}:I a=some (.dK vs)->RepK C I α vs ds->Rep C I α (.ref a) (.dct ds)
 |dcT {a:Addr} {vs:List (List Key×V)} {ds:List (List Key×D)}:I a=some (.dT vs)->RepT C I α vs ds->Rep C I α (.ref a) (.dcT ds)
 |code {x:Addr} {S:List Pr}:Vz C.c I x S->Rep C I α (.ref x) (.code S)
 |cell {a:Addr} {k:Nat}:α[k]?=some a->Rep C I α (.ref a) (.cell k)
 |exc {ea Ce:Addr} {d:Option Addr} {vs:List (Str×V)} {fs:List (Str×D)}:I ea=some (.ext (excP ea Ce d))->XD I d vs->RepF C I α vs fs->Rep C I α (.ref ea) (.exc Ce fs)
 |nst {a:Addr} {ks:List NI}:NkAt C.k I ks a->Rep C I α (.ref a) (.nst ks)
 |itp {a:Addr} {x:List Int}:SqT C.k I a (x.map V.int)->Rep C I α (.ref a) (.itp x)
inductive Reps(C:Cf)(I:Hp)(α:List Addr):List V->List D->Prop where
 |nil:Reps C I α [] []
 |cons {v:V} {d:D} {vs:List V} {ds:List D}:Rep C I α v d->Reps C I α vs ds->Reps C I α (v::vs) (d::ds)
inductive RepK(C:Cf)(I:Hp)(α:List Addr):List (Key×V)->List (Key×D)->Prop where
 |nil:RepK C I α [] []
 |cons {k:Key} {v:V} {d:D} {vs:List (Key×V)} {ds:List (Key×D)}:Rep C I α v d->RepK C I α vs ds->RepK C I α ((k,v)::vs) ((k,d)::ds)
inductive RepF(C:Cf)(I:Hp)(α:List Addr):List (Str×V)->List (Str×D)->Prop where
 |nil:RepF C I α [] []
 |cons {k:Str} {v:V} {d:D} {vs:List (Str×V)} {ds:List (Str×D)}:Rep C I α v d->RepF C I α vs ds->RepF C I α ((k,v)::vs) ((k,d)::ds)
inductive RepT(C:Cf)(I:Hp)(α:List Addr):List (List Key×V)->List (List Key×D)->Prop where
 |nil:RepT C I α [] []
 |cons {k:List Key} {v:V} {d:D} {vs:List (List Key×V)} {ds:List (List Key×D)}:Rep C I α v d->RepT C I α vs ds->RepT C I α ((k,v)::vs) ((k,d)::ds)
end
section
variable{C:Cf} 
def Zcl{k:Nat}{a:Addr}(p:α<+:α')(h:α[k]?=some a):α'[k]?=some a:=by
 let⟨t,rfl⟩:=p;let⟨hk,_⟩:=Jj.mp h;rw[J0 hk];exact h
mutual
theorem Rep.mono(s:Same I I')(p:α<+:α'):∀{v:V}{d:D},Rep C I α v d->Rep C I' α' v d:=by
 intro _ _ h;cases h with
 |non=>exact .non
 |bl b=>exact .bl b
 |int i=>exact .int i
 |str x=>exact .str x
 |ty n=>exact .ty n
 |«at» a=>exact .at a
 |tup e r=>exact .tup (s _ _ e) (Reps.mono s p r)
 |lst e r=>exact .lst (s _ _ e) (Reps.mono s p r)
 |frz e r=>exact .frz (s.seq e) (Reps.mono s p r)
 |dct e r=>exact .dct (s _ _ e) (RepK.mono s p r)
 |dcT e r=>exact .dcT (s _ _ e) (RepT.mono s p r)
 |code h=>exact .code (h.same s)
 |cell e=>exact .cell (Zcl p e)
 |exc e f r=>exact .exc (s _ _ e) (f.mono s) (RepF.mono s p r)
 |nst e=>exact .nst (e.same s)
 |itp e=>exact .itp (Zkk s e)
theorem Reps.mono(s:Same I I')(p:α<+:α'):∀{vs:List V}{ds:List D},Reps C I α vs ds->Reps C I' α' vs ds:=by
 intro _ _ h;cases h with
 |nil=>exact .nil
 |cons h r=>exact .cons (Rep.mono s p h) (Reps.mono s p r)
theorem RepK.mono(s:Same I I')(p:α<+:α'):∀{vs:List (Key×V)}{ds:List (Key×D)},RepK C I α vs ds->RepK C I' α' vs ds:=by
 intro _ _ h;cases h with
 |nil=>exact .nil
 |cons h r=>exact .cons (Rep.mono s p h) (RepK.mono s p r)
theorem RepF.mono(s:Same I I')(p:α<+:α'):∀{vs:List (Str×V)}{ds:List (Str×D)},RepF C I α vs ds->RepF C I' α' vs ds:=by
 intro _ _ h;cases h with
 |nil=>exact .nil
 |cons h r=>exact .cons (Rep.mono s p h) (RepF.mono s p r)
theorem RepT.mono(s:Same I I')(p:α<+:α'):∀{vs:List (List Key×V)}{ds:List (List Key×D)},RepT C I α vs ds->RepT C I' α' vs ds:=by
 intro _ _ h;cases h with
 |nil=>exact .nil
 |cons h r=>exact .cons (Rep.mono s p h) (RepT.mono s p r)
end
theorem Reps.length:∀{vs:List V}{ds:List D},Reps C I α vs ds->vs.length=ds.length:=by
 intro _ _ hz9;cases hz9 with
 |nil=>
  exact rfl
 |cons _ r=>
  exact by rw[Jv,Jv,Reps.length r]
theorem Reps.get:∀{vs:List V}{ds:List D}{i:Nat}{d:D},Reps C I α vs ds->ds[i]?=some d->∃v,vs[i]?=some v/\Rep C I α v d
 |_,_,_,_,.nil,e=>by simp at e
 |_,_,0,_,.cons r _,e=>by simp at e;subst e;exists ·,r
 |_,_,i+1,d,.cons _ t,e=>by
  let⟨u,h1,h2⟩:=Reps.get (i:=i) (d:=d) t (by simpa using e);exists u,by simpa using h1,h2
theorem Reps.at:∀{vs:List V}{ds:List D}{i:Nat},Reps C I α vs ds->(h1:i<vs.length)->(h2:i<ds.length)->Rep C I α vs[i] ds[i]:=λ{vs ds i}r h1 h2=>by
 let⟨v,e,z⟩:=r.get (Jb h2);rw[Jb h1]at e;cases e;exact z
theorem Reps.app:∀{vs ws:List V}{ds es:List D},Reps C I α vs ds->Reps C I α ws es->Reps C I α (vs++ws) (ds++es):=by
 intro _ _ _ _ hz9 s;cases hz9 with
 |nil=>
  exact s
 |cons r t=>
  exact .cons r (Reps.app t s)
def Reps.one{d:D}(h:Rep C I α v d):Reps C I α [v] [d]:=.cons h .nil
def InvR(C:Cf)(I:Hp)(α:List Addr)(v:V):D->Prop
 |.non=>v=.non
 |.bl b=>v=.bl b
 |.int i=>v=.int i
 |.str x=>v=.str x
 |.ty n=>v=.ty n
 |.at a=>v=.ref a
 |.tup ds=>∃a vs,v=.ref a/\I a=some (.tup vs)/\Reps C I α vs ds
 |.lst ds=>∃a vs,v=.ref a/\I a=some (.lst vs)/\Reps C I α vs ds
 |.frz ds=>∃a vs,v=.ref a/\SqL C.k I a vs/\Reps C I α vs ds
 |.dct ds=>∃a vs,v=.ref a/\I a=some (.dK vs)/\RepK C I α vs ds
 |.dcT ds=>∃a vs,v=.ref a/\I a=some (.dT vs)/\RepT C I α vs ds
 |.code S=>∃x,v=.ref x/\Vz C.c I x S
 |.cell k=>∃a,v=.ref a/\α[k]?=some a
 |.exc Ce fs=>∃ea d vs,v=.ref ea/\I ea=some (.ext (excP ea Ce d))/\XD I d vs/\RepF C I α vs fs
 |.nst ks=>∃a,v=.ref a/\NkAt C.k I ks a
 |.itp x=>∃a,v=.ref a/\SqT C.k I a (x.map V.int)
theorem Rep.inv{d:D}(r:Rep C I α v d):InvR C I α v d:=by
 cases r with
 |non=>rfl
 |bl b=>rfl
 |int i=>rfl
 |str x=>rfl
 |ty n=>rfl
 |«at» a=>rfl
 |tup e r=>exact⟨_,_,rfl,e,r⟩
 |lst e r=>exact⟨_,_,rfl,e,r⟩
 |frz e r=>exact⟨_,_,rfl,e,r⟩
 |dct e r=>exact⟨_,_,rfl,e,r⟩
 |dcT e r=>exact⟨_,_,rfl,e,r⟩
 |code h=>exact⟨_,rfl,h⟩
 |cell e=>exact⟨_,rfl,e⟩
 |exc e f r=>exact⟨_,_,_,rfl,e,f,r⟩
 |nst e=>exact⟨_,rfl,e⟩
 |itp e=>exact⟨_,rfl,e⟩
def Rep.cellI{a:Addr}{k:Nat}(r:Rep C I α (.ref a) (.cell k)):α[k]?=some a:=by
 let⟨_,e,h⟩:=r.inv;cases e;exact h
def Zwa(C:Cf)(I:Hp)(α:List Addr)(vs:List V):List D->Prop
 |[]=>vs=[]
 |d::ds=>∃v us,vs=v::us/\Rep C I α v d/\Reps C I α us ds
theorem Reps.inv(r:Reps C I α vs ds):Zwa C I α vs ds:=by
 cases r with
 |nil=>rfl
 |cons h r=>exact⟨_,_,rfl,h,r⟩
def Reps.nilI(r:Reps C I α [] ds):ds=[]:=by
 cases r;rfl
@[elab_as_elim] theorem Reps.e1 {vs:List V} {d:D} {P:List V->Prop} (r:Reps C I α vs [d]) (h:∀v,Rep C I α v d->P [v]):P vs:=by
 let⟨_,_,rfl,a,r⟩:=r.inv;cases r.inv;exact h _ a
@[elab_as_elim] theorem Reps.e2 {vs:List V} {d e:D} {P:List V->Prop} (r:Reps C I α vs [d,e]) (h:∀v w,Rep C I α v d->Rep C I α w e->P [v,w]):P vs:=by
 let⟨_,_,rfl,a,r⟩:=r.inv;exact Reps.e1 (P:=λl=>P (_::l)) r λ_ b=>h _ _ a b
@[elab_as_elim] theorem Reps.e3 {vs:List V} {d e f:D} {P:List V->Prop} (r:Reps C I α vs [d,e,f]) (h:∀v w x,Rep C I α v d->Rep C I α w e->Rep C I α x f->P [v,w,x]):P vs:=by
 let⟨_,_,rfl,a,r⟩:=r.inv;exact Reps.e2 (P:=λl=>P (_::l)) r λ_ _ b c=>h _ _ _ a b c
theorem Reps.take:∀{vs:List V}{ds:List D}(n:Nat),Reps C I α vs ds->Reps C I α (vs.take n) (ds.take n)
 |_,_,0,_=>.nil
 |_,_,_+1,.nil=>.nil
 |_,_,n+1,.cons r t=>.cons r (Reps.take n t)
theorem Reps.drop:∀{vs:List V}{ds:List D}(n:Nat),Reps C I α vs ds->Reps C I α (vs.drop n) (ds.drop n)
 |_,_,0,r=>r
 |_,_,_+1,.nil=>.nil
 |_,_,n+1,.cons _ t=>Reps.drop n t
theorem Reps.set{d:D}(r:Rep C I α v d):∀{vs:List V}{ds:List D}(i:Nat),Reps C I α vs ds->Reps C I α (vs.set i v) (ds.set i d)
 |_,_,_,.nil=>.nil
 |_,_,0,.cons _ t=>.cons r t
 |_,_,i+1,.cons q t=>.cons q (Reps.set r i t)
def Reps.rev(h:Reps C I α vs ds):Reps C I α vs.reverse ds.reverse:=by
 let go:∀{vs ws:List V}{ds es:List D},Reps C I α vs ds->Reps C I α ws es->Reps C I α (vs.reverse++ws) (ds.reverse++es):=by
  intro vs
  induction vs with
  |nil=>intro ws ds es h1 h2;cases h1;exact h2
  |cons v vs ih =>
   intro ws ds es h1 h2;cases h1 with
   |cons a b =>
    rw[List.reverse_cons,Gg,List.reverse_cons,Gg];exact ih b (.cons a h2)
 let:=go h .nil;rwa [Jp,Jp]at this
theorem Reps.ints:∀(ns:List Int),Reps C I α (ns.map V.int) (ns.map D.int)
 |[]=>.nil
 |n::r=>.cons (.int n) (Reps.ints r)
theorem Reps.of_ints:∀{vs:List V}(ns:List Int),Reps C I α vs (ns.map D.int)->vs=ns.map V.int
 |_,[],h=>h.inv
 |_,n::r,h=>by
  let⟨_,_,rfl,a,b⟩:=h.inv;rw[Reps.of_ints r b,a.inv];rfl
end
variable{M:L3.Mem}
def RepN(C:Cf)(I:Hp)(α:List Addr):List Nkv->List (List NI×D)->Prop:=Paired λp q=>p.1=q.1/\Rep C I α p.2.2 q.2
def Zj1(C:Cf)(I:Hp)(sh:List Nat)(vs:List Nkv):Prop:=∀x∈vs,NkAt C.k I x.1 x.2.1/\x.1.map NI.sh=sh
def RepN.mono{C:Cf}{vs:List Nkv}{ds:List (List NI×D)}(h:RepN C I α vs ds)(s:Same I I')(p:α<+:α'):RepN C I' α' vs ds:=Paired.mapP h λ_ _ z=>⟨z.1,z.2.mono s p⟩
def Zj1.mono{C:Cf}{sh:List Nat}{vs:List Nkv}(h:Zj1 C I sh vs)(s:Same I I'):Zj1 C I' sh vs:=λx hx=>⟨(h x hx).1.same s,(h x hx).2⟩
def MoAt(C:Cf)(I:Hp)(α:List Addr)(H:Hp)(a:Addr):MO->Prop
 |.lst ds=>∃vs,H a=some (.lst vs)/\Reps C I α vs ds
 |.dct ds=>∃vs,H a=some (.dK vs)/\RepK C I α vs ds
 |.dcT ds=>∃vs,H a=some (.dT vs)/\RepT C I α vs ds
 |.drK ds=>∃vs,Rd H a (.dK vs)/\RepK C I α vs ds
 |.drT ds=>∃vs,Rd H a (.dT vs)/\RepT C I α vs ds
 |.dfT o vs ds=>H a=some (.frz o (.dT vs))/\RepT C I α vs ds
 |.dfK o vs ds=>H a=some (.frz o (.dK vs))/\RepK C I α vs ds
 |.ins Cl fs=>∃dx vs,H a=some (.ins Cl dx vs)/\Paired (λ(p:Str×V)(q:Str×D)=>p.1=q.1/\Rep C I α p.2 q.2) vs fs
 |.hand=>∃(d k:Int)(c:Addr)(cs:List Int),H a=some (.lst [.int d,.int k,.ref c])/\I c=some (.lst (cs.map V.int))/\cs≠[]/\cs.length<=63/\0<=d/\0<=k/\∀c∈cs,0<=c
 |.dcN sh none ds=>∃vs,H a=some (.ext (dnP a vs))/\Zj1 C I sh vs/\RepN C I α vs ds
 |.dcN sh (some z) ds=>H a=some (.frz z.1 (.ext (dnP a z.2)))/\Zj1 C I sh z.2/\RepN C I α z.2 ds
 |.tab P pos q=>a=P/\∃ps,H a=some (.tbl ps)/\TriplesOk ps.toList/\(Jfw pos ps.toList=none\/∃c,Jfw pos ps.toList=some (.ref c)/\I c=some (codeφ c q))
theorem MoAt.some{C:Cf}{a:Addr}(h:MoAt C I α H a m):∃o,H a=some o:=by
 cases m with
 |lst ds=>obtain⟨vs,e,_⟩:=h;exists _,e
 |dct ds=>obtain⟨vs,e,_⟩:=h;exists _,e
 |dcT ds=>obtain⟨vs,e,_⟩:=h;exists _,e
 |drK ds=>obtain⟨vs,e,_⟩:=h;rcases e with e|⟨o,e⟩<;>exact⟨_,e⟩
 |drT ds=>obtain⟨vs,e,_⟩:=h;rcases e with e|⟨o,e⟩<;>exact⟨_,e⟩
 |dfT o vs ds=>exact⟨_,h.1⟩
 |dfK o vs ds=>exact⟨_,h.1⟩
 |ins Cl fs=>obtain⟨dx,vs,e,_⟩:=h;exists _,e
 |hand=>obtain⟨d,k,c,cs,e,_⟩:=h;exists _,e
 |tab P pos q=>obtain⟨_,ps,e,_⟩:=h;exists _,e
 |dcN sh z ds=>cases z with|none=>obtain⟨vs,e,_⟩:=h;exact⟨_,e⟩|some z=>exact⟨_,h.1⟩
theorem MoAt.mono{C:Cf}{a:Addr}(h:MoAt C I α H a m)(s:Same I I')(p:α<+:α')(e:H' a=H a):MoAt C I' α' H' a m:=by
 cases m with
 |lst ds=>obtain⟨vs,e1,r⟩:=h;exists vs,e.trans e1,r.mono s p
 |dct ds=>obtain⟨vs,e1,r⟩:=h;exists vs,e.trans e1,r.mono s p
 |dcT ds=>obtain⟨vs,e1,r⟩:=h;exists vs,e.trans e1,r.mono s p
 |drK ds=>obtain⟨vs,e1,r⟩:=h;exists vs,e1.imp (λz=>e.trans z) (λ⟨o,z⟩=>⟨o,e.trans z⟩),r.mono s p
 |drT ds=>obtain⟨vs,e1,r⟩:=h;exists vs,e1.imp (λz=>e.trans z) (λ⟨o,z⟩=>⟨o,e.trans z⟩),r.mono s p
 |dfT o vs ds=>exact⟨e.trans h.1,h.2.mono s p⟩
 |dfK o vs ds=>exact⟨e.trans h.1,h.2.mono s p⟩
 |ins Cl fs=>obtain⟨dx,vs,e1,r⟩:=h;exists dx,vs,e.trans e1,Paired.mapP r λ_ _ z=>⟨z.1,z.2.mono s p⟩
 |hand=>obtain⟨d,k,c,cs,e1,e2,r⟩:=h;exists d,k,c,cs,e.trans e1,s _ _ e2,r
 |tab P pos q =>
  let⟨eP,ps,e1,t,r⟩:=h;exists eP,ps,e.trans e1,t,?_;rcases r with r|⟨c,r1,r2⟩
  .exact .inl r
  .exact .inr ⟨c,r1,s _ _ r2⟩
 |dcN sh z ds=>cases z with
  |none=>obtain⟨vs,e1,k,r⟩:=h;exists vs,e.trans e1,k.mono s,r.mono s p
  |some z=>obtain⟨e1,k,r⟩:=h;exists e.trans e1,k.mono s,r.mono s p
abbrev X3:=Addr->List (Str×D)->Mem->Prop
structure Anc where
 i:Hp
 a:List Addr
 xe:XK
 kx:X3
variable{Z Z':L3.Anc}
structure Rel(C:Cf)(Z:Anc)(I:Hp)(α:List Addr)(H:Hp)(M:Mem):Prop where
 ai:Same Z.i I
 aa:Z.a<+:α
 sub:Same I H
 len:α.length=M.length
 nd:α.Nodup
 cel:∀(k:Nat)(a:Addr)(m:MO),α[k]?=some a->M[k]?=some m->MoAt C I α H a m/\I a=none
section
variable{C:Cf} 
def Rel.get(R:Rel C Z I α H M){k:Nat}(h:M[k]?=some m):∃a,α[k]?=some a/\MoAt C I α H a m/\I a=none:=by
 let⟨hk,_⟩:=Jj.mp h;let hk':k < α.length:=by rw[R.len];exact hk
 exists α[k],Jb hk',R.cel k _ m (Jb hk') h
def Rel.cellNe(R:Rel C Z I α H M){k:Nat}{a p:Addr}(h:α[k]?=some a)(hp:H p=none):a≠p:=by
 let⟨hk,_⟩:=Jj.mp h;let hk':k<M.length:=by rw[<-R.len];exact hk
 let⟨o,e⟩:=(R.cel k a _ h (Jb hk')).1.some;exact Zq e hp
def Rel.new(R:Rel C Z I α H M){p:Addr}(hp:H p=none):Rel C Z (upd I p o) α (upd H p o) M/\Same I (upd I p o)/\(upd I p o) p=some o:=by
 let ip:I p=none:=R.sub.free hp;let s:Same I (upd I p o):=Zl ip;exists⟨R.ai.trans s,R.aa,λb u h=>?_,R.len,R.nd,λk a m h1 h2=>?_⟩,s,Zh
 .by_cases e:b=p
  .subst e;rw[Zh]at h⊢;exact h
  .rw[Zo e]at h⊢;exact R.sub b u h
 .let⟨a1,a2⟩:=R.cel k a m h1 h2;let ne:=R.cellNe h1 hp;exact⟨a1.mono s (Ji _) (Zo ne),by rw[Zo ne];exact a2⟩
theorem Rel.cell(R:Rel C Z I α H M){p:Addr}{o:HO}{m:MO}(hp:H p=none)(hm:∀H',H' p=some o->MoAt C I α H' p m):Rel C Z I (α++[p]) (upd H p o) (M++[m])/\α<+:(α++[p])/\(α++[p])[M.length]?=some p:=by
 let ip:I p=none:=R.sub.free hp;refine⟨⟨R.ai,R.aa.trans (Gc _ _),λb u h=>?_,by rw[Jc,Jc,R.len];rfl,?_,λk a x h1 h2=>?_⟩,Gc _ _,by rw[<-R.len];simp⟩
 .let ne:b≠p:=λe=>by rw[e,ip]at h;cases h
  rw[Zo ne];exact R.sub b u h
 .rw[List.nodup_append];exists R.nd,by simp,λa ha b hb=>?_;let⟨k,hk,rfl⟩:=Gb ha;rw[Jg.mp hb];exact R.cellNe (Jb hk) hp
 .by_cases hk:k < α.length
  .rw[J0 hk]at h1;rw[J0 (by rw[<-R.len];exact hk)]at h2;let⟨a1,a2⟩:=R.cel k a x h1 h2;exists a1.mono (.refl _) (Gc _ _) (Zo (R.cellNe h1 hp)),a2
  .let⟨hk2,_⟩:=Jj.mp h1;rw[Jc,Ba]at hk2;let e:k=α.length:=by lia
   subst e;let e1:(α++[p])[α.length]?=some p:=by simp
   let e2:(M++[m])[α.length]?=some m:=by rw[R.len];simp
   rw[e1]at h1;rw[e2]at h2;cases h1;cases h2;exists(hm _ Zh).mono (.refl _) (Gc _ _) rfl,ip
def Rel.put(R:Rel C Z I α H M){k:Nat}{a:Addr}(ha:α[k]?=some a)(hm:∀H',H' a=some o->MoAt C I α H' a m):Rel C Z I α (upd H a o) (M.set k m):=by
 let⟨hk,ea⟩:=Jj.mp ha;let hkM:k<M.length:=by rw[<-R.len];exact hk
 let ia:I a=none:=(R.cel k a _ ha (Jb hkM)).2;exists R.ai,R.aa,λb u h=>?_,by rw[Gs];exact R.len,R.nd,λj b x h1 h2=>?_
 .let ne:b≠a:=λe=>by rw[e,ia]at h;cases h
  rw[Zo ne];exact R.sub b u h
 .by_cases e:k=j
  .subst e;rw[ha]at h1;cases h1;rw[Ge hkM]at h2;cases h2;exists hm _ Zh,ia
  .rw[Gx e]at h2;let⟨a1,a2⟩:=R.cel j b x h1 h2;let⟨hj,eb⟩:=Jj.mp h1;let ne:b≠a:=λz=>e (by
    rw[<-ea,<-eb]at z;exact((Br R.nd).mp z).symm)
   exists a1.mono (.refl _) (Ji _) (Zo ne),a2
end
abbrev Ev:=List (Option D)
variable{ρ:L3.Ev}
abbrev K3:=D->Mem->Prop
abbrev TE3:=Ev->Mem->K3->Prop
variable{uo ub:L3.TE3}
abbrev TT3:=Ev->Mem->(Bool->Mem->Prop)->Prop
abbrev TA3:=Ev->Mem->(List D->Mem->Prop)->Prop
variable{ua:L3.TA3}
abbrev TO3:=Ev->Mem->(Option Int->Mem->Prop)->Prop
abbrev R3:=D->D->Mem->K3->Prop
structure Ends3 where
 nx:Ev->Mem->Prop
 rt:K3
 bk:Ev->Mem->Prop:=λ_ _=>False
 ct:Ev->Mem->Prop:=λ_ _=>False
abbrev TS3:=Ends3->Ev->Mem->Prop
abbrev TG3:=D->Ev->Mem->(Ev->Mem->Prop)->Prop
abbrev TGs3:=List D->Ev->Mem->(Ev->Mem->Prop)->Prop
def RepE(C:Cf)(I:Hp)(α:List Addr)(σ:St)(ρ:Ev):Prop:=σ.length=ρ.length/\∀(i:Nat)(d:D),ρ[i]?=some (some d)->∃v,σ[i]?=some (some v)/\Rep C I α v d
def RepE.mono{C:Cf}(h:RepE C I α σ ρ)(s:Same I I')(p:α<+:α'):RepE C I' α' σ ρ :=
 ⟨h.1,λi d e=>let⟨v,a,b⟩:=h.2 i d e;⟨v,a,b.mono s p⟩⟩
theorem RepE.set{C:Cf}(h:RepE C I α σ ρ){d:D}(r:Rep C I α v d)(i:Nat):RepE C I α (σ.set i (some v)) (ρ.set i (some d)):=by
 exists by rw[Gs,Gs];exact h.1,λj e q=>?_
 by_cases z:i=j
 .subst z
  by_cases hl:i < ρ.length
  .rw[Ge hl]at q;cases q;exists v,Ge (by rw[h.1];exact hl),r
  .rw[Bj (by rw[Gs];lia)]at q;cases q
 .rw[Gx z]at q⊢;exact h.2 j e q
def Fin(C:Cf)(Z:Anc)(I:Hp)(α:List Addr)(K:K3)(Q:VK):Prop:=∀v d I' α' H' M',Same I I'->α<+:α'->Rel C Z I' α' H' M'->Rep C I' α' v d->K d M'->Q v H'
def Fin.on{C:Cf}{K:K3}{d:D}(k:Fin C Z I α K Q)(s:Same I I')(R:Rel C Z I' α H M)(r:Rep C I' α v d)(h:K d M):Q v H:=k v d I' α H M s (Ji _) R r h
def Fin.now{C:Cf}{K:K3}{d:D}(k:Fin C Z I α K Q)(R:Rel C Z I α H M)(r:Rep C I α v d)(h:K d M):Q v H:=k.on (.refl _) R r h
def Fin.mono{C:Cf}{K:K3}(h:Fin C Z I α K Q)(s:Same I I')(p:α<+:α'):Fin C Z I' α' K Q:=λv d I2 α2 H2 M2 s2 p2=>h v d I2 α2 H2 M2 (s.trans s2) (p.trans p2)
def SimE(C:Cf)(Z:Anc)(t:TE)(u:TE3):Prop:=∀I α σ H ρ M(K:K3)(Q:VK),Rel C Z I α H M->RepE C I α σ ρ->u ρ M K->Fin C Z I α K Q->t σ H Q
def SimT(C:Cf)(Z:Anc)(t:TT)(u:TT3):Prop:=∀I α σ H ρ M(K:Bool->Mem->Prop)(Q:Bool->Hp->Prop),Rel C Z I α H M->RepE C I α σ ρ->u ρ M K ->
 (∀b I' α' H' M',Same I I'->α<+:α'->Rel C Z I' α' H' M'->K b M'->Q b H')->t σ H Q
def SimA(C:Cf)(Z:Anc)(t:TA)(u:TA3):Prop:=∀I α σ H ρ M(K:List D->Mem->Prop)(Q:List V->Hp->Prop),Rel C Z I α H M->RepE C I α σ ρ->u ρ M K ->
 (∀vs ds I' α' H' M',Same I I'->α<+:α'->Rel C Z I' α' H' M'->Reps C I' α' vs ds->K ds M'->Q vs H')->t σ H Q
def SimO(C:Cf)(Z:Anc)(t:TO)(u:TO3):Prop:=∀I α σ H ρ M(K:Option Int->Mem->Prop)(Q:Option Int->Hp->Prop),Rel C Z I α H M->RepE C I α σ ρ->u ρ M K ->
 (∀b I' α' H' M',Same I I'->α<+:α'->Rel C Z I' α' H' M'->K b M'->Q b H')->t σ H Q
def SimR(C:Cf)(Z:Anc)(r:R2)(u:R3):Prop:=∀I α H M x y d e(K:K3)(Q:VK),Rel C Z I α H M->Rep C I α x d->Rep C I α y e->u d e M K->Fin C Z I α K Q->r x y H Q
def SimU(C:Cf)(Z:Anc)(r:V->Hp->VK->Prop)(u:D->Mem->K3->Prop):Prop:=∀I α H M x d(K:K3)(Q:VK),Rel C Z I α H M->Rep C I α x d->u d M K->Fin C Z I α K Q->r x H Q
def SimC(C:Cf)(Z:Anc)(r:List V->Hp->VK->Prop)(u:List D->Mem->K3->Prop):Prop:=∀I α H M xs ds(K:K3)(Q:VK),Rel C Z I α H M->Reps C I α xs ds->u ds M K->Fin C Z I α K Q->r xs H Q
def SimL(C:Cf)(Z:Anc)(r:V->Option Int->Option Int->Hp->VK->Prop)(u:D->Option Int->Option Int->Mem->K3->Prop):Prop:=∀I α H M x d lo hi(K:K3)(Q:VK),Rel C Z I α H M->Rep C I α x d->u d lo hi M K->Fin C Z I α K Q->r x lo hi H Q
def FinS(C:Cf)(Z:Anc)(I:Hp)(α:List Addr)(K:Ev->Mem->Prop)(Q:St->Hp->Prop):Prop:=∀I' α' σ' H' ρ' M',Same I I'->α<+:α'->Rel C Z I' α' H' M'->RepE C I' α' σ' ρ'->K ρ' M'->Q σ' H'
def FinS.mono{C:Cf}{K:Ev->Mem->Prop}{Q:St->Hp->Prop}(h:FinS C Z I α K Q)(s:Same I I')(p:α<+:α'):FinS C Z I' α' K Q:=λI2 α2 σ2 H2 ρ2 M2 s2 p2=>h I2 α2 σ2 H2 ρ2 M2 (s.trans s2) (p.trans p2)
structure FinD(C:Cf)(Z:Anc)(I:Hp)(α:List Addr)(E:Ends3)(D':Ends):Prop where
 nx:FinS C Z I α E.nx D'.nx
 rt:Fin C Z I α E.rt D'.rt
 bk:FinS C Z I α E.bk D'.bk
 ct:FinS C Z I α E.ct D'.ct
def FinD.mono{C:Cf}{E:Ends3}{D':Ends}(h:FinD C Z I α E D')(s:Same I I')(p:α<+:α'):FinD C Z I' α' E D':=⟨h.nx.mono s p,h.rt.mono s p,h.bk.mono s p,h.ct.mono s p⟩
def SimS(C:Cf)(Z:Anc)(t:TS)(u:TS3):Prop:=∀I α σ H ρ M(E:Ends3)(D':Ends),Rel C Z I α H M->RepE C I α σ ρ->u E ρ M->FinD C Z I α E D'->t D' σ H
def SimG(C:Cf)(Z:Anc)(t:TG)(u:TG3):Prop:=∀I α σ H ρ M v d(K:Ev->Mem->Prop)(Q:St->Hp->Prop),Rel C Z I α H M->RepE C I α σ ρ->Rep C I α v d->u d ρ M K->FinS C Z I α K Q->t v σ H Q
def Zjz(C:Cf)(Z:Anc)(t:TGs)(u:TGs3):Prop:=∀I α σ H ρ M vs ds(K:Ev->Mem->Prop)(Q:St->Hp->Prop),Rel C Z I α H M->RepE C I α σ ρ->Reps C I α vs ds->u ds ρ M K->FinS C Z I α K Q->t vs σ H Q
section
variable{C:Cf}{ua:TE3}{tA tB':TT}{uA uB:TT3}{t:TA}{u:TA3}
inductive uVar(i:Nat)(ρ:Ev)(M:Mem)(K:K3):Prop
 |mk:∀d,ρ[i]?=some (some d)->K d M->uVar i ρ M K
def Z6(i:Nat):SimE C Z (tVar i) (uVar i):=λI α σ H ρ M K Q R E h k=>by
 let⟨d,e,h⟩:=h;let⟨v,e2,r⟩:=E.2 i d e;exists v,e2,k v d I α H M (.refl _) (Ji _) R r h
abbrev uC(d:D):TE3:=λ_ M K=>K d M
def Di{d:D}(r:∀I α,Rep C I α v d):SimE C Z (tC v) (uC d):=λI α σ H ρ M K Q R E h k=>k v d I α H M (.refl _) (Ji _) R (r I α) h
def Zg9{i:Int}:SimE C Z (tC (.int i)) (uC (.int i)):=Di λ_ _=>.int i
def s_bl{i:Bool}:SimE C Z (tC (.bl i)) (uC (.bl i)):=Di λ_ _=>.bl i
def Zkr:SimE C Z (tC .non) (uC .non):=Di λ_ _=>.non
def Zr2{i:Str}:SimE C Z (tC (.str i)) (uC (.str i)):=Di λ_ _=>.str i
def s_ty{i:String}:SimE C Z (tC (.ty i)) (uC (.ty i)):=Di λ_ _=>.ty i
abbrev Zgb(u:R3)(K:K3)(d:D):D->Mem->Prop:=λe M2=>u d e M2 K
abbrev Zgc(u:R3)(ub:TE3)(ρ:Ev)(K:K3):D->Mem->Prop:=λd M1=>ub ρ M1 (Zgb u K d)
def uOp(u:R3)(ua ub:TE3):TE3:=λρ M K=>ua ρ M (Zgc u ub ρ K)
def s_op{u:R3}(hr:SimR C Z r u)(ha:SimE C Z ta ua)(hb:SimE C Z tb ub):SimE C Z (tOp r ta tb) (uOp u ua ub):=λI α σ H ρ M K Q R E h k =>
 ha I α σ H ρ M _ _ R E h λv d I1 α1 H1 M1 s1 p1 R1 r1 h1 =>
  hb I1 α1 σ H1 ρ M1 _ _ R1 (E.mono s1 p1) h1 λw e I2 α2 H2 M2 s2 p2 R2 r2 h2 =>
   hr I2 α2 H2 M2 v w d e K Q R2 (r1.mono s2 p2) r2 h2 (k.mono (s1.trans s2) (p1.trans p2))
abbrev Zf9(u:D->Mem->K3->Prop)(K:K3):D->Mem->Prop:=λd M1=>u d M1 K
def uUn(u:D->Mem->K3->Prop)(ua:TE3):TE3:=λρ M K=>ua ρ M (Zf9 u K)
def s_un{r:V->Hp->VK->Prop}{u:D->Mem->K3->Prop}(hr:SimU C Z r u)(ha:SimE C Z ta ua):SimE C Z (tUn r ta) (uUn u ua):=λI α σ H ρ M K Q R E h k =>
 ha I α σ H ρ M _ _ R E h λv d I1 α1 H1 M1 s1 p1 R1 r1 h1=>hr I1 α1 H1 M1 v d K Q R1 r1 h1 (k.mono s1 p1)
def D.isN:D->Bool|.non=>true|_=>false
def Zis{d:D}(h:Rep C I α v d):decide (v=.non)=d.isN:=by cases h<;>simp[D.isN]
abbrev Zq7(K:K3):D->Mem->Prop:=λd M1=>K (.bl d.isN) M1
def uIsN(ua:TE3):TE3:=λρ M K=>ua ρ M (Zq7 K)
abbrev Znn(K:K3):D->Mem->Prop:=λd M1=>K (.bl (!d.isN)) M1
def Zun(ua:TE3):TE3:=λρ M K=>ua ρ M (Znn K)
def Zvi(ha:SimE C Z ta ua):SimE C Z (tIsN ta) (uIsN ua):=λI α σ H ρ M K Q R E h k =>
 ha I α σ H ρ M _ _ R E h λv d I1 α1 H1 M1 s1 p1 R1 r1 h1=>by
  rw[Zis r1];exact k _ _ I1 α1 H1 M1 s1 p1 R1 (.bl _) h1
def Zr4(ha:SimE C Z ta ua):SimE C Z (Zrq ta) (Zun ua):=λI α σ H ρ M K Q R E h k =>
 ha I α σ H ρ M _ _ R E h λv d I1 α1 H1 M1 s1 p1 R1 r1 h1=>by
  rw[Zis r1];exact k _ _ I1 α1 H1 M1 s1 p1 R1 (.bl _) h1
inductive uB3_1(K:Bool->Mem->Prop)(d:D)(M1:Mem):Prop
 |mk:∀c,d=.bl c->K c M1->uB3_1 K d M1
def uB3(ua:TE3):TT3:=λρ M K=>ua ρ M (uB3_1 K)
def s_b(ha:SimE C Z ta ua):SimT C Z (tB ta) (uB3 ua):=λI α σ H ρ M K Q R E h k =>
 ha I α σ H ρ M _ _ R E h λv d I1 α1 H1 M1 s1 p1 R1 r1 h1=>by
  let⟨c,e,h1⟩:=h1;subst e;cases r1.inv;exists c,rfl,k c I1 α1 H1 M1 s1 p1 R1 h1
def Zau(ha:SimE C Z ta ua):SimT C Z (Zrn ta) (uB3 ua):=s_b ha
abbrev Zrf(uB:TT3)(ρ:Ev)(K:Bool->Mem->Prop):Bool->Mem->Prop:=λc M1=>if c=true then uB ρ M1 K else K false M1
def uAnd(uA uB:TT3):TT3:=λρ M K=>uA ρ M (Zrf uB ρ K)
abbrev Zum(uB:TT3)(ρ:Ev)(K:Bool->Mem->Prop):Bool->Mem->Prop:=λc M1=>if c=true then K true M1 else uB ρ M1 K
def uOr(uA uB:TT3):TT3:=λρ M K=>uA ρ M (Zum uB ρ K)
abbrev Zqy(K:Bool->Mem->Prop):Bool->Mem->Prop:=λc M1=>K (!c) M1
def uNot(uA:TT3):TT3:=λρ M K=>uA ρ M (Zqy K)
def Zsh(ha:SimT C Z tA uA)(hb:SimT C Z tB' uB):SimT C Z (tAnd tA tB') (uAnd uA uB):=λI α σ H ρ M K Q R E h k =>
 ha I α σ H ρ M _ _ R E h λc I1 α1 H1 M1 s1 p1 R1 h1=>by
  cases c with
  |true =>
   exact hb I1 α1 σ H1 ρ M1 _ _ R1 (E.mono s1 p1) h1 λb I2 α2 H2 M2 s2 p2 R2 h2=>k b I2 α2 H2 M2 (s1.trans s2) (p1.trans p2) R2 h2
  |false =>
   exact k false I1 α1 H1 M1 s1 p1 R1 h1
def s_or(ha:SimT C Z tA uA)(hb:SimT C Z tB' uB):SimT C Z (tOr tA tB') (uOr uA uB):=λI α σ H ρ M K Q R E h k =>
 ha I α σ H ρ M _ _ R E h λc I1 α1 H1 M1 s1 p1 R1 h1=>by
  cases c with
  |false =>
   exact hb I1 α1 σ H1 ρ M1 _ _ R1 (E.mono s1 p1) h1 λb I2 α2 H2 M2 s2 p2 R2 h2=>k b I2 α2 H2 M2 (s1.trans s2) (p1.trans p2) R2 h2
  |true =>
   exact k true I1 α1 H1 M1 s1 p1 R1 h1
def Zoc(ha:SimT C Z tA uA):SimT C Z (tNot tA) (uNot uA):=λI α σ H ρ M K Q R E h k =>
 ha I α σ H ρ M _ _ R E h λc I1 α1 H1 M1 s1 p1 R1 h1=>k _ I1 α1 H1 M1 s1 p1 R1 h1
inductive uAndV_1(ub:TE3)(ρ:Ev)(K:K3)(d:D)(M1:Mem):Prop
 |mk:∀c,d=.bl c->(if c=true then ub ρ M1 K else K (.bl false) M1)->uAndV_1 ub ρ K d M1
def Zu5(ua ub:TE3):TE3:=λρ M K=>ua ρ M (uAndV_1 ub ρ K)
def Zsg(ha:SimE C Z ta ua)(hb:SimE C Z tb ub):SimE C Z (Zrx ta tb) (Zu5 ua ub):=λI α σ H ρ M K Q R E h k =>
 ha I α σ H ρ M _ _ R E h λv d I1 α1 H1 M1 s1 p1 R1 r1 h1=>by
  let⟨c,e,h1⟩:=h1;subst e;cases r1.inv;exists c,rfl,?_;cases c with
  |true =>
   exact hb I1 α1 σ H1 ρ M1 _ _ R1 (E.mono s1 p1) h1 (k.mono s1 p1)
  |false =>
   exact k _ _ I1 α1 H1 M1 s1 p1 R1 (.bl _) h1
abbrev Zus(ua:TE3)(ub:TE3)(ρ:Ev)(K:K3):Bool->Mem->Prop:=λc M1=>if c=true then ua ρ M1 K else ub ρ M1 K
def uIf(uA:TT3)(ua ub:TE3):TE3:=λρ M K=>uA ρ M (Zus ua ub ρ K)
def s_if(hc:SimT C Z tA uA)(ha:SimE C Z ta ua)(hb:SimE C Z tb ub):SimE C Z (tIf tA ta tb) (uIf uA ua ub):=λI α σ H ρ M K Q R E h k =>
 hc I α σ H ρ M _ _ R E h λc I1 α1 H1 M1 s1 p1 R1 h1=>by
  cases c with
  |true =>
   exact ha I1 α1 σ H1 ρ M1 _ _ R1 (E.mono s1 p1) h1 (k.mono s1 p1)
  |false =>
   exact hb I1 α1 σ H1 ρ M1 _ _ R1 (E.mono s1 p1) h1 (k.mono s1 p1)
abbrev uNil:TA3:=λ_ M K=>K [] M
abbrev Rz(K:List D->Mem->Prop)(d:D):List D->Mem->Prop:=λds M2=>K (d::ds) M2
abbrev Sk(u:TA3)(ρ:Ev)(K:List D->Mem->Prop):D->Mem->Prop:=λd M1=>u ρ M1 (Rz K d)
def Zu1(ua:TE3)(u:TA3):TA3:=λρ M K=>ua ρ M (Sk u ρ K)
def Va:SimA C Z tNil uNil:=λI α σ H ρ M K Q R E h k=>k [] [] I α H M (.refl _) (Ji _) R .nil h
def Xt(ha:SimE C Z ta ua)(hr:SimA C Z t u):SimA C Z (Zao ta t) (Zu1 ua u):=λI α σ H ρ M K Q R E h k =>
 ha I α σ H ρ M _ _ R E h λv d I1 α1 H1 M1 s1 p1 R1 r1 h1 =>
  hr I1 α1 σ H1 ρ M1 _ _ R1 (E.mono s1 p1) h1 λvs ds I2 α2 H2 M2 s2 p2 R2 r2 h2 =>
   k (v::vs) (d::ds) I2 α2 H2 M2 (s1.trans s2) (p1.trans p2) R2 (.cons (r1.mono s2 p2) r2) h2
abbrev Zqu(K:K3):List D->Mem->Prop:=λds M1=>ds.length<=Cb/\K (.tup ds) M1
def uTup(u:TA3):TE3:=λρ M K=>u ρ M (Zqu K)
def Zu8(ha:SimA C Z t u):SimE C Z (tTup t) (uTup u):=λI α σ H ρ M K Q R E h k =>
 ha I α σ H ρ M _ _ R E h λvs ds I1 α1 H1 M1 s1 p1 R1 r1 h1=>by
  exists by rw[r1.length];exact h1.1,λp hp=>?_;let⟨R2,s2,e2⟩:=R1.new (o:=.tup vs) hp;exact k _ _ _ α1 _ M1 (s1.trans s2) p1 R2 (.tup e2 (r1.mono s2 (Ji _))) h1.2
abbrev Zq6(K:K3):List D->Mem->Prop:=λds M1=>ds.length<=Cb/\K (.lst ds) M1
def uLst(u:TA3):TE3:=λρ M K=>u ρ M (Zq6 K)
def Zvh(ha:SimA C Z t u):SimE C Z (tLst t) (uLst u):=λI α σ H ρ M K Q R E h k =>
 ha I α σ H ρ M _ _ R E h λvs ds I1 α1 H1 M1 s1 p1 R1 r1 h1=>by
  exists by rw[r1.length];exact h1.1,λp hp=>?_;let⟨R2,s2,e2⟩:=R1.new (o:=.lst vs) hp;exact k _ _ _ α1 _ M1 (s1.trans s2) p1 R2 (.lst e2 (r1.mono s2 (Ji _))) h1.2
abbrev Znr(K:K3):List D->Mem->Prop:=λds M1=>ds.length<=Cb/\K (.cell M1.length) (M1++[.lst ds])
def Zuq(u:TA3):TE3:=λρ M K=>u ρ M (Znr K)
def Pj(ha:SimA C Z t u):SimE C Z (tLst t) (Zuq u):=λI α σ H ρ M K Q R E h k =>
 ha I α σ H ρ M _ _ R E h λvs ds I1 α1 H1 M1 s1 p1 R1 r1 h1=>by
  exists by rw[r1.length];exact h1.1,λp hp=>?_;let⟨R2,p2,e2⟩:=R1.cell (o:=.lst vs) (m:=.lst ds) hp λH' e=>⟨vs,e,r1⟩;exact k _ _ I1 _ _ _ s1 (p1.trans p2) R2 (.cell e2) h1.2
abbrev Zew(r:List D->Mem->K3->Prop)(K:K3):List D->Mem->Prop:=λds M1=>r ds M1 K
def uCB(r:List D->Mem->K3->Prop)(u:TA3):TE3:=λρ M K=>u ρ M (Zew r K)
def s_cb{r:List V->Hp->VK->Prop}{r3:List D->Mem->K3->Prop}(hr:SimC C Z r r3)(ha:SimA C Z t u):SimE C Z (tCB r t) (uCB r3 u):=λI α σ H ρ M K Q R E h k =>
 ha I α σ H ρ M _ _ R E h λvs ds I1 α1 H1 M1 s1 p1 R1 r1 h1=>hr I1 α1 H1 M1 vs ds K Q R1 r1 h1 (k.mono s1 p1)
abbrev Sj:TO3:=λ_ M K=>K none M
inductive uPart_1(K:Option Int->Mem->Prop)(d:D)(M1:Mem):Prop
 |mk:∀i,d=.int i->K (some i) M1->uPart_1 K d M1
def Zqx(ua:TE3):TO3:=λρ M K=>ua ρ M (uPart_1 K)
def Zks:SimO C Z Zgl Sj:=λI α σ H ρ M K Q R E h k=>k none I α H M (.refl _) (Ji _) R h
def Zr3(ha:SimE C Z ta ua):SimO C Z (Zrp ta) (Zqx ua):=λI α σ H ρ M K Q R E h k =>
 ha I α σ H ρ M _ _ R E h λv d I1 α1 H1 M1 s1 p1 R1 r1 h1=>by
  let⟨i,e,h1⟩:=h1;subst e;cases r1.inv;exists i,rfl,k (some i) I1 α1 H1 M1 s1 p1 R1 h1
abbrev U9(r:D->Option Int->Option Int->Mem->K3->Prop)(K:K3)(d:D)(l:Option Int):Option Int->Mem->Prop:=λg M3=>r d l g M3 K
abbrev Ta(r:D->Option Int->Option Int->Mem->K3->Prop)(uh:TO3)(ρ:Ev)(K:K3)(d:D):Option Int->Mem->Prop:=λl M2=>uh ρ M2 (U9 r K d l)
abbrev Zga(r:D->Option Int->Option Int->Mem->K3->Prop)(ul:TO3)(uh:TO3)(ρ:Ev)(K:K3):D->Mem->Prop:=λd M1=>ul ρ M1 (Ta r uh ρ K d)
def uSl(r:D->Option Int->Option Int->Mem->K3->Prop)(ua:TE3)(ul uh:TO3):TE3:=λρ M K=>ua ρ M (Zga r ul uh ρ K)
def s_sl{r:V->Option Int->Option Int->Hp->VK->Prop}{r3:D->Option Int->Option Int->Mem->K3->Prop}{tl th:TO}{ul uh:TO3}(hr:SimL C Z r r3)(ha:SimE C Z ta ua)(hl:SimO C Z tl ul)(hh:SimO C Z th uh):SimE C Z (tSl r ta tl th) (uSl r3 ua ul uh):=λI α σ H ρ M K Q R E h k =>
 ha I α σ H ρ M _ _ R E h λv d I1 α1 H1 M1 s1 p1 R1 r1 h1 =>
  hl I1 α1 σ H1 ρ M1 _ _ R1 (E.mono s1 p1) h1 λlo I2 α2 H2 M2 s2 p2 R2 h2 =>
   hh I2 α2 σ H2 ρ M2 _ _ R2 (E.mono (s1.trans s2) (p1.trans p2)) h2 λhi I3 α3 H3 M3 s3 p3 R3 h3 =>
    hr I3 α3 H3 M3 v d lo hi K Q R3 (r1.mono (s2.trans s3) (p2.trans p3)) h3 (k.mono (s1.trans (s2.trans s3)) (p1.trans (p2.trans p3)))
abbrev Zu4(r:D->List D->Mem->K3->Prop)(K:K3)(d:D):List D->Mem->Prop:=λds M2=>r d ds M2 K
end
def Xg(M:Mem):D->Option (List D)
 |.lst ds=>some ds
 |.frz ds=>some ds
 |.cell k=>match M[k]? with|some (.lst ds)=>some ds|_=>none
 |_=>none
def lsOf(M:Mem):D->Option (List D)
 |.lst ds=>some ds
 |.cell k=>match M[k]? with|some (.lst ds)=>some ds|_=>none
 |_=>none
def Zrj:D->Option (List D)
 |.tup ds=>some ds
 |_=>none
def Q9(M:Mem):D->Option (List D)
 |.tup ds=>some ds
 |d=>Xg M d
section
variable{C:Cf}{d:D} 
def N8(R:Rel C Z I α H M){k:Nat}{a:Addr}(e:α[k]?=some a)(h:M[k]?=some (.lst ds)):∃vs,H a=some (.lst vs)/\Reps C I α vs ds:=(R.cel k a _ e h).1
def nos{b:τ}{P:Prop}(h:none=some b):P:=nomatch h
theorem Zp7{k:Nat}(h:lsOf M (.cell k)=some ds):M[k]?=some (.lst ds):=by
 revert h
 show(match M[k]? with|some (.lst ds)=>some ds|_=>none)=some ds->_;cases M[k]? with
 |none=>exact nos
 |some m=>cases m<;>first|exact nos|exact λh=>by cases h;rfl
def Pb(R:Rel C Z I α H M)(r:Rep C I α v d)(h:lsOf M d=some ds):∃a vs,v=.ref a/\H a=some (.lst vs)/\Reps C I α vs ds:=by
 cases d<;>first|exact nos h|skip
 .let⟨a,vs,e,f,r⟩:=r.inv;cases h;exists a,vs,e,R.sub _ _ f,r
 .let⟨a,e,f⟩:=r.inv;let⟨vs,e1,r⟩:=N8 R f (Zp7 h);exists a,vs,e,e1,r
def W1(R:Rel C Z I α H M)(r:Rep C I α v d)(h:Xg M d=some ds):∃a vs,v=.ref a/\SqL C.k H a vs/\Reps C I α vs ds:=by
 let go:lsOf M d=some ds->∃a vs,v=.ref a/\SqL C.k H a vs/\Reps C I α vs ds:=λh=>by
  let⟨a,vs,e,f,r⟩:=Pb R r h;exists a,vs,e,SqL.of f,r
 cases d<;>first|exact nos h|exact go h|skip;let⟨a,vs,e,f,r⟩:=r.inv;cases h;exact⟨a,vs,e,R.sub.seq f,r⟩
def Ty(R:Rel C Z I α H M)(r:Rep C I α v d)(h:Zrj d=some ds):∃a vs,v=.ref a/\H a=some (.tup vs)/\I a=some (.tup vs)/\Reps C I α vs ds:=by
 cases d<;>first|exact nos h|skip;let⟨a,vs,e,f,r⟩:=r.inv;cases h;exact⟨a,vs,e,R.sub _ _ f,f,r⟩
def Zdu(R:Rel C Z I α H M)(r:Rep C I α v d)(h:Q9 M d=some ds):∃a vs,v=.ref a/\(SqL C.k H a vs\/SqT C.k H a vs)/\Reps C I α vs ds:=by
 let go:Xg M d=some ds->∃a vs,v=.ref a/\(SqL C.k H a vs\/SqT C.k H a vs)/\Reps C I α vs ds:=λh=>by
  let⟨a,vs,e,f,r⟩:=W1 R r h;exists a,vs,e,.inl f,r
 cases d<;>first|exact go h|skip;let⟨a,vs,e,f,_,r⟩:=Ty R r h;exact⟨a,vs,e,.inr (SqT.of f),r⟩
end
def cut(xs:List τ)(lo hi:Option Int):List τ:=(xs.drop (HT.sIx xs.length 0 lo)).take (HT.sIx xs.length xs.length hi-HT.sIx xs.length 0 lo)
theorem Reps.cut{C:Cf}(r:Reps C I α vs ds)(lo hi:Option Int):Reps C I α (cutV vs lo hi) (cut ds lo hi):=by
 unfold cutV L3.cut;rw[r.length];exact(r.drop _).take _
def X6{υ:Type}(f:τ->υ)(xs:List τ)(lo hi:Option Int):cut (xs.map f) lo hi=(cut xs lo hi).map f:=by
 unfold cut;rw[Ja,By,Fj]
theorem Reps.atI{C:Cf}{i:Int}{d:D}(r:Reps C I α vs ds)(h:atI ds i=some d):∃v,L2.atI vs i=some v/\Rep C I α v d:=by
 unfold L2.atI at h⊢;rw[r.length];cases e:ixN ds.length i with
 |none=>rw[e]at h;cases h
 |some j =>
  rw[e]at h;exact r.get (i:=j) h
section
variable{C:Cf} 
def OpR.or{f:Ca->Ca->Sem Ca}{r':R2}(h:OpR X f r)(h':OpR X f r'):OpR X f (λx y H Q=>r x y H Q\/r' x y H Q):=by
 intro pq s σ H x y v u Q I rx ry q;rcases q with q|q
 .exact h pq s σ H x y v u Q I rx ry q
 .exact h' pq s σ H x y v u Q I rx ry q
def SlR.or{r r':V->Option Int->Option Int->Hp->VK->Prop}(h:SlR X r)(h':SlR X r'):SlR X (λx l u H Q=>r x l u H Q\/r' x l u H Q):=by
 intro pq s σ H x v vl vu lo hi sl Q I rx hs pl pu q;rcases q with q|q
 .exact h pq s σ H x v vl vu lo hi sl Q I rx hs pl pu q
 .exact h' pq s σ H x v vl vu lo hi sl Q I rx hs pl pu q
def Zos:R2:=λx y H Q=>∃i j,x=.str i/\y=.str j/\i.length+j.length<=Cb/\Q (.str (i++j)) H
def Zkx(K:Cr):R2:=λx y H Q=>rI0 (λi j=>.int (i+j)) x y H Q\/Zos x y H Q\/rCat x y H Q\/Zkw K x y H Q
def Y7(h:X.K=K'):OpR X (Hd .Add) (Zkx K'):=by
 subst h;exact OpR.or Wv (OpR.or Ze8 (OpR.or Zeb Zcn))
def add3:R3:=λd e M K=>match d,e with
 |.int i,.int j=>K (.int (i+j)) M
 |.str a,.str b=>a.length+b.length<=Cb/\K (.str (a++b)) M
 |.tup xs,.tup ys=>(xs≠[]/\xs.length+ys.length<=Cb)/\K (.tup (xs++ys)) M
 |d,e=>∃xs ys,lsOf M d=some xs/\lsOf M e=some ys/\xs.length+ys.length<=Cb/\K (.lst (xs++ys)) M
def Zqh{x y:V}{d e:D}{K:K3}(R:Rel C Z I α H M)(r1:Rep C I α x d)(r2:Rep C I α y e)(h:∃xs ys,lsOf M d=some xs/\lsOf M e=some ys/\xs.length+ys.length<=Cb/\K (.lst (xs++ys)) M)(k:Fin C Z I α K Q):Zkx C.k x y H Q:=by
 let⟨xs,ys,e1,e2,hl,h⟩:=h;let⟨a,vs,rfl,ea,ra⟩:=Pb R r1 e1;let⟨b,ws,rfl,eb,rb⟩:=Pb R r2 e2;refine .inr (.inr (.inl ⟨a,b,vs,ws,rfl,rfl,ea,eb,by rw[ra.length,rb.length];exact hl,λp hp=>?_⟩));let⟨R2,s2,e2⟩:=R.new (o:=.lst (vs++ws)) hp;exact k.on s2 R2 (.lst e2 ((ra.app rb).mono s2 (Ji _))) h
theorem Zop:SimR C Z (Zkx C.k) add3:=λI α H M x y d e K Q R r1 r2 h k=>by
 let go:=λh=>Zqh R r1 r2 h k;cases d with
 |int i =>
  cases e with
  |int j=>cases r1.inv;cases r2.inv;exact .inl ⟨i,j,rfl,rfl,k.now R (.int _) h⟩
  |_=>exact go h
 |str a =>
  cases e with
  |str b=>cases r1.inv;cases r2.inv;exact .inr (.inl ⟨a,b,rfl,rfl,h.1,k.now R (.str _) h.2⟩)
  |_=>exact go h
 |tup xs =>
  cases e with
  |tup ys =>
   let⟨⟨h1,h2⟩,h⟩:=h;let⟨a,vs,rfl,ea,ia,ra⟩:=Ty R r1 rfl;let⟨b,ws,rfl,eb,ib,rb⟩:=Ty R r2 rfl;refine .inr (.inr (.inr ⟨a,b,vs,ws,rfl,rfl,SqT.of ea,SqT.of eb,λz=>?_,by rw[ra.length,rb.length];exact h2,λz=>?_,λ_ p hp=>?_⟩))
   .subst z;exact h1 ra.nilI
   .subst z;cases rb.nilI;rw[Jp]at h;exact k.now R r1 h
   .let⟨R2,s2,e2⟩:=R.new (o:=.tup (vs++ws)) hp;exact k.on s2 R2 (.tup e2 ((ra.app rb).mono s2 (Ji _))) h
  |_=>exact go h
 |_=>exact go h
inductive int3(c:Int->Int->Prop)(g:Int->Int->D)(d:D)(e:D)(M:Mem)(K:K3):Prop
 |mk:∀i j,d=.int i->e=.int j->c i j->K (g i j) M->int3 c g d e M K
inductive int30(g:Int->Int->D)(d:D)(e:D)(M:Mem)(K:K3):Prop
 |mk:∀i j,d=.int i->e=.int j->K (g i j) M->int30 g d e M K
def Jai{c:Int->Int->Prop}{g:Int->Int->V}{g3:Int->Int->D}(hg:∀I α i j,Rep C I α (g i j) (g3 i j)):SimR C Z (rI c g) (int3 c g3):=λI α H M x y d e K Q R r1 r2 h k=>by
 let⟨i,j,rfl,rfl,hc,h⟩:=h;cases r1.inv;cases r2.inv;exists i,j,rfl,rfl,hc,k.now R (hg _ _ _ _) h
def Zkq{g:Int->Int->V}{g3:Int->Int->D}(hg:∀I α i j,Rep C I α (g i j) (g3 i j)):SimR C Z (rI0 g) (int30 g3):=λI α H M x y d e K Q R r1 r2 h k=>by
 let⟨i,j,rfl,rfl,h⟩:=h;cases r1.inv;cases r2.inv;exists i,j,rfl,rfl,k.now R (hg _ _ _ _) h
def Zu9:SimR C Z (rI0 λi j=>.int (i-j)) (int30 λi j=>.int (i-j)):=Zkq λ_ _ _ _=>.int _
def Zve:SimR C Z (rI (λ_ j=>0<j) λi j=>.int (i % j)) (int3 (λ_ j=>0<j) λi j=>.int (i % j)):=Jai λ_ _ _ _=>.int _
def Zvc:SimR C Z (rI CPow λi j=>.int (i ^ j.toNat)) (int3 CPow λi j=>.int (i ^ j.toNat)):=Jai λ_ _ _ _=>.int _
def s_lt:SimR C Z (rI0 λi j=>.bl (decide (i<j))) (int30 λi j=>.bl (decide (i<j))):=Zkq λ_ _ _ _=>.bl _
def s_gt:SimR C Z (rI0 λi j=>.bl (decide (j<i))) (int30 λi j=>.bl (decide (j<i))):=Zkq λ_ _ _ _=>.bl _
def s_ge:SimR C Z (rI0 λi j=>.bl (decide (j<=i))) (int30 λi j=>.bl (decide (j<=i))):=Zkq λ_ _ _ _=>.bl _
inductive neg3(d:D)(M:Mem)(K:K3):Prop
 |mk:∀i,d=.int i->K (.int (-i)) M->neg3 d M K
def Zvd:SimU C Z (rU λi=>.int (-i)) neg3:=λI α H M x d K Q R r h k=>by
 let⟨i,rfl,h⟩:=h;cases r.inv;exists i,rfl,k.now R (.int _) h
def Zot:R2:=λx y H Q=>rI CMul (λi j=>.int (i*j)) x y H Q\/rRep x y H Q
def Zam:OpR X (Hd .Mult) Zot:=OpR.or Tf Zsz
def mul3:R3:=λd e M K=>match d,e with
 |.int i,.int j=>CMul i j/\K (.int (i*j)) M
 |d,e=>∃xs k,lsOf M d=some xs/\e=.int k/\(-(2 ^ 63)<=k/\k<2 ^ 63/\xs.length*k.toNat<=Cb)/\K (.lst (Co k.toNat xs).flatten) M
theorem Reps.rep(r:Reps C I α vs ds):∀n,Reps C I α (Co n vs).flatten (Co n ds).flatten
 |0=>.nil
 |n+1=>by
  rw[G3,G3,Bn,Bn];exact r.app (Reps.rep r n)
theorem Zr5:SimR C Z Zot mul3:=λI α H M x y d e K Q R r1 r2 h k=>by
 let go:(∃xs k,lsOf M d=some xs/\e=.int k/\(-(2 ^ 63)<=k/\k<2 ^ 63/\xs.length*k.toNat<=Cb)/\K (.lst (Co k.toNat xs).flatten) M)->Zot x y H Q:=λh=>by
  let⟨xs,j,e1,rfl,⟨h1,h2,h3⟩,h⟩:=h;cases r2.inv;let⟨a,vs,rfl,ea,ra⟩:=Pb R r1 e1;refine .inr ⟨a,j,vs,rfl,rfl,ea,h1,h2,by rw[ra.length];exact h3,λp hp=>?_⟩;let⟨R2,s2,e2⟩:=R.new (o:=.lst (Co j.toNat vs).flatten) hp;exact k.on s2 R2 (.lst e2 ((ra.rep _).mono s2 (Ji _))) h
 cases d with
 |int i =>
  cases e with
  |int j=>cases r1.inv;cases r2.inv;exact .inl ⟨i,j,rfl,rfl,h.1,k.now R (.int _) h.2⟩
  |_=>exact go h
 |_=>exact go h
def Y6(h:X.K=K'):IxR X (rIx K'):=by subst h;exact Ztg
def ix3:R3:=λd e M K=>match d with
 |.str z=>∃i c,e=.int i/\z.length<=Cb/\L2.atI z.cps.toList i=some c/\K (.str ⟨#[c]⟩) M
 |d=>∃xs i v,Q9 M d=some xs/\e=.int i/\L2.atI xs i=some v/\K v M
def s_ix:SimR C Z (rIx C.k) ix3:=λI α H M x y d e K Q R r1 r2 h k=>by
 let go:(∃xs i v,Q9 M d=some xs/\e=.int i/\L2.atI xs i=some v/\K v M)->rIx C.k x y H Q:=λh=>by
  let⟨xs,i,w,e1,rfl,e3,hk⟩:=h;let⟨a,vs,e,ea,ra⟩:=Zdu R r1 e1;let⟨v,e4,rv⟩:=ra.atI e3;let q:=k.now R rv hk;exact ea.elim (λea=>.inl ⟨a,vs,i,v,e,r2.inv,ea,e4,q⟩) λea=>.inr (.inl ⟨a,vs,i,v,e,r2.inv,ea,e4,q⟩)
 cases d<;>first|exact go h|skip;let⟨i,c,rfl,h1,h2,h⟩:=h;exact .inr (.inr ⟨_,i,c,r1.inv,r2.inv,h1,h2,k.now R (.str _) h⟩)
def rSlU(K:Cr):V->Option Int->Option Int->Hp->VK->Prop:=λx l u H Q=>rSlL K x l u H Q\/rSlW K x l u H Q\/rSlS x l u H Q
def Wz(h:X.K=K'):SlR X (rSlU K'):=by subst h;exact SlR.or R7 (SlR.or Zca Zr0)
def sl3:D->Option Int->Option Int->Mem->K3->Prop:=λd lo hi M K=>match d with
 |.str z=>z.length<=Cb/\K (.str (Txt.slice z lo hi)) M
 |.tup xs=>K (.tup (cut xs lo hi)) M
 |d=>∃xs,Xg M d=some xs/\K (.lst (cut xs lo hi)) M
theorem Reps.inj_cut(r:Reps C I α vs ds)(h:cutV vs lo hi=vs):L3.cut ds lo hi=ds:=by
 let hl:(cutV vs lo hi).length=vs.length:=by rw[h]
 unfold cutV at hl;rw[J8,Gn]at hl;unfold L3.cut;rw[r.length]at hl;generalize HT.sIx ds.length 0 lo=a at *
 generalize HT.sIx ds.length ds.length hi=b at *
 by_cases hd:ds.length=0
 .rw[Bd.mp hd];simp
 .let:a=0:=by lia
  subst this;rw[B7,Be];lia
theorem Zva:SimL C Z (rSlU C.k) sl3:=λI α H M x d lo hi K Q R r1 h k=>by
 let go:(∃xs,Xg M d=some xs/\K (.lst (cut xs lo hi)) M)->rSlU C.k x lo hi H Q:=λh=>by
  let⟨xs,e1,h⟩:=h;let⟨a,vs,rfl,ea,ra⟩:=W1 R r1 e1;refine .inl ⟨a,vs,rfl,ea,λp hp=>?_⟩;let⟨R2,s2,e2⟩:=R.new (o:=.lst (cutV vs lo hi)) hp;exact k.on s2 R2 (.lst e2 ((ra.cut lo hi).mono s2 (Ji _))) h
 cases d with
 |str z=>cases r1.inv;exact .inr (.inr ⟨z,rfl,h.1,k.now R (.str _) h.2⟩)
 |tup xs =>
  let⟨a,vs,rfl,ea,ia,ra⟩:=Ty R r1 rfl;refine .inr (.inl ⟨a,vs,rfl,SqT.of ea,λz=>?_,λp hp=>?_⟩)
  .let h2:K (.tup (cut xs lo hi)) M:=h;rw[ra.inj_cut z]at h2;exact k.now R r1 h2
  .let⟨R2,s2,e2⟩:=R.new (o:=.tup (cutV vs lo hi)) hp;exact k.on s2 R2 (.tup e2 ((ra.cut lo hi).mono s2 (Ji _))) h
 |_=>exact go h
end
mutual
inductive PyR(M:Mem):D->PyData->Prop where
 |non:PyR M .non .none
 |bl (b:Bool):PyR M (.bl b) (.bool b)
 |int (i:Int):PyR M (.int i) (.int i)
 |str (x:Str):PyR M (.str x) (.str x)
 |seq {d:D} {ds:List D} {ps:List PyData}:Xg M d=some ds->PyRs M ds ps->PyR M d (.list ps)
 |tup {ds:List D} {ps:List PyData}:PyRs M ds ps->PyR M (.tup ds) (.tuple ps)
inductive PyRs(M:Mem):List D->List PyData->Prop where
 |nil:PyRs M [] []
 |cons {d:D} {p:PyData} {ds:List D} {ps:List PyData}:PyR M d p->PyRs M ds ps->PyRs M (d::ds) (p::ps)
end
section
variable{C:Cf} 
mutual
theorem Zaw(R:Rel C Z I α H M):∀{v:V}{d:D}{p:PyData},PyR M d p->Rep C I α v d->DV C.k H v p:=by
 intro _ _ _ hz9 r;cases hz9 with
 |non=>
  exact by cases r.inv;exact .non
 |bl b=>
  exact by cases r.inv;exact .bl b
 |int b=>
  exact by cases r.inv;exact .int b
 |str b=>
  exact by cases r.inv;exact .str b
 |seq e q=>
  exact by
    let⟨a,vs,rfl,ea,ra⟩:=W1 R r e;exact .lst ea (pys_dv R q ra)
 |tup q=>
  exact by
    let⟨a,vs,rfl,ea,_,ra⟩:=Ty R r rfl;exact .tup (SqT.of ea) (pys_dv R q ra)
theorem pys_dv(R:Rel C Z I α H M):∀{vs:List V}{ds:List D}{ps:List PyData},PyRs M ds ps->Reps C I α vs ds->DVs C.k H vs ps:=by
 intro _ _ _ hz9 r;cases hz9 with
 |nil=>
  exact by cases r.inv;exact .nil
 |cons a b=>
  exact by
    cases r with
    |cons r1 r2=>exact .cons (Zaw R a r1) (pys_dv R b r2)
end
end
def eqS:D->D->Option Bool
 |.non,.non=>some true|.non,.int _=>some false|.int _,.non=>some false|.non,.bl _=>some false|.bl _,.non=>some false|.non,.str _=>some false|.str _,.non=>some false
 |.int i,.int j=>some (decide (i=j))|.bl i,.bl j=>some (decide (i=j))|.str i,.str j=>some (decide (i=j))
 |.int _,.str _=>some false|.str _,.int _=>some false|.bl _,.str _=>some false|.str _,.bl _=>some false
 |_,_=>none
def eqV(d e:D)(M:Mem)(K:Bool->Prop):Prop:=(∃b,eqS d e=some b/\K b)\/∃p q,PyR M d p/\PyR M e q/\Er p=true/\Er q=true/\K (C1 p q)
def eq3:R3:=λd e M K=>eqV d e M λb=>K (.bl b) M
def ne3:R3:=λd e M K=>eqV d e M λb=>K (.bl (!b)) M
section
variable{C:Cf} 
def rEqU(K:Cr):R2:=λx y H Q=>rEq x y H Q\/rEqD K x y H Q
def rNeU(K:Cr):R2:=λx y H Q=>rNe x y H Q\/rNeD K x y H Q
def Wn(h:X.K=K')(hu:X.A.units+64<E9):OpR X (Eo .Eq) (rEqU K'):=by subst h;exact OpR.or Zk9 (Zh3 hu)
def Zb8(h:X.K=K')(hu:X.A.units+64<E9):OpR X (Eo .NotEq) (rNeU K'):=by subst h;exact OpR.or Zvw (Zs0 hu)
def scl:D->Option V
 |.non=>some .non|.bl b=>some (.bl b)|.int i=>some (.int i)|.str x=>some (.str x)
 |_=>none
def Zg3{x:V}{d:D}(r:Rep C I α v d)(h:scl d=some x):v=x:=by
 cases d<;>first|exact nos h|exact(show v=_ from r.inv).trans (Fz h)
def SclE(d e:D)(b:Bool):Prop:=∃x y,scl d=some x/\scl e=some y/\scal x y=true/\decide (x=y)=b
def Ztn{d e:D}{x y:V}{b:Bool}(h1:scl d=some x)(h2:scl e=some y)(h3:scal x y=true)(hn:x≠y)(h:some false=some b):SclE d e b:=⟨x,y,h1,h2,h3,by rw[Fy hn];exact Fz h⟩
def Zp1{d e:D}{b:Bool}(h:eqS d e=some b):SclE d e b:=by
 cases d<;>first|exact nos h|(cases e<;>first|exact nos h|exact Ztn rfl rfl rfl nofun h|exact⟨_,_,rfl,rfl,rfl,Eq.trans (by simp) (Fz h)⟩)
def Zi5{x y:V}{d e:D}{b:Bool}(r1:Rep C I α x d)(r2:Rep C I α y e)(h:eqS d e=some b):scal x y=true/\decide (x=y)=b:=by
 let⟨u,v,e1,e2,h⟩:=Zp1 h;rw[Zg3 r1 e1,Zg3 r2 e2];exact h
def s_eq:SimR C Z (rEqU C.k) eq3:=λI α H M x y d e K Q R r1 r2 h k=>by
 rcases h with⟨b,eb,h⟩|⟨p,q,h1,h2,h3,h4,h⟩
 .let⟨z1,z2⟩:=Zi5 r1 r2 eb;exact .inl ⟨z1,by rw[z2];exact k.now R (.bl _) h⟩
 .exact .inr ⟨p,q,Zaw R h1 r1,Zaw R h2 r2,h3,h4,k.now R (.bl _) h⟩
def s_ne:SimR C Z (rNeU C.k) ne3:=λI α H M x y d e K Q R r1 r2 h k=>by
 rcases h with⟨b,eb,h⟩|⟨p,q,h1,h2,h3,h4,h⟩
 .let⟨z1,z2⟩:=Zi5 r1 r2 eb;exact .inl ⟨z1,by rw[z2];exact k.now R (.bl _) h⟩
 .exact .inr ⟨p,q,Zaw R h1 r1,Zaw R h2 r2,h3,h4,k.now R (.bl _) h⟩
end
structure Enc(τ:Type)[DecidableEq τ] where
 e:τ->D
 py:τ->PyData
 n:Nat
 ok:∀M a,PyR M (e a) (py a)
 shp:∀a,Shp n (py a)
 eq:∀a b,C1 (py a) (py b)=decide (a=b)
 hn:n<=60
theorem Zc4[DecidableEq τ]{f:τ->PyData}(h:∀a b,C1 (f a) (f b)=decide (a=b)):∀(a b:List τ),E1 (a.map f) (b.map f)=decide (a=b)
 |[],[]=>by simp[E1]
 |[],_::_=>by simp[E1]
 |_::_,[]=>by simp[E1]
 |a::r,b::t=>by
  rw[Jo,Jo,E1,h,Zc4 h r t];simp
theorem Sn{e:τ->D}{py:τ->PyData}(h:∀a,PyR M (e a) (py a)):∀as:List τ,PyRs M (as.map e) (as.map py)
 |[]=>.nil
 |a::r=>.cons (h a) (Sn h r)
def Z9:Enc Int:=⟨.int,.int,0,λ_=>.int,Ng,λa b=>by rw[C1,Jdb],nofun⟩
def W2[DecidableEq τ](E:Enc τ)(h:E.n<=50:=by decide):Enc (List τ) where
 e as:=.lst (as.map E.e)
 py as:=.list (as.map E.py)
 n:=E.n+1
 ok:=λM as=>.seq rfl (Sn (E.ok M) as)
 shp:=λas=>Zds λd hd=>by
  let⟨a,_,rfl⟩:=Jh.mp hd;exact E.shp a
 eq:=λa b=>by rw[C1,Zc4 E.eq]
 hn:=by lia
def Y5[DecidableEq τ](E:Enc τ)(h:E.n<=50:=by decide):Enc (List τ) where
 e as:=.tup (as.map E.e)
 py as:=.tuple (as.map E.py)
 n:=E.n+1
 ok:=λM as=>.tup (Sn (E.ok M) as)
 shp:=λas=>R8 λd hd=>by
  let⟨a,_,rfl⟩:=Jh.mp hd;exact E.shp a
 eq:=λa b=>by rw[C1,Zc4 E.eq]
 hn:=by lia
def Zmk{n m:Nat}{d:PyData}(h:Shp n d)(l:n<=m):Shp m d:=⟨h.1,Jy h.2 l⟩
theorem Ww[DecidableEq τ](E:Enc τ){a b:τ}{K:Bool->Prop}(h:K (decide (a=b))):eqV (E.e a) (E.e b) M K :=
 .inr ⟨_,_,E.ok M a,E.ok M b,(E.shp a).shaped (by have:=E.hn;lia),(E.shp b).shaped (by have:=E.hn;lia),by rw[E.eq];exact h⟩
theorem Sz[DecidableEq τ](E:Enc τ){d d':D}{a b:List τ}{K:Bool->Prop}(h1:Xg M d=some (a.map E.e))(h2:Xg M d'=some (b.map E.e))(h:K (decide (a=b)))(hn:E.n<=50:=by decide):eqV d d' M K :=
 .inr ⟨_,_,.seq h1 (Sn (E.ok M) a),.seq h2 (Sn (E.ok M) b),((W2 E hn).shp a).shaped (by have:=(W2 E hn).hn;lia),((W2 E hn).shp b).shaped (by have:=(W2 E hn).hn;lia),by
  let:=(W2 E hn).eq a b;rw[show C1 (Jia (a.map E.py)) (Jia (b.map E.py))=decide (a=b)from this];exact h⟩
inductive Ty3 where
 |non|bool|int|str|list|tuple|dict
 deriving DecidableEq
def tyN:Ty3->String
 |.non=>"NoneType" |.bool=>"bool" |.int=>"int" |.str=>"str" |.list=>"list" |.tuple=>"tuple" |.dict=>"dict"
def tyOf(M:Mem):D->Option Ty3
 |.non=>some .non|.bl _=>some .bool|.int _=>some .int|.str _=>some .str|.lst _=>some .list|.tup _=>some .tuple|.dct _=>some .dict|.dcT _=>some .dict
 |.cell k=>match M[k]? with|some (.lst _)=>some .list|some (.dct _)=>some .dict|some (.dcT _)=>some .dict|_=>none
 |_=>none
def isS:Ty3->Ty3->Bool
 |.bool,.int=>true
 |a,b=>decide (a=b)
section
variable{C:Cf} 
theorem Zpm(s t:Ty3)(ht:t≠.non):Jg6 C.k (.type (tyN s)) (.type (tyN t))=some (isS s t):=by
 cases t with
 |non=>exact Fl rfl ht
 |_=>cases s<;>rfl
theorem Zrh{d:D}{s:Ty3}(R:Rel C Z I α H M)(r:Rep C I α v d)(h:tyOf M d=some s):TyOf C.k H v (.type (tyN s)):=by
 let i:=r.inv;cases d<;>first|exact nos h|skip
 all_goals first|(cases h;let⟨_,_,rfl,e,_⟩:=i;let e:=R.sub _ _ e;first|exact .lst e|exact .tup e|exact .dK e|exact .dT e)|(cases h;cases i;first|exact .non|exact .bl _|exact .int _|exact .str _)|skip
 rename_i k
 let⟨a,rfl,e⟩:=i;let go:∀m,M[k]?=some m->MoAt C I α H a m:=λm hm=>(R.cel k a _ e hm).1
 revert h go
 show(match M[k]? with|some (.lst _)=>some Ty3.list|some (.dct _)=>some .dict|some (.dcT _)=>some .dict|_=>none)=some s->_;cases M[k]? with
 |none=>exact nos
 |some m =>
  intro h go;let g:=go m rfl;cases m<;>first|exact nos h|(cases h;let⟨vs,e,_⟩:=g;first|exact .lst e|exact .dK e|exact .dT e)
inductive isi3(T:Ty3)(ds:List D)(M:Mem)(K:K3):Prop
 |mk:∀d s,ds=[d,.ty (tyN T)]->tyOf M d=some s->K (.bl (isS s T)) M->isi3 T ds M K
def Zsb{T:Ty3}(hT:T≠.non:=by decide):SimC C Z (rIsi C.k) (isi3 T):=λI α H M xs ds K Q R r h k=>by
 let⟨d,s,rfl,e,h⟩:=h;refine Reps.e2 r λ_ _ r1 r2=>?_;cases r2.inv;exists _,_,_,·,Zrh R r1 e,Zpm s T hT,k.now R (.bl _) h
def len3:List D->Mem->K3->Prop:=λds M K=>match ds with
 |[.str z]=>z.length<=Cb/\K (.int z.length) M
 |[d]=>∃xs,Q9 M d=some xs/\K (.int xs.length) M
 |_=>False
theorem Zoh:SimC C Z (rLen C.k) len3:=λI α H M xs ds K Q R r h k=>by
 let go:∀d v,Rep C I α v d->(∃xs,Q9 M d=some xs/\K (.int xs.length) M)->rLen C.k [v] H Q:=λd v r h=>by
  let⟨ys,e1,h⟩:=h;let⟨a,vs,e,ea,ra⟩:=Zdu R r e1;rw[<-ra.length]at h;exists _,·,e ▸ ea.elim (λz=>.inl ⟨_,z,rfl⟩) λz=>.inr ⟨_,z,rfl⟩,k.now R (.int _) h
 match ds,h with
 |[],h=>exact h.elim
 |[d],h =>
  refine Reps.e1 r λv r1=>?_;cases d<;>first|exact go _ _ r1 h|skip;exact⟨_,_,rfl,r1.inv ▸ ⟨h.1,rfl⟩,k.now R (.int _) h.2⟩
 |d::_::_,h=>cases d<;>exact h.elim
inductive list3(ds:List D)(M:Mem)(K:K3):Prop
 |mk:∀d xs,ds=[d]->Q9 M d=some xs->K (.lst xs) M->list3 ds M K
inductive list3C(ds:List D)(M:Mem)(K:K3):Prop
 |mk:∀d xs,ds=[d]->Q9 M d=some xs->K (.cell M.length) (M++[.lst xs])->list3C ds M K
def Zmn:SimC C Z (Zcf C.k) list3:=λI α H M xs ds K Q R r h k=>by
 let⟨d,ys,rfl,e,h⟩:=h;refine Reps.e1 r λ_ r1=>?_;let⟨a,vs,rfl,ea,ra⟩:=Zdu R r1 e;exists a,vs,rfl,ea,λp hp=>?_;let⟨R2,s2,e2⟩:=R.new (o:=.lst vs) hp;exact k.on s2 R2 (.lst e2 (ra.mono s2 (Ji _))) h
def Zog:SimC C Z (Zcf C.k) list3C:=λI α H M xs ds K Q R r h k=>by
 let⟨d,ys,rfl,e,h⟩:=h;refine Reps.e1 r λ_ r1=>?_;let⟨a,vs,rfl,ea,ra⟩:=Zdu R r1 e;exists a,vs,rfl,ea,λp hp=>?_;let⟨R2,p2,e2⟩:=R.cell (o:=.lst vs) (m:=.lst ys) hp λH' e=>⟨vs,e,ra⟩;exact k _ _ I _ _ _ (.refl _) p2 R2 (.cell e2) h
inductive tuple3(ds:List D)(M:Mem)(K:K3):Prop
 |mk:∀d xs,ds=[d]->Q9 M d=some xs->K (.tup xs) M->tuple3 ds M K
def Zob:SimC C Z (Zhi C.k) tuple3:=λI α H M xs ds K Q R r h k=>by
 let⟨d,ys,rfl,e,h⟩:=h;refine Reps.e1 r λ_ r1=>?_
 by_cases ht:∃zs,d=.tup zs
 .let⟨zs,rfl⟩:=ht;cases e;let⟨a,vs,rfl,ea,_,ra⟩:=Ty R r1 rfl;exists a,vs,rfl,.inr ⟨SqT.of ea,k.now R r1 h⟩
 .let e1':Xg M d=some ys:=by
   cases d with
   |tup ys=>exact Fl ⟨ys,rfl⟩ ht
   |_=>exact e
  let⟨a,vs,rfl,ea,ra⟩:=W1 R r1 e1';exists a,vs,rfl,.inl ⟨ea,λp hp=>?_⟩;let⟨R2,s2,e2⟩:=R.new (o:=.tup vs) hp;exact k.on s2 R2 (.tup e2 (ra.mono s2 (Ji _))) h
inductive one3(f:Int->D)(ds:List D)(M:Mem)(K:K3):Prop
 |mk:∀i,ds=[.int i]->K (f i) M->one3 f ds M K
inductive two3(f:Int->Int->D)(ds:List D)(M:Mem)(K:K3):Prop
 |mk:∀i j,ds=[.int i,.int j]->K (f i j) M->two3 f ds M K
def Zvn:SimC C Z (λxs H Q=>∃i,xs=[.int i]/\Q (.int (if i<0 then -i else i)) H) (one3 λi=>.int (if i<0 then -i else i)):=λI α H M xs ds K Q R r h k=>by
 let⟨i,rfl,h⟩:=h;refine Reps.e1 r λ_ r1=>?_;cases r1.inv;exists i,rfl,k.now R (.int _) h
def Zr8:SimC C Z (λxs H Q=>∃i j,xs=[.int i,.int j]/\Q (.int (if j > i then j else i)) H) (two3 λi j=>.int (if j > i then j else i)):=λI α H M xs ds K Q R r h k=>by
 let⟨i,j,rfl,h⟩:=h;refine Reps.e2 r λ_ _ r1 r2=>?_;cases r1.inv;cases r2.inv;exists i,j,rfl,k.now R (.int _) h
def toI:D->Option Int
 |.int i=>some i
 |.bl b=>some (if b then 1 else 0)
 |_=>none
inductive intOf3(ds:List D)(M:Mem)(K:K3):Prop
 |mk:∀d i,ds=[d]->toI d=some i->K (.int i) M->intOf3 ds M K
def Zoj:SimC C Z (λxs H Q=>(∃i,xs=[.int i]/\Q (.int i) H)\/∃k,xs=[.bl k]/\Q (.int (if k then 1 else 0)) H) intOf3:=λI α H M xs ds K Q R r h k=>by
 let⟨d,i,rfl,e,h⟩:=h;refine Reps.e1 r λ_ r1=>?_;cases d<;>first|exact nos e|skip
 .cases e;exact .inr ⟨_,by rw[r1.inv],k.now R (.int _) h⟩
 .cases e;exact .inl ⟨_,by rw[r1.inv],k.now R (.int _) h⟩
theorem Reps.of_bls :∀{vs:List V}(bs:List Bool),Reps C I α vs (bs.map D.bl)->vs=bs.map V.bl
 |_,[],h=>h.inv
 |_,n::r,h=>by
  let⟨_,_,rfl,a,b⟩:=h.inv;rw[Reps.of_bls r b,a.inv];rfl
inductive any3(ds:List D)(M:Mem)(K:K3):Prop
 |mk:∀(d:D)(bs:List Bool),ds=[d]->Xg M d=some (bs.map D.bl)->K (.bl (bs.any id)) M->any3 ds M K
def Zoo:SimC C Z (λxs H Q=>∃(p:Addr)(bs:List Bool),xs=[.ref p]/\SqL C.k H p (bs.map V.bl)/\Q (.bl (bs.any id)) H) any3:=λI α H M xs ds K Q R r h k=>by
 let⟨d,bs,rfl,e,h⟩:=h;refine Reps.e1 r λ_ r1=>?_;let⟨a,vs,rfl,ea,ra⟩:=W1 R r1 e;rw[ra.of_bls bs]at ea;exists a,bs,rfl,ea,k.now R (.bl _) h
def Rel.putL(R:Rel C Z I α H M){k:Nat}{a:Addr}(ha:α[k]?=some a)(r:Reps C I α vs ds):Rel C Z I α (upd H a (.lst vs)) (M.set k (.lst ds)) :=
 R.put (m:=.lst ds) ha λH' e=>⟨vs,e,r⟩
def Zgf{a:Addr}(e:H a=some (.lst vs)):tyV C.k "list" (.ref a) H:=.inl ⟨rfl,vs,SqL.of e⟩
inductive app3(d:D)(ds:List D)(M:Mem)(K:K3):Prop
 |mk:∀k xs y,d=.cell k->ds=[y]->M[k]?=some (.lst xs)->xs.length<Cb->K .non (M.set k (.lst (xs++[y])))->app3 d ds M K
variable{t:TA}{u:TA3}
abbrev Zre(r:D->List D->Mem->K3->Prop)(u:TA3)(ρ:Ev)(K:K3):D->Mem->Prop:=λd M1=>lsOf M1 d≠none/\u ρ M1 (Zu4 r K d)
def uBML(r:D->List D->Mem->K3->Prop)(uo:TE3)(u:TA3):TE3:=λρ M K=>uo ρ M (Zre r u ρ K)
def Nj(ho:SimE C Z to uo)(ha:SimA C Z t u):SimE C Z (tBM C.k "list" Zch to t) (uBML app3 uo u):=λI α σ H ρ M K Q R E h k =>
 ho I α σ H ρ M _ _ R E h λv d I1 α1 H1 M1 s1 p1 R1 r1 h1=>by
  let⟨hn,h1⟩:=h1;cases hl:lsOf M1 d with
  |none=>exact Fl hl hn
  |some zs =>
   let⟨a,vs,rfl,ea,ra⟩:=Pb R1 r1 hl;exists Zgf ea,ha I1 α1 σ H1 ρ M1 _ _ R1 (E.mono s1 p1) h1 λws ds I2 α2 H2 M2 s2 p2 R2 r2 h2=>?_;let⟨j,xs,y,rfl,rfl,e1,hz,h2⟩:=h2;refine Reps.e1 r2 λ_ ry=>?_;let ec:=(r1.mono s2 p2).cellI;let⟨us,eu,ru⟩:=N8 R2 ec e1;exists a,us,·,rfl,eu,by rw[ru.length];exact hz,?_;exact k _ _ I2 α2 _ _ (s1.trans s2) (p1.trans p2) (R2.putL ec (ru.app (.one ry))) .non h2
end
def Yn(n:Nat)(d:D):Prop:=∀C I α v,Rep C I α v d->Rep C I (α.take n) v d
def Xw(n:Nat)(m:MO):Prop:=∀C I α H a,MoAt C I α H a m->MoAt C I (α.take n) H a m
inductive BelowE(n:Nat):Ev->Ev->Prop where
 |nil:BelowE n [] []
 |skip {o:Option D} {r r':Ev}:BelowE n r r'->BelowE n (o::r) (none::r')
 |keep {d:D} {r r':Ev}:Yn n d->BelowE n r r'->BelowE n (some d::r) (some d::r')
inductive BelS(n:Nat):Ev->Ev->Ev->Prop where
 |nil:BelS n [] [] []
 |skip {o0 o:Option D} {r0 r r':Ev}:BelS n r0 r r'->BelS n (o0::r0) (o::r) (none::r')
 |same {d:D} {r0 r r':Ev}:BelS n r0 r r'->BelS n (some d::r0) (some d::r) (some d::r')
 |keep {o0:Option D} {d:D} {r0 r r':Ev}:Yn n d->BelS n r0 r r'->BelS n (o0::r0) (some d::r) (some d::r')
def Dr(ρ0:Ev)(M0:Mem)(P:Ev->Mem->Prop)(ρ:Ev)(M:Mem):Prop:=P ρ M\/(∃ρ',(∃X,M=M0++X)/\BelS M0.length ρ0 ρ ρ'/\P ρ' M0)\/∃n ρ',M0.length<=n/\BelowE n ρ ρ'/\(∀m∈M.take n,Xw n m)/\P ρ' (M.take n)
def Dk(n0:Nat)(K:K3):K3:=λd M=>K d M\/∃n,n0<=n/\Yn n d/\(∀m∈M.take n,Xw n m)/\K d (M.take n)
section
variable{C:Cf} 
theorem BelowE.rep{n:Nat}{ρ':Ev}(b:BelowE n ρ ρ'):∀{σ:St},RepE C I α σ ρ->RepE C I (α.take n) σ ρ':=by
 induction b with
 |nil=>exact λh=>⟨h.1,λi d e=>by simp at e⟩
 | @skip o r r' b ih =>
  intro σ h;cases σ with
  |nil=>cases h.1
  |cons s σ =>
   let h':RepE C I α σ r:=⟨by simpa using h.1,λi d e=>by
    let⟨v,a,b⟩:=h.2 (i+1) d (by simpa using e);exact⟨v,by simpa using a,b⟩⟩
   let⟨l,g⟩:=ih h';exists by rw[Jv,Jv,l],λi d e=>?_;cases i with
   |zero=>simp at e
   |succ i =>
    let⟨v,a,b⟩:=g i d (by simpa using e);exists v,by simpa using a,b
 | @keep d0 r r' hb b ih =>
  intro σ h;cases σ with
  |nil=>cases h.1
  |cons s σ =>
   let h':RepE C I α σ r:=⟨by simpa using h.1,λi d e=>by
    let⟨v,a,b⟩:=h.2 (i+1) d (by simpa using e);exact⟨v,by simpa using a,b⟩⟩
   let⟨l,g⟩:=ih h';exists by rw[Jv,Jv,l],λi d e=>?_;cases i with
   |zero =>
    let⟨v,a,b⟩:=h.2 0 d e;simp at e;subst e;exists v,a,hb _ _ _ _ b
   |succ i =>
    let⟨v,a,b⟩:=g i d (by simpa using e);exists v,by simpa using a,b
def Rs{α0:List Addr}(p:α0<+:α){n:Nat}(h:α0.length<=n):α0<+:α.take n:=by
 let⟨t,rfl⟩:=p;rw[List.take_append,Be h];exact Gc _ _
def Rel.take(R:Rel C Z I α H M)(n:Nat)(hz:Z.a.length<=n)(hb:∀m∈M.take n,Xw n m):Rel C Z I (α.take n) H (M.take n):=by
 refine⟨R.ai,Rs R.aa hz,R.sub,by rw[J8,J8,R.len],R.nd.sublist (List.take_sublist _ _),λk a m h1 h2=>?_⟩;let h1':α[k]?=some a:=by
  rw[Mg]at h1
  split at h1
  .exact h1
  .cases h1
 let h2':M[k]?=some m:=by
  rw[Mg]at h2
  split at h2
  .exact h2
  .cases h2
 let⟨a1,a2⟩:=R.cel k a m h1' h2';exists hb m (Gq h2) _ _ _ _ _ a1,a2
theorem Fin.dk{K:K3}(k:Fin C Z I α K Q){n0:Nat}(hn:α.length=n0)(ha:Z.a<+:α):Fin C Z I α (Dk n0 K) Q:=λv d I' α' H' M' s p R r h=>by
 rcases h with h|⟨n,hl,hb,hm,h⟩
 .exact k v d I' α' H' M' s p R r h
 .exact k v d I' (α'.take n) H' (M'.take n) s (Rs p ()) (R.take n (by have:=ha.length_le;lia) hm) (hb _ _ _ _ r) h
end
def Zbz{n:Nat}{i:Int}:Yn n (.int i):=λ_ _ _ _ r=>by cases r.inv;exact .int _
def Zl5{n:Nat}{i:Bool}:Yn n (.bl i):=λ_ _ _ _ r=>by cases r.inv;exact .bl _
def Zbw{n:Nat}{i:Str}:Yn n (.str i):=λ_ _ _ _ r=>by cases r.inv;exact .str _
def Zbx{n:Nat}:Yn n .non:=λ_ _ _ _ r=>by cases r.inv;exact .non
def Zft{n:Nat} :Yn n (.code S):=λ_ _ _ _ r=>by cases r with|code h=>exact .code h
def P3{n k:Nat}(h:k<n):Yn n (.cell k):=λ_ _ α _ r=>by
 let⟨_,rfl,e⟩:=r.inv;exact .cell (by rw[Mg,Fw h];exact e)
theorem Si{n:Nat}(h:∀d∈ds,Yn n d){C:Cf} :∀{vs:List V},Reps C I α vs ds->Reps C I (α.take n) vs ds:=by
 induction ds with
 |nil=>intro vs r;cases r.inv;exact .nil
 |cons d ds ih =>
  intro vs r;cases r with
  |cons a b=>exact .cons (h d Jl _ _ _ _ a) (ih (λx hx=>h x (Jk _ hx)) b)
def Zby{n:Nat}(h:∀d∈ds,Yn n d):Yn n (.lst ds):=λ_ _ _ _ r=>by cases r with|lst e r=>exact .lst e (Si h r)
def Zju{n:Nat}(h:∀d∈ds,Yn n d):Yn n (.frz ds):=λ_ _ _ _ r=>by cases r with|frz e r=>exact .frz e (Si h r)
def Zjp{n:Nat}(h:∀d∈ds,Yn n d):Yn n (.tup ds):=λ_ _ _ _ r=>by cases r with|tup e r=>exact .tup e (Si h r)
def Zjq{n:Nat}{ks:List NI}:Yn n (.nst ks):=λ_ _ _ _ r=>by cases r with|nst e=>exact .nst e
def Zjt{n:Nat}{x:List Int}:Yn n (.itp x):=λ_ _ _ _ r=>by cases r with|itp e=>exact .itp e
def Zjs{n:Nat}{f:τ->D}(h:∀a,Yn n (f a))(as:List τ):∀d∈as.map f,Yn n d:=λd hd=>by
 let⟨a,_,rfl⟩:=Jh.mp hd;exact h a
def Zjr{n:Nat}:∀d∈([]:List D),Yn n d:=λ_ h=>nomatch h
def Zfs{n:Nat}{d:D}(h:Yn n d)(r:∀d∈ds,Yn n d):∀x∈d::ds,Yn n x:=λx hx=>by
 rcases Jt.mp hx with z|z
 .rw[z];exact h
 .exact r x z
def Zqa{n:Nat}:Xw n .hand:=λ_ _ _ _ _ h=>h
def Ztz{n:Nat}{P:Addr}{p:Pos} :Xw n (.tab P p q):=λ_ _ _ _ _ h=>h
def Zne{n:Nat}(h:∀d∈ds,Yn n d):Xw n (.lst ds):=λ_ _ _ _ _ x=>by
 let⟨vs,e,r⟩:=x;exists vs,e,Si h r
def WfM(M:Mem):Prop:=∀m∈M,Xw M.length m
theorem Sg{n:Nat}{kvs:List (Key×D)}(h:∀kv∈kvs,Yn n kv.2){C:Cf} :∀{vs:List (Key×V)},RepK C I α vs kvs->RepK C I (α.take n) vs kvs:=by
 induction kvs with
 |nil=>intro vs r;cases r;exact .nil
 |cons d ds ih =>
  intro vs r;cases r with
  |cons a b=>exact .cons (h _ Jl _ _ _ _ a) (ih (λx hx=>h x (Jk _ hx)) b)
theorem Sh{n:Nat}{kvs:List (List Key×D)}(h:∀kv∈kvs,Yn n kv.2){C:Cf} :∀{vs:List (List Key×V)},RepT C I α vs kvs->RepT C I (α.take n) vs kvs:=by
 induction kvs with
 |nil=>intro vs r;cases r;exact .nil
 |cons d ds ih =>
  intro vs r;cases r with
  |cons a b=>exact .cons (h _ Jl _ _ _ _ a) (ih (λx hx=>h x (Jk _ hx)) b)
theorem Zjv{n:Nat}{kvs:List (Str×D)}(h:∀kv∈kvs,Yn n kv.2){C:Cf} :∀{vs:List (Str×V)},RepF C I α vs kvs->RepF C I (α.take n) vs kvs:=by
 induction kvs with
 |nil=>intro vs r;cases r;exact .nil
 |cons d ds ih =>
  intro vs r;cases r with
  |cons a b=>exact .cons (h _ Jl _ _ _ _ a) (ih (λx hx=>h x (Jk _ hx)) b)
mutual
theorem Rep.bel{C:Cf}{I:Hp}{α:List Addr}:∀{v:V}{d:D},Rep C I α v d->Yn α.length d:=by
 intro _ _ h;cases h with
 |non=>exact Zbx
 |bl b=>exact Zl5
 |int i=>exact Zbz
 |str x=>exact Zbw
 |ty n=>exact λ_ _ _ _ r=>by cases r.inv;exact .ty _
 |«at» a=>exact λ_ _ _ _ r=>by cases r.inv;exact .at _
 |tup e r=>exact Zjp (Reps.bel r)
 |lst e r=>exact Zby (Reps.bel r)
 |frz e r=>exact Zju (Reps.bel r)
 |dct e r=>exact λ_ _ _ _ q=>by cases q with|dct e q=>exact .dct e (Sg (RepK.bel r) q)
 |dcT e r=>exact λ_ _ _ _ q=>by cases q with|dcT e q=>exact .dcT e (Sh (RepT.bel r) q)
 |code h=>exact Zft
 |cell e=>exact P3 (Jj.mp e).1
 |exc e f r=>exact λ_ _ _ _ q=>by cases q with|exc e f q=>exact .exc e f (Zjv (RepF.bel r) q)
 |nst e=>exact Zjq
 |itp e=>exact Zjt
theorem Reps.bel{C:Cf}{I:Hp}{α:List Addr}:∀{vs:List V}{ds:List D},Reps C I α vs ds->∀d∈ds,Yn α.length d:=by
 intro _ _ h;cases h with
 |nil=>exact Zjr
 |cons h r=>exact Zfs (Rep.bel h) (Reps.bel r)
theorem RepK.bel{C:Cf}{I:Hp}{α:List Addr}:∀{vs:List (Key×V)}{ds:List (Key×D)},RepK C I α vs ds->∀kv∈ds,Yn α.length kv.2:=by
 intro _ _ h;cases h with
 |nil=>exact λ_ h=>nomatch h
 |cons h r =>
  exact λkv hk=>by
   rcases Jt.mp hk with z|z
   .rw[z];exact Rep.bel h
   .exact RepK.bel r kv z
theorem RepF.bel{C:Cf}{I:Hp}{α:List Addr}:∀{vs:List (Str×V)}{ds:List (Str×D)},RepF C I α vs ds->∀kv∈ds,Yn α.length kv.2:=by
 intro _ _ h;cases h with
 |nil=>exact λ_ h=>nomatch h
 |cons h r =>
  exact λkv hk=>by
   rcases Jt.mp hk with z|z
   .rw[z];exact Rep.bel h
   .exact RepF.bel r kv z
theorem RepT.bel{C:Cf}{I:Hp}{α:List Addr}:∀{vs:List (List Key×V)}{ds:List (List Key×D)},RepT C I α vs ds->∀kv∈ds,Yn α.length kv.2:=by
 intro _ _ h;cases h with
 |nil=>exact λ_ h=>nomatch h
 |cons h r =>
  exact λkv hk=>by
   rcases Jt.mp hk with z|z
   .rw[z];exact Rep.bel h
   .exact RepT.bel r kv z
end
def Zt5{n:Nat}{ds:List (Key×D)}(h:∀d∈ds,Yn n d.2):Xw n (.dct ds):=λ_ _ _ _ _ x=>by
 let⟨vs,e,r⟩:=x;exists vs,e,Sg h r
def Zt6{n:Nat}{ds:List (List Key×D)}(h:∀d∈ds,Yn n d.2):Xw n (.dcT ds):=λ_ _ _ _ _ x=>by
 let⟨vs,e,r⟩:=x;exists vs,e,Sh h r
def Zt2{n:Nat}{ds:List (Key×D)}(h:∀d∈ds,Yn n d.2):Xw n (.drK ds):=λ_ _ _ _ _ x=>by
 let⟨vs,e,r⟩:=x;exists vs,e,Sg h r
def Zt1{n:Nat}{ds:List (List Key×D)}(h:∀d∈ds,Yn n d.2):Xw n (.drT ds):=λ_ _ _ _ _ x=>by
 let⟨vs,e,r⟩:=x;exists vs,e,Sh h r
def Zt3{n:Nat}{o:Obj}{vs:List (List Key×V)}{ds:List (List Key×D)}(h:∀d∈ds,Yn n d.2):Xw n (.dfT o vs ds):=λ_ _ _ _ _ x=>⟨x.1,Sh h x.2⟩
def Zt4{n:Nat}{o:Obj}{vs:List (Key×V)}{ds:List (Key×D)}(h:∀d∈ds,Yn n d.2):Xw n (.dfK o vs ds):=λ_ _ _ _ _ x=>⟨x.1,Sg h x.2⟩
theorem RepN.bel{C:Cf}{vs:List Nkv}{ds:List (List NI×D)}(r:RepN C I α vs ds):∀kv∈ds,Yn α.length kv.2:=by
 induction r with
 |nil=>exact λ_ h=>nomatch h
 |cons h r ih=>exact λkv hk=>(Jt.mp hk).elim (λz=>by rw[z];exact h.2.bel) (ih kv)
theorem Zb0{n:Nat}{kvs:List (List NI×D)}(h:∀kv∈kvs,Yn n kv.2){C:Cf}{vs:List Nkv}(r:RepN C I α vs kvs):RepN C I (α.take n) vs kvs:=by
 induction r with
 |nil=>exact .nil
 |cons a b ih=>exact .cons ⟨a.1,h _ Jl _ _ _ _ a.2⟩ (ih λx hx=>h x (Jk _ hx))
theorem Znf{n:Nat}{sh:List Nat}{z:Option (Obj×List Nkv)}{ds:List (List NI×D)}(h:∀d∈ds,Yn n d.2):Xw n (.dcN sh z ds):=λ_ _ _ _ _ x=>by
 cases z with
 |none=>obtain⟨vs,e,k,r⟩:=x;exists vs,e,k,Zb0 h r
 |some z=>exact⟨x.1,x.2.1,Zb0 h x.2.2⟩
theorem Zt0{n:Nat}{fs:List (Str×D)}(h:∀d∈fs,Yn n d.2):Xw n (.ins Cl fs):=λC I α H a x=>by
 let⟨dx,vs,e,r⟩:=x;exists dx,vs,e,?_;clear e
 induction fs generalizing vs with
 |nil=>cases r;exact .nil
 |cons d ds ih =>
  cases r with
  |cons a b=>exact .cons ⟨a.1,h _ Jl _ _ _ _ a.2⟩ (ih (λx hx=>h x (Jk _ hx)) _ b)
def Xw.up{n m:Nat}{x:MO}(h:Xw n x)(l:n<=m):Xw m x:=λC I α H a r=>(h C I α H a r).mono (.refl _) (by rw[<-B2 l,<-List.take_take];exact Bz _ _) rfl
theorem MoAt.bel{C:Cf}{a:Addr}(h:MoAt C I α H a m):Xw α.length m:=by
 cases m with
 |lst ds=>obtain⟨vs,e,r⟩:=h;exact Zne r.bel
 |dct ds=>obtain⟨vs,e,r⟩:=h;exact Zt5 r.bel
 |dcT ds=>obtain⟨vs,e,r⟩:=h;exact Zt6 r.bel
 |drK ds=>obtain⟨vs,e,r⟩:=h;exact Zt2 r.bel
 |drT ds=>obtain⟨vs,e,r⟩:=h;exact Zt1 r.bel
 |dfT o vs ds=>exact Zt3 h.2.bel
 |dfK o vs ds=>exact Zt4 h.2.bel
 |ins Cl fs =>
  let⟨dx,vs,e,r⟩:=h;refine Zt0 λkv hk=>?_;clear e
  induction r with
  |nil=>cases hk
  |cons a b ih =>
   rcases Jt.mp hk with z|z
   .rw[z];exact a.2.bel
   .exact ih z
 |hand=>exact Zqa
 |tab P pos q=>exact Ztz
 |dcN sh z ds=>cases z with|none=>obtain⟨vs,e,k,r⟩:=h;exact Znf r.bel|some z=>exact Znf h.2.2.bel
def Rel.wf{C:Cf}(R:Rel C Z I α H M):WfM M:=λm hm=>by
 let⟨k,hk,rfl⟩:=Gb hm;let hk':k < α.length:=by rw[R.len];exact hk
 let:=(R.cel k _ _ (Jb hk') (Jb hk)).1.bel;rwa [R.len]at this
theorem BelS.belowE{n:Nat}{ρ0 ρ':Ev}(b:BelS n ρ0 ρ ρ'):(∀(i:Nat)(d:D),ρ0[i]?=some (some d)->Yn n d)->BelowE n ρ ρ':=by
 induction b with
 |nil=>exact λ_=>.nil
 |skip _ ih=>exact λh=>.skip (ih λi d e=>h (i+1) d (by simpa using e))
 |same _ ih=>exact λh=>.keep (h 0 _ rfl) (ih λi d e=>h (i+1) d (by simpa using e))
 |keep hb _ ih=>exact λh=>.keep hb (ih λi d e=>h (i+1) d (by simpa using e))
theorem Dr.out{C:Cf}{I0:Hp}{α0:List Addr}{H0:Hp}{M0:Mem}{P:Ev->Mem->Prop}{σ0:St}{ρ0:Ev}(h:Dr ρ0 M0 P ρ M)(R0:Rel C Z I0 α0 H0 M0)(E0:RepE C I0 α0 σ0 ρ0)(p:α0<+:α)(R:Rel C Z I α H M)(E:RepE C I α σ ρ) :
  ∃α' ρ' M',α0<+:α'/\Rel C Z I α' H M'/\RepE C I α' σ ρ'/\P ρ' M':=by
 rcases h with h|⟨ρ',⟨X,rfl⟩,hb,h⟩|⟨n,ρ',hl,hb,hm,h⟩
 .exists α,ρ,M,p,R,E,h
 .let hb':=hb.belowE λi d e=>by
   let⟨v,_,r⟩:=E0.2 i d e;let:=r.bel;rwa [R0.len]at this
  let et:(M0++X).take M0.length=M0:=Fh ..;let R1:=R.take M0.length (by rw[<-R0.len];exact R0.aa.length_le) (by rw[et];exact R0.wf);rw[et]at R1;exists α.take M0.length,ρ',M0,Rs p (by rw[R0.len];exact Jd _),R1,hb'.rep E,h
 .exists α.take n,ρ',M.take n,Rs p (by rw[R0.len];lia),R.take n (by have:=R0.aa.length_le;let:=R0.len;lia) hm,hb.rep E,h
section
variable{C:Cf}{t t':TS}{u u':TS3}{ue:TE3}{uc:TT3}{ug:TG3}{gs:TGs}{ugs:TGs3}
def uSeq(u u':TS3):TS3:=λE ρ M=>u {E with nx:=u' E} ρ M
def Zx(h1:SimS C Z t u)(h2:SimS C Z t' u'):SimS C Z (tSeq t t') (uSeq u u'):=λI α σ H ρ M E D' R RE h F =>
 h1 I α σ H ρ M {E with nx:=u' E} {D' with nx:=t' D'} R RE h ⟨λI1 α1 σ1 H1 ρ1 M1 s p R1 RE1 h1=>h2 I1 α1 σ1 H1 ρ1 M1 E D' R1 RE1 h1 (F.mono s p),F.rt,F.bk,F.ct⟩
abbrev Zqz:TS3:=λE ρ M=>E.nx ρ M
def Xn:SimS C Z Zrr Zqz:=λI α σ H ρ M E D' R RE h F=>F.nx I α σ H ρ M (.refl _) (Ji _) R RE h
def Zu0:TS3:=λE ρ M=>E.ct ρ M
def Zsf:SimS C Z Zrw Zu0:=λI α σ H ρ M E D' R RE h F=>F.ct I α σ H ρ M (.refl _) (Ji _) R RE h
abbrev Znu(E:Ends3)(ρ:Ev):D->Mem->Prop:=λ_x0 M1=>E.nx ρ M1
def Zux(ue:TE3):TS3:=λE ρ M=>ue ρ M (Znu E ρ)
def Rb(he:SimE C Z te ue):SimS C Z (Zn7 te) (Zux ue):=λI α σ H ρ M E D' R RE h F =>
 he I α σ H ρ M _ _ R RE h λv d I1 α1 H1 M1 s p R1 r h1=>F.nx I1 α1 σ H1 ρ M1 s p R1 (RE.mono s p) h1
def uRet(ue:TE3):TS3:=λE ρ M=>ue ρ M E.rt
def Xk(he:SimE C Z te ue):SimS C Z (tRet te) (uRet ue):=λI α σ H ρ M E D' R RE h F=>he I α σ H ρ M _ _ R RE h F.rt
abbrev Zq8(u:TS3)(u':TS3)(E:Ends3)(ρ:Ev):Bool->Mem->Prop:=λb M1=>if b=true then u E ρ M1 else u' E ρ M1
def uIfS(c:TT3)(u u':TS3):TS3:=λE ρ M=>c ρ M (Zq8 u u' E ρ)
def Ws(hc:SimT C Z tc uc)(h1:SimS C Z t u)(h2:SimS C Z t' u'):SimS C Z (tIfS tc t t') (uIfS uc u u'):=λI α σ H ρ M E D' R RE h F =>
 hc I α σ H ρ M _ _ R RE h λb I1 α1 H1 M1 s p R1 h3=>by
  cases b with
  |true =>
   exact h1 I1 α1 σ H1 ρ M1 E D' R1 (RE.mono s p) h3 (F.mono s p)
  |false =>
   exact h2 I1 α1 σ H1 ρ M1 E D' R1 (RE.mono s p) h3 (F.mono s p)
abbrev Zan(ug:TG3)(E:Ends3)(ρ:Ev):D->Mem->Prop:=λd M1=>ug d ρ M1 E.nx
def uAsg(ue:TE3)(ug:TG3):TS3:=λE ρ M=>ue ρ M (Zan ug E ρ)
def Vj(he:SimE C Z te ue)(hg:SimG C Z g ug):SimS C Z (tAsg te g) (uAsg ue ug):=λI α σ H ρ M E D' R RE h F =>
 he I α σ H ρ M _ _ R RE h λv d I1 α1 H1 M1 s p R1 r h1=>hg I1 α1 σ H1 ρ M1 v d _ _ R1 (RE.mono s p) r h1 (F.nx.mono s p)
abbrev uG(i:Nat):TG3:=λd ρ M K=>K (ρ.set i (some d)) M
def s_g(i:Nat):SimG C Z (Zc2 i) (uG i):=λI α σ H ρ M v d K Q R RE r h k=>k I α _ H _ M (.refl _) (Ji _) R (RE.set r i) h
abbrev Zuv:TGs3:=λds ρ M K=>ds=[]/\K ρ M
abbrev Zke(ugs:TGs3)(r:List D)(K:Ev->Mem->Prop):Ev->Mem->Prop:=λρ' M'=>ugs r ρ' M' K
inductive uGCons(ug:TG3)(ugs:TGs3)(ds:List D)(ρ:Ev)(M:Mem)(K:Ev->Mem->Prop):Prop
 |mk:∀d r,ds=d::r->ug d ρ M (Zke ugs r K)->uGCons ug ugs ds ρ M K
def Zse:Zjz C Z gNil Zuv:=λI α σ H ρ M vs ds K Q R RE r h k=>by
 let⟨rfl,h⟩:=h;cases r.inv;exists rfl,k I α σ H ρ M (.refl _) (Ji _) R RE h
theorem Zol(h1:SimG C Z g ug)(h2:Zjz C Z gs ugs):Zjz C Z (Zpu g gs) (uGCons ug ugs):=λI α σ H ρ M vs ds K Q R RE r h k=>by
 let⟨d,r',rfl,h⟩:=h;cases r with
 |cons a b=>exact⟨_,_,rfl,h1 I α σ H ρ M _ d _ _ R RE a h λI1 α1 σ1 H1 ρ1 M1 s p R1 RE1 h3=>h2 I1 α1 σ1 H1 ρ1 M1 _ _ _ _ R1 RE1 (b.mono s p) h3 (k.mono s p)⟩
inductive uGTup(n:Nat)(ugs:TGs3)(d:D)(ρ:Ev)(M:Mem)(K:Ev->Mem->Prop):Prop
 |mk:∀ds,Zrj d=some ds->ds.length=n->ugs ds ρ M K->uGTup n ugs d ρ M K
def Zsd{n:Nat}(h:Zjz C Z gs ugs):SimG C Z (gTup C.k n gs) (uGTup n ugs):=λI α σ H ρ M v d K Q R RE r hh k=>by
 let⟨ds,e,hl,hh⟩:=hh;let⟨a,vs,rfl,ea,_,ra⟩:=Ty R r e;exists a,vs,rfl,SqT.of ea,by rw[ra.length];exact hl,h I α σ H ρ M vs ds K Q R RE ra hh k
inductive uGSub_2(d:D)(ρ:Ev)(K:Ev->Mem->Prop)(o:D)(i:D)(M2:Mem):Prop
 |mk:∀k xs z j,o=.cell k->i=.int z->M2[k]?=some (.lst xs)->ixN xs.length z=some j->K ρ (M2.set k (.lst (xs.set j d)))->uGSub_2 d ρ K o i M2
abbrev Znt(ui:TE3)(d:D)(ρ:Ev)(K:Ev->Mem->Prop):D->Mem->Prop:=λo M1=>ui ρ M1 (uGSub_2 d ρ K o)
def Zuu(uo ui:TE3):TG3:=λd ρ M K=>uo ρ M (Znt ui d ρ K)
def Zmp{ti:TE}{ui:TE3}(ho:SimE C Z to uo)(hi:SimE C Z ti ui):SimG C Z (gSub to ti Zso) (Zuu uo ui):=λI α σ H ρ M v d K Q R RE r hh k =>
 ho I α σ H ρ M _ _ R RE hh λov o I1 α1 H1 M1 s1 p1 R1 r1 h1=>hi I1 α1 σ H1 ρ M1 _ _ R1 (RE.mono s1 p1) h1 λiv i I2 α2 H2 M2 s2 p2 R2 r2 h2=>by
  let⟨kk,xs,z,j,rfl,rfl,e1,e2,h2⟩:=h2;cases r2.inv;let⟨_,rfl,ec⟩:=(r1.mono s2 p2).inv;let⟨us,eu,ru⟩:=N8 R2 ec e1;exists _,us,z,j,rfl,rfl,eu,by rw[ru.length];exact e2,?_;exact k I2 α2 σ _ ρ _ (s1.trans s2) (p1.trans p2) (R2.putL ec (ru.set (r.mono (s1.trans s2) (p1.trans p2)) j)) (RE.mono (s1.trans s2) (p1.trans p2)) h2
inductive uAug_1(i:Nat)(f:Int->Int->Int)(E:Ends3)(ρ:Ev)(x:Int)(d:D)(M1:Mem):Prop
 |mk:∀y,d=.int y->E.nx (ρ.set i (some (.int (f x y)))) M1->uAug_1 i f E ρ x d M1
inductive uAug(i:Nat)(ue:TE3)(f:Int->Int->Int)(E:Ends3)(ρ:Ev)(M:Mem):Prop
 |mk:∀x,ρ[i]?=some (some (.int x))->ue ρ M (uAug_1 i f E ρ x)->uAug i ue f E ρ M
def Zvm{f:Int->Int->Int}(he:SimE C Z te ue):SimS C Z (tAug i te (ipI f)) (uAug i ue f):=λI α σ H ρ M E D' R RE h F=>by
 let⟨x,e,h⟩:=h;let⟨v,e2,r⟩:=RE.2 i _ e;cases r.inv;exists _,e2,he I α σ H ρ M _ _ R RE h λv d I1 α1 H1 M1 s p R1 r h1=>?_;let⟨y,rfl,h1⟩:=h1;cases r.inv;exists x,y,rfl,rfl,F.nx I1 α1 _ H1 _ M1 s p R1 ((RE.mono s p).set (.int _) i) h1
abbrev Zdn(P:Nat->Ev->Mem->Prop)(ρ:Ev)(M:Mem)(m:Nat):Ev->Mem->Prop:=λρ' M'=>∃m',m'<m/\Dr ρ M (P m') ρ' M'
abbrev Zj6(E:Ends3)(P:Nat->Ev->Mem->Prop)(ρ:Ev)(M:Mem)(m:Nat):Ends3:={E with nx:=Zdn P ρ M m,ct:=Zdn P ρ M m,bk:=E.nx}
abbrev Zj7(u:TS3)(E:Ends3)(ρ:Ev)(M:Mem)(P:Nat->Ev->Mem->Prop)(m:Nat)(ρ1:Ev):Bool->Mem->Prop:=λb M2=>if b=true then u (Zj6 E P ρ M m) ρ1 M2 else E.nx ρ1 M2
inductive uWhile(uc:TT3)(u:TS3)(E:Ends3)(ρ:Ev)(M:Mem):Prop
 |mk:∀P:Nat->Ev->Mem->Prop,(∃m,P m ρ M)->(∀m ρ1 M1,P m ρ1 M1->uc ρ1 M1 (Zj7 u E ρ M P m ρ1))->uWhile uc u E ρ M
theorem Zg4(hc:SimT C Z tc uc)(hb:SimS C Z t u):SimS C Z (Zmd tc t) (uWhile uc u):=λI α σ H ρ M E D' R RE h F=>by
 let⟨P,⟨m0,h0⟩,hs⟩:=h;let hlen:=R.len;exists λm σ1 H1=>∃I1 α1 ρ1 M1,Same I I1/\α<+:α1/\Rel C Z I1 α1 H1 M1/\RepE C I1 α1 σ1 ρ1/\P m ρ1 M1,⟨m0,I,α,ρ,M,.refl _,Ji _,R,RE,h0⟩,?_;rintro m σ1 H1 ⟨I1,α1,ρ1,M1,s1,p1,R1,RE1,h1⟩;refine hc I1 α1 σ1 H1 ρ1 M1 _ _ R1 RE1 (hs m ρ1 M1 h1) λb I2 α2 H2 M2 s2 p2 R2 h2=>?_;cases b with
 |false =>
  exact F.nx I2 α2 σ1 H2 ρ1 M2 (s1.trans s2) (p1.trans p2) R2 (RE1.mono s2 p2) h2
 |true =>
  refine⟨λσ' H'=>∃m',m'<m/\∃I1 α1 ρ1 M1,Same I I1/\α<+:α1/\Rel C Z I1 α1 H' M1/\RepE C I1 α1 σ' ρ1/\P m' ρ1 M1,λσ' H' h=>h,?_⟩;let nx:FinS C Z I2 α2 (λρ' M'=>∃m',m'<m/\Dr ρ M (P m') ρ' M') (λσ' H'=>∃m',m'<m/\∃I1 α1 ρ1 M1,Same I I1/\α<+:α1/\Rel C Z I1 α1 H' M1/\RepE C I1 α1 σ' ρ1/\P m' ρ1 M1):=λI3 α3 σ3 H3 ρ3 M3 s3 p3 R3 RE3 h3=>by
   let⟨m',hm,h3⟩:=h3;let⟨α4,ρ4,M4,p4,R4,RE4,h4⟩:=h3.out R RE (p1.trans (p2.trans p3)) R3 RE3;exists m',hm,I3,α4,ρ4,M4,s1.trans (s2.trans s3),p4,R4,RE4,h4
  exact hb I2 α2 σ1 H2 ρ1 M2 _ _ R2 (RE1.mono s2 p2) h2 ⟨nx,F.rt.mono (s1.trans s2) (p1.trans p2),F.nx.mono (s1.trans s2) (p1.trans p2),nx⟩
structure It3 where
 n:Nat
 item:Nat->D->Prop
 ok:Mem->Prop
abbrev TI3:=Ev->Mem->(It3->Mem->Prop)->Prop
def ItR(C:Cf)(Z:Anc)(I:Hp)(α:List Addr)(J:It)(j:It3):Prop:=∀I' α' H' M',Same I I'->α<+:α'->Rel C Z I' α' H' M'->j.ok M' ->
 (∀i,i<j.n->J.go i H'/\∀x H2,J.yld i H' x H2->∃I2 d,Same I' I2/\Rel C Z I2 α' H2 M'/\Rep C I2 α' x d/\j.item i d)/\J.stop j.n H'
def SimI(C:Cf)(Z:Anc)(w:TI)(u:TI3):Prop:=∀I α σ H ρ M(K:It3->Mem->Prop)(R':It->Hp->Prop),Rel C Z I α H M->RepE C I α σ ρ->u ρ M K ->
 (∀J j I' α' H' M',Same I I'->α<+:α'->Rel C Z I' α' H' M'->ItR C Z I' α' J j->K j M'->R' J H')->w σ H R'
inductive uIL_1(K:It3->Mem->Prop)(d:D)(M1:Mem):Prop
 |mk:∀ds,Xg M1 d=some ds->K ⟨ds.length,λi x=>ds[i]?=some x,λM=>Xg M d=some ds⟩ M1->uIL_1 K d M1
def uIL(ue:TE3):TI3:=λρ M K=>ue ρ M (uIL_1 K)
def s_il(he:SimE C Z te ue):SimI C Z (Zpp C.k te) (uIL ue):=λI α σ H ρ M K R' R RE h k =>
 he I α σ H ρ M _ _ R RE h λv d I1 α1 H1 M1 s1 p1 R1 r1 h1=>by
  let⟨ds,e,h1⟩:=h1;let⟨a,vs,rfl,ea,ra⟩:=W1 R1 r1 e;exists a,rfl,⟨vs,ea⟩,k _ _ I1 α1 H1 M1 s1 p1 R1 (λI2 α2 H2 M2 s2 p2 R2 ok=>?_) h1;let⟨b,ws,eb,eq,rw'⟩:=W1 R2 (r1.mono s2 p2) ok;cases eb;exists λi hi=>?_,⟨ws,eq,by rw[rw'.length];exact Jd _⟩;let hi2:i<ws.length:=by rw[rw'.length];exact hi
  exists⟨ws,ws[i],eq,Jb hi2⟩,λx H3 y=>?_;let⟨rfl,y⟩:=y;let:=y ws eq;rw[Jb hi2]at this;cases this;exists I2,ds[i],.refl _,R2,rw'.at hi2 hi,Jb hi
def Zhf(lo:Int)(n:Nat):It3:=⟨n,λi x=>x=.int (lo+i),λ_=>True⟩
def Zv2{lo:Int}{n:Nat}:ItR C Z I α (Itr lo n) (Zhf lo n):=λI' α' H' M' s p R _=>⟨λi hi=>⟨hi,λx H2 y=>by
 let⟨rfl,rfl⟩:=y;exact⟨I',_,.refl _,R,.int _,rfl⟩⟩,Jd _⟩
variable{ta:TA} 
inductive uIR1_1(K:It3->Mem->Prop)(ds:List D)(M1:Mem):Prop
 |mk:∀j:Int,ds=[.int j]->(-(2 ^ 62)<=j/\j<2 ^ 62)->K (Zhf 0 j.toNat) M1->uIR1_1 K ds M1
def uIR1(ua:TA3):TI3:=λρ M K=>ua ρ M (uIR1_1 K)
def Zvj(ha:SimA C Z ta ua):SimI C Z (Ztk ta) (uIR1 ua):=λI α σ H ρ M K R' R RE h k =>
 ha I α σ H ρ M _ _ R RE h λvs ds I1 α1 H1 M1 s1 p1 R1 r1 h1=>by
  let⟨j,rfl,⟨h2,h3⟩,h1⟩:=h1;refine Reps.e1 r1 λ_ a=>?_;cases a;exists j,rfl,h2,h3,k _ _ I1 α1 H1 M1 s1 p1 R1 Zv2 h1
abbrev Zq9(E:Ends3)(ρ:Ev)(M:Mem)(P:Nat->Ev->Mem->Prop)(i:Nat):Ends3:={E with nx:=Dr ρ M (P (i+1)),ct:=Dr ρ M (P (i+1)),bk:=E.nx}
inductive uFor_1(ug:TG3)(ub:TS3)(E:Ends3)(ρ:Ev)(j:It3)(M1:Mem):Prop
 |mk:∀P:Nat->Ev->Mem->Prop,(∀i ρ M,i<=j.n->P i ρ M->j.ok M)->P 0 ρ M1 ->
  (∀i x ρ1 M',i<j.n->j.item i x->P i ρ1 M'->ug x ρ1 M' (ub (Zq9 E ρ M1 P i)))->(∀ρ M,P j.n ρ M->E.nx ρ M)->uFor_1 ug ub E ρ j M1
def uFor(ui:TI3)(ug:TG3)(ub:TS3):TS3:=λE ρ M=>ui ρ M (uFor_1 ug ub E ρ)
theorem Ri{ui:TI3}(hi:SimI C Z wi ui)(hg:SimG C Z g ug)(hb:SimS C Z t u):SimS C Z (tFor wi g t) (uFor ui ug u):=λI α σ H ρ M E D' R RE h F =>
 hi I α σ H ρ M _ _ R RE h λJ j I1 α1 H1 M1 s1 p1 R1 IR h1=>by
  let⟨P,hok,h0,hs,he⟩:=h1;let hlen:=R1.len;exists λi m σ' H'=>m=j.n-i/\i<=j.n/\∃I2 α2 ρ2 M2,Same I1 I2/\α1<+:α2/\Rel C Z I2 α2 H' M2/\RepE C I2 α2 σ' ρ2/\P i ρ2 M2,⟨j.n,rfl,Ju _,I1,α1,ρ,M1,.refl _,Ji _,R1,RE.mono s1 p1,h0⟩,?_;rintro i m σ' H' ⟨rfl,hi,I2,α2,ρ2,M2,s2,p2,R2,RE2,h2⟩;let⟨go,stop⟩:=IR I2 α2 H' M2 s2 p2 R2 (hok i ρ2 M2 hi h2)
  by_cases hlt:i<j.n
  .let⟨g1,g2⟩:=go i hlt;refine .inr ⟨g1,λσ3 H3=>∃I3 α3 ρ3 M3,Same I1 I3/\α1<+:α3/\Rel C Z I3 α3 H3 M3/\RepE C I3 α3 σ3 ρ3/\P (i+1) ρ3 M3,λσ3 H3 h3=>⟨j.n-(i+1),(),rfl,hlt,h3⟩,λx H3 y=>?_⟩;let⟨I3,d,s3,R3,r3,it⟩:=g2 x H3 y;refine hg I3 α2 σ' H3 ρ2 M2 x d _ _ R3 (RE2.mono s3 (Ji _)) r3 (hs i d ρ2 M2 hlt it h2) λI4 α4 σ4 H4 ρ4 M4 s4 p4 R4 RE4 h4=>?_;let nx:FinS C Z I4 α4 (Dr ρ M1 (P (i+1))) (λσ3 H3=>∃I3 α3 ρ3 M3,Same I1 I3/\α1<+:α3/\Rel C Z I3 α3 H3 M3/\RepE C I3 α3 σ3 ρ3/\P (i+1) ρ3 M3):=λI5 α5 σ5 H5 ρ5 M5 s5 p5 R5 RE5 h5=>by
    let⟨α6,ρ6,M6,p6,R6,RE6,h6⟩:=h5.out R1 (RE.mono s1 p1) (p2.trans (p4.trans p5)) R5 RE5;exists I5,α6,ρ6,M6,s2.trans (s3.trans (s4.trans s5)),p6,R6,RE6,h6
   let F4:=F.mono (s1.trans (s2.trans (s3.trans s4))) (p1.trans (p2.trans p4));exact hb I4 α4 σ4 H4 ρ4 M4 _ _ R4 RE4 h4 ⟨nx,F4.rt,F4.nx,nx⟩
  .let e:i=j.n:=by lia
   subst e;exact .inl ⟨stop,F.nx I2 α2 σ' H' ρ2 M2 (s1.trans s2) (p1.trans p2) R2 RE2 (he ρ2 M2 h2)⟩
def sg3(ρ:Ev)(T:List Str)(cs:List Nat):Ev:=T.map (λ_=>none)++cs.map λi=>ρ.getD i none
def RepE.sg(h:RepE C I α σ ρ)(T:List Str)(cs:List Nat):RepE C I α (sgOf σ T cs) (sg3 ρ T cs):=by
 exists by unfold sgOf sg3;simp,λi d e=>?_;unfold sg3 at e;unfold sgOf
 by_cases hi:i<T.length
 .rw[J0 (by simpa using hi),Jq,Jb hi]at e;simp at e
 .rw[Go (by simpa using hi),Jq]at e;rw[Go (by simpa using hi),Jq];simp only[Ja]at e⊢;cases hc:cs[i-T.length]? with
  |none=>rw[hc]at e;cases e
  |some c =>
   rw[hc]at e;simp only[B1,Jev]at e⊢;rw[Jx]at e⊢;cases hr:ρ[c]? with
   |none=>rw[hr]at e;cases e
   |some o =>
    rw[hr]at e;cases e;let⟨v,e2,r⟩:=h.2 c d hr;exists v,by rw[e2];rfl,r
variable{tt:TT}{ut:TT3} 
abbrev Ztt(P:Nat->List D->Mem->Prop)(i:Nat)(ys:List D):D->Mem->Prop:=λy M4=>P (i+1) (ys++[y]) M4
abbrev Ztu(ue:TE3)(P:Nat->List D->Mem->Prop)(i:Nat)(ys:List D)(ρ2:Ev):Bool->Mem->Prop:=λb M3=>if b=true then ue ρ2 M3 (Ztt P i ys)else P (i+1) ys M3
abbrev Ztv(ut:TT3)(ue:TE3)(P:Nat->List D->Mem->Prop)(i:Nat)(ys:List D):Ev->Mem->Prop:=λρ2 M2=>ut ρ2 M2 (Ztu ue P i ys ρ2)
inductive cmp3_0(ug:TG3)(ut:TT3)(ue:TE3)(T:List Str)(cs:List Nat)(ρ:Ev)(F:List D->Mem->Prop)(j:It3)(M1:Mem):Prop
 |mk:j.n<=Cb->∀P:Nat->List D->Mem->Prop,(∀i ys M,i<=j.n->P i ys M->j.ok M)->P 0 [] M1 ->
  (∀i x ys M,i<j.n->j.item i x->P i ys M->ug x (sg3 ρ T cs) M (Ztv ut ue P i ys))->(∀ys M,P j.n ys M->F ys M)->cmp3_0 ug ut ue T cs ρ F j M1
def cmp3(ui:TI3)(ug:TG3)(ut:TT3)(ue:TE3)(T:List Str)(cs:List Nat)(ρ:Ev)(M:Mem)(F:List D->Mem->Prop):Prop:=ui ρ M (cmp3_0 ug ut ue T cs ρ F)
abbrev Zn0(K:K3):List D->Mem->Prop:=λys M1=>K (.lst ys) M1
abbrev Zkf(K:K3):List D->Mem->Prop:=λys M1=>K (.cell M1.length) (M1++[.lst ys])
def Zu2(ui:TI3)(ug:TG3)(ut:TT3)(ue:TE3)(T:List Str)(cs:List Nat):TE3:=λρ M K=>cmp3 ui ug ut ue T cs ρ M (Zn0 K)
def Zrc(ui:TI3)(ug:TG3)(ut:TT3)(ue:TE3)(T:List Str)(cs:List Nat):TE3:=λρ M K=>cmp3 ui ug ut ue T cs ρ M (Zkf K)
theorem Zer{ui:TI3}(hi:SimI C Z wi ui)(hg:SimG C Z g ug)(ht:SimT C Z tt ut)(he:SimE C Z te ue){F:List D->Mem->Prop}(R:Rel C Z I α H M)(RE:RepE C I α σ ρ)(h:cmp3 ui ug ut ue T cs ρ M F)(k:∀ys vs I' α' H' M',Same I I'->α<+:α'->Rel C Z I' α' H' M'->Reps C I' α' vs ys->F ys M'->∀p,H' p=none->Q (.ref p) (upd H' p (.lst vs))):Zgn wi g tt te T cs σ H Q :=
 hi I α σ H ρ M _ _ R RE h λJ j I1 α1 H1 M1 s1 p1 R1 IR h1=>by
  let⟨hz,P,hok,h0,hs,hd⟩:=h1;exists λi m vs H'=>m=j.n-i/\i<=j.n/\∃I2 α2 ys M2,Same I1 I2/\α1<+:α2/\Rel C Z I2 α2 H' M2/\Reps C I2 α2 vs ys/\ys.length<=i/\P i ys M2,⟨j.n,rfl,Ju _,I1,α1,[],M1,.refl _,Ji _,R1,.nil,Jd _,h0⟩,?_;rintro i m vs H' ⟨rfl,hi,I2,α2,ys,M2,s2,p2,R2,r2,hl,h2⟩;let⟨go,stop⟩:=IR I2 α2 H' M2 s2 p2 R2 (hok i ys M2 hi h2);let hvl:=r2.length
  by_cases hlt:i<j.n
  .let⟨g1,g2⟩:=go i hlt;refine .inr ⟨g1,(),λvs3 H3=>∃I3 α3 ys3 M3,Same I1 I3/\α1<+:α3/\Rel C Z I3 α3 H3 M3/\Reps C I3 α3 vs3 ys3/\ys3.length<=i+1/\P (i+1) ys3 M3,λvs3 H3 h3=>⟨j.n-(i+1),(),rfl,hlt,h3⟩,λx H3 y=>?_⟩;let⟨I3,d,s3,R3,r3,it⟩:=g2 x H3 y;let RE3:RepE C I3 α2 σ ρ:=RE.mono (s1.trans (s2.trans s3)) (p1.trans p2);refine hg I3 α2 _ H3 _ M2 x d _ _ R3 (RE3.sg T cs) r3 (hs i d ys M2 hlt it h2) λI4 α4 σ4 H4 ρ4 M4 s4 p4 R4 RE4 h4=>?_;refine ht I4 α4 σ4 H4 ρ4 M4 _ _ R4 RE4 h4 λb I5 α5 H5 M5 s5 p5 R5 h5=>?_;cases b with
   |true =>
    refine he I5 α5 σ4 H5 ρ4 M5 _ _ R5 (RE4.mono s5 p5) h5 λv e I6 α6 H6 M6 s6 p6 R6 r6 h6=>?_;exists I6,α6,ys++[e],M6,s2.trans (s3.trans (s4.trans (s5.trans s6))),p2.trans (p4.trans (p5.trans p6)),R6,(r2.mono (s3.trans (s4.trans (s5.trans s6))) (p4.trans (p5.trans p6))).app (.one r6),?_,h6;rw[Jc,Ba];lia
   |false =>
    exists I5,α5,ys,M5,s2.trans (s3.trans (s4.trans s5)),p2.trans (p4.trans p5),R5,r2.mono (s3.trans (s4.trans s5)) (p4.trans p5),(),h5
  .let e:i=j.n:=by lia
   subst e;exact .inl ⟨stop,(),k ys vs I2 α2 H' M2 (s1.trans s2) (p1.trans p2) R2 r2 (hd ys M2 h2)⟩
def Qa{ui:TI3}(hi:SimI C Z wi ui)(hg:SimG C Z g ug)(ht:SimT C Z tt ut)(he:SimE C Z te ue):SimE C Z (Zgn wi g tt te T cs) (Zu2 ui ug ut ue T cs):=λI α σ H ρ M K Q R RE h k =>
 Zer hi hg ht he R RE h λys vs I' α' H' M' s p R' r hF q hq=>by
  let⟨R2,s2,e2⟩:=R'.new (o:=.lst vs) hq;exact k _ _ _ α' _ M' (s.trans s2) p R2 (.lst e2 (r.mono s2 (Ji _))) hF
def Zom{ui:TI3}(hi:SimI C Z wi ui)(hg:SimG C Z g ug)(ht:SimT C Z tt ut)(he:SimE C Z te ue):SimE C Z (Zgn wi g tt te T cs) (Zrc ui ug ut ue T cs):=λI α σ H ρ M K Q R RE h k =>
 Zer hi hg ht he R RE h λys vs I' α' H' M' s p R' r hF q hq=>by
  let⟨R2,p2,e2⟩:=R'.cell (o:=.lst vs) (m:=.lst ys) hq λH' e=>⟨vs,e,r⟩;exact k _ _ I' _ _ _ s (p.trans p2) R2 (.cell e2) hF
abbrev Zuk:TT3:=λ_ M K=>K true M
def Zdw:SimT C Z Zrm Zuk:=λI α σ H ρ M K Q R E h k=>k true I α H M (.refl _) (Ji _) R h
abbrev Sp3:=List D->Mem->K3->Prop
def spOf(C:Cf)(sp:Sp3):Sp:=λvs H Q _=>∃Z I α M ds K,Rel C Z I α H M/\Reps C I α vs ds/\sp ds M K/\Fin C Z I α K Q
abbrev Zn1(sp:Sp3)(K:K3):List D->Mem->Prop:=λds M1=>sp ds M1 K
def Zu3(sp:Sp3)(ua:TA3):TE3:=λρ M K=>ua ρ M (Zn1 sp K)
def Zms{sp:Sp3}{E0':XK}(ha:SimA C Z ta ua):SimE C Z (Zgo (spOf C sp) [] E0' ta) (Zu3 sp ua):=λI α σ H ρ M K Q R RE h k =>
 ha I α σ H ρ M _ _ R RE h λvs ds I1 α1 H1 M1 s1 p1 R1 r1 h1=>by
  rw[Jp];exists Z,I1,α1,M1,ds,K,R1,r1,h1,k.mono s1 p1
def Cal.imp{base:Heap}{x:Str}{k:Nat}(c:Cal P w K mg base x k ps sp)(h:∀vs H Q E,sp' vs H Q E->sp vs H Q E):Cal P w K mg base x k ps sp' :=
 let⟨f,fd,a,b⟩:=c
 ⟨f,fd,a.imp h,b⟩
def Pf(N:List Str)(ds:List D):Ev:=ds.map some++Co (N.length-ds.length) none
def Qb(r:Reps C I α vs ds)(N:List Str):RepE C I α (L2.Tb N vs) (Pf N ds):=by
 let hl:=r.length;exists by unfold L2.Tb Pf;simp[hl],λi d e=>?_;unfold Pf at e;unfold L2.Tb
 by_cases hi:i<ds.length
 .rw[J0 (by simpa using hi),Jq,Jb hi]at e;let e':ds[i]=d:=by simpa using e
  rw[J0 (by simpa[hl]using hi),Jq,Jb (by rw[hl];exact hi)];exists ·,e' ▸ r.at (by rw[hl];exact hi) hi
 .rw[Go (by simpa using hi),Mw]at e
  split at e<;>cases e
def Fun.ok3{base:Heap}{x:Str}{f:Addr}{k:Nat}{sp:Sp3}(F:Fun K x qual st f fd)(S:FnScope N ps (Zg st))(len:∀ds M K,sp ds M K->ds.length=ps.length)(hbody:∀(cdv:Ca)(A:Kj)(outer:List Env)(s:Cc)(H:Hp)(E:XK),Room k (A.deeper (Hf qual (Zg st) s.heap.objs.size f cdv)) ->
   ∃t u,PSs (cxOf CX0 P w K mg base N qual (Zg st) f cdv A outer s H E).nox (Yi st) t/\(∀Z,SimS C Z t u)/\∀ds M K,WfM M->(∀d∈ds,Yn M.length d)->sp ds M K->u {nx:=λ_ M'=>Dk M.length K .non M',rt:=Dk M.length K} (Pf N ds) M):FnOk P w K mg base CX0 (k+1) f fd ps (spOf C sp):=by
 refine F.ok S (λvs H Q E h=>?_) (λcdv A outer s H vs Q E hr h=>?_)
 .let⟨Z,I,α,M,ds,K,R,r,h,_⟩:=h;rw[r.length];exact len ds M K h
 .let⟨t,u,h1,h2,h3⟩:=hbody cdv A outer s H E hr;let⟨Z,I,α,M,ds,K,R,r,h,k⟩:=h;let kd:=k.dk R.len R.aa;exists t,h1,h2 Z I α _ H _ M _ _ R (Qb r N) (h3 ds M K R.wf (by rw[<-R.len];exact r.bel) h) ⟨λI1 α1 σ1 H1 ρ1 M1 s1 p1 R1 _ h1=>kd _ _ I1 α1 H1 M1 s1 p1 R1 .non h1,kd,λ_ _ _ _ _ _ _ _ _ _ h=>h.elim,λ_ _ _ _ _ _ _ _ _ _ h=>h.elim⟩
end
section
variable{C:Cf} 
def Zvk{ue:TE3}(he:SimE C Z te ue)(h:K'=C.k):SimI C Z (Zpp K' te) (uIL ue):=h ▸ s_il he
def Zok{n:Nat}{gs:TGs}{ugs:TGs3}(hg:Zjz C Z gs ugs)(h:K'=C.k):SimG C Z (gTup K' n gs) (uGTup n ugs):=h ▸ Zsd hg
def Zhb{t:TA}{u:TA3}(ho:SimE C Z to uo)(ha:SimA C Z t u)(h:K'=C.k):SimE C Z (tBM K' "list" Zch to t) (uBML app3 uo u):=h ▸ Nj ho ha
end
section
variable{C:Cf} 
def Rel.full(R:Rel C Z I α H M):∃I',Same I I'/\Rel C Z I' α H M/\∀b o,H b=some o->b∉α->I' b=some o:=by
 let s:Same I (λb=>if b∈α then none else H b):=λb o e=>by
  let hb:b∉α:=λhb=>by
   let⟨k,hk,rfl⟩:=Gb hb;let hk':k<M.length:=by rw[<-R.len];exact hk
   rw[(R.cel k _ _ (Jb hk) (Jb hk')).2]at e;cases e
  show(if b∈α then none else H b)=some o;rw[Fv hb];exact R.sub b o e
 exists _,s,⟨R.ai.trans s,R.aa,λb o e=>?_,R.len,R.nd,λk a m h1 h2=>?_⟩,λb o e hb=>?_
 .let e':(if b∈α then none else H b)=some o:=e
  split at e'
  .cases e'
  .exact e'
 .exists(R.cel k a m h1 h2).1.mono s (Ji _) rfl,?_;show(if a∈α then none else H a)=none;rw[Fw (Gq h1)]
 .show(if b∈α then none else H b)=some o;rw[Fv hb];exact e
def Rel.out(R:Rel C Z I α H M)(h:H l=none):l∉α:=λhl=>by
 let⟨k,hk,e⟩:=Gb hl;exact R.cellNe (Jb hk) h e
theorem Rel.tupOut(R:Rel C Z I α H M)(h:H l=some (.tup vs)):l∉α:=λhl=>by
 let⟨k,hk,rfl⟩:=Gb hl;let hk':k<M.length:=by rw[<-R.len];exact hk
 let:=(R.cel k _ _ (Jb hk) (Jb hk')).1;cases hm:M[k]with
 |lst ds=>rw[hm]at this;let⟨vs,e,_⟩:=this;rw[h]at e;cases e
 |dct ds=>rw[hm]at this;let⟨vs,e,_⟩:=this;rw[h]at e;cases e
 |dcT ds=>rw[hm]at this;let⟨vs,e,_⟩:=this;rw[h]at e;cases e
 |drK ds=>rw[hm]at this;let⟨vs,e,_⟩:=this;rcases e with e|⟨o,e⟩<;>(rw[h]at e;cases e)
 |drT ds=>rw[hm]at this;let⟨vs,e,_⟩:=this;rcases e with e|⟨o,e⟩<;>(rw[h]at e;cases e)
 |dfT o vs ds=>rw[hm]at this;let e:=this.1;rw[h]at e;cases e
 |dfK o vs ds=>rw[hm]at this;let e:=this.1;rw[h]at e;cases e
 |ins Cl fs=>rw[hm]at this;let⟨dx,vs,e,_⟩:=this;rw[h]at e;cases e
 |hand=>rw[hm]at this;let⟨d,k,c,cs,e,_⟩:=this;rw[h]at e;cases e
 |tab P pos q=>rw[hm]at this;let⟨_,ps,e,_⟩:=this;rw[h]at e;cases e
 |dcN sh z ds=>rw[hm]at this;cases z with|none=>obtain⟨vs,e,_⟩:=this;rw[h]at e;cases e|some z=>have e:=this.1;rw[h]at e;cases e
def Rel.same(R:Rel C Z I α H M)(s:Same H H'):Rel C Z I α H' M:=by
 exists R.ai,R.aa,R.sub.trans s,R.len,R.nd,λk a m h1 h2=>?_;let⟨a1,a2⟩:=R.cel k a m h1 h2;let⟨o,e⟩:=a1.some;exists a1.mono (.refl _) (Ji _) ((s _ _ e).trans e.symm),a2
def Rel.grow(R:Rel C Z I α H M){k:Nat}{p c:Addr}{cs:List Int}(ha:α[k]?=some p)(hm:M[k]?=some .hand)(hh:HandAt H' p c)(ic:I c=some (.lst (cs.map V.int)))(hc:cs≠[]/\cs.length<=63/\∀c∈cs,0<=c)(g:Grow p H H'):Rel C Z I α H' M:=by
 let ip:I p=none:=(R.cel k p _ ha hm).2;exists R.ai,R.aa,λb o e=>g b o (R.sub b o e) (λz=>by rw[z,ip]at e;cases e),R.len,R.nd,λj a m h1 h2=>?_;let⟨a1,a2⟩:=R.cel j a m h1 h2
 by_cases e:k=j
 .subst e;rw[ha]at h1;cases h1;rw[hm]at h2;cases h2;let⟨d0,i0,cs',x1,x2,x3,x4,x5,x6,x7⟩:=hh.ex;exists⟨d0,i0,c,cs,x1,ic,hc.1,hc.2.1,x5,x6,hc.2.2⟩,ip
 .let⟨o,eo⟩:=a1.some;let ne:a≠p:=λz=>by
   let⟨hj,ej⟩:=Jj.mp h1;let⟨hk,ek⟩:=Jj.mp ha;rw[<-ej,<-ek]at z;exact e ((Br R.nd).mp z).symm
  exists a1.mono (.refl _) (Ji _) ((g _ _ eo ne).trans eo.symm),a2
def Rel.hand(R:Rel C Z I α H M){k:Nat}{p:Addr}(ha:α[k]?=some p)(hm:M[k]?=some .hand):∃c cs,HandAt H p c/\I c=some (.lst (cs.map V.int))/\cs≠[]/\cs.length<=63/\∀c∈cs,0<=c:=by
 let⟨d,i,c,cs,e,ic,h1,h2,h3,h4,h5⟩:=(R.cel k p _ ha hm).1;exists c,cs,⟨d,i,cs,e,R.sub _ _ ic,h1,h2,h3,h4,h5⟩,ic,h1,h2,h5
theorem Rel.cellAt(R:Rel C Z I α H M)(il:I l=none)(hl:l∉α)(hm:MoAt C I α H l m):Rel C Z I (α++[l]) H (M++[m])/\α<+:(α++[l])/\(α++[l])[M.length]?=some l:=by
 refine⟨⟨R.ai,R.aa.trans (Gc _ _),R.sub,by rw[Jc,Jc,R.len];rfl,?_,λk a x h1 h2=>?_⟩,Gc _ _,by rw[<-R.len];simp⟩
 .rw[List.nodup_append];exists R.nd,by simp,λa ha b hb e=>hl (by rw[<-Jg.mp hb,<-e];exact ha)
 .by_cases hk:k < α.length
  .rw[J0 hk]at h1;rw[J0 (by rw[<-R.len];exact hk)]at h2;let⟨a1,a2⟩:=R.cel k a x h1 h2;exists a1.mono (.refl _) (Gc _ _) rfl,a2
  .let⟨hk2,_⟩:=Jj.mp h1;rw[Jc,Ba]at hk2;let e:k=α.length:=by lia
   subst e;let e1:(α++[l])[α.length]?=some l:=by simp
   let e2:(M++[m])[α.length]?=some m:=by rw[R.len];simp
   rw[e1]at h1;rw[e2]at h2;cases h1;cases h2;exists hm.mono (.refl _) (Gc _ _) rfl,il
end
variable{ui:L3.TI3}
def wD(w:List Int):D:=.tup (w.map .int)
def pD(p:Pr):D:=.tup [.int p.1,wD p.2]
def oD:Option Int->D
 |some z=>.int z
 |none=>.non
section
variable{C:Cf} 
def Zvp(s:∀b xs,H b=some (.tup xs)->I b=some (.tup xs)){w:List Int}(h:Zfv H v w):Rep C I α v (wD w):=by
 let⟨t,rfl,e⟩:=h;exact .tup (s _ _ e) (.ints w)
def Zvq(s:∀b xs,H b=some (.tup xs)->I b=some (.tup xs)){p:Pr}(h:Zae H v p):Rep C I α v (pD p):=by
 let⟨t,tw,rfl,e,e2⟩:=h;exact .tup (s _ _ e) (.cons (.int _) (.one (.tup (s _ _ e2) (.ints p.2))))
theorem Nk{F:V->τ->Prop}{f:τ->D}(h:∀v a,F v a->Rep C I α v (f a)):∀{vs:List V}{as:List τ},Paired F vs as->Reps C I α vs (as.map f):=by
 intro _ _ hz9;cases hz9 with
 |nil=>
  exact .nil
 |cons a b=>
  exact .cons (h _ _ a) (Nk h b)
theorem Zh4{F:V->τ->Prop}{f:τ->D}(h:∀v a,Rep C I α v (f a)->F v a):∀{vs:List V}{as:List τ},Reps C I α vs (as.map f)->Paired F vs as
 |_,[],r=>by cases r.inv;exact .nil
 |_,a::as,r=>by
  cases r with
  |cons x y=>exact .cons (h _ _ x) (Zh4 h y)
def Zui(s:Same I H){w:List Int}(h:Rep C I α v (wD w)):Zfv H v w:=by
 let⟨_,_,rfl,e,r⟩:=h.inv;rw[r.of_ints w]at e;exists ·,s _ _ e
theorem Zvu(s:Same I H){p:Pr}(h:Rep C I α v (pD p)):Zae H v p:=by
 cases h with
 |tup e r =>
  cases r with
  |cons a b =>
   cases b with
   |cons b c =>
    cases c;cases a;let⟨t,rfl,e2⟩:=Zui s b;exists _,t,rfl,s _ _ e,e2
end
section
variable{C:Cf} 
inductive dDraw(ds:List D)(M:Mem)(K:K3):Prop
 |mk:∀k n,ds=[.cell k,.int n]->(M[k]?=some .hand/\(0<n/\n<1073741824)/\∀r,0<=r->r<n->K (.int r) M)->dDraw ds M K
def Zue{E:XK}(h:spOf C dDraw vs H Q E):Ph vs H Q E:=by
 let⟨Z,I,α,M,ds,K,R,r,⟨k,n,rfl,hm,⟨n0,n1⟩,h⟩,kk⟩:=h;refine Reps.e2 r λ_ _ r1 r2=>?_;cases r2.inv;let⟨p,rfl,ha⟩:=r1.inv;let⟨c,cs,hh,ic,hc⟩:=R.hand ha hm;exists p,c,n,rfl,hh,n0,n1,λz H' z0 z1 hh' g _=>kk _ _ I α H' M (.refl _) (Ji _) (R.grow ha hm hh' ic hc g) (.int z) (h z z0 z1)
inductive dOpen(ds:List D)(M:Mem)(K:K3):Prop
 |mk:∀(ns:List Int)(i:Int),ds=[.frz (ns.map .int),.int i]->((ns.length<=63/\0<=i/\i<2 ^ 60)/\K (.cell M.length) (M++[.hand]))->dOpen ds M K
def Qy{k:Nat}{p c:Addr}{cs bs:List Int}{K:K3}(R:Rel C Z I α H M)(ha:α[k]?=some p)(hm:M[k]?=some .hand)(hh:HandAt H' p c)(ic:I c=some (.lst (cs.map V.int)))(hc:cs≠[]/\cs.length<=63/\∀c∈cs,0<=c)(g:Grow p H H')(nl:H l=none)(el:H' l=some (.lst (bs.map V.int)))(kk:Fin C Z I α K Q)(h:K (.lst (bs.map .int)) M):Q (.ref l) H':=by
 let⟨I',s,R',f⟩:=(R.grow ha hm hh ic hc g).full;exact kk _ _ I' α H' M s (Ji _) R' (.lst (f _ _ el (R.out nl)) (.ints bs)) h
inductive dBytes(ds:List D)(M:Mem)(K:K3):Prop
 |mk:∀k m,ds=[.cell k,.int m]->(M[k]?=some .hand/\(2<=m/\m<=4)/\∀bs:List Int,bs.Nodup->2<=bs.length->(bs.length:Int)<=m->(∀b∈bs,0<=b/\b<256)->K (.lst (bs.map .int)) M)->dBytes ds M K
def Zqk{E:XK}(h:spOf C dBytes vs H Q E):Zgu vs H Q E:=by
 let⟨Z,I,α,M,ds,K,R,r,⟨k,m,rfl,hm,⟨m0,m1⟩,h⟩,kk⟩:=h;refine Reps.e2 r λ_ _ r1 r2=>?_;cases r2.inv;let⟨p,rfl,ha⟩:=r1.inv;let⟨c,cs,hh,ic,hc⟩:=R.hand ha hm;exists p,c,m,rfl,hh,m0,m1,λl bs H' nl _ el nd b2 bm bb hh' g=>Qy R ha hm hh' ic hc g nl el kk (h bs nd b2 bm bb)
inductive dSigns(ds:List D)(M:Mem)(K:K3):Prop
 |mk:∀k m,ds=[.cell k,.int m]->(M[k]?=some .hand/\(0<=m/\m<=100)/\∀ss:List Int,ss.Nodup->(ss.length:Int)=m->K (.lst (ss.map .int)) M)->dSigns ds M K
def Zqi{E:XK}(h:spOf C dSigns vs H Q E):Zgs vs H Q E:=by
 let⟨Z,I,α,M,ds,K,R,r,⟨k,m,rfl,hm,⟨m0,m1⟩,h⟩,kk⟩:=h;refine Reps.e2 r λ_ _ r1 r2=>?_;cases r2.inv;let⟨p,rfl,ha⟩:=r1.inv;let⟨c,cs,hh,ic,hc⟩:=R.hand ha hm;exists p,c,m,rfl,hh,m0,m1,λl bs H' nl _ el nd b2 hh' g=>Qy R ha hm hh' ic hc g nl el kk (h bs nd b2)
def ints_at(R:Rel C Z I α H M)(r:Rep C I α v (.lst (ns.map .int))):∃a,v=.ref a/\H a=some (.lst (ns.map V.int))/\I a=some (.lst (ns.map V.int)):=by
 let⟨_,_,rfl,e,r⟩:=r.inv;rw[r.of_ints ns]at e;exists ·,R.sub _ _ e,e
def Zh8{k:Nat}{p a:Addr}(R:Rel C Z I α H M)(ha:α[k]?=some p)(hm:M[k]?=some .hand)(e:I a=some o):a≠p:=λz=>by
 rw[z,(R.cel k p _ ha hm).2]at e;cases e
def Zfm{k:Nat}{p c:Addr}{cs:List Int}{K:K3}(R:Rel C Z I α H M)(ha:α[k]?=some p)(hm:M[k]?=some .hand)(hh:HandAt H' p c)(ic:I c=some (.lst (cs.map V.int)))(hc:cs≠[]/\cs.length<=63/\∀c∈cs,0<=c)(g:Grow p H H')(nl:H l=none)(wa:Zde H' l ws)(kk:Fin C Z I α K Q)(h:K (.lst (ws.map wD)) M):Q (.ref l) H':=by
 let R1:=R.grow ha hm hh ic hc g;let⟨I',s,R',f⟩:=R1.full;let⟨us,eu,pu⟩:=wa;exact kk _ _ I' α H' M s (Ji _) R' (.lst (f _ _ eu (R.out nl)) (Nk (λv a z=>Zvp (λb xs e=>f _ _ e (R1.tupOut e)) z) pu)) h
inductive dTable(ds:List D)(M:Mem)(K:K3):Prop
 |mk:∀(k:Nat)(ws:List (List Int))(ss:List Int),ds=[.cell k,.lst (ws.map wD),.lst (ss.map .int)]->(M[k]?=some .hand/\(WOk ws/\ws.length<=28/\ss.Nodup/\ws.length<=ss.length/\ss.length<=100)/\∀L:List Pr,Free L->Fits L->(L.map (·.2)).Perm ws->K (.lst (L.map pD)) M)->dTable ds M K
inductive dText(ds:List D)(M:Mem)(K:K3):Prop
 |mk:∀(k:Nat)(ss:List Int)(m:Int),ds=[.cell k,.lst (ss.map .int),.int m]->(M[k]?=some .hand/\(0<=m/\m<=200)/\∀ts:List Int,(∀t∈ts,t∈ss)->(ts.length:Int)<=m->K (.lst (ts.map .int)) M)->dText ds M K
def Zud{E:XK}(h:spOf C dText vs H Q E):Zmh vs H Q E:=by
 let⟨Z,I,α,M,ds,K,R,r,⟨k,ss,m,rfl,hm,⟨h1,h2⟩,h⟩,kk⟩:=h;refine Reps.e3 r λ_ _ _ r1 r2 r3=>?_;cases r3.inv;let⟨p,rfl,ha⟩:=r1.inv;let⟨c,cs,hh,ic,hc⟩:=R.hand ha hm;let⟨sa,rfl,es,is⟩:=ints_at R r2;exists p,c,sa,ss,m,rfl,hh,es,Zh8 R ha hm is,h1,h2,λl ts H' nl _ el hts hl hh' g=>Qy R ha hm hh' ic hc g nl el kk (h ts hts hl)
end
section
variable{C:Cf}{tc:TE}{ua uc:TE3}{t:TA}{u:TA3}
inductive uRev_3(K:K3)(d:D)(M2:Mem):Prop
 |mk:∀xs,Xg M2 d=some xs->K (.lst xs.reverse) M2->uRev_3 K d M2
abbrev Zqv(K:K3)(d:D):Option Int->Mem->Prop:=λk M2=>k=some (-1)/\uRev_3 K d M2
abbrev Zqw(us:TO3)(ρ:Ev)(K:K3):D->Mem->Prop:=λd M1=>us ρ M1 (Zqv K d)
def uRev(ua:TE3)(us:TO3):TE3:=λρ M K=>ua ρ M (Zqw us ρ K)
def Zvb{ts:TO}{us:TO3}(ha:SimE C Z ta ua)(hs:SimO C Z ts us):SimE C Z (tRev C.k ta ts) (uRev ua us):=λI α σ H ρ M K Q R E h k =>
 ha I α σ H ρ M _ _ R E h λv d I1 α1 H1 M1 s1 p1 R1 r1 h1 =>
  hs I1 α1 σ H1 ρ M1 _ _ R1 (E.mono s1 p1) h1 λo I2 α2 H2 M2 s2 p2 R2 h2=>by
   let⟨ho,xs,e,h2⟩:=h2;let⟨a,vs,rfl,ea,ra⟩:=W1 R2 (r1.mono s2 p2) e;exists ho,a,vs,rfl,ea,λp hp=>?_;let⟨R3,s3,e3⟩:=R2.new (o:=.lst vs.reverse) hp;exact k _ _ _ α2 _ M2 (s1.trans (s2.trans s3)) (p1.trans p2) R3 (.lst e3 (ra.rev.mono s3 (Ji _))) h2
def valD[DecidableEq κ](kvs:List (κ×D))(k:κ):Option D:=(kvs.find? λkv=>decide (kv.1=k)).map (·.2)
def putD[DecidableEq κ](kvs:List (κ×D))(k:κ)(v:D):List (κ×D) :=
 if(kvs.any λkv=>decide (kv.1=k))=true then kvs.map (λkv=>if kv.1=k then(kv.1,v)else kv)else kvs++[(k,v)]
def Zil:D->Option Key
 |.int i=>some (.inl i)
 |.str s=>some (.inr s)
 |_=>none
def Za8:List D->Option (List Key)
 |[]=>some []
 |d::r=>match Zil d,Za8 r with|some k,some ks=>some (k::ks)|_,_=>none
def tkOf:D->Option (List Key)
 |.tup ds=>Za8 ds
 |_=>none
section
theorem Qn{d:D}{k:Key}(r:Rep C I α v d)(h:Zil d=some k):v=kV k:=by
 cases r with
 |int i=>cases h;rfl
 |str i=>cases h;rfl
 |_=>cases h
theorem Sv:∀{vs:List V}{ds:List D}{ks:List Key},Reps C I α vs ds->Za8 ds=some ks->vs=ks.map kV
 |_,_,_,.nil,h=>by cases h;rfl
 |_,_,ks,.cons (d:=d) (ds:=ds) a b,h=>by
  unfold Za8 at h;cases h1:Zil d with
  |none=>simp only[h1]at h;cases h
  |some k =>
   cases h2:Za8 ds with
   |none=>simp only[h1,h2]at h;cases h
   |some r =>
    simp only[h1,h2]at h;cases h;rw[Qn a h1,Sv b h2];rfl
theorem RepK.len:∀{vs:List (Key×V)}{ds:List (Key×D)},RepK C I α vs ds->vs.length=ds.length:=by
 intro _ _ hz9;cases hz9 with
 |nil=>
  exact rfl
 |cons _ b=>
  exact by rw[Jv,Jv,RepK.len b]
theorem RepT.len:∀{vs:List (List Key×V)}{ds:List (List Key×D)},RepT C I α vs ds->vs.length=ds.length:=by
 intro _ _ hz9;cases hz9 with
 |nil=>
  exact rfl
 |cons _ b=>
  exact by rw[Jv,Jv,RepT.len b]
def Zal[DecidableEq κ]{k k':κ}{d:D}{r:List (κ×D)}:valD ((k',d)::r) k=if k'=k then some d else valD r k:=by
 unfold valD;rw[Bg]
 by_cases h:k'=k
 .simp[h]
 .simp[h]
def Zak[DecidableEq κ]{k k':κ}{d:V}{r:List (κ×V)}:valV ((k',d)::r) k=if k'=k then some d else valV r k:=by
 unfold valV;rw[Bg]
 by_cases h:k'=k
 .simp[h]
 .simp[h]
theorem RepK.val{k:Key}:∀{vs:List (Key×V)}{ds:List (Key×D)},RepK C I α vs ds->(valD ds k=none/\valV vs k=none)\/∃d v,valD ds k=some d/\valV vs k=some v/\Rep C I α v d
 |_,_,.nil=>.inl ⟨rfl,rfl⟩
 |_,_,.cons (k:=k') (v:=v) (d:=d) a b=>by
  rw[Zal,Zak]
  by_cases h:k'=k
  .rw[Fw h,Fw h];exact .inr ⟨d,v,rfl,rfl,a⟩
  .rw[Fv h,Fv h];exact RepK.val b
theorem RepT.val{k:List Key}:∀{vs:List (List Key×V)}{ds:List (List Key×D)},RepT C I α vs ds->(valD ds k=none/\valV vs k=none)\/∃d v,valD ds k=some d/\valV vs k=some v/\Rep C I α v d
 |_,_,.nil=>.inl ⟨rfl,rfl⟩
 |_,_,.cons (k:=k') (v:=v) (d:=d) a b=>by
  rw[Zal,Zak]
  by_cases h:k'=k
  .rw[Fw h,Fw h];exact .inr ⟨d,v,rfl,rfl,a⟩
  .rw[Fv h,Fv h];exact RepT.val b
theorem RepK.any{k:Key}:∀{vs:List (Key×V)}{ds:List (Key×D)},RepK C I α vs ds->(vs.any λkv=>decide (kv.1=k))=(ds.any λkv=>decide (kv.1=k)):=by
 intro _ _ hz9;cases hz9 with
 |nil=>
  exact rfl
 |cons a b=>
  exact by rw[B4,B4,RepK.any b]
theorem RepT.any{k:List Key}:∀{vs:List (List Key×V)}{ds:List (List Key×D)},RepT C I α vs ds->(vs.any λkv=>decide (kv.1=k))=(ds.any λkv=>decide (kv.1=k)):=by
 intro _ _ hz9;cases hz9 with
 |nil=>
  exact rfl
 |cons a b=>
  exact by rw[B4,B4,RepT.any b]
theorem RepK.app:∀{vs ws:List (Key×V)}{ds es:List (Key×D)},RepK C I α vs ds->RepK C I α ws es->RepK C I α (vs++ws) (ds++es):=by
 intro _ _ _ _ hz9 s;cases hz9 with
 |nil=>
  exact s
 |cons r t=>
  exact .cons r (RepK.app t s)
theorem RepT.app:∀{vs ws:List (List Key×V)}{ds es:List (List Key×D)},RepT C I α vs ds->RepT C I α ws es->RepT C I α (vs++ws) (ds++es):=by
 intro _ _ _ _ hz9 s;cases hz9 with
 |nil=>
  exact s
 |cons r t=>
  exact .cons r (RepT.app t s)
theorem RepK.mapPut{k:Key}{d:D}(r:Rep C I α v d):∀{vs:List ((Key)×V)}{ds:List ((Key)×D)},RepK C I α vs ds->RepK C I α (vs.map λkv=>if kv.1=k then(kv.1,v)else kv) (ds.map λkv=>if kv.1=k then(kv.1,d)else kv)
 |_,_,.nil=>.nil
 |_,_,.cons (k:=k') a b=>by
  rw[Jo,Jo]
  by_cases e:k'=k
  .simp only[e,if_true];exact .cons r (RepK.mapPut r b)
  .simp only[e,if_false];exact .cons a (RepK.mapPut r b)
def RepK.put{k:Key}{d:D}{vs:List ((Key)×V)}{ds:List ((Key)×D)}(h:RepK C I α vs ds)(r:Rep C I α v d):RepK C I α (putK vs k v) (putD ds k d):=by
 unfold putK putD;rw[h.any]
 split
 .exact RepK.mapPut r h
 .exact h.app (.cons r .nil)
theorem RepT.mapPut{k:List Key}{d:D}(r:Rep C I α v d):∀{vs:List ((List Key)×V)}{ds:List ((List Key)×D)},RepT C I α vs ds->RepT C I α (vs.map λkv=>if kv.1=k then(kv.1,v)else kv) (ds.map λkv=>if kv.1=k then(kv.1,d)else kv)
 |_,_,.nil=>.nil
 |_,_,.cons (k:=k') a b=>by
  rw[Jo,Jo]
  by_cases e:k'=k
  .simp only[e,if_true];exact .cons r (RepT.mapPut r b)
  .simp only[e,if_false];exact .cons a (RepT.mapPut r b)
def RepT.put{k:List Key}{d:D}{vs:List ((List Key)×V)}{ds:List ((List Key)×D)}(h:RepT C I α vs ds)(r:Rep C I α v d):RepT C I α (putK vs k v) (putD ds k d):=by
 unfold putK putD;rw[h.any]
 split
 .exact RepT.mapPut r h
 .exact h.app (.cons r .nil)
def Rm(M:Mem):D->Option (List (Key×D))
 |.dct kvs=>some kvs
 |.cell k=>match M[k]? with|some (.dct kvs)=>some kvs|some (.drK kvs)=>some kvs|some (.dfK _ _ kvs)=>some kvs|_=>none
 |_=>none
def Zp3(M:Mem):D->Option (List (List Key×D))
 |.dcT kvs=>some kvs
 |.cell k=>match M[k]? with|some (.dcT kvs)=>some kvs|some (.drT kvs)=>some kvs|_=>none
 |_=>none
theorem Znd{d:D}{kvs:List (Key×D)}(R:Rel C Z I α H M)(r:Rep C I α v d)(h:Rm M d=some kvs):∃a vs,v=.ref a/\Rd H a (.dK vs)/\RepK C I α vs kvs:=by
 cases r with
 |dct e r=>cases h;exists _,·,.inl (R.sub _ _ e),r
 | @cell a k e =>
  unfold Rm at h;cases hm:M[k]? with
  |none=>simp only[hm]at h;cases h
  |some m =>
   cases m with
   |dct es=>simp only[hm]at h;cases h;let⟨vs,e1,r⟩:=(R.cel k a _ e hm).1;exists _,·,.inl e1,r
   |drK es=>simp only[hm]at h;cases h;let⟨vs,e1,r⟩:=(R.cel k a _ e hm).1;exists _,·,e1,r
   |dfK o vs es=>simp only[hm]at h;cases h;let⟨e1,r⟩:=(R.cel k a _ e hm).1;exists _,·,.inr ⟨o,e1⟩,r
   |_=>simp only[hm]at h;cases h
 |_=>cases h
theorem Ztp{d:D}{kvs:List (List Key×D)}(R:Rel C Z I α H M)(r:Rep C I α v d)(h:Zp3 M d=some kvs):∃a vs,v=.ref a/\Rd H a (.dT vs)/\RepT C I α vs kvs:=by
 cases r with
 |dcT e r=>cases h;exists _,·,.inl (R.sub _ _ e),r
 | @cell a k e =>
  unfold Zp3 at h;cases hm:M[k]? with
  |none=>simp only[hm]at h;cases h
  |some m =>
   cases m with
   |dcT es=>simp only[hm]at h;cases h;let⟨vs,e1,r⟩:=(R.cel k a _ e hm).1;exists _,·,.inl e1,r
   |drT es=>simp only[hm]at h;cases h;let⟨vs,e1,r⟩:=(R.cel k a _ e hm).1;exists _,·,e1,r
   |_=>simp only[hm]at h;cases h
 |_=>cases h
def dGet(M:Mem)(d e:D)(o:Option D):Prop:=(∃kvs k,Rm M d=some kvs/\Zil e=some k/\o=valD kvs k)\/∃kvs k,Zp3 M d=some kvs/\tkOf e=some k/\o=valD kvs k
def Zc8{w:V}{d e:D}{o:Option D}(R:Rel C Z I α H M)(r1:Rep C I α v d)(r2:Rep C I α w e)(h:dGet M d e o):∃a o',v=.ref a/\IsD H a/\DGet H a w o'/\((o=none/\o'=none)\/∃x y,o=some x/\o'=some y/\Rep C I α y x):=by
 rcases h with⟨kvs,k,e1,e2,rfl⟩|⟨kvs,k,e1,e2,rfl⟩
 .let⟨a,vs,rfl,ea,ra⟩:=Znd R r1 e1;exists a,valV vs k,rfl,.inl ⟨vs,ea⟩,by rw[Qn r2 e2];exact .inl ⟨vs,k,ea,rfl,rfl⟩,?_;rcases ra.val (k:=k)with⟨h1,h2⟩|⟨x,y,h1,h2,h3⟩
  .exact .inl ⟨h1,h2⟩
  .exact .inr ⟨x,y,h1,h2,h3⟩
 .let⟨a,vs,rfl,ea,ra⟩:=Ztp R r1 e1;cases r2 with
  | @tup b bs ds eb rb =>
   let hb:H b=some (.tup (k.map kV)):=by rw[<-Sv rb e2];exact R.sub _ _ eb
   exists a,valV vs k,rfl,.inr ⟨vs,ea⟩,.inr ⟨vs,k,b,ea,rfl,hb,rfl⟩,?_;rcases ra.val (k:=k)with⟨h1,h2⟩|⟨x,y,h1,h2,h3⟩
   .exact .inl ⟨h1,h2⟩
   .exact .inr ⟨x,y,h1,h2,h3⟩
  |_=>cases e2
end
inductive uDGet_2(K:K3)(d:D)(e:D)(M2:Mem):Prop
 |mk:∀v,dGet M2 d e (some v)->K v M2->uDGet_2 K d e M2
abbrev Zny(ub:TE3)(ρ:Ev)(K:K3):D->Mem->Prop:=λd M1=>ub ρ M1 (uDGet_2 K d)
def Zuz(ua ub:TE3):TE3:=λρ M K=>ua ρ M (Zny ub ρ K)
def Zmr(ha:SimE C Z ta ua)(hb:SimE C Z tb ub):SimE C Z (Zrv ta tb) (Zuz ua ub):=λI α σ H ρ M K Q R E h k =>
 ha I α σ H ρ M _ _ R E h λv d I1 α1 H1 M1 s1 p1 R1 r1 h1 =>
  hb I1 α1 σ H1 ρ M1 _ _ R1 (E.mono s1 p1) h1 λw e I2 α2 H2 M2 s2 p2 R2 r2 h2=>by
   let⟨x,g,h2⟩:=h2;let⟨a,o',rfl,_,g2,z⟩:=Zc8 R2 (r1.mono s2 p2) r2 g;rcases z with⟨z,_⟩|⟨x',y,z1,z2,z3⟩
   .cases z
   .cases z1;subst z2;exists a,y,rfl,g2,k _ _ I2 α2 H2 M2 (s1.trans s2) (p1.trans p2) R2 z3 h2
inductive uDIn_2(K:K3)(e:D)(d:D)(M2:Mem):Prop
 |mk:∀o,dGet M2 d e o->K (.bl o.isSome) M2->uDIn_2 K e d M2
abbrev Zrb(ua:TE3)(ρ:Ev)(K:K3):D->Mem->Prop:=λe M1=>ua ρ M1 (uDIn_2 K e)
def uDIn(ub ua:TE3):TE3:=λρ M K=>ub ρ M (Zrb ua ρ K)
inductive uDNotIn_2(K:K3)(e:D)(d:D)(M2:Mem):Prop
 |mk:∀o,dGet M2 d e o->K (.bl (!o.isSome)) M2->uDNotIn_2 K e d M2
abbrev Zgd(ua:TE3)(ρ:Ev)(K:K3):D->Mem->Prop:=λe M1=>ua ρ M1 (uDNotIn_2 K e)
def Znx(ub ua:TE3):TE3:=λρ M K=>ub ρ M (Zgd ua ρ K)
def Zvl(hb:SimE C Z tb ub)(ha:SimE C Z ta ua):SimE C Z (tDIn tb ta) (uDIn ub ua):=λI α σ H ρ M K Q R E h k =>
 hb I α σ H ρ M _ _ R E h λw e I1 α1 H1 M1 s1 p1 R1 r1 h1 =>
  ha I1 α1 σ H1 ρ M1 _ _ R1 (E.mono s1 p1) h1 λv d I2 α2 H2 M2 s2 p2 R2 r2 h2=>by
   let⟨o,g,h2⟩:=h2;let⟨a,o',rfl,_,g2,z⟩:=Zc8 R2 r2 (r1.mono s2 p2) g;let eo:o'.isSome=o.isSome:=by
    rcases z with⟨rfl,rfl⟩|⟨x',y,rfl,rfl,_⟩<;>rfl
   exact⟨a,o',rfl,g2,by rw[eo];exact k _ _ I2 α2 H2 M2 (s1.trans s2) (p1.trans p2) R2 (.bl _) h2⟩
def Zdy(hb:SimE C Z tb ub)(ha:SimE C Z ta ua):SimE C Z (Zgm tb ta) (Znx ub ua):=λI α σ H ρ M K Q R E h k =>
 hb I α σ H ρ M _ _ R E h λw e I1 α1 H1 M1 s1 p1 R1 r1 h1 =>
  ha I1 α1 σ H1 ρ M1 _ _ R1 (E.mono s1 p1) h1 λv d I2 α2 H2 M2 s2 p2 R2 r2 h2=>by
   let⟨o,g,h2⟩:=h2;let⟨a,o',rfl,_,g2,z⟩:=Zc8 R2 r2 (r1.mono s2 p2) g;let eo:o'.isSome=o.isSome:=by
    rcases z with⟨rfl,rfl⟩|⟨x',y,rfl,rfl,_⟩<;>rfl
   exact⟨a,o',rfl,g2,by rw[eo];exact k _ _ I2 α2 H2 M2 (s1.trans s2) (p1.trans p2) R2 (.bl _) h2⟩
def Zra:TE3:=λ_ M K=>K (.cell M.length) (M++[.dct []])
def Zha:SimE C Z Zmg Zra:=λI α σ H ρ M K Q R E h k p hp=>by
 let⟨R2,p2,e2⟩:=R.cell (o:=.dK []) (m:=.dct []) hp λH' e=>⟨[],e,.nil⟩;exact k _ _ I _ _ _ (.refl _) p2 R2 (.cell e2) h
def dPut(M:Mem)(d e v:D)(M':Mem):Prop:=(∃j kvs k,d=.cell j/\M[j]?=some (.dct kvs)/\Zil e=some k/\kvs.length<Cb/\M'=M.set j (.dct (putD kvs k v))) \/
 ∃j kvs k,d=.cell j/\M[j]?=some (.dcT kvs)/\tkOf e=some k/\kvs.length<Cb/\M'=M.set j (.dcT (putD kvs k v))
inductive uDPut_3(E:Ends3)(ρ:Ev)(v:D)(d:D)(e:D)(M3:Mem):Prop
 |mk:∀M4,dPut M3 d e v M4->E.nx ρ M4->uDPut_3 E ρ v d e M3
abbrev Znv(ub:TE3)(E:Ends3)(ρ:Ev)(v:D):D->Mem->Prop:=λd M2=>ub ρ M2 (uDPut_3 E ρ v d)
abbrev Znw(ua:TE3)(ub:TE3)(E:Ends3)(ρ:Ev):D->Mem->Prop:=λv M1=>ua ρ M1 (Znv ub E ρ v)
def Zuy(ua ub uc:TE3):TS3:=λE ρ M=>uc ρ M (Znw ua ub E ρ)
def Zmq(ha:SimE C Z ta ua)(hb:SimE C Z tb ub)(hc:SimE C Z tc uc):SimS C Z (Zsk ta tb tc) (Zuy ua ub uc):=λI α σ H ρ M E D' R RE h F =>
 hc I α σ H ρ M _ _ R RE h λv d0 I1 α1 H1 M1 s1 p1 R1 r1 h1=>ha I1 α1 σ H1 ρ M1 _ _ R1 (RE.mono s1 p1) h1 λx d I2 α2 H2 M2 s2 p2 R2 r2 h2 =>
  hb I2 α2 σ H2 ρ M2 _ _ R2 (RE.mono (s1.trans s2) (p1.trans p2)) h2 λy e I3 α3 H3 M3 s3 p3 R3 r3 h3=>by
   let⟨M4,g,h3⟩:=h3;let rv:=r1.mono (s2.trans s3) (p2.trans p3);let RE3:=RE.mono (s1.trans (s2.trans s3)) (p1.trans (p2.trans p3));rcases g with⟨j,kvs,kk,rfl,e1,e2,hl,rfl⟩|⟨j,kvs,kk,rfl,e1,e2,hl,rfl⟩
   .let⟨a,rfl,ec⟩:=(r2.mono s3 p3).inv;let⟨vs,ea,ra⟩:=(R3.cel j a _ ec e1).1;exists a,·,by rw[Qn r3 e2];exact DPut.k ea (by rw[ra.len];exact hl),?_;exact F.nx I3 α3 σ _ ρ _ (s1.trans (s2.trans s3)) (p1.trans (p2.trans p3)) (R3.put (m:=.dct (putD kvs kk d0)) ec λH' e=>⟨_,e,ra.put rv⟩) RE3 h3
   .let⟨a,rfl,ec⟩:=(r2.mono s3 p3).inv;let⟨vs,ea,ra⟩:=(R3.cel j a _ ec e1).1;cases r3 with
    | @tup b bs ds eb rb =>
     let hb:H3 b=some (.tup (kk.map kV)):=by rw[<-Sv rb e2];exact R3.sub _ _ eb
     exists a,·,DPut.t ea hb (by rw[ra.len];exact hl),?_;exact F.nx I3 α3 σ _ ρ _ (s1.trans (s2.trans s3)) (p1.trans (p2.trans p3)) (R3.put (m:=.dcT (putD kvs kk d0)) ec λH' e=>⟨_,e,ra.put rv⟩) RE3 h3
    |_=>cases e2
abbrev noF(m:Str):Prop:=∀a b c d e:V,Kp m [("pairs",a),("words_by_sign",b),("signs_by_word",c),("begun",d),("word_sizes",e)]=none
abbrev Zkc(sp:Sp3)(K:K3)(d:D):List D->Mem->Prop:=λds M2=>sp (d::ds) M2 K
abbrev Zkd(sp:Sp3)(u:TA3)(ρ:Ev)(K:K3):D->Mem->Prop:=λd M1=>(∃S,d=.code S)/\u ρ M1 (Zkc sp K d)
def Zq5(sp:Sp3)(ua:TE3)(u:TA3):TE3:=λρ M K=>ua ρ M (Zkd sp u ρ K)
def Zg6{m:Str}{sp:Sp3}(hm:noF m)(ha:SimE C Z ta ua)(hr:SimA C Z t u):SimE C Z (Nb C.c m (spOf C sp) [] E0 ta t) (Zq5 sp ua u):=λI α σ H ρ M K Q R E h k =>
 ha I α σ H ρ M _ _ R E h λv d I1 α1 H1 M1 s1 p1 R1 r1 h1=>by
  let⟨⟨S,rfl⟩,h1⟩:=h1;cases r1 with
  | @code x _ hc =>
   let⟨dx,tp,d1,d2,d3,d4,ex,ci⟩:=hc;exists x,dx,·,R1.sub _ _ ex,hm _ _ _ _ _,?_;refine hr I1 α1 σ H1 ρ M1 _ _ R1 (E.mono s1 p1) h1 λvs ds I2 α2 H2 M2 s2 p2 R2 r2 h2=>?_;rw[Jp];exists Z,I2,α2,M2,_,K,R2,.cons (.code (Vz.same ⟨dx,tp,d1,d2,d3,d4,ex,ci⟩ s2)) r2,h2,k.mono (s1.trans s2) (p1.trans p2)
def Met.imp{base:Heap}{C:Addr}{m:Str}{k:Nat}(c:Met P w K mg base C m k ps sp)(h:∀vs H Q E,sp' vs H Q E->sp vs H Q E):Met P w K mg base C m k ps sp' :=
 let⟨f,fd,a,b,e,d⟩:=c
 ⟨f,fd,a,b,e.imp h,d⟩
def Rel.made{k0:Nat}{x:Addr}(R:Rel C Z I α H M)(hk:M[k0]?=some (.tab Pt pos q))(nx:H x=none)(tb:Ve Pt pos q H')(g:∀b o,b≠x->b≠Pt->H b=some o->H' b=some o) :
  ∃I',Same I I'/\Rel C Z I' α H' M/\∀b o,H' b=some o->b∉α->I' b=some o:=by
 let⟨P',eP,⟨rfl,ps0,e0,_⟩,iP⟩:=R.get hk;let hα:∀b,b∈α->b≠x:=λb hb=>by
  let⟨k,hk,rfl⟩:=Gb hb;exact R.cellNe (Jb hk) nx
 let hI:∀b o,I b=some o->b∉α:=λb o e hb=>by
  let⟨k,hk,rfl⟩:=Gb hb;let hk':k<M.length:=by rw[<-R.len];exact hk
  rw[(R.cel k _ _ (Jb hk) (Jb hk')).2]at e;cases e
 let hS:∀b o,I b=some o->H' b=some o:=λb o e=>g b o (λz=>by rw[z,R.sub.free nx]at e;cases e) (λz=>by rw[z,iP]at e;cases e) (R.sub b o e);let s:Same I (λb=>if b∈α then none else H' b):=λb o e=>by
  show(if b∈α then none else H' b)=some o;rw[Fv (hI b o e)];exact hS b o e
 let hc:∀(k:Nat)(a:Addr)(m:MO),k≠k0->α[k]?=some a->M[k]?=some m->H' a=H a:=λk a m ne h1 h2=>by
  let⟨o,eo⟩:=(R.cel k a m h1 h2).1.some;let n2:a≠P':=λz=>by
   let⟨hj,ej⟩:=Jj.mp h1;let⟨hk,ek⟩:=Jj.mp eP;rw[<-ej,<-ek]at z;exact ne ((Br R.nd).mp z)
  exact(g a o (hα a (Gq h1)) n2 eo).trans eo.symm
 exists _,s,⟨R.ai.trans s,R.aa,λb o e=>?_,R.len,R.nd,λk a m h1 h2=>?_⟩,λb o e hb=>?_
 .let e':(if b∈α then none else H' b)=some o:=e
  split at e'
  .cases e'
  .exact e'
 .refine⟨?_,by show(if a∈α then none else H' a)=none;rw[Fw (Gq h1)]⟩
  by_cases ne:k=k0
  .subst ne;rw[eP]at h1;cases h1;rw[hk]at h2;cases h2;let⟨ps,e1,t1,z⟩:=tb;exists rfl,ps,e1,t1,?_;rcases z with z|⟨c,z1,z2⟩
   .exact .inl z
   .refine .inr ⟨c,z1,?_⟩;show(if c∈α then none else H' c)=_;rw[Fv,z2];intro hcα;let⟨j,hj,ec⟩:=Gb hcα;let hj':j<M.length:=by rw[<-R.len];exact hj
    let h1:=Jb hj;let h2:=Jb hj';rw[ec]at h1
    by_cases nj:j=k
    .subst nj;rw[eP]at h1;cases h1;rw[e1]at z2;cases z2
    .let hh:=hc j c _ nj h1 h2;let mo:=(R.cel j c _ h1 h2).1;rw[z2]at hh;cases hm:M[j]with
     |lst ds=>rw[hm]at mo;let⟨vs,e,_⟩:=mo;rw[e]at hh;cases hh
     |dct ds=>rw[hm]at mo;let⟨vs,e,_⟩:=mo;rw[e]at hh;cases hh
     |dcT ds=>rw[hm]at mo;let⟨vs,e,_⟩:=mo;rw[e]at hh;cases hh
     |drK ds=>rw[hm]at mo;let⟨vs,e,_⟩:=mo;rcases e with e|⟨o,e⟩<;>(rw[e]at hh;cases hh)
     |drT ds=>rw[hm]at mo;let⟨vs,e,_⟩:=mo;rcases e with e|⟨o,e⟩<;>(rw[e]at hh;cases hh)
     |dfT o vs ds=>rw[hm]at mo;rw[mo.1]at hh;cases hh
     |dfK o vs ds=>rw[hm]at mo;rw[mo.1]at hh;cases hh
     |ins Cl fs=>rw[hm]at mo;let⟨dx,vs,e,_⟩:=mo;rw[e]at hh;cases hh
     |hand=>rw[hm]at mo;let⟨d,k,c,cs,e,_⟩:=mo;rw[e]at hh;cases hh
     |tab P pos q=>rw[hm]at mo;let⟨_,ps,e,_⟩:=mo;rw[e]at hh;cases hh
     |dcN sh z ds =>
      rw[hm]at mo;cases z with
      |none =>
       let⟨vs,e,_⟩:=mo;rw[e]at hh;exact dnP.ne ⟨.none,none,.fields #[.none,.str q default],#[]⟩ rfl (λh g=>⟨c,_,_,_,rfl,g,rfl,rfl⟩) (HO.ext.inj (Fz hh)).symm
      |some z=>rw[mo.1]at hh;cases hh
  .exact(R.cel k a m h1 h2).1.mono s (Ji _) (hc k a m ne h1 h2)
 .show(if b∈α then none else H' b)=some o;rw[Fv hb];exact e
def Nd(C Pt:Addr)(pos:Pos)(q:Str):Sp:=λvs H Q _=>∃x a dx L,vs=[.ref x,.ref a]/\H x=some (.ins C dx [])/\S1 H a L/\Free L/\Fits L/\Ve Pt pos q H /\
 ∀(H':Hp)(S:List Pr),S.Perm L->Zab S->(∃dx tp d1 d2 d3 d4,H' x=some (.ins C dx [("pairs",.ref tp),("words_by_sign",.ref d1),("signs_by_word",.ref d2),("begun",.ref d3),("word_sizes",.ref d4)])/\CodeIn H' tp d1 d2 d3 d4 S/\H d1=none/\H d2=none/\H d3=none)->Ve Pt pos q H' ->
  (∀b o,b≠x->b≠Pt->H b=some o->H' b=some o)->Q .non H'
def Zno(Pt:Addr)(pos:Pos)(q:Str)(u:TA3):TE3:=λρ M K=>u ρ M λds M1=>∃(k0:Nat)(d:D)(L:List Pr),M1[k0]?=some (.tab Pt pos q)/\ds=[d]/\lsOf M1 d=some (L.map pD)/\(Free L/\Fits L)/\∀S:List Pr,S.Perm L->Zab S->K (.code S) M1
def Zdx(hr:SimA C Z t u):SimE C Z (Ze1 C.c (Nd C.c Pt pos q) [] E0 t) (Zno Pt pos q u):=λI α σ H ρ M K Q R E h k =>
 hr I α σ H ρ M _ _ R E h λvs ds I1 α1 H1 M1 s1 p1 R1 r1 h1=>by
  let⟨k0,d,L,hk,rfl,e1,⟨fr,fi⟩,h1⟩:=h1;intro x dx nx ndx ne;refine Reps.e1 r1 λ_ r1=>?_;let⟨a,vs,rfl,ea,ra⟩:=Pb R1 r1 e1;let⟨P',eP,⟨eqP,ps,ep,tp,cp⟩,iP⟩:=R1.get hk;subst eqP;let sH:Same H1 (upd (upd H1 dx (.own x)) x (.ins C.c dx [])):=(Zl ndx).trans (Zl (by rw[Zo (Ee ne)];exact nx));let ta1:S1 H1 a L:=⟨vs,ea,Zh4 (F:=Zae H1) (f:=pD) (λv a z=>Zvu R1.sub z) ra⟩;let tb1:Ve P' pos q H1:=⟨ps,ep,tp,by
   rcases cp with z|⟨c,z1,z2⟩
   .exact .inl z
   .exact .inr ⟨c,z1,R1.sub _ _ z2⟩⟩
  exists x,a,dx,L,rfl,Zh,ta1.same sH,fr,fi,tb1.same sH,λH' S pm ri ca tb g=>⟨rfl,?_⟩;let⟨I',s',R',f⟩:=R1.made hk nx tb λb o n1 n2 e=>g b o n1 n2 (sH b o e);let xα:x∉α1:=R1.out nx;let⟨dx',tp',d1,d2,d3,d4,ex,⟨⟨vs',a1,a2⟩,⟨k1,b1,b2⟩,⟨k2,c1,c2⟩,⟨k3,f1,f2⟩,⟨k4,g1,g2⟩⟩,n1,n2,n3⟩:=ca;let tupI:∀b xs,H' b=some (.tup xs)->I' b=some (.tup xs):=λb xs e=>f b _ e (R'.tupOut e);let no:∀b o,H' b=some o->(upd (upd H1 dx (.own x)) x (.ins C.c dx [])) b=none->I' b=some o:=λb o e n=>f b o e (R1.out (sH.free n));refine k _ _ I' α1 H' M1 (s1.trans s') p1 R' (.code ⟨dx',tp',d1,d2,d3,d4,f _ _ ex xα,⟨vs',tupI _ _ a1,Paired.mapP a2 λv p z=>?_⟩,⟨k1,no _ _ b1 n1,λp hp=>?_,b2.2⟩,⟨k2,no _ _ c1 n2,c2⟩,⟨k3,no _ _ f1 n3,f2⟩,⟨k4,tupI _ _ g1,g2⟩⟩) (h1 S pm ri)
  .let⟨t,tw,e1,e2,e3⟩:=z;exists t,tw,e1,tupI _ _ e2,tupI _ _ e3
  .let⟨t,u1,u2⟩:=b2.1 p hp;exists t,u1,tupI _ _ u2
end
def Yg :(M++[m])[M.length]?=some m:=by simp
def U1 :(M++[m]).set M.length m'=M++[m']:=by simp
section
variable{C:Cf} 
def Zlb{bs:List Int}{K:K3}(R:Rel C Z I α H M)(nl:H l=none)(s:Same H H')(el:H' l=some (.lst (bs.map V.int)))(kk:Fin C Z I α K Q)(h:K (.cell M.length) (M++[.lst (bs.map .int)])):Q (.ref l) H':=by
 let⟨R2,p2,e2⟩:=(R.same s).cellAt (l:=l) (m:=.lst (bs.map .int)) (R.sub.free nl) (R.out nl) ⟨_,el,.ints bs⟩;exact kk _ _ I _ H' _ (.refl _) p2 R2 (.cell e2) h
def Zjj(R:Rel C Z I α H M)(r:Rep C I α v (.code S)):∃x,v=.ref x/\Vz C.c H x S:=by
 let⟨_,rfl,h⟩:=r.inv;exists ·,h.same R.sub
def Za4{d:D}(R:Rel C Z I α H M)(r:Rep C I α v d)(h:lsOf M d=some (ns.map .int)):∃a,v=.ref a/\H a=some (.lst (ns.map V.int)):=by
 let⟨a,vs,rfl,ea,ra⟩:=Pb R r h;rw[ra.of_ints ns]at ea;exists a,rfl,ea
end
def Rw{x:D}(h:(ns.map D.int)[i]?=some x):∃hi:i<ns.length,x=.int ns[i]:=by
 let⟨hi,e⟩:=Jj.mp h;rw[Ja]at hi;exists hi,?_;rw[<-e,Gv]
def Yr{f:τ->D}{as:List τ}{x:D}(h:(as.map f)[i]?=some x):∃hi:i<as.length,x=f as[i]:=by
 let⟨hi,e⟩:=Jj.mp h;rw[Ja]at hi;exact⟨hi,by rw[<-e,Gv]⟩
def S0{f:τ->D}{as:List τ}{i:Int}{j:Nat}(h:i=j)(hj:j<as.length):L2.atI (as.map f) i=some (f as[j]):=by
 subst h;exact Wy (by rw[Jq,Jb hj];rfl)
def Su{xs:List D}:lsOf (M++[.lst xs]) (.cell M.length)=some xs:=by simp[lsOf]
def Ua{d:D}{xs:List D}(h:lsOf M d=some xs):lsOf M d≠none:=by rw[h];exact λz=>nomatch z
def Zi6{M':Mem}{d:D}{K:K3}(p:M<+:M')(hM:WfM M)(hb:Yn M.length d)(h:K d M):Dk M.length K d M':=by
 let⟨t,rfl⟩:=p;exact .inr ⟨M.length,Jd _,hb,by rw[Fh];exact hM,by rw[Fh];exact h⟩
def Zfr{n:Nat} :Yn n (.lst (ns.map .int)):=Zby (Zjs (λ_=>Zbz) ns)
end L3
variable{M:L3.Mem}{Z Z':L3.Anc}{m m':L3.MO}{ds:List L3.D}{ρ:L3.Ev}{uo ub:L3.TE3}{ua:L3.TA3}{ui:L3.TI3}
namespace L3
def g_nx{d:D}{K:Ev->Mem->Prop}(h:K (ρ.set i (some d)) M):uG i d ρ M K:=h
end L3
namespace L3
open PySem L2
def FinX(C:Cf)(Z:Anc):Prop:=∀Ce d vs fs I' α' H' M',Rel C Z I' α' H' M'->XD I' d vs->RepF C I' α' vs fs->Z.kx Ce fs M'->Z.xe (.ref Ce) d H'
abbrev Sp3X:=List D->Mem->K3->X3->Prop
def W7(C:Cf)(sp:Sp3X):Sp:=λvs H Q E=>∃Z I α M ds K KX,Rel C Z I α H M/\Reps C I α vs ds/\sp ds M K KX/\Fin C Z I α K Q /\
 ∀Ce d vs fs I' α' H' M',Same I I'->α<+:α'->Rel C Z I' α' H' M'->XD I' d vs->RepF C I' α' vs fs->KX Ce fs M'->E (.ref Ce) d H'
section
variable{C:Cf}{t:TA}{u:TA3}
def Rel.re{M':Mem}(R':Rel C Z' I' α' H' M')(R:Rel C Z I α H M)(s:Same I I')(p:α<+:α'):Rel C Z I' α' H' M':=⟨R.ai.trans s,R.aa.trans p,R'.sub,R'.len,R'.nd,R'.cel⟩
def Rel.here(R:Rel C Z I α H M)(E:XK)(k:X3):Rel C ⟨I,α,E,k⟩ I α H M:=⟨.refl _,Ji _,R.sub,R.len,R.nd,R.cel⟩
def Fin.re{K:K3}(k:Fin C Z I α K Q)(R:Rel C Z I α H M):Fin C Z' I α K Q:=λv d I' α' H' M' s p R' r h=>k v d I' α' H' M' s p (R'.re R s p) r h
def FinS.re{K:Ev->Mem->Prop}{Q:St->Hp->Prop}(k:FinS C Z I α K Q)(R:Rel C Z I α H M):FinS C Z' I α K Q:=λI' α' σ' H' ρ' M' s p R' E h=>k I' α' σ' H' ρ' M' s p (R'.re R s p) E h
def FinD.re{E:Ends3}{D':Ends}(k:FinD C Z I α E D')(R:Rel C Z I α H M):FinD C Z' I α E D':=⟨k.nx.re R,k.rt.re R,k.bk.re R,k.ct.re R⟩
abbrev Zkg(sp:Sp3X)(kx:X3)(K:K3):List D->Mem->Prop:=λds M1=>sp ds M1 K kx
def Zrd(sp:Sp3X)(kx:X3)(u:TA3):TE3:=λρ M K=>u ρ M (Zkg sp kx K)
def Zon{sp:Sp3X}{E:XK}{kx:X3}(he:Z.xe=E)(hk:Z.kx=kx)(hx:FinX C Z)(ha:SimA C Z t u):SimE C Z (Zgo (W7 C sp) [] E t) (Zrd sp kx u):=λI α σ H ρ M K Q R RE h k =>
 ha I α σ H ρ M _ _ R RE h λvs ds I1 α1 H1 M1 s1 p1 R1 r1 h1=>by
  subst he hk;rw[Jp];exists Z,I1,α1,M1,ds,K,Z.kx,R1,r1,h1,k.mono s1 p1,λCe d vs fs I' α' H' M' s p R' e f g=>hx Ce d vs fs I' α' H' M' R' e f g
def CalE.imp{base:Heap}{x:Str}{k:Nat}(c:CalE P w K mg base x k ps sp)(h:∀vs H Q E,sp' vs H Q E->sp vs H Q E):CalE P w K mg base x k ps sp' :=
 let⟨f,fd,a,b⟩:=c
 ⟨f,fd,a.imp h,b⟩
inductive uRaise1_1(Cx:Addr)(f:Str)(kx:X3)(ds:List D)(M1:Mem):Prop
 |mk:∀d,ds=[d]->kx Cx [(f,d)] M1->uRaise1_1 Cx f kx ds M1
def Znm(Cx:Addr)(f:Str)(kx:X3)(u:TA3):TS3:=λ_y0 ρ M=>u ρ M (uRaise1_1 Cx f kx)
def Ni{Cx:Addr}{f:Str}{E:XK}{kx:X3}(he:Z.xe=E)(hk:Z.kx=kx)(hx:FinX C Z)(ha:SimA C Z t u):SimS C Z (Zme Cx (spX1 Cx f) E t) (Znm Cx f kx u):=λI α σ H ρ M E3 D' R RE h F =>
 ha I α σ H ρ M _ _ R RE h λvs ds I1 α1 H1 M1 s1 p1 R1 r1 h1=>by
  subst he hk;let⟨d0,rfl,h1⟩:=h1;refine Reps.e1 r1 λ_ r1=>?_
  rename_i y
  exists by simp,λea hea=>⟨ea,y,rfl,Zh,λd hd hne=>⟨rfl,d,?_,?_⟩⟩
  .rw[Zo (Ee hne),Zh]
  .let hd1:H1 d=none:=by rw[Zo hne]at hd;exact hd
   let sH:Same H1 (upd (upd (upd (upd H1 ea (.ext (excN ea Cx none))) ea (.ext (excN ea Cx (some d)))) d (.ext (xdP d [(f,y)]))) ea (.ext (excP ea Cx (some d)))):=λb o e=>by
    let n1:b≠ea:=Zq e hea;let n2:b≠d:=Zq e hd1;rw[Zo n1,Zo n2,Zo n1,Zo n1];exact e
   let⟨I',s',R',fl⟩:=(R1.same sH).full;refine hx Cx (some d) [(f,y)] [(f,d0)] I' α1 _ M1 R' (fl d _ ?_ (R1.out hd1)) (.cons (r1.mono s' (Ji _)) .nil) h1;rw[Zo hne,Zh]
abbrev TH3:=Addr->List (Str×D)->TS3
def SimH(C:Cf)(Z:Anc)(th:TH)(uh:TH3):Prop:=∀I α σ H ρ M(E:Ends3)(D':Ends)Ce d ea fs vs,Rel C Z I α H M->RepE C I α σ ρ->I ea=some (.ext (excP ea Ce d))->XD I d vs->RepF C I α vs fs->uh Ce fs E ρ M->FinD C Z I α E D'->th Ce d ea D' σ H
def Zuj:TH3:=λ_ _ _ _ _=>False
def Zmo:SimH C Z Zrl Zuj:=λ_ _ _ _ _ _ _ _ _ _ _ _ _ _ _ _ _ _ h _=>h.elim
variable{ts:TS}{us:TS3}{thr:TH}{ur:TH3}
def uhNo(K:Cr)(Dc:Addr)(us:TS3)(ur:TH3):TH3:=λCe fs E ρ M=>∃b,L7 K Ce (.ref Dc)=some b/\if b=true then us E ρ M else ur Ce fs E ρ M
theorem Zsc{Dc:Addr}(hs:SimS C Z ts us)(hr:SimH C Z thr ur):SimH C Z (thNo K Dc ts thr) (uhNo K Dc us ur):=λI α σ H ρ M E D' Ce d ea fs vs R RE e1 e2 rf h F=>by
 let⟨b,eb,h⟩:=h;exists b,eb,?_;cases b with
 |true =>
  exact hs I α _ H _ M _ _ R RE h F
 |false =>
  exact hr I α σ H ρ M E D' Ce d ea fs vs R RE e1 e2 rf h F
def uTry(ub:X3->TS3)(uh:TH3):TS3:=λE ρ M=>ub (λCe fs M'=>uh Ce fs E ρ M') E ρ M
theorem Rel.extOut(R:Rel C Z I α H M){Ce:Addr}{d:Option Addr}(h:H l=some (.ext (excP l Ce d))):l∉α:=λhl=>by
 let⟨k,hk,rfl⟩:=Gb hl;let hk':k<M.length:=by rw[<-R.len];exact hk
 let:=(R.cel k _ _ (Jb hk) (Jb hk')).1;cases hm:M[k]with
 |lst ds=>rw[hm]at this;let⟨vs,e,_⟩:=this;rw[h]at e;cases e
 |dct ds=>rw[hm]at this;let⟨vs,e,_⟩:=this;rw[h]at e;cases e
 |dcT ds=>rw[hm]at this;let⟨vs,e,_⟩:=this;rw[h]at e;cases e
 |drK ds=>rw[hm]at this;let⟨vs,e,_⟩:=this;rcases e with e|⟨o,e⟩<;>(rw[h]at e;cases e)
 |drT ds=>rw[hm]at this;let⟨vs,e,_⟩:=this;rcases e with e|⟨o,e⟩<;>(rw[h]at e;cases e)
 |dfT o vs ds=>rw[hm]at this;let e:=this.1;rw[h]at e;cases e
 |dfK o vs ds=>rw[hm]at this;let e:=this.1;rw[h]at e;cases e
 |ins Cl fs=>rw[hm]at this;let⟨dx,vs,e,_⟩:=this;rw[h]at e;cases e
 |hand=>rw[hm]at this;let⟨d,k,c,cs,e,_⟩:=this;rw[h]at e;cases e
 |tab P pos q=>rw[hm]at this;let⟨_,ps,e,_⟩:=this;rw[h]at e;cases e
 |dcN sh z ds =>
  rw[hm]at this;cases z with
  |none =>
   let⟨vs,e,_⟩:=this;rw[h]at e;exact dnP.ne ⟨.ref Ce,d,.fields (Array.replicate 6 .none),#[]⟩ rfl (λh g=>⟨_,_,g,rfl,rfl,rfl,by simp⟩) (HO.ext.inj (Fz e)).symm
  |some z=>have e:=this.1;rw[h]at e;cases e
def Zr1{tb:XK->TS}{th:TH}{ub:X3->TS3}{uh:TH3}(hb:∀(E:XK)(kx:X3)(Z:Anc),Z.xe=E->Z.kx=kx->FinX C Z->SimS C Z (tb E) (ub kx))(hh:SimH C Z th uh):SimS C Z (tTry tb th) (uTry ub uh):=λI α σ H ρ M E D' R RE h F=>by
 refine hb _ _ ⟨I,α,_,_⟩ rfl rfl ?_ I α σ H ρ M E D' (R.here _ _) RE h (F.re R);intro Ce d vs fs I' α' H' M' R' e f g;exists Ce,rfl,λea hea=>?_;let R2:=R'.re R R'.ai R'.aa;let⟨I2,s2,R3,fl⟩:=R2.full;exact hh I2 α' σ H' ρ M' E D' Ce d ea fs vs R3 (RE.mono (Same.trans R'.ai s2) R'.aa) (fl _ _ hea (R2.extOut hea)) (e.mono s2) (f.mono s2 (Ji _)) g (F.mono (Same.trans R'.ai s2) R'.aa)
def Fun.okX3{base:Heap}{x:Str}{f:Addr}{k:Nat}{sp:Sp3X}(F:Fun K x qual st f fd)(S:FnScope N ps (Zg st))(len:∀ds M K KX,sp ds M K KX->ds.length=ps.length)(hbody:∀(cdv:Ca)(A:Kj)(outer:List Env)(s:Cc)(H:Hp)(E:XK),Room k (A.deeper (Hf qual (Zg st) s.heap.objs.size f cdv)) ->
   ∃(t:TS)(u:X3->TS3),PSs (cxE P w K mg base N qual (Zg st) f cdv A outer s H E) (Yi st) t/\(∀(kx:X3)(Z:Anc),Z.xe=E->Z.kx=kx->FinX C Z->SimS C Z t (u kx))/\∀ds M K KX,WfM M->(∀d∈ds,Yn M.length d)->sp ds M K KX->u KX {nx:=λ_ M'=>Dk M.length K .non M',rt:=Dk M.length K} (Pf N ds) M):FnOk P w K mg base (CXE P w) (k+1) f fd ps (W7 C sp):=by
 refine F.okE S (λvs H Q E h=>?_) (λcdv A outer s H vs Q E hr h=>?_)
 .let⟨Z,I,α,M,ds,K,KX,R,r,h,_⟩:=h;rw[r.length];exact len ds M K KX h
 .let⟨t,u,h1,h2,h3⟩:=hbody cdv A outer s H E hr;let⟨Z,I,α,M,ds,K,KX,R,r,h,k,kx⟩:=h;let R1:=R.here E KX;let kd:=(k.re (Z':=⟨I,α,E,KX⟩) R).dk R1.len R1.aa;exists t,h1,h2 KX ⟨I,α,E,KX⟩ rfl rfl (λCe d vs fs I' α' H' M' R' e f g=>kx Ce d vs fs I' α' H' M' R'.ai R'.aa (R'.re R R'.ai R'.aa) e f g) I α _ H _ M _ _ R1 (Qb r N) (h3 ds M K KX R.wf (by rw[<-R.len];exact r.bel) h) ⟨λI1 α1 σ1 H1 ρ1 M1 s1 p1 R1 _ h1=>kd _ _ I1 α1 H1 M1 s1 p1 R1 .non h1,kd,λ_ _ _ _ _ _ _ _ _ _ h=>h.elim,λ_ _ _ _ _ _ _ _ _ _ h=>h.elim⟩
end
def kD:Key->D
 |.inl i=>.int i
 |.inr s=>.str s
section
variable{C:Cf} 
def Zpx{Ce d:Addr}{f:Str}{i:Int}{KX:X3}{E:XK}(R:Rel C Z I α H M)(nd:H d=none)(s:Same H H')(ed:H' d=some (.ext (xdP d [(f,.int i)])))(kx:∀Ce d vs fs I' α' H' M',Same I I'->α<+:α'->Rel C Z I' α' H' M'->XD I' d vs->RepF C I' α' vs fs->KX Ce fs M'->E (.ref Ce) d H')(h:KX Ce [(f,.int i)] M):E (.ref Ce) (some d) H':=by
 let⟨I',s',R',fl⟩:=(R.same s).full;exact kx Ce (some d) _ _ I' α H' M s' (Ji _) R' (fl _ _ ed (R.out nd)) (.cons (.int _) .nil) h
inductive dWriteX(Cn:Addr)(ds:List D)(M:Mem)(K:K3)(KX:X3):Prop
 |mk:∀(S:List Pr)(d:D)(ts:List Int),ds=[.code S,d]->(lsOf M d=some (ts.map .int)/\(Fits S/\ts.length<=1000)/\(∀U:List Pr,Xb S U ts ts.length->K (.cell M.length) (M++[.lst ((Zv U).map .int)]))/\∀(i:Nat)(U:List Pr),i<ts.length->Xb S U ts i->Wj S ts i=true->KX Cn [("at",.int i)] M)->dWriteX Cn ds M K KX
def Zl7{Cn:Addr}{E:XK}(h:W7 C (dWriteX Cn) vs H Q E):Zdp C.c Cn vs H Q E:=by
 let⟨Z,I,α,M,ds,K,KX,R,r,⟨S,d,ts,rfl,e1,⟨h1,h3⟩,ha,hb⟩,kk,kx⟩:=h;refine Reps.e2 r λ_ _ r1 r2=>?_;let⟨x,rfl,ca⟩:=Zjj R r1;let⟨xa,rfl,ex⟩:=Za4 R r2 e1;exists x,xa,S,ts,rfl,ca,h1,ex,h3,λT l H' tx nl s el=>Zlb R nl s el kk (ha T tx),λi T d H' hi tx hl nd s ed=>Zpx R nd s ed kx (hb i T hi tx hl)
end
def Q8{u u':TS3}{En:Ends3}(S:Ev->Mem->Prop)(h1:∀Kn:Ev->Mem->Prop,(∀ρ' M',S ρ' M'->Kn ρ' M')->u {En with nx:=Kn} ρ M)(h2:∀ρ' M',S ρ' M'->u' En ρ' M'):uSeq u u' En ρ M:=h1 _ h2
section
variable{C:Cf} 
inductive add3C(d:D)(e:D)(M:Mem)(K:K3):Prop
 |mk:∀xs ys,lsOf M d=some xs->lsOf M e=some ys->xs.length+ys.length<=Cb->K (.cell M.length) (M++[.lst (xs++ys)])->add3C d e M K
def Zhc:SimR C Z (Zkx C.k) add3C:=λI α H M x y d e K Q R r1 r2 h k=>by
 let⟨xs,ys,e1,e2,hl,h⟩:=h;let⟨a,vs,rfl,ea,ra⟩:=Pb R r1 e1;let⟨b,ws,rfl,eb,rb⟩:=Pb R r2 e2;refine .inr (.inr (.inl ⟨a,b,vs,ws,rfl,rfl,ea,eb,by rw[ra.length,rb.length];exact hl,λp hp=>?_⟩));let⟨R2,p2,e2⟩:=R.cell (o:=.lst (vs++ws)) (m:=.lst (xs++ys)) hp λH' e=>⟨_,e,ra.app rb⟩;exact k _ _ I _ _ _ (.refl _) p2 R2 (.cell e2) h
end
end L3
namespace L2
open PySem PySem.Spec PyProof.Rows
def Fun.okCE{base:Heap}{x:Str}{f:Addr}{kV:Ca}{k:Nat}(lk:K.lookup f=some ⟨oc,od,.func (Lc x qual (Y4 st) (Yi st) (Zg st) .none kV doc pm an cdv ct),osl⟩)(hcd:Ln K cdv qual=true)(S:FnScope N ps (Zg st))(len:∀vs H Q E,sp vs H Q E->vs.length=ps.length)(hbody:∀(A:Kj)(outer:List Env)(s:Cc)(H:Hp)(vs:List V)(Q:VK)(E:XK),Room k (A.deeper (Hf qual (Zg st) s.heap.objs.size f cdv))->sp vs H Q E ->
   ∃t,PSs (cxE P w K mg base N qual (Zg st) f cdv A outer s H E) (Yi st) t/\t {nx:=λ_ H'=>Q .non H',rt:=Q} (Tb N vs) H) :
  FnOk P w K mg base (CXE P w) (k+1) f (Lc x qual (Y4 st) (Yi st) (Zg st) .none kV doc pm an cdv ct) ps sp :=
 Zlv lk hcd S len λA outer s H vs Q E hr hsp=>hbody A outer s H vs Q E hr hsp
end L2
namespace L3
open PySem L2
def Pa(f:Str)(v:D):List (Str×D)->List (Str×D)
 |[]=>[(f,v)]
 |(g,x)::r=>if g=f then(g,v)::r else(g,x)::Pa f v r
section
variable{C:Cf} 
abbrev FldR(C:Cf)(I:Hp)(α:List Addr):Str×V->Str×D->Prop:=λp q=>p.1=q.1/\Rep C I α p.2 q.2
theorem Zbj{f:Str}{d:D}:∀{vs:List (Str×V)}{fs:List (Str×D)},Paired (FldR C I α) vs fs->fs.lookup f=some d->∃v,vs.lookup f=some v/\Rep C I α v d
 |_,_,.nil,h=>nomatch h
 |_,_,.cons (a:=(g,v)) (b:=(g',d')) a r,h=>by
  let⟨e,rv⟩:=a;let e:g=g':=e;subst e;rw[G1]at h⊢;cases z:f==g with
  |true=>rw[z]at h;cases h;exists v,rfl,rv
  |false=>rw[z]at h;exact Zbj r h
theorem Qz{f:Str}:∀{vs:List (Str×V)}{fs:List (Str×D)},Paired (FldR C I α) vs fs->fs.lookup f=none->vs.lookup f=none
 |_,_,.nil,h=>rfl
 |_,_,.cons (a:=(g,v)) (b:=(g',d')) a r,h=>by
  let⟨e,rv⟩:=a;let e:g=g':=e;subst e;rw[G1]at h⊢;cases z:f==g with
  |true=>rw[z]at h;cases h
  |false=>rw[z]at h;exact Qz r h
theorem Zel{f:Str}{d:D}(rv:Rep C I α v d):∀{vs:List (Str×V)}{fs:List (Str×D)},Paired (FldR C I α) vs fs->Paired (FldR C I α) (putF f v vs) (Pa f d fs)
 |_,_,.nil=>.cons ⟨rfl,rv⟩ .nil
 |_,_,.cons (a:=(g,v')) (b:=(g',d')) a r=>by
  let⟨e,rv'⟩:=a;let e:g=g':=e;subst e;unfold putF Pa
  by_cases z:g=f
  .rw[Fw z,Fw z];exact .cons ⟨rfl,rv⟩ r
  .rw[Fv z,Fv z];exact .cons ⟨rfl,rv'⟩ (Zel rv r)
end
section
variable{C:Cf}{ua:TE3}{t:TA}{u:TA3} 
inductive uFldI_1(K:Cr)(f:Str)(Kk:K3)(d:D)(M1:Mem):Prop
 |mk:∀(k:Nat)(Cl:Addr)(fs:List (Str×D))(v:D),d=.cell k->M1[k]?=some (.ins Cl fs)->Cls K Cl->Yp K Cl f->fs.lookup f=some v->Kk v M1->uFldI_1 K f Kk d M1
def Zuw(K:Cr)(f:Str)(ua:TE3):TE3:=λρ M Kk=>ua ρ M (uFldI_1 K f Kk)
def Te{f:Str}(ha:SimE C Z ta ua):SimE C Z (tFld K ta f) (Zuw K f ua):=λI α σ H ρ M Kk Q R E h k =>
 ha I α σ H ρ M _ _ R E h λv d I1 α1 H1 M1 s1 p1 R1 r1 h1=>by
  let⟨j,Cl,fs,w,rfl,e1,cl,na,el,h1⟩:=h1;let⟨a,rfl,ec⟩:=r1.inv;let⟨dx,vs,ea,ra⟩:=(R1.cel j a _ ec e1).1;let⟨v,ev,rv⟩:=Zbj ra el;exists a,Cl,dx,vs,v,rfl,ea,cl,na,ev,k _ _ I1 α1 H1 M1 s1 p1 R1 rv h1
inductive uSetI_2(K:Cr)(f:Str)(E:Ends3)(ρ:Ev)(dv:D)(d:D)(M2:Mem):Prop
 |mk:∀(k:Nat)(Cl:Addr)(fs:List (Str×D)),d=.cell k->M2[k]?=some (.ins Cl fs)->Cls K Cl->Yp K Cl f->fs.length<1000->E.nx ρ (M2.set k (.ins Cl (Pa f dv fs)))->uSetI_2 K f E ρ dv d M2
abbrev Znl(K:Cr)(f:Str)(ua:TE3)(E:Ends3)(ρ:Ev):D->Mem->Prop:=λdv M1=>ua ρ M1 (uSetI_2 K f E ρ dv)
def Zul(K:Cr)(f:Str)(ua ub:TE3):TS3:=λE ρ M=>ub ρ M (Znl K f ua E ρ)
def Zmm{f:Str}(ha:SimE C Z ta ua)(hb:SimE C Z tb ub):SimS C Z (sFld K ta tb f) (Zul K f ua ub):=λI α σ H ρ M E3 D' R RE h F =>
 hb I α σ H ρ M _ _ R RE h λy dv I1 α1 H1 M1 s1 p1 R1 r1 h1=>ha I1 α1 σ H1 ρ M1 _ _ R1 (RE.mono s1 p1) h1 λv d I2 α2 H2 M2 s2 p2 R2 r2 h2=>by
  let⟨j,Cl,fs,rfl,e1,cl,na,hl,h2⟩:=h2;let⟨a,rfl,ec⟩:=r2.inv;let⟨dx,vs,ea,ra⟩:=(R2.cel j a _ ec e1).1;exists a,Cl,dx,vs,rfl,ea,cl,na,by rw[Paired.length ra];exact hl,?_;exact F.nx I2 α2 σ _ ρ _ (s1.trans s2) (p1.trans p2) (R2.put (m:=.ins Cl (Pa f dv fs)) ec λH' e=>⟨dx,_,e,Zel (r1.mono s2 p2) ra⟩) (RE.mono (s1.trans s2) (p1.trans p2)) h2
abbrev Zq0(Kk:K3)(M1:Mem):D->Mem->Prop:=λd M2=>d=.non/\Kk (.cell M1.length) M2
abbrev Zq1(Cl:Addr)(sp:Sp3)(Kk:K3):List D->Mem->Prop:=λds M1=>sp (.cell M1.length::ds) (M1++[.ins Cl []]) (Zq0 Kk M1)
def uMkI(Cl:Addr)(sp:Sp3)(u:TA3):TE3:=λρ M Kk=>u ρ M (Zq1 Cl sp Kk)
def Zvf{sp:Sp3}(ha:SimA C Z t u):SimE C Z (Ze1 Cl (spOf C sp) [] E0 t) (uMkI Cl sp u):=λI α σ H ρ M Kk Q R E h k =>
 ha I α σ H ρ M _ _ R E h λvs ds I1 α1 H1 M1 s1 p1 R1 r1 h1=>by
  intro x dx nx ndx ne;let R2:=R1.same (Zl (o:=.own x) ndx);let⟨R3,p3,e3⟩:=R2.cell (p:=x) (o:=.ins Cl dx []) (m:=.ins Cl []) (by rw[Zo (Ee ne)];exact nx) λH' e=>⟨dx,[],e,.nil⟩;rw[Jp];exists Z,I1,α1++[x],_,_,_,R3,.cons (.cell e3) (r1.mono (.refl _) p3),h1,λv d I' α' H' M' s p R' r h'=>?_;let⟨rfl,h'⟩:=h';cases r.inv;exists rfl,k _ _ I' α' H' M' (s1.trans s) ((p1.trans p3).trans p) R' (.cell ?_) h';let⟨tl,rfl⟩:=p;rw[J0 (by have:=(Jj.mp e3).1;exact this)];exact e3
abbrev Zka(sp:Sp3)(Kk:K3)(d:D):List D->Mem->Prop:=λds M2=>sp (d::ds) M2 Kk
abbrev Zkb(Cl:Addr)(m:Str)(sp:Sp3)(u:TA3)(ρ:Ev)(Kk:K3):D->Mem->Prop:=λd M1=>(∃(k:Nat)(fs:List (Str×D)),d=.cell k/\M1[k]?=some (.ins Cl fs)/\fs.lookup m=none)/\u ρ M1 (Zka sp Kk d)
def Zq4(Cl:Addr)(m:Str)(sp:Sp3)(ua:TE3)(u:TA3):TE3:=λρ M Kk=>ua ρ M (Zkb Cl m sp u ρ Kk)
def V1{m:Str}{sp:Sp3}(ha:SimE C Z ta ua)(hr:SimA C Z t u):SimE C Z (Nb Cl m (spOf C sp) [] E0 ta t) (Zq4 Cl m sp ua u):=λI α σ H ρ M Kk Q R E h k =>
 ha I α σ H ρ M _ _ R E h λv d I1 α1 H1 M1 s1 p1 R1 r1 h1=>by
  let⟨⟨j,fs,rfl,e1,el⟩,h1⟩:=h1;let⟨a,rfl,ec⟩:=r1.inv;let⟨dx,vs,ea,ra⟩:=(R1.cel j a _ ec e1).1;exists a,dx,vs,rfl,ea,Qz ra el,?_;refine hr I1 α1 σ H1 ρ M1 _ _ R1 (E.mono s1 p1) h1 λvs ds I2 α2 H2 M2 s2 p2 R2 r2 h2=>?_;rw[Jp];exists Z,I2,α2,M2,_,Kk,R2,.cons ((Rep.cell ec).mono s2 p2) r2,h2,k.mono (s1.trans s2) (p1.trans p2)
end
end L3
namespace L2
open PySem PySem.Spec PyProof.Rows
section
def Zda:Wr X (.type "range") (λxs H Q=>∃i j,xs=[.int i,.int j]/\∀p,H p=none->Q (.ref p) (upd H p (.rng i j))):=by
 intro pq s σ H xs us Q I r h;let⟨i,j,rfl,q⟩:=h;let⟨u,w',rfl,ru,rw'⟩:=Zj4 r;let⟨t,rfl⟩:=ru;let⟨t',rfl⟩:=rw';refine call_range_2 ?_;exists .ref s.heap.objs.size,_,I.laid (o:=.rng i j) (λb o e=>Fs _ e) (Jd _) ⟨t,t',_,Ft _ rfl⟩,rfl,q _ (I.hok.fresh (Jd _))
def rngV(i:Int)(n:Nat):List V:=(Cv n).map λk:Nat=>V.int (i+k)
theorem Zf4:∀{xs:List V}{us:List Ca},xs.length=us.length->(∀(i:Nat)x u,xs[i]?=some x->us[i]?=some u->RelV x u)->Vals xs us
 |[],[],_,_=>.nil
 |x::xs,u::us,e,h=>.cons (h 0 x u rfl rfl) (Zf4 (by simpa using e) λi y v a b=>h (i+1) y v (by simpa using a) (by simpa using b))
theorem Rh(hc:X.calm=true):Wr X (.type "list") (λxs H Q=>∃p i j,xs=[.ref p]/\H p=some (.rng i j)/\(-(2 ^ 62)<=i/\i<2 ^ 62/\-(2 ^ 62)<=j/\j<2 ^ 62/\(j-i).toNat<=1000)/\∀l,H l=none->Q (.ref l) (upd H l (.lst (rngV i (j-i).toNat)))):=by
 intro pq s σ H xs us Q I r h;let⟨p,i,j,rfl,ep,⟨h1,h2,h3,h4,h5⟩,q⟩:=h;let⟨u,rfl,rx⟩:=Tl r;cases rx;let⟨t,u,v,e⟩:=I.hok p _ ep;refine call_list_range (n:=(j-i).toNat) (I.ok.hd hc) e (small_one h1 h2 h3 h4) (by rw[rangeSize_one];split<;>lia) (Jy h5 nofun) λh' tk acc' c' kp e' hacc=>?_;let hl:(rngV i (j-i).toNat).length=(j-i).toNat:=by unfold rngV;rw[Ja,List.length_range]
 exists .ref s.heap.objs.size,_,I.laid (t':=tk) (o:=.lst (rngV i (j-i).toNat)) kp (Jd _) ⟨by rw[hl];exact Jy h5 nofun,acc'.toList,c',Zf4 (by rw[hl,G7,hacc.1]) λk x u e1 e2=>?_,by simpa using e'⟩,rfl,q _ (I.hok.fresh (Jd _));let e2':acc'[k]?=some u:=by simpa using e2
 let⟨t,rfl⟩:=hacc.2 k u e2';unfold rngV at e1;rw[Jq]at e1;cases hr:(Cv (j-i).toNat)[k]? with
 |none=>rw[hr]at e1;cases e1
 |some z =>
  rw[hr]at e1;cases e1;let⟨hk,ez⟩:=Jj.mp hr;rw[Mf]at ez;subst ez;exact⟨t,by rw[Jfn]⟩
end
end L2
namespace L3
open PySem L2
section
variable{C:Cf}{ta:TA} 
def rngD(i:Int)(n:Nat):List D:=(Cv n).map λk:Nat=>D.int (i+k)
def Zd0(i:Int)(n:Nat):Reps C I α (rngV i n) (rngD i n):=by
 let:=Reps.ints (C:=C) (I:=I) (α:=α) ((Cv n).map λk:Nat=>i+(k:Int));rw[Gh,Gh]at this;exact this
inductive uLR_1(K:K3)(ds:List D)(M1:Mem):Prop
 |mk:∀i j:Int,ds=[.int i,.int j]->(-(2 ^ 62)<=i/\i<2 ^ 62/\-(2 ^ 62)<=j/\j<2 ^ 62/\(j-i).toNat<=1000)->K (.lst (rngD i (j-i).toNat)) M1->uLR_1 K ds M1
def uLR(ua:TA3):TE3:=λρ M K=>ua ρ M (uLR_1 K)
def Zg7(ha:SimA C Z ta ua):SimE C Z (tCB (λxs H Q=>∃p i j,xs=[.ref p]/\H p=some (.rng i j)/\(-(2 ^ 62)<=i/\i<2 ^ 62/\-(2 ^ 62)<=j/\j<2 ^ 62/\(j-i).toNat<=1000)/\∀l,H l=none->Q (.ref l) (upd H l (.lst (rngV i (j-i).toNat))))
  (Zao (tCB (λxs H Q=>∃i j,xs=[.int i,.int j]/\∀p,H p=none->Q (.ref p) (upd H p (.rng i j))) ta) tNil)) (uLR ua):=λI α σ H ρ M K Q R E h k =>
 ha I α σ H ρ M _ _ R E h λvs ds I1 α1 H1 M1 s1 p1 R1 r1 h1=>by
  let⟨i,j,rfl,hb,h1⟩:=h1;refine Reps.e2 r1 λ_ _ a b=>?_;cases a;cases b;exists i,j,rfl,λp hp=>?_;exists p,i,j,rfl,Zh,hb,λl hl=>?_;let R2:=R1.same (Zl (o:=.rng i j) hp);let⟨R3,s3,e3⟩:=R2.new (o:=.lst (rngV i (j-i).toNat)) hl;exact k _ _ _ α1 _ M1 (s1.trans s3) p1 R3 (.lst e3 (Zd0 i _)) h1
end
section
variable{C:Cf} 
inductive dWord(ds:List D)(M:Mem)(K:K3):Prop
 |mk:∀(S:List Pr)(s:Int),ds=[.code S,.int s]->((∀p∈S,p.1=s->K (wD p.2) M)/\((∀p∈S,p.1≠s)->K .non M))->dWord ds M K
def Zuc{E:XK}(h:spOf C dWord vs H Q E):Zgr C.c vs H Q E:=by
 let⟨Z,I,α,M,ds,K,R,r,⟨S,s,rfl,h1,h2⟩,kk⟩:=h;refine Reps.e2 r λ_ _ r1 r2=>?_;cases r2.inv;let⟨_,rfl,hc⟩:=r1.inv;exists _,S,s,rfl,hc.same R.sub,λp hp e t et=>?_,λhn=>kk _ _ I α H M (.refl _) (Ji _) R .non (h2 hn);let⟨I2,s2,R2,f⟩:=R.full;exact kk _ _ I2 α H M s2 (Ji _) R2 (.tup (f _ _ et (R.tupOut et)) (.ints _)) (h1 p hp e)
end
theorem Wo{d:D}{xs:List D}(h:lsOf M d=some xs):tyOf M d=some .list/\Xg M d=some xs/\Q9 M d=some xs:=by
 cases d with
 |lst ys=>cases h;exists rfl,rfl,rfl
 |cell k =>
  simp only[lsOf]at h;cases hm:M[k]? with
  |none=>rw[hm]at h;cases h
  |some m =>
   rw[hm]at h;cases m with
   |lst es=>cases h;exact⟨by simp only[tyOf,hm],by simp only[Xg,hm],by simp only[Q9,Xg,hm]⟩
   |_=>cases h
 |_=>cases h
def Zkz[DecidableEq κ]{k:κ}{v:D}{kvs:List (κ×D)}(h:∀kv∈kvs,kv.1≠k):putD kvs k v=kvs++[(k,v)]:=by
 unfold putD;rw[Fv];intro z;let⟨kv,hk,e⟩:=B8.mp z;exact h kv hk (Fk e)
def Zjg{ns:List τ}{pl:Nat}(h:pl<=ns.length):cut ns (some (pl:Int)) none=ns.drop pl:=by
 unfold cut;rw[HT.sIx_nat,B2 h];show(ns.drop pl).take (ns.length-pl)=_;rw[Be];rw[Gn];exact Jd _
theorem Zgx{d:D}{xs:List D}{K:K3}(h:lsOf M d=some xs)(hk:K (.lst (cut xs lo hi)) M):sl3 d lo hi M K:=by
 cases d with
 |lst ys=>cases h;exists ·,hk
 |cell k=>exact⟨_,(Wo h).2.1,hk⟩
 |_=>cases h
theorem Zub{d e:D}{xs ys:List D}{K:K3}(h1:lsOf M d=some xs)(h2:lsOf M e=some ys)(hl:xs.length+ys.length<=Cb)(hk:K (.lst (xs++ys)) M):add3 d e M K:=by
 cases d with
 |lst zs=>exact⟨_,_,h1,h2,hl,hk⟩
 |cell k=>exact⟨_,_,h1,h2,hl,hk⟩
 |_=>cases h1
theorem Zph{d:D}{xs:List D}{K:K3}(h:lsOf M d=some xs)(hk:K (.int xs.length) M):len3 [d] M K:=by
 cases d with
 |lst zs=>exact⟨_,(Wo h).2.2,hk⟩
 |cell k=>exact⟨_,(Wo h).2.2,hk⟩
 |_=>cases h
def Zeg{d:D}{xs:List D}{K:K3}(h:lsOf M d=some xs)(hk:K (.int xs.length) M):Sk uNil ρ (Zew len3 K) d M:=Zph h hk
theorem Zbc{d v:D}{xs:List D}{i:Int}{K:K3}(h:lsOf M d=some xs)(hv:L2.atI xs i=some v)(hk:K v M):ix3 d (.int i) M K:=by
 cases d with
 |lst zs=>exact⟨_,_,_,(Wo h).2.2,rfl,hv,hk⟩
 |cell k=>exact⟨_,_,_,(Wo h).2.2,rfl,hv,hk⟩
 |_=>cases h
def Ul{xs:List D}{v:D}{j:Nat}{i:Int}(e:i=j)(h:xs[j]?=some v):L2.atI xs i=some v:=by
 rw[e];exact Wy h
def Y1{r:Nat}(h:M[r]?=some m):(M++[m'])[r]?=some m:=by
 rw[J0 (Jj.mp h).1];exact h
def add_int{i j:Int}{K:K3}(h:K (.int (i+j)) M):add3 (.int i) (.int j) M K:=h
end L3
namespace L2
open PySem
def Zdr(C:Addr):Sp:=λvs H Q _=>∃(x:Addr)(S:List Pr),vs=[.ref x]/\Vz C H x S/\∀l us,H l=none->Prs H us S->Q (.ref l) (upd H l (.lst us))
def Zdq:Sp:=λvs H Q _=>∃(p a sa:Addr)(m lg:Int)(bs:List Int),vs=[.ref p,.ref sa,.int m,.int lg]/\HandAt H p a/\H sa=some (.lst (bs.map V.int))/\sa≠p/\bs.Nodup/\bs≠[]/\bs.length<=24/\0<=m/\m<=6/\1<=lg/\lg<=4 /\
 ∀(l:Addr)(ws:List (List Int))(H':Hp),H l=none->l≠p->Zde H' l ws->WOk ws->(∀w∈ws,∀b∈w,b∈bs)->(ws.length:Int)<=bs.length+m*bs.length->HandAt H' p a->Grow p H H'->Q (.ref l) H'
end L2
namespace L3
open PySem L2
section
variable{C:Cf} 
inductive dCTable(ds:List D)(M:Mem)(K:K3):Prop
 |mk:∀(S:List Pr),ds=[.code S]->K (.lst (S.map pD)) M->dCTable ds M K
def Zl9{E:XK}(h:spOf C dCTable vs H Q E):Zdr C.c vs H Q E:=by
 let⟨Z,I,α,M,ds,K,R,r,⟨S,rfl,h⟩,kk⟩:=h;refine Reps.e1 r λ_ r1=>?_;let⟨_,rfl,hc⟩:=r1.inv;exists _,S,rfl,hc.same R.sub,λl us hl ps=>?_;let⟨R2,s2,e2⟩:=R.new (o:=.lst us) hl;let⟨I3,s3,R3,f⟩:=R2.full;exact kk _ _ I3 α _ M (s2.trans s3) (Ji _) R3 (.lst (s3 _ _ e2) (Nk (λv a z=>Zvq (λb xs e=>f _ _ ((Zl hl) _ _ e) (R.tupOut e)) z) ps)) h
inductive dWordsB(ds:List D)(M:Mem)(K:K3):Prop
 |mk:∀(k:Nat)(bs:List Int)(m lg:Int),ds=[.cell k,.lst (bs.map .int),.int m,.int lg]->(M[k]?=some .hand/\(bs.Nodup/\bs≠[]/\bs.length<=24/\0<=m/\m<=6/\1<=lg/\lg<=4)/\∀ws:List (List Int),WOk ws->(∀w∈ws,∀b∈w,b∈bs)->(ws.length:Int)<=bs.length+m*bs.length->K (.lst (ws.map wD)) M)->dWordsB ds M K
theorem Zl8{E:XK}(h:spOf C dWordsB vs H Q E):Zdq vs H Q E:=by
 let⟨Z,I,α,M,ds,K,R,r,⟨k,bs,m,lg,rfl,hm,⟨h1,h2,h3,h4,h5,h6,h7⟩,h⟩,kk⟩:=h;cases r with
 |cons r1 r2 =>
  refine Reps.e3 r2 λ_ _ _ r2 r3 r4=>?_;cases r3.inv;cases r4.inv;let⟨p,rfl,ha⟩:=r1.inv;let⟨c,cs,hh,ic,hc⟩:=R.hand ha hm;let⟨sa,rfl,es,is⟩:=ints_at R r2;exists p,c,sa,m,lg,bs,rfl,hh,es,Zh8 R ha hm is,h1,h2,h3,h4,h5,h6,h7,λl ws H' nl _ wa wo wb wl hh' g=>Zfm R ha hm hh' ic hc g nl wa kk (h ws wo wb wl)
end
theorem Xm{ns:List τ}{pl:Nat}:cut ns none (some (pl:Int))=ns.take pl:=by
 unfold cut;rw[HT.sIx_nat];show(ns.drop 0).take (min pl ns.length-0)=_;rw[Je7,B7,List.take_eq_take_iff];lia
theorem Uh{ns:List τ}{pl:Nat}:cut ns (some (pl:Int)) none=ns.drop pl:=by
 by_cases h:pl<=ns.length
 .exact Zjg h
 .unfold cut;rw[HT.sIx_nat,Jff (),List.drop_length,List.drop_of_length_le (),List.take_nil]
def Nl{N:Mem}{t:Nat}(h:M<+:N)(ht:M.length<=t):M<+:N.set t m:=by
 let⟨X,rfl⟩:=h;rw[Lg _ _ ht];exact Gc _ _
def Sy{N:Mem}{r t:Nat}(h:N[r]?=some m)(ne:r≠t):(N.set t m')[r]?=some m:=by
 rw[Gx (Ee ne)];exact h
def Vk{N:Mem}{r:Nat}(h:N[r]?=some m):r<N.length:=(Jj.mp h).1
def Xj{N:Mem}{xs:List D}{t:Nat}(h:N[t]?=some (.lst xs)):lsOf N (.cell t)=some xs:=by simp only[lsOf,h]
def Ya{N:Mem}{r:Nat}(p:M<+:N)(h:M[r]?=some m):N[r]?=some m:=by
 let⟨X,rfl⟩:=p;rw[J0 (Jj.mp h).1];exact h
end L3
namespace L2
open PySem
def Zfw(H:Hp)(r:Addr)(ns:List Int):Prop:=H r=some (.lst (ns.map V.int))\/H r=some (.tup (ns.map V.int))
def Zfw.same{r:Addr}(h:Zfw H r ns)(s:Same H H'):Zfw H' r ns:=h.imp (s _ _) (s _ _)
def Zn3{r:Addr}(er:Zfw H r ns)(k:∀(t:Addr)(H2:Hp),Same H H2->H2 t=some (.tup (cutV (ns.map V.int) lo hi))->Q (.ref t) H2) :
  L3.rSlU K (.ref r) lo hi H (λv H1=>Zhi K [v] H1 Q):=by
 rcases er with er|er
 .refine .inl ⟨r,_,rfl,SqL.of er,λp hp=>⟨p,_,rfl,.inl ⟨SqL.of Zh,λl hl=>?_⟩⟩⟩;exact k l _ ((Zl hp).trans (Zl hl)) Zh
 .refine .inr (.inl ⟨r,_,rfl,SqT.of er,λe=>⟨r,_,rfl,.inr ⟨SqT.of er,k r H (.refl _) (by rw[e];exact er)⟩⟩,λp hp=>⟨p,_,rfl,.inr ⟨SqT.of Zh,k p _ (Zl hp) Zh⟩⟩⟩)
def Zaq(C:Addr):Sp:=λvs H Q _=>∃(x r:Addr)(S:List Pr)(ns:List Int)(pl:Nat),vs=[.ref x,.ref r,.int pl]/\Vz C H x S/\Fits S/\Zfw H r ns/\pl<=ns.length /\
 (∀p∈S,p.2<+:ns.drop pl->∀(t:Addr)(H':Hp),Same H H'->H' t=some (.tup (p.2.map V.int))->Q (.ref t) H')/\((∀p∈S,¬ p.2<+:ns.drop pl)->∀H',Same H H'->Q .non H')
end L2
namespace L3
open PySem L2
section
variable{C:Cf} 
def rowD(M:Mem):D->Option (List D)
 |.tup xs=>some xs
 |d=>lsOf M d
theorem Zsl{d:D}(R:Rel C Z I α H M)(r:Rep C I α v d)(h:rowD M d=some (ns.map .int)):∃a,v=.ref a/\Zfw H a ns:=by
 cases d with
 |tup xs =>
  cases h;cases r with
  | @tup a vs _ ea ra =>
   rw[Reps.of_ints ns ra]at ea;exists a,rfl,.inr (R.sub _ _ ea)
 |lst xs =>
  let⟨a,rfl,e⟩:=Za4 R r h;exists a,rfl,.inl e
 |cell k =>
  let⟨a,rfl,e⟩:=Za4 R r h;exists a,rfl,.inl e
 |_=>cases h
end
section
variable{C:Cf}{ta tk:TA}{uk:TA3}
inductive uMinD_2(K:K3)(ds:List D)(es:List D)(M2:Mem):Prop
 |mk:∀(d e:D)(ns:List Int),ds=[d]->es=[e]->lsOf M2 d=some (ns.map .int)->K (match mnOf none ns with|none=>e|some n=>.int n) M2->uMinD_2 K ds es M2
abbrev Znp(uk:TA3)(ρ:Ev)(K:K3):List D->Mem->Prop:=λds M1=>uk ρ M1 (uMinD_2 K ds)
def Zuo(ua uk:TA3):TE3:=λρ M K=>ua ρ M (Znp uk ρ K)
def Zr6(ha:SimA C Z ta ua)(hk:SimA C Z tk uk):SimE C Z (Zn5 C.k ta tk) (Zuo ua uk):=λI α σ H ρ M K Q R E h k =>
 ha I α σ H ρ M _ _ R E h λvs ds I1 α1 H1 M1 s1 p1 R1 r1 h1 =>
  hk I1 α1 σ H1 ρ M1 _ _ R1 (E.mono s1 p1) h1 λws es I2 α2 H2 M2 s2 p2 R2 r2 h2=>by
   let⟨d,e,ns,rfl,rfl,el,h2⟩:=h2;refine Reps.e1 r1 λ_ a=>?_;refine Reps.e1 r2 λ_ c=>?_;let⟨x,rfl,ex⟩:=Za4 R2 (a.mono s2 p2) el;exists x,ns,·,rfl,SqL.of ex,?_;refine k _ _ I2 α2 H2 M2 (s1.trans s2) (p1.trans p2) R2 ?_ h2;cases mnOf none ns with
   |none=>exact c
   |some n=>exact .int n
def Zqb{e d:Expr}{p:Pos}(hK:X.K=K)(hc:X.calm=true)(hg:Gl X "min")(hm:X.mg "min"=none)(ha:PA X [e] ta)(hk:PK X [⟨some "default",d,kpos⟩] tk)(he:Cj [e] X.env=[(false,eval e X.env)]:=by rfl) :
  PE X (.Call (.Name "min" p) [e] [⟨some "default",d,kpos⟩] pos) (Zn5 K ta tk):=by subst hK;exact Zoy hc hg hm ha hk he
end
end L3
namespace L2
open PySem PySem.Spec PyProof.Rows
section
def Zsp(K:Cr):V->List V->Hp->VK->Prop:=λx xs H Q=>∃(z:Str)(p:Addr)(ys:List Str),x=.str z/\xs=[.ref p]/\SqL K H p (ys.map V.str)/\(ys.map (·.length)).sum+ys.length*z.length<=16777216/\Q (.str (Txt.join z ys)) H
def Zqd(h:X.K=K):MtR X "str.join" (Zsp K):=by subst h;exact Zo9
def Zbq:Wr X (.type "range") (λxs H Q=>∃j,xs=[.int j]/\∀p,H p=none->Q (.ref p) (upd H p (.rng 0 j))):=by
 intro pq s σ H xs us Q I r h;let⟨j,rfl,q⟩:=h;let⟨u,rfl,ru⟩:=Tl r;let⟨t,rfl⟩:=ru;refine call_range_1 ?_;exists .ref s.heap.objs.size,_,I.laid (o:=.rng 0 j) (λb o e=>Fs _ e) (Jd _) ⟨_,_,_,Ft _ rfl⟩,rfl,q _ (I.hok.fresh (Jd _))
end
end L2
namespace L3
open PySem L2
section
variable{C:Cf}{ua:TE3}{t:TA}{u:TA3} 
abbrev Zj8(sp:Sp3X)(kx:X3)(Kk:K3)(d:D):List D->Mem->Prop:=λds M2=>sp (d::ds) M2 Kk kx
abbrev Zj9(Cl:Addr)(m:Str)(sp:Sp3X)(kx:X3)(u:TA3)(ρ:Ev)(Kk:K3):D->Mem->Prop:=λd M1=>(∃(k:Nat)(fs:List (Str×D)),d=.cell k/\M1[k]?=some (.ins Cl fs)/\fs.lookup m=none)/\u ρ M1 (Zj8 sp kx Kk d)
def Zq3(Cl:Addr)(m:Str)(sp:Sp3X)(kx:X3)(ua:TE3)(u:TA3):TE3:=λρ M Kk=>ua ρ M (Zj9 Cl m sp kx u ρ Kk)
def V0{m:Str}{sp:Sp3X}{E:XK}{kx:X3}(he:Z.xe=E)(hk:Z.kx=kx)(hx:FinX C Z)(ha:SimE C Z ta ua)(hr:SimA C Z t u):SimE C Z (Nb Cl m (W7 C sp) [] E ta t) (Zq3 Cl m sp kx ua u):=λI α σ H ρ M Kk Q R RE h k =>
 ha I α σ H ρ M _ _ R RE h λv d I1 α1 H1 M1 s1 p1 R1 r1 h1=>by
  let⟨⟨j,fs,rfl,e1,el⟩,h1⟩:=h1;subst he hk;let⟨a,rfl,ec⟩:=r1.inv;let⟨dx,vs,ea,ra⟩:=(R1.cel j a _ ec e1).1;exists a,dx,vs,rfl,ea,Qz ra el,?_;refine hr I1 α1 σ H1 ρ M1 _ _ R1 (RE.mono s1 p1) h1 λvs ds I2 α2 H2 M2 s2 p2 R2 r2 h2=>?_;rw[Jp];exists Z,I2,α2,M2,_,Kk,Z.kx,R2,.cons ((Rep.cell ec).mono s2 p2) r2,h2,k.mono (s1.trans s2) (p1.trans p2),λCe d vs fs I' α' H' M' s p R' e f g=>hx Ce d vs fs I' α' H' M' R' e f g
def MetE.calm3{base:Heap}{m:Str}{k:Nat}{sp:Sp3X}(c:MetE P w K mg base Cl m k ps (W7 C sp)):Met P w K mg base Cl m k ps (spOf C λds M K=>sp ds M K λ_ _ _=>False) :=
 L2.MetE.calm c λvs H Q E h=>by
  let⟨Z,I,α,M,ds,K,R,r,h,k⟩:=h;exists Z,I,α,M,ds,K,_,R,r,h,k,λ_ _ _ _ _ _ _ _ _ _ _ _ _ z=>z.elim
theorem Reps.of_strs :∀{vs:List V}(zs:List Str),Reps C I α vs (zs.map D.str)->vs=zs.map V.str
 |_,[],h=>by cases h;rfl
 |_,z::r,h=>by
  cases h with
  |cons a b =>
   cases a;rw[Reps.of_strs r b];rfl
inductive uJoin_1(u:TA3)(ρ:Ev)(K:K3)(d:D)(M1:Mem):Prop
 |mk:∀z,d=.str z->(u ρ M1 λds M2=>∃(e:D)(ys:List Str),ds=[e]/\Xg M2 e=some (ys.map D.str)/\(ys.map (·.length)).sum+ys.length*z.length<=16777216/\K (.str (Txt.join z ys)) M2)->uJoin_1 u ρ K d M1
def Zur(uo:TE3)(u:TA3):TE3:=λρ M K=>uo ρ M (uJoin_1 u ρ K)
def Zsa(ho:SimE C Z to uo)(ha:SimA C Z t u):SimE C Z (tBM C.k "str" (Zsp C.k) to t) (Zur uo u):=λI α σ H ρ M K Q R E h k =>
 ho I α σ H ρ M _ _ R E h λv d I1 α1 H1 M1 s1 p1 R1 r1 h1=>by
  let⟨z,rfl,h1⟩:=h1;cases r1.inv;exists rfl,ha I1 α1 σ H1 ρ M1 _ _ R1 (E.mono s1 p1) h1 λws ds I2 α2 H2 M2 s2 p2 R2 r2 h2=>?_;let⟨e,ys,rfl,el,hz,h2⟩:=h2;refine Reps.e1 r2 λ_ ry=>?_;let⟨a,vs,rfl,ea,ra⟩:=W1 R2 ry el;rw[ra.of_strs ys]at ea;exists z,a,ys,rfl,rfl,ea,hz,k _ _ I2 α2 H2 M2 (s1.trans s2) (p1.trans p2) R2 (.str _) h2
inductive list3D(ds:List D)(M:Mem)(K:K3):Prop
 |mk:∀(d:D)(kvs:List (Key×D)),ds=[d]->Rm M d=some kvs->K (.cell M.length) (M++[.lst (kvs.map λkv=>kD kv.1)])->list3D ds M K
theorem Zav :∀{vs:List (Key×V)}{kvs:List (Key×D)},RepK C I α vs kvs->Reps C I α (vs.map λkv=>kV kv.1) (kvs.map λkv=>kD kv.1)
 |_,_,.nil=>.nil
 |_,_,.cons (k:=k) r1 r2=>.cons (by cases k with|inl i=>exact .int i|inr z=>exact .str z) (Zav r2)
def Zof:SimC C Z Zhk list3D:=λI α H M xs ds K Q R r h k=>by
 let⟨d,kvs,rfl,e,h⟩:=h;refine Reps.e1 r λ_ r1=>?_;let⟨a,vs,rfl,ea,ra⟩:=Znd R r1 e;exists a,vs,rfl,ea,λp hp=>?_;let⟨R2,p2,e2⟩:=R.cell (o:=.lst (vs.map λkv=>kV kv.1)) (m:=.lst (kvs.map λkv=>kD kv.1)) hp λH' e=>⟨_,e,Zav ra⟩;exact k _ _ I _ _ _ (.refl _) p2 R2 (.cell e2) h
inductive uLR1_1(K:K3)(ds:List D)(M1:Mem):Prop
 |mk:∀j:Int,ds=[.int j]->(-(2 ^ 62)<=j/\j<2 ^ 62/\j.toNat<=1000)->K (.lst (rngD 0 j.toNat)) M1->uLR1_1 K ds M1
def uLR1(ua:TA3):TE3:=λρ M K=>ua ρ M (uLR1_1 K)
def Ze5{ta:TA}{ua:TA3}(ha:SimA C Z ta ua):SimE C Z (tCB (λxs H Q=>∃p i j,xs=[.ref p]/\H p=some (.rng i j)/\(-(2 ^ 62)<=i/\i<2 ^ 62/\-(2 ^ 62)<=j/\j<2 ^ 62/\(j-i).toNat<=1000)/\∀l,H l=none->Q (.ref l) (upd H l (.lst (rngV i (j-i).toNat))))
  (Zao (tCB (λxs H Q=>∃j,xs=[.int j]/\∀p,H p=none->Q (.ref p) (upd H p (.rng 0 j))) ta) tNil)) (uLR1 ua):=λI α σ H ρ M K Q R E h k =>
 ha I α σ H ρ M _ _ R E h λvs ds I1 α1 H1 M1 s1 p1 R1 r1 h1=>by
  let⟨j,rfl,⟨hb1,hb2,hb3⟩,h1⟩:=h1;refine Reps.e1 r1 λ_ b=>?_;cases b;exists j,rfl,λp hp=>?_;exists p,0,j,rfl,Zh,⟨nofun,nofun,hb1,hb2,by rw[Int.sub_zero];exact hb3⟩,λl hl=>?_;let R2:=R1.same (Zl (o:=.rng 0 j) hp);let⟨R3,s3,e3⟩:=R2.new (o:=.lst (rngV 0 (j-0).toNat)) hl;rw[<-Int.sub_zero j]at h1;exact k _ _ _ α1 _ M1 (s1.trans s3) p1 R3 (.lst e3 (Zd0 0 _)) h1
def Zsr(K:Cr):R2:=λx y H Q=>Zsq K x y H Q\/Zkw K x y H Q
def Zf7(h:X.K=K'):OpR X (Hd .Add) (Zsr K'):=by
 subst h;exact OpR.or Zo2 Zcn
inductive addT3(d:D)(e:D)(M:Mem)(K:K3):Prop
 |mk:∀xs ys,d=.tup xs->e=.tup ys->xs.length+ys.length<=Cb->K (.tup (xs++ys)) M->addT3 d e M K
def Zmt:SimR C Z (Zsr C.k) addT3:=λI α H M x y d e K Q R r1 r2 h k=>by
 let⟨xs,ys,rfl,rfl,hl,h⟩:=h;let⟨a,vs,rfl,ea,ia,ra⟩:=Ty R r1 rfl;let⟨b,ws,rfl,eb,ib,rb⟩:=Ty R r2 rfl
 by_cases hx:xs=[]
 .subst hx;cases ra;exact .inl ⟨a,b,ws,rfl,rfl,SqT.of ea,SqT.of eb,k.now R r2 h⟩
 .refine .inr ⟨a,b,vs,ws,rfl,rfl,SqT.of ea,SqT.of eb,λz=>?_,by rw[ra.length,rb.length];exact hl,λz=>?_,λ_ p hp=>?_⟩
  .subst z;cases ra;exact hx rfl
  .subst z;cases rb;rw[Jp]at h;exact k.now R r1 h
  .let⟨R2,s2,e2⟩:=R.new (o:=.tup (vs++ws)) hp;exact k.on s2 R2 (.tup e2 ((ra.app rb).mono s2 (Ji _))) h
end
abbrev Fq:=Str×List Pr×List Int
variable{zs qs:List L3.Fq}
def famD(f:Nat):List (Str×D):=[("codes_by_name",.cell (f+1)),("marks_by_name",.cell (f+2))]
def W3(zs:List Fq):List (Key×D):=zs.map λz=>(.inr z.1,.code z.2.1)
def Yj(zs:List Fq):List (Key×D):=zs.map λz=>(.inr z.1,wD z.2.2)
structure FamAt(XF:Addr)(M:Mem)(f:Nat)(zs:List Fq):Prop where
 h0:M[f]?=some (.ins XF (famD f))
 h1:M[f+1]?=some (.dct (W3 zs))
 h2:M[f+2]?=some (.dct (Yj zs))
 nd:(zs.map (·.1)).Nodup
def Q2(M:Mem)(f:Nat)(zs:List Fq):Mem:=(M.set (f+1) (.dct (W3 zs))).set (f+2) (.dct (Yj zs))
def FamAt.pre{XF:Addr}{N:Mem}{f:Nat}(h:FamAt XF M f zs)(p:M<+:N):FamAt XF N f zs:=⟨Ya p h.h0,Ya p h.h1,Ya p h.h2,h.nd⟩
theorem FamAt.put{XF:Addr}{f:Nat}{ys:List Fq}(h:FamAt XF M f zs)(nd:(ys.map (·.1)).Nodup):FamAt XF (Q2 M f ys) f ys:=by
 let l1:=Vk h.h1;let l2:=Vk h.h2;unfold Q2;exists Sy (Sy h.h0 ()) (),Sy (Ge l1) (),Ge (by rw[Gs];exact l2),nd
def Zf6{g:Fq->D}{n:Str}(h:n∉zs.map (·.1)):valD (zs.map λz=>((.inr z.1:Key),g z)) (.inr n)=none:=by
 unfold valD;rw[Option.map_eq_none_iff,List.find?_eq_none];intro kv hkv e;let⟨z,hz,rfl⟩:=Jh.mp hkv;let:=Fk e;exact h (Jh.mpr ⟨z,hz,Jdr this⟩)
theorem P8{g:Fq->D}:∀{zs:List Fq},(zs.map (·.1)).Nodup->∀{z:Fq},z∈zs->valD (zs.map λz=>((.inr z.1:Key),g z)) (.inr z.1)=some (g z)
 |[],_,_,h=>nomatch h
 |y::ys,nd,z,h=>by
  unfold valD;rw[Jo,Bg];rw[Jo,Bb]at nd
  by_cases e:y.1=z.1
  .rcases Jt.mp h with w|w
   .subst w;simp
   .exact Fl (Jh.mpr ⟨z,w,e.symm⟩) nd.1
  .let hz:z∈ys:=by
    rcases Jt.mp h with w|w
    .exact Fl (by rw[w]) e
    .exact w
   rw[show decide ((Jb7 y.1:Key)=Jb7 z.1)=false from Fy λw=>e (Jdr w)];exact P8 nd.2 hz
inductive dInitF(XF:Addr)(ds:List D)(M:Mem)(K:K3):Prop
 |mk:∀f:Nat,ds=[.cell f]->(M[f]?=some (.ins XF [])/\M.length=f+1/\K .non (M.set f (.ins XF (famD f))++[.dct [],.dct []]))->dInitF XF ds M K
inductive dAddX(XF XT:Addr)(ds:List D)(M:Mem)(K:K3)(KX:X3):Prop
 |mk:∀(f:Nat)(n:Str)(S:List Pr)(mk:List Int)(zs:List Fq),ds=[.cell f,.str n,.code S,wD mk]->(FamAt XF M f zs/\zs.length<=100/\(n∉zs.map (·.1)->K .non (Q2 M f (zs++[(n,S,mk)])))/\(n∈zs.map (·.1)->KX XT [("name",.str n)] M))->dAddX XF XT ds M K KX
inductive dNamesF(XF:Addr)(ds:List D)(M:Mem)(K:K3):Prop
 |mk:∀(f:Nat)(zs:List Fq),ds=[.cell f]->(FamAt XF M f zs/\K (.cell M.length) (M++[.lst ((zs.map (·.1)).map .str)]))->dNamesF XF ds M K
inductive dCodeX(XF XN:Addr)(ds:List D)(M:Mem)(K:K3)(KX:X3):Prop
 |mk:∀(f:Nat)(n:Str)(zs:List Fq),ds=[.cell f,.str n]->(FamAt XF M f zs/\(∀z∈zs,z.1=n->K (.code z.2.1) M)/\(n∉zs.map (·.1)->KX XN [("name",.str n)] M))->dCodeX XF XN ds M K KX
inductive dMarkX(XF XN:Addr)(ds:List D)(M:Mem)(K:K3)(KX:X3):Prop
 |mk:∀(f:Nat)(n:Str)(zs:List Fq),ds=[.cell f,.str n]->(FamAt XF M f zs/\(∀z∈zs,z.1=n->K (wD z.2.2) M)/\(n∉zs.map (·.1)->KX XN [("name",.str n)] M))->dMarkX XF XN ds M K KX
def Zdf(zs:List Str):Prop:=(∀z∈zs,z.length≠1)\/∀z∈zs,z.length≠4
theorem Zo7{zs:List Str}{n:Nat}(h:∀z∈zs,n<=z.length+1/\z.length<=n+1):Zdf zs:=by
 by_cases hn:n<=2
 .exact .inr λz hz=>by have:=h z hz;lia
 .exact .inl λz hz=>by have:=h z hz;lia
inductive dNames41(ds:List D)(M:Mem)(K:K3):Prop
 |mk:∀(k n:Nat),ds=[.cell k,.int n]->(M[k]?=some .hand/\n<=8/\∀zs:List Str,zs.Nodup->zs.length=n->(∀z∈zs,z.length<=8/\C6 z=true)->Zdf zs->K (.cell M.length) (M++[.lst (zs.map .str)]))->dNames41 ds M K
inductive dMark41(ds:List D)(M:Mem)(K:K3):Prop
 |mk:∀(k:Nat)(bs:List Int)(ms:List (List Int)),ds=[.cell k,.lst (bs.map .int),.lst (ms.map wD)]->(M[k]?=some .hand/\(bs≠[]/\bs.length<=100/\ms.length<=100/\∀m∈ms,m.length<=4/\∀b∈m,b∈bs)/\∀mk:List Int,mk.length<=4->(∀b∈mk,b∈bs)->K (wD mk) M)->dMark41 ds M K
def spD(q:Fq):D:=.tup [.str q.1,.lst (q.2.1.map pD),wD q.2.2]
structure SpOk(bs ss:List Int)(qs:List Fq):Prop where
 bnd:bs.Nodup
 b2:2<=bs.length
 b4:bs.length<=4
 br:∀b∈bs,0<=b/\b<256
 snd:ss.Nodup
 sl:ss.length=30
 nd:(qs.map (·.1)).Nodup
 ln:qs.length<=8
 nl:∀q∈qs,q.1.length<=8/\C6 q.1=true
 fr:∀q∈qs,Free q.2.1
 fi:∀q∈qs,Fits q.2.1
 wb:∀q∈qs,∀p∈q.2.1,∀b∈p.2,b∈bs
 ml:∀q∈qs,q.2.2.length<=4
 mb:∀q∈qs,∀b∈q.2.2,b∈bs
 al:Zdf (qs.map (·.1))
 ll:∀q∈qs,q.2.1.length<=28
inductive dSpecs41(ds:List D)(M:Mem)(K:K3):Prop
 |mk:∀(ns:List Int)(m:Int),ds=[.frz (ns.map .int),.int m]->((ns.length<=63/\0<=m/\m<=3)/\∀(bs ss:List Int)(qs:List Fq)(c:Nat)(M':Mem),SpOk bs ss qs->M<+:M'->M.length<=c->M'[c]?=some (.lst (qs.map spD))->K (.tup [.lst (bs.map .int),.lst (ss.map .int),.cell c]) M')->dSpecs41 ds M K
abbrev OkS:={z:Str // C6 z=true}
def encS:Enc OkS:=⟨λz=>.str z.1,λz=>.str z.1,0,λ_ _=>.str _,λz=>⟨by simp only[Hb];exact z.2,by simp only[Le];exact Jd _⟩,λa b=>by
 rw[C1,Jdb,decide_eq_decide];exact⟨Subtype.ext,λh=>by rw[h]⟩,nofun⟩
def nmS(cs:List Nat):Str:=⟨(cs.map λc=>97+c).toArray⟩
def Qi(cs:List Nat):(nmS cs).length=cs.length:=by
 show(cs.map λc=>97+c).toArray.size=_;rw[Jm,Ja]
def Zs3{a b:List Nat}(h:nmS a=nmS b):a=b:=by
 unfold nmS at h;injection h with h
 let h:=congrArg Jez h;simp only at h;exact(List.map_inj_right (λx y e=>Nat.add_left_cancel e)).mp h
theorem Zs2(h:∀c∈cs,c<26):C6 (nmS cs)=true:=by
 unfold C6 nmS;rw[Array.all_eq_true'];intro x hx;let:x∈cs.map λc=>97+c:=by simpa using hx
 let⟨c,hc,rfl⟩:=Jh.mp this;let:=h c hc;exact Fx ()
def Zvy{c:Nat}(h:c<26):L2.atI (Ci "abcdefghijklmnopqrstuvwxyz").cps.toList (c:Int)=some (97+c):=by
 let:∀c:_root_.Fin 26,L2.atI (Ci "abcdefghijklmnopqrstuvwxyz").cps.toList ((c.val:Nat):Int)=some (97+c.val):=by decide
 exact this ⟨c,h⟩
def Zo6(cs:List Nat):Txt.join (Ci "") (cs.map λc=>(⟨#[97+c]⟩:Str))=nmS cs:=by
 show Jii (Ci "") _=_;rw[StrLaws.glued_eq_join];let:=Jhg (cs.map λc=>97+c);rw[Gh]at this;exact this
theorem Ztj(n len:Nat):Kd none (some (n:Int)) 1 len=Kd (some ((0:Nat):Int)) (some (n:Int)) 1 len:=by
 unfold Kd;let e1:max (0:Int) (min ((0:Nat):Int) (len:Int))=0:=by lia
 let h1:¬ (((0:Nat):Int)<0):=by lia
 simp only[show((1:Int) > 0)=True from by simp,if_true,h1,if_false,e1]
theorem Zs4{n:Nat}(h:n<cs.length):Txt.slice (nmS cs) none (some (n:Int))=nmS (cs.take n):=by
 unfold Txt.slice;rw[Ztj,StrLaws.sliced_plain (nmS cs) (Ju n) (by rw[Qi];lia),Fv ?_]
 .unfold nmS;rw[B7,Je7,By]
 .rw[StrLaws.strSliceIndices_plain (Ju n) (by rw[Qi];lia),Ja,G9,Qi];simp;lia
theorem Zh7{xs:List τ}(h:xs.Nodup){x:τ}(hx:x∉xs)(i:Nat):(xs.set i x).Nodup:=by
 rw[List.nodup_iff_pairwise_ne,Bh]at h⊢;intro a b ha hb hab;rw[Gs]at ha hb;let:=h a b ha hb hab;rw[List.getElem_set,List.getElem_set]
 split
 .split
  .lia
  .exact λe=>hx (e ▸ Jn _)
 .split
  .exact λe=>hx (e ▸ Jn _)
  .exact this
theorem Zee(z:Int){n:Nat}(h:0<n):∃j:Nat,z % (n:Int)=(j:Int)/\j<n:=by
 let⟨j,ej⟩:=Gu (Gz z (by lia:(n:Int)≠0));let:=Gr z (by lia:(0:Int)<(n:Int));exact⟨j,ej,()⟩
inductive dNo41(XF:Addr)(ds:List D)(M:Mem)(K:K3):Prop
 |mk:∀(f:Nat)(n:Str)(zs:List Fq),ds=[.cell f,.str n]->(FamAt XF M f zs/\n∉zs.map (·.1)/\K (.bl true) M)->dNo41 XF ds M K
def Zaa(z q:Fq):Prop:=z.1=q.1/\z.2.2=q.2.2/\z.2.1.Perm q.2.1/\Zab z.2.1
theorem Tg:∀{zs:List Fq},(zs.map (·.1)).Nodup->∀{z y:Fq},z∈zs->y∈zs->z.1=y.1->z=y
 |[],_,_,_,h,_,_=>nomatch h
 |x::xs,nd,z,y,hz,hy,e=>by
  rw[Jo,Bb]at nd;rcases Jt.mp hz with a|a<;>rcases Jt.mp hy with b|b
  .rw[a,b]
  .exact Fl (Jh.mpr ⟨y,b,by rw[<-e,a]⟩) nd.1
  .exact Fl (Jh.mpr ⟨z,a,by rw[e,b]⟩) nd.1
  .exact Tg nd.2 a b e
theorem Pp{N:Mem}{d:D}{xs:List D}(p:M<+:N)(h:lsOf M d=some xs):lsOf N d=some xs:=by
 cases d with
 |lst ys=>exact h
 |cell c =>
  simp only[lsOf]at h⊢;cases hm:M[c]? with
  |none=>rw[hm]at h;cases h
  |some m=>rw[Ya p hm];rw[hm]at h;exact h
 |_=>cases h
theorem Zpw(nd:(qs.map (·.1)).Nodup)(tz:∀(i:Nat)(z q:Fq),zs[i]?=some z->qs[i]?=some q->Zaa z q)(lz:zs.length=i)(hi:i<qs.length):qs[i].1∉zs.map (·.1):=λh=>by
 let⟨z,hz,e⟩:=Jh.mp h;let⟨j,hj,rfl⟩:=Gb hz;let t:=(tz j _ _ (Jb hj) (Jb ())).1;let:=(Br (i:=j) (j:=i) (h₀:=by rw[Ja];lia) (h₁:=by rw[Ja];lia) nd).mp (by rw[Gv,Gv,<-t,e]);lia
theorem Zrg{z:Fq}(tz:∀(i:Nat)(z q:Fq),zs[i]?=some z->qs[i]?=some q->Zaa z q)(lz:zs.length=i)(hi:i<qs.length)(h:Zaa z qs[i]):∀(j:Nat)(y q:Fq),(zs++[z])[j]?=some y->qs[j]?=some q->Zaa y q:=λj y q e1 e2=>by
 by_cases hj:j<zs.length
 .rw[J0 hj]at e1;exact tz j y q e1 e2
 .let:=(Jj.mp e1).1;rw[Jc,Ba]at this;let:j=i:=by lia
  subst this;rw[Go (),lz,Nat.sub_self]at e1;cases e1;rw[Jb hi]at e2;cases e2;exact h
def Zs5{z:Fq}(nd:(zs.map (·.1)).Nodup)(h:z.1∉zs.map (·.1)):((zs++[z]).map (·.1)).Nodup:=by
 rw[Jf,List.nodup_append];exists nd,Bb.mpr ⟨List.not_mem_nil,List.nodup_nil⟩,λa ha b hb e=>?_;let e:a=z.1:=e.trans (Jg.mp hb);exact h (e ▸ ha)
theorem Zlc{t:Nat}(tz:∀(i:Nat)(z q:Fq),zs[i]?=some z->qs[i]?=some q->Zaa z q)(lz:zs.length=t)(ht:t<=qs.length):zs.map (·.1)=(qs.map (·.1)).take t:=by
 apply La
 intro i
 by_cases hi:i<t
 .rw[Kq hi,Jq,Jq,Jb (by lia:i<zs.length),Jb (by lia:i<qs.length)];show some zs[i].1=some qs[i].1;rw[(tz i _ _ (Jb ()) (Jb ())).1]
 .rw[Bj (by rw[Ja];lia),List.getElem?_take_eq_none ()]
theorem Zi2{X:Mem}{k:Nat}:(M++X)[M.length+k]?=X[k]?:=by
 rw[Go ()]
 congr 1
 lia
def Wq(zs qs:List Fq):Prop:=zs.length=qs.length/\∀(i:Nat)(z q:Fq),zs[i]?=some z->qs[i]?=some q->Zaa z q
theorem Zs8{d:D}{xs:List D}{c:Nat}(h:lsOf M d=some xs)(ne:d≠.cell c):lsOf (M.set c m) d=some xs:=by
 cases d with
 |lst ys=>exact h
 |cell j =>
  let:j≠c:=λe=>ne (by rw[e]);simp only[lsOf]at h⊢;rw[Gx (Ee this)];exact h
 |_=>cases h
section
variable{C:Cf}{ue:TE3}
theorem RepK.get :∀{vs:List (Key×V)}{ds:List (Key×D)},RepK C I α vs ds->vs.length=ds.length/\∀(i:Nat)(kv:Key×V)(kd:Key×D),vs[i]?=some kv->ds[i]?=some kd->kv.1=kd.1/\Rep C I α kv.2 kd.2:=by
 intro _ _ hz9;cases hz9 with
 |nil=>
  exists rfl,λi kv kd e=>nomatch e
 |cons h r=>
  exact by
    let⟨a,b⟩:=RepK.get r;exists by rw[Jv,Jv,a],λi kv kd e1 e2=>?_;cases i with
    |zero=>cases e1;cases e2;exists rfl,h
    |succ i=>exact b i kv kd (by simpa using e1) (by simpa using e2)
def iIt(k:Nat)(o:Obj)(vs:List (Key×V))(kvs:List (Key×D)):It3:=⟨kvs.length,λi x=>∃kv,kvs[i]?=some kv/\x=.tup [kD kv.1,kv.2],λM=>M[k]?=some (.dfK o vs kvs)⟩
inductive uIItems_1(K:It3->Mem->Prop)(d:D)(M1:Mem):Prop
 |mk:∀k kvs,d=.cell k->M1[k]?=some (.dct kvs)->(∀o vs,K (iIt k o vs kvs) (M1.set k (.dfK o vs kvs)))->uIItems_1 K d M1
def Zns(ue:TE3):TI3:=λρ M K=>ue ρ M (uIItems_1 K)
theorem Zv7{k:Nat}{a:Addr}{o:Obj}{vs:List (Key×V)}{kvs:List (Key×D)}(ea:α[k]?=some a):ItR C Z I α (ItdI a o vs) (iIt k o vs kvs):=λI' α' H' M' s p R ok=>by
 let m:=(R.cel k a _ (Zcl p ea) ok).1;let⟨ln,kg⟩:=RepK.get m.2;exists λi hi=>⟨⟨m.1,by rw[ln];exact hi⟩,λx H2 y=>?_⟩,⟨m.1,by rw[ln];exact Jd _⟩;let⟨t,kv,rfl,ht,rfl,e1⟩:=y;let⟨R2,s2,e2⟩:=R.new (o:=.tup [kV kv.1,kv.2]) ht;let⟨g1,g2⟩:=kg i kv kvs[i] e1 (Jb hi);exists _,.tup [kD kvs[i].1,kvs[i].2],s2,R2,.tup e2 (.cons ?_ (.cons (g2.mono s2 (Ji _)) .nil)),kvs[i],Jb hi,rfl;rw[g1];cases kvs[i].1 with
 |inl j=>exact .int j
 |inr z=>exact .str z
def Zg8(he:SimE C Z te ue):SimI C Z (Zm8 te) (Zns ue):=λI α σ H ρ M K R' R RE h kk =>
 he I α σ H ρ M _ _ R RE h λv d I1 α1 H1 M1 s1 p1 R1 r1 h1=>by
  let⟨k,kvs,rfl,e,h1⟩:=h1;let⟨a,rfl,ea⟩:=r1.inv;let⟨vs,e1,r⟩:=(R1.cel k a _ ea e).1;exists a,vs,rfl,e1,λo=>kk _ _ I1 α1 _ _ s1 p1 (R1.put (m:=.dfK o vs kvs) ea λH' e'=>⟨e',r⟩) (Zv7 ea) (h1 o vs)
def Zg5{t:TS}{u:TS3}(hs:SimS C Z t u):SimS C Z (Zsi t) (λE ρ M=>∃k kvs0,M[k]?=some (.dct kvs0)/\u {E with nx:=λρ' M1=>∃o vs kvs,M1[k]?=some (.dfK o vs kvs)/\E.nx ρ' (M1.set k (.dct kvs))} ρ M):=λI α σ H ρ M E D' R RE h F=>by
 let⟨k,kvs0,e0,h⟩:=h;let⟨a,ea,ma,_⟩:=R.get e0;let⟨vs0,h0,_⟩:=ma;exists a,vs0,h0,hs I α σ H ρ M _ _ R RE h ⟨λI1 α1 σ1 H1 ρ1 M1 s1 p1 R1 RE1 h1=>?_,F.rt,F.bk,F.ct⟩;let⟨o,vs,kvs,e1,h1⟩:=h1;let ea1:=Zcl p1 ea;let⟨f1,f2⟩:=(R1.cel k a _ ea1 e1).1;exists o,vs,f1,F.nx I1 α1 σ1 _ ρ1 _ s1 p1 (R1.put (m:=.dct kvs) ea1 λH' e'=>⟨vs,e',f2⟩) RE1 h1
end
section
variable{C:Cf}{ta tk:TA}{uk:TA3}
inductive uMaxD_2(K:K3)(ds:List D)(es:List D)(M2:Mem):Prop
 |mk:∀(d:D)(ns:List Int)(n0:Int),ds=[d]->es=[.int n0]->lsOf M2 d=some (ns.map .int)->K (.int ((mxOf none ns).getD n0)) M2->uMaxD_2 K ds es M2
abbrev Znq(uk:TA3)(ρ:Ev)(K:K3):List D->Mem->Prop:=λds M1=>uk ρ M1 (uMaxD_2 K ds)
def Zup(ua uk:TA3):TE3:=λρ M K=>ua ρ M (Znq uk ρ K)
def Zr7(ha:SimA C Z ta ua)(hk:SimA C Z tk uk):SimE C Z (Zn6 C.k ta tk) (Zup ua uk):=λI α σ H ρ M K Q R E h k =>
 ha I α σ H ρ M _ _ R E h λvs ds I1 α1 H1 M1 s1 p1 R1 r1 h1 =>
  hk I1 α1 σ H1 ρ M1 _ _ R1 (E.mono s1 p1) h1 λws es I2 α2 H2 M2 s2 p2 R2 r2 h2=>by
   let⟨d,ns,n0,rfl,rfl,el,h2⟩:=h2;refine Reps.e1 r1 λ_ a=>?_;refine Reps.e1 r2 λ_ c=>?_;cases c;let⟨x,rfl,ex⟩:=Za4 R2 (a.mono s2 p2) el;exists x,ns,n0,rfl,rfl,SqL.of ex,k _ _ I2 α2 H2 M2 (s1.trans s2) (p1.trans p2) R2 (.int _) h2
end
def Zqc{e d:Expr}{p:Pos}{ta tk:TA}(hK:X.K=K)(hc:X.calm=true)(hg:Gl X "max")(hm:X.mg "max"=none)(ha:PA X [e] ta)(hk:PK X [⟨some "default",d,kpos⟩] tk)(he:Cj [e] X.env=[(false,eval e X.env)]:=by rfl) :
  PE X (.Call (.Name "max" p) [e] [⟨some "default",d,kpos⟩] pos) (Zn6 K ta tk):=by subst hK;exact Zoz hc hg hm ha hk he
def Tq(m ns:List Int):Bool:=decide (0<m.length)&&decide (ns.take m.length=m)
def Yy(zs:List Fq)(ns:List Int):List Fq:=zs.filter λz=>Tq z.2.2 ns
def topF:List Fq->Nat
 |[]=>0
 |z::r=>max z.2.2.length (topF r)
def Xp(zs:List Fq)(ns:List Int):List Str:=((Yy zs ns).filter λz=>decide (z.2.2.length=topF (Yy zs ns))).map (·.1)
theorem Zh9:∀(c:Nat)(zs:List Fq),mxOf (some (c:Int)) (zs.map λz=>((z.2.2.length:Nat):Int))=some ((max c (topF zs):Nat):Int)
 |c,[]=>by show some _=some _;rw[show topF []=0 from rfl,Nat.max_zero]
 |c,z::r=>by
  rw[Jo];unfold mxOf;let:(if(c:Int)<((z.2.2.length:Nat):Int)then((z.2.2.length:Nat):Int)else(c:Int))=((max c z.2.2.length:Nat):Int):=by
   split<;>lia
  rw[this,Zh9,show topF (z::r)=max z.2.2.length (topF r)from rfl,Nat.max_assoc]
theorem Zs6(zs:List Fq):(mxOf none (zs.map λz=>((z.2.2.length:Nat):Int))).getD 0=(topF zs:Int):=by
 cases zs with
 |nil=>rfl
 |cons z r =>
  rw[Jo];show(mxOf (some _) _).getD 0=_;rw[Zh9];rfl
theorem Zgj{z:Fq}(h:z∈zs):z.2.2.length<=topF zs:=by
 induction zs with
 |nil=>cases h
 |cons y r ih =>
  show _<=max y.2.2.length (topF r);rcases Jt.mp h with e|e
  .rw[e];lia
  .let:=ih e;lia
theorem Zrk(h:zs≠[]):∃z∈zs,z.2.2.length=topF zs:=by
 induction zs with
 |nil=>exact Fl rfl h
 |cons y r ih =>
  show ∃z∈_,_=max y.2.2.length (topF r)
  by_cases hr:r=[]
  .subst hr;exact⟨y,Jl,by show _=max _ 0;lia⟩
  .let⟨z,hz,e⟩:=ih hr
   by_cases hy:topF r<=y.2.2.length
   .exact⟨y,Jl,()⟩
   .exact⟨z,Jk _ hz,()⟩
def W6(zs qs:List Fq):Prop:=zs.map (λz=>(z.1,z.2.2))=qs.map λq=>(q.1,q.2.2)
theorem W6.by(h:W6 zs qs)(ns:List Int):Xp zs ns=Xp qs ns:=by
 let go:∀{zs qs:List Fq},W6 zs qs->W6 (Yy zs ns) (Yy qs ns):=by
  intro zs
  induction zs with
  |nil=>intro qs h;cases qs with|nil=>rfl|cons _ _=>cases h
  |cons z zs ih =>
   intro qs h;cases qs with
   |nil=>cases h
   |cons q qs =>
    unfold W6 at h ih⊢;rw[Jo,Jo]at h;injection h with h1 h2
    injection h1 with e1 e2
    let:=ih h2;unfold Yy at this⊢;rw[Gf,Gf,e2]
    split
    .rw[Jo,Jo,this,e1,e2]
    .exact this
 let tp:∀{zs qs:List Fq},W6 zs qs->topF zs=topF qs:=by
  intro zs
  induction zs with
  |nil=>intro qs h;cases qs with|nil=>rfl|cons _ _=>cases h
  |cons z zs ih =>
   intro qs h;cases qs with
   |nil=>cases h
   |cons q qs =>
    unfold W6 at h ih;rw[Jo,Jo]at h;injection h with h1 h2
    injection h1 with e1 e2
    show max _ _=max _ _;rw[e2,ih h2]
 let nm:∀(t:Nat){zs qs:List Fq},W6 zs qs->(zs.filter λz=>decide (z.2.2.length=t)).map (·.1)=(qs.filter λz=>decide (z.2.2.length=t)).map (·.1):=by
  intro t zs
  induction zs with
  |nil=>intro qs h;cases qs with|nil=>rfl|cons _ _=>cases h
  |cons z zs ih =>
   intro qs h;cases qs with
   |nil=>cases h
   |cons q qs =>
    unfold W6 at h ih;rw[Jo,Jo]at h;injection h with h1 h2
    injection h1 with e1 e2
    let:=ih h2;rw[Gf,Gf,e2]
    split
    .rw[Jo,Jo,this,e1]
    .exact this
 unfold Xp;rw[tp (go h)];exact nm _ (go h)
theorem Wq.alike(h:Wq zs qs):W6 zs qs:=by
 unfold W6
 apply La
 intro i;rw[Jq,Jq]
 by_cases hi:i<qs.length
 .let hz:i<zs.length:=by rw[h.1];exact hi
  let⟨e1,e2,_⟩:=h.2 i _ _ (Jb hz) (Jb hi);rw[Jb hi,Jb hz];show some (_,_)=some (_,_);rw[e1,e2]
 .rw[Bj (by lia:qs.length<=i),Bj (by have:=h.1;lia:zs.length<=i)]
inductive dBegR(ds:List D)(M:Mem)(K:K3):Prop
 |mk:∀(m ns:List Int)(d:D),ds=[wD m,d]->(lsOf M d=some (ns.map .int)/\K (.bl (Tq m ns)) M)->dBegR ds M K
inductive dByMark(XF:Addr)(ds:List D)(M:Mem)(K:K3):Prop
 |mk:∀(f:Nat)(d:D)(zs:List Fq)(ns:List Int),ds=[.cell f,d]->(FamAt XF M f zs/\lsOf M d=some (ns.map .int)/\zs.length<=100/\∀(M':Mem)(c:Nat),M<+:M'->M'[c]?=some (.lst ((Xp zs ns).map .str))->M.length<=c->K (.cell c) M')->dByMark XF ds M K
inductive dByMarkL(ds:List D)(M:Mem)(K:K3):Prop
 |mk:∀(d e:D)(qs:List Fq)(ns:List Int),ds=[d,e]->(lsOf M d=some (qs.map spD)/\lsOf M e=some (ns.map .int)/\qs.length<=8/\K (.lst ((Xp qs ns).map .str)) M)->dByMarkL ds M K
theorem Zkh{z:Fq}:topF (zs++[z])=max (topF zs) z.2.2.length:=by
 induction zs with
 |nil=>show max _ 0=max 0 _;lia
 |cons y r ih =>
  show max _ (topF (r++[z]))=max (max _ _) _;rw[ih,Nat.max_assoc]
def Ziy{z:Fq} :Yy (zs++[z]) ns=Yy zs ns++(if Tq z.2.2 ns then [z]else []):=by
 unfold Yy;rw[Gj,Gf,B3]
theorem Zp9(h:topF (Yy zs ns)=0):Xp zs ns=[]:=by
 let:Yy zs ns=[]:=by
  cases hh:Yy zs ns with
  |nil=>rfl
  |cons z r =>
   let hz:z∈Yy zs ns:=by rw[hh];exact Jl
   let l:=Zgj hz;let:=(Jz.mp hz).2;unfold Tq at this;rw[G6]at this;let:=Fk this.1;lia
 unfold Xp;rw[this];rfl
theorem Zty(h:0<topF (Yy zs ns)):Xp zs ns=(zs.filter λz=>decide (z.2.2.length=topF (Yy zs ns))&&decide (ns.take (topF (Yy zs ns))=z.2.2)).map (·.1):=by
 unfold Xp;generalize topF (Yy zs ns)=t at h
 congr 1
 unfold Yy;rw[List.filter_filter];refine List.filter_congr λz _=>?_;unfold Tq
 by_cases e:z.2.2.length=t
 .rw[Fx e,Fc,Fc,Fx (by lia:0<z.2.2.length),Fc,e]
 .rw[Fy e,B6,B6]
def Xb.perm(pm:S.Perm L)(h:Xb L U ts i):Xb S U ts i:=⟨λp hp=>pm.mem_iff.mpr (h.1 p hp),h.2⟩
inductive Why where
 |name|sign (i:Nat)
def whyX(XN XS:Addr)(n:Str)(KX:X3)(M:Mem):Why->Prop
 |.name=>KX XN [("name",.str n)] M
 |.sign i=>KX XS [("at",.int i)] M
def Is47(zs:List Fq)(n:Str)(ts:List Int):Why->Prop
 |.name=>n∉zs.map (·.1)
 |.sign i=>i<ts.length/\∃(z:Fq)(U:List Pr),z∈zs/\z.1=n/\Free z.2.1/\Fits z.2.1/\z.2.2.length<=4/\Xb z.2.1 U ts i/\Wj z.2.1 ts i=true
inductive dMarkedX(XF XN XS:Addr)(ds:List D)(M:Mem)(K:K3)(KX:X3):Prop
 |mk:∀(f:Nat)(n:Str)(d:D)(zs:List Fq)(ts:List Int),ds=[.cell f,.str n,d]->(FamAt XF M f zs/\lsOf M d=some (ts.map .int)/\ts.length<=1000/\((∃y,Is47 zs n ts y/\whyX XN XS n KX M y)\/∃(z:Fq)(U:List Pr),z∈zs/\z.1=n/\z.2.2.length<=4/\Fits z.2.1/\Free z.2.1/\Xb z.2.1 U ts ts.length/\∀(M':Mem)(c:Nat),M<+:M'->M'[c]?=some (.lst ((z.2.2++Zv U).map .int))->M.length<=c->K (.cell c) M'))->dMarkedX XF XN XS ds M K KX
inductive dWritten47(ds:List D)(M:Mem)(K:K3):Prop
 |mk:∀(L:List Pr)(d:D)(ts:List Int),ds=[.lst (L.map pD),d]->(lsOf M d=some (ts.map .int)/\(Fits L/\ts.length<=200)/\(∀U:List Pr,Xb L U ts ts.length->K (.tup [.str (Ci "row"),.lst ((Zv U).map .int)]) M)/\∀(i:Nat)(U:List Pr),i<ts.length->Xb L U ts i->Wj L ts i=true->K (.tup [.str (Ci "lacks"),.int i]) M)->dWritten47 ds M K
section
variable{C:Cf}{t:TA}{u:TA3} 
def Zl4(h:X.K=K')(hu:X.A.units+64<E9):MtR X "list.count" (Zcg K'):=by subst h;exact Zia hu
inductive uCountD_2(K:K3)(d:D)(es:List D)(M2:Mem):Prop
 |mk:∀(xs:List D)(e:D)(ps:List PyData)(p:PyData),es=[e]->Xg M2 d=some xs->PyRs M2 xs ps->PyR M2 e p->Em ps=true->p.canLay0=true->p.depth<=60->K (.int ((ps.countP λz=>C1 z p:Nat):Int)) M2->uCountD_2 K d es M2
abbrev Zge(u:TA3)(ρ:Ev)(K:K3):D->Mem->Prop:=λd M1=>lsOf M1 d≠none/\u ρ M1 (uCountD_2 K d)
def Znz(uo:TE3)(u:TA3):TE3:=λρ M K=>uo ρ M (Zge u ρ K)
def Zkt(ho:SimE C Z to uo)(ha:SimA C Z t u):SimE C Z (tBM C.k "list" (Zcg C.k) to t) (Znz uo u):=λI α σ H ρ M K Q R E h k =>
 ho I α σ H ρ M _ _ R E h λv d I1 α1 H1 M1 s1 p1 R1 r1 h1=>by
  let⟨hn,h1⟩:=h1;cases hl:lsOf M1 d with
  |none=>exact Fl hl hn
  |some zs =>
   let⟨a,vs,rfl,ea,ra⟩:=Pb R1 r1 hl;exists Zgf ea,ha I1 α1 σ H1 ρ M1 _ _ R1 (E.mono s1 p1) h1 λws ds I2 α2 H2 M2 s2 p2 R2 r2 h2=>?_;let⟨xs,e,ps,p,rfl,el,hx,he,c1,c2,dd,h2⟩:=h2;refine Reps.e1 r2 λ_ ry=>?_;let⟨b,us,eb,eu,ru⟩:=W1 R2 (r1.mono s2 p2) el;cases eb;exists a,us,_,ps,p,rfl,rfl,eu,pys_dv R2 hx ru,Zaw R2 he ry,c1,c2,dd,k _ _ I2 α2 H2 M2 (s1.trans s2) (p1.trans p2) R2 (.int _) h2
end
def Zkm{n:Nat}{ds:List PyData}(h:∀d∈ds,Shp n d):Em ds=true:=(Nh h).1
def Ztr(ms:List (List Int)):Em (ms.map (Y5 Z9).py)=true:=Zkm (n:=(Y5 Z9).n) λd hd=>by
 let⟨x,_,rfl⟩:=Jh.mp hd;exact(Y5 Z9).shp x
def Zts(m:List Int):((Y5 Z9).py m).depth<=60:=Jy ((Y5 Z9).shp m).2 nofun
def Zlx(ms:List (List Int))(m:List Int):(ms.map (Y5 Z9).py).countP (λz=>C1 z ((Y5 Z9).py m))=ms.count m:=by
 rw[List.countP_map,List.count];refine List.countP_congr λx _=>?_;show C1 _ _=true↔_;rw[(Y5 Z9).eq,Fn,beq_iff_eq]
def okV{zs:List Str}(h:∀z∈zs,C6 z=true):∃os:List OkS,os.map (·.1)=zs:=⟨zs.attach.map λz=>⟨z.1,h z.1 z.2⟩,by rw[Gh];exact List.attach_map_val (l:=zs) (f:=id) |>.trans (List.map_id zs)⟩
def N5{zs ws:List Str}{d d':D}{K:Bool->Prop}(h1:Xg M d=some (zs.map .str))(h2:Xg M d'=some (ws.map .str))(k1:∀z∈zs,C6 z=true)(k2:∀z∈ws,C6 z=true)(h:K (decide (zs=ws))):eqV d d' M K:=by
 let⟨os,rfl⟩:=okV k1;let⟨ps,rfl⟩:=okV k2;rw[Gh]at h1 h2;refine Sz encS (a:=os) (b:=ps) h1 h2 ?_;let:decide (os=ps)=decide (os.map (·.1)=ps.map (·.1)):=by
  rw[decide_eq_decide];exists λe=>by rw[e],λe=>(List.map_inj_right λx y=>Subtype.ext).mp e
 rw[this];exact h
def misB(zs:List Fq)(n:Str)(row:List Int):Bool:=!decide (Xp zs row=[n])
def Zet{n:Str}(h:n∈Xp zs ns):∃z∈zs,z.1=n/\Tq z.2.2 ns=true/\z.2.2.length=topF (Yy zs ns):=by
 unfold Xp at h;let⟨z,hz,e⟩:=Jh.mp h;let⟨h1,h2⟩:=Jz.mp hz;let⟨h3,h4⟩:=Jz.mp h1;exists z,h3,e,h4,Fk h2
def Zld{z:Fq}(nd:(zs.map (·.1)).Nodup)(hz:z∈zs)(h:z.2.2=[]):misB zs z.1 ns=true:=by
 unfold misB;rw[Fy]
 .rfl
 intro e;let⟨y,hy,ey,hm,_⟩:=Zet (zs:=zs) (ns:=ns) (n:=z.1) (by rw[e];exact Jg.mpr rfl);let:=Tg nd hy hz ey;subst this;unfold Tq at hm;rw[h]at hm;cases hm
theorem Zri{m:List Int}(nd:(qs.map (·.1)).Nodup)(h:1<(qs.map (·.2.2)).count m)(n:Str):∃y∈qs,y.1≠n/\y.2.2=m:=by
 induction qs with
 |nil=>simp at h
 |cons q qs ih =>
  rw[Jo,Bb]at nd;rw[Jo,List.count_cons]at h
  by_cases e:q.2.2=m
  .by_cases en:q.1=n
   .let h0:0<(qs.map (·.2.2)).count m:=by
     rw[Fw (by rw[e];exact beq_self_eq_true _)]at h;lia
    let:=List.count_pos_iff.mp h0;let⟨y,hy,ey⟩:=Jh.mp this;exists y,Jk _ hy,λz=>nd.1 (Jh.mpr ⟨y,hy,by rw[z,en]⟩),ey
   .exists q,Jl,en,e
  .rw[Fv (by rw[beq_iff_eq];exact e)]at h;let⟨y,hy,a,b⟩:=ih nd.2 ();exists y,Jk _ hy,a,b
def W6.mis(h:W6 zs qs)(n:Str)(ns:List Int):misB zs n ns=misB qs n ns:=by unfold misB;rw[h.by]
inductive dMistX(XF XN:Addr)(ds:List D)(M:Mem)(K:K3)(KX:X3):Prop
 |mk:∀(f:Nat)(n:Str)(d:D)(zs:List Fq)(ts:List Int),ds=[.cell f,.str n,d]->(FamAt XF M f zs/\lsOf M d=some (ts.map .int)/\ts.length<=1000/\((n∉zs.map (·.1)/\KX XN [("name",.str n)] M)\/∃(z:Fq)(U:List Pr),z∈zs/\z.1=n/\z.2.2.length<=4/\Fits z.2.1/\Free z.2.1/\Xb z.2.1 U ts ts.length/\zs.length<=100/\(∀z∈zs,C6 z.1=true)/\∀M':Mem,M<+:M'->K (.bl (misB zs n (z.2.2++Zv U))) M'))->dMistX XF XN ds M K KX
def TxOk(ss:List Int)(tss:List (List Int)):Prop:=∀ts∈tss,ts.length<=200/\∀t∈ts,t∈ss
def txD(ts:List Int):D:=.lst (ts.map .int)
def Wq.mem(h:Wq zs qs){z:Fq}(hz:z∈zs):∃q∈qs,Zaa z q:=by
 let⟨i,hi,rfl⟩:=Gb hz;let hq:i<qs.length:=by rw[<-h.1];exact hi
 exists _,Jn hq,h.2 i _ _ (Jb hi) (Jb hq)
theorem Wq.take(tz:∀(i:Nat)(z q:Fq),zs[i]?=some z->qs[i]?=some q->Zaa z q)(lz:zs.length=i)(hi:i<=qs.length):Wq zs (qs.take i):=by
 exists by rw[J8];lia,λj z q e1 e2=>?_;let hj:=(Jj.mp e1).1;rw[Kq ()]at e2;exact tz j z q e1 e2
def Zn4(h:∀t∈ts,t∈Zm L):∃U,Xb L U ts ts.length:=by
 refine Zta (Zs9 λi hi z=>?_);let⟨p,hp,e⟩:=Jh.mp (h _ (Jn hi));exact(Ub hi).mp z p hp e
section
variable{C:Cf} 
inductive dCSign(ds:List D)(M:Mem)(K:K3):Prop
 |mk:∀(S:List Pr)(u:List Int),ds=[.code S,wD u]->((∀p∈S,p.2=u->K (.int p.1) M)/\((∀p∈S,p.2≠u)->K .non M))->dCSign ds M K
theorem Zqj{E:XK}(h:spOf C dCSign vs H Q E):Zgt C.c vs H Q E:=by
 let⟨Z,I,α,M,ds,K,R,r,⟨S,u,rfl,h1,h2⟩,kk⟩:=h;refine Reps.e2 r λ_ _ r1 r2=>?_;let⟨_,rfl,hc⟩:=r1.inv;cases r2 with
 | @tup t vt _ et rt =>
  rw[Reps.of_ints u rt]at et;exists _,t,S,u,rfl,hc.same R.sub,R.sub _ _ et,λp hp e=>kk _ _ I α H M (.refl _) (Ji _) R (.int _) (h1 p hp e),λhn=>kk _ _ I α H M (.refl _) (Ji _) R .non (h2 hn)
end
theorem Zvv{t1 t2:TT3}{c1 c2:Bool}(h1:∀K:Bool->Mem->Prop,K c1 M->t1 ρ M K)(h2:c1=false->∀K:Bool->Mem->Prop,K c2 M->t2 ρ M K):∀K:Bool->Mem->Prop,K (c1 ||c2) M->uOr t1 t2 ρ M K:=λK h=>by
 refine h1 _ ?_;cases c1 with
 |false=>exact h2 rfl _ h
 |true=>exact h
theorem Zua{t1 t2:TT3}{c1 c2:Bool}(h1:∀K:Bool->Mem->Prop,K c1 M->t1 ρ M K)(h2:c1=true->∀K:Bool->Mem->Prop,K c2 M->t2 ρ M K):∀K:Bool->Mem->Prop,K (c1&&c2) M->uAnd t1 t2 ρ M K:=λK h=>by
 refine h1 _ ?_;cases c1 with
 |false=>exact h
 |true=>exact h2 rfl _ h
def Zv6{t:TT3}{a b:TS3}{E:Ends3}{c:Bool}(h:∀K:Bool->Mem->Prop,K c M->t ρ M K)(k:if c=true then a E ρ M else b E ρ M):uIfS t a b E ρ M:=h _ k
theorem Zem{α:Type}{l:List α}{f:α->List β}{b:Nat}(h:∀x∈l,(f x).length<=b):(l.flatMap f).length<=l.length*b:=by
 induction l with
 |nil=>simp
 |cons a r ih =>
  let:=ih λx hx=>h x (Jk _ hx);let:=h a Jl;rw[List.flatMap_cons,Jc,Jv,Jhm];lia
end L3
variable{zs qs:List L3.Fq}
namespace L2
open PySem PySem.W PyProof.Rows HT PySem.Calls
section
theorem Zlw[DecidableEq τ](N:L3.Enc τ){x y:V}{u v:Ca}{a b:τ}(I:Inv X pq σ H s)(hu:A.units+100<E9)(h1:DV X.K H x (N.py a))(h2:DV X.K H y (N.py b))(r1:RelV x u)(r2:RelV y v):Ki A s u v (decide (a=b)):=by
 let⟨as,ra⟩:=Wb I h1 r1;let⟨bs,rb⟩:=Wb I h2 r2;let:=SeqAt.eqAt_reads _ _ A s _ _ as bs ra rb (N.shp a).1 (N.shp b).1 (by have:=N.hn;let:=(N.shp a).2;let:=Nat.min_le_left (N.py a).depth (N.py b).depth;lia);rwa [N.eq]at this
theorem Zif{a b:Addr}{ms:List Int}(I:Inv X pq σ H s)(hu:A.units+100<E9)(h1:SqL X.K H a (ns.map V.int))(h2:SqL X.K H b (ms.map V.int)):Ki A s (.ref a) (.ref b) (decide (ns=ms))/\LtAt A s (.ref a) (.ref b) (HT.lexLt ns ms):=by
 refine⟨Zlw (L3.W2 L3.Z9) I hu (.lst h1 (U5 ns)) (.lst h2 (U5 ms)) rfl rfl,?_⟩;let⟨its,rv,pl,_⟩:=I.list h1;let⟨its2,rv2,pl2,_⟩:=I.list h2;let i1:=Nt rv;let i2:=Nt rv2;let:=LtAt.lst (A:=A) (z:=λj=>(ns[j]? == ms[j]?,decide ((ns[j]?).getD 0<(ms[j]?).getD 0))) pl.isList pl2.isList () λj g1 g2=>by
  simp only[List.getElem_toArray];exact Zpo i1 i2 j (by simpa using g1) (by simpa using g2)
 rwa [Jm,Jm,(ints_at i1).1,(ints_at i2).1,Za6]at this
end
end L2
namespace L3
open PySem L2
def Zmj(K:Cr)(P1:Addr)(pos1:Pos)(q1:Str)(P2:Addr)(pos2:Pos)(q2:Str):Sp:=λvs H Q _=>∃(a:Addr)(ns:List Int),vs=[.ref a]/\SqL K H a (ns.map V.int)/\ns.length<=63/\Ve P1 pos1 q1 H/\Ve P2 pos2 q2 H/\P1≠P2/\∀H',Q (.bl true) H'
inductive dLaw2(P1:Addr)(pos1:Pos)(q1:Str)(P2:Addr)(pos2:Pos)(q2:Str)(ds:List D)(M:Mem)(K:K3):Prop
 |mk:∀ns:List Int,ds=[.frz (ns.map .int)]->(M=[.tab P1 pos1 q1,.tab P2 pos2 q2]/\ns.length<=63/\∀M',K (.bl true) M')->dLaw2 P1 pos1 q1 P2 pos2 q2 ds M K
def Zpi{C:Cf}{P1:Addr}{pos1 pos2:Pos}{q1 q2:Str}{E:XK}(h:Zmj C.k P1 pos1 q1 P2 pos2 q2 vs H Q E):spOf C (dLaw2 P1 pos1 q1 P2 pos2 q2) vs H Q E:=by
 let⟨a,ns,rfl,hS,hl,⟨ps,eP,tp,cp⟩,⟨ps2,eP2,tp2,cp2⟩,ne,k⟩:=h;let sI:Same (λb=>if b=P1\/b=P2 then none else H b) H:=λb o e=>by
  let e':(if b=P1\/b=P2 then none else H b)=some o:=e
  split at e'
  .cases e'
  .exact e'
 let out:∀(b:Addr)(o),H b=some o->(∀z,o≠.tbl z)->(if b=P1\/b=P2 then none else H b)=some o:=λb o e n=>by
  rw[Fv]
  .exact e
  .rintro(z|z)
   .subst z;rw[eP]at e;cases e;exact n _ rfl
   .subst z;rw[eP2]at e;cases e;exact n _ rfl
 exists⟨λ_=>none,[],λ_ _ _=>False,λ_ _ _=>False⟩,λb=>if b=P1\/b=P2 then none else H b,[P1,P2],[.tab P1 pos1 q1,.tab P2 pos2 q2],[.frz (ns.map .int)],λd _=>d=.bl true,⟨(λ_ _ h=>nomatch h),Bx,sI,rfl,by simp[ne],λk' a' m h1 h2=>?_⟩,?_,⟨ns,rfl,rfl,hl,λ_=>rfl⟩,λv d I' α' H' M' s p R r h=>?_
 .match k',h1,h2 with
  |0,h1,h2 =>
   simp at h1 h2;subst h1;subst h2;exists⟨rfl,ps,eP,tp,?_⟩,Fw (.inl rfl);rcases cp with z|⟨c,z1,z2⟩
   .exact .inl z
   .exact .inr ⟨c,z1,out c _ z2 λ_ z=>by cases z⟩
  |1,h1,h2 =>
   simp at h1 h2;subst h1;subst h2;exists⟨rfl,ps2,eP2,tp2,?_⟩,Fw (.inr rfl);rcases cp2 with z|⟨c,z1,z2⟩
   .exact .inl z
   .exact .inr ⟨c,z1,out c _ z2 λ_ z=>by cases z⟩
  |n+2,h1,h2=>simp at h1
 .refine .one (.frz ?_ (.ints ns));rcases hS with(hS|⟨o,hS⟩)|hS
  .exact .inl (.inl (out a _ hS λ_ z=>by cases z))
  .exact .inl (.inr ⟨o,out a _ hS λ_ z=>by cases z⟩)
  .exact .inr hS
 .subst h;cases r.inv;exact k H'
end L3
namespace L2
open PySem PySem.W PyProof.Rows HT PySem.Calls
def Y0(a b:List Int):Bool:=if a.length=b.length then HT.lexLt a b else decide (a.length<b.length)
end L2
namespace L3
open PySem L2
section
abbrev tKey(K:Cr):TE:=tTup (Zao (tCB (rLen K) (Zao (tVar 0) tNil)) (Zao (tVar 0) tNil))
end
def Rf(zs:List (List Int)):List Int:=zs.getD (Yx (λi j=>Y0 (zs.getD i []) (zs.getD j [])) (zs.length-1)) []
def Zcu(a:List Int):Y0 a a=false:=by unfold Y0;rw[if_pos rfl];exact L2.Ts a
theorem Za9{a b c:List Int}(h1:Y0 a b=true)(h2:Y0 b c=true):Y0 a c=true:=by
 unfold Y0 at *
 by_cases e1:a.length=b.length
 .rw[Fw e1]at h1
  by_cases e2:b.length=c.length
  .rw[Fw e2]at h2;rw[Fw (e1.trans e2)];exact T7 h1 h2
  .rw[Fv e2]at h2;rw[Fv (),e1];exact h2
 .rw[Fv e1]at h1;let h1:=Fk h1
  by_cases e2:b.length=c.length
  .rw[Fv ()];exact Fx ()
  .rw[Fv e2]at h2;let h2:=Fk h2;rw[Fv ()];exact Fx ()
theorem Zik{a b:List Int}(h1:Y0 a b=false)(h2:Y0 b a=false):a=b:=by
 unfold Y0 at *
 by_cases e:a.length=b.length
 .rw[Fw e]at h1;rw[Fw e.symm]at h2;exact Nn h1 h2
 .rw[Fv e]at h1;rw[Fv (Ee e)]at h2;let h1:=Fm h1;let h2:=Fm h2;lia
theorem Zba{a b c:List Int}(h1:Y0 b a=false)(h2:Y0 c b=false):Y0 c a=false:=by
 cases e:Y0 c a with
 |false=>rfl
 |true =>
  cases e2:Y0 a b with
  |true=>rw[Za9 e e2]at h2;cases h2
  |false=>rw[<-Zik e2 h1]at h2;rw[e]at h2;cases h2
theorem Qo{zs:List (List Int)}:∀n,n<zs.length->∀j,j<=n->Y0 (zs.getD j []) (zs.getD (Yx (λi j=>Y0 (zs.getD i []) (zs.getD j [])) n) [])=false
 |0,_,j,hj=>by rw[show j=0 by lia];exact Zcu _
 |n+1,hn,j,hj=>by
  let ih:=Qo (zs:=zs) n ();rw[Yx];generalize Yx (λi j=>Y0 (zs.getD i []) (zs.getD j [])) n=k at ih;cases e:Y0 (zs.getD (n+1) []) (zs.getD k [])with
  |true =>
   rw[Fw rfl]
   by_cases hj2:j=n+1
   .rw[hj2];exact Zcu _
   .let:=ih j ();cases e2:Y0 (zs.getD j []) (zs.getD (n+1) [])with
    |false=>rfl
    |true=>rw[Za9 e2 e]at this;cases this
  |false =>
   rw[Fv nofun]
   by_cases hj2:j=n+1
   .rw[hj2];exact e
   .exact ih j ()
theorem Zfi{us:List (List Int)}(h:us≠[]):Rf us∈us:=by
 let hl:0<us.length:=Gi.mpr h;let hm:=Ru (λi j=>Y0 (us.getD i []) (us.getD j [])) (us.length-1);unfold Rf;rw[Jx,Jb ()];exact Jn _
theorem Zbb{us:List (List Int)}{w:List Int}(h:w∈us):Y0 w (Rf us)=false:=by
 let⟨j,hj,rfl⟩:=Gb h;let:=Qo (zs:=us) (us.length-1) () j ();unfold Rf;rwa [show us.getD j []=us[j]by rw[Jx,Jb hj];rfl]at this
end L3
namespace L2
open PySem PySem.W
def AllL :Nat->(List τ->Prop)->Prop
 |0,Q=>Q []
 |n+1,Q=>∀a,AllL n λl=>Q (a::l)
theorem allL :∀{n:Nat}{Q:List τ->Prop},AllL n Q->∀{us:List τ},us.length=n->Q us
 |0,_,h,[],_=>h
 |n+1,_,h,a::l,e=>allL (h a) (Nat.succ.inj e)
def us2{Q:List τ->Prop}(h:∀a b,Q [a,b])(us:List τ)(hl:us.length=2):Q us:=match us,hl with |[a,b],_=>h a b
structure FnG(K:Frag)(x:Str)(st:Stmt)(f:Addr)(fd:Md):Prop where
 g:nsIn K Ct x=some (some (.ref f))
 F:Fun K x x st f fd
structure MtG(K:Frag)(C:Addr)(m q:Str)(st:Stmt)(f:Addr)(fd:Md):Prop where
 a:Ed K (.ref C) m=some (some (.ref f))
 n:isFn K (.ref f)=true
 F:Fun K m q st f fd
def Zm5(K:Frag)(xs:List Str):Bool:=xs.all λx=>match nsIn K Ct x with|some none=>true|_=>false
theorem Wk{K:Frag}{xs:List Str}(X:K.In h)(G:h.Ns Ct mg)(z:Zm5 K xs=true)(i:Nat){x:Str}(e:xs[i]?=some x):mg x=none:=by
 let:=List.all_eq_true.mp z x (Gq e);cases q:nsIn K Ct x with
 |none=>rw[q]at this;cases this
 |some o =>
  cases o with
  |none=>exact mg_none_of X G q
  |some v=>rw[q]at this;cases this
structure MkG(K:Frag)(C:Addr):Prop where
 m:makesIn K C=true
 k:keepIn K (.ref C)=true
structure CaG(K:Frag)(C:Addr):Prop where
 t:Jic K (.ref C)=some (.type "type")
 b:L7 K C (.type "BaseException")=some true
structure Tk(P:Ez)(w:Hm)(K:Frag)(mg:Str->Option Ca)(base:Heap):Prop where
 m:∀{x:Str}{v:Ca},nsIn K Ct x=some (some v)->mg x=some v
section
variable{K:Frag}{base:Heap}{x m:Str}{f:Addr}{k:Nat} 
abbrev Bnd(x q:Str)(st:Stmt)(ps:List Str):Prop:=∀(kV doc pm:Ca)(an:Option Addr)(cdv ct:Ca)(us:List Ca),us.length=ps.length->Jde (fnOf x q (Y4 st) (Yi st) (Zg st) .none kV doc pm an cdv ct) ⟨us,[]⟩=pure (ps.zip us)
def bn(h:∀(kV doc pm:Ca)(an:Option Addr)(cdv ct:Ca),AllL ps.length λus=>Jde (fnOf x q (Y4 st) (Yi st) (Zg st) .none kV doc pm an cdv ct) ⟨us,[]⟩=pure (ps.zip us)):Bnd x q st ps:=λkV doc pm an cdv ct _ e=>allL (h kV doc pm an cdv ct) e
def Wf(Y:Tk P w K mg base)(g:FnG K x st f fd)(ok:FnOk P w K mg base CX0 k f fd ps sp)(b:Bnd x x st ps:=by apply bn;(repeat intro _);exact rfl) :
  Cal P w K mg base x k ps sp:=Ztx g.F ok (Y.m g.g) (g.F.binds b)
def Ztw(Y:Tk P w K mg base)(g:FnG K x st f fd)(ok:FnOk P w K mg base (CXE P w) k f fd ps sp)(b:Bnd x x st ps:=by apply bn;(repeat intro _);exact rfl) :
  CalE P w K mg base x k ps sp:=Zp8 g.F ok (Y.m g.g) (g.F.binds b)
def Zic(Y:Tk P w K mg base)(cl:Cls K C)(g:MtG K C m q st f fd)(ok:FnOk P w K mg base CX0 k f fd ps sp)(b:Bnd m q st ps:=by apply bn;(repeat intro _);exact rfl) :
  Met P w K mg base C m k ps sp:=⟨f,fd,cl,⟨g.a,g.n,g.F.kp⟩,ok,g.F.binds b⟩
def Po(Y:Tk P w K mg base)(cl:Cls K C)(g:MtG K C m q st f fd)(ok:FnOk P w K mg base (CXE P w) k f fd ps sp)(b:Bnd m q st ps:=by apply bn;(repeat intro _);exact rfl) :
  MetE P w K mg base C m k ps sp:=⟨f,fd,cl,⟨g.a,g.n,g.F.kp⟩,ok,g.F.binds b⟩
def Zv1(Y:Tk P w K mg base)(mk:MkG K C)(g:MtG K C "__init__" q st f fd)(ok:FnOk P w K mg base CX0 k f fd ps sp)(hm:nsIn K Ct x=some (some (.ref C)))(b:Bnd "__init__" q st ps:=by apply bn;(repeat intro _);exact rfl) :
  Mkr P w K mg base x C k ps sp:=⟨f,fd,⟨mk.m,g.a,g.n,mk.k⟩,ok,Y.m hm,g.F.binds b⟩
def rx_g(Y:Tk P w K mg base)(xc:XCl K C f)(xi:Qq K C=some (some (.ref f)))(g:MtG K C "__init__" q st f fd)(ok:FnOk P w K mg base CX0 k f fd ps sp)(hm:nsIn K Ct x=some (some (.ref C)))(b:Bnd "__init__" q st ps:=by apply bn;(repeat intro _);exact rfl) :
  Rx P w K mg base x C k ps sp:=⟨f,fd,xc,xi,ok,Y.m hm,g.F.binds b⟩
end
end L2
namespace L3
open PySem L2
section
variable{C:Cf} 
def Zqt(h:X.K=K')(hu:X.A.units+200<E9):OpR X (Eo .Lt) (L2.rLtD K'):=by subst h;exact Zs1 hu
inductive ltD3(d:D)(e:D)(M:Mem)(K:K3):Prop
 |mk:∀(p q:PyData)(b:Bool),PyR M d p->PyR M e q->LtP p q b->Er p=true->Er q=true->K (.bl b) M->ltD3 d e M K
def Zvg:SimR C Z (L2.rLtD C.k) ltD3:=λI α H M x y d e K Q R r1 r2 h k=>by
 let⟨p,q,b,h1,h2,l,s1,s2,h⟩:=h;exists p,q,b,Zaw R h1 r1,Zaw R h2 r2,l,s1,s2,k.now R (.bl _) h
end
def NeW(P:List Pr):Prop:=∀p∈P,p.2≠[]
section
theorem Zhe(ne:NeW L):∀{U:List Pr},(∀p∈U,p∈L)->U.length<=(Zv U).length
 |[],_=>Jd _
 |p::U,h=>by
  let:=Zhe ne (U:=U) λq hq=>h q (Jk _ hq);let:=Gi.mpr (ne p (h p Jl));rw[U2,Jc,Jv];lia
end
def Zkn{R:Mem} :(M++[m]++R).set M.length m'=M++[m']++R:=by
 rw[Gg,Lg _ _ (Jd _),Nat.sub_self,Gg];rfl
end L3
namespace L3
open PySem PySem.W PyProof.Rows L2
section
variable{C:Cf}{t:TA}{u:TA3}
inductive uHand_1(K:K3)(ds:List D)(M:Mem):Prop
 |mk:∀(d i:Int)(cs:List Int),ds=[.int d,.int i,.lst (cs.map .int)]->((cs≠[]/\cs.length<=63/\0<=d/\0<=i/\∀c∈cs,0<=c)/\K (.cell M.length) (M++[.hand]))->uHand_1 K ds M
def Zut(u:TA3):TE3:=λρ M K=>u ρ M (uHand_1 K)
def Zr9(ha:SimA C Z t u):SimE C Z (tLst t) (Zut u):=λI α σ H ρ M K Q R E h k =>
 ha I α σ H ρ M _ _ R E h λvs ds I1 α1 H1 M1 s1 p1 R1 r1 h1=>by
  let⟨d,i,cs,rfl,⟨x3,x4,x5,x6,x7⟩,h⟩:=h1;refine Reps.e3 r1 λ_ _ _ a b c=>?_;cases a.inv;cases b.inv;let⟨q,vs,rfl,ec,rc⟩:=c.inv;rw[rc.of_ints cs]at ec;exists(show 3<=Cb by decide),λp hp=>?_;let⟨R2,p2,e2⟩:=R1.cell (o:=.lst [.int d,.int i,.ref q]) (m:=.hand) hp λH' e=>⟨d,i,q,cs,e,ec,x3,x4,x5,x6,x7⟩;exact k _ _ I1 _ _ _ s1 (p1.trans p2) R2 (.cell e2) h
end
end L3
namespace L2
open PySem PySem.W PyProof.Rows HT PySem.Calls
def KlAt(K:PySem.W.Frag)(H:Hp)(v:V)(w:List Int):Prop:=∃(a b:Addr),v=.ref a/\SqT K H a [.int w.length,.ref b]/\SqL K H b (w.map V.int)
def KlAt.same{K:PySem.W.Frag}{w:List Int}(h:KlAt K H v w)(s:Same H H'):KlAt K H' v w :=
 let⟨a,b,e,h1,h2⟩:=h
 ⟨a,b,e,Zdv s h1,s.seq h2⟩
section
theorem Zpk{v':V}{x y:List Int}(h1:KlAt X.K H v x)(h2:KlAt X.K H v' y):LtsV X H v v' (Y0 x y):=by
 intro pq σ s A u w I hu ru rw';let⟨a,b,rfl,ha,hb⟩:=h1;let⟨a',b',rfl,ha',hb'⟩:=h2;cases ru;cases rw';let⟨its,rv,⟨o,e,cl,n,dt⟩,_⟩:=I.tuple ha;let⟨its2,rv2,⟨o2,e2,cl2,n2,dt2⟩,_⟩:=I.tuple ha';let u1:A.in1.units+100<E9:=by show A.units+1+100<E9;lia
 let⟨q1,q2⟩:=Zif (A:=A.in1) I u1 hb hb';cases rv with
 | @cons _ v1 _ _ r1 rv =>
  cases rv with
  | @cons _ v2 _ _ r2 rv =>
   cases rv;cases rv2 with
   | @cons _ w1 _ _ t1 rv2 =>
    cases rv2 with
    | @cons _ w2 _ _ t2 rv2 =>
     cases rv2;let⟨k1,rfl⟩:=r1;let⟨k2,rfl⟩:=t1;obtain rfl:v2=.ref b:=r2;obtain rfl:w2=.ref b':=t2;let:=LtAt.tup (A:=A) (z:=λj=>match j with|0=>((x.length:Int)==(y.length:Int),decide ((x.length:Int)<y.length))|_=>(decide (x=y),HT.lexLt x y)) () e cl dt e2 cl2 dt2 λj g1 g2=>by
      match j,g1 with
      |0,_=>exact⟨Ki.int_int _ _ _ _,.int _ _ _ _⟩
      |1,_=>exact⟨q1,q2⟩
      |j+2,h=>exact Fl h (by simp)
     let er:∀z:Nat->Bool×Bool,lexN z 2 2=if(z 0).1 then(if(z 1).1 then false else(z 1).2)else(z 0).2:=λz=>rfl;rw[show lexN _ [_,_].length [_,_].length=lexN _ 2 2 from rfl,er]at this;simp only[decide_eq_true_eq,beq_iff_eq,Int.ofNat_lt,Int.ofNat_inj]at this;unfold Y0
     by_cases e4:x=y
     .rw[Fw e4]at this;rw[e4,Ts];rw[e4]at this;exact this
     .rw[Fv e4]at this;exact this
theorem Zfq{f:Addr}{ws:List V}{lt:Nat->Nat->Bool}{KeyAt:Nat->V->Hp->Prop}(I:Inv X pq σ H s)(hc:X.calm=true)(hu:X.A.units+200<E9)(hl:SqL X.K H l ws)(mono:∀(i:Nat)(x:V)(H H':Hp),Same H H'->KeyAt i x H->KeyAt i x H')(hlt:∀(H2:Hp)(i j:Nat)(x y:V),Same H H2->i<ws.length->j<ws.length->KeyAt i x H2->KeyAt j y H2->LtsV X H2 x y (lt i j))(hcall:∀(pins':List (Addr×Obj))(s':Cc)(H2:Hp)(i:Nat)(hi:i<ws.length)(u:Ca),(∀p∈pq,p∈pins')->Same H H2->Inv X pins' σ H2 s'->RelV ws[i] u ->
   Cd (Ck X.prog X.w) X.A.in1 (call (.ref f) [u]) (EP X pins' σ λv H'=>Same H2 H'/\KeyAt i v H') (λ_ _=>False) s')(h:∀(H':Hp)(v:V),Same H H'->((ws=[]/\v=.non)\/∃hm:Yx lt (ws.length-1)<ws.length,v=ws[Yx lt (ws.length-1)])->Q v H') :
  Cd (Ck X.prog X.w) X.A (call (.builtin "min") [.ref l] [(Ci "key",.ref f),(Ci "default",.none)]) (EP X pq σ Q) E s:=by
 let hname:(Ew "min"++Ew ".loop":String)="min.loop":=by decide
 refine kmk_tree PySem.F.kind_min PySem.F.plain_min PySem.F.entry_min (by unfold argsOk;kernel_rfl) ?_;show Cd _ X.A.in1 (C3 "min" ["key","default"] 0 ⟨[],[(Ci "key",.ref f),(Ci "default",.none)]⟩ >>= _) _ _ s;refine Fo (wpAny_of_eq (show C3 "min" ["key","default"] 0 ⟨[],[(Ci "key",.ref f),(Ci "default",.none)]⟩=pure [some (.ref f),some .none]from rfl) ?_);refine Fo (Fp ?_);let⟨its,rv,pl,hz⟩:=I.list hl;refine Fo (E2 pl.isList ?_);refine Fo (Kh ?_ (Ju _));rw[hname];let I3:Inv X pq σ H {s with heap:=(s.heap.push {cls:=.type "list_iterator",data:=.fields #[.ref l,.int 0 0]}).push (lst0 #[] 0)}:=I.kept (t':=s.toks) λb o e=>Fs _ (Fs _ e)
 let hit:FpOk X pq H s.heap.objs.size:=I.fpOk (Jd _) (I.hok.fresh (Jd _));let hle:s.heap.objs.size<=(s.heap.push {cls:=.type "list_iterator",data:=.fields #[.ref l,.int 0 0]}).objs.size:=by rw[El];exact G2 _
 let hB:=I.fpOk (H':=H) hle (I.hok.fresh hle);let nB:s.heap.objs.size≠(s.heap.push {cls:=.type "list_iterator",data:=.fields #[.ref l,.int 0 0]}).objs.size:=by rw[El];exact Gd (Bc _)
 by_cases hn:0<ws.length
 .refine Fp ⟨C4 PySem.F.plain_min_loop _,U3 (A:=X.A) (lt:=lt) (KeyAt:=KeyAt) (H0:=H) (I.ok.hd hc) () nB mono hlt hcall ws.length 0 none _ 0 H () hn (.refl _) hit hB I3 (.inl ⟨hl,⟨_,Fs _ (Ft _ rfl),rfl,rfl⟩⟩) (Ft _ rfl) rfl λs' u H' sm I' hu'=>?_⟩;let hm:Yx lt (ws.length-1)<ws.length:=by have:=Ru lt (ws.length-1);lia
  exists _,H',I',hu' hm,h H' _ sm (.inr ⟨hm,rfl⟩)
 .let hw:ws=[]:=Bd.mp ();let lz:ws.length=0:=by lia
  refine Fp ⟨C4 PySem.F.plain_min_loop _,?_⟩;refine Ef PySem.F.entry_min_loop ?_;rw[Cs PySem.F.plain_min_loop _];show Cd _ X.A.in1 (Ky (.ref _) >>= _) _ _ _;refine Fo (wpAny_seqItems (Ft _ rfl) rfl ?_);show Cd _ X.A.in1 (tryCatch (Lx (.ref _)) _ >>= _) _ _ _;refine Fo (Eb (F7 (Sl (ys:=ws) (p:=l) (Q:=λr s'=>r=none/\Inv X pq σ H s') I3 hit (I.ok.hd hc) (.inl ⟨hl,⟨_,Fs _ (Ft _ rfl),rfl,by rw[lz];rfl⟩⟩) (Jd _) λs' I'=>⟨rfl,I'⟩) (λr s'⟨er,I'⟩=>?_) λ_ _ z=>z));subst er;refine Fo (Kt (Fp ?_));exists .non,H,I',rfl,h H .non (.refl _) (.inl ⟨hw,rfl⟩)
def Zmf(K:PySem.W.Frag)(P:Addr)(lpos:Pos)(qual:Str)(tb:TE)(ta:TA):TE:=λσ H Q=>ta σ H λvs H1=>∃(l:Addr)(ws:List V)(zs:List (List Int)),vs=[.ref l]/\SqL K H1 l ws/\ws.length=zs.length/\Ve P lpos qual H1 /\
 (∀(H2 H3:Hp)(i:Nat)(h1:i<ws.length)(h2:i<zs.length),S2 P H1 H2->Same H2 H3->tb [some ws[i]] H3 λv H'=>Same H3 H'/\KlAt K H' v zs[i]) /\
 ∀(H2 H3:Hp)(y:Addr)(v:V),H1 y=none->S2 P H1 H2->Ve P lpos qual H2->Same H2 H3->((ws=[]/\v=.non)\/∃(k:Nat)(h:k<ws.length),v=ws[k]/\k=Yx (λi j=>Y0 (zs.getD i []) (zs.getD j [])) (zs.length-1))->Q v H3
theorem Zk4{e:Expr}{ta:TA}{c P:Addr}{x:Str}{params:Arguments}{body dn:Expr}{scope:Scope}{p lpos dpos:Pos}(hr:Room 2 X.A)(hc:X.calm=true)(hg:Gl X "min")(hm:X.mg "min"=none)(ha:PA X [e] ta)(hcode:X.env.code=.ref c)(C:CodeHd X.base c P)(B:Bm X.mg X.base)(hcl:Jes scope X.env=pure [])(hdef:defaultsOf params X.env=([],[]))(S:FnScope [x] [x] scope)(hbind:∀(pm cv ctv u:Ca),Jde (kla_fn "<lambda>" (X.env.qual++"<lambda>") params body scope [] pm cv ctv) ⟨[u],[]⟩=pure [(x,u)])(hb:∀(f c':Addr)(A:Kj)(outer:List Env)(s:Cc)(H:Hp),PE (cxOf CX0 X.prog X.w X.K X.mg X.base [x] (X.env.qual++"<lambda>") scope f (.ref c') A outer s H E0) body tb)(hd:eval dn X.env=pure .none:=by rfl)(he:Cj [e] X.env=[(false,eval e X.env)]:=by rfl) :
  PE X (.Call (.Name "min" p) [e] [⟨some "key",.Lambda params body scope lpos,kpos⟩,⟨some "default",dn,dpos⟩] pos) (Zmf X.K P lpos (X.env.qual++"<lambda>") tb ta):=by
 intro pq s σ H Q I h;refine Ej (T8 I hg hm Kc ?_);refine callWith_kw (thn (ha pos pq s σ H _ I h) λus s1 hz=>?_) (by rw[he];rfl) (by rw[he];rfl);let⟨vs,H1,I1,r1,l,ws,zs,ev,hl,hz,T,hbo,q1⟩:=hz;subst ev;let⟨u,rfl,ru⟩:=Vals.one r1;obtain rfl:u=Ch l:=ru;let⟨ps,hP,_,_⟩:=id T;show Cd _ _ (evalAll [do let v <-eval (.Lambda params body scope lpos) X.env;Lv pos;pure v,do let v <-eval dn X.env;Lv pos;pure v]) _ _ s1;refine wpAny_evalAll_cons (Fo (Zeh I1 hcode C B T hcl hdef λf c' pm ctv H2 s2 sT T2 hx I2=>Fo (E7 (Fp (wpAny_evalAll_cons (Fo ?_))))))
 rw[hd];refine Fp (Fo (E7 (Fp (wpAny_evalAll_nil ?_))));show Cd _ _ (call (.builtin "min") [.ref l] [(Ci "key",.ref f),(Ci "default",.none)]) _ _ s2;refine F7 (Zfq (Q:=Q) (E:=X.xe) (KeyAt:=λi v H=>∃h:i<zs.length,KlAt X.K H v zs[i]) (lt:=λi j=>Y0 (zs.getD i []) (zs.getD j [])) I2 hc (Znk hr) (sT.sqL hP hl) (λi x H H' sm⟨h,ky⟩=>⟨h,ky.same sm⟩) (λH3 i j x y sm h1 h2⟨g1,k1⟩⟨g2,k2⟩=>?cmp) (λpins' s' H3 i hi u hp sm I' rv=>?cal) λH3 v sm hv=>q1 H2 H3 s1.heap.objs.size v (I1.hok.fresh (Jd _)) sT T2 sm ?res) (λv s'⟨v',H',J,rv,qq⟩=>⟨v',H',J.unpinned,rv,qq⟩) λ_ _ z=>z
 case cmp =>
  show LtsV X H3 x y (Y0 (zs.getD i []) (zs.getD j []));rw[Jx,Jx,Jb g1,Jb g2];exact Zpk k1 k2
 case cal =>
  let hpin:=I'.pin (f,Ti (X.env.qual++"<lambda>") params body scope pm (.ref c') ctv) (Js _ (hp _ (Js _ (Jg.mpr rfl))));refine K6 (Hl (Zij (I'.env0.in1) hr.in1 hpin.1 (I'.hok c' _ (sm _ _ hx)).1 S (hbind pm (.ref c') ctv u) rv (hb f c' _ _ _ _) (hbo H2 H3 i hi () sT sm)) λr s'' hq'=>?_);cases r with
  |error e=>exact Cq hq'
  |ok fl =>
   cases fl with
   |ret u =>
    let⟨v,H',a,b,c2,d⟩:=I'.after hq';exists v,H',a,b,c2,(),d
   |next=>exact Cq hq'
   |brk=>exact Cq hq'
   |cont=>exact Cq hq'
 case res =>
  rcases hv with z|⟨hm,e⟩
  .exact .inl z
  .exact .inr ⟨_,hm,e,by rw[hz]⟩
def Zmu(K:PySem.W.Frag):List V->Hp->VK->Prop:=λxs H Q=>∃(a:Addr)(vs:List V)(zs:List (List Int)),xs=[.ref a]/\SqL K H a vs/\0<vs.length/\vs.length=zs.length/\(∀(i:Nat)(h1:i<vs.length)(h2:i<zs.length),∃b,vs[i]=.ref b/\SqL K H b (zs[i].map V.int)) /\
 ∀k(h:k<vs.length),k=Yx (λi j=>HT.lexLt (zs.getD i []) (zs.getD j [])) (zs.length-1)->Q vs[k] H
theorem Zfp{K:PySem.W.Frag}(hK:X.K=K)(hc:X.calm=true)(hu:X.A.units+200<E9):Wr X (.builtin "min") (Zmu K):=by
 intro pq s2 σ H2 xs us Q I2 r h;subst hK;let⟨a,vs,zs,rfl,hl,hn,hz,hs,q⟩:=h;refine Zjm hc hu pq s2 σ H2 _ us Q I2 r ⟨a,vs,_,rfl,hl,hn,λi j h1 h2=>?_,λhm=>q _ hm (by rw[hz])⟩;show LtsV X H2 vs[i] vs[j] (HT.lexLt (zs.getD i []) (zs.getD j []));rw[Jx,Jx,Jb (),Jb ()];let⟨b,e,g⟩:=hs i h1 ();let⟨b',e',g'⟩:=hs j h2 ();rw[e,e'];intro pq σ s A u w I hu ru rw';cases ru;cases rw';exact(Zif I () g g').2
end
end L2
namespace L3
open PySem L2
section
variable{C:Cf}{t:TA}{u:TA3}
inductive uMinKC_1(Pt:Addr)(pos:Pos)(q:Str)(K:K3)(ds:List D)(M1:Mem):Prop
 |mk:∀(k0:Nat)(d:D)(xs:List D)(zs:List (List Int)),ds=[d]->M1[k0]?=some (.tab Pt pos q)->Xg M1 d=some xs->xs.length=zs.length->(∀(i:Nat)(h1:i<xs.length)(h2:i<zs.length),Xg M1 xs[i]=some (zs[i].map .int)) ->
  (xs=[]->K .non M1)->(∀(k:Nat)(h:k<xs.length),k=Yx (λi j=>Y0 (zs.getD i []) (zs.getD j [])) (zs.length-1)->K xs[k] M1)->uMinKC_1 Pt pos q K ds M1
def Zq2(Pt:Addr)(pos:Pos)(q:Str)(u:TA3):TE3:=λρ M K=>u ρ M (uMinKC_1 Pt pos q K)
theorem Zoe(hr:SimA C Z t u):SimE C Z (Zmf C.k Pt pos q (tKey C.k) t) (Zq2 Pt pos q u):=λI α σ H ρ M K Q R E h k =>
 hr I α σ H ρ M _ _ R E h λvs ds I1 α1 H1 M1 s1 p1 R1 r1 h1=>by
  let⟨k0,d,xs,zs,rfl,hk,e1,lz,hz,hN,hY⟩:=h1;refine Reps.e1 r1 λ_ r1=>?_;let⟨a,ws,rfl,ea,ra⟩:=W1 R1 r1 e1;let len:ws.length=xs.length:=ra.length;let⟨P',eP,⟨eqP,ps,ep,tp,cp⟩,iP⟩:=R1.get hk;subst eqP;let tb1:Ve P' pos q H1:=⟨ps,ep,tp,by
   rcases cp with z|⟨c,z1,z2⟩
   .exact .inl z
   .exact .inr ⟨c,z1,R1.sub _ _ z2⟩⟩
  exists a,ws,zs,rfl,ea,(),tb1,λH2 H3 i h1 h2 sT sm=>?_,λH2 H3 y v hy sT tb sm hv=>?_
  .let⟨b,vs',eb,eq',rb⟩:=W1 R1 (ra.at h1 ()) (hz i () h2);rw[eb];rw[Reps.of_ints _ rb]at eq';let hq:SqL C.k H3 b (zs[i].map V.int):=sm.seq (sT.sqL ep eq');exists ·,_,zs[i].length,rfl,?_,?_
   .exact .inl ⟨_,hq,by rw[Ja]⟩
   .exists ·,by show 2<=Cb;rw[Ei];lia,λp hp=>?_;let sp:=Zl (o:=.tup [.int zs[i].length,.ref b]) hp;exists sp,p,b,rfl,SqT.of Zh,sp.seq hq
  .let⟨I',s',R',f⟩:=R1.made hk hy tb λb o n1 n2 e=>sT b o n2 e;rcases hv with⟨z,rfl⟩|⟨j,hj,rfl,ej⟩
   .exact k _ _ I' α1 H3 M1 (s1.trans s') p1 (R'.same sm) .non (hN (Bd.mp (by rw[<-len,z];rfl)))
   .exact k _ _ I' α1 H3 M1 (s1.trans s') p1 (R'.same sm) ((ra.at hj ()).mono s' (Ji _)) (hY j () ej)
inductive minLL3(ds:List D)(M:Mem)(K:K3):Prop
 |mk:∀(d:D)(xs:List D)(zs:List (List Int)),ds=[d]->Xg M d=some xs->0<xs.length->xs.length=zs.length->(∀(i:Nat)(h1:i<xs.length)(h2:i<zs.length),Xg M xs[i]=some (zs[i].map .int))->(∀k(h:k<xs.length),k=Yx (λi j=>HT.lexLt (zs.getD i []) (zs.getD j [])) (zs.length-1)->K xs[k] M)->minLL3 ds M K
theorem Zod:SimC C Z (Zmu C.k) minLL3:=λI α H M xs ds K Q R r h k=>by
 let⟨d,ys,zs,rfl,e,hn,lz,hz,h⟩:=h;refine Reps.e1 r λ_ r1=>?_;let⟨a,ws,rfl,ea,ra⟩:=W1 R r1 e;let len:ws.length=ys.length:=ra.length;exists a,ws,zs,rfl,ea,(),(),λi h1 h2=>?_,λj hj ej=>k.now R (ra.at hj ()) (h j () ej);let⟨b,vs',eb,eq',rb⟩:=W1 R (ra.at h1 ()) (hz i () h2);rw[Reps.of_ints _ rb]at eq';exists b,eb,eq'
end
def cov(rs:List (List Int))(U:List Pr):Prop:=∃r∈rs,r<+:Zv U
def TxIn(L U:List Pr):Prop:=∀p∈U,p∈L
def Yq(L:List Pr)(rs:List (List Int)):Option (List Int)->Prop
 |none=>∀U,TxIn L U->¬ cov rs U
 |some t=>(∃U,TxIn L U/\Zm U=t/\cov rs U)/\∀U,TxIn L U->cov rs U->Y0 (Zm U) t=false
theorem Yq.uniq{L':List Pr}{rs':List (List Int)}{o o':Option (List Int)}(h:Yq L rs o)(h':Yq L' rs' o')(pm:L.Perm L')(e:∀U,TxIn L U->(cov rs U↔cov rs' U)):o=o':=by
 let tx:∀{U},TxIn L' U->TxIn L U:=λh p hp=>pm.mem_iff.mpr (h p hp);let tx':∀{U},TxIn L U->TxIn L' U:=λh p hp=>pm.mem_iff.mp (h p hp);cases o with
 |none =>
  cases o' with
  |none=>rfl
  |some t =>
   let⟨⟨U,hU,_,hc⟩,_⟩:=h';exact Fl ((e U (tx hU)).mpr hc) (h U (tx hU))
 |some t =>
  let⟨⟨U,hU,eU,hc⟩,hl⟩:=h;cases o' with
  |none=>exact Fl ((e U hU).mp hc) (h' U (tx' hU))
  |some t' =>
   let⟨⟨U',hU',eU',hc'⟩,hl'⟩:=h';let h1:=hl U' (tx hU') ((e U' (tx hU')).mpr hc');let h2:=hl' U (tx' hU) ((e U hU).mp hc);rw[eU']at h1;rw[eU]at h2;rw[Zik h2 h1]
theorem Zct{a b:List Int}(h:b.length<a.length):Y0 a b=false:=by
 unfold Y0;rw[Fv ()];exact Fy ()
theorem Zcs{a b:List Int}(h:b<+:a):Y0 a b=false:=by
 by_cases e:b.length<a.length
 .exact Zct e
 .let:=h.eq_of_length (by have:=h.length_le;lia);rw[this];exact Zcu a
theorem Qd(fr:Free S)(ne:∀p∈S,p.2≠[]):∀{U V:List Pr},TxIn S U->TxIn S V->Zv U<+:Zv V->U<+:V
 |[],_,_,_,_=>Bx
 |p::U,[],hU,_,h=>by
  let e:=List.prefix_nil.mp h;rw[U2]at e;exact Fl (List.append_eq_nil_iff.mp e).1 (ne p (hU p Jl))
 |p::U,q::V,hU,hV,h=>by
  rw[U2]at h;let e:p=q:=Zi4 fr (hU p Jl) (hV q Jl) ((Gc _ _).trans h) (Gc _ (Zv V));subst e;rw[U2]at h;exact List.cons_prefix_cons.mpr ⟨rfl,Qd fr ne (λx hx=>hU x (Jk _ hx)) (λx hx=>hV x (Jk _ hx)) ((G0 _).mp h)⟩
def Vv{r:List Int} :cov [r] U↔r<+:Zv U:=⟨λ⟨x,hx,h⟩=>by rw[Jg.mp hx]at h;exact h,λh=>⟨r,Jg.mpr rfl,h⟩⟩
def Zgz{V:List Pr}(h:U<+:V):Zm U<+:Zm V:=h.map _
def Zlg(fr:Free S)(ne:∀p∈S,p.2≠[])(hU:TxIn S U):Yq S [Zv U] (some (Zm U)) :=
 ⟨⟨U,hU,rfl,Vv.mpr (Ji _)⟩,λV hV hc=>Zcs (Zgz (Qd fr ne hU hV (Vv.mp hc)))⟩
def lsO(S:List Pr)(r:List Int):Option Int:=mnOf none ((S.filter λp=>decide (p.2.take r.length=r)).map (·.1))
theorem Zib:∀(c:Int)(ns:List Int),∃m,mnOf (some c) ns=some m/\(m=c\/m∈ns)/\m<=c/\∀n∈ns,m<=n
 |c,[]=>⟨c,rfl,.inl rfl,M8 _,λ_ h=>nomatch h⟩
 |c,n::r=>by
  let⟨m,e,h1,h2,h3⟩:=Zib (if n<c then n else c) r;exists m,e,?_,?_,λx hx=>?_
  .rcases h1 with h1|h1
   .by_cases z:n<c
    .rw[Fw z]at h1;exact .inr (by rw[h1];exact Jl)
    .rw[Fv z]at h1;exact .inl h1
   .exact .inr (Jk _ h1)
  .split at h2<;>lia
  .rcases Jt.mp hx with z|z
   .rw[z];split at h2<;>lia
   .exact h3 x z
theorem Zpb(h:mnOf none ns=none):ns=[]:=by
 cases ns with
 |nil=>rfl
 |cons n r =>
  let⟨m,e,_⟩:=Zib n r;rw[show mnOf none (n::r)=mnOf (some n) r from rfl,e]at h;cases h
theorem Zv0{m:Int}(h:mnOf none ns=some m):m∈ns/\∀n∈ns,m<=n:=by
 cases ns with
 |nil=>cases h
 |cons n r =>
  let⟨m',e,h1,h2,h3⟩:=Zib n r;rw[show mnOf none (n::r)=mnOf (some n) r from rfl,e]at h;cases h;exists ?_,λx hx=>?_
  .rcases h1 with z|z
   .rw[z];exact Jl
   .exact Jk _ z
  .rcases Jt.mp hx with z|z
   .rw[z];exact h2
   .exact h3 x z
def Re{r w:List Int}:w.take r.length=r↔r<+:w:=⟨λe=>by rw[<-e];exact Bz _ _,λh=>(List.prefix_iff_eq_take.mp h).symm⟩
def Zli{r:List Int}(h:lsO S r=none):∀p∈S,¬ r<+:p.2:=λp hp hr=>by
 let:=Zpb h;rw[Fb,List.filter_eq_nil_iff]at this;exact this p hp (Fx (Re.mpr hr))
def Zlh{r:List Int}{s:Int}(h:lsO S r=some s):(∃p∈S,p.1=s/\r<+:p.2)/\∀p∈S,r<+:p.2->s<=p.1:=by
 let⟨h1,h2⟩:=Zv0 h;let⟨p,hp,e⟩:=Jh.mp h1;let⟨h3,h4⟩:=Jz.mp hp;exists⟨p,h3,e,Re.mp (Fk h4)⟩,λq hq hr=>h2 _ (Jh.mpr ⟨q,Jz.mpr ⟨hq,Fx (Re.mpr hr)⟩,rfl⟩)
theorem Za3{V:List Pr}{rest:List Int}(fr:Free S)(ne:∀p∈S,p.2≠[])(hU:TxIn S U)(h0:rest≠[])(no:∀p∈S,¬ p.2<+:rest)(hV:TxIn S V)(hc:cov [Zv U++rest] V):∃q W,V=U++q::W/\q∈S/\rest<+:q.2:=by
 let hc:=Vv.mp hc;let⟨X,rfl⟩:=Qd fr ne hU hV ((Gc _ _).trans hc);rw[V6]at hc;let hr:=(G0 _).mp hc;cases X with
 |nil=>exact Fl (List.prefix_nil.mp hr) h0
 |cons q W =>
  let hq:q∈S:=hV q (Js _ Jl);exists q,W,rfl,hq,?_;rcases Hj (Gc q.2 (Zv W)) hr with z|z
  .exact Fl z (no q hq)
  .exact z
theorem Zih:∀(a b c:List Int),HT.lexLt (a++b) (a++c)=HT.lexLt b c
 |[],_,_=>rfl
 |x::a,b,c=>by
  rw[Ja9,Ja9,HT.lexLt_cons,Fw rfl];exact Zih a b c
theorem Zlf{rest:List Int}(fr:Free S)(ne:∀p∈S,p.2≠[])(hU:TxIn S U)(h0:rest≠[])(no:∀p∈S,¬ p.2<+:rest):Yq S [Zv U++rest] ((lsO S rest).map λs=>Zm U++[s]):=by
 cases e:lsO S rest with
 |none =>
  intro V hV hc;let⟨q,W,_,hq,hr⟩:=Za3 fr ne hU h0 no hV hc;exact Zli e q hq hr
 |some s =>
  let⟨⟨p,hp,rfl,hr⟩,hl⟩:=Zlh e;exists⟨U++[p],λx hx=>?_,?_,Vv.mpr ?_⟩,λV hV hc=>?_
  .rcases J9.mp hx with z|z
   .exact hU x z
   .rw[Jg.mp z];exact hp
  .show List.map _ _=_;rw[Jf];rfl
  .rw[V6,show Zv [p]=p.2 from Jp _];exact(G0 _).mpr hr
  .let⟨q,W,rfl,hq,hq2⟩:=Za3 fr ne hU h0 no hV hc;let e1:Zm (U++q::W)=Zm U++q.1::Zm W:=by show List.map _ _=_;rw[Jf];rfl
   rw[e1];cases W with
   |cons w W =>
    refine Zct ?_;rw[Jc,Jc];show _+1<_+((Zm W).length+1+1);lia
   |nil =>
    unfold Y0;rw[Fw (by rw[Jc,Jc];rfl),Zih,show Zm []=[]from rfl,HT.lexLt_cons];let:=hl q hq hq2
    by_cases z:q.1=p.1
    .rw[Fw z];rfl
    .rw[Fv z];exact Fy ()
theorem Zfg :∀{rs:List (List Int)}{os:List (Option (List Int))},rs.length=os.length->(∀(i:Nat)(h1:i<rs.length)(h2:i<os.length),Yq L [rs[i]] os[i])->Yq L rs (if os.filterMap id=[]then none else some (Rf (os.filterMap id))):=by
 intro rs os hl h;let one:∀o∈os,∃r∈rs,Yq L [r] o:=λo ho=>by
  let⟨i,hi,rfl⟩:=Gb ho;exists _,Jn (),h i () hi
 let two:∀r∈rs,∃o∈os,Yq L [r] o:=λr hr=>by
  let⟨i,hi,rfl⟩:=Gb hr;exists _,Jn (),h i hi ()
 by_cases e:os.filterMap id=[]
 .rw[Fw e];rintro U hU ⟨r,hr,hc⟩;let⟨o,ho,hl⟩:=two r hr;cases o with
  |none=>exact hl U hU (Vv.mpr hc)
  |some t =>
   let:t∈os.filterMap id:=B0.mpr ⟨_,ho,rfl⟩;rw[e]at this;cases this
 .rw[Fv e];let⟨o,ho,eo⟩:=B0.mp (Zfi e);let eo:o=some (Rf (os.filterMap id)):=eo;let⟨r,hr,hl⟩:=one o ho;rw[eo]at hl;let⟨⟨U,hU,eU,hc⟩,_⟩:=hl;exists⟨U,hU,eU,r,hr,Vv.mp hc⟩,λV hV hz=>?_;let⟨r',hr',hc'⟩:=hz;let⟨o',ho',hl'⟩:=two r' hr';cases o' with
  |none=>exact Fl (Vv.mpr hc') (hl' V hV)
  |some t =>
   exact Zba (Zbb (B0.mpr ⟨_,ho',rfl⟩)) (hl'.2 V hV (Vv.mpr hc'))
def Xu(zs:List Fq)(z:Fq):List (List Int):=if z.2.2=[]then [[]]else(((zs.filter λy=>decide (y.1≠z.1)).map (·.2.2)).filter λm=>decide (m.take z.2.2.length=z.2.2)).map λm=>m.drop z.2.2.length
def V7{z:Fq}(h0:z.2.2≠[]){r:List Int}:r∈Xu zs z↔∃y∈zs,y.1≠z.1/\y.2.2=z.2.2++r:=by
 unfold Xu;rw[Fv h0,Jh]
 constructor
 .rintro⟨m,hm,rfl⟩;let⟨h1,h2⟩:=Jz.mp hm;let⟨y,hy,rfl⟩:=Jh.mp h1;let⟨h3,h4⟩:=Jz.mp hy;exists y,h3,Fk h4,?_;let:=Fk h2;exact(Bi z.2.2.length y.2.2).symm.trans (by rw[this])
 .rintro⟨y,hy,hn,e⟩;refine⟨y.2.2,Jz.mpr ⟨Jh.mpr ⟨y,Jz.mpr ⟨hy,Fx hn⟩,rfl⟩,Fx (by rw[e,Fh])⟩,by rw[e,Fi]⟩
def Nm{m:List Int}:Tq m ns=true↔m≠[]/\m<+:ns:=by
 unfold Tq;rw[G6,Fn,Fn,Re,Gi]
theorem Zpc{z:Fq}(nd:(zs.map (·.1)).Nodup)(hz:z∈zs)(U:List Pr):misB zs z.1 (z.2.2++Zv U)=true↔cov (Xu zs z) U:=by
 by_cases h0:z.2.2=[]
 .exists λ_=>⟨[],by unfold Xu;rw[if_pos h0];exact List.mem_singleton.mpr rfl,List.nil_prefix⟩,λ_=>Zld nd hz h0
 let hin:z∈Yy zs (z.2.2++Zv U):=Jz.mpr ⟨hz,Nm.mpr ⟨h0,Gc _ _⟩⟩;unfold misB;rw[Kf,decide_eq_false_iff_not]
 constructor
 .intro hne
  apply Classical.byContradiction
  intro hc
  apply hne
  let short:∀y∈Yy zs (z.2.2++Zv U),y≠z->y.2.2.length<z.2.2.length:=λy hy hyz=>by
   let⟨h1,h2⟩:=Jz.mp hy;let⟨h3,h4⟩:=Nm.mp h2
   apply Classical.byContradiction
   intro hl;let⟨r,e⟩:=List.prefix_of_prefix_length_le (Gc z.2.2 (Zv U)) h4 ();refine hc ⟨r,(V7 h0).mpr ⟨y,h1,λe1=>hyz (Tg nd h1 hz e1),e.symm⟩,?_⟩;rw[<-e]at h4;exact(G0 _).mp h4
  let top:topF (Yy zs (z.2.2++Zv U))=z.2.2.length:=by
   let⟨y,hy,e⟩:=Zrk (List.ne_nil_of_mem hin);let:=Zgj hin
   by_cases hyz:y=z
   .rw[<-e,hyz]
   .let:=short y hy hyz;lia
  let ndz:zs.Nodup:=List.Pairwise.of_map _ (λa b hn e=>hn (by rw[e])) nd;unfold Xp;rw[top];let:(Yy zs (z.2.2++Zv U)).filter (λy=>decide (y.2.2.length=z.2.2.length))=[z]:=by
   let nh:(Yy zs (z.2.2++Zv U)).Nodup:=ndz.filter _;let e:∀y,y∈(Yy zs (z.2.2++Zv U)).filter (λy=>decide (y.2.2.length=z.2.2.length))↔y=z:=λy=>by
    rw[Jz,Fn]
    constructor
    .rintro⟨a,b⟩
     apply Classical.byContradiction
     intro hyz;let:=short y a hyz;lia
    .rintro rfl;exists hin,rfl
   let nf:=nh.filter λy:Fq=>decide (y.2.2.length=z.2.2.length);generalize (Yy zs (z.2.2++Zv U)).filter (λy=>decide (y.2.2.length=z.2.2.length))=l at e nf;cases l with
   |nil=>exact Fl ((e z).mpr rfl) List.not_mem_nil
   |cons a l =>
    obtain rfl:=(e a).mp Jl;cases l with
    |nil=>rfl
    |cons b l =>
     obtain rfl:=(e b).mp (Jk _ Jl);exact Fl Jl (Bb.mp nf).1
  rw[this];rfl
 .rintro⟨r,hr,hc⟩ e;let⟨y,hy,hn,ey⟩:=(V7 h0).mp hr;let hyin:y∈Yy zs (z.2.2++Zv U):=Jz.mpr ⟨hy,Nm.mpr ⟨by rw[ey];exact λw=>h0 (List.append_eq_nil_iff.mp w).1,by rw[ey];exact(G0 _).mpr hc⟩⟩;let⟨x,hx,ex,_,ht⟩:=Zet (zs:=zs) (ns:=z.2.2++Zv U) (n:=z.1) (by rw[e];exact Jg.mpr rfl);obtain rfl:=Tg nd hx hz ex;let ty:=Zgj hyin;rw[<-ht,ey,Jc]at ty;let:y.1∈Xp zs (x.2.2++Zv U):=Jh.mpr ⟨y,Jz.mpr ⟨hyin,Fx (by rw[<-ht,ey,Jc];lia)⟩,rfl⟩;rw[e]at this;exact hn (Jg.mp this)
structure Ways(L:List Pr)(ws:List (List Int))(k:Nat)(W:List (List Pr)):Prop where
 inn:∀U∈W,TxIn L U/\U.length=k
 all:∀U,TxIn L U->U.length=k->(∃r∈ws,Zv U<+:r)->U∈W
 non:∀U,TxIn L U->U.length<=k->¬ cov ws U
def Zqs(h:∀r∈ws,r≠[]):Ways L ws 0 [[]]:=by
 exists λU h=>?_,λU _ h _=>?_,λU _ hl⟨r,hr,hc⟩=>?_
 .rw[Jg.mp h];exists λ_ h=>(nomatch h),rfl
 .rw[Bd.mp h];exact Jg.mpr rfl
 .rw[Bd.mp (Nat.le_zero.mp hl)]at hc;exact h r hr (List.prefix_nil.mp hc)
def covB(ws:List (List Int))(U:List Pr):Bool:=ws.any λr=>decide ((Zv U).take r.length=r)
def onB(ws:List (List Int))(U:List Pr):Bool:=ws.any λr=>decide (r.take (Zv U).length=Zv U)
def Ry :covB ws U=true↔cov ws U:=by
 unfold covB cov;rw[B8];exists λ⟨r,hr,e⟩=>⟨r,hr,Re.mp (Fk e)⟩,λ⟨r,hr,e⟩=>⟨r,hr,Fx (Re.mpr e)⟩
def Zo4 :onB ws U=true↔∃r∈ws,Zv U<+:r:=by
 unfold onB;rw[B8];exists λ⟨r,hr,e⟩=>⟨r,hr,Re.mp (Fk e)⟩,λ⟨r,hr,e⟩=>⟨r,hr,Fx (Re.mpr e)⟩
def ext1(L:List Pr)(U:List Pr):List (List Pr):=L.map λp=>U++[p]
def Rl(L:List Pr)(ws:List (List Int))(W:List (List Pr)):List (List Pr):=(W.flatMap (ext1 L)).filter (covB ws)
def Zpa(L:List Pr)(ws:List (List Int))(W:List (List Pr)):List (List Pr):=(W.flatMap (ext1 L)).filter λU=>!covB ws U&&onB ws U
theorem Ways.first{k:Nat}{W:List (List Pr)}(h:Ways L ws k W)(hU:TxIn L U)(hl:U.length=k+1)(hr:∃r∈ws,r<+:Zv U\/Zv U<+:r):U∈W.flatMap (ext1 L):=by
 let hn:U≠[]:=λe=>by rw[e]at hl;cases hl
 let e:=List.dropLast_concat_getLast hn;let hV:TxIn L U.dropLast:=λp hp=>hU p (List.dropLast_subset _ hp);let lV:U.dropLast.length=k:=by rw[List.length_dropLast];lia
 let hp:=hU _ (List.getLast_mem hn);let er:Zv U.dropLast<+:Zv U:=by
  let:=V6 U.dropLast [U.getLast hn];rw[e]at this;rw[this];exact Gc _ _
 refine List.mem_flatMap.mpr ⟨U.dropLast,h.all _ hV lV ?_,Jh.mpr ⟨_,hp,e⟩⟩;let⟨r,hr,z⟩:=hr;exists r,hr,?_;rcases z with z|z
 .rcases Hj z er with y|y
  .exact Fl ⟨r,hr,y⟩ (h.non _ hV ())
  .exact y
 .exact er.trans z
def Ways.ext{k:Nat}{W:List (List Pr)}(h:Ways L ws k W)(hU:U∈W.flatMap (ext1 L)):TxIn L U/\U.length=k+1:=by
 let⟨V,hV,hu⟩:=List.mem_flatMap.mp hU;let⟨p,hp,rfl⟩:=Jh.mp hu;let⟨a,b⟩:=h.inn V hV;refine⟨λx hx=>?_,by rw[Jc,b];rfl⟩;rcases J9.mp hx with z|z
 .exact a x z
 .rw[Jg.mp z];exact hp
theorem Ways.next{k:Nat}{W:List (List Pr)}(h:Ways L ws k W)(hd:Rl L ws W=[]):Ways L ws (k+1) (Zpa L ws W):=by
 let nc:∀U,TxIn L U->U.length=k+1->¬ cov ws U:=λU hU hl hc=>by
  let:=h.first hU hl (by let⟨r,hr,z⟩:=hc;exact⟨r,hr,.inl z⟩);let:U∈Rl L ws W:=Jz.mpr ⟨this,Ry.mpr hc⟩;rw[hd]at this;cases this
 exists λU hU=>h.ext (Jz.mp hU).1,λU hU hl hr=>?_,λU hU hl=>?_
 .refine Jz.mpr ⟨h.first hU hl (by let⟨r,hr,z⟩:=hr;exact⟨r,hr,.inr z⟩),?_⟩;rw[Zo4.mpr hr,Bool.and_true,Kf,Bool.eq_false_iff];exact λz=>nc U hU hl (Ry.mp z)
 .by_cases e:U.length=k+1
  .exact nc U hU e
  .exact h.non U hU ()
theorem Ways.done{k:Nat}{W:List (List Pr)}(h:Ways L ws k W){t:List Int}(ht:t∈(Rl L ws W).map Zm)(hm:∀s∈(Rl L ws W).map Zm,HT.lexLt s t=false):Yq L ws (some t):=by
 let⟨U,hU,rfl⟩:=Jh.mp ht;let⟨h1,h2⟩:=Jz.mp hU;let⟨h3,h4⟩:=h.ext h1;let len:∀V:List Pr,(Zm V).length=V.length:=λV=>Ja _;exists⟨U,h3,rfl,Ry.mp h2⟩,λV hV hc=>?_
 by_cases hl:V.length<=k
 .exact Fl hc (h.non V hV hl)
 by_cases e:V.length=k+1
 .unfold Y0;rw[Fw (by rw[len,len,e,h4])];exact hm _ (Jh.mpr ⟨V,Jz.mpr ⟨h.first hV e (by let⟨r,hr,z⟩:=hc;exact⟨r,hr,.inl z⟩),Ry.mpr hc⟩,rfl⟩)
 .exact Zct (by rw[len,len];lia)
theorem Ways.never{W:List (List Pr)}(ne:∀p∈L,p.2≠[])(h:Ways L ws 3 W)(hw:∀r∈ws,r.length<=3):Yq L ws none:=by
 rintro U hU ⟨r,hr,hc⟩
 by_cases hl:U.length<=3
 .exact h.non U hU hl ⟨r,hr,hc⟩
 let hV:TxIn L (U.take 3):=λp hp=>hU p (Bl hp);let lV:(U.take 3).length=3:=by rw[J8];lia
 refine h.non _ hV () ⟨r,hr,?_⟩;let er:Zv (U.take 3)<+:Zv U:=by
  let:=V6 (U.take 3) (U.drop 3);rw[Bi]at this;rw[this];exact Gc _ _
 refine List.prefix_of_prefix_length_le hc er ?_;let:=Zhe (λp hp=>ne p (hV p hp)) (λp hp=>hp:∀p∈U.take 3,p∈U.take 3);let:=hw r hr;lia
def Fun.okCX3{C:Cf}{base:Heap}{x:Str}{f:Addr}{kV:Ca}{k:Nat}{sp:Sp3X}(lk:K.lookup f=some ⟨oc,od,.func (Lc x qual (Y4 st) (Yi st) (Zg st) .none kV doc pm an cdv ct),osl⟩)(hcd:Ln K cdv qual=true)(S:FnScope N ps (Zg st))(len:∀ds M K KX,sp ds M K KX->ds.length=ps.length)(hbody:∀(A:Kj)(outer:List Env)(s:Cc)(H:Hp)(E:XK),Room k (A.deeper (Hf qual (Zg st) s.heap.objs.size f cdv)) ->
   ∃(t:TS)(u:X3->TS3),PSs (cxE P w K mg base N qual (Zg st) f cdv A outer s H E) (Yi st) t/\(∀(kx:X3)(Z:Anc),Z.xe=E->Z.kx=kx->FinX C Z->SimS C Z t (u kx))/\∀ds M K KX,WfM M->(∀d∈ds,Yn M.length d)->sp ds M K KX->u KX {nx:=λ_ M'=>Dk M.length K .non M',rt:=Dk M.length K} (Pf N ds) M) :
  FnOk P w K mg base (CXE P w) (k+1) f (Lc x qual (Y4 st) (Yi st) (Zg st) .none kV doc pm an cdv ct) ps (W7 C sp):=by
 refine L2.Fun.okCE lk hcd S (λvs H Q E h=>?_) (λA outer s H vs Q E hr h=>?_)
 .let⟨Z,I,α,M,ds,K,KX,R,r,h,_⟩:=h;rw[r.length];exact len ds M K KX h
 .let⟨t,u,h1,h2,h3⟩:=hbody A outer s H E hr;let⟨Z,I,α,M,ds,K,KX,R,r,h,k,kx⟩:=h;let R1:=R.here E KX;let kd:=(k.re (Z':=⟨I,α,E,KX⟩) R).dk R1.len R1.aa;exists t,h1,h2 KX ⟨I,α,E,KX⟩ rfl rfl (λCe d vs fs I' α' H' M' R' e f g=>kx Ce d vs fs I' α' H' M' R'.ai R'.aa (R'.re R R'.ai R'.aa) e f g) I α _ H _ M _ _ R1 (Qb r N) (h3 ds M K KX R.wf (by rw[<-R.len];exact r.bel) h) ⟨λI1 α1 σ1 H1 ρ1 M1 s1 p1 R1 _ h1=>kd _ _ I1 α1 H1 M1 s1 p1 R1 .non h1,kd,λ_ _ _ _ _ _ _ _ _ _ h=>h.elim,λ_ _ _ _ _ _ _ _ _ _ h=>h.elim⟩
section
variable{C:Cf}
inductive dWordAtT(ds:List D)(M:Mem)(K:K3):Prop
 |mk:∀(S:List Pr)(ns:List Int)(pl:Nat),ds=[.code S,wD ns,.int pl]->((Fits S/\pl<=ns.length)/\(∀p∈S,p.2<+:ns.drop pl->K (wD p.2) M)/\((∀p∈S,¬ p.2<+:ns.drop pl)->K .non M))->dWordAtT ds M K
def Zjy{E:XK}(h:spOf C dWordAtT vs H Q E):Zaq C.c vs H Q E:=by
 let⟨Z,I,α,M,ds,K,R,r,⟨S,ns,pl,rfl,⟨h1,h2⟩,hy,hn⟩,kk⟩:=h;refine Reps.e3 r λ_ _ _ r1 r2 r3=>?_;let⟨x,rfl,ca⟩:=Zjj R r1;cases r3.inv;let⟨a,rfl,ra⟩:=Zsl (ns:=ns) R r2 rfl;exists x,a,S,ns,pl,rfl,ca,h1,ra,h2,λp hp hpre t H' sm et=>?_,λhno H' sm=>?_
 .let⟨I2,s2,R2,f⟩:=(R.same sm).full;exact kk _ _ I2 α H' M s2 (Ji _) R2 (.tup (f _ _ et ((R.same sm).tupOut et)) (.ints _)) (hy p hp hpre)
 .exact kk _ _ I α H' M (.refl _) (Ji _) (R.same sm) .non (hn hno)
end
inductive dLso(ds:List D)(M:Mem)(K:K3):Prop
 |mk:∀(S:List Pr)(r:List Int),ds=[.code S,wD r]->(Fits S/\K (oD (lsO S r)) M)->dLso ds M K
inductive dLto(ds:List D)(M:Mem)(K:K3):Prop
 |mk:∀(S:List Pr)(r:List Int),ds=[.code S,wD r]->((Free S/\Fits S/\r.length<=4)/\(∀M',M<+:M'->Yq S [r] none->K .non M') /\
  ∀(M':Mem)(c:Nat)(t:List Int),M<+:M'->M.length<=c->M'[c]?=some (.lst (t.map .int))->Yq S [r] (some t)->t.length<=5->K (.cell c) M')->dLto ds M K
inductive dMisfX(XF XN Pt:Addr)(pos:Pos)(q:Str)(ds:List D)(M:Mem)(K:K3)(KX:X3):Prop
 |mk:∀(f:Nat)(n:Str)(zs:List Fq),ds=[.cell f,.str n]->(FamAt XF M f zs/\((n∉zs.map (·.1)/\KX XN [("name",.str n)] M)\/∃(k0:Nat)(z:Fq),M[k0]?=some (.tab Pt pos q)/\(z∈zs/\z.1=n)/\(Free z.2.1/\Fits z.2.1/\zs.length<=100/\(∀y∈zs,C6 y.1=true/\y.2.2.length<=4)) /\
  (∀M',M<+:M'->Yq z.2.1 (Xu zs z) none->K .non M')/\∀(M':Mem)(c:Nat)(t:List Int),M<+:M'->M.length<=c->M'[c]?=some (.lst (t.map .int))->Yq z.2.1 (Xu zs z) (some t)->t.length<=5->K (.cell c) M'))->dMisfX XF XN Pt pos q ds M K KX
inductive dLeast46(ds:List D)(M:Mem)(K:K3):Prop
 |mk:∀(a:Nat)(d:D)(qs:List Fq)(ha:a<qs.length),ds=[d,.int a]->(lsOf M d=some (qs.map spD)/\((qs.map (·.1)).Nodup/\qs.length<=8/\(∀q∈qs,Fits q.2.1/\q.2.2.length<=4)) /\
  (Yq qs[a].2.1 (Xu qs qs[a]) none->K .non M)/\∀t:List Int,Yq qs[a].2.1 (Xu qs qs[a]) (some t)->t.length<=5->K (.lst (t.map .int)) M)->dLeast46 ds M K
inductive dTexts46(ds:List D)(M:Mem)(K:K3):Prop
 |mk:∀(k:Nat)(L:List Pr),ds=[.lst (L.map pD),.cell k]->(M[k]?=some .hand/\Fits L/\∀(M':Mem)(c:Nat)(tss:List (List Int)),M<+:M'->M.length<=c->M'[c]?=some (.lst (tss.map txD))->TxOk (Zm L) tss->tss.length<=40->K (.cell c) M')->dTexts46 ds M K
inductive dAsked46(XF Pt:Addr)(pos:Pos)(qn:Str)(ds:List D)(M:Mem)(K:K3):Prop
 |mk:∀(k1 f a k:Nat)(d:D)(qs zs:List Fq)(ha:a<qs.length),ds=[.cell f,d,.int a,.cell k]->(M[k1]?=some (.tab Pt pos qn)/\M[k]?=some .hand/\FamAt XF M f zs/\lsOf M d=some (qs.map spD)/\(Wq zs qs/\qs.length<=8/\(∀q∈qs,Free q.2.1/\Fits q.2.1/\q.2.2.length<=4/\C6 q.1=true))/\∀M',M<+:M'->K (.bl true) M')->dAsked46 XF Pt pos qn ds M K
inductive dRef46(XF Pt:Addr)(pos:Pos)(qn:Str)(ds:List D)(M:Mem)(K:K3):Prop
 |mk:∀(k0 f:Nat)(d:D)(bs:List Int)(q:Fq)(qs zs:List Fq),ds=[.cell f,d,.lst (bs.map .int)]->(M[k0]?=some (.tab Pt pos qn)/\FamAt XF M f zs/\lsOf M d=some ((q::qs).map spD)/\(2<=bs.length/\q.1∈zs.map (·.1)/\zs.length<=100)/\∀M',M<+:M'->K (.bl true) M')->dRef46 XF Pt pos qn ds M K
inductive dGrow46(XF Pt:Addr)(pos:Pos)(qn:Str)(P2:Addr)(pos2:Pos)(qn2:Str)(ds:List D)(M:Mem)(K:K3):Prop
 |mk:∀(k0 k1 k:Nat)(d:D)(bs:List Int)(qs:List Fq),ds=[d,.cell k,.lst (bs.map .int)]->(M[k0]?=some (.tab Pt pos qn)/\M[k1]?=some (.tab P2 pos2 qn2)/\M[k]?=some .hand/\lsOf M d=some (qs.map spD)/\(2<=bs.length/\(qs.map (·.1)).Nodup/\qs.length<=8/\∀q∈qs,Free q.2.1/\Fits q.2.1/\q.2.2.length<=4/\C6 q.1=true)/\∀(M':Mem)(f:Nat)(zs:List Fq),M<+:M'->M.length<=f->FamAt XF M' f zs->Wq zs qs->K (.cell f) M')->dGrow46 XF Pt pos qn P2 pos2 qn2 ds M K
def Zb1(n:Nat)(M:Mem)(d:D):Option (List Int)->Prop
 |none=>d=.non
 |some t=>∃c,d=.cell c/\n<=c/\M[c]?=some (.lst (t.map .int))/\t.length<=5
theorem Zb1.pre{n:Nat}{N:Mem}{d:D}{o:Option (List Int)}(h:Zb1 n M d o)(p:M<+:N):Zb1 n N d o:=by
 cases o with
 |none=>exact h
 |some t=>obtain⟨c,e,a,b,l⟩:=h;exists c,e,a,Ya p b,l
theorem Na{n:Nat} :∀{xs:List D}{os:List (Option (List Int))},Paired (Zb1 n M) xs os->Paired (λd t=>Zb1 n M d (some t)) (xs.filter λd=>!d.isN) (os.filterMap id)
 |_,_,.nil=>.nil
 |x::xs,none::os,.cons a r=>by
  rw[Gf,show x=.non from a,Fv nofun];show Paired _ _ (os.filterMap id);exact Na r
 |x::xs,some t::os,.cons a r=>by
  let⟨c,e,q⟩:=id a;rw[Gf,e,Fw (show(!(D.cell c).isN)=true from rfl)];show Paired _ (D.cell c::_) (t::os.filterMap id);exact .cons ⟨c,rfl,q⟩ (Na r)
def othF(zs:List Fq)(n:Str):List (List Int):=(zs.filter λy=>decide (y.1≠n)).map (·.2.2)
def Za7 :Yq L [[]] (some []):=⟨⟨[],λ_ h=>(nomatch h),rfl,Vv.mpr Bx⟩,λ_ _ _=>Zcs Bx⟩
def Zii(h:[]∈rs):Yq L rs (some []):=⟨⟨[],λ_ h=>(nomatch h),rfl,[],h,Bx⟩,λ_ _ _=>Zcs Bx⟩
theorem Yq.iff{rs':List (List Int)}(e:∀U,cov rs U↔cov rs' U):∀{o:Option (List Int)},Yq L rs o->Yq L rs' o
 |none,h=>λU hU hc=>h U hU ((e U).mpr hc)
 |some _,⟨⟨U,hU,eU,hc⟩,hl⟩=>⟨⟨U,hU,eU,(e U).mp hc⟩,λV hV hc=>hl V hV ((e V).mpr hc)⟩
theorem Zji{q y:Fq}(hq:q∈qs)(hy:y∈qs)(n:y≠q)(e:y.2.2=q.2.2):1<(qs.map (·.2.2)).count q.2.2:=by
 induction qs with
 |nil=>cases hq
 |cons x r ih =>
  let pos:∀z:Fq,z∈r->z.2.2=q.2.2->0<(r.map (·.2.2)).count q.2.2:=λz hz ez=>List.count_pos_iff.mpr (Jh.mpr ⟨z,hz,ez⟩);rw[Jo,List.count_cons];rcases Jt.mp hq with rfl|hq'
  .rcases Jt.mp hy with rfl|hy'
   .exact Fl rfl n
   .let:=pos y hy' e;rw[Fw (beq_self_eq_true _)];lia
  .rcases Jt.mp hy with rfl|hy'
   .let:=pos q hq' rfl;rw[Fw (by rw[e];exact beq_self_eq_true _)];lia
   .let:=ih hq' hy';lia
def Zf2(qs:List Fq)(m:List Int):List (List Int):=((qs.map (·.2.2)).filter λx=>decide (m.length<x.length)&&decide (x.take m.length=m)).map λx=>x.drop m.length
theorem P7{m r:List Int}:r∈Zf2 qs m↔r≠[]/\∃y∈qs,y.2.2=m++r:=by
 unfold Zf2;rw[Jh]
 constructor
 .rintro⟨x,hx,rfl⟩;let⟨h1,h2⟩:=Jz.mp hx;let⟨y,hy,rfl⟩:=Jh.mp h1;rw[G6,Fn,Fn]at h2;exists λe=>?_,y,hy,(Bi m.length y.2.2).symm.trans (by rw[h2.2]);let:=congrArg K7 e;rw[Gn]at this;let:=h2.1;simp at *
  lia
 .rintro⟨h0,y,hy,e⟩;let:=Gi.mpr h0;exact⟨y.2.2,Jz.mpr ⟨Jh.mpr ⟨y,hy,rfl⟩,by rw[G6,Fn,Fn,e,Fh,Jc];exact⟨(),rfl⟩⟩,by rw[e,Fi]⟩
def Zj3{q:Fq}(nd:(qs.map (·.1)).Nodup)(hq:q∈qs)(h0:q.2.2≠[])(hc:¬ 1<(qs.map (·.2.2)).count q.2.2)(U:List Pr):cov (Zf2 qs q.2.2) U↔cov (Xu qs q) U:=by
 constructor
 .rintro⟨r,hr,h⟩;let⟨hn,y,hy,e⟩:=P7.mp hr;exists r,(V7 h0).mpr ⟨y,hy,λen=>hn ?_,e⟩,h;rw[Tg nd hy hq en]at e;exact List.append_cancel_left ((Jp _).trans e) |>.symm
 .rintro⟨r,hr,h⟩;let⟨y,hy,hn,e⟩:=(V7 h0).mp hr;exists r,P7.mpr ⟨λz=>hc (Zji hq hy (λey=>hn (by rw[ey])) (by rw[e,z,Jp])),y,hy,e⟩,h
def wtD(U:List Pr):D:=.tup [.lst ((Zm U).map .int),wD (Zv U)]
theorem Zcr{zs:List (List Int)}:∀n,n<zs.length->∀j,j<=n->HT.lexLt (zs.getD j []) (zs.getD (Yx (λi j=>HT.lexLt (zs.getD i []) (zs.getD j [])) n) [])=false:=by
 intro n
 induction n with
 |zero=>intro _ j hj;rw[show j=0 by lia];exact Ts _
 |succ n ih =>
  intro hn j hj;let em:Yx (λi j=>HT.lexLt (zs.getD i []) (zs.getD j [])) (n+1)=if HT.lexLt (zs.getD (n+1) []) (zs.getD (Yx (λi j=>HT.lexLt (zs.getD i []) (zs.getD j [])) n) [])then n+1 else Yx (λi j=>HT.lexLt (zs.getD i []) (zs.getD j [])) n:=rfl;rw[em];let ih:=ih ();generalize Yx (λi j=>HT.lexLt (zs.getD i []) (zs.getD j [])) n=k at ih;cases e:HT.lexLt (zs.getD (n+1) []) (zs.getD k [])with
  |true =>
   rw[Fw rfl]
   by_cases hj':j<=n
   .cases e2:HT.lexLt (zs.getD j []) (zs.getD (n+1) [])with
    |false=>rfl
    |true =>
     let:=T7 e2 e;rw[ih j hj']at this;cases this
   .rw[show j=n+1 by lia];exact Ts _
  |false =>
   rw[Fv Jr]
   by_cases hj':j<=n
   .exact ih j hj'
   .rw[show j=n+1 by lia];exact e
theorem Zpe{N:Mem}{d:D}{xs:List D}(p:M<+:N)(h:Xg M d=some xs):Xg N d=some xs:=by
 cases d with
 |cell c =>
  simp only[Xg]at h⊢;cases hm:M[c]? with
  |none=>rw[hm]at h;cases h
  |some m=>rw[Ya p hm];rw[hm]at h;exact h
 |_=>first|exact h|cases h
def Zm4{n:Str}:othF zs n=((zs.map λz=>(z.1,z.2.2)).filter λy=>decide (y.1≠n)).map (·.2):=by
 unfold othF;rw[List.filter_map,Gh];rfl
def Zcd{z q:Fq}(h:W6 zs qs)(e1:z.1=q.1)(e2:z.2.2=q.2.2):Xu zs z=Xu qs q:=by
 let:othF zs z.1=othF qs q.1:=by rw[Zm4,Zm4,show zs.map (λz=>(z.1,z.2.2))=_ from h,e1]
 show(if z.2.2=[]then [[]]else((othF zs z.1).filter λm=>decide (m.take z.2.2.length=z.2.2)).map λm=>m.drop z.2.2.length)=(if q.2.2=[]then [[]]else((othF qs q.1).filter λm=>decide (m.take q.2.2.length=q.2.2)).map λm=>m.drop q.2.2.length);rw[this,e2]
def duD:Option (List Int)->D
 |none=>.non
 |some t=>.lst (t.map .int)
def Yq.text{t:List Int}(h:Yq L rs (some t)):∃U,TxIn L U/\Zm U=t/\cov rs U:=h.1
def kP(a:List Int):PyData:=.tuple [.int a.length,(W2 Z9).py a]
def kpD(a:List Int):D:=.tup [.int ((a.map D.int).length:Nat),.lst (a.map .int)]
theorem Zm6:∀a b:List Int,LxP (a.map Z9.py) (b.map Z9.py) (HT.lexLt a b)
 |[],[]=>.nn
 |[],_::_=>.nc _ _
 |_::_,[]=>.cn _ _
 |p::r,q::s=>by
  let:=LxP.cc (.int p q) (Zm6 r s);rw[show C1 (.int p) (.int q)=decide (p=q)from Z9.eq _ _]at this;rw[HT.lexLt_cons]
  by_cases h:p=q
  .rw[Fx h,Fw rfl]at this;rw[Fw h];exact this
  .rw[Fy h,Fv Jr]at this;rw[Fv h];exact this
theorem k_lt(r s:List Int):LtP (kP r) (kP s) (Y0 r s):=by
 let h:LtP (kP r) (kP s) (if C1 (.int r.length) (.int s.length)then(if C1 ((W2 Z9).py r) ((W2 Z9).py s)then false else HT.lexLt r s)else decide ((r.length:Int)<s.length)):=.tup (.cc (.int _ _) (.cc (.lst (Zm6 r s)) .nn));rw[(W2 Z9).eq,show C1 (.int r.length) (.int s.length)=decide ((r.length:Int)=s.length)from Z9.eq _ _]at h;let e:(if decide ((r.length:Int)=s.length)=true then(if decide (r=s)=true then false else HT.lexLt r s)else decide ((r.length:Int)<s.length))=Y0 r s:=by
  unfold Y0
  by_cases h1:r.length=s.length
  .rw[Fx (),Fw rfl,Fw h1]
   by_cases h2:r=s
   .rw[Fx h2,Fw rfl,h2,Ts]
   .rw[Fy h2,Fv Jr]
  .rw[Fy (),Fv Jr,Fv h1];exact decide_eq_decide.mpr ()
 rwa [e]at h
def Zml(r:List Int):Er (kP r)=true:=by
 refine Shp.shaped (n:=4) (R8 λd hd=>?_) nofun;rcases Jt.mp hd with z|z
 .rw[z];exact Zmk (Ng _) nofun
 .rw[Jg.mp z];exact Zmk ((W2 Z9).shp r) nofun
def Zmv(M:Mem)(r:List Int):PyR M (kpD r) (kP r):=by
 unfold kpD;rw[Ja];exact .tup (.cons (.int _) (.cons ((W2 Z9).ok M r) .nil))
end L3
namespace L3
open L2
def ltO(ts:List Int):Option (List Int)->Bool
 |some t=>Y0 ts t
 |none=>false
end L3
namespace K46
open PySem L2
def top(i:Nat):Stmt:=PySem.Challenge.pw_skewread_k46_whole_misled_or_never.main.body.getD i (.Pass ⟨0,0,0,0⟩)
abbrev Jbg:Stmt:=top 25
def Jby:FnScope ["_law_hand","_law_many","_law_got","_law_cell","_law_number"] ["_law_hand","_law_many"] (Zg Jbg):=(by rfl')
abbrev Jbo:Stmt:=top 24
def Dx:FnScope ["_law_script","_law_place","_law_cells","_law_at","_law_digits"] ["_law_script","_law_place"] (Zg Jbo):=(by rfl')
abbrev Jad:Stmt:=top 26
def Jbx:FnScope ["_law_hand","_law_most","_law_begin","_law_step"] ["_law_hand","_law_most"] (Zg Jad):=(by rfl')
abbrev Jcy:Stmt:=top 27
def Jbs:FnScope ["_law_hand","_law_some","_law_most","_law_longest","_law_words_here","_law_k","_law_at"] ["_law_hand","_law_some","_law_most","_law_longest"] (Zg Jcy):=(by rfl')
abbrev Dz:Stmt:=top 28
def Jco:FnScope ["_law_hand","_law_many","_law_begin","_law_step","_law_signs_here","_law_at"] ["_law_hand","_law_many"] (Zg Dz):=(by rfl')
abbrev Jaf:Stmt:=top 29
def Jce:FnScope ["_law_hand","_law_words_here","_law_signs_here","_law_at","_law_spun","_law_pairs"] ["_law_hand","_law_words_here","_law_signs_here"] (Zg Jaf):=(by rfl')
abbrev F9:Stmt:=top 30
def Jac:FnScope ["_law_hand","_law_signs_here","_law_most"] ["_law_hand","_law_signs_here","_law_most"] (Zg F9):=(by rfl')
abbrev W9:Stmt:=top 19
def Dm:FnScope ["one","other","shared"] ["one","other"] (Zg W9):=(by rfl')
abbrev Zcc:Stmt:=top 18
def Jaw:FnScope ["table","second","first","odds"] ["table"] (Zg Zcc):=(by rfl')
abbrev W8:Stmt:=top 20
def Jcf:FnScope ["table","found"] ["table"] (Zg W8):=(by rfl')
abbrev V3:Stmt:=top 21
def Jcg:FnScope ["words","found","word","size"] ["words"] (Zg V3):=(by rfl')
abbrev Z3:Stmt:=Xh (top 22) 0
def D3:FnScope ["self","table"] ["self","table"] (Zg Z3):=(by rfl')
abbrev Tm:Stmt:=Xh (top 22) 3
def Jae:FnScope ["self","sign"] ["self","sign"] (Zg Tm):=(by rfl')
abbrev To:Stmt:=Xh (top 22) 4
def Jbi:FnScope ["self","word"] ["self","word"] (Zg To):=(by rfl')
abbrev V5:Stmt:=Xh (top 22) 1
def D6:FnScope ["self"] ["self"] (Zg V5):=(by rfl')
abbrev R9:Stmt:=top 9
def Jbz:FnScope ["code","row","place","size","word"] ["code","row","place"] (Zg R9):=(by rfl')
abbrev X0:Stmt:=Xh (top 5) 0
def Dw:FnScope ["self","at"] ["self","at"] (Zg X0):=(by rfl')
abbrev X1:Stmt:=Xh (top 6) 0
def Jch:FnScope ["self","name"] ["self","name"] (Zg X1):=(by rfl')
abbrev Wg:Stmt:=Xh (top 7) 0
def Jao:FnScope ["self","name"] ["self","name"] (Zg Wg):=(by rfl')
abbrev Zcb:Stmt:=top 11
def Jaj:FnScope ["code","text","row","place","sign","word"] ["code","text"] (Zg Zcb):=(by rfl')
abbrev Xz:Stmt:=top 14
def Jag:FnScope ["code","row"] ["code","row"] (Zg Xz):=(by rfl')
abbrev Xy:Stmt:=top 13
def D0:FnScope ["code","row","text","place","word","sign"] ["code","row"] (Zg Xy):=(by rfl')
abbrev V2:Stmt:=top 15
def Jcb:FnScope ["mark","row"] ["mark","row"] (Zg V2):=(by rfl')
abbrev X4:Stmt:=Xh (top 16) 0
def Jbj:FnScope ["self"] ["self"] (Zg X4):=(by rfl')
abbrev V4:Stmt:=Xh (top 16) 1
def Do:FnScope ["self","name","code","mark"] ["self","name","code","mark"] (Zg V4):=(by rfl')
abbrev Vb:Stmt:=Xh (top 16) 2
def Jca:FnScope ["self"] ["self"] (Zg Vb):=(by rfl')
abbrev Vq:Stmt:=Xh (top 16) 3
def Jak:FnScope ["self","name"] ["self","name"] (Zg Vq):=(by rfl')
abbrev Vp:Stmt:=Xh (top 16) 4
def Jar:FnScope ["self","name"] ["self","name"] (Zg Vp):=(by rfl')
abbrev Wt:Stmt:=Xh (top 16) 6
def Dt:FnScope ["self","name","text"] ["self","name","text"] (Zg Wt):=(by rfl')
abbrev Wh:Stmt:=Xh (top 16) 7
def Jcs:FnScope ["self","row","names","longest"] ["self","row"] (Zg Wh):=(by rfl')
abbrev X2:Stmt:=Xh (top 16) 9
def Jap:FnScope ["self","name","text"] ["self","name","text"] (Zg X2):=(by rfl')
abbrev Z1:Stmt:=Xh (top 16) 10
def Jbn:FnScope ["self","name","own","others","rests","texts"] ["self","name"] (Zg Z1):=(by rfl')
abbrev Dj:Stmt:=top 31
def Jbh:FnScope ["_law_hand","_law_many","_law_letters","_law_base","_law_at","_law_longer","_law_names_here","_law_k","_law_moved"] ["_law_hand","_law_many"] (Zg Dj):=(by rfl')
abbrev Jal:Stmt:=top 32
def Jbk:FnScope ["_law_hand","_law_some","_law_marks","_law_way","_law_mark_here","_law_k"] ["_law_hand","_law_some","_law_marks"] (Zg Jal):=(by rfl')
abbrev Jax:Stmt:=top 33
def Dp:FnScope ["_law_script","_law_most","_law_hand","_law_some","_law_signs_here","_law_many","_law_names_here","_law_specs_here","_law_k","_law_wide","_law_words_here","_law_table_here"] ["_law_script","_law_most"] (Zg Jax):=(by rfl')
abbrev D9:Stmt:=top 35
def Jbm:FnScope ["_law_table_here","_law_text_here","_law_row","_law_at","_law_words_here"] ["_law_table_here","_law_text_here"] (Zg D9):=(by rfl')
abbrev Jbb:Stmt:=top 34
def Jcv:FnScope ["_law_specs_here","_law_row","_law_size","_law_name","_law_table_here","_law_mark_here"] ["_law_specs_here","_law_row"] (Zg Jbb):=(by rfl')
abbrev Du:Stmt:=top 36
def Jcr:FnScope ["_law_specs_here","_law_at","_law_name","_law_table_here","_law_mark_here","_law_marks","_law_size","_law_longer","_law_wanted","_law_ways","_law_turn","_law_done","_law_more","_law_text_here","_law_row","_law_sign","_law_word","_law_whole"] ["_law_specs_here","_law_at"] (Zg Du):=(by rfl')
abbrev Jct:Stmt:=top 37
def Jci:FnScope ["_law_table_here","_law_hand","_law_signs_here","_law_texts_here","_law_one","_law_other"] ["_law_table_here","_law_hand"] (Zg Jct):=(by rfl')
abbrev Jam:Stmt:=top 38
def Jbr:FnScope ["_law_family","_law_specs_here","_law_at","_law_hand","_law_name","_law_table_here","_law_mark_here","_law_due","_law_k","_law_found","_law_row","_law_text_here","_law_wrong"] ["_law_family","_law_specs_here","_law_at","_law_hand"] (Zg Jam):=(by rfl')
abbrev Jcd:Stmt:=top 39
def Jah:FnScope ["_law_family","_law_name","_law_way"] ["_law_family","_law_name"] (Zg Jcd):=(by rfl')
abbrev Jcj:Stmt:=top 40
def Jbc:FnScope ["_law_family","_law_known","_law_some"] ["_law_family","_law_known","_law_some"] (Zg Jcj):=(by rfl')
abbrev Jcu:Stmt:=top 41
def Jcm:FnScope ["_law_specs_here","_law_hand","_law_some","_law_family","_law_told","_law_known","_law_at","_law_place"] ["_law_specs_here","_law_hand","_law_some"] (Zg Jcu):=(by rfl')
abbrev Zoi:Stmt:=top 42
def Dv:FnScope ["_law_script","_law_some","_law_signs_here","_law_specs_here","_law_family","_law_start","_law_at"] ["_law_script"] (Zg Zoi):=(by rfl')
structure Txt(mg:Str->Option Ca):Prop where
 b_len:mg "len"=none
 b_abs:mg "abs"=none
 b_max:mg "max"=none
 b_min:mg "min"=none
 b_isinstance:mg "isinstance"=none
 b_all:mg "all"=none
 b_any:mg "any"=none
 b_range:mg "range"=none
 b_int:mg "int"=none
 b_str:mg "str"=none
 b_bool:mg "bool"=none
 b_tuple:mg "tuple"=none
 b_list:mg "list"=none
 b_dict:mg "dict"=none
 b_sorted:mg "sorted"=none
 b_enumerate:mg "enumerate"=none
section
variable{base:Heap}
local macro_rules | `(tactic|symm)=>`(tactic|repeat' first|with_reducible (first|apply L3.Z6|apply L3.s_g|apply L3.Va|apply L3.Zg9|apply L3.Xt|apply L3.s_op|apply L3.Zx|apply L3.Vj|apply L3.s_cb|apply L3.Zms|apply L3.Xk|apply L3.Ws|apply L3.Zau|apply L3.s_b|apply L3.Zvk|apply L3.Zu8|apply L3.Zol|apply L3.Zr3|apply L3.Ri|apply L3.Qa|apply L3.Zvh|apply L3.s_sl|apply L3.Zok|apply L3.Zoc|apply L3.Zsh|apply L3.s_or|apply L3.s_itK|apply L3.Zvj|apply L3.s_ir2|apply L3.Zg4|apply L3.Rb|apply L3.Zvi|apply L3.Zr4|apply L3.s_un|apply L3.s_if|apply L3.Zhb|apply L3.s_extendK|apply L3.Zsg|apply L3.s_orV|apply L3.s_notV|apply L3.s_bl|apply L3.Zkr|apply L3.Zr2|apply L3.s_ty|apply L3.s_ix|apply L3.Zop|apply L3.Zu9|apply L3.Zve|apply L3.Zr5|apply L3.s_fdiv|apply L3.Zvc|apply L3.s_lt|apply L3.s_le|apply L3.s_gt|apply L3.s_ge|apply L3.s_eq|apply L3.s_ne|apply L3.Zoh|apply L3.Zmn|apply L3.Zob|apply L3.s_retN|apply L3.Xn|apply L3.s_never|apply L3.Zse|apply L3.Zks|apply L3.Zva|apply L3.Zdw|apply L3.Zvd|apply L3.Zr8|apply L3.s_min2|apply L3.Zvn)|rfl)
theorem D7(T:Txt mg){f:Addr}(F:Fun K "_law_draw" "_law_draw" Jbg f fd):FnOk P w K mg base CX0 1 f fd ["_law_hand","_law_many"] Ph:=by
 refine F.ok Jby (λvs H Q E h=>?_) (λcdv A outer s H vs Q E hr h=>?_)
 .let⟨p,a,n,rfl,_⟩:=h;rfl
 .let⟨p,a,n,rfl,hh,hn0,hn1,k⟩:=h;let⟨d,i,cs,e1,e2,hne,hlen,hd,hi,hc⟩:=hh.ex;let npa:p≠a:=hh.ne;let SC:=Jby
  let fin:∀(r d' i':Int),0<=r->r<n->0<=d'->0<=i'->Q (.int r) (upd H p (.lst [.int d',.int i',.ref a])):=λr d' i' h1 h2 h3 h4 =>
   k r _ h1 h2 ⟨d',i',cs,Zh,by rw[Zo npa.symm];exact e2,hne,hlen,h3,h4,hc⟩ (λb o e nb=>by rw[Zo nb];exact e) λb nb=>by rw[Zo nb]
  refine⟨_,(Zc (Yu (Zz Za1 (Yc Xl (pv 0) Ze (λ_ _=>rfl)) Ze (Z4 _))
 (Zc (Zr (i:=2) SC.nd rfl (Cg rfl) (Zy Xe (Yc Xl (pv 0) Ze (λ_ _=>rfl)) (pv 1)))
 (Zc (Pl (Zy Zh2 (Yc Xl (pv 0) Ze (λ_ _=>rfl)) (pv 1)) (Zhq (pv 0) Ze Ro))
 (Zf (Zu (pv 2)))))
 Z0)
 (Zc (Zow (pv 0) Ze Zhp Ze Zm7 Ro)
 (Zc (Zr (i:=3) SC.nd rfl (Cg rfl) (Zy Xe (Yc Xl (Yc Xl (pv 0) Ze (λ_ _=>rfl)) (Zy Xe (Yc Xl (pv 0) Ze (λ_ _=>rfl)) (Zp W4 (by rfl) T.b_len F6 (Za (Yc Xl (pv 0) Ze (λ_ _=>rfl)) Zb))) (λ_ _=>rfl)) Ze))
 (Zc (Zr (i:=4) SC.nd rfl (Cg rfl) (Zy Xe (Zy Wv (Zy Wv (Zy Tf (pv 3) Ze) (Zy Tf (Yc Xl (pv 0) Ze (λ_ _=>rfl)) Ze)) Ze) Ze))
 (Zc (Zr (i:=4) SC.nd rfl (Cg rfl) (Zy Xe (Zy Wv (Zy Tf (pv 4) (pv 4)) (Yc Xl (pv 0) Ze (λ_ _=>rfl))) Ze))
 (Zc (Zr (i:=4) SC.nd rfl (Cg rfl) (Zy Xe (Zy Wv (Zy Tf (pv 4) Ze) Ze) Ze))
 (Zf (Zu (Zy Xe (Zy Zh2 (Zy Xe (Zy Tf (pv 4) (pv 4)) Ze) Ze) (pv 1)))))))))),?_⟩
  exists ·,p,_,_,·,rfl,SqL.of e1,rfl,_,·,rfl,·,?_;refine ite2 (λh0=>?_) (λh0=>?_)
  .exists ·,p,_,_,·,rfl,SqL.of e1,rfl,·,_,·,rfl,hn0,?_;exists ·,p,_,_,·,rfl,SqL.of e1,rfl,·,_,·,rfl,⟨hn0,hn1⟩,·,p,_,_,0,rfl,rfl,e1,rfl,?_;exists ·,?_;exact fin _ _ _ (Gz _ ()) (Gr _ hn0) (Int.ediv_nonneg hd ()) hi
  .let e1':(upd H p (.lst [.int d,.int (i+1),.ref a])) p=some (.lst [.int d,.int (i+1),.ref a]):=Zh;let e2':(upd H p (.lst [.int d,.int (i+1),.ref a])) a=some (.lst (cs.map V.int)):=by rw[Zo npa.symm];exact e2
   let⟨c,hc1,hc2⟩:=Zjw hne (i+1);let hlp:(0:Int)<(((cs.map V.int).length:Nat):Int):=by
    rw[Ja];let:=Gi.mpr hne;lia
   refine⟨_,rfl,p,_,1,_,rfl,rfl,SqL.of e1,rfl,_,_,rfl,rfl,p,_,_,1,rfl,rfl,e1,rfl,?_⟩;refine⟨_,rfl,p,_,_,_,rfl,rfl,SqL.of e1',rfl,_,rfl,p,_,_,_,rfl,rfl,SqL.of e1',rfl,_,rfl,p,_,_,_,rfl,rfl,SqL.of e1',rfl,_,_,rfl,.inl ⟨_,SqL.of e2',rfl⟩,_,_,rfl,rfl,hlp,
    a,_,_,_,rfl,rfl,SqL.of e2',hc2,_,_,rfl,rfl,(by show(0:Int)<_;decide),?_⟩
   exists ·,_,·,rfl,.inr ⟨nofun,nofun⟩,·,p,_,_,·,rfl,SqL.of e1',rfl,_,·,rfl,.inr ⟨nofun,nofun⟩,_,·,rfl,_,·,rfl,_,·,rfl,(by show(0:Int)<_;decide),?_;generalize hx:(c % 2147483647*48271+(i+1)*7368787+11) % 998244353=x;let x0:0<=x:=by rw[<-hx];exact Gz _ nofun
   let x1:x<998244353:=by rw[<-hx];exact Gr _ nofun
   exists ·,·,_,·,rfl,.inl ⟨(),()⟩,·,p,_,_,·,rfl,SqL.of e1',rfl,_,·,rfl,_,·,rfl,(by show(0:Int)<_;decide),?_;generalize hy:(x*x+(i+1)) % 998244353=y;exists ·,_,·,rfl,.inr ⟨nofun,nofun⟩,_,·,rfl,_,·,rfl,(by show(0:Int)<_;decide),?_;generalize hz:(y*40503203+12345) % 2147483647=z;let z0:0<=z:=by rw[<-hz];exact Gz _ nofun
   let z1:z<2147483647:=by rw[<-hz];exact Gr _ nofun
   exists ·,·,_,·,rfl,.inl ⟨(),()⟩,_,·,rfl,(by show(0:Int)<_;decide),_,·,rfl,⟨nofun,nofun⟩,·,_,·,rfl,hn0,?_;exact fin _ _ _ (Gz _ ()) (Gr _ hn0) hd (by show 0<=i+1;lia)
open L3
theorem Jas(T:Txt mg){f:Addr}(F:Fun K "_law_open" "_law_open" Jbo f fd):FnOk P w K mg base CX0 1 f fd ["_law_script","_law_place"] (spOf ⟨C,K⟩ dOpen):=by
 refine L3.Fun.ok3 F Dx (λds M K3 h=>?_) (λcdv A outer s H E hr=>?_)
 .let⟨ns,i,rfl,_⟩:=h;rfl
 .let SC:=Dx;let hu:=hr.units;let hu1:=Xv hr;refine⟨_,_,(Zc (Wi (i:=2) SC.nd rfl rfl (T:=["_law_cell"]) (cs:=[]) rfl (CScope.ok (by kernel_rfl)) (Z8 (Z5 (Wz (K':=K) rfl) (pv 0) Ye (Z7 Ze))) (λ_ _ _ _=>(Zn (i:=0) (Yw (by kernel_rfl)) rfl (Cg rfl) (C5 rfl))) (λ_ _ _ _=>Yo) (λ_ _ _ _=>(Zp Zl2 (by rfl) T.b_abs Jht (Za (pv 0) Zb))) (Ym nofun))
 (Zc (Yu (Zz (Wn (K':=K) rfl hu) (pv 2) (Yf Zb) (Z4 _))
 (Zf (Zr (i:=2) SC.nd rfl (Cg rfl) (Yf (Za Ze Zb))))
 Z0)
 (Zc (Zr (i:=3) SC.nd rfl (Cg rfl) (Zy Xe (pv 1) (Zp (Yd (K:=K) rfl) (by rfl) T.b_len F6 (Za (pv 2) Zb))))
 (Zc (Zr (i:=4) SC.nd rfl (Cg rfl) Ze)
 (Zc (Yu (PW.pt (Rc (Zz Zvx (Yc (Y6 (K':=K) rfl) (pv 2) (pv 3) (λ_ _=>rfl)) (Zy Zh0 Ze Ze) (Z4 _)) (Tp (Zz Zh1 (pv 1) (Zp (Yd (K:=K) rfl) (by rfl) T.b_len F6 (Za (pv 2) Zb)) (Z4 _)))))
 (Zf (Zr (i:=4) SC.nd rfl (Cg rfl) (Yc (Y6 (K':=K) rfl) (pv 2) (pv 3) (λ_ _=>rfl))))
 Z0)
 (Zf (Zu (Yf (Za (pv 4) (Za (Zy (Y7 (K':=K) rfl) Ze (Zy Zam Ze (pv 1))) (Za (Zy (Y7 (K':=K) rfl) (Z5 (Wz (K':=K) rfl) (pv 2) (Z7 (pv 3)) Ye) (Z5 (Wz (K':=K) rfl) (pv 2) Ye (Z7 (pv 3)))) Zb))))))))))),λ_=>(Zx (by symm) (Zx (by symm) (Zx (by symm) (Zx (by symm) (Zx (by symm) (Xk (Zr9 (by symm)))))))),λds M Kk hM hD h=>?_⟩
  let⟨ns,i,rfl,h⟩:=h;let⟨⟨hl,i0,i1⟩,k⟩:=h;exists ·,·,ns.map .int,rfl,?_;rw[show(63:Int)=((63:Nat):Int)from rfl,Xm,<-By];let lm:(ns.take 63).length<=63:=by rw[J8];lia
  generalize ns.take 63=ms at lm;let lms:(ms.map D.int).length=ms.length:=Ja _;exists ·,Zk (by show(ms.map D.int).length<=_;lia),λj ys M'=>M=M'/\ys=((ms.take j).map λz=>if z<0 then -z else z).map .int,λ_ _ _ _ _=>rfl,⟨rfl,rfl⟩,?_,?_
  .rintro j x ys _ hj hx ⟨rfl,rfl⟩;let⟨hj',rfl⟩:=Rw hx;exists ·,·,rfl,?_;rw[Je hj',Jf,Jf];rfl
  rintro ys _ ⟨rfl,rfl⟩;rw[show ms.take _=ms from by show ms.take (ms.map D.int).length=ms;rw[lms,Jw]];let nn:∀c∈ms.map λz:Int=>if z<0 then -z else z,0<=c:=λc hc=>by
   let⟨z,_,rfl⟩:=Jh.mp hc
   split<;>lia
  let lc:(ms.map λz:Int=>if z<0 then -z else z).length<=63:=by rw[Ja];exact lm
  generalize (ms.map λz:Int=>if z<0 then -z else z)=cs at nn lc;refine Q8 (λρ M'=>ρ=[some (.frz (ns.map .int)),some (.int i),some (.lst (cs.map .int)),none,none]/\M=M') (λKn hKn=>hKn _ _ ⟨rfl,rfl⟩) ?_;rintro _ _ ⟨rfl,rfl⟩;refine Q8 (λρ M'=>∃cs:List Int,ρ=[some (.frz (ns.map .int)),some (.int i),some (.lst (cs.map .int)),none,none]/\M=M'/\cs≠[]/\cs.length<=63/\∀c∈cs,0<=c) (λKn hKn=>?_) ?_
  .exists ·,Ju _,?_;refine Sz Z9 (a:=cs) (b:=[]) rfl rfl ⟨_,rfl,ite2 (λe=>?_) λe=>?_⟩
   .exists Nat.succ_le_succ (Ju _),hKn _ _ ⟨[0],rfl,rfl,by simp,nofun,by simp⟩
   .exact hKn _ _ ⟨cs,rfl,rfl,by simpa using e,lc,nn⟩
  rintro _ _ ⟨cs,rfl,rfl,ne,lc,nn⟩;let lp:=Gi.mpr ne;let lm2:(cs.map D.int).length=cs.length:=Ja _;obtain⟨j,ej⟩:∃j:Nat,i % ((cs.map D.int).length:Int)=(j:Int):=⟨(i % ((cs.map D.int).length:Int)).toNat,by rw[Int.toNat_of_nonneg (Gz _ ())]⟩;let hj:j<cs.length:=by have:=Gr i (b:=((cs.map D.int).length:Int)) ();lia
  exists ·,·,·,_,·,rfl,(),?_;rw[ej];let ec:=S0 (f:=D.int) (as:=cs) (i:=(j:Int)) (j:=j) rfl hj;let c0:=nn _ (Jn hj);refine Q8 (λρ M'=>ρ=[some (.frz (ns.map .int)),some (.int i),some (.lst (cs.map .int)),some (.int j),none]/\M=M') (λKn hKn=>hKn _ _ ⟨rfl,rfl⟩) ?_;rintro _ _ ⟨rfl,rfl⟩;refine Q8 (λρ M'=>ρ=[some (.frz (ns.map .int)),some (.int i),some (.lst (cs.map .int)),some (.int j),some (.int 0)]/\M=M') (λKn hKn=>hKn _ _ ⟨rfl,rfl⟩) ?_;rintro _ _ ⟨rfl,rfl⟩;refine Q8 (λρ M'=>∃d:Int,ρ=[some (.frz (ns.map .int)),some (.int i),some (.lst (cs.map .int)),some (.int j),some (.int d)]/\M=M'/\0<=d) (λKn hKn=>?_) ?_
  .exists ·,·,_,_,·,rfl,ec,_,·,rfl,⟨nofun,nofun,nofun⟩,_,·,rfl,·,ite2 (λ_=>?_) λ_=>iteF (hKn _ _ ⟨0,rfl,rfl,nofun⟩);exists ·,·,·,_,·,rfl,·,ite2 (λ_=>⟨_,rfl,_,rfl,_,_,_,rfl,rfl,ec,hKn _ _ ⟨_,rfl,rfl,c0⟩⟩) λ_=>hKn _ _ ⟨0,rfl,rfl,nofun⟩
  rintro _ _ ⟨d,rfl,rfl,d0⟩;let ec2:cut (cs.map D.int) (some (j:Int)) none++cut (cs.map D.int) none (some (j:Int))=(cs.drop j++cs.take j).map D.int:=by rw[Uh,Xm,Jf,Fj,By]
  let lc2:(cs.drop j++cs.take j).length=cs.length:=by rw[Jc,Gn,J8];lia
  exists ·,·,.inl ⟨nofun,nofun⟩,·,·,·,cs.map .int,rfl,·,·,·,cs.map .int,rfl,_,·,rfl,?_,?_
  .rw[<-Jc,ec2,Ja,lc2];exact Zk ()
  .rw[ec2];exists _,_,·,⟨λe=>by rw[e]at lc2;exact Fl lc2 (by simp;lia),(),d0,(),λc hc=>nn c ((J9.mp hc).elim Jdn Bl)⟩,.inl k
theorem Db(T:Txt mg)(Zi:Cal P w K mg base "_law_draw" 1 ["_law_hand","_law_many"] Ph){f:Addr}(F:Fun K "_law_bytes" "_law_bytes" Jad f fd):FnOk P w K mg base CX0 2 f fd ["_law_hand","_law_most"] Zgu:=by
 refine F.ok Jbx (λvs H Q E h=>?_) (λcdv A outer s H vs Q E hr h=>?_)
 .let⟨p,a,m,rfl,_⟩:=h;rfl
 .let⟨p,a,m,rfl,hh,hm1,hm2,k⟩:=h;let SC:=Jbx;let Zj:Room 1 _:=hr.mono nofun;refine⟨_,(Zc (Zr (i:=2) SC.nd rfl (C5 rfl) (Zt Zi Zj rfl (Za (pv 0) (Za Ze Zb))))
 (Zc (Zr (i:=3) SC.nd rfl (C5 rfl) (Zy Wv Ze (Zt Zi Zj rfl (Za (pv 0) (Za Ze Zb)))))
 (Zf (Zu (Yv (T:=["_law_k"]) (cs:=[2,3]) rfl (CScope.ok (by kernel_rfl)) (Yb rfl T.b_range (Za (Zy Wv Ze (Zt Zi Zj rfl (Za (pv 0) (Za (Zy Zhz (pv 1) Ze) Zb)))) Zb)) (λ_ _ _ _=>(Zn (i:=0) (Yw (by kernel_rfl)) rfl (Cg rfl) (C5 rfl))) (λ_ _ _ _=>Yo) (λ_ _ _ _=>(Zy Xe (Zy Wv (pv 1) (Zy Tf (pv 2) (pv 0))) Ze)) (Ym nofun)))))),?_⟩
  refine⟨_,rfl,p,a,_,rfl,hh,nofun,nofun,λb0 H1 b00 b01 h1 g1 u1=>?_⟩;refine⟨_,rfl,p,a,_,rfl,h1,nofun,nofun,λs0 H2 s00 s01 h2 g2 u2=>⟨_,_,rfl,rfl,?_⟩⟩;refine⟨_,rfl,_,rfl,_,_,rfl,rfl,p,a,_,rfl,h2,(),(),λn0 H3 n00 n01 h3 g3 u3=>⟨_,_,rfl,rfl,(2+n0),rfl,(),(),Vw (n:=(2+n0).toNat)
   (λj ys H'=>H'=H3/\ys=((Cv j).map λk:Nat=>(b0+(1+s0)*(k:Int)) % 256).map V.int) ⟨rfl,rfl⟩ ?_ (Zk ()) ?_ ?_ ?_ ?_⟩⟩
  .rintro j ys H' ⟨rfl,rfl⟩;rw[Ja,Ja,G9];exact Jd _
  .rintro j ys H' hj _;exact hj
  .rintro ys H' _;exact Jd _
  .rintro j ys H' hj ⟨rfl,rfl⟩ x H4 ⟨rfl,rfl⟩;exists ·,·,·,_,·,rfl,.inl ⟨(),()⟩,_,·,rfl,_,·,rfl,(by show(0:Int)<_;decide),rfl,?_;rw[L5,Jf,Jf,B9];rfl
  .rintro ys H' ⟨rfl,rfl⟩ l hl;let⟨_,_,_,ep,_⟩:=h3.ex;let nl:l≠p:=Ee (Zq ep hl);let g:=(g1.trans g2).trans g3;refine k l _ _ (g.free hl nl) nl Zh (Zb9 () ?_) ?_ ?_ (λb hb=>?_) (h3.same (Zl hl)) (g.trans (Grow.same (Zl hl)))
   .let:((2+n0).toNat:Int)=2+n0:=by lia
    rw[this];let h4:(1+s0)*(2+n0)<=(1+s0)*4:=Lj () ();lia
   .rw[Ja,G9];lia
   .rw[Ja,G9];lia
   .let⟨i,_,rfl⟩:=Jh.mp hb;exists Gz _ nofun,Gr _ nofun
def Zl3{bs:List Int}{n:Nat}(h:∀w∈ws,∀b∈w,b∈bs)(hn:n<ws.length):∀w∈ws.take n++(bs.map λb=>ws[n]++[b])++ws.drop (n+1),∀b∈w,b∈bs:=λw hw b hb=>by
 rcases J9.mp hw with z|z
 .rcases J9.mp z with z|z
  .exact h w (Bl z) b hb
  .let⟨c,hc,rfl⟩:=Jh.mp z;rcases J9.mp hb with y|y
   .exact h _ (Jn hn) b y
   .rw[Jg.mp y];exact hc
 .exact h w (Jdn z) b hb
theorem Da(T:Txt mg)(Zi:Cal P w K mg base "_law_draw" 1 ["_law_hand","_law_many"] Ph){f:Addr}(F:Fun K "_law_words" "_law_words" Jcy f fd):FnOk P w K mg base CX0 2 f fd ["_law_hand","_law_some","_law_most","_law_longest"] Zdq:=by
 refine F.ok Jbs (λvs H Q E h=>?_) (λcdv A outer s H vs Q E hr h=>?_)
 .let⟨p,a,sa,m,lg,bs,rfl,_⟩:=h;rfl
 .let⟨p,a,sa,m,lg,bs,rfl,hh,es,nsp,nd,hne,hl,hm1,hm2,hg1,hg2,k⟩:=h;let SC:=Jbs;let Zj:Room 1 _:=hr.mono nofun;let hlp:0<bs.length:=Gi.mpr hne;refine⟨_,(Zc (Zr (i:=4) SC.nd rfl (C5 rfl) (Yv (T:=["_law_one"]) (cs:=[]) rfl (CScope.ok (by kernel_rfl)) (Z8 (pv 1)) (λ_ _ _ _=>(Zn (i:=0) (Yw (by kernel_rfl)) rfl (Cg rfl) (C5 rfl))) (λ_ _ _ _=>Yo) (λ_ _ _ _=>(Xd (Za (pv 0) Zb))) (Ym nofun)))
 (Zc (Y8 Cm rfl (Yb rfl T.b_range (Za (Zt Zi Zj rfl (Za (pv 0) (Za (Zy Wv (pv 2) Ze) Zb))) Zb)) (Zn (i:=5) SC.nd rfl (Cg rfl))
 (Zc (Zr (i:=6) SC.nd rfl (C5 rfl) (Zy Xe (Zt Zi Zj rfl (Za (pv 0) (Za Ze Zb))) (Zp W4 (by rfl) T.b_len F6 (Za (pv 4) Zb))))
 (Zf (Yu (Zz Zh1 (Zp W4 (by rfl) T.b_len F6 (Za (Yc Xl (pv 4) (pv 6) (λ_ _=>rfl)) Zb)) (pv 3) (Z4 _))
 (Zf (Zr (i:=4) SC.nd rfl (C5 rfl) (Zy Zeb (Zy Zeb (Z5 R7 (pv 4) Ye (Z7 (pv 6))) (Yv (T:=["_law_one"]) (cs:=[4,6]) rfl (CScope.ok (by kernel_rfl)) (Z8 (pv 1)) (λ_ _ _ _=>(Zn (i:=0) (Yw (by kernel_rfl)) rfl (Cg rfl) (C5 rfl))) (λ_ _ _ _=>Yo) (λ_ _ _ _=>(Zy (Zqe (K:=K) rfl) (Yc (Zng (K:=K) rfl) (pv 1) (pv 2) (λ_ _=>rfl)) (Xd (Za (pv 0) Zb)))) (Ym nofun))) (Z5 R7 (pv 4) (Z7 (Zy Wv (pv 6) Ze)) Ye))))
 Z0))))
 (Zf (Zu (Yv (T:=["_law_word"]) (cs:=[0]) rfl (CScope.ok (by kernel_rfl)) (Z8 (pv 4)) (λ_ _ _ _=>(Zn (i:=0) (Yw (by kernel_rfl)) rfl (Cg rfl) (C5 rfl))) (λ_ _ _ _=>(Vc (Zz Za1 (Zt Zi Zj rfl (Za (pv 1) (Za Ze Zb))) Ze (Z4 _)))) (λ_ _ _ _=>(pv 0)) (Ym nofun)))))),?_⟩
  exists ·,sa,rfl,⟨_,SqL.of es⟩,Vw (n:=bs.length) (λj ys H'=>ys.length=j/\Same H H'/\Wp H' ys ((bs.map λb=>[b]).take j)) ⟨rfl,.refl _,by rw[Bu];exact .nil⟩ ?_ (Zk ()) ?_ ?_ ?_ ?_
  .rintro j ys H' ⟨e,_⟩;exact Bq e
  .rintro j ys H' hj ⟨_,s1,_⟩;exact Ziq (s1 _ _ es) (by rw[Ja];exact hj)
  .rintro ys H' ⟨_,s1,_⟩;exact Nr (s1 _ _ es) (by rw[Ja];exact Jd _)
  .rintro j ys H' hj ⟨e,s1,w1⟩ y H'' hy;let⟨rfl,rfl⟩:=Zcw (s1 _ _ es) (by rw[Ja];exact hj) hy;exists ·,by show 1<=Cb;decide,λq hq=>⟨by rw[Jc,e];rfl,s1.trans (Zl hq),?_⟩;rw[Je (by rw[Ja];exact hj)];refine L2.Paired.snoc ⟨q,rfl,?_⟩ (Wp.tk w1 (Zl hq).tk);rw[Zh,Gv,Gv];rfl
  .rintro ys H1 ⟨e,s1,w1⟩ wl hwl;rw[<-Ja (f:=λb:Int=>[b]),Jw]at w1;let s2:=s1.trans (Zl (o:=.lst ys) hwl);let w2:=Wp.tk w1 (Zl (o:=.lst ys) hwl).tk;let e2:(upd H1 wl (.lst ys)) wl=some (.lst ys):=Zh;let⟨_,ep⟩:=X5 hh;let nwp:wl≠p:=Ee (Zq (s1 _ _ ep) hwl);let nw0:H wl=none:=s1.free hwl;generalize upd H1 wl (.lst ys)=H2 at s2 w2 e2;refine⟨_,rfl,_,rfl,_,_,rfl,rfl,p,a,_,rfl,hh.same s2,(),(),λn0 H3 n00 n01 h3 g3 u3=>?_⟩;let inv0:WOk (bs.map λb=>[b]):=Zo3 nd;refine⟨n0,rfl,(),(),Sd (n:=n0.toNat) (λj σ H'=>∃wl ws v1 v2,σ=[some (.ref p),some (.ref sa),some (.int m),some (.int lg),some (.ref wl),v1,v2]/\H wl=none/\wl≠p/\Zde H' wl ws/\WOk ws/\(∀w∈ws,∀b∈w,b∈bs)/\ws≠[]/\ws.length<=bs.length+j*bs.length/\HandAt H' p a/\Grow p H H')
    ⟨wl,_,_,_,rfl,nw0,nwp,⟨ys,by rw[u3 wl nwp];exact e2,Wp.tk w2 (g3.tk (s2 _ _ ep))⟩,inv0,(λw hw b hb=>by let⟨c,hc,rfl⟩:=Jh.mp hw;rw[Jg.mp hb];exact hc),by simpa using hne,by rw[Ja];lia,h3,(Grow.same s2).trans g3⟩ ?_ ?_⟩
   .rintro j σ H4 hj ⟨wl,ws,v1,v2,rfl,nw0,nwp,⟨vs,e4,w4⟩,ok4,bn4,ne4,l4,h4,g4⟩;let lv:=Paired.length w4;let lp:0<vs.length:=by rw[lv];exact Gi.mpr ne4
    let hjb:j*bs.length<=6*24:=Nat.mul_le_mul () hl;exists ·,p,a,·,h4,nofun,nofun,λr H5 r0 r1 h5 g5 u5=>?_;let e5:H5 wl=some (.lst vs):=by rw[u5 wl nwp];exact e4
    let⟨_,ep4⟩:=X5 h4;let w5:=Wp.tk w4 (g5.tk ep4);let es5:H5 sa=some (.lst (bs.map V.int)):=(g4.trans g5) _ _ es nsp;exists ·,_,·,.inl ⟨_,SqL.of e5,rfl⟩,_,·,rfl,(by show(0:Int)<_;lia),?_;let r2:0<=r % (vs.length:Int):=Gz _ ();let r3:r % (vs.length:Int)<vs.length:=Gr _ ();let⟨n,en0⟩:=Gu r2;let hn:n<vs.length:=by lia
    let⟨hn2,t,ev,et⟩:=Wp.take1 w5 hn;let atn:atI vs (r % (vs.length:Int))=some (.ref t):=by rw[en0,<-ev];exact Wy (Jb hn)
    let cut1:cutV vs none (some (r % (vs.length:Int)))=vs.take n:=by rw[en0,Zjf () (),G8]
    let cut2:cutV vs (some (r % (vs.length:Int)+1)) none=vs.drop (n+1):=by rw[en0,Zeq () ()];congr 1
    exists ·,·,wl,_,_,·,rfl,SqL.of e5,atn,_,·,.inr ⟨_,SqT.of et,rfl⟩,·,_,·,rfl,·,?_;refine ite2 (λhlt=>?_) (λhlt=>?_)
    .let hlt':((ws[n].map V.int).length:Int)<lg:=Fk hlt;rw[Ja]at hlt';exists ·,·,·,wl,·,SqL.of e5,λq1 hq1=>?_;rw[cut1];let s6:=Zl (o:=.lst (vs.take n)) hq1;let e61:(upd H5 q1 (.lst (vs.take n))) q1=_:=Zh;let nq1:q1≠p:=by let⟨_,ep5⟩:=X5 h5;exact Ee (Zq ep5 hq1)
     generalize upd H5 q1 (.lst (vs.take n))=H6 at s6 e61;exists ·,sa,rfl,⟨_,SqL.of (s6 _ _ es5)⟩,Vw (n:=bs.length) (λj ys H'=>ys.length=j/\Same H6 H'/\Wp H' ys ((bs.map λb=>ws[n]++[b]).take j)) ⟨rfl,.refl _,by rw[Bu];exact .nil⟩ ?_ (Zk ()) ?_ ?_ ?_ ?_
     .rintro j ys H' ⟨e,_⟩;exact Bq e
     .rintro j ys H' hj ⟨_,s1,_⟩;exact Ziq (s1 _ _ (s6 _ _ es5)) (by rw[Ja];exact hj)
     .rintro ys H' ⟨_,s1,_⟩;exact Nr (s1 _ _ (s6 _ _ es5)) (by rw[Ja];exact Jd _)
     .rintro j ys H' hj ⟨e,s1,w1⟩ y H'' hy;let⟨rfl,rfl⟩:=Zcw (s1 _ _ (s6 _ _ es5)) (by rw[Ja];exact hj) hy;let et':=s1 _ _ (s6 _ _ et);exists ·,·,wl,_,_,·,rfl,SqL.of (s1 _ _ (s6 _ _ e5)),atn,·,by show 1<=Cb;decide,λq hq=>?_;let sq:=Zl (o:=.tup [(bs.map V.int)[j]'(by rw[Ja];exact hj)]) hq;exists t,q,_,·,rfl,SqT.of (sq _ _ et'),SqT.of Zh,?_,?_,λz=>Fl z (by simp),λ_ q2 hq2=>?_
      .let:=(ok4.2 ws[n] (Jn hn2)).1;simpa using this
      .rw[Ja];show ws[n].length+1<=Cb;exact Jy (by lia:ws[n].length+1<=10) nofun
      .exists by rw[Jc,e];rfl,(s1.trans sq).trans (Zl hq2),?_;rw[Je (by rw[Ja];exact hj)];refine L2.Paired.snoc ⟨q2,rfl,?_⟩ (Wp.tk w1 (sq.tk.trans (Zl hq2).tk));rw[Zh,Gv,Gv,Jf];rfl
     .rintro ys H7 ⟨e,s7,w7⟩ q3 hq3;rw[<-Ja (f:=λb:Int=>ws[n]++[b]),Jw]at w7;let s8:=s6.trans (s7.trans (Zl (o:=.lst ys) hq3));let e8:(upd H7 q3 (.lst ys)) q3=some (.lst ys):=Zh;let e81:=(s7.trans (Zl (o:=.lst ys) hq3)) _ _ e61;let w8:=Wp.tk w7 (Zl (o:=.lst ys) hq3).tk;generalize upd H7 q3 (.lst ys)=H8 at s8 e8 e81 w8;let ly:ys.length=bs.length:=by rw[Paired.length w8,Ja]
      exists q1,q3,_,·,rfl,e81,e8,?_,λq4 hq4=>?_
      .rw[J8,ly];exact Zk ()
      let s9:=s8.trans (Zl (o:=.lst (vs.take n++ys)) hq4);let e9:(upd H8 q4 (.lst (vs.take n++ys))) q4=_:=Zh;let w9:=Wp.tk w8 (Zl (o:=.lst (vs.take n++ys)) hq4).tk;generalize upd H8 q4 (.lst (vs.take n++ys))=H9 at s9 e9 w9;exists ·,·,_,·,rfl,·,wl,·,SqL.of (s9 _ _ e5),λq5 hq5=>?_;rw[cut2];let s10:=s9.trans (Zl (o:=.lst (vs.drop (n+1))) hq5);let e10:(upd H9 q5 (.lst (vs.drop (n+1)))) q5=_:=Zh;let e104:=Zl (o:=.lst (vs.drop (n+1))) hq5 _ _ e9;let w10:=Wp.tk w9 (Zl (o:=.lst (vs.drop (n+1))) hq5).tk;generalize upd H9 q5 (.lst (vs.drop (n+1)))=H10 at s10 e10 e104 w10
      exists q4,q5,_,·,rfl,e104,e10,?_,λq6 hq6=>?_
      .rw[Jc,J8,Gn,ly];exact Zk ()
      let s11:=s10.trans (Zl (o:=.lst (vs.take n++ys++vs.drop (n+1))) hq6);let w11:=Wp.tk w10 (Zl (o:=.lst (vs.take n++ys++vs.drop (n+1))) hq6).tk;let hsp:ws=ws.take n++ws[n]::ws.drop (n+1):=by
       rw[<-Bw hn2,Bi]
      let ok11:WOk (ws.take n++(bs.map λb=>ws[n]++[b])++ws.drop (n+1)):=Zk2 nd (hsp ▸ ok4) ();let ws5:=Wp.tk w5 s11.tk;let⟨_,ep5⟩:=X5 h5;let nq6:q6≠p:=Ee (Zq (s10 _ _ ep5) hq6);exists q6,_,_,·,?_,nq6,⟨_,Zh,L2.Paired.app (L2.Paired.drp (n+1) ws5) (L2.Paired.app w11 (L2.Paired.tak n ws5))⟩,ok11,Zl3 bn4 hn2,?_,?_,h5.same s11,(g4.trans g5).trans (Grow.same s11)
      .exact(g4.trans g5).free (s10.free hq6) nq6
      .intro z;let:=congrArg K7 z;simp only[Jc,Ja,Bo]at this;lia
      .rw[Jc,Jc,J8,Gn,Ja,Jib,Nat.one_mul];lia
    .exists wl,ws,_,·,nw0,nwp,⟨vs,e5,w5⟩,ok4,bn4,ne4,?_,h5,g4.trans g5;rw[Jib];lia
   .rintro σ H4 ⟨wl,ws,v1,v2,rfl,nw0,nwp,⟨vs,e4,w4⟩,ok4,bn4,ne4,l4,h4,g4⟩;let lv:=Paired.length w4;let lb:ws.length<=200:=by
     let:n0.toNat*bs.length<=6*24:=Nat.mul_le_mul () hl;lia
    exists ·,wl,rfl,⟨_,SqL.of e4⟩,Vw (n:=vs.length) (λj ys H'=>∃us:List (List Int),Wp H' ys us/\us.Sublist (ws.take j)/\HandAt H' p a/\Grow p H4 H') ⟨[],.nil,List.nil_sublist _,h4,Grow.refl _ _⟩ ?_ (Zk ()) ?_ ?_ ?_ ?_
    .rintro j ys H' ⟨us,w1,sb,_⟩;let:=sb.length_le;rw[J8]at this;rw[Paired.length w1];lia
    .rintro j ys H' hj ⟨us,w1,sb,h1,g1⟩;exact Ziq (g1 _ _ e4 nwp) hj
    .rintro ys H' ⟨us,w1,sb,h1,g1⟩;exact Nr (g1 _ _ e4 nwp) (Jd _)
    .rintro j ys H' hj ⟨us,w1,sb,h1,g1⟩ y H'' hy;let⟨rfl,rfl⟩:=Zcw (g1 _ _ e4 nwp) hj hy;exists ·,p,a,·,h1,nofun,nofun,λr H6 r0 r1 h6 g6 u6=>⟨_,_,rfl,rfl,_,rfl,?_⟩;let⟨_,ep1⟩:=X5 h1;let hj2:j<ws.length:=by lia
     let tk:(ws.take (j+1))=ws.take j++[ws[j]]:=Je hj2;refine ite2 (λ_=>?_) (λ_=>?_)
     .exists ·,us++[ws[j]],L2.Paired.snoc ?_ (Wp.tk w1 (g6.tk ep1)),by rw[tk];exact sb.append (Jij _),h6,g1.trans g6;let⟨_,ep4⟩:=X5 h4;exact(L2.Paired.at w4 hj hj2).tk ((g1.trans g6).tk ep4)
     .exists us,Wp.tk w1 (g6.tk ep1),by rw[tk];exact sb.trans (List.sublist_append_left _ _),h6,g1.trans g6
    .rintro ys H5 ⟨us,w1,sb,h5,g5⟩ q hq;rw[lv,Jw]at sb;let⟨_,ep5⟩:=X5 h5;let nq:q≠p:=Ee (Zq ep5 hq);let g:=g4.trans g5;refine k q us _ (g.free hq nq) nq ⟨ys,Zh,Wp.tk w1 (Zl hq).tk⟩ (ok4.sub sb) (λw hw=>bn4 w (sb.subset hw)) ?_ (h5.same (Zl hq)) (g.trans (Grow.same (Zl hq)));let l1:=sb.length_le;let l2:n0.toNat*bs.length<=m.toNat*bs.length:=Nat.mul_le_mul () (Jd _);let l3:((m.toNat*bs.length:Nat):Int)=m*bs.length:=by rw[Int.natCast_mul];congr 1;lia
     lia
theorem Jaa(T:Txt mg)(Zi:Cal P w K mg base "_law_draw" 1 ["_law_hand","_law_many"] Ph){f:Addr}(F:Fun K "_law_signs" "_law_signs" Dz f fd):FnOk P w K mg base CX0 2 f fd ["_law_hand","_law_many"] Zgs:=by
 refine F.ok Jco (λvs H Q E h=>?_) (λcdv A outer s H vs Q E hr h=>?_)
 .let⟨p,a,m,rfl,_⟩:=h;rfl
 .let⟨p,a,m,rfl,hh,hm0,hm1,k⟩:=h;let SC:=Jco;let Zj:Room 1 _:=hr.mono nofun;refine⟨_,(Zc (Zr (i:=2) SC.nd rfl (C5 rfl) (Zy Tf (Z2 Zbr (by rfl) T.b_int Jdc (Za (Vr Za1 (Zt Zi Zj rfl (Za (pv 0) (Za Ze Zb))) Ze (Z4 _)) Zb)) (Zy Wv (Zy Tf (Zt Zi Zj rfl (Za (pv 0) (Za Ze Zb))) (Zy Zh0 Ze Ze)) (Zt Zi Zj rfl (Za (pv 0) (Za Ze Zb))))))
 (Zc (Zr (i:=3) SC.nd rfl (C5 rfl) (Zy Wv Ze (Yc Xl (Yf (Za Ze (Za (Zt Zi Zj rfl (Za (pv 0) (Za Ze Zb))) (Za (Zt Zi Zj rfl (Za (pv 0) (Za (Zy Zh0 Ze Ze) Zb))) Zb)))) (Zt Zi Zj rfl (Za (pv 0) (Za Ze Zb))) (λ_ _=>rfl))))
 (Zc (Wi (i:=4) SC.nd rfl rfl (T:=["_law_k"]) (cs:=[2,3]) rfl (CScope.ok (by kernel_rfl)) (Yb rfl T.b_range (Za (pv 1) Zb)) (λ_ _ _ _=>(Zn (i:=0) (Yw (by kernel_rfl)) rfl (Cg rfl) (C5 rfl))) (λ_ _ _ _=>Yo) (λ_ _ _ _=>(Zy Wv (pv 1) (Zy Tf (pv 2) (pv 0)))) (Ym nofun))
 (Zc (Zr (i:=5) SC.nd rfl (Cg rfl) (Zy Xe (Zt Zi Zj rfl (Za (pv 0) (Za Ze Zb))) (Zp (Sf rfl) (by rfl) T.b_max E8 (Za Ze (Za (pv 1) Zb)))))
 (Zc (Zr (i:=4) SC.nd rfl (Cg rfl) (Zy Zeb (Z5 R7 (pv 4) (Z7 (pv 5)) Ye) (Z5 R7 (pv 4) Ye (Z7 (pv 5)))))
 (Zc (Yu (Zz Zk9 (Zt Zi Zj rfl (Za (pv 0) (Za Ze Zb))) Ze (Z4 _))
 (Zf (Zu (Zm1 (pv 4) (Z7 (Zsu Zmb Ze)) (λ_ _=>⟨_,rfl⟩))))
 Z0)
 (Zf (Zu (pv 4))))))))),?_⟩
  exists ·,p,a,·,hh,nofun,nofun,λr1 H1 r10 r11 h1 g1 u1=>⟨_,_,rfl,rfl,.inr ⟨_,rfl,_,rfl,p,a,_,rfl,h1,nofun,nofun,λr2 H2 r20 r21 h2 g2 u2=>⟨_,_,rfl,rfl,⟨nofun,nofun,nofun⟩,_,_,rfl,rfl,.inl ⟨(),()⟩,_,rfl,p,a,_,rfl,h2,nofun,nofun,λr3 H3 r30 r31 h3 g3 u3=>⟨_,_,rfl,rfl,_,_,rfl,rfl,.inl ?_,?_⟩⟩⟩⟩
  .split<;>exact⟨nofun,nofun⟩
  obtain⟨bg,hbg⟩:∃bg:Int,bg=(if decide (0<r1)=true then(1:Int)else 0)*(r2*10 ^ Int.toNat 6+r3):=⟨_,rfl⟩;let g30:=(g1.trans g2).trans g3;exists ·,p,a,·,h3,nofun,nofun,λr4 H4 r40 r41 h4 g4 u4=>⟨_,rfl,_,_,rfl,rfl,⟨nofun,nofun,nofun⟩,p,a,_,rfl,h4,nofun,nofun,λr5 H5 r50 r51 h5 g5 u5=>⟨by show 3<=Cb;decide,λlq hlq=>?_⟩⟩;let s6:=Zl (o:=.lst [.int 0,.int r4,.int r5]) hlq;let⟨_,ep5⟩:=X5 h5;let nlq:lq≠p:=Ee (Zq ep5 hlq);let elq:(upd H5 lq (.lst [.int 0,.int r4,.int r5])) lq=_:=Zh;let h6:=h5.same s6;let g60:=g30.trans (g4.trans (g5.trans (Grow.same s6)))
  generalize upd H5 lq (.lst [.int 0,.int r4,.int r5])=H6 at s6 elq h6 g60;exists ·,p,a,·,h6,nofun,nofun,λr6 H7 r60 r61 h7 g7 u7=>?_;let elq7:H7 lq=some (.lst [.int 0,.int r4,.int r5]):=by rw[u7 lq nlq];exact elq
  let⟨v,hv,ev⟩:=Zl6 (xs:=[V.int 0,.int r4,.int r5]) r60 (by simpa using r61);obtain⟨c,rfl,hc⟩:∃c:Int,v=.int c/\0<=c:=by
   simp only[Jt,Jfh,or_false]at hv;rcases hv with z|z|z<;>exact⟨_,z,()⟩
  let r51':r5<10000000:=r51;let hc2:c<10000000:=by
   simp only[Jt,Jfh,or_false]at hv;rcases hv with z|z|z<;>injection z with z<;>lia
  exists lq,_,_,·,rfl,SqL.of elq7,ev,_,·,rfl,?_;exists ·,m,rfl,(),(),Vw (n:=m.toNat) (λj ys H'=>H'=H7/\ys=((Cv j).map λk:Nat=>bg+(1+c)*(k:Int)).map V.int) ⟨rfl,rfl⟩ ?_ (Zk ()) ?_ ?_ ?_ ?_
  .rintro j ys H' ⟨rfl,rfl⟩;rw[Ja,Ja,G9];exact Jd _
  .rintro j ys H' hj _;exact hj
  .rintro ys H' _;exact Jd _
  .rintro j ys H' hj ⟨rfl,rfl⟩ x H8 ⟨rfl,rfl⟩;exists ·,·,·,_,·,rfl,.inl ⟨(),()⟩,_,·,rfl,rfl,?_;rw[L5,Jf,Jf,B9,hbg];rfl
  .rintro ys H' ⟨rfl,rfl⟩ l hl;generalize hss:(Cv m.toNat).map (λk:Nat=>bg+(1+c)*(k:Int))=ss;let nd:ss.Nodup:=by rw[<-hss];exact Zgp () _
   let ls:(ss.length:Int)=m:=by rw[<-hss,Ja,G9];lia
   let s8:=Zl (o:=.lst (ss.map V.int)) hl;let e8:(upd H' l (.lst (ss.map V.int))) l=_:=Zh;let⟨_,ep7⟩:=X5 h7;let nl:l≠p:=Ee (Zq ep7 hl);let h8:=h7.same s8;let g80:=(g60.trans g7).trans (Grow.same s8);generalize upd H' l (.lst (ss.map V.int))=H8 at s8 e8 h8 g80;exists ·,p,a,·,h8,nofun,nofun,λr9 H9 r90 r91 h9 g9 u9=>⟨_,rfl,_,_,rfl,_,_,rfl,rfl,?_,?_⟩
   .show(0:Int)<if m > 1 then m else 1
    split<;>lia
   let e9:H9 l=some (.lst (ss.map V.int)):=by rw[u9 l nl];exact e8
   let z0:0<=r9 % (if m > 1 then m else 1):=Gz _ (by split<;>lia);let z1:r9 % (if m > 1 then m else 1)<=ss.length:=by
    rw[ls];let:=Gr r9 (show(0:Int)<if m > 1 then m else 1 by split<;>lia)
    by_cases hm:m > 1
    .rw[Fw hm]at this⊢;lia
    .rw[Fv hm]at this⊢;lia
   let⟨n,en⟩:=Gu z0;let cut1:cutV (ss.map V.int) (some (r9 % (if m > 1 then m else 1))) none=(ss.drop n).map V.int:=by rw[en,Zeq () (by rw[Ja];lia),Fj];rfl
   let cut2:cutV (ss.map V.int) none (some (r9 % (if m > 1 then m else 1)))=(ss.take n).map V.int:=by rw[en,Zjf () (by rw[Ja];lia),By];rfl
   exists ·,·,·,l,·,SqL.of e9,λq1 hq1=>?_;rw[cut1];let sA:=Zl (o:=.lst ((ss.drop n).map V.int)) hq1;let eA:(upd H9 q1 (.lst ((ss.drop n).map V.int))) q1=_:=Zh;generalize upd H9 q1 (.lst ((ss.drop n).map V.int))=HA at sA eA;exists ·,·,·,l,·,SqL.of (sA _ _ e9),λq2 hq2=>?_;rw[cut2];let sB:=sA.trans (Zl (o:=.lst ((ss.take n).map V.int)) hq2);let eB:(upd HA q2 (.lst ((ss.take n).map V.int))) q2=_:=Zh;let eB1:=Zl (o:=.lst ((ss.take n).map V.int)) hq2 _ _ eA;generalize upd HA q2 (.lst ((ss.take n).map V.int))=HB at sB eB eB1;exists q1,q2,_,·,rfl,eB1,eB,?_,λq3 hq3=>?_
   .rw[Ja,Ja,Gn,J8];exact Zk ()
   rw[<-Jf];let nd2:=Ze3 nd n;let ls2:((ss.drop n++ss.take n).length:Int)=m:=by rw[Jc,Gn,J8];lia
   generalize ss.drop n++ss.take n=tt at nd2 ls2;let sC:=sB.trans (Zl (o:=.lst (tt.map V.int)) hq3);let eC:(upd HB q3 (.lst (tt.map V.int))) q3=_:=Zh;let⟨_,ep9⟩:=X5 h9;let nq3:q3≠p:=Ee (Zq (sB _ _ ep9) hq3);let n30:H q3=none:=(g80.trans g9).free (sB.free hq3) nq3;let hC:=h9.same sC;let gC:=(g80.trans g9).trans (Grow.same sC);generalize upd HB q3 (.lst (tt.map V.int))=HC at sC eC hC gC;exists ·,p,a,·,hC,nofun,nofun,λrd HD rd0 rd1 hD gD uD=>⟨rfl,_,rfl,?_⟩;let eD:HD q3=some (.lst (tt.map V.int)):=by rw[uD q3 nq3];exact eC
   refine ite2 (λ_=>?_) (λ_=>?_)
   .exists ·,·,·,rfl,q3,·,SqL.of eD,λq4 hq4=>?_;rw[<-Jb0];let sE:=Zl (o:=.lst (tt.reverse.map V.int)) hq4;let⟨_,epD⟩:=X5 hD;let nq4:q4≠p:=Ee (Zq epD hq4);exact k q4 tt.reverse _ ((gC.trans gD).free hq4 nq4) nq4 Zh ((Jey tt).nodup_iff.mpr nd2) (by rw[List.length_reverse];exact ls2) (hD.same sE) ((gC.trans gD).trans (Grow.same sE))
   .exists ·,k q3 tt HD n30 nq3 eD nd2 ls2 hD (gC.trans gD)
open L3
theorem Dl(T:Txt mg)(Zi:Cal P w K mg base "_law_draw" 1 ["_law_hand","_law_many"] (spOf ⟨C,K⟩ dDraw)){f:Addr}(F:Fun K "_law_table" "_law_table" Jaf f fd):FnOk P w K mg base CX0 2 f fd ["_law_hand","_law_words_here","_law_signs_here"] (spOf ⟨C,K⟩ dTable):=by
 refine L3.Fun.ok3 F Jce (λds M K3 h=>?_) (λcdv A outer s H E hr=>?_)
 .let⟨k0,ws,ss,rfl,_⟩:=h;rfl
 .let SC:=Jce;let hu:=hr.units;let hu1:=Xv hr;let Zj:Room 1 _:=hr.mono nofun;refine⟨_,_,(Zc (Zr (i:=3) SC.nd rfl (Cg rfl) (Zy Xe (Zt Zi Zj rfl (Za (pv 0) (Za Ze Zb))) (Zp (Sf rfl) (by rfl) T.b_max E8 (Za Ze (Za (Zp (Yd (K:=K) rfl) (by rfl) T.b_len F6 (Za (pv 2) Zb)) Zb)))))
 (Zc (Zr (i:=4) SC.nd rfl (C5 rfl) (Zy (Y7 (K':=K) rfl) (Z5 (Wz (K':=K) rfl) (pv 2) (Z7 (pv 3)) Ye) (Z5 (Wz (K':=K) rfl) (pv 2) Ye (Z7 (pv 3)))))
 (Zc (Wi (i:=5) SC.nd rfl rfl (T:=["_law_k"]) (cs:=[4,1]) rfl (CScope.ok (by kernel_rfl)) (Yb rfl T.b_range (Za (Zp (Yd (K:=K) rfl) (by rfl) T.b_len F6 (Za (pv 1) Zb)) Zb)) (λ_ _ _ _=>(Zn (i:=0) (Yw (by kernel_rfl)) rfl (Cg rfl) (C5 rfl))) (λ_ _ _ _=>Yo) (λ_ _ _ _=>(Xd (Za (Yc (Y6 (K':=K) rfl) (pv 1) (pv 0) (λ_ _=>rfl)) (Za (Yc (Y6 (K':=K) rfl) (pv 2) (pv 0) (λ_ _=>rfl)) Zb)))) (Ym nofun))
 (Zc (Yu (Zz (Wn (K':=K) rfl hu) (Zt Zi Zj rfl (Za (pv 0) (Za Ze Zb))) Ze (Z4 _))
 (Zf (Zu (Zm1 (pv 5) (Z7 (Zsu Zmb Ze)) (λ_ _=>⟨_,rfl⟩))))
 Z0)
 (Zf (Zu (pv 5))))))),λ_=>(Zx (by symm) (Zx (by symm) (Zx (by symm) (Zx (Ws (by symm) (Xk (Zvb (Z6 5) (by symm))) Xn) (Xk (Z6 5)))))),λds M Kk hM hD h=>?_⟩
  let⟨k0,ws,ss,rfl,h⟩:=h;let⟨hh,⟨ok,lw,nd,l1,l2⟩,k⟩:=h;let lm:(ws.map wD).length=ws.length:=Ja _;let lss:(ss.map D.int).length=ss.length:=Ja _;exists ·,k0,60,rfl,hh,⟨nofun,nofun⟩,λr r0 r1=>?_;exists ·,?_;refine Zeg (xs:=ss.map .int) rfl ?_;exists _,·,_,·,rfl,?_,?_
  .rw[lss]
   split<;>lia
  rw[lss];let⟨a,ea⟩:=Gu (Gz r (b:=if((ss.length:Nat):Int) > 1 then((ss.length:Nat):Int)else 1) (by split<;>lia))
  try dsimp only
  rw[ea];refine⟨_,rfl,_,rfl,_,rfl,?_⟩;refine⟨_,rfl,_,rfl,_,rfl,?_⟩;refine⟨_,rfl,?_⟩;refine Zgx (d:=.lst (ss.map D.int)) (xs:=ss.map .int) rfl ?_;rw[Uh,Xm,<-Fj,<-By];refine Zub (xs:=(ss.drop a).map .int) (ys:=(ss.take a).map .int) rfl rfl (by rw[Ja,Ja,Gn,J8];exact Zk ()) ?_;rw[<-Jf];let pm:(ss.drop a++ss.take a).Perm ss:=by
   let:=List.perm_append_comm (l₁:=ss.drop a) (l₂:=ss.take a);rwa [Bi]at this
  generalize ss.drop a++ss.take a=tt at pm;let nt:tt.Nodup:=pm.nodup_iff.mpr nd;let lt:tt.length=ss.length:=pm.length_eq;let lz:(tt.zip ws).length=ws.length:=by rw[List.length_zip];lia
  let az:∀j(h1:j<tt.length)(h2:j<ws.length),(tt.zip ws)[j]?=some (tt[j],ws[j]):=λj h1 h2=>by rw[Jb (),List.getElem_zip]
  let fr:Free (tt.zip ws):=ok.free nt;let sn:(tt.zip ws).map (·.2)=ws:=Jfe (l₁:=tt) (l₂:=ws) ();let fi:Fits (tt.zip ws):=⟨(),λp hp=>ok.2 _ (by rw[<-sn];exact Jh.mpr ⟨p,hp,rfl⟩)⟩;generalize tt.zip ws=L at lz az fr sn fi;exists ·,?_;refine Zeg (xs:=ws.map wD) rfl ?_;exists ·,⟨(),()⟩,?_,λi ys M'=>M=M'/\ys=(L.take i).map pD,λ_ _ _ _ _=>trivial,⟨rfl,rfl⟩,?_,?_
  .exact Zk (by show((ws.map wD).length:Int).toNat<=_;lia)
  .rintro i x ys _ hi rfl ⟨rfl,rfl⟩;let hi:i<ws.length:=by
    let:i<((ws.map wD).length:Int).toNat:=hi;lia
   exists ·,·,_,_,·,rfl,S0 (as:=tt) (j:=i) () (),·,·,_,_,·,rfl,S0 (f:=wD) (as:=ws) (j:=i) () hi,(show 2<=Cb by decide),rfl,?_;let ea:=az i () hi;rw[Jb ()]at ea;rw[Je (),Jf,Fz ea];rfl
  .rintro ys _ ⟨rfl,rfl⟩;let eL:L.take (Zhf 0 ((ws.map wD).length:Int).toNat).n=L:=by
    show L.take ((ws.map wD).length:Int).toNat=L;rw[Ja,G8,<-lz,Jw]
   rw[eL];exists ·,k0,2,rfl,hh,⟨nofun,nofun⟩,λz _ _=>.inl ⟨_,rfl,_,rfl,ite2 (λ_=>?_) (λ_=>?_)⟩
   .exists ·,·,·,rfl,·,?_;rw[<-Jb0];exact .inl (k L.reverse fr.rev ⟨by rw[List.length_reverse];exact fi.1,λp hp=>fi.2 p (List.mem_reverse.mp hp)⟩ (by rw[Jb0,sn];exact Jey _))
   .exists ·,.inl (k L fr fi (by rw[sn]))
theorem Ds(T:Txt mg)(Zi:Cal P w K mg base "_law_draw" 1 ["_law_hand","_law_many"] Ph){f:Addr}(F:Fun K "_law_text" "_law_text" F9 f fd):FnOk P w K mg base CX0 2 f fd ["_law_hand","_law_signs_here","_law_most"] Zmh:=by
 refine F.ok Jac (λvs H Q E h=>?_) (λcdv A outer s H vs Q E hr h=>?_)
 .let⟨p,a,sa,ss,m,rfl,_⟩:=h;rfl
 .let⟨p,a,sa,ss,m,rfl,hh,es,nsp,hm0,hm1,k⟩:=h;let SC:=Jac;let hu:=hr.units;let Zj:Room 1 _:=hr.mono nofun;refine⟨_,(Zc (Yu (Zz (Zh3 hu) (pv 1) (Yf Zb) (Z4 _))
 (Zf (Zu (Yf Zb)))
 Z0)
 (Zf (Zu (Yv (T:=["_law_k"]) (cs:=[1,0]) rfl (CScope.ok (by kernel_rfl)) (Yb rfl T.b_range (Za (Zt Zi Zj rfl (Za (pv 0) (Za (Zy Wv (pv 2) Ze) Zb))) Zb)) (λ_ _ _ _=>(Zn (i:=0) (Yw (by kernel_rfl)) rfl (Cg rfl) (C5 rfl))) (λ_ _ _ _=>Yo) (λ_ _ _ _=>(Yc (Zng (K:=K) rfl) (pv 1) (Zy Xe (Zt Zi Zj rfl (Za (pv 2) (Za Ze Zb))) (Zp (Yd (K:=K) rfl) (by rfl) T.b_len F6 (Za (pv 1) Zb))) (λ_ _=>rfl))) (Ym nofun))))),?_⟩
  exists ·,by show 0<=Cb;decide,λq0 hq0=>?_;let s1:=Zl (o:=.lst []) hq0;exists _,_,DV.lst (SqL.of (s1 _ _ es)) (U5 ss),DV.lst (SqL.of Zh) .nil,(Zdt ss).shaped nofun,(Zdt []).shaped nofun,·,?_;let h1:=hh.same s1;generalize upd H q0 (.lst [])=H1 at s1 h1;let en:C1 (.list (ss.map Kg)) (.list [])=decide (ss=[]):=Zp0 ss [];rw[en];let⟨_,ep⟩:=X5 hh;refine ite2 (λhz=>?_) (λhz=>?_)
  .exists by show 0<=Cb;decide,λq hq=>?_;let s2:=s1.trans (Zl (o:=.lst []) hq);let nq:q≠p:=Ee (Zq (s1 _ _ ep) hq);exact k q [] _ (s1.free hq) nq Zh (λ_ z=>nomatch z) (by simpa using hm0) (hh.same s2) (Grow.same s2)
  .let hne:ss≠[]:=Fm (Bk _ ▸ hz);exists ·,·,_,·,rfl,p,a,·,h1,(),(),λn0 H2 n00 n01 h2 g2 u2=>?_;let es2:=g2 _ _ (s1 _ _ es) nsp;exists n0,rfl,(),(),Vw (n:=n0.toNat) (λj ys H'=>∃ts:List Int,ys=ts.map V.int/\ts.length=j/\(∀t∈ts,t∈ss)/\HandAt H' p a/\Grow p H2 H') ⟨[],rfl,rfl,(λ_ z=>nomatch z),h2,Grow.refl _ _⟩ ?_ (Zk ()) ?_ ?_ ?_ ?_
   .rintro j ys H' ⟨ts,rfl,rfl,_⟩;rw[Ja];exact Jd _
   .rintro j ys H' hj _;exact hj
   .rintro ys H' _;exact Jd _
   .rintro j ys H3 hj ⟨ts,rfl,rfl,hm,h3,g3⟩ y H'' ⟨rfl,rfl⟩;exists ·,·,p,a,·,h3,nofun,nofun,λr H4 r0 r1 h4 g4 u4=>?_;let es4:=(g3.trans g4) _ _ es2 nsp;let⟨c,hc,hat⟩:=Zjw hne r;exists ·,_,·,.inl ⟨_,SqL.of es4,rfl⟩,_,·,rfl,?_,sa,_,_,·,rfl,SqL.of es4,hat,?_
    .rw[Ja];let:=Gi.mpr hne;lia
    exists ts++[c],by rw[Jf];rfl,by rw[Jc];rfl,λt ht=>?_,h4,g3.trans g4;rcases J9.mp ht with ht|ht
    .exact hm t ht
    .rw[Jg.mp ht];exact hc
   .rintro ys H3 ⟨ts,rfl,lt,hm,h3,g3⟩ q hq;let g:=((Grow.same s1).trans g2).trans g3;let⟨_,ep3⟩:=X5 h3;let nq:q≠p:=Ee (Zq ep3 hq);exact k q ts _ (g.free hq nq) nq Zh hm () (h3.same (Zl hq)) (g.trans (Grow.same (Zl hq)))
theorem Df(T:Txt mg){f:Addr}(F:Fun K "odds_between" "odds_between" W9 f fd):FnOk P w K mg base CX0 1 f fd ["one","other"] Zmi:=by
 refine F.ok Dm (λvs H Q E h=>?_) (λcdv A outer s H vs Q E hr h=>?_)
 .let⟨v1,v2,p,q,rfl,_⟩:=h;rfl
 .let⟨v1,v2,p,q,rfl,⟨t1,w1,rfl,a1,b1⟩,⟨t2,w2,rfl,a2,b2⟩,l1,l2,k⟩:=h;let SC:=Dm;let hu:=hr.units;refine⟨_,(Zc (Yu (Zz Zk9 (Yc T9 (pv 0) Ze (λ_ _=>rfl)) (Yc T9 (pv 1) Ze (λ_ _=>rfl)) (Z4 _))
 (Zf (Zu Qe))
 Z0)
 (Zc (Zr (i:=2) SC.nd rfl (Cg rfl) (Zp (Zjn rfl) (by rfl) T.b_min Kc (Za (Zp W4 (by rfl) T.b_len F6 (Za (Yc T9 (pv 0) Ze (λ_ _=>rfl)) Zb)) (Za (Zp W4 (by rfl) T.b_len F6 (Za (Yc T9 (pv 1) Ze (λ_ _=>rfl)) Zb)) Zb))))
 (Zc (Yu (Zz (Zh3 hu) (Z5 Zca (Yc T9 (pv 0) Ze (λ_ _=>rfl)) Ye (Z7 (pv 2))) (Z5 Zca (Yc T9 (pv 1) Ze (λ_ _=>rfl)) Ye (Z7 (pv 2))) (Z4 _))
 (Zf (Zu Qe))
 Z0)
 (Zf (Zu T5))))),?_⟩
  exists ·,t1,_,_,·,rfl,SqT.of a1,rfl,·,t2,_,_,·,rfl,SqT.of a2,rfl,rfl,·,?_;refine ite2 (λh=>?_) (λh=>?_)
  .let e:p.1=q.1:=by simpa using h
   let o:Zh6 p q=.str (Ci "twice"):=Fw e;let kk:=k H (.refl _);rw[o]at kk;exact kk
  .let e:¬ p.1=q.1:=by simpa using h
   refine⟨_,rfl,t1,_,_,_,rfl,rfl,SqT.of a1,rfl,_,_,rfl,.inr ⟨_,SqT.of b1,rfl⟩,_,rfl,t2,_,_,_,rfl,rfl,SqT.of a2,rfl,_,_,rfl,.inr ⟨_,SqT.of b2,rfl⟩,_,_,rfl,?_⟩;rw[Ja,Ja,Zpd];refine⟨_,rfl,t1,_,_,_,rfl,rfl,SqT.of a1,rfl,_,rfl,_,rfl,Zhj b1 (Jeg _) () λu1 H1 s1 e1=>⟨_,rfl,t2,_,_,_,rfl,rfl,SqT.of (s1 _ _ a2),rfl,_,rfl,_,rfl,Zhj (s1 _ _ b2) (Jeg _) () λu2 H2 s2 e2 =>
    ⟨_,_,DV.tup (SqT.of (s2 _ _ e1)) (U5 _),DV.tup (SqT.of e2) (U5 _),(Zat _).shaped nofun,(Zat _).shaped nofun,_,rfl,?_⟩⟩⟩
   rw[Zpz,G8];let kk:=k H2 (s1.trans s2);unfold Zh6 at kk;rw[Fv e]at kk;refine ite2 (λh=>?_) (λh=>?_)
   .rw[Fw (Fk h)]at kk;exact kk
   .rw[Fv (λz=>h (Fx z))]at kk;exact kk
theorem Jan(T:Txt mg)(Vg:Cal P w K mg base "odds_between" 1 ["one","other"] Zmi){f:Addr}(F:Fun K "fault" "fault" Zcc f fd):FnOk P w K mg base CX0 2 f fd ["table"] T3:=by
 refine F.ok Jaw (λvs H Q E h=>?_) (λcdv A outer s H vs Q E hr h=>?_)
 .let⟨a,L,rfl,_⟩:=h;rfl
 .let⟨a,L,rfl,⟨vs,ea,pa⟩,fr,⟨hl,hw⟩,k⟩:=h;let SC:=Jaw;let Qs:Room 1 _:=hr.mono nofun;let lv:=Paired.length pa;refine⟨_,(Zc (Y8 Cm rfl (Yb rfl T.b_range (Za (Zp W4 (by rfl) T.b_len F6 (Za (pv 0) Zb)) Zb)) (Zn (i:=1) SC.nd rfl (Cg rfl))
 (Zf (Y8 Cm rfl (Yb rfl T.b_range (Za (pv 1) Zb)) (Zn (i:=2) SC.nd rfl (Cg rfl))
 (Zc (Zr (i:=3) SC.nd rfl (Cg rfl) (Zt Vg Qs rfl (Za (Yc Xl (pv 0) (pv 2) (λ_ _=>rfl)) (Za (Yc Xl (pv 0) (pv 1) (λ_ _=>rfl)) Zb))))
 (Zf (Yu (Wl (Sq (pv 3)))
 (Zf (Zu (Xd (Za (pv 3) (Za (pv 2) (Za (pv 1) Zb))))))
 Z0))))))
 (Zf (Zu T5))),?_⟩
  exists ·,_,·,.inl ⟨_,SqL.of ea,rfl⟩,(vs.length:Int),rfl,(),(),Sd (n:=vs.length) (λj σ H'=>∃v1 v2 v3,σ=[some (.ref a),v1,v2,v3]/\Same H H') ⟨_,_,_,rfl,.refl _⟩ ?_ ?_
  .rintro j σ H1 hj ⟨v1,v2,v3,rfl,s1⟩;exists ·,(0+(j:Int)),rfl,(),(),Sd (n:=(0+(j:Int)).toNat) (λi σ H'=>∃v2 v3,σ=[some (.ref a),some (.int (0+(j:Int))),v2,v3]/\Same H H') ⟨_,_,rfl,s1⟩ ?_ ?_
   .rintro i σ H2 hi ⟨v2,v3,rfl,s2⟩;let hij:i<j:=by lia
    let h1:=Paired.at pa (i:=i) () ();let h2:=Paired.at pa (i:=j) hj ();exists ·,·,a,_,_,·,rfl,SqL.of (s2 _ _ ea),(Zjx (Jb (by lia:i<vs.length))),·,·,a,_,_,·,rfl,SqL.of (s2 _ _ ea),(Zjx (Jb hj)),_,_,_,·,h1.tk s2.tk,h2.tk s2.tk,?_,?_,λH3 s3=>?_
    .exact Jy (hw _ (Jn _)).2 nofun
    .exact Jy (hw _ (Jn _)).2 nofun
    .rw[Ze9 (fr.get () () hij)];exists ·,·,Zth rfl ?_;exists _,·,s2.trans s3
   .rintro σ H2 ⟨v2,v3,rfl,s2⟩;exists _,_,·,s2
  .rintro σ H1 ⟨v1,v2,v3,rfl,s1⟩;exact k H1 s1
def Jba(T:Txt mg)(Zdj:Cal P w K mg base "fault" 2 ["table"] T3){f:Addr}(F:Fun K "refuse_fault" "refuse_fault" W8 f fd):FnOk P w K mg base CX0 3 f fd ["table"] T3:=by
 refine F.ok Jcf (λvs H Q E h=>?_) (λcdv A outer s H vs Q E hr h=>?_)
 .let⟨a,L,rfl,_⟩:=h;rfl
 .let⟨a,L,rfl,ta,fr,fi,k⟩:=h;let SC:=Jcf;let Zln:Room 2 _:=hr.mono nofun;refine⟨_,(Zc (Zr (i:=1) SC.nd rfl (Cg rfl) (Zt Zdj Zln rfl (Za (pv 0) Zb)))
 (Zc (Yu (Wl (Qh (pv 1)))
 (Zf Zov)
 Z0)
 (Zc (Yu (Zz Zk9 (Yc T9 (pv 1) Ze (λ_ _=>rfl)) Qe (Z4 _))
 (Zf Zd4)
 Z0)
 (Zf Zd4)))),?_⟩
  exists ·,a,L,rfl,ta,fr,fi,λH1 s1=>?_;exists ·,·,iteT (k H1 s1)
theorem D4(T:Txt mg){f:Addr}(F:Fun K "beginnings" "beginnings" V3 f fd):FnOk P w K mg base CX0 1 f fd ["words"] Zgv:=by
 refine F.ok Jcg (λvs H Q E h=>?_) (λcdv A outer s H vs Q E hr h=>?_)
 .let⟨a,vws,ws,rfl,_⟩:=h;rfl
 .let⟨a,vws,ws,rfl,ea,pa,hl,hw,k⟩:=h;let SC:=Jcg;let hu1:=Xv hr;let lv:=Paired.length pa;refine⟨_,(Zc (Zr (i:=1) SC.nd rfl (Cg rfl) Zk8)
 (Zc (Y8 Cm rfl (Z8 (pv 0)) (Zn (i:=2) SC.nd rfl (Cg rfl))
 (Zf (Y8 Cm rfl (Yb rfl T.b_range (Za (Zp W4 (by rfl) T.b_len F6 (Za (pv 2) Zb)) Zb)) (Zn (i:=3) SC.nd rfl (Cg rfl))
 (Zf (Zcj hu1 (pv 1) (Z5 Zrz (pv 2) Ye (Z7 (pv 3))) Tc rfl)))))
 (Zf (Zu (pv 1))))),?_⟩
  refine λd hd=>?_;let nad:a≠d:=Zq ea hd;let ea1:(upd H d (.dT [])) a=some (.lst vws):=by rw[Zo nad];exact ea
  refine⟨_,rfl,a,rfl,⟨_,SqL.of ea1⟩,Zlt (xs:=vws) (λi σ H'=>∃v2 v3 kvs,σ=[some (.ref a),some (.ref d),v2,v3]/\(∀b o,H b=some o->H' b=some o)/\H' d=some (.dT kvs)/\kvs.length<=8*i/\Ra kvs (ws.take i) [] 0)
   ⟨_,_,[],rfl,Zl hd,Zh,Jd _,by rw[Bu];exact Ra.nil _⟩ ?_ ?_ ?_⟩
  .rintro i σ H1 hi ⟨v2,v3,kvs,rfl,s1,ed,hk,hb⟩;exact SqL.of (s1 _ _ ea)
  .rintro i x σ H1 hx ⟨v2,v3,kvs,rfl,s1,ed,hk,hb⟩;let hi:i<vws.length:=(Jj.mp hx).1;let hi2:i<ws.length:=by lia
   let⟨tw,ex,ew⟩:=Paired.at pa hi hi2;let ex2:x=V.ref tw:=by rw[<-ex];exact(Jj.mp hx).2.symm
   subst ex2;let hwl:ws[i].length<=4:=hw _ (Jn hi2);let en:(((ws[i].map V.int).length:Nat):Int).toNat=ws[i].length:=by rw[Ja];exact G8 _
   refine⟨_,rfl,_,_,rfl,.inr ⟨_,SqT.of (s1 _ _ ew),rfl⟩,(((ws[i].map V.int).length:Nat):Int),rfl,by rw[Ja];lia,by rw[Ja];lia,
    Sd (n:=(((ws[i].map V.int).length:Nat):Int).toNat) (λn σ H'=>∃v3 kvs,σ=[some (.ref a),some (.ref d),some (.ref tw),v3]/\(∀b o,H b=some o->H' b=some o)/\H' d=some (.dT kvs)/\kvs.length<=8*i+n/\Ra kvs (ws.take i) ws[i] n) ⟨_,kvs,rfl,s1,ed,hk,?_⟩ ?_ ?_⟩
   .intro u;rw[hb u];refine decide_eq_decide.mpr ⟨λz=>?_,λz=>?_⟩
    .rcases z with z|⟨_,z⟩
     .exact .inl z
     .exact Fl z (Gp _)
    .rcases z with z|⟨_,z⟩
     .exact .inl z
     .exact Fl z (Gp _)
   .rintro n σ H2 hn ⟨v3,kvs2,rfl,s2,ed2,hk2,hb2⟩;rw[en]at hn;let hcut:cutV (ws[i].map V.int) none (some (0+(n:Int)))=(wk (ws[i].take n)).map kV:=by
     rw[Zc9 _ () (),Znj]
     congr 2
     lia
    exists ·,·,·,·,tw,·,SqT.of (s2 _ _ ew),?_,λp hp=>?_
    .rintro⟨_,z⟩;rw[show(some (0+(n:Int)))=some ((n:Nat):Int)by congr 1;lia,HT.sIx_nat,Ja]at z;lia
    .rw[hcut];let npd:d≠p:=Zq ed2 hp;let hz:kvs2.length<Cb:=G4 (Jy hk2 ()) (show 1000<Cb by decide);exists d,·,DPut.t (k:=wk (ws[i].take n)) (by rw[Zo npd];exact ed2) Zh hz,?_;exists _,·,λb o e=>?_,Zh,?_,hb2.put (Bp hn)
     .let nb:b≠d:=Zq e hd;rw[Zo nb];exact Zl hp b o (s2 b o e)
     .let:=Y9 kvs2 (wk (ws[i].take n)) (V.bl true);lia
   .rintro σ H2 ⟨v3,kvs2,rfl,s2,ed2,hk2,hb2⟩;rw[en]at hk2 hb2;exists _,_,kvs2,rfl,s2,ed2,(),?_;rw[Je hi2];exact hb2.next _
  .rintro σ H1 ⟨v2,v3,kvs,rfl,s1,ed,hk,hb⟩;exists ·,k d kvs H1 s1 hd ed ?_;rw[lv,Jw]at hb;exact hb.done
abbrev lamQ:Str:=Ci "Code.__init__"++".<locals>."++"<lambda>"
abbrev lamP:Pos:=⟨143,45,143,65⟩
structure CodeT(K:Cr)(C:Addr):Prop where
 cl:Cls K C
 n_pairs:Yp K C "pairs"
 n_words_by_sign:Yp K C "words_by_sign"
 n_signs_by_word:Yp K C "signs_by_word"
 n_begun:Yp K C "begun"
 n_word_sizes:Yp K C "word_sizes"
structure St5(C Pt:Addr)(H Hc:Hp)(x dx tp:Addr)(fs:List (Str×V))(M:List PK3)(D:List (Addr×HO)):Prop where
 g:∀b o,b≠x->b≠Pt->H b=some o->Hc b=some o
 tb:Ve Pt lamP lamQ Hc
 ex:Hc x=some (.ins C dx fs)
 etp:Hc tp=some (.tup (M.map (·.v)))
 at_:∀e∈M,e.At Hc
 d:∀p∈D,Hc p.1=some p.2
 n:∀p∈D,∀a b c,p.2≠.ins a b c
abbrev fl1(t:Addr):List (Str×V):=[("pairs",.ref t)]
abbrev fl2(t a:Addr):List (Str×V):=[("pairs",.ref t),("words_by_sign",.ref a)]
abbrev fl3(t a b:Addr):List (Str×V):=[("pairs",.ref t),("words_by_sign",.ref a),("signs_by_word",.ref b)]
abbrev fl4(t a b c:Addr):List (Str×V):=[("pairs",.ref t),("words_by_sign",.ref a),("signs_by_word",.ref b),("begun",.ref c)]
abbrev fl5(t a b c d:Addr):List (Str×V):=[("pairs",.ref t),("words_by_sign",.ref a),("signs_by_word",.ref b),("begun",.ref c),("word_sizes",.ref d)]
section
variable{Hc:Hp}{x tp:Addr}{fs:List (Str×V)}{M:List PK3}{D:List (Addr×HO)}
def St5.same{Hn:Hp}(h:St5 C Pt H Hc x dx tp fs M D)(s:Same Hc Hn):St5 C Pt H Hn x dx tp fs M D :=
 ⟨λb o n1 n2 e=>s _ _ (h.g b o n1 n2 e),h.tb.same s,s _ _ h.ex,s _ _ h.etp,λe he=>(h.at_ e he).tk s.tk,λp hp=>s _ _ (h.d p hp),h.n⟩
def St5.put(h:St5 C Pt H Hc x dx tp fs M D){q:Addr}(e:Hc q=some o)(n:∀a b c,o≠.ins a b c):St5 C Pt H Hc x dx tp fs M ((q,o)::D) :=
 ⟨h.g,h.tb,h.ex,h.etp,h.at_,λ_ hp=>(Jt.mp hp).elim (λz=>by rw[z];exact e) (h.d _),λ_ hp=>(Jt.mp hp).elim (λz=>by rw[z];exact n) (h.n _)⟩
def St5.fld{fs':List (Str×V)}(h:St5 C Pt H Hc x dx tp fs M D):St5 C Pt H (upd Hc x (.ins C dx fs')) x dx tp fs' M D:=by
 let gr:Grow x Hc (upd Hc x (.ins C dx fs')):=λb o e n=>by rw[Zo n];exact e
 exists λb o n1 n2 e=>gr _ _ (h.g b o n1 n2 e) n1,h.tb.grow h.ex gr,Zh,gr _ _ h.etp (Rj h.etp h.ex λz=>by cases z),λe he=>(h.at_ e he).tk (gr.tkI h.ex),λp hp=>gr _ _ (h.d p hp) (Rj (h.d p hp) h.ex (h.n p hp _ _ _)),h.n
theorem St5.new(h:St5 C Pt H Hc x dx tp fs M D){d:Addr}(hd:Hc d=none):H d=none:=by
 cases e:H d with
 |none=>rfl
 |some o =>
  let⟨ps,eP,_⟩:=h.tb;rw[h.g d o (λz=>by rw[z,h.ex]at hd;cases hd) (λz=>by rw[z,eP]at hd;cases hd) e]at hd;cases hd
end
theorem Ss{α γ:Type}{F:α->β->Prop}{f:γ->α}{g:γ->β}:∀{M:List γ},(∀e∈M,F (f e) (g e))->Paired F (M.map f) (M.map g)
 |[],_=>.nil
 |e::r,h=>.cons (h e Jl) (Ss λx hx=>h x (Jk _ hx))
theorem Sr{α γ δ:Type}{F:α->γ->Prop}{G:β->δ->Prop}{f:α->β}{g:γ->δ}(h:∀a c,F a c->G (f a) (g c)):∀{l:List α}{m:List γ},Paired F l m->Paired G (l.map f) (m.map g):=by
 intro _ _ hz9;cases hz9 with
 |nil=>
  exact .nil
 |cons a r=>
  exact .cons (h _ _ a) (Sr h r)
theorem Jaz(T:Txt mg){c:Addr}(CT:CodeT K C)(hCd:W.CodeHd base c Pt)(hBm:Bm mg base)(Vf:Cal P w K mg base "refuse_fault" 3 ["table"] T3)(Ur:Cal P w K mg base "beginnings" 1 ["words"] Zgv){f:Addr}{oc:Ca}{od an:Option Addr}{osl:Array (Option Ca)}{kW doc pm ct:Ca}(lk:K.lookup f=some ⟨oc,od,.func (Lc "__init__" "Code.__init__" (Y4 Z3) (Yi Z3) (Zg Z3) .none kW doc pm an (.ref c) ct),osl⟩)(hcd:Ln K (.ref c) "Code.__init__"=true) :
  FnOk P w K mg base CX0 4 f (Lc "__init__" "Code.__init__" (Y4 Z3) (Yi Z3) (Zg Z3) .none kW doc pm an (.ref c) ct) ["self","table"] (Nd C Pt lamP lamQ):=by
 refine Fun.okC lk hcd D3 (λvs H Q E h=>?_) (λA outer s H vs Q E hr h=>?_)
 .let⟨x,a,dx,L,rfl,_⟩:=h;rfl
 .let⟨x,a,dx,L,rfl,ex,⟨vs,ea,pa⟩,fr,⟨hl,hw⟩,tb,k⟩:=h;let SC:=D3;let Qr:Room 3 _:=hr.mono nofun;let Nw:Room 1 _:=hr.mono nofun;let Ziu:Room 3 _:=hr.mono nofun;let Zcy:Room 3 _:=hr.mono nofun;let hcode:(cxOf CX0 P w K mg base ["self","table"] "Code.__init__" (Zg Z3) f (.ref c) A outer s H E).nox.env.code=.ref c:=rfl;refine⟨_,(Zc (Wu (Zt Vf Qr rfl (Za (pv 1) Zb)))
 (Zc (Qc (pv 0) (Z2 Vx (by rfl) T.b_tuple Ec (Za (Zk3 Ziu rfl T.b_sorted (Za (pv 1) Zb) hcode hCd hBm rfl rfl (by rfl') (λ_ _ _ _=>rfl) (λ_ _ _ _ _ _=>(Yc (Zt7 (K:=K) rfl) (pv 0) Ze (λ_ _=>rfl)))) Zb)) rfl)
 (Zc (Qc (pv 0) (Z2 (Uj Zcy rfl) (by rfl) T.b_dict K4 (Za (Xx (pv 0) rfl) Zb)) rfl)
 (Zc (Qc (pv 0) (Z2 (Uj Zcy rfl) (by rfl) T.b_dict K4 (Za (Yv (T:=["sign","word"]) (cs:=[]) rfl (CScope.ok (by kernel_rfl)) (Zd5 (Xx (pv 0) rfl)) (λ_ _ _ _=>(Wm (n:=2) rfl (Zw (Zn (i:=0) (Yw (by kernel_rfl)) rfl (Cg rfl) (C5 rfl)) (Zw (Zn (i:=1) (Yw (by kernel_rfl)) rfl (Cg rfl) (C5 rfl)) Xf)) (by rfl))) (λ_ _ _ _=>Yo) (λ_ _ _ _=>(Xd (Za (pv 1) (Za (pv 0) Zb)))) (Sc (Yl nofun (Yl nofun Vu)))) Zb)) rfl)
 (Zc (Qc (pv 0) (Zt Ur Nw rfl (Za (Yv (T:=["sign","word"]) (cs:=[]) rfl (CScope.ok (by kernel_rfl)) (Zd5 (Xx (pv 0) rfl)) (λ_ _ _ _=>(Wm (n:=2) rfl (Zw (Zn (i:=0) (Yw (by kernel_rfl)) rfl (Cg rfl) (C5 rfl)) (Zw (Zn (i:=1) (Yw (by kernel_rfl)) rfl (Cg rfl) (C5 rfl)) Xf)) (by rfl))) (λ_ _ _ _=>Yo) (λ_ _ _ _=>(pv 1)) (Sc (Yl nofun (Yl nofun Vu)))) Zb)) rfl)
 (Zf (Qc (pv 0) (Z2 Vx (by rfl) T.b_tuple Ec (Za (Zp (Zfo rfl) (by rfl) T.b_sorted Ms (Za (Z2 (Uj Zcy rfl) (by rfl) T.b_dict K4 (Za (Yv (T:=["sign","word"]) (cs:=[]) rfl (CScope.ok (by kernel_rfl)) (Zd5 (Xx (pv 0) rfl)) (λ_ _ _ _=>(Wm (n:=2) rfl (Zw (Zn (i:=0) (Yw (by kernel_rfl)) rfl (Cg rfl) (C5 rfl)) (Zw (Zn (i:=1) (Yw (by kernel_rfl)) rfl (Cg rfl) (C5 rfl)) Xf)) (by rfl))) (λ_ _ _ _=>Yo) (λ_ _ _ _=>(Xd (Za (Zp (Yd (K:=K) rfl) (by rfl) T.b_len F6 (Za (pv 1) Zb)) (Za Tc Zb)))) (Sc (Yl nofun (Yl nofun Vu)))) Zb)) Zb)) Zb)) rfl))))))),?_⟩
  exists ·,a,L,rfl,⟨vs,ea,pa⟩,fr,⟨hl,hw⟩,λH1 s1=>?_;let⟨M,m1,m2,m3⟩:=Zmy (pa.tk s1.tk);let⟨ps,hP,_,_⟩:=id tb;let hP1:=s1 _ _ hP;let lM:M.length=L.length:=by rw[<-m2,Ja]
  exists ·,a,M.map PK3.k,rfl,?_,?_,?_,?_,tb.same s1,?_,λH2 D L' sT T2 hD pm pw=>?_
  .let e1:(M.map PK3.k).map (·.1)=vs:=by rw[Gh,<-m1];rfl
   rw[e1];exact SqL.of (s1 _ _ ea)
  .rw[Ja];lia
  .intro q hq;let⟨e,he,rfl⟩:=Jh.mp hq;let⟨t,_,_,cw⟩:=m3 e he;exists SqT.of cw,(hw e.p (by rw[<-m2];exact Jh.mpr ⟨e,he,rfl⟩)).1
  .let e1:(M.map PK3.k).map (·.2.2)=L.map (·.2):=by rw[Gh,<-m2,Gh];rfl
   rw[e1];exact Gm.mpr (fr.imp λ{a b}z e=>z.2.1 (by rw[e];exact Ji _))
  .intro H2 q sT hq;let⟨e,he,rfl⟩:=Jh.mp hq;let⟨t,ev,b,_⟩:=m3 e he;exists e.v,rfl,t,_,1,_,ev,rfl,SqT.of (sT _ _ (Rj b hP1 λz=>by cases z) b),rfl,rfl,rfl
  .let⟨M',pM,rfl⟩:=Zhr pm rfl;let xP:x≠Pt:=Rj ex hP λz=>by cases z
   let ex2:H2 x=some (.ins C dx []):=sT _ _ xP (s1 _ _ ex);let at2:∀e∈M',e.At H2:=λe he=>(m3 e (pM.mem_iff.mp he)).tk (sT.tk hP1);let vv:(M'.map PK3.k).map (·.1)=M'.map (·.v):=by rw[Gh];rfl
   let hS:(M'.map (·.p)).Perm L:=by have:=pM.map (·.p);rw[m2]at this;exact this
   let lM':M'.length<64:=by have:=hS.length_eq;rw[Ja]at this;lia
   let hpL:∀e∈M',e.p∈L:=λe he=>hS.mem_iff.mp (Jh.mpr ⟨e,he,rfl⟩);let hri:Zab (M'.map (·.p)):=Gm.mpr ((Gm.mp pw).imp λz=>z);refine⟨_,_,rfl,.inl ⟨SqL.of Zh,λtp htp=>?_⟩⟩;rw[vv];rw[vv]at htp;let sA:Same H2 (upd (upd H2 D (.lst (M'.map (·.v)))) tp (.tup (M'.map (·.v)))):=(Zl hD).trans (Zl htp);let S3:St5 C Pt H (upd (upd H2 D (.lst (M'.map (·.v)))) tp (.tup (M'.map (·.v)))) x dx tp [] M' [] :=
    ⟨λb o n1 n2 e=>sA _ _ (sT _ _ n2 (s1 _ _ e)),T2.same sA,sA _ _ ex2,Zh,λe he=>(at2 e he).tk sA.tk,(λ_ h=>nomatch h),λ_ h=>nomatch h⟩
   generalize upd (upd H2 D (.lst (M'.map (·.v)))) tp (.tup (M'.map (·.v)))=H3 at S3;exists ·,x,C,dx,[],rfl,S3.ex,CT.cl,CT.n_pairs,nofun,?_;let S4:=S3.fld (fs':=(fl1 tp));show tSeq _ _ _ _ (upd H3 x (.ins C dx (fl1 tp)));generalize upd H3 x (.ins C dx (fl1 tp))=H4 at S4;exists ·,x,C,dx,_,·,S4.ex,CT.cl,CT.n_pairs,rfl,tp,_,(M'.map λe=>((Eu e.p.1:Key),V.ref e.tw)).map (λz=>(kV z.1,z.2)),.dK [],rfl,.inr S4.etp,?_,.inl rfl,λd1 hd1=>⟨_,Zc7 _ [] ?_,?_⟩
   .rw[Gh];exact Ss λe he=>by
     let⟨t,ev,b,_⟩:=S4.at_ e he;exists t,ev,SqT.of b
   .rw[Bo,Ja];exact Ga (by lia:0+M'.length<64) (show 64<=Cb by decide)
   let nd1:=S4.new hd1;let ndS:(M'.map λe=>((Eu e.p.1:Key))).Nodup:=by
    let h1:(L.map (·.1)).Nodup:=Gm.mpr (fr.imp λ{a b}z=>z.1);let h2:((M'.map (·.p)).map (·.1)).Nodup:=(hS.map (·.1)).nodup_iff.mpr h1;rw[Gh]at h2;exact Gm.mpr ((Gm.mp h2).imp λz e=>z (Jdq e))
   let wb:∀Hx:Hp,(∀e∈M',e.At Hx)->Zf1 Hx (Ug [] (M'.map λe=>((Eu e.p.1:Key),V.ref e.tw))) (M'.map (·.p)):=λHx ax=>by
    exists λp hp=>?_,λsg hsg=>?_
    .let⟨e,he,rfl⟩:=Jh.mp hp;let⟨t,_,_,cw⟩:=ax e he;exists e.tw,Q0 _ _ (by rw[Gh];exact ndS) (Jh.mpr ⟨e,he,rfl⟩),cw
    .rw[Se _ _ λz hz=>?_]
     .rfl
     .let⟨e,he,rfl⟩:=Jh.mp hz;exact λq=>hsg e.p (Jh.mpr ⟨e,he,rfl⟩) (Jdq q)
   generalize Ug [] (M'.map λe=>((Eu e.p.1:Key),V.ref e.tw))=kA at wb⊢;let S5:=(S4.same (Zl (o:=.dK kA) hd1)).put Zh λ_ _ _ z=>nomatch z;generalize upd H4 d1 (.dK kA)=H5 at S5;exists ·,x,C,dx,·,S5.ex,CT.cl,CT.n_words_by_sign,(by show 1<1000;decide),?_;let S6:=S5.fld (fs':=(fl2 tp d1));show tSeq _ _ _ _ (upd H5 x (.ins C dx (fl2 tp d1)));generalize upd H5 x (.ins C dx (fl2 tp d1))=H6 at S6;let go6:∀(Hx:Hp)(i:Nat),Hx tp=some (.tup (M'.map (·.v)))->i<M'.length->(Itt K tp).go i Hx:=λHx i e hi=>⟨_,_,SqT.of e,Jb (by rw[Ja];exact hi)⟩;let stop6:∀Hx:Hp,Hx tp=some (.tup (M'.map (·.v)))->(Itt K tp).stop M'.length Hx:=λHx e=>⟨_,SqT.of e,by rw[Ja];exact Jd _⟩
   let yld6:∀(Hx:Hp)(i:Nat)(y:V)(H':Hp)(hi:i<M'.length),Hx tp=some (.tup (M'.map (·.v)))->(Itt K tp).yld i Hx y H'->H'=Hx/\y=M'[i].v:=λHx i y H' hi e z=>by
    exists z.1,?_;let:=z.2 _ (SqT.of e);rw[Jq,Jb hi]at this;exact(Fz this).symm
   refine⟨_,rfl,x,C,dx,_,_,rfl,S6.ex,CT.cl,CT.n_pairs,rfl,tp,rfl,⟨_,SqT.of S6.etp⟩,Vw (n:=M'.length)
    (λj ys Hn=>∃ts:List Addr,ys=ts.map V.ref/\ts.length=j/\Same H6 Hn/\Paired (λt(e:PK3)=>Hn t=some (.tup [.ref e.tw,.int e.p.1])) ts (M'.take j)) ⟨[],rfl,rfl,.refl _,by rw[Bu];exact .nil⟩ ?_ (Zk ()) ?_ ?_ ?_ ?_⟩
   .rintro j ys Hn ⟨ts,rfl,rfl,_⟩;rw[Ja];exact Jd _
   .rintro j ys Hn hj ⟨ts,rfl,rfl,sn,_⟩;exact go6 _ _ (sn _ _ S6.etp) hj
   .rintro ys Hn ⟨ts,rfl,_,sn,_⟩;exact stop6 _ (sn _ _ S6.etp)
   .rintro j ys Hn hj ⟨ts,rfl,rfl,sn,pn⟩ y H' hy;let⟨rfl,rfl⟩:=yld6 _ _ _ _ hj (sn _ _ S6.etp) hy;let⟨t,ev,b,cw⟩:=(S6.at_ _ (Jn hj)).tk sn.tk;exists t,_,ev,SqT.of b,rfl,_,·,_,·,rfl,?_;exists ·,·,by show 2<=Cb;decide,λq hq=>?_;exists ts++[q],by rw[Jf];rfl,by rw[Jc];rfl,sn.trans (Zl hq),?_;rw[Je hj];refine L2.Paired.snoc ?_ ?_
    .exact Zh
    .exact L2.Paired.mapP pn λ_ _ z=>Zl hq _ _ z
   .rintro ys Hn ⟨ts,rfl,lt,sn,pn⟩ q hq;rw[Jw]at pn;let sq:=sn.trans (Zl (o:=.lst (ts.map V.ref)) hq);let pn':=Paired.mapP pn λ_ _ z=>Zl (o:=.lst (ts.map V.ref)) hq _ _ z;let eq:(upd Hn q (.lst (ts.map V.ref))) q=_:=Zh;let S7:=S6.same sq;generalize upd Hn q (.lst (ts.map V.ref))=H7 at S7 pn' eq;exists q,_,(M'.map λe=>(e.tw,wk e.p.2,V.int e.p.1)).map (λz=>(.ref z.1,z.2.2)),.dT [],rfl,.inl eq,?_,.inr rfl,λd2 hd2=>⟨_,Zi7 hd2 _ [] ?_ ?_,?_⟩
    .rw[Gh];exact Sr (λt e z=>⟨t,rfl,SqT.of z⟩) pn'
    .rw[Bo,Ja];exact Ga (by lia:0+M'.length<64) (show 64<=Cb by decide)
    .intro z hz;let⟨e,he,rfl⟩:=Jh.mp hz;let⟨t,_,_,cw⟩:=S7.at_ e he;show H7 e.tw=some (.tup ((wk e.p.2).map kV));rw[Znj];exact cw
    rw[Gh];let ndW:(M'.map λe=>wk e.p.2).Nodup:=by
     let h1:(L.map (·.2)).Nodup:=Gm.mpr (fr.imp λ{a b}z e=>z.2.1 (by rw[e];exact Ji _));let h2:((M'.map (·.p)).map (·.2)).Nodup:=(hS.map (·.2)).nodup_iff.mpr h1;rw[Gh]at h2;exact Gm.mpr ((Gm.mp h2).imp λz e=>z (Zdl e))
    let sb:Zg0 (Ug [] (M'.map λe=>(wk e.p.2,V.int e.p.1))) (M'.map (·.p)):=by
     exists λp hp=>?_,λu hu=>?_
     .let⟨e,he,rfl⟩:=Jh.mp hp;exact Q0 _ _ (by rw[Gh];exact ndW) (Jh.mpr ⟨e,he,rfl⟩)
     .rw[Se _ _ λz hz=>?_]
      .rfl
      .let⟨e,he,rfl⟩:=Jh.mp hz;exact λq=>hu e.p (Jh.mpr ⟨e,he,rfl⟩) (Zdl q)
    let nd2:=S7.new hd2;show tVar 0 _ (upd H7 d2 (.dT (Ug [] (M'.map λe=>(wk e.p.2,V.int e.p.1))))) _;generalize Ug [] (M'.map λe=>(wk e.p.2,V.int e.p.1))=kB at sb⊢;let S8:=(S7.same (Zl (o:=.dT kB) hd2)).put Zh λ_ _ _ z=>nomatch z;generalize upd H7 d2 (.dT kB)=H8 at S8;refine⟨_,rfl,x,C,dx,_,rfl,S8.ex,CT.cl,CT.n_signs_by_word,(by show 2<1000;decide),?_⟩;let S9:=S8.fld (fs':=(fl3 tp d1 d2));show tSeq _ _ _ _ (upd H8 x (.ins C dx (fl3 tp d1 d2)));generalize upd H8 x (.ins C dx (fl3 tp d1 d2))=H9 at S9;refine⟨_,rfl,x,C,dx,_,_,rfl,S9.ex,CT.cl,CT.n_pairs,rfl,tp,rfl,⟨_,SqT.of S9.etp⟩,Vw (n:=M'.length)
     (λj ys Hn=>ys=(M'.take j).map (λe=>V.ref e.tw)/\Hn=H9) ⟨by rw[Bu];rfl,rfl⟩ ?_ (Zk ()) ?_ ?_ ?_ ?_⟩
    .rintro j ys Hn ⟨rfl,rfl⟩;rw[Ja,J8];exact Nat.min_le_left _ _
    .rintro j ys Hn hj ⟨rfl,rfl⟩;exact go6 _ _ S9.etp hj
    .rintro ys Hn ⟨rfl,rfl⟩;exact stop6 _ S9.etp
    .rintro j ys Hn hj ⟨rfl,rfl⟩ y H' hy;let⟨rfl,rfl⟩:=yld6 _ _ _ _ hj S9.etp hy;let⟨t,ev,b,cw⟩:=S9.at_ _ (Jn hj);exists t,_,ev,SqT.of b,rfl,_,·,_,·,rfl,?_;exists ·,?_,rfl;rw[Je hj,Jf];rfl
    .rintro ys Hn ⟨rfl,rfl⟩ q2 hq2;rw[Jw];let sq2:=Zl (o:=.lst (M'.map λe=>V.ref e.tw)) hq2;let eq2:(upd Hn q2 (.lst (M'.map λe=>V.ref e.tw))) q2=_:=Zh;let S10:=S9.same sq2;generalize upd Hn q2 (.lst (M'.map λe=>V.ref e.tw))=H10 at S10 eq2;exists q2,_,M'.map (·.p.2),rfl,eq2,Ss λe he=>?_,by rw[Ja];exact lM',?_,λd3 k3 H11 s11 nd3 ed3 hb3=>?_
     .let⟨t,_,_,cw⟩:=S10.at_ e he;exists ·,cw
     .intro u hu;let⟨e,he,rfl⟩:=Jh.mp hu;exact(hw _ (hpL e he)).2
     let nd3':=S10.new nd3;let S11:=(S10.same s11).put ed3 λ_ _ _ z=>nomatch z;exists ·,x,C,dx,·,S11.ex,CT.cl,CT.n_begun,(by show 3<1000;decide),?_;let S12:=S11.fld (fs':=(fl4 tp d1 d2 d3));let pf:putF (Ci "begun") (V.ref d3) (fl3 tp d1 d2)=((fl4 tp d1 d2 d3):List (Str×V)):=by rfl
     rw[pf];generalize upd H11 x (.ins C dx (fl4 tp d1 d2 d3))=H12 at S12;refine⟨_,rfl,x,C,dx,_,_,rfl,S12.ex,CT.cl,CT.n_pairs,rfl,tp,rfl,⟨_,SqT.of S12.etp⟩,Vw (n:=M'.length)
      (λj ys Hn=>∃ts:List Addr,ys=ts.map V.ref/\ts.length=j/\Same H12 Hn/\Paired (λt(e:PK3)=>Hn t=some (.tup [.int (e.p.2.length:Int),.bl true])) ts (M'.take j)) ⟨[],rfl,rfl,.refl _,by rw[Bu];exact .nil⟩ ?_ (Zk ()) ?_ ?_ ?_ ?_⟩
     .rintro j ys Hn ⟨ts,rfl,rfl,_⟩;rw[Ja];exact Jd _
     .rintro j ys Hn hj ⟨ts,rfl,rfl,sn,_⟩;exact go6 _ _ (sn _ _ S12.etp) hj
     .rintro ys Hn ⟨ts,rfl,_,sn,_⟩;exact stop6 _ (sn _ _ S12.etp)
     .rintro j ys Hn hj ⟨ts,rfl,rfl,sn,pn⟩ y H' hy;let⟨rfl,rfl⟩:=yld6 _ _ _ _ hj (sn _ _ S12.etp) hy;let⟨t,ev,b,cw⟩:=(S12.at_ _ (Jn hj)).tk sn.tk;exists t,_,ev,SqT.of b,rfl,_,·,_,·,rfl,?_;exists ·,_,·,.inr ⟨_,SqT.of cw,rfl⟩,by show 2<=Cb;decide,λq hq=>?_;exists ts++[q],by rw[Jf];rfl,by rw[Jc];rfl,sn.trans (Zl hq),?_;rw[Je hj];refine L2.Paired.snoc ?_ ?_
      .rw[Ja];exact Zh
      .exact L2.Paired.mapP pn λ_ _ z=>Zl hq _ _ z
     .rintro ys Hn ⟨ts,rfl,lt,sn,pn⟩ q3 hq3;rw[Jw]at pn;let sq3:=sn.trans (Zl (o:=.lst (ts.map V.ref)) hq3);let pn':=Paired.mapP pn λ_ _ z=>Zl (o:=.lst (ts.map V.ref)) hq3 _ _ z;let eq3:(upd Hn q3 (.lst (ts.map V.ref))) q3=_:=Zh;let S13:=S12.same sq3;generalize upd Hn q3 (.lst (ts.map V.ref))=H13 at S13 pn' eq3;exists q3,_,((M'.map λe=>(e.p.2.length:Int)).map λz=>((Eu z:Key),V.bl true)).map (λz=>(kV z.1,z.2)),.dK [],rfl,.inl eq3,?_,.inl rfl,λd5 hd5=>⟨_,Zc7 _ [] ?_,?_⟩
      .rw[Gh,Gh];exact Sr (λt e z=>⟨t,rfl,SqT.of z⟩) pn'
      .rw[Bo,Ja,Ja];exact Ga (by lia:0+M'.length<64) (show 64<=Cb by decide)
      let⟨ns,ens,nd,mem⟩:=Q1 (M'.map λe=>(e.p.2.length:Int)) [] [] rfl .nil;let lk5:=Zen ((M'.map λe=>(e.p.2.length:Int)).map λz=>((Eu z:Key),V.bl true)) [];generalize Ug [] ((M'.map λe=>(e.p.2.length:Int)).map λz=>((Eu z:Key),V.bl true))=kC at ens lk5⊢;let S14:=S13.same (Zl (o:=.dK kC) hd5);let e5:(upd H13 d5 (.dK kC)) d5=_:=Zh;generalize upd H13 d5 (.dK kC)=H14 at S14 e5;exists d5,_,ns,rfl,e5,ens,by rw[Ja,Ja,Bo]at lk5;lia,λD5 ns' hD5 pN riN=>?_;exists D5,·,.inl ⟨SqL.of Zh,λd4 hd4=>?_⟩;let sz:=(Zl (o:=.lst (ns'.map V.int)) hD5).trans (Zl (o:=.tup (ns'.map V.int)) hd4)
      let S15:=(S14.same sz).put Zh λ_ _ _ z=>nomatch z;generalize upd (upd H14 D5 (.lst (ns'.map V.int))) d4 (.tup (ns'.map V.int))=H15 at S15;exists ·,x,C,dx,·,S15.ex,CT.cl,CT.n_word_sizes,(by show 4<1000;decide),?_;let S16:=S15.fld (fs':=(fl5 tp d1 d2 d3 d4));let pf2:putF (Ci "word_sizes") (V.ref d4) (fl4 tp d1 d2 d3)=((fl5 tp d1 d2 d3 d4):List (Str×V)):=by rfl
      rw[pf2];refine k _ (M'.map (·.p)) hS hri ⟨dx,tp,d1,d2,d3,d4,S16.ex,⟨⟨_,S16.etp,Zmz S16.at_⟩,⟨_,S16.d (d1,_) (.tail _ (.tail _ (.tail _ (.head _)))),wb _ S16.at_⟩,⟨_,S16.d (d2,_) (.tail _ (.tail _ (.head _))),sb⟩,⟨k3,S16.d (d3,_) (.tail _ (.head _)),?_⟩,⟨ns',S16.d (d4,_) (.head _),Zgy nd (λn=>by rw[mem,Gh];simp only[List.not_mem_nil,false_or];rfl) pN riN⟩⟩,nd1,nd2,nd3'⟩ S16.tb S16.g;rw[Gh];exact hb3
def Jcl(T:Txt mg)(CT:CodeT K C){f:Addr}(F:Fun K "word" "Code.word" Tm f fd):FnOk P w K mg base CX0 1 f fd ["self","sign"] (Zgr C):=by
 refine F.ok Jae (λvs H Q E h=>?_) (λcdv A outer s H vs Q E hr h=>?_)
 .let⟨x,S,z,rfl,_⟩:=h;rfl
 .let⟨x,S,z,rfl,⟨dx,tp,d1,d2,d3,d4,ex,ci⟩,k1,k2⟩:=h;let⟨k3,e3,hb1,hb2⟩:=ci.wb;let SC:=Jae;let hu1:=Xv hr;exists _,(Zf (Zu (Zea hu1 (Xx (pv 0) rfl) (pv 1) ⟨rfl,rfl,rfl,rfl⟩))),?_;exists ·,x,C,dx,_,·,ex,CT.cl,CT.n_words_by_sign,rfl,d1,rfl,.inl ⟨_,.inl e3⟩,·,_,DGet.k (k:=Eu z) e3,?_
  by_cases hp:∃p∈S,p.1=z
  .let⟨p,hp,e⟩:=hp;let⟨t,h1,h2⟩:=hb1 p hp;rw[e]at h1;rw[h1];exact k1 p hp e t h2
  .rw[hb2 z λp hq e=>hp ⟨p,hq,e⟩];exact k2 λp hq e=>hp ⟨p,hq,e⟩
def Dq(T:Txt mg)(CT:CodeT K C){f:Addr}(F:Fun K "sign" "Code.sign" To f fd):FnOk P w K mg base CX0 1 f fd ["self","word"] (Zgt C):=by
 refine F.ok Jbi (λvs H Q E h=>?_) (λcdv A outer s H vs Q E hr h=>?_)
 .let⟨x,t,S,u,rfl,_⟩:=h;rfl
 .let⟨x,t,S,u,rfl,⟨dx,tp,d1,d2,d3,d4,ex,ci⟩,et,k1,k2⟩:=h;let⟨k3,e3,hb1,hb2⟩:=ci.sb;let SC:=Jbi;let hu1:=Xv hr;let et':H t=some (.tup ((wk u).map kV)):=by rw[Znj];exact et
  exists _,(Zf (Zu (Zea hu1 (Xx (pv 0) rfl) (pv 1) ⟨rfl,rfl,rfl,rfl⟩))),?_;exists ·,x,C,dx,_,·,ex,CT.cl,CT.n_signs_by_word,rfl,d2,rfl,.inr ⟨_,.inl e3⟩,·,_,DGet.t e3 et',?_
  by_cases hp:∃p∈S,p.2=u
  .let⟨p,hp,e⟩:=hp;let:=hb1 p hp;rw[e]at this;rw[this];exact k1 p hp e
  .rw[hb2 u λp hq e=>hp ⟨p,hq,e⟩];exact k2 λp hq e=>hp ⟨p,hq,e⟩
def Jcc(T:Txt mg)(CT:CodeT K C){f:Addr}(F:Fun K "table" "Code.table" V5 f fd):FnOk P w K mg base CX0 1 f fd ["self"] (Zdr C):=by
 refine F.ok D6 (λvs H Q E h=>?_) (λcdv A outer s H vs Q E hr h=>?_)
 .let⟨x,S,rfl,_⟩:=h;rfl
 .let⟨x,S,rfl,⟨dx,tp,d1,d2,d3,d4,ex,ci⟩,k⟩:=h;let⟨us,e1,ps⟩:=ci.pr;let SC:=D6;exists _,(Zf (Zu (Z2 Rg (by rfl) T.b_list Cp (Za (Xx (pv 0) rfl) Zb)))),?_;exists ·,x,C,dx,_,·,ex,CT.cl,CT.n_pairs,rfl,_,·,.inr (SqT.of e1),λl hl=>k l us hl ps
theorem Jay(T:Txt mg)(CT:CodeT K C)(P4:Met P w K mg base C "sign" 1 ["self","word"] (Zgt C)){f:Addr}(F:Fun K "word_at" "word_at" R9 f fd):FnOk P w K mg base CX0 2 f fd ["code","row","place"] (Zaq C):=by
 refine F.ok Jbz (λvs H Q E h=>?_) (λcdv A outer s H vs Q E hr h=>?_)
 .let⟨x,r,S,ns,pl,rfl,_⟩:=h;rfl
 .let⟨x,r,S,ns,pl,rfl,ca,fi,er,hpl,k1,k2⟩:=h;let SC:=Jbz;let Zcx:Room 1 _:=hr.mono nofun;let⟨dx,tp,d1,d2,d3,d4,ex,ci⟩:=id ca;let⟨zs,ez,hz⟩:=ci.sz;refine⟨_,(Zc (Y8 Cm rfl (Zd5 (Xx (pv 0) rfl)) (Zn (i:=3) SC.nd rfl (Cg rfl))
 (Zc (Zr (i:=4) SC.nd rfl (Cg rfl) (Z2 (P0 (K:=K) rfl) (by rfl) T.b_tuple Ec (Za (Z5 (Wz (K':=K) rfl) (pv 1) (Z7 (pv 2)) (Z7 (Zy Wv (pv 2) (pv 3)))) Zb)))
 (Zf (Yu (Wl (Sq (Qf (pv 0) P4 Zcx (Za (pv 4) Zb))))
 (Zf (Zu (pv 4)))
 Z0))))
 (Zf (Zu T5))),?_⟩
  exists ·,x,C,dx,_,·,ex,CT.cl,CT.n_word_sizes,rfl,d4,rfl,⟨_,SqT.of ez⟩,Zpv (xs:=zs.map V.int) (λi σ H'=>∃v3 v4,σ=[some (.ref x),some (.ref r),some (.int pl),v3,v4]/\Same H H'/\∀p∈S,∀(j:Nat)(hj:j<zs.length),j<i->(p.2.length:Int)=zs[j]->¬ p.2<+:ns.drop pl) ⟨_,_,rfl,.refl _,λp hp j hj h0=>Fl h0 (Gp _)⟩ ?_ ?_ ?_
  .rintro i σ H1 hi ⟨v3,v4,rfl,s1,no⟩;exact SqT.of (s1 _ _ ez)
  .rintro i y σ H1 hy ⟨v3,v4,rfl,s1,no⟩;let hi:i<zs.length:=by have:=(Jj.mp hy).1;rw[Ja]at this;exact this
   rw[Jq,Jb hi]at hy;obtain rfl:=Fz hy;let⟨p0,hp0,el⟩:=(hz.2 zs[i]).mp (Jn hi);refine⟨_,rfl,_,rfl,_,rfl,_,rfl,_,rfl,_,_,rfl,rfl,_,rfl,?_⟩;dsimp only[tNil];refine Zn3 (er.same s1) λt H2 s12 et=>?_;let ec:cutV (ns.map V.int) (some (pl:Int)) (some ((pl:Int)+zs[i]))=((ns.drop pl).take p0.2.length).map V.int:=by
    rw[<-el];exact Zp5 ns (m:=p0.2.length) hpl
   rw[ec]at et;let pw:(ns.drop pl).take p0.2.length<+:ns.drop pl:=Bz _ _;let hw:∀p∈S,p.2.length=p0.2.length->p.2<+:ns.drop pl->p.2=(ns.drop pl).take p0.2.length:=λp hp hl hpre=>by
    rw[<-hl];exact List.prefix_iff_eq_take.mp hpre
   generalize (ns.drop pl).take p0.2.length=u at pw hw et;let s2:=s1.trans s12;let ca2:=ca.same s2;exists ·,x,dx,·,s2 _ _ ex,rfl,·,x,t,S,u,rfl,ca2,et,λp hp e=>?_,λhno=>?_
   .subst e;exists ·,Zv3 (λz=>by cases z) ⟨_,rfl,k1 p hp pw t H2 s2 et⟩
   .exists ·,Zth rfl ?_;exists _,·,s2,λp hp j hj hji hl hpre=>?_
    by_cases e:j=i
    .subst e;exact hno p hp (hw p hp (by rw[<-el]at hl;exact Int.ofNat.inj hl) hpre)
    .exact no p hp j hj () hl hpre
  .rintro σ H1 ⟨v3,v4,rfl,s1,no⟩;refine k2 (λp hp=>?_) H1 s1;let⟨j,hj,ej⟩:=Gb ((hz.2 _).mpr ⟨p,hp,rfl⟩);exact no p hp j hj (by rw[Ja];exact hj) ej.symm
def Jab(T:Txt mg){f:Addr}(xc:XCl K C f)(na:Ed K (.ref C) "at"=some none)(F:Fun K "__init__" "NoSign.__init__" X0 f fd):FnOk P w K mg base CX0 1 f fd ["self","at"] (spX1 C "at"):=by
 refine F.ok Dw (λvs H Q E h=>?_) (λcdv A outer s H vs Q E hr h=>?_)
 .let⟨ea,y,rfl,_⟩:=h;rfl
 .let⟨ea,y,rfl,hea,k⟩:=h;let SC:=Dw;exists _,(Zf (Zci (pv 0) (pv 1) rfl)),?_;exists ·,·,ea,C,f,rfl,xc,na,.inl ⟨hea,λd hd ne=>k d hd ne⟩
def Dh(T:Txt mg){f:Addr}(xc:XCl K C f)(na:Ed K (.ref C) "name"=some none)(F:Fun K "__init__" "NoName.__init__" X1 f fd):FnOk P w K mg base CX0 1 f fd ["self","name"] (spX1 C "name"):=by
 refine F.ok Jch (λvs H Q E h=>?_) (λcdv A outer s H vs Q E hr h=>?_)
 .let⟨ea,y,rfl,_⟩:=h;rfl
 .let⟨ea,y,rfl,hea,k⟩:=h;let SC:=Jch;exists _,(Zf (Zci (pv 0) (pv 1) rfl)),?_;exists ·,·,ea,C,f,rfl,xc,na,.inl ⟨hea,λd hd ne=>k d hd ne⟩
def Jbf(T:Txt mg){f:Addr}(xc:XCl K C f)(na:Ed K (.ref C) "name"=some none)(F:Fun K "__init__" "Taken.__init__" Wg f fd):FnOk P w K mg base CX0 1 f fd ["self","name"] (spX1 C "name"):=by
 refine F.ok Jao (λvs H Q E h=>?_) (λcdv A outer s H vs Q E hr h=>?_)
 .let⟨ea,y,rfl,_⟩:=h;rfl
 .let⟨ea,y,rfl,hea,k⟩:=h;let SC:=Jao;exists _,(Zf (Zci (pv 0) (pv 1) rfl)),?_;exists ·,·,ea,C,f,rfl,xc,na,.inl ⟨hea,λd hd ne=>k d hd ne⟩
theorem Dn(T:Txt mg){Cn:Addr}(Zev:Met P w K mg base C "word" 1 ["self","sign"] (Zgr C))(Q4:Rx P w K mg base "NoSign" Cn 1 ["self","at"] (spX1 Cn "at")){f:Addr}(F:Fun K "write" "write" Zcb f fd):FnOk P w K mg base (CXE P w) 3 f fd ["code","text"] (Zdp C Cn):=by
 refine F.okE Jaj (λvs H Q E h=>?_) (λcdv A outer s H vs Q E hr h=>?_)
 .let⟨x,xa,S,ts,rfl,_⟩:=h;rfl
 .let⟨x,xa,S,ts,rfl,ca,fi,exa,lts,k,kE⟩:=h;let SC:=Jaj;let Zpq:Room 1 _:=hr.mono nofun;let Ziw:Room 2 _:=hr.mono nofun;let lm:(ts.map V.int).length=ts.length:=Ja _;refine⟨_,(Zc (Zr (i:=2) SC.nd rfl (Cg rfl) (Yf Zb))
 (Zc (Y8 PassesOwn.leaving rfl (Zox rfl T.b_enumerate (Za (pv 1) Zb)) (Wm (n:=2) rfl (Zw (Zn (i:=3) SC.nd rfl (Cg rfl)) (Zw (Zn (i:=4) SC.nd rfl (Cg rfl)) Xf)) (by rfl))
 (Zc (Zr (i:=5) SC.nd rfl (Cg rfl) (Qf (pv 0) Zev Zpq (Za (pv 4) Zb)))
 (Zc (Yu (Wl (Qh (pv 5)))
 (Zf (Rr Q4 Ziw rfl (Za (pv 3) Zb)))
 Z0)
 (Zf (Wu (Qg Cz Jda PySem.F.type_list_extend Zfc (pv 2) (Za (pv 5) Zb)))))))
 (Zf (Zu (pv 2))))),?_⟩
  exists by show 0<=Cb;decide,λtx htx=>?_;let s1:=Zl (o:=.lst []) htx;let etx:(upd H tx (.lst [])) tx=_:=Zh;generalize upd H tx (.lst [])=H1 at s1 etx;let ntx:∀b o,H b=some o->b≠tx:=λb o e=>Zq e htx;exists ·,xa,rfl,⟨_,SqL.of (s1 _ _ exa)⟩,Zlu (xs:=ts.map V.int) (λi σ H'=>∃(U:List Pr)(v3 v4 v5:Option V),σ=[some (.ref x),some (.ref xa),some (.ref tx),v3,v4,v5]/\Same H H'/\H' tx=some (.lst ((Zv U).map V.int))/\Xb S U ts i) ⟨[],_,_,_,rfl,s1,etx,⟨(λ_ z=>nomatch z),rfl⟩⟩ ?_ ?_ ?_
  .rintro i σ H2 hi ⟨U,v3,v4,v5,rfl,s2,_⟩;exact SqL.of (s2 _ _ exa)
  .rintro i hi t σ H2 ⟨U,v3,v4,v5,rfl,s2,e2,tx2⟩ nt;let hi2:i<ts.length:=by rw[lm]at hi;exact hi
   let lU:=tx2.len (Bp hi2);let s3:=Zl (o:=.tup [.int i,(ts.map V.int)[i]]) nt;let e3:=s3 _ _ e2;let et3:(upd H2 t (.tup [.int i,(ts.map V.int)[i]])) t=some (.tup [.int i,.int ts[i]]):=by rw[Zh,Gv]
   generalize upd H2 t (.tup [.int i,(ts.map V.int)[i]])=H3 at s3 e3 et3;let s23:=s2.trans s3;let ca3:=ca.same s23;let⟨dx,tp,d1,d2,d3,d4,ex,_⟩:=id ca3;exists t,·,SqT.of et3,rfl,_,·,_,·,rfl,?_;exists ·,x,dx,·,ex,rfl,·,x,S,ts[i],rfl,ca3,λp hp e tw etw=>?_,λhno=>?_
   .exists ·,·,Zv5 (λz=>by cases z) ?_;let lw:=(fi.2 _ hp).2;let lr:=Sm fi tx2.1;exists ·,.inl ⟨rfl,_,SqL.of e3⟩,·,tx,tw,_,·,rfl,e3,etw,?_,U++[p],_,_,·,λb o e'=>?_,?_,tx2.snoc hi2 hp e
    .rw[Ja,Ja];exact Zk ()
    .rw[Zo (ntx b o e')];exact s23 b o e'
    .rw[Zh,V6,Jf,U2];simp[Zv]
   .exists ·,·,Zv4 rfl ?_;exists ·,by show 1<=10;decide,λea nea=>?_;exists ea,.int i,rfl,Zh,λd nd ne=>⟨rfl,d,?_,?_⟩
    .rw[Zo (Ee ne),Zh]
    .let nd3:H3 d=none:=by rw[Zo ne]at nd;exact nd
     refine kE i U d _ hi2 tx2 ((Ub hi2).mpr hno) (s23.free nd3) (λb o e=>?_) ?_
     .let b1:b≠ea:=Zq (s23 _ _ e) nea;let b2:b≠d:=Zq (s23 _ _ e) nd3;rw[Zo b1,Zo b2,Zo b1,Zo b1];exact s23 _ _ e
     .rw[Zo ne,Zh]
  .rintro σ H2 ⟨U,v3,v4,v5,rfl,s2,e2,tx2⟩;rw[lm]at tx2;exists ·,k U tx H2 tx2 htx s2 e2
open L3
theorem Jck(T:Txt mg)(Zdg:Met P w K mg base C "table" 1 ["self"] (spOf ⟨C,K⟩ dCTable)){f:Addr}(F:Fun K "least_sign_over" "least_sign_over" Xz f fd):FnOk P w K mg base CX0 3 f fd ["code","row"] (spOf ⟨C,K⟩ dLso):=by
 refine L3.Fun.ok3 F Jag (λds M K3 h=>?_) (λcdv A outer s H E hr=>?_)
 .let⟨S,r,rfl,_⟩:=h;rfl
 .let SC:=Jag;let hu:=hr.units;let hu1:=Xv hr;let Zlm:Room 1 _:=hr.mono nofun;exists _,_,(Zf (Zu (Zqb (K:=K) rfl rfl rfl T.b_min (Za (Yv (T:=["sign","word"]) (cs:=[1]) rfl (CScope.ok (by kernel_rfl)) (Z8 (Zsv (pv 0) Zdg Zlm)) (λ_ _ _ _=>(Wm (n:=2) rfl (Zw (Zn (i:=0) (Yw (by kernel_rfl)) rfl (Cg rfl) (C5 rfl)) (Zw (Zn (i:=1) (Yw (by kernel_rfl)) rfl (Cg rfl) (C5 rfl)) Xf)) (by rfl))) (λ_ _ _ _=>(Vc (Zz (Wn (K':=K) rfl hu) (Z5 (Wz (K':=K) rfl) (pv 1) Ye (Z7 (Zp (Yd (K:=K) rfl) (by rfl) T.b_len F6 (Za (pv 2) Zb)))) (pv 2) (Z4 _)))) (λ_ _ _ _=>(pv 0)) (Sc (Yl nofun (Yl nofun Vu)))) Zb) (Zhn T5 Zm0)))),λ_=>(Xk (Zr6 (Xt (Qa (s_il (Zg6 (λ_ _ _ _ _=>rfl) (Z6 0) Va)) (by symm) (by symm) (Z6 0)) Va) (Xt Zkr Va))),λds M Kk hM hD h=>?_
  let⟨S,r,rfl,h⟩:=h;let⟨fi,k⟩:=h;let lm:(S.map pD).length=S.length:=Ja _;let lS:=fi.1;exists ·,⟨S,rfl⟩,S,rfl,·,?_,λj ys M'=>M=M'/\ys=(((S.take j).filter λp=>decide (p.2.take r.length=r)).map (·.1)).map D.int,λ_ _ _ _ _=>rfl,⟨rfl,rfl⟩,?_,?_
  .show(S.map pD).length<=Cb;rw[lm];exact Zk ()
  .rintro j x ys _ hj hx ⟨rfl,rfl⟩;let⟨hj',rfl⟩:=Yr hx;refine⟨_,rfl,rfl,_,_,rfl,_,_,rfl,rfl,?_⟩;refine⟨_,rfl,_,rfl,_,rfl,_,rfl,_,rfl,?_⟩;dsimp only[Ta,U9,sl3,wD];rw[X6,Ja,Xm];refine Ww (Y5 Z9) (a:=S[j].2.take r.length) (b:=r) ⟨_,rfl,?_⟩;let et:∀b,decide (S[j].2.take r.length=r)=b->(((S.take (j+1)).filter λp=>decide (p.2.take r.length=r)).map (·.1)).map D.int=(((S.take j).filter λp=>decide (p.2.take r.length=r)).map (·.1)).map D.int++(if b=true then [D.int S[j].1]else []):=λb h=>by
    rw[Je hj',Gj,Jf,Jf,Gf,h];cases b<;>rfl
   refine ite2 (λh=>⟨_,rfl,rfl,?_⟩) (λh=>⟨rfl,?_⟩)
   .rw[et true h];rfl
   .rw[et false (Bk _ ▸ h),Fv Jr,Jp]
  .rintro ys _ ⟨rfl,rfl⟩;let er:S.take (S.map pD).length=S:=by rw[lm,Jw]
   rw[show K0 _ S=S from er];exists _,_,·,rfl,rfl,?_;unfold lsO at k;cases hm:mnOf none ((S.filter λp=>decide (p.2.take r.length=r)).map (·.1))with
   |none=>rw[hm]at k;exact .inl k
   |some n=>rw[hm]at k;exact .inl k
theorem Jaq(T:Txt mg)(Q6:Cal P w K mg base "word_at" 2 ["code","row","place"] (spOf ⟨C,K⟩ dWordAtT))(Wa:Cal P w K mg base "least_sign_over" 3 ["code","row"] (spOf ⟨C,K⟩ dLso))(P4:Met P w K mg base C "sign" 1 ["self","word"] (spOf ⟨C,K⟩ dCSign)){f:Addr}(F:Fun K "least_text_over" "least_text_over" Xy f fd):FnOk P w K mg base CX0 4 f fd ["code","row"] (spOf ⟨C,K⟩ dLto):=by
 refine L3.Fun.ok3 F D0 (λds M K3 h=>?_) (λcdv A outer s H E hr=>?_)
 .let⟨S,r,rfl,_⟩:=h;rfl
 .let SC:=D0;let hu:=hr.units;let hu1:=Xv hr;let Zfk:Room 2 _:=hr.mono nofun;let Sb:Room 3 _:=hr.mono nofun;let Zcx:Room 1 _:=hr.mono nofun;refine⟨_,_,(Zc (Zr (i:=2) SC.nd rfl (Cg rfl) (Yf Zb))
 (Zc (Zr (i:=3) SC.nd rfl (Cg rfl) Ze)
 (Zc (Zk0 Cm (Zz Zh1 (pv 3) (Zp (Yd (K:=K) rfl) (by rfl) T.b_len F6 (Za (pv 1) Zb)) (Z4 _))
 (Zc (Zr (i:=4) SC.nd rfl (Cg rfl) (Zt Q6 Zfk rfl (Za (pv 0) (Za (pv 1) (Za (pv 3) Zb)))))
 (Zc (Yu (Wl (Qh (pv 4)))
 (Zc (Zr (i:=5) SC.nd rfl (Cg rfl) (Zt Wa Sb rfl (Za (pv 0) (Za (Z5 (Wz (K':=K) rfl) (pv 1) (Z7 (pv 3)) Ye) Zb))))
 (Zf (Zu (Zk7 (Wl (Qh (pv 5))) T5 (Zy (Y7 (K':=K) rfl) (pv 2) (Yf (Za (pv 5) Zb)))))))
 Z0)
 (Zc (Wu (Qg Cz C9 Ea We (pv 2) (Za (Qf (pv 0) P4 Zcx (Za (pv 4) Zb)) Zb)))
 (Zf (Zss (i:=3) SC.nd rfl (Cg rfl) (Zp (Yd (K:=K) rfl) (by rfl) T.b_len F6 (Za (pv 4) Zb)) Zm7))))))
 (Zf (Zu (pv 2)))))),λ_=>(Zx (Vj (Pj Va) (s_g 2)) (Zx (by symm) (Zx (Zg4 (by symm) (Zx (by symm) (Zx (Ws (by symm) (Zx (by symm) (Xk (s_if (by symm) Zkr (s_op Zhc (Z6 2) (by symm))))) Xn) (Zx (Rb (Nj (Z6 2) (Xt (Zg6 (λ_ _ _ _ _=>rfl) (Z6 0) (by symm)) Va))) (Zvm (by symm)))))) (Xk (Z6 2))))),λds M Kk hM hD h=>?_⟩
  let⟨S,r,rfl,h⟩:=h;let⟨⟨fr,fi,lr⟩,kN,kY⟩:=h;let lm:(r.map D.int).length=r.length:=Ja _;let ne:∀p∈S,p.2≠[]:=λp hp=>(fi.2 p hp).1;exists Ju _,?_;exists λm ρ M'=>∃(U:List Pr)(v4 v5:Option D),ρ=[some (.code S),some (wD r),some (.cell M.length),some (.int (((Zv U).length:Nat):Int)),v4,v5]/\M'=M++[.lst ((Zm U).map .int)]/\TxIn S U/\Zv U<+:r/\m=r.length-(Zv U).length,⟨_,[],_,_,rfl,rfl,λ_ h=>(nomatch h),Bx,rfl⟩,?_;rintro m ρ _ ⟨U,v4,v5,rfl,rfl,hU,hp,rfl⟩;let hpl:=hp.length_le;let lU:U.length<=(Zv U).length:=Zhe (λp hp=>ne p (hU p hp)) λp hp=>hp;exists ·,·,·,_,·,rfl,·,ite2 (λhlt=>?_) (λhge=>?_)
  .let hlt:(Zv U).length<r.length:=by
    let:=Fk hlt;rw[lm]at this;lia
   exists ·,·,·,S,r,·,⟨fi,hpl⟩,λp hpS pre=>?_,λhno=>?_
   .let hU2:TxIn S (U++[p]):=λx hx=>(J9.mp hx).elim (hU x) λz=>by rw[Jg.mp z];exact hpS
    let er:Zv (U++[p])=Zv U++p.2:=by rw[V6,show Zv [p]=p.2 from Jp _]
    let hp2:Zv (U++[p])<+:r:=by
     rw[er];let⟨X,rfl⟩:=hp;rw[Fi]at pre;exact(G0 _).mpr pre
    let h0:0<p.2.length:=Gi.mpr (ne p hpS);let hl2:=hp2.length_le;rw[er,Jc]at hl2;exists ·,·,iteF ?_;exists ·,Ua Su,·,⟨_,rfl⟩,·,S,p.2,rfl,λq hq e=>?_,λhn=>Fl rfl (hn p hpS);obtain rfl:q=p:=Zi4 fr hq hpS (l:=p.2) (by rw[e];exact Ji _) (Ji _);exists M.length,_,·,rfl,Yg,?_,?_
    .rw[Ja,show(Zm U).length=U.length from Ja _];exact G4 (by lia:_<=1000) nofun
    rw[U1];exists ·,·,·,·,r.length-(Zv (U++[q])).length,?_,.inl ⟨U++[q],some (wD q.2),v5,?_,?_,hU2,hp2,rfl⟩
    .rw[er,Jc];lia
    .rw[er,Jc,Jc8,Ja];rfl
    .show _=M++[MO.lst ((Zm (U++[q])).map D.int)];rw[show Zm (U++[q])=Zm U++[q.1]from Jf,Jf];rfl
   .exists ·,·,iteT ?_;let⟨rest,rfl⟩:=hp;rw[Fi]at hno;let h0:rest≠[]:=λz=>by rw[z,Jp]at hlt;exact G5 _ hlt
    let lc:=Zlf fr ne hU h0 hno;exists ·,·,·,·,?_;dsimp only[Ta,U9,Zqx,Sj,sl3,wD];rw[X6,Uh,Fi];exists S,rest,rfl,fi,?_;cases e:lsO S rest with
    |none =>
     rw[e]at lc;exists ·,·,iteT (.inl (kN _ ⟨_,rfl⟩ lc))
    |some s =>
     rw[e]at lc;exists ·,·,iteF ?_;exists ·,·,(show 1<=Cb by decide),?_;let ls1:(Zm U++[s]).length=U.length+1:=by rw[Jc,show(Zm U).length=U.length from Ja _];rfl
     rw[Jc]at lr;exists _,_,Su,rfl,?_,.inl (kY _ _ (Zm U++[s]) ⟨_,(Gg ..).symm⟩ (by rw[Jc];lia) ?_ lc ())
     .rw[Ja,show(Zm U).length=U.length from Ja _];exact Zk (by show _+1<=_;lia)
     .rw[Jf];exact Yg
  .let hge:r.length<=(Zv U).length:=by
    let:¬ ((((Zv U).length:Nat):Int)<((r.map D.int).length:Int)):=λz=>hge (Fx z);rw[lm]at this;lia
   let e:Zv U=r:=hp.eq_of_length ();let:=Zlg fr ne hU;rw[e]at this;exists ·,.inl (kY _ _ _ ⟨_,rfl⟩ (Jd _) Yg this (by rw[show(Zm U).length=U.length from Ja _];lia))
open L3
theorem Jcw(T:Txt mg){f:Addr}(F:Fun K "begins_row" "begins_row" V2 f fd):FnOk P w K mg base CX0 1 f fd ["mark","row"] (spOf ⟨C,K⟩ dBegR):=by
 refine L3.Fun.ok3 F Jcb (λds M K3 h=>?_) (λcdv A outer s H E hr=>?_)
 .let⟨m,ns,d,rfl,_⟩:=h;rfl
 .let SC:=Jcb;let hu:=hr.units;let hu1:=Xv hr;exists _,_,(Zf (Zu (Zm3 (Vr Za1 (Zp (Yd (K:=K) rfl) (by rfl) T.b_len F6 (Za (pv 0) Zb)) Ze (Z4 _)) (Zm2 (Vr (Wn (K':=K) rfl hu) (Z2 (P0 (K:=K) rfl) (by rfl) T.b_tuple Ec (Za (Z5 (Wz (K':=K) rfl) (pv 1) Ye (Z7 (Zp (Yd (K:=K) rfl) (by rfl) T.b_len F6 (Za (pv 0) Zb)))) Zb)) (pv 0) (Z4 _)))))),λ_=>(by symm),λds M Kk hM hD h=>?_;let⟨m,ns,d,rfl,h⟩:=h;let⟨hd,k⟩:=h;let lm:(m.map D.int).length=m.length:=Ja _;exists ·,·,_,·,rfl,·,?_;rw[lm]
  by_cases h0:0<m.length
  .rw[Fx (by lia:(0:Int)<((m.length:Nat):Int))];refine iteT ?_;exists ·,·,·,·,?_;refine Zgx hd ?_;rw[lm,X6,Xm];exists _,·,rfl,·,Ww (Y5 Z9) (a:=ns.take m.length) (b:=m) (.inl ?_);unfold Tq at k;rw[Fx h0,Fc]at k;exact k
  .rw[Fy (by lia:¬ (0:Int)<((m.length:Nat):Int))];refine iteF (.inl ?_);unfold Tq at k;rw[Fy h0,B6]at k;exact k
open L3
theorem Jbp(T:Txt mg)(cl:Cls K Zd)(n1:Yp K Zd "codes_by_name")(n2:Yp K Zd "marks_by_name"){f:Addr}(F:Fun K "__init__" "Family.__init__" X4 f fd):FnOk P w K mg base CX0 1 f fd ["self"] (spOf ⟨C,K⟩ (dInitF Zd)):=by
 refine L3.Fun.ok3 F Jbj (λds M K3 h=>?_) (λcdv A outer s H E hr=>?_)
 .let⟨f,rfl,_⟩:=h;rfl
 .let SC:=Jbj;let hu:=hr.units;let hu1:=Xv hr;refine⟨_,_,(Zc (Qc (pv 0) Zd9 rfl)
 (Zf (Qc (pv 0) Zd9 rfl))),λ_=>(Zx (Zmm (Z6 0) Zha) (Zmm (Z6 0) Zha)),λds M Kk hM hD h=>?_⟩
  let⟨f,rfl,h⟩:=h;let⟨hf,hl,k⟩:=h;let lf:f<M.length:=by lia
  refine⟨_,rfl,f,Zd,[],rfl,Y1 hf,cl,n1,nofun,?_⟩;refine⟨_,rfl,f,Zd,_,rfl,Y1 (Ge (by rw[Jc];lia)),cl,n2,(show 1<1000 by decide),.inl ?_⟩;let e:(((M++[MO.dct []]).set f (.ins Zd (Pa "codes_by_name" (.cell M.length) [])))++[MO.dct []]).set f (.ins Zd (Pa "marks_by_name" (.cell ((M++[MO.dct []]).set f (.ins Zd (Pa "codes_by_name" (.cell M.length) []))).length) (Pa "codes_by_name" (.cell M.length) [])))=M.set f (.ins Zd (famD f))++[.dct [],.dct []]:=by
   rw[List.set_append_left _ _ (by rw[Gs,Jc];lia),Je8,List.set_append_left _ _ lf,Gg];let l2:((M++[MO.dct []]).set f (.ins Zd (Pa "codes_by_name" (.cell M.length) []))).length=f+2:=by rw[Gs,Jc,hl];rfl
   rw[l2,hl];rfl
  exact e ▸ k
theorem Dy(T:Txt mg){Yz:Addr}(cl:Cls K Zd)(n1:Yp K Zd "codes_by_name")(n2:Yp K Zd "marks_by_name")(Zac:Rx P w K mg base "Taken" Yz 1 ["self","name"] (spX1 Yz "name")){f:Addr}(F:Fun K "add" "Family.add" V4 f fd):FnOk P w K mg base (CXE P w) 3 f fd ["self","name","code","mark"] (W7 ⟨C,K⟩ (dAddX Zd Yz)):=by
 refine L3.Fun.okX3 F Do (λds M K3 KX h=>?_) (λcdv A outer s H E hr=>?_)
 .let⟨f,n,S,mk,zs,rfl,_⟩:=h;rfl
 .let SC:=Do;let hu:=hr.units;let hu1:=Xv hr;let Zlo:Room 2 _:=hr.mono nofun;refine⟨_,_,(Zc (Yu (Wl (Zsy hu1 (pv 1) (Xx (pv 0) rfl)))
 (Zf (Rr Zac Zlo rfl (Za (pv 1) Zb)))
 Z0)
 (Zc (Zcj hu1 (Xx (pv 0) rfl) (pv 1) (pv 2) rfl)
 (Zf (Zcj hu1 (Xx (pv 0) rfl) (pv 1) (Z2 (P0 (K:=K) rfl) (by rfl) T.b_tuple Ec (Za (pv 3) Zb)) rfl)))),λ_ _ he hk hx=>(Zx (Ws (s_b (Zvl (Z6 1) (Te (Z6 0)))) (Ni he hk hx (by symm)) Xn) (Zx (Zmq (Te (Z6 0)) (Z6 1) (Z6 2)) (Zmq (Te (Z6 0)) (Z6 1) (by symm)))),λds M Kk KX hM hD h=>?_⟩
  let⟨f,n,S,mk,zs,rfl,h⟩:=h;let⟨Fa,hl,k,kx⟩:=h;let dc:Rm M (.cell (f+1))=some (W3 zs):=by simp only[Rm,Fa.h1]
  let ll:∀g:Fq->D,(zs.map λz=>((.inr z.1:Key),g z)).length<Cb:=λg=>by rw[Ja];exact G4 hl nofun
  by_cases hn:n∈zs.map (·.1)
  .let⟨z,hz,rfl⟩:=Jh.mp hn;exists ·,·,f,Zd,_,·,Fa.h0,cl,n1,rfl,_,.inl ⟨_,_,dc,rfl,rfl⟩,·,?_;rw[show valD (W3 zs) (.inr z.1)=some (.code z.2.1)from P8 Fa.nd hz];exact iteT ⟨_,rfl,_,rfl,kx hn⟩
  .refine⟨_,rfl,_,rfl,f,Zd,_,_,rfl,Fa.h0,cl,n1,rfl,_,.inl ⟨_,_,dc,rfl,rfl⟩,_,rfl,?_⟩;rw[show valD (W3 zs) (.inr n)=none from Zf6 hn];refine iteF ?_;let l1:=Vk Fa.h1;let new:∀g:Fq->D,∀v:D,putD (zs.map λz=>((.inr z.1:Key),g z)) (.inr n) v=(zs.map λz=>((.inr z.1:Key),g z))++[(.inr n,v)]:=λg v=>Zkz λkv hkv e=>by
    let⟨z,hz,rfl⟩:=Jh.mp hkv;exact hn (Jh.mpr ⟨z,hz,Jdr e⟩)
   refine⟨_,rfl,_,rfl,f,Zd,_,_,rfl,Fa.h0,cl,n1,rfl,_,rfl,_,.inl ⟨f+1,_,_,rfl,Fa.h1,rfl,ll _,rfl⟩,?_⟩;refine⟨_,rfl,_,_,rfl,rfl,_,rfl,f,Zd,_,_,rfl,Sy Fa.h0 (),cl,n2,rfl,_,rfl,_,.inl ⟨f+2,_,_,rfl,Sy Fa.h2 (),rfl,ll _,rfl⟩,.inl ?_⟩;let e1:putD (W3 zs) (.inr n) (.code S)=W3 (zs++[(n,S,mk)]):=by
    unfold W3;rw[new,Jf];rfl
   let e2:putD (Yj zs) (.inr n) (.tup (mk.map .int))=Yj (zs++[(n,S,mk)]):=by
    unfold Yj;rw[new,Jf];rfl
   rw[e1,e2];exact k hn
def Jbv(T:Txt mg)(cl:Cls K Zd)(n1:Yp K Zd "codes_by_name")(n2:Yp K Zd "marks_by_name"){f:Addr}(F:Fun K "names" "Family.names" Vb f fd):FnOk P w K mg base CX0 1 f fd ["self"] (spOf ⟨C,K⟩ (dNamesF Zd)):=by
 refine L3.Fun.ok3 F Jca (λds M K3 h=>?_) (λcdv A outer s H E hr=>?_)
 .let⟨f,zs,rfl,_⟩:=h;rfl
 .let SC:=Jca;let hu:=hr.units;let hu1:=Xv hr;exists _,_,(Zf (Zu (Z2 (Zdb rfl) (by rfl) T.b_list Cp (Za (Xx (pv 0) rfl) Zb)))),λ_=>(Xk (s_cb Zof (Xt (Te (Z6 0)) Va))),λds M Kk hM hD h=>?_;let⟨f,zs,rfl,h⟩:=h;let⟨Fa,k⟩:=h;let dc:Rm M (.cell (f+1))=some (W3 zs):=by simp only[Rm,Fa.h1]
  refine⟨_,rfl,f,Zd,_,_,rfl,Fa.h0,cl,n1,rfl,_,_,rfl,dc,.inl ?_⟩;let e:(W3 zs).map (λkv=>kD kv.1)=(zs.map (·.1)).map D.str:=by
   unfold W3;rw[Gh,Gh];rfl
  rw[e];exact k
def Jav(T:Txt mg)(cl:Cls K Zd)(n1:Yp K Zd "codes_by_name")(n2:Yp K Zd "marks_by_name")(Vn:Rx P w K mg base "NoName" Zs 1 ["self","name"] (spX1 Zs "name")){f:Addr}(F:Fun K "code" "Family.code" Vq f fd):FnOk P w K mg base (CXE P w) 3 f fd ["self","name"] (W7 ⟨C,K⟩ (dCodeX Zd Zs)):=by
 refine L3.Fun.okX3 F Jak (λds M K3 KX h=>?_) (λcdv A outer s H E hr=>?_)
 .let⟨f,n,zs,rfl,_⟩:=h;rfl
 .let SC:=Jak;let hu:=hr.units;let hu1:=Xv hr;let Qx:Room 2 _:=hr.mono nofun;refine⟨_,_,(Zc (Yu (Wl (Zaz hu1 (pv 1) (Xx (pv 0) rfl)))
 (Zf (Rr Vn Qx rfl (Za (pv 1) Zb)))
 Z0)
 (Zf (Zu (Zht hu1 (Xx (pv 0) rfl) (pv 1) (λ_ _=>rfl))))),λ_ _ he hk hx=>(Zx (Ws (s_b (Zdy (Z6 1) (Te (Z6 0)))) (Ni he hk hx (by symm)) Xn) (Xk (Zmr (Te (Z6 0)) (Z6 1)))),λds M Kk KX hM hD h=>?_⟩
  let⟨f,n,zs,rfl,h⟩:=h;let⟨Fa,k,kx⟩:=h;let dc:Rm M (.cell (f+1))=some (W3 zs):=by simp only[Rm,Fa.h1]
  by_cases hn:n∈zs.map (·.1)
  .let⟨z,hz,rfl⟩:=Jh.mp hn;let ev:valD (W3 zs) (.inr z.1)=some (.code z.2.1):=P8 Fa.nd hz;exists ·,·,f,Zd,_,·,Fa.h0,cl,n1,rfl,_,.inl ⟨_,_,dc,rfl,rfl⟩,·,?_;rw[ev];refine iteF ?_;exists ·,f,Zd,_,·,Fa.h0,cl,n1,rfl,·,_,.inl ⟨_,_,dc,rfl,ev.symm⟩,.inl (k z hz rfl)
  .exists ·,·,f,Zd,_,·,Fa.h0,cl,n1,rfl,_,.inl ⟨_,_,dc,rfl,rfl⟩,·,?_;rw[show valD (W3 zs) (.inr n)=none from Zf6 hn];exact iteT ⟨_,rfl,_,rfl,kx hn⟩
def Jcq(T:Txt mg)(cl:Cls K Zd)(n1:Yp K Zd "codes_by_name")(n2:Yp K Zd "marks_by_name")(Vn:Rx P w K mg base "NoName" Zs 1 ["self","name"] (spX1 Zs "name")){f:Addr}(F:Fun K "mark" "Family.mark" Vp f fd):FnOk P w K mg base (CXE P w) 3 f fd ["self","name"] (W7 ⟨C,K⟩ (dMarkX Zd Zs)):=by
 refine L3.Fun.okX3 F Jar (λds M K3 KX h=>?_) (λcdv A outer s H E hr=>?_)
 .let⟨f,n,zs,rfl,_⟩:=h;rfl
 .let SC:=Jar;let hu:=hr.units;let hu1:=Xv hr;let Qx:Room 2 _:=hr.mono nofun;refine⟨_,_,(Zc (Yu (Wl (Zaz hu1 (pv 1) (Xx (pv 0) rfl)))
 (Zf (Rr Vn Qx rfl (Za (pv 1) Zb)))
 Z0)
 (Zf (Zu (Zht hu1 (Xx (pv 0) rfl) (pv 1) (λ_ _=>rfl))))),λ_ _ he hk hx=>(Zx (Ws (s_b (Zdy (Z6 1) (Te (Z6 0)))) (Ni he hk hx (by symm)) Xn) (Xk (Zmr (Te (Z6 0)) (Z6 1)))),λds M Kk KX hM hD h=>?_⟩
  let⟨f,n,zs,rfl,h⟩:=h;let⟨Fa,k,kx⟩:=h;let dc:Rm M (.cell (f+2))=some (Yj zs):=by simp only[Rm,Fa.h2]
  by_cases hn:n∈zs.map (·.1)
  .let⟨z,hz,rfl⟩:=Jh.mp hn;let ev:valD (Yj zs) (.inr z.1)=some (wD z.2.2):=P8 Fa.nd hz;exists ·,·,f,Zd,_,·,Fa.h0,cl,n2,rfl,_,.inl ⟨_,_,dc,rfl,rfl⟩,·,?_;rw[ev];refine iteF ?_;exists ·,f,Zd,_,·,Fa.h0,cl,n2,rfl,·,_,.inl ⟨_,_,dc,rfl,ev.symm⟩,.inl (k z hz rfl)
  .exists ·,·,f,Zd,_,·,Fa.h0,cl,n2,rfl,_,.inl ⟨_,_,dc,rfl,rfl⟩,·,?_;rw[show valD (Yj zs) (.inr n)=none from Zf6 hn];exact iteT ⟨_,rfl,_,rfl,kx hn⟩
open L3
theorem Jcp(T:Txt mg){Xc:Addr}(cl:Cls K Zd)(n1:Yp K Zd "codes_by_name")(n2:Yp K Zd "marks_by_name")(P5:MetE P w K mg base Zd "code" 3 ["self","name"] (W7 ⟨C,K⟩ (dCodeX Zd Zs)))(Tj:MetE P w K mg base Zd "mark" 3 ["self","name"] (W7 ⟨C,K⟩ (dMarkX Zd Zs)))(Zdi:CalE P w K mg base "write" 3 ["code","text"] (W7 ⟨C,K⟩ (dWriteX Xc))){f:Addr}(F:Fun K "marked" "Family.marked" Wt f fd):FnOk P w K mg base (CXE P w) 4 f fd ["self","name","text"] (W7 ⟨C,K⟩ (dMarkedX Zd Zs Xc)):=by
 refine L3.Fun.okX3 F Dt (λds M K3 KX h=>?_) (λcdv A outer s H E hr=>?_)
 .let⟨f,n,d,zs,ts,rfl,_⟩:=h;rfl
 .let SC:=Dt;let hu:=hr.units;let hu1:=Xv hr;let Zcz:Room 3 _:=hr.mono nofun;let Sw:Room 3 _:=hr.mono nofun;let Zll:Room 3 _:=hr.mono nofun;exists _,_,(Zf (Zu (Zy (Y7 (K':=K) rfl) (Z2 (Uk (K:=K) rfl) (by rfl) T.b_list Cp (Za (Zd8 (pv 0) Tj Sw Zhw (Za (pv 1) Zb)) Zb)) (Zo1 Zdi Zll rfl Zhw (Za (Zd8 (pv 0) P5 Zcz Zhw (Za (pv 1) Zb)) (Za (pv 2) Zb)))))),λ_ _ he hk hx=>(Xk (s_op Zhc (s_cb Zmn (Xt (V0 he hk hx (Z6 0) (by symm)) Va)) (Zon he hk hx (Xt (V0 he hk hx (Z6 0) (by symm)) (by symm))))),λds M Kk KX hM hD h=>?_;let⟨f,n,d,zs,ts,rfl,h⟩:=h;let⟨Fa,hd,lt,hy⟩:=h
  rcases hy with⟨y,iy,kx⟩|⟨z,U,hz,rfl,l4,fi,fr,tx,k⟩
  .cases y with
   |name =>
    exists ·,⟨f,_,rfl,Fa.h0,rfl⟩,·,f,n,zs,rfl,Fa,λz hz e=>Fl (Jh.mpr ⟨z,hz,e⟩) iy,λ_=>kx
   |sign i =>
    let⟨hi,z,U,hz,rfl,fr,fi,l4,tx,hl⟩:=iy;let one:∀y∈zs,y.1=z.1->y=z:=λy hy e=>Tg Fa.nd hy hz e;let mem:z.1∈zs.map (·.1):=Jh.mpr ⟨z,hz,rfl⟩;refine⟨_,rfl,⟨f,_,rfl,Fa.h0,rfl⟩,_,rfl,f,z.1,zs,rfl,Fa,λy hy e=>?_,λhn=>Fl mem hn⟩;obtain rfl:=one y hy e;refine⟨_,_,rfl,rfl,_,rfl,⟨f,_,rfl,Fa.h0,rfl⟩,_,rfl,f,y.1,zs,rfl,Fa,λy' hy' e'=>?_,λhn=>Fl mem hn⟩;obtain rfl:=one y' hy' e';refine⟨_,rfl,y'.2.1,d,ts,rfl,hd,⟨fi,lt⟩,λU' tx'=>Fl hl (tx'.has i hi),λj U' hj tx' hl'=>?_⟩;let:j=i:=by
     rcases Nat.lt_trichotomy j i with h|h|h
     .exact Fl hl' (tx.has j h)
     .exact h
     .exact Fl hl (tx'.has i h)
    subst this;exact kx
  .let one:∀y∈zs,y.1=z.1->y=z:=λy hy e=>Tg Fa.nd hy hz e;let mem:z.1∈zs.map (·.1):=Jh.mpr ⟨z,hz,rfl⟩;exists ·,⟨f,_,rfl,Fa.h0,rfl⟩,·,f,z.1,zs,rfl,Fa,λy hy e=>?_,λhn=>Fl mem hn;obtain rfl:=one y hy e;exists _,·,rfl,·,⟨f,_,rfl,Fa.h0,rfl⟩,·,f,y.1,zs,rfl,Fa,λy' hy' e'=>?_,λhn=>Fl mem hn;obtain rfl:=one y' hy' e';exists ·,y'.2.1,d,ts,rfl,hd,⟨fi,lt⟩,λU' tx'=>?_,λj U' hj tx' hl'=>Fl hl' (tx.has j hj);let:=Xb.one fr tx' tx;subst this;let l1:=Sm fi tx.1;let l2:=tx.len (Jd _);exists _,·,Su,?_,.inl ?_
   .rw[Ja,Ja];exact Zk ()
   rw[<-Jf];exact k _ _ ⟨_,Gg .. |>.symm⟩ Yg (by rw[Jc];lia)
open L3
theorem D8(T:Txt mg)(cl:Cls K Zd)(n1:Yp K Zd "codes_by_name")(n2:Yp K Zd "marks_by_name")(Tj:Met P w K mg base Zd "mark" 3 ["self","name"] (spOf ⟨C,K⟩ (λds M K=>dMarkX Zd Zs ds M K λ_ _ _=>False)))(Uq:Cal P w K mg base "begins_row" 1 ["mark","row"] (spOf ⟨C,K⟩ dBegR)){f:Addr}(F:Fun K "by_mark" "Family.by_mark" Wh f fd):FnOk P w K mg base CX0 4 f fd ["self","row"] (spOf ⟨C,K⟩ (dByMark Zd)):=by
 refine L3.Fun.ok3 F Jcs (λds M K3 h=>?_) (λcdv A outer s H E hr=>?_)
 .let⟨f,d,zs,ns,rfl,_⟩:=h;rfl
 .let SC:=Jcs;let hu:=hr.units;let hu1:=Xv hr;let Sw:Room 3 _:=hr.mono nofun;let Nv:Room 1 _:=hr.mono nofun;refine⟨_,_,(Zc (Zhl (Wi (i:=2) SC.nd rfl rfl (T:=["name","mark"]) (cs:=[1]) rfl (CScope.ok (by kernel_rfl)) (Zd6 (Xx (pv 0) rfl)) (λ_ _ _ _=>(Wm (n:=2) rfl (Zw (Zn (i:=0) (Yw (by kernel_rfl)) rfl (Cg rfl) (C5 rfl)) (Zw (Zn (i:=1) (Yw (by kernel_rfl)) rfl (Cg rfl) (C5 rfl)) Xf)) (by rfl))) (λ_ _ _ _=>(Vc (V9 (Zt Uq Nv rfl (Za (pv 1) (Za (pv 2) Zb)))))) (λ_ _ _ _=>(pv 0)) (Sc (Yl nofun (Yl nofun Vu)))))
 (Zc (Zr (i:=3) SC.nd rfl (C5 rfl) (Zqc (K:=K) rfl rfl rfl T.b_max (Za (Yv (T:=["name"]) (cs:=[0]) rfl (CScope.ok (by kernel_rfl)) (Z8 (pv 2)) (λ_ _ _ _=>(Zn (i:=0) (Yw (by kernel_rfl)) rfl (Cg rfl) (C5 rfl))) (λ_ _ _ _=>Yo) (λ_ _ _ _=>(Zp (Yd (K:=K) rfl) (by rfl) T.b_len F6 (Za (Qf (pv 1) Tj Sw (Za (pv 0) Zb)) Zb))) (Ym nofun)) Zb) (Zhn Ze Zm0)))
 (Zf (Zu (Yv (T:=["name"]) (cs:=[0,3]) rfl (CScope.ok (by kernel_rfl)) (Z8 (pv 2)) (λ_ _ _ _=>(Zn (i:=0) (Yw (by kernel_rfl)) rfl (Cg rfl) (C5 rfl))) (λ_ _ _ _=>(Vc (Zz (Wn (K':=K) rfl hu) (Zp (Yd (K:=K) rfl) (by rfl) T.b_len F6 (Za (Qf (pv 1) Tj Sw (Za (pv 0) Zb)) Zb)) (pv 2) (Z4 _)))) (λ_ _ _ _=>(pv 0)) (Ym nofun)))))),λ_=>(Zx (Zg5 (Vj (Qa (Zg8 (Te (Z6 0))) (by symm) (by symm) (Z6 0)) (s_g 2))) (Zx (Vj (Zr7 (Xt (Qa (s_il (Z6 2)) (s_g 0) Zdw (s_cb Zoh (Xt (V1 (Z6 1) (by symm)) Va))) Va) (Xt Zg9 Va)) (s_g 3)) (Xk (Zom (s_il (Z6 2)) (s_g 0) (Zau (s_op s_eq (s_cb Zoh (Xt (V1 (Z6 1) (by symm)) Va)) (Z6 2))) (Z6 0))))),λds M Kk hM hD h=>?_⟩
  let⟨f,d,zs,ns,rfl,h⟩:=h;let⟨Fa,hd,lz,k⟩:=h;refine⟨f+2,Yj zs,Fa.h2,_,rfl,f,Zd,_,_,rfl,Fa.h0,cl,n2,rfl,f+2,Yj zs,rfl,Fa.h2,λo vs=>?_⟩;let lmk:(Yj zs).length=zs.length:=Ja _;let hset:∀{N:Mem},M.set (f+2) (.dfK o vs (Yj zs))=N->N.set (f+2) (.dct (Yj zs))=M:=λ{N}e=>by
   rw[<-e,Je8];exact La λi=>by
    by_cases hi:f+2=i
    .subst hi;rw[Ge (Vk Fa.h2),Fa.h2]
    .rw[Gx hi]
  let nd_:d≠.cell (f+2):=λe=>by
   rw[e]at hd;simp only[lsOf,Fa.h2]at hd;cases hd
  let hd0:lsOf (M.set (f+2) (.dfK o vs (Yj zs))) d=some (ns.map .int):=Zs8 hd nd_;exists ?_,λj ys M'=>M.set (f+2) (.dfK o vs (Yj zs))=M'/\ys=((Yy (zs.take j) ns).map (·.1)).map .str,?_,⟨rfl,rfl⟩,?_,?_
  .show(Yj zs).length<=Cb;rw[lmk];exact Zk ()
  .rintro i ys _ _ ⟨rfl,_⟩;exact Ge (Vk Fa.h2)
  .rintro j x ys _ hj ⟨kv,ekv,rfl⟩ ⟨rfl,rfl⟩;let hj:j<zs.length:=by
    let:j<(Yj zs).length:=hj;lia
   let ekv':kv=(.inr zs[j].1,wD zs[j].2.2):=by
    unfold Yj at ekv;rw[Jq,Jb hj]at ekv;exact(Fz ekv).symm
   subst ekv';refine⟨_,rfl,rfl,_,_,rfl,_,_,rfl,rfl,?_⟩;refine⟨_,rfl,_,rfl,zs[j].2.2,ns,d,rfl,hd0,_,rfl,?_⟩;let et:Yy (zs.take (j+1)) ns=Yy (zs.take j) ns++(if Tq zs[j].2.2 ns then [zs[j]]else []):=by
    unfold Yy;rw[Je hj,Gj,Gf,B3]
   cases hb:Tq zs[j].2.2 ns with
   |true =>
    rw[hb]at et;refine iteT ⟨_,rfl,rfl,?_⟩;rw[et,Fw rfl,Jf,Jf];rfl
   |false =>
    rw[hb]at et;refine iteF ⟨rfl,?_⟩;rw[et,Fv nofun,Jp]
  rintro ys _ ⟨rfl,rfl⟩;let er:zs.take (iIt (f+2) o vs (Yj zs)).n=zs:=by
   show zs.take (Yj zs).length=zs;rw[lmk,Jw]
  rw[er];exists o,vs,Yj zs,Ge (Vk Fa.h2),?_;rw[hset rfl];let hin:∀z∈Yy zs ns,z∈zs:=λz hz=>(Jz.mp hz).1;let lh:(Yy zs ns).length<=100:=Jy (B5 _ _) lz;generalize hH:Yy zs ns=hs at hin lh;let lhm:((hs.map (·.1)).map D.str).length=hs.length:=by rw[Ja,Ja]
  let eh:hs.take ((hs.map (·.1)).map D.str).length=hs:=by rw[lhm,Jw]
  let item:∀{j:Nat}{x:D},((hs.map (·.1)).map D.str)[j]?=some x->∃hj:j<hs.length,x=.str hs[j].1:=λ{j x}e=>by
   rw[Jq,Jq]at e
   by_cases hj:j<hs.length
   .rw[Jb hj]at e;exists hj,(Fz e).symm
   .rw[Bj ()]at e;cases e
  exists ·,·,?_,λj ys M'=>M=M'/\ys=((hs.take j).map λz=>((z.2.2.length:Nat):Int)).map .int,λ_ _ _ _ _=>rfl,⟨rfl,rfl⟩,?_,?_
  .show((hs.map (·.1)).map D.str).length<=Cb;rw[lhm];exact Zk ()
  .rintro j x ys _ hj hx ⟨rfl,rfl⟩;let⟨hj',rfl⟩:=item hx;let hz:=hin _ (Jn hj');exists ·,⟨f,_,rfl,Fa.h0,rfl⟩,·,f,hs[j].1,zs,rfl,Fa,λy hy e=>?_,λhn=>Fl (Jh.mpr ⟨_,hz,rfl⟩) hn;obtain rfl:=Tg Fa.nd hy hz e;exists ·,rfl,?_;rw[Je hj',Jf,Jf,Ja];rfl
  rintro ys _ ⟨rfl,rfl⟩;rw[show K0 _ hs=hs from eh];exists _,_,·,rfl,rfl,?_;rw[Zs6];exists ·,·,?_,λj ys M'=>M=M'/\ys=(((hs.take j).filter λz=>decide (z.2.2.length=topF hs)).map (·.1)).map .str,λ_ _ _ _ _=>rfl,⟨rfl,rfl⟩,?_,?_
  .show((hs.map (·.1)).map D.str).length<=Cb;rw[lhm];exact Zk ()
  .rintro j x ys _ hj hx ⟨rfl,rfl⟩;let⟨hj',rfl⟩:=item hx;let hz:=hin _ (Jn hj');exists ·,⟨f,_,rfl,Fa.h0,rfl⟩,·,f,hs[j].1,zs,rfl,Fa,λy hy e=>?_,λhn=>Fl (Jh.mpr ⟨_,hz,rfl⟩) hn;obtain rfl:=Tg Fa.nd hy hz e;exists ·,·,.inl ⟨_,rfl,_,rfl,ite2 (λh=>?_) (λh=>?_)⟩
   .let h:hs[j].2.2.length=topF hs:=by
     let:=Fk h;rw[Ja]at this;lia
    exists ·,rfl,?_;rw[Je hj',Gj,Gf,Fw (Fx h),Jf,Jf];rfl
   .let h:¬ hs[j].2.2.length=topF hs:=λw=>h (Fx (by rw[Ja,w]));exists rfl,?_;rw[Je hj',Gj,Gf,Fv (λw=>h (Fk w)),B3,Jp]
  .rintro ys _ ⟨rfl,rfl⟩;rw[show K0 _ hs=hs from eh];refine .inl (k _ _ ⟨_,rfl⟩ ?_ (Jd _));rw[<-hH];exact Yg
open L3
def Jbu(T:Txt mg){Xc:Addr}(cl:Cls K Zd)(n1:Yp K Zd "codes_by_name")(n2:Yp K Zd "marks_by_name")(Q5:Met P w K mg base Zd "by_mark" 4 ["self","row"] (spOf ⟨C,K⟩ (dByMark Zd)))(U8:MetE P w K mg base Zd "marked" 4 ["self","name","text"] (W7 ⟨C,K⟩ (dMarkedX Zd Zs Xc))){f:Addr}(F:Fun K "mistaken" "Family.mistaken" X2 f fd):FnOk P w K mg base (CXE P w) 5 f fd ["self","name","text"] (W7 ⟨C,K⟩ (dMistX Zd Zs)):=by
 refine L3.Fun.okX3 F Jap (λds M K3 KX h=>?_) (λcdv A outer s H E hr=>?_)
 .let⟨f,n,d,zs,ts,rfl,_⟩:=h;rfl
 .let SC:=Jap;let hu:=hr.units;let hu1:=Xv hr;let Zfl:Room 4 _:=hr.mono nofun;let Qu:Room 4 _:=hr.mono nofun;exists _,_,(Zf (Zu (Vr (Zb8 (K':=K) rfl hu) (Qf (pv 0) Q5 Zfl (Za (Zd8 (pv 0) U8 Qu Zhw (Za (pv 1) (Za (pv 2) Zb))) Zb)) (Yf (Za (pv 1) Zb)) (Z4 _)))),λ_ _ he hk hx=>(Xk (s_op s_ne (V1 (Z6 0) (Xt (V0 he hk hx (Z6 0) (by symm)) Va)) (by symm))),λds M Kk KX hM hD h=>?_;let⟨f,n,d,zs,ts,rfl,h⟩:=h;let⟨Fa,hd,lt,hy⟩:=h;rcases hy with⟨hn,kx⟩|⟨z,U,hz,rfl,l4,fi,fr,tx,lz,sok,k⟩
  .exists ·,⟨f,_,rfl,Fa.h0,rfl⟩,·,⟨f,_,rfl,Fa.h0,rfl⟩,·,·,f,n,d,zs,ts,rfl,Fa,hd,lt,.inl ⟨.name,hn,kx⟩
  exists ·,⟨f,_,rfl,Fa.h0,rfl⟩,·,⟨f,_,rfl,Fa.h0,rfl⟩,·,·,f,z.1,d,zs,ts,rfl,Fa,hd,lt,.inr ⟨z,U,hz,rfl,l4,fi,fr,tx,λM1 c p1 hc lc=>?_⟩;exists f,_,zs,z.2.2++Zv U,rfl,Fa.pre p1,Xj hc,lz,λM2 c2 p2 hc2 lc2=>?_;exists ·,(show 1<=Cb by decide),N5 (zs:=Xp zs (z.2.2++Zv U)) (ws:=[z.1]) (Wo (Xj hc2)).2.1 rfl (λn hn=>?_) (λn hn=>?_) (.inl (k _ (p1.trans p2)))
  .let⟨y,hy,rfl,_⟩:=Zet hn;exact sok y hy
  .rw[Jg.mp hn];exact sok z hz
open L3
abbrev mslP:Pos:=⟨110,69,110,99⟩
abbrev mslQ:Str:=Ci "Family.misled"++".<locals>."++"<lambda>"
theorem Jbd(T:Txt mg){c:Addr}(cl:Cls K Zd)(n1:Yp K Zd "codes_by_name")(n2:Yp K Zd "marks_by_name")(hCd:W.CodeHd base c Pt)(hBm:Bm mg base)(Tj:MetE P w K mg base Zd "mark" 3 ["self","name"] (W7 ⟨C,K⟩ (dMarkX Zd Zs)))(P5:Met P w K mg base Zd "code" 3 ["self","name"] (spOf ⟨C,K⟩ (λds M K=>dCodeX Zd Zs ds M K λ_ _ _=>False)))(X9:Cal P w K mg base "least_text_over" 4 ["code","row"] (spOf ⟨C,K⟩ dLto)){f:Addr}{oc:Ca}{od an:Option Addr}{osl:Array (Option Ca)}{kW doc pm ct:Ca}(lk:K.lookup f=some ⟨oc,od,.func (Lc "misled" "Family.misled" (Y4 Z1) (Yi Z1) (Zg Z1) .none kW doc pm an (.ref c) ct),osl⟩)(hcd:Ln K (.ref c) "Family.misled"=true) :
  FnOk P w K mg base (CXE P w) 5 f (Lc "misled" "Family.misled" (Y4 Z1) (Yi Z1) (Zg Z1) .none kW doc pm an (.ref c) ct) ["self","name"] (W7 ⟨C,K⟩ (dMisfX Zd Zs Pt mslP mslQ)):=by
 refine L3.Fun.okCX3 lk hcd Jbn (λds M K3 KX h=>?_) (λA outer s H E hr=>?_)
 .let⟨f,n,zs,rfl,_⟩:=h;rfl
 .let SC:=Jbn;let hu:=hr.units;let hu1:=Xv hr;let hcode:(cxE P w K mg base ["self","name","own","others","rests","texts"] "Family.misled" (Zg Z1) f (.ref c) A outer s H E).env.code=.ref c:=rfl;let Ztm:Room 2 _:=hr.mono nofun;let Sw:Room 3 _:=hr.mono nofun;let Zcz:Room 3 _:=hr.mono nofun;let Sa:Room 4 _:=hr.mono nofun;refine⟨_,_,(Zc (Zr (i:=2) SC.nd rfl (C5 rfl) (Zd8 (pv 0) Tj Sw Zhw (Za (pv 1) Zb)))
 (Zc (Yu (Zz (Wn (K':=K) rfl hu) (Zp (Yd (K:=K) rfl) (by rfl) T.b_len F6 (Za (pv 2) Zb)) Ze (Z4 _))
 (Zf (Zu (Yf Zb)))
 Z0)
 (Zc (Zhl (Wi (i:=3) SC.nd rfl rfl (T:=["other","mark"]) (cs:=[1]) rfl (CScope.ok (by kernel_rfl)) (Zd6 (Xx (pv 0) rfl)) (λ_ _ _ _=>(Wm (n:=2) rfl (Zw (Zn (i:=0) (Yw (by kernel_rfl)) rfl (Cg rfl) (C5 rfl)) (Zw (Zn (i:=1) (Yw (by kernel_rfl)) rfl (Cg rfl) (C5 rfl)) Xf)) (by rfl))) (λ_ _ _ _=>(Vc (Zz (Zb8 (K':=K) rfl hu) (pv 0) (pv 2) (Z4 _)))) (λ_ _ _ _=>(pv 1)) (Sc (Yl nofun (Yl nofun Vu)))))
 (Zc (Wi (i:=4) SC.nd rfl rfl (T:=["mark"]) (cs:=[2]) rfl (CScope.ok (by kernel_rfl)) (Z8 (pv 3)) (λ_ _ _ _=>(Zn (i:=0) (Yw (by kernel_rfl)) rfl (Cg rfl) (C5 rfl))) (λ_ _ _ _=>(Vc (Zz (Wn (K':=K) rfl hu) (Z5 (Wz (K':=K) rfl) (pv 0) Ye (Z7 (Zp (Yd (K:=K) rfl) (by rfl) T.b_len F6 (Za (pv 1) Zb)))) (pv 1) (Z4 _)))) (λ_ _ _ _=>(Z5 (Wz (K':=K) rfl) (pv 0) (Z7 (Zp (Yd (K:=K) rfl) (by rfl) T.b_len F6 (Za (pv 1) Zb))) Ye)) (Ym nofun))
 (Zc (Wi (i:=5) SC.nd rfl rfl (T:=["rest"]) (cs:=[0,1]) rfl (CScope.ok (by kernel_rfl)) (Z8 (pv 4)) (λ_ _ _ _=>(Zn (i:=0) (Yw (by kernel_rfl)) rfl (Cg rfl) (C5 rfl))) (λ_ _ _ _=>Yo) (λ_ _ _ _=>(Zt X9 Sa rfl (Za (Qf (pv 1) P5 Zcz (Za (pv 2) Zb)) (Za (pv 0) Zb)))) (Ym nofun))
 (Zf (Zu (Zk4 Ztm rfl rfl T.b_min (Za (Yv (T:=["text"]) (cs:=[]) rfl (CScope.ok (by kernel_rfl)) (Z8 (pv 5)) (λ_ _ _ _=>(Zn (i:=0) (Yw (by kernel_rfl)) rfl (Cg rfl) (C5 rfl))) (λ_ _ _ _=>(Vc (Wl (Sq (pv 0))))) (λ_ _ _ _=>(pv 0)) (Ym nofun)) Zb) hcode hCd hBm rfl rfl (by rfl') (λ_ _ _ _=>rfl) (λ_ _ _ _ _ _=>(Xd (Za (Zp (Yd (K:=K) rfl) (by rfl) T.b_len F6 (Za (pv 0) Zb)) (Za (pv 0) Zb)))))))))))),λ_ _ he hk hx=>(Zx (Vj (V0 he hk hx (Z6 0) (by symm)) (s_g 2)) (Zx (Ws (by symm) (Xk (Pj Va)) Xn) (Zx (Zg5 (Vj (Qa (Zg8 (Te (Z6 0))) (by symm) (by symm) (Z6 1)) (s_g 3))) (Zx (by symm) (Zx (Vj (Qa (s_il (Z6 4)) (s_g 0) Zdw (Zms (Xt (V1 (Z6 1) (by symm)) (by symm)))) (s_g 5)) (Xk (Zoe (by symm)))))))),λds M Kk KX hM hD h=>?_⟩
  let⟨f,n,zs,rfl,h⟩:=h;let⟨Fa,hy⟩:=h;rcases hy with⟨hn,kx⟩|⟨k0,z,hk0,⟨hz,rfl⟩,⟨fr,fi,lz,hys⟩,kN,kY⟩
  .exists ·,⟨f,_,rfl,Fa.h0,rfl⟩,·,f,n,zs,rfl,Fa,λz hz e=>Fl (Jh.mpr ⟨z,hz,e⟩) hn,λ_=>kx
  let one:∀y∈zs,y.1=z.1->y=z:=λy hy e=>Tg Fa.nd hy hz e;let mem:z.1∈zs.map (·.1):=Jh.mpr ⟨z,hz,rfl⟩;exists ·,⟨f,_,rfl,Fa.h0,rfl⟩,·,f,z.1,zs,rfl,Fa,λy hy e=>?_,λhn=>Fl mem hn;obtain rfl:=one y hy e;let lw:(y.2.2.map D.int).length=y.2.2.length:=Ja _;exists ·,·,Ww Z9 (a:=(((y.2.2.map D.int).length:Nat):Int)) (b:=0) ⟨_,rfl,ite2 (λh0=>?_) (λh0=>?_)⟩
  .let h0:y.2.2=[]:=Bd.mp (by have:=Fk h0;rw[lw]at this;lia);exists Ju _,.inl (kY _ _ [] ⟨_,rfl⟩ (Jd _) Yg ?_ (Ju _));unfold Xu;rw[Fw h0];exact Za7
  let h0:y.2.2≠[]:=λe=>h0 (Fx (by rw[e];rfl));refine⟨f+2,Yj zs,Fa.h2,_,rfl,f,Zd,_,_,rfl,Fa.h0,cl,n2,rfl,f+2,Yj zs,rfl,Fa.h2,λo vs=>?_⟩;let lmk:(Yj zs).length=zs.length:=Ja _;let hset:∀{N:Mem},M.set (f+2) (.dfK o vs (Yj zs))=N->N.set (f+2) (.dct (Yj zs))=M:=λ{N}e=>by
   rw[<-e,Je8];exact La λi=>by
    by_cases hi:f+2=i
    .subst hi;rw[Ge (Vk Fa.h2),Fa.h2]
    .rw[Gx hi]
  exists ?_,λj ys M'=>M.set (f+2) (.dfK o vs (Yj zs))=M'/\ys=(othF (zs.take j) y.1).map wD,?_,⟨rfl,rfl⟩,?_,?_
  .show(Yj zs).length<=Cb;rw[lmk];exact Zk ()
  .rintro i ys _ _ ⟨rfl,_⟩;exact Ge (Vk Fa.h2)
  .rintro j x ys _ hj ⟨kv,ekv,rfl⟩ ⟨rfl,rfl⟩;let hj:j<zs.length:=by
    let:j<(Yj zs).length:=hj;lia
   let ekv':kv=(.inr zs[j].1,wD zs[j].2.2):=by
    unfold Yj at ekv;rw[Jq,Jb hj]at ekv;exact(Fz ekv).symm
   subst ekv';let hzj:=hys _ (Jn hj);refine⟨_,rfl,rfl,_,_,rfl,_,_,rfl,rfl,?_⟩;let et:∀b,(!decide ((⟨zs[j].1,hzj.1⟩:OkS)=⟨y.1,(hys y hy).1⟩))=b->(othF (zs.take (j+1)) y.1).map wD=(othF (zs.take j) y.1).map wD++(if b=true then [wD zs[j].2.2]else []):=λb hb=>by
    unfold othF;rw[Je hj,Gj,Jf,Jf,Gf];let:decide (zs[j].1≠y.1)=b:=by
     rw[<-hb,<-decide_not,decide_eq_decide];exists λh e=>h (congrArg Subtype.val e),λh e=>h (Subtype.ext e)
    rw[this];cases b<;>rfl
   exists ·,·,Ww encS (a:=⟨zs[j].1,hzj.1⟩) (b:=⟨y.1,(hys y hy).1⟩) ⟨_,rfl,ite2 (λh=>⟨_,rfl,rfl,?_⟩) (λh=>⟨rfl,?_⟩)⟩
   .rw[et true h];rfl
   .rw[et false (Bk _ ▸ h),Fv Jr,Jp]
  rintro ys _ ⟨rfl,rfl⟩;let er:zs.take (iIt (f+2) o vs (Yj zs)).n=zs:=by
   show zs.take (Yj zs).length=zs;rw[lmk,Jw]
  rw[er];exists o,vs,Yj zs,Ge (Vk Fa.h2),?_;rw[hset rfl];let lo:(othF zs y.1).length<=100:=by unfold othF;rw[Ja];exact Nat.le_trans (B5 _ _) lz
  let ho:∀m∈othF zs y.1,m.length<=4:=λm hm=>by
   let⟨x,hx,rfl⟩:=Jh.mp hm;exact(hys x (Jz.mp hx).1).2
  let erf:Xu zs y=((othF zs y.1).filter λm=>decide (m.take y.2.2.length=y.2.2)).map λm=>m.drop y.2.2.length:=by unfold Xu;rw[if_neg h0];rfl
  rw[erf]at kN kY;generalize othF zs y.1=os at lo ho kN kY;let los:(os.map wD).length=os.length:=Ja _;exists ·,·,?_,λj ys M'=>M=M'/\ys=(((os.take j).filter λm=>decide (m.take y.2.2.length=y.2.2)).map λm=>m.drop y.2.2.length).map wD,λ_ _ _ _ _=>rfl,⟨rfl,rfl⟩,?_,?_
  .show(os.map wD).length<=Cb;rw[los];exact Zk ()
  .rintro j x ys _ hj hx ⟨rfl,rfl⟩;let⟨hj',rfl⟩:=Yr hx;refine⟨_,rfl,_,rfl,_,rfl,_,rfl,_,rfl,?_⟩;dsimp only[Ta,U9,sl3,wD];rw[X6,lw,Xm];let et:∀b,decide (os[j].take y.2.2.length=y.2.2)=b->(((os.take (j+1)).filter λm=>decide (m.take y.2.2.length=y.2.2)).map λm=>m.drop y.2.2.length).map wD=(((os.take j).filter λm=>decide (m.take y.2.2.length=y.2.2)).map λm=>m.drop y.2.2.length).map wD++(if b=true then [wD (os[j].drop y.2.2.length)]else []):=λb hb=>by
    rw[Je hj',Gj,Jf,Jf,Gf,hb];cases b<;>rfl
   refine Ww (Y5 Z9) (a:=os[j].take y.2.2.length) (b:=y.2.2) ⟨_,rfl,ite2 (λh=>?_) (λh=>⟨rfl,?_⟩)⟩
   .exists ·,·,·,·,?_;dsimp only[Sj,Ta,U9,sl3,wD];rw[X6,lw,Uh];exists rfl,?_;rw[et true h];rfl
   .rw[et false (Bk _ ▸ h),Fv Jr,Jp]
  rintro ys _ ⟨rfl,rfl⟩;rw[show os.take (os.map wD).length=os from by rw[los,Jw]];let lr:((os.filter λm=>decide (m.take y.2.2.length=y.2.2)).map λm=>m.drop y.2.2.length).length<=100:=by rw[Ja];exact Jy (B5 _ _) lo
  let hr:∀r∈(os.filter λm=>decide (m.take y.2.2.length=y.2.2)).map λm=>m.drop y.2.2.length,r.length<=4:=λr hr=>by
   let⟨m,hm,rfl⟩:=Jh.mp hr;rw[Gn];let:=ho m (Jz.mp hm).1;lia
  generalize (os.filter λm=>decide (m.take y.2.2.length=y.2.2)).map (λm=>m.drop y.2.2.length)=rs at lr hr kN kY;let lrm:(rs.map wD).length=rs.length:=Ja _;exists ·,·,?_,λj ys M'=>M<+:M'/\∃os:List (Option (List Int)),Paired (Zb1 M.length M') ys os/\os.length=j/\∀(i:Nat)(h1:i<rs.length)(h2:i<os.length),Yq y.2.1 [rs[i]] os[i],λ_ _ _ _ _=>rfl,⟨Ji _,[],.nil,rfl,λi h1 h2=>Fl h2 (Gp _)⟩,?_,?_
  .show(rs.map wD).length<=Cb;rw[lrm];exact Zk ()
  .rintro j x ys M1 hj hx ⟨p1,os,po,rfl,hl⟩;let⟨hj',rfl⟩:=Yr hx;let F1:=Fa.pre p1;let nxt:∀(o:Option (List Int)),Yq y.2.1 [rs[os.length]] o->∀(i:Nat)(h1:i<rs.length)(h2:i<(os++[o]).length),Yq y.2.1 [rs[i]] (os++[o])[i]:=λo lo i h1 h2=>by
    by_cases hi:i<os.length
    .rw[List.getElem_append_left hi];exact hl i h1 hi
    .let:i=os.length:=by rw[Jc,Ba]at h2;lia
     subst this;rw[List.getElem_append_right (Jd _)];simpa using lo
   exists ·,⟨f,_,rfl,F1.h0,rfl⟩,·,f,y.1,zs,rfl,F1,λy' hy' e'=>?_,λhn=>Fl mem hn;obtain rfl:=one y' hy' e';exists ·,y'.2.1,rs[os.length],rfl,⟨fr,fi,hr _ (Jn hj')⟩,λM2 p2 lo=>?_,λM2 c t p2 lc hc lo l5=>?_
   .exists p1.trans p2,os++[none],Paired.snoc (show Zb1 M.length M2 .non none from rfl) (Paired.mapP po λ_ _ h=>h.pre p2),by rw[Jc];rfl,nxt _ lo
   .exists p1.trans p2,os++[some t],Paired.snoc (show Zb1 M.length M2 (.cell c) (some t)from⟨c,rfl,by have:=p1.length_le;lia,hc,l5⟩) (Paired.mapP po λ_ _ h=>h.pre p2),by rw[Jc];rfl,nxt _ lo
  rintro xs M1 ⟨p1,os,po,lo,hl⟩;let lo:os.length=(rs.map wD).length:=lo;let lc:=Zfg () hl;let lx:xs.length=os.length:=Paired.length po;exists ·,·,?_,λj ys M'=>M1=M'/\ys=(xs.take j).filter λd=>!d.isN,λ_ _ _ _ _=>rfl,⟨rfl,rfl⟩,?_,?_
  .show xs.length<=Cb;exact Zk ()
  .rintro j x ys _ hj hx ⟨rfl,rfl⟩;let hj:j<xs.length:=hj;let hx:xs[j]?=some x:=hx;rw[Jb hj]at hx;obtain rfl:=Fz hx;let et:∀b,(!xs[j].isN)=b->(xs.take (j+1)).filter (λd=>!d.isN)=(xs.take j).filter (λd=>!d.isN)++(if b=true then [xs[j]]else []):=λb hb=>by
    rw[Je hj,Gj,Gf,hb];cases b<;>rfl
   exists ·,·,ite2 (λh=>⟨_,rfl,rfl,(et true h).symm⟩) (λh=>⟨rfl,?_⟩);rw[et false (Bk _ ▸ h),Fv Jr,Jp]
  rintro ys _ ⟨rfl,rfl⟩;rw[show xs.take xs.length=xs from Jw];let ps:=Na po;let lps:=Paired.length ps;generalize xs.filter (λd=>!d.isN)=us at ps lps;exists k0,_,us,os.filterMap id,rfl,Ya p1 hk0,rfl,lps,λi h1 h2=>?_,λe=>?_,λk hk ek=>?_
  .let⟨c,e,_,hc,_⟩:=Paired.at ps h1 h2;rw[e];simp only[Xg,hc]
  .rw[Fw (List.eq_nil_of_length_eq_zero (by rw[<-lps,e];rfl))]at lc;exact .inl (kN M1 p1 lc)
  .let hk2:k<(os.filterMap id).length:=by lia
   let⟨c,e,lcn,hc,l5⟩:=Paired.at ps hk hk2;rw[Fv (λz=>by rw[z]at hk2;exact Gp _ hk2)]at lc;let ekm:(os.filterMap id)[k]=Rf (os.filterMap id):=by
    unfold Rf;rw[<-ek,Jx,Jb hk2];rfl
   rw[<-ekm]at lc;rw[e];exact .inl (kY M1 c _ p1 lcn hc lc l5)
open L3
abbrev Np:Str:=Ci "abcdefghijklmnopqrstuvwxyz"
def mvN(cs:List Nat)(a lg j:Nat):List Nat:=cs.set a ((cs[a]?.getD 0+3*j) % 26)++Co (lg*j % 2) a
theorem Zo8{a j:Nat}(h:∀c∈cs,c<26)(ha:a<26):∀c∈mvN cs a lg j,c<26:=λc hc=>by
 rcases J9.mp hc with z|z
 .rcases Ko z with y|y
  .exact h c y
  .rw[y];lia
 .rw[(List.mem_replicate.mp z).2];exact ha
def Pn{a j:Nat}:(mvN cs a lg j).length=cs.length+lg*j % 2:=by
 unfold mvN;rw[Jc,Gs,List.length_replicate]
theorem Zvz{a j:Nat}(ha:a<cs.length)(hij:i<j)(hj:j<9):mvN cs a lg i≠mvN cs a lg j:=λe=>by
 let at_:∀k,(mvN cs a lg k)[a]?=some ((cs[a]?.getD 0+3*k) % 26):=λk=>by
  unfold mvN;rw[J0 (by rw[Gs];exact ha),Ge ha]
 let:=at_ i;rw[e,at_ j]at this;let:=Fz this;lia
theorem Zs7{a n:Nat}(ha:a<cs.length)(hn:n<=9):((Cv n).map λj=>nmS (mvN cs a lg j)).Nodup:=by
 rw[List.nodup_iff_pairwise_ne,Gm];let:(Cv n).Pairwise (· < ·):=List.pairwise_lt_range;refine this.imp_of_mem λ{i j}hi hj hij e=>Zvz ha hij ?_ (Zs3 e);let:=Bs.mp hj;lia
theorem Zip{n j:Nat}(h:j<n):ixN n (j:Int)=some j:=by
 unfold ixN;rw[Fw (),Fw (),G8]
def Zg1{X:Mem} :(M++[m]++X).set M.length m'=M++[m']++X:=by
 rw[Gg,Gg,Lg _ _ (Jd _),Nat.sub_self];rfl
def Zc1{X:Mem} :(M++[m]++X)[M.length]?=some m:=by
 rw[Gg,Go (Jd _),Nat.sub_self];rfl
theorem Jcn(T:Txt mg)(Zi:Cal P w K mg base "_law_draw" 1 ["_law_hand","_law_many"] (spOf ⟨C,K⟩ dDraw)){f:Addr}(F:Fun K "_law_names" "_law_names" Dj f fd):FnOk P w K mg base CX0 2 f fd ["_law_hand","_law_many"] (spOf ⟨C,K⟩ dNames41):=by
 refine L3.Fun.ok3 F Jbh (λds M K3 h=>?_) (λcdv A outer s H E hr=>?_)
 .let⟨k0,n,rfl,_⟩:=h;rfl
 .let SC:=Jbh;let hu:=hr.units;let hu1:=Xv hr;let Zj:Room 1 _:=hr.mono nofun;refine⟨_,_,(Zc (Zr (i:=2) SC.nd rfl (C5 rfl) Qe)
 (Zc (Wi (i:=3) SC.nd rfl rfl (T:=["_law_k"]) (cs:=[0]) rfl (CScope.ok (by kernel_rfl)) (Yb rfl T.b_range (Za (Zy (Y7 (K':=K) rfl) Ze (Zt Zi Zj rfl (Za (pv 0) (Za Ze Zb)))) Zb)) (λ_ _ _ _=>(Zn (i:=0) (Yw (by kernel_rfl)) rfl (Cg rfl) (C5 rfl))) (λ_ _ _ _=>Yo) (λ_ _ _ _=>(Zt Zi Zj rfl (Za (pv 1) (Za Ze Zb)))) (Ym nofun))
 (Zc (Zr (i:=4) SC.nd rfl (Cg rfl) (Zy Xe (Zt Zi Zj rfl (Za (pv 0) (Za Ze Zb))) (Zp (Yd (K:=K) rfl) (by rfl) T.b_len F6 (Za (pv 3) Zb))))
 (Zc (Zr (i:=5) SC.nd rfl (Cg rfl) (Zt Zi Zj rfl (Za (pv 0) (Za Ze Zb))))
 (Zc (Zr (i:=6) SC.nd rfl (Cg rfl) (Yf Zb))
 (Zc (Y8 Cm rfl (Yb rfl T.b_range (Za (pv 1) Zb)) (Zn (i:=7) SC.nd rfl (Cg rfl))
 (Zc (Zr (i:=8) SC.nd rfl (Cg rfl) (Z2 (Uk (K:=K) rfl) (by rfl) T.b_list Cp (Za (pv 3) Zb)))
 (Zc (Pl (Zy Xe (Zy (Y7 (K':=K) rfl) (Yc (Y6 (K':=K) rfl) (pv 3) (pv 4) (λ_ _=>rfl)) (Zy Zam Ze (pv 7))) Ze) (Zhq (pv 8) (pv 4) Ro))
 (Zf (Wu (Qg Cz C9 Ea We (pv 6) (Za (Qg PySem.F.plainAttrs_str PySem.F.slot_str_join PySem.F.type_str_join (Zqd (K:=K) rfl) Qe (Za (Yv (T:=["_law_one"]) (cs:=[2]) rfl (CScope.ok (by kernel_rfl)) (Z8 (Zy (Y7 (K':=K) rfl) (pv 8) (Zy Zam (Yf (Za (pv 4) Zb)) (Zy Xe (Zy Zam (pv 5) (pv 7)) Ze)))) (λ_ _ _ _=>(Zn (i:=0) (Yw (by kernel_rfl)) rfl (Cg rfl) (C5 rfl))) (λ_ _ _ _=>Yo) (λ_ _ _ _=>(Yc (Y6 (K':=K) rfl) (pv 1) (pv 0) (λ_ _=>rfl))) (Ym nofun)) Zb)) Zb)))))))
 (Zc (Yu (PW.pt (Rc (Zz Za1 (pv 1) Ze (Z4 _)) (Rc (Zz Za1 (Zp (Yd (K:=K) rfl) (by rfl) T.b_len F6 (Za (pv 3) Zb)) Ze (Z4 _)) (Tp (Zz (Wn (K':=K) rfl hu) (Zt Zi Zj rfl (Za (pv 0) (Za Ze Zb))) Ze (Z4 _))))))
 (Zf (Pl (Z5 (Wz (K':=K) rfl) (Yc (Y6 (K':=K) rfl) (pv 6) Ze (λ_ _=>rfl)) Ye (Z7 (Zy Zhz (Zp (Yd (K:=K) rfl) (by rfl) T.b_len F6 (Za (pv 3) Zb)) Ze))) (Zhq (pv 6) Ze Ro)))
 Z0)
 (Zf (Zu (pv 6)))))))))),λ_=>(Zx (by symm) (Zx (by symm) (Zx (by symm) (Zx (by symm) (Zx (Vj (Pj Va) (s_g 6)) (Zx (Ri (by symm) (s_g 7) (Zx (Vj (s_cb Zog (by symm)) (s_g 8)) (Zx (Vj (by symm) (Zmp (Z6 8) (Z6 4))) (Rb (Nj (Z6 6) (Xt (Zsa Zr2 (by symm)) Va)))))) (Zx (Ws (by symm) (Vj (by symm) (Zmp (Z6 6) Zg9)) Xn) (Xk (Z6 6))))))))),λds M Kk hM hD h=>?_⟩
  let⟨k0,n,rfl,h⟩:=h;let⟨hk,hn,k⟩:=h;let kl:=Vk hk;exists ·,k0,7,rfl,hk,⟨nofun,nofun⟩,λr r0 r1=>?_;refine add_int ?_;exists 1+r,rfl,⟨(),()⟩,?_,λj ys M'=>M=M'/\∃cs:List Nat,cs.length=j/\(∀c∈cs,c<26)/\ys=cs.map λc:Nat=>D.int c,λ_ _ _ _ _=>trivial,⟨rfl,[],rfl,(λ_ h=>nomatch h),rfl⟩,?_,?_
  .show((1+r).toNat)<=Cb;exact Zk ()
  .rintro j x ys _ hj rfl ⟨rfl,cs,rfl,hc,rfl⟩;exists ·,k0,26,rfl,hk,⟨nofun,nofun⟩,λq q0 q1=>⟨rfl,cs++[q.toNat],by rw[Jc];rfl,λc hc'=>?_,?_⟩
   .rcases J9.mp hc' with z|z
    .exact hc c z
    .rw[Jg.mp z];lia
   .rw[Jf,show q=((q.toNat:Nat):Int)by lia];rfl
  rintro ys _ ⟨rfl,cs,lc,hc,rfl⟩;let lc:cs.length=(1+r).toNat:=lc;let lcm:(cs.map λc:Nat=>D.int c).length=cs.length:=Ja _;exists ·,k0,7,rfl,hk,⟨nofun,nofun⟩,λq q0 q1=>?_;let l0:(0:Int)<((cs.map λc:Nat=>D.int c).length:Int):=by rw[lcm];lia
  let⟨a,ea,ha⟩:=Zee q (n:=(cs.map λc:Nat=>D.int c).length) ();rw[lcm]at ha;exists ·,·,_,·,rfl,l0,?_
  try dsimp only
  rw[ea];let ha26:a<26:=by lia
  exists ·,k0,2,rfl,hk,⟨nofun,nofun⟩,λg g0 g1=>?_;obtain⟨lg,rfl⟩:∃lg:Nat,g=lg:=⟨g.toNat,()⟩;let hlg:lg<2:=by lia
  exists Ju _,?_;exists ·,·,⟨(),()⟩,λi ρ M'=>∃(v7 v8:Option D)(X:Mem),ρ=[some (.cell k0),some (.int n),some (.str Np),some (.lst (cs.map λc:Nat=>D.int c)),some (.int a),some (.int lg),some (.cell M.length),v7,v8]/\M++[.lst (((Cv i).map λj=>nmS (mvN cs a lg j)).map .str)]++X=M',λ_ _ _ _ _=>trivial,⟨_,_,[],rfl,by rw[Jp];rfl⟩,?_,?_
  .rintro i x ρ _ hi rfl ⟨v7,v8,X,rfl,rfl⟩;let hi:i<n:=by
    let:i<((n:Int)).toNat:=hi;lia
   let e0:(0:Int)+(i:Int)=(i:Int):=B9 _;rw[e0];generalize hN:M++[MO.lst (((Cv i).map λj=>nmS (mvN cs a lg j)).map .str)]++X=N;refine⟨_,rfl,_,_,rfl,rfl,?_⟩;refine⟨_,rfl,_,rfl,_,_,_,rfl,rfl,S0 (j:=a) rfl ha,_,rfl,.inl ⟨nofun,nofun⟩,?_⟩;refine add_int ?_;refine⟨_,_,rfl,rfl,(show(0:Int)<26 by decide),?_⟩;refine⟨_,rfl,_,rfl,N.length,_,_,a,rfl,rfl,Yg,Zip (by rw[lcm];exact ha),?_⟩;rw[U1];let ecs:(cs.map λc:Nat=>D.int c).set a (.int (((cs[a]:Nat)+3*(i:Int)) % 26))=(cs.set a ((cs[a]?.getD 0+3*i) % 26)).map λc:Nat=>D.int c:=by
    rw[List.map_set,Jb ha]
    congr 1
   rw[ecs];let hmid:(N++[MO.lst ((cs.set a ((cs[a]?.getD 0+3*i) % 26)).map λc:Nat=>D.int c)])[M.length]?=some (.lst (((Cv i).map λj=>nmS (mvN cs a lg j)).map .str)):=Y1 (by rw[<-hN];exact Zc1);exists ·,Ua (Xj hmid),?_;exists ·,?_;exists ·,·,(show 1<=Cb by decide),·,·,.inl ⟨(),()⟩,_,·,rfl,(show(0:Int)<2 by decide),_,·,rfl,⟨(),(),?_⟩,?_
   .show 1*_<=Cb;exact Zk ()
   let elg:((lg:Int)*(i:Int) % 2).toNat=lg*i % 2:=by lia
   try dsimp only
   rw[elg];let emv:((cs.set a ((cs[a]?.getD 0+3*i) % 26)).map λc:Nat=>D.int c)++(Co (lg*i % 2) [D.int a]).flatten=(mvN cs a lg i).map λc:Nat=>D.int c:=by
    unfold mvN;rw[Jf,List.map_replicate]
    congr 1
    generalize lg*i % 2=t
    induction t with
    |zero=>rfl
    |succ t ih=>rw[G3,Bn,ih,G3];rfl
   let lmv:(mvN cs a lg i).length<=8:=by rw[Pn];lia
   exists _,_,Su,rfl,?_,?_
   .rw[<-Jc,emv,Ja];exact Zk ()
   rw[emv];exists ·,?_,λj ys M'=>N++[MO.lst ((cs.set a ((cs[a]?.getD 0+3*i) % 26)).map λc:Nat=>D.int c)]=M'/\ys=(((mvN cs a lg i).take j).map λc=>(⟨#[97+c]⟩:Str)).map D.str,λ_ _ _ _ _=>rfl,⟨rfl,rfl⟩,?_,?_
   .show((mvN cs a lg i).map λc:Nat=>D.int c).length<=Cb;rw[Ja];exact Zk ()
   .rintro j x ys _ hj hx ⟨rfl,rfl⟩;let⟨hj',rfl⟩:=Yr hx;let hlt:=Zo8 (lg:=lg) (j:=i) hc ha26 _ (Jn hj');exists ·,·,_,·,(show Np.length<=Cb by decide),Zvy hlt,rfl,?_;rw[Je hj',Jf,Jf];rfl
   rintro ys _ ⟨rfl,rfl⟩;let er:(mvN cs a lg i).take ((mvN cs a lg i).map λc:Nat=>D.int c).length=mvN cs a lg i:=by rw[Ja,Jw]
   rw[show K0 _ (mvN cs a lg i)=mvN cs a lg i from er];exists _,·,rfl,?_,?_
   .rw[Gh,Ja];let:((mvN cs a lg i).map ((λx:Str=>x.length) ∘ λc=>(⟨#[97+c]⟩:Str))).sum=(mvN cs a lg i).length:=by
     generalize mvN cs a lg i=l
     induction l with
     |nil=>rfl
     |cons c l ih=>rw[Jo,List.sum_cons,ih,Jv];show 1+_=_;lia
    rw[this];show _+_*0<=_;lia
   rw[Zo6];exists M.length,_,·,rfl,hmid,?_,.inl ⟨_,_,X++[MO.lst ((cs.set a ((cs[a]?.getD 0+3*i) % 26)).map λc:Nat=>D.int c)],rfl,?_⟩
   .rw[Ja,Ja,G9];exact Ga hi (Zk ())
   .rw[<-hN,Gg _ X _,Zg1,L5,Jf,Jf];rfl
  .rintro ρ _ ⟨v7,v8,X,rfl,rfl⟩;let eN:(Zhf 0 ((n:Int)).toNat).n=n:=G8 n;rw[eN];let zl:((Cv n).map λj=>nmS (mvN cs a lg j)).length=n:=by rw[Ja,G9]
   let znd:=Zs7 (lg:=lg) ha (by lia:n<=9);let zok:∀z∈(Cv n).map λj=>nmS (mvN cs a lg j),z.length<=8/\C6 z=true:=λz hz=>by
    let⟨j,_,rfl⟩:=Jh.mp hz;exists by rw[Qi,Pn];lia,Zs2 (Zo8 hc ha26)
   let zge:∀z∈(Cv n).map λj=>nmS (mvN cs a lg j),cs.length<=z.length:=λz hz=>by
    let⟨j,_,rfl⟩:=Jh.mp hz;rw[Qi,Pn];lia
   let zal:∀z∈(Cv n).map λj=>nmS (mvN cs a lg j),cs.length<=z.length+1/\z.length<=cs.length+1:=λz hz=>by
    let⟨j,_,rfl⟩:=Jh.mp hz;rw[Qi,Pn];lia
   let fin:∀(zs:List Str)(Y:Mem),zs.Nodup->zs.length=n->(∀z∈zs,z.length<=8/\C6 z=true)->(∀z∈zs,cs.length<=z.length+1/\z.length<=cs.length+1)->Dk M.length Kk (.cell M.length) (M++[.lst (zs.map .str)]++Y):=λzs Y h1 h2 h3 h4=>by
    let et:(M++[MO.lst (zs.map .str)]++Y).take (M.length+1)=M++[MO.lst (zs.map .str)]:=by
     rw[List.take_append_of_le_length (by rw[Jc];exact Jd _),Be (by rw[Jc];exact Jd _)]
    refine .inr ⟨M.length+1,G2 _,P3 (Bc _),λm hm=>?_,by rw[et];exact k zs h1 h2 h3 (Zo7 h4)⟩;rw[et]at hm;rcases J9.mp hm with z|z
    .exact(hM m z).up (G2 _)
    .rw[Jg.mp z];refine Zne λd hd=>?_;let⟨y,_,rfl⟩:=Jh.mp hd;exact Zbw
   generalize hz:(Cv n).map (λj=>nmS (mvN cs a lg j))=zs at zl znd zok zge zal
   try dsimp only
   refine Q8 (λρ' M'=>∃(zs:List Str)(Y:Mem),zs.Nodup/\zs.length=n/\(∀z∈zs,z.length<=8/\C6 z=true)/\(∀z∈zs,cs.length<=z.length+1/\z.length<=cs.length+1)/\M++[.lst (zs.map .str)]++Y=M'/\ρ'=[some (.cell k0),some (.int n),some (.str Np),some (.lst (cs.map λc:Nat=>D.int c)),some (.int a),some (.int lg),some (.cell M.length),v7,v8]) (λKn hn'=>?_) ?_
   .exists ·,_,·,rfl,·,ite2 (λh=>?_) (λh=>iteF (hn' _ _ ⟨zs,X,znd,zl,zok,zal,rfl,rfl⟩));let h1:1<n:=by have:=Fk h;lia
    exists ·,·,_,·,rfl,·,ite2 (λh=>?_) (λh=>iteF (hn' _ _ ⟨zs,X,znd,zl,zok,zal,rfl,rfl⟩));let h2:1<cs.length:=by have:=Fk h;rw[lcm]at this;lia
    let hk':∀{Y:Mem},(M++Y)[k0]?=some .hand:=λ{Y}=>by rw[J0 kl];exact hk
    refine⟨_,rfl,k0,2,rfl,by rw[Gg];exact hk',⟨nofun,nofun⟩,λy y0 y1=>.inl ⟨_,rfl,_,rfl,ite2 (λh=>?_) (λh=>hn' _ _ ⟨zs,X,znd,zl,zok,zal,rfl,rfl⟩)⟩⟩;let z0:zs[0]?=some (nmS (mvN cs a lg 0)):=by
     rw[<-hz,Jq,List.getElem?_range ()];rfl
    let e0m:(zs.map D.str)[0]?=some (.str (nmS (mvN cs a lg 0))):=by rw[Jq,z0];rfl
    refine⟨_,rfl,_,_,_,(Wo (Xj Zc1)).2.2,rfl,Ul (j:=0) rfl e0m,?_⟩;let l0z:=zok _ (Gq z0);let hcut:Txt.slice (nmS (mvN cs a lg 0)) none (some (((cs.map λc:Nat=>D.int c).length:Int)-1))=nmS ((mvN cs a lg 0).take (cs.length-1)):=by
     rw[lcm,show((cs.length:Int)-1)=((cs.length-1:Nat):Int)by lia];exact Zs4 (by rw[Pn];lia)
    let lcut:(nmS ((mvN cs a lg 0).take (cs.length-1))).length=cs.length-1:=by rw[Qi,J8,Pn];lia
    exists ·,·,_,·,rfl,·,Jy l0z.1 nofun,?_;rw[hcut];exists ·,M.length,_,_,1,rfl,rfl,Zc1,Zip (j:=1) (by rw[Ja,zl];exact h1),?_;rw[Zg1];refine hn' _ _ ⟨zs.set 1 (nmS ((mvN cs a lg 0).take (cs.length-1))),X,Zh7 znd (λw=>?_) 1,by rw[Gs];exact zl,λz hz'=>?_,λz hz'=>?_,by rw[List.map_set],rfl⟩
    .let:=zge _ w;lia
    .rcases Ko hz' with y|y
     .exact zok z y
     .rw[y];exists by lia,Zs2 λc hc'=>Zo8 hc ha26 c (Bl hc')
    .rcases Ko hz' with y|y
     .exact zal z y
     .rw[y];lia
   .rintro _ _ ⟨zs,Y,h1,h2,h3,h4,rfl,rfl⟩;exists ·,fin zs Y h1 h2 h3 h4
open L3
def Zho{bs:List Int}(h:bs≠[])(y:Int):∃b∈bs,L2.atI (bs.map D.int) (y % ((bs.map D.int).length:Int))=some (.int b):=by
 let h0:0<bs.length:=Gi.mpr h;let⟨a,ea,ha⟩:=Zee y (n:=(bs.map D.int).length) (by rw[Ja];exact h0);rw[Ja]at ha;exact⟨bs[a],Jn ha,by rw[ea];exact S0 (j:=a) rfl ha⟩
theorem Zki{y d:Int}(h1:1<=y)(h2:y<4)(d0:0<=d)(d1:d<3):∃t:Int,L2.atI [D.int 0,D.int 1,D.int (1+d)] (y-1)=some (.int t)/\0<=t/\t<=3:=by
 let:y=1\/y=2\/y=3:=by lia
 rcases this with rfl|rfl|rfl
 .exact⟨0,rfl,(),()⟩
 .exact⟨1,rfl,(),()⟩
 .exact⟨1+d,rfl,(),()⟩
theorem De(T:Txt mg)(Zi:Cal P w K mg base "_law_draw" 1 ["_law_hand","_law_many"] (spOf ⟨C,K⟩ dDraw)){f:Addr}(F:Fun K "_law_mark" "_law_mark" Jal f fd):FnOk P w K mg base CX0 2 f fd ["_law_hand","_law_some","_law_marks"] (spOf ⟨C,K⟩ dMark41):=by
 refine L3.Fun.ok3 F Jbk (λds M K3 h=>?_) (λcdv A outer s H E hr=>?_)
 .let⟨k0,bs,ms,rfl,_⟩:=h;rfl
 .let SC:=Jbk;let hu:=hr.units;let hu1:=Xv hr;let Zj:Room 1 _:=hr.mono nofun;refine⟨_,_,(Zc (Zr (i:=3) SC.nd rfl (Cg rfl) (Zt Zi Zj rfl (Za (pv 0) (Za Ze Zb))))
 (Zc (Yu (Zz (Wn (K':=K) rfl hu) (pv 3) Ze (Z4 _))
 (Zf (Zu (Xd Zb)))
 Z0)
 (Zc (Yu (PW.pt (Rc (Zz Zh1 (pv 3) Ze (Z4 _)) (Tp (Zz (Zb8 (K':=K) rfl hu) (pv 2) (Yf Zb) (Z4 _)))))
 (Zc (Zr (i:=4) SC.nd rfl (Cg rfl) (Yc (Y6 (K':=K) rfl) (pv 2) (Zy Xe (Zt Zi Zj rfl (Za (pv 0) (Za Ze Zb))) (Zp (Yd (K:=K) rfl) (by rfl) T.b_len F6 (Za (pv 2) Zb))) (λ_ _=>rfl)))
 (Zc (Y8 Cm rfl (Yb rfl T.b_range (Za (Yc (Y6 (K':=K) rfl) (Yf (Za Ze (Za Ze (Za (Zy (Y7 (K':=K) rfl) Ze (Zt Zi Zj rfl (Za (pv 0) (Za Ze Zb)))) Zb)))) (Zy Zhz (pv 3) Ze) (λ_ _=>rfl)) Zb)) (Zn (i:=5) SC.nd rfl (Cg rfl))
 (Zf (Yu (Zz Zh1 (Zp (Yd (K:=K) rfl) (by rfl) T.b_len F6 (Za (pv 4) Zb)) Ze (Z4 _))
 (Zf (Zr (i:=4) SC.nd rfl (Cg rfl) (Zy (Zf7 (K':=K) rfl) (pv 4) (Xd (Za (Yc (Y6 (K':=K) rfl) (pv 1) (Zy Xe (Zt Zi Zj rfl (Za (pv 0) (Za Ze Zb))) (Zp (Yd (K:=K) rfl) (by rfl) T.b_len F6 (Za (pv 1) Zb))) (λ_ _=>rfl)) Zb)))))
 Z0)))
 (Zf (Zu (pv 4)))))
 Z0)
 (Zf (Zu (Z2 (P0 (K:=K) rfl) (by rfl) T.b_tuple Ec (Za (Yv (T:=["_law_k"]) (cs:=[1,0]) rfl (CScope.ok (by kernel_rfl)) (Yb rfl T.b_range (Za (Zy (Y7 (K':=K) rfl) Ze (Zt Zi Zj rfl (Za (pv 0) (Za Ze Zb)))) Zb)) (λ_ _ _ _=>(Zn (i:=0) (Yw (by kernel_rfl)) rfl (Cg rfl) (C5 rfl))) (λ_ _ _ _=>Yo) (λ_ _ _ _=>(Yc (Y6 (K':=K) rfl) (pv 1) (Zy Xe (Zt Zi Zj rfl (Za (pv 2) (Za Ze Zb))) (Zp (Yd (K:=K) rfl) (by rfl) T.b_len F6 (Za (pv 1) Zb))) (λ_ _=>rfl))) (Ym nofun)) Zb))))))),λ_=>(Zx (by symm) (Zx (by symm) (Zx (Ws (by symm) (Zx (by symm) (Zx (Ri (by symm) (s_g 5) (Ws (by symm) (Vj (s_op Zmt (Z6 4) (by symm)) (s_g 4)) Xn)) (Xk (Z6 4)))) Xn) (by symm)))),λds M Kk hM hD h=>?_⟩
  let⟨k0,bs,ms,rfl,h⟩:=h;let⟨hk,⟨hb,lb,lm,hm⟩,k⟩:=h;let b0:(0:Int)<((bs.map D.int).length:Int):=by rw[Ja];let:=Gi.mpr hb;lia
  exists ·,k0,6,rfl,hk,⟨nofun,nofun⟩,λy y0 y1=>?_;exists ·,.inl ⟨_,rfl,_,rfl,ite2 (λh=>?_) (λh=>?_)⟩
  .exists Ju _,.inl (k [] (Ju _) λ_ h=>nomatch h)
  let hy:y≠0:=λe=>h (Fx e);dsimp only[Zqz,Zgc,Zgb,Zf9,Sk,Rz,Zew,Zga,Ta,U9,Zan];refine Q8 (λρ' M'=>ρ'=[some (.cell k0),some (.lst (bs.map .int)),some (.lst (ms.map wD)),some (.int y),none,none]/\M=M') (λKn hn=>?_) ?_
  .exists ·,_,·,rfl,·,ite2 (λh=>?_) (λh=>iteF (hn _ _ ⟨rfl,rfl⟩));let hy4:y<4:=Fk h;exists ·,Ju _,Sz (Y5 Z9) (a:=ms) (b:=[]) rfl rfl ⟨_,rfl,?_⟩
   by_cases e:ms=[]
   .rw[Fx e];exact iteF (hn _ _ ⟨rfl,rfl⟩)
   rw[Fy e];refine iteT ?_;let lmm:(ms.map wD).length=ms.length:=Ja _;let m0:0<ms.length:=Gi.mpr e;let m0':(0:Int)<((ms.map wD).length:Int):=by rw[lmm];lia
   exists ·,·,k0,60,rfl,hk,⟨nofun,nofun⟩,λz z0 z1=>?_;let⟨a,ea,ha⟩:=Zee z (n:=(ms.map wD).length) (by rw[lmm];exact m0);rw[lmm]at ha;exists ·,·,_,·,rfl,m0',?_
   try dsimp only
   rw[ea];exists _,_,·,rfl,S0 (j:=a) rfl ha,?_;exists ·,k0,3,rfl,hk,⟨nofun,nofun⟩,λd d0 d1=>?_;let⟨t,et,t0,t3⟩:=Zki (y:=y) () hy4 d0 d1;refine add_int ?_;exists(show 3<=Cb by decide),·,_,·,rfl,_,_,·,rfl,et,t,rfl,⟨(),()⟩,?_;exists λi ρ M'=>∃(mk:List Int)(v5:Option D),ρ=[some (.cell k0),some (.lst (bs.map .int)),some (.lst (ms.map wD)),some (.int y),some (wD mk),v5]/\M=M'/\mk.length<=4/\∀b∈mk,b∈bs,λ_ _ _ _ _=>trivial,⟨ms[a],_,rfl,rfl,(hm _ (Jn ha)).1,(hm _ (Jn ha)).2⟩,?_,?_
   .rintro i x ρ _ hi rfl ⟨mk,v5,rfl,rfl,l4,hmk⟩;let lk:(mk.map D.int).length=mk.length:=Ja _;exists ·,·,_,·,rfl,·,ite2 (λh=>?_) (λh=>.inl ⟨mk,_,rfl,rfl,l4,hmk⟩);let h4:mk.length<4:=by have:=Fk h;rw[lk]at this;lia
    exists ·,·,·,k0,60,rfl,hk,⟨nofun,nofun⟩,λu u0 u1=>?_;let⟨b,hb',eb⟩:=Zho hb u;exists ·,·,_,·,rfl,b0,_,_,·,rfl,eb,(show 1<=Cb by decide),_,·,rfl,?_,?_
    .rw[lk];exact Zk (by show mk.length+1<=100000;lia)
    let em:D.tup (mk.map .int++[.int b])=wD (mk++[b]):=by
     unfold wD;rw[Jf];rfl
    rw[em];refine .inl ⟨mk++[b],_,rfl,rfl,by rw[Jc];exact h4,λc hc=>?_⟩;rcases J9.mp hc with w|w
    .exact hmk c w
    .rw[Jg.mp w];exact hb'
   .rintro ρ _ ⟨mk,v5,rfl,rfl,l4,hmk⟩;exists ·,.inl (k mk l4 hmk)
  rintro _ _ ⟨rfl,rfl⟩;exists ·,k0,3,rfl,hk,⟨nofun,nofun⟩,λd d0 d1=>?_;refine add_int ?_;exists 1+d,rfl,⟨(),()⟩,?_,λj ys M'=>M=M'/\∃mk:List Int,mk.length=j/\(∀b∈mk,b∈bs)/\ys=mk.map .int,λ_ _ _ _ _=>trivial,⟨rfl,[],rfl,(λ_ h=>nomatch h),rfl⟩,?_,?_
  .show(1+d).toNat<=Cb;exact Zk ()
  .rintro j x ys _ hj rfl ⟨rfl,mk,rfl,hmk,rfl⟩;exists ·,·,k0,60,rfl,hk,⟨nofun,nofun⟩,λu u0 u1=>?_;let⟨b,hb',eb⟩:=Zho hb u;refine⟨_,rfl,_,rfl,_,_,rfl,rfl,b0,_,_,_,rfl,rfl,eb,rfl,mk++[b],by rw[Jc];rfl,λc hc=>?_,by rw[Jf];rfl⟩;rcases J9.mp hc with w|w
   .exact hmk c w
   .rw[Jg.mp w];exact hb'
  .rintro ys _ ⟨rfl,mk,lk,hmk,rfl⟩;let lk:mk.length=(1+d).toNat:=lk;exists _,·,rfl,.inl (k mk () hmk)
open L3
theorem Jat(T:Txt mg)(Y2:Cal P w K mg base "_law_open" 1 ["_law_script","_law_place"] (spOf ⟨C,K⟩ dOpen))(Zi:Cal P w K mg base "_law_draw" 1 ["_law_hand","_law_many"] (spOf ⟨C,K⟩ dDraw))(Uz:Cal P w K mg base "_law_bytes" 2 ["_law_hand","_law_most"] (spOf ⟨C,K⟩ dBytes))(Us:Cal P w K mg base "_law_words" 2 ["_law_hand","_law_some","_law_most","_law_longest"] (spOf ⟨C,K⟩ dWordsB))(Uw:Cal P w K mg base "_law_signs" 2 ["_law_hand","_law_many"] (spOf ⟨C,K⟩ dSigns))(Uu:Cal P w K mg base "_law_table" 2 ["_law_hand","_law_words_here","_law_signs_here"] (spOf ⟨C,K⟩ dTable))(Ux:Cal P w K mg base "_law_names" 2 ["_law_hand","_law_many"] (spOf ⟨C,K⟩ dNames41))(Tx:Cal P w K mg base "_law_mark" 2 ["_law_hand","_law_some","_law_marks"] (spOf ⟨C,K⟩ dMark41)){f:Addr}(F:Fun K "_law_specs" "_law_specs" Jax f fd):FnOk P w K mg base CX0 3 f fd ["_law_script","_law_most"] (spOf ⟨C,K⟩ dSpecs41):=by
 refine L3.Fun.ok3 F Dp (λds M K3 h=>?_) (λcdv A outer s H E hr=>?_)
 .let⟨ns,m0,rfl,_⟩:=h;rfl
 .let SC:=Dp;let hu:=hr.units;let hu1:=Xv hr;let Xo:Room 1 _:=hr.mono nofun;let Zj:Room 1 _:=hr.mono nofun;let N4:Room 2 _:=hr.mono nofun;let Nx:Room 2 _:=hr.mono nofun;let N1:Room 2 _:=hr.mono nofun;let Nz:Room 2 _:=hr.mono nofun;let N2:Room 2 _:=hr.mono nofun;let Zbg:Room 2 _:=hr.mono nofun;refine⟨_,_,(Zc (Zr (i:=2) SC.nd rfl (Cg rfl) (Zt Y2 Xo rfl (Za (pv 0) (Za Ze Zb))))
 (Zc (Zr (i:=3) SC.nd rfl (Cg rfl) (Zt Uz N4 rfl (Za (pv 2) (Za Ze Zb))))
 (Zc (Zr (i:=4) SC.nd rfl (Cg rfl) (Zt Uw N1 rfl (Za (pv 2) (Za Ze Zb))))
 (Zc (Zr (i:=5) SC.nd rfl (Cg rfl) (Zt Zi Zj rfl (Za (pv 2) (Za Ze Zb))))
 (Zc (Zr (i:=6) SC.nd rfl (Cg rfl) (Zt Ux N2 rfl (Za (pv 2) (Za (pv 5) Zb))))
 (Zc (Zr (i:=7) SC.nd rfl (Cg rfl) (Yf Zb))
 (Zc (Y8 Cm rfl (Yb rfl T.b_range (Za (pv 5) Zb)) (Zn (i:=8) SC.nd rfl (Cg rfl))
 (Zc (Zr (i:=2) SC.nd rfl (Cg rfl) (Zt Y2 Xo rfl (Za (pv 0) (Za (Zy (Y7 (K':=K) rfl) Ze (pv 8)) Zb))))
 (Zc (Zr (i:=9) SC.nd rfl (Cg rfl) (Zy (Y7 (K':=K) rfl) (pv 1) (Zy Zam Ze (Z2 Zbr (by rfl) T.b_int Jdc (Za (Zm3 (Vr (Wn (K':=K) rfl hu) (pv 8) Ze (Z4 _)) (Zm2 (Vr (Wn (K':=K) rfl hu) (Zt Zi Zj rfl (Za (pv 2) (Za Ze Zb))) Ze (Z4 _)))) Zb)))))
 (Zc (Zr (i:=10) SC.nd rfl (Cg rfl) (Zt Us Nx rfl (Za (pv 2) (Za (pv 3) (Za (pv 9) (Za (Zy (Y7 (K':=K) rfl) Ze (Zt Zi Zj rfl (Za (pv 2) (Za Ze Zb)))) Zb))))))
 (Zc (Zr (i:=11) SC.nd rfl (Cg rfl) (Zt Uu Nz rfl (Za (pv 2) (Za (pv 10) (Za (pv 4) Zb)))))
 (Zf (Wu (Qg Cz C9 Ea We (pv 7) (Za (Xd (Za (Yc (Y6 (K':=K) rfl) (pv 6) (pv 8) (λ_ _=>rfl)) (Za (pv 11) (Za (Zt Tx Zbg rfl (Za (pv 2) (Za (pv 3) (Za (Yv (T:=["_law_spec"]) (cs:=[]) rfl (CScope.ok (by kernel_rfl)) (Z8 (pv 7)) (λ_ _ _ _=>(Zn (i:=0) (Yw (by kernel_rfl)) rfl (Cg rfl) (C5 rfl))) (λ_ _ _ _=>Yo) (λ_ _ _ _=>(Yc (Y6 (K':=K) rfl) (pv 0) Ze (λ_ _=>rfl))) (Ym nofun)) Zb)))) Zb)))) Zb)))))))))
 (Zf (Zu (Xd (Za (pv 3) (Za (pv 4) (Za (pv 7) Zb))))))))))))),λ_=>(Zx (by symm) (Zx (by symm) (Zx (by symm) (Zx (by symm) (Zx (by symm) (Zx (Vj (Pj Va) (s_g 7)) (Zx (Ri (by symm) (s_g 8) (Zx (by symm) (Zx (Vj (s_op Zop (Z6 1) (s_op Zr5 Zg9 (s_cb Zoj (by symm)))) (s_g 9)) (by symm)))) (by symm)))))))),λds M Kk hM hD h=>?_⟩
  let⟨ns,m0,rfl,h⟩:=h;let⟨⟨hl,m1,m3⟩,k⟩:=h;exists ·,ns,0,rfl,⟨hl,nofun,nofun⟩,?_;exists ·,M.length,4,rfl,Yg,⟨nofun,nofun⟩,λbs bnd b2 b4 br=>?_;exists ·,M.length,30,rfl,Yg,⟨nofun,nofun⟩,λss snd sl=>?_;exists ·,M.length,9,rfl,Yg,⟨nofun,nofun⟩,λy y0 y1=>?_;obtain⟨n,rfl⟩:∃n:Nat,y=n:=⟨y.toNat,()⟩;let hn:n<=8:=by lia
  exists ·,·,M.length,n,rfl,Yg,hn,λzs znd zl zok zal=>?_;exists Ju _,?_;let hbs:bs≠[]:=λe=>by rw[e]at b2;simp at b2
  let p0:M<+:M++[MO.hand]++[.lst (zs.map .str)]++[.lst []]:=⟨[MO.hand]++[.lst (zs.map .str)]++[.lst []],by simp⟩;let c0:(M++[MO.hand]++[.lst (zs.map .str)]++[MO.lst []])[(M++[MO.hand]).length]?=some (.lst (zs.map .str)):=Y1 Yg;let d0:(M++[MO.hand]++[.lst (zs.map .str)]++[MO.lst []])[(M++[MO.hand]++[MO.lst (zs.map .str)]).length]?=some (.lst []):=Yg;let hcn:M.length<=(M++[MO.hand]).length:=by rw[Jc];lia
  let hcd:(M++[MO.hand]).length<(M++[MO.hand]++[MO.lst (zs.map .str)]).length:=by rw[Jc (as:=M++[MO.hand])];exact Bc _
  generalize (M++[MO.hand]).length=cn at c0 hcn hcd⊢;generalize (M++[MO.hand]++[MO.lst (zs.map .str)]).length=cq at d0 hcd⊢;generalize M++[MO.hand]++[.lst (zs.map .str)]++[MO.lst []]=M0 at p0 c0 d0⊢;exists ·,·,⟨(),()⟩,λi ρ M'=>∃(qs:List Fq)(v2 v8 v9 v10 v11:Option D),ρ=[some (.frz (ns.map .int)),some (.int m0),v2,some (.lst (bs.map .int)),some (.lst (ss.map .int)),some (.int n),some (.cell cn),some (.cell cq),v8,v9,v10,v11]/\M<+:M'/\M'[cn]?=some (.lst (zs.map .str))/\M'[cq]?=some (.lst (qs.map spD))/\qs.map (·.1)=zs.take i/\(∀q∈qs,Free q.2.1/\Fits q.2.1/\(∀p∈q.2.1,∀b∈p.2,b∈bs)/\q.2.2.length<=4/\(∀b∈q.2.2,b∈bs)/\q.2.1.length<=28),λ_ _ _ _ _=>trivial,⟨[],_,_,_,_,_,rfl,p0,c0,d0,rfl,λ_ h=>nomatch h⟩,?_,?_
  .rintro i x ρ M1 hi rfl ⟨qs,v2,v8,v9,v10,v11,rfl,p1,c1,d1,eq,hq⟩;let hi:i<n:=by
    let:i<((n:Int)).toNat:=hi;lia
   let lq:qs.length=i:=by
    let:=congrArg K7 eq;rw[Ja,J8]at this;lia
   exists ·,·,ns,·,⟨hl,(),()⟩,?_;let p2:M<+:M1++[MO.hand]:=p1.trans ⟨_,rfl⟩;let c2:(M1++[MO.hand])[cn]?=some (.lst (zs.map .str)):=Y1 c1;let d2:(M1++[MO.hand])[cq]?=some (.lst (qs.map spD)):=Y1 d1;let h2:(M1++[MO.hand])[M1.length]?=some .hand:=Yg;generalize M1.length=hh at h2⊢;generalize M1++[MO.hand]=M2 at p2 c2 d2 h2⊢;refine g_nx ?_
   try dsimp only
   refine Q8 (λρ' M'=>∃w:Int,0<=w/\w<=6/\M2=M'/\ρ'=[some (.frz (ns.map .int)),some (.int m0),some (.cell hh),some (.lst (bs.map .int)),some (.lst (ss.map .int)),some (.int n),some (.cell cn),some (.cell cq),some (.int (0+(i:Int))),some (.int w),v10,v11]) (λKn hn'=>?_) ?_
   .exists ·,·,.inl ⟨_,rfl,_,rfl,ite2 (λh=>?_) (λh=>?_)⟩
    .refine⟨_,rfl,hh,8,rfl,h2,⟨nofun,nofun⟩,λz z0 z1=>.inl ⟨_,rfl,_,_,rfl,rfl,.inl ⟨nofun,nofun⟩,?_⟩⟩;refine add_int ?_;refine hn' _ _ ⟨_,?_,?_,rfl,rfl⟩<;>(split<;>lia)
    .exists _,·,rfl,.inl ⟨nofun,nofun⟩,?_;refine add_int ?_;exact hn' _ _ ⟨_,(),(),rfl,rfl⟩
   rintro _ _ ⟨w,w0,w6,rfl,rfl⟩;refine⟨_,rfl,_,rfl,_,rfl,_,rfl,hh,4,rfl,h2,⟨nofun,nofun⟩,λg g0 g1=>?_⟩;refine add_int ?_;let wb:w*(bs.length:Int)<=24:=by
    let:(bs.length:Int)<=4:=b4
    calc w*(bs.length:Int)<=6*(bs.length:Int):=Int.mul_le_mul_of_nonneg_right w6 ()
     _<=24:=by lia
   exists hh,bs,w,1+g,rfl,h2,⟨bnd,hbs,(),w0,w6,(),()⟩,λws ok wbs wl=>?_;exists ·,·,·,hh,ws,ss,rfl,h2,⟨ok,(),snd,(),()⟩,λL fr fi pm=>?_;exists ·,Ua (Xj d2),?_;let ez:(zs.map D.str)[i]?=some (.str (zs[i]'())):=by rw[Jq,Jb ()];rfl
   let lqm:(qs.map spD).length=qs.length:=Ja _;exists ·,·,_,_,_,(Wo (Xj c2)).2.2,rfl,Ul (j:=i) () ez,·,·,·,?_;exists ·,_,(Wo (Xj d2)).2.1,?_,λj ys M'=>M2=M'/\ys=((qs.take j).map (·.2.2)).map wD,λ_ _ _ _ h=>(by rw[<-h.1];exact(Wo (Xj d2)).2.1),⟨rfl,rfl⟩,?_,?_
   .show(qs.map spD).length<=Cb;rw[lqm];exact Zk ()
   .rintro j x ys _ hj hx ⟨rfl,rfl⟩;let⟨hj',rfl⟩:=Yr hx;exists ·,_,_,·,rfl,rfl,rfl,?_;rw[Je hj',Jf,Jf];rfl
   rintro ys _ ⟨rfl,rfl⟩;let er:qs.take (qs.map spD).length=qs:=by rw[lqm,Jw]
   rw[show K0 _ qs=qs from er];exists hh,bs,qs.map (·.2.2),rfl,h2,⟨hbs,(),by rw[Ja];lia,λm hm=>?_⟩,λmk l4 hmb=>?_
   .let⟨q,hq',rfl⟩:=Jh.mp hm;exists(hq q hq').2.2.2.1,(hq q hq').2.2.2.2.1
   exists(show 3<=Cb by decide),cq,_,·,rfl,d2,?_,.inl ⟨qs++[(zs[i]'(),L,mk)],_,_,_,_,_,rfl,Nl p2 (),Sy c2 (),?_,?_,λq hq'=>?_⟩
   .rw[lqm];exact G4 (by lia:qs.length<=8) nofun
   .rw[Ge (Vk d2),Jf];rfl
   .rw[Jf,eq,Je ()];rfl
   .rcases J9.mp hq' with z|z
    .exact hq q z
    .rw[Jg.mp z];exact⟨fr,fi,λp hp b hb=>wbs p.2 (pm.mem_iff.mp (Jh.mpr ⟨p,hp,rfl⟩)) b hb,l4,hmb,by have:=pm.length_eq;rw[Ja]at this;show L.length<=28;lia⟩
  .rintro ρ M1 ⟨qs,v2,v8,v9,v10,v11,rfl,p1,c1,d1,eq,hq⟩;let eN:(Zhf 0 ((n:Int)).toNat).n=n:=G8 n;rw[eN,show zs.take n=zs by rw[<-zl,Jw]]at eq;exists ·,·,·,(show 3<=Cb by decide),.inl (k bs ss qs cq M1 ⟨bnd,b2,(),br,snd,(),by rw[eq];exact znd,?_,λq hq'=>zok _ ?_,λq h=>(hq q h).1,λq h=>(hq q h).2.1,λq h=>(hq q h).2.2.1,λq h=>(hq q h).2.2.2.1,λq h=>(hq q h).2.2.2.2.1,by rw[eq];exact zal,λq h=>(hq q h).2.2.2.2.2⟩ p1 () d1)
   .let:=congrArg K7 eq;rw[Ja]at this;lia
   .rw[<-eq];exact Jh.mpr ⟨q,hq',rfl⟩
open L3
theorem Jbl(T:Txt mg){f:Addr}(F:Fun K "_law_written" "_law_written" D9 f fd):FnOk P w K mg base CX0 1 f fd ["_law_table_here","_law_text_here"] (spOf ⟨C,K⟩ dWritten47):=by
 refine L3.Fun.ok3 F Jbm (λds M K3 h=>?_) (λcdv A outer s H E hr=>?_)
 .let⟨L,d,ts,rfl,_⟩:=h;rfl
 .let SC:=Jbm;let hu:=hr.units;let hu1:=Xv hr;refine⟨_,_,(Zc (Zr (i:=2) SC.nd rfl (Cg rfl) (Yf Zb))
 (Zc (Y8 Cm rfl (Yb rfl T.b_range (Za (Zp (Yd (K:=K) rfl) (by rfl) T.b_len F6 (Za (pv 1) Zb)) Zb)) (Zn (i:=3) SC.nd rfl (C5 rfl))
 (Zc (Wi (i:=4) SC.nd rfl rfl (T:=["_law_sign","_law_word"]) (cs:=[1,3]) rfl (CScope.ok (by kernel_rfl)) (Z8 (pv 0)) (λ_ _ _ _=>(Wm (n:=2) rfl (Zw (Zn (i:=0) (Yw (by kernel_rfl)) rfl (Cg rfl) (C5 rfl)) (Zw (Zn (i:=1) (Yw (by kernel_rfl)) rfl (Cg rfl) (C5 rfl)) Xf)) (by rfl))) (λ_ _ _ _=>(Vc (Zz (Wn (K':=K) rfl hu) (pv 0) (Yc (Y6 (K':=K) rfl) (pv 2) (pv 3) (λ_ _=>rfl)) (Z4 _)))) (λ_ _ _ _=>(pv 1)) (Sc (Yl nofun (Yl nofun Vu))))
 (Zc (Yu (Zz (Wn (K':=K) rfl hu) (pv 4) (Yf Zb) (Z4 _))
 (Zf (Zu (Xd (Za Qe (Za (pv 3) Zb)))))
 Z0)
 (Zf (Zr (i:=2) SC.nd rfl (Cg rfl) (Zy (Y7 (K':=K) rfl) (pv 2) (Z2 (Uk (K:=K) rfl) (by rfl) T.b_list Cp (Za (Yc (Y6 (K':=K) rfl) (pv 4) Ze (λ_ _=>rfl)) Zb))))))))
 (Zf (Zu (Xd (Za Qe (Za (pv 2) Zb))))))),λ_=>(by symm),λds M Kk hM hD h=>?_⟩
  let⟨L,d,ts,rfl,h⟩:=h;let⟨hd,⟨fi,lt⟩,k,kl⟩:=h;let lm:(ts.map D.int).length=ts.length:=Ja _;let lL:=fi.1;exists Ju _,?_;exists ·,?_;refine Zeg hd ?_;exists ·,⟨(),()⟩,λi ρ M'=>∃(U:List Pr)(v3 v4:Option D),ρ=[some (.lst (L.map pD)),some d,some (.lst ((Zv U).map .int)),v3,v4]/\M=M'/\Xb L U ts i,λ_ _ _ _ _=>trivial,⟨[],_,_,rfl,rfl,(λ_ h=>nomatch h),rfl⟩,?_,?_
  .rintro i x ρ _ hi rfl ⟨U,v3,v4,rfl,rfl,tx⟩;let hi:i<ts.length:=by
    let:i<(((ts.map D.int).length:Int)).toNat:=hi;lia
   let e0:(0:Int)+(i:Int)=(i:Int):=B9 _;rw[e0];let a2:(ts.map D.int)[i]?=some (.int ts[i]):=by rw[Jq,Jb hi];rfl
   exists ·,·,?_,λj ys M'=>M=M'/\ys=(((L.take j).filter λp=>decide (p.1=ts[i])).map (·.2)).map wD,λ_ _ _ _ _=>rfl,⟨rfl,rfl⟩,?_,?_
   .show(L.map pD).length<=Cb;rw[Ja];exact Zk ()
   .rintro j x ys _ hj hx ⟨rfl,rfl⟩;let⟨hj',rfl⟩:=Yr hx;exists ·,rfl,_,·,_,·,rfl,?_;exists ·,·,·,?_;refine Zbc hd (Ul rfl a2) ?_;refine .inl ⟨_,rfl,_,rfl,ite2 (λh=>?_) (λh=>?_)⟩
    .exists ·,rfl,?_;rw[Je hj',Gj,Gf,Fw h,Jf,Jf];rfl
    .exists rfl,?_;rw[Je hj',Gj,Gf,Fv h,B3,Jp]
   rintro ys _ ⟨rfl,rfl⟩;let er:L.take (L.map pD).length=L:=by rw[Ja,Jw]
   rw[show K0 _ L=L from er];let hall:∀p∈L.filter (λp=>decide (p.1=ts[i])),p∈L/\p.1=ts[i]:=λp h=>⟨(Jz.mp h).1,Fk (Jz.mp h).2⟩;let hnil:L.filter (λp=>decide (p.1=ts[i]))=[]->Wj L ts i=true:=λe=>(Ub hi).mpr λp hp ep=>by
    let:p∈L.filter λp=>decide (p.1=ts[i]):=Jz.mpr ⟨hp,Fx ep⟩;rw[e]at this;cases this
   generalize L.filter (λp=>decide (p.1=ts[i]))=F at hnil hall;exists ·,Ju _,Sz (Y5 Z9) (a:=F.map (·.2)) (b:=[]) rfl rfl ⟨_,rfl,?_⟩;cases F with
   |nil =>
    rw[Fx (show(([]:List Pr).map (·.2))=[]from rfl)];exact iteT ⟨_,rfl,(show 2<=Cb by decide),.inl (kl i U hi tx (hnil rfl))⟩
   |cons q F =>
    rw[Fy (λe=>nomatch e)];refine iteF ?_;let⟨hq,eq⟩:=hall q Jl;exists ·,·,_,_,wD q.2,rfl,rfl,Ul (j:=0) rfl rfl,_,·,rfl,_,·,rfl,?_,?_
    .let l1:=Sm fi tx.1;let l2:=tx.len (Bp hi);let l3:=(fi.2 q hq).2;rw[Ja,Ja];exact Zk ()
    let e1:(Zv U).map D.int++q.2.map D.int=(Zv (U++[q])).map D.int:=by
     rw[V6,Jf];unfold Zv;simp
    rw[e1];exact .inl ⟨U++[q],_,_,rfl,rfl,tx.snoc hi hq eq⟩
  .rintro ρ _ ⟨U,v3,v4,rfl,rfl,tx⟩;let tx:Xb L U ts (((ts.map D.int).length:Int)).toNat:=tx;rw[lm,G8]at tx;exists ·,(show 2<=Cb by decide),.inl (k U tx)
open L3
theorem Dg(T:Txt mg){f:Addr}(F:Fun K "_law_by_mark" "_law_by_mark" Jbb f fd):FnOk P w K mg base CX0 1 f fd ["_law_specs_here","_law_row"] (spOf ⟨C,K⟩ dByMarkL):=by
 refine L3.Fun.ok3 F Jcv (λds M K3 h=>?_) (λcdv A outer s H E hr=>?_)
 .let⟨d,e,qs,ns,rfl,_⟩:=h;rfl
 .let SC:=Jcv;let hu:=hr.units;let hu1:=Xv hr;refine⟨_,_,(Zc (Zr (i:=2) SC.nd rfl (C5 rfl) Ze)
 (Zc (Y8 Cm rfl (Z8 (pv 0)) (Wm (n:=3) rfl (Zw (Zn (i:=3) SC.nd rfl (Cg rfl)) (Zw (Zn (i:=4) SC.nd rfl (Cg rfl)) (Zw (Zn (i:=5) SC.nd rfl (Cg rfl)) Xf))) (by rfl))
 (Zf (Yu (Zz (Wn (K':=K) rfl hu) (Z2 (P0 (K:=K) rfl) (by rfl) T.b_tuple Ec (Za (Z5 (Wz (K':=K) rfl) (pv 1) Ye (Z7 (Zp (Yd (K:=K) rfl) (by rfl) T.b_len F6 (Za (pv 5) Zb)))) Zb)) (pv 5) (Z4 _))
 (Zf (Zr (i:=2) SC.nd rfl (C5 rfl) (Zp (Sf rfl) (by rfl) T.b_max E8 (Za (pv 2) (Za (Zp (Yd (K:=K) rfl) (by rfl) T.b_len F6 (Za (pv 5) Zb)) Zb)))))
 Z0)))
 (Zc (Yu (Zz (Wn (K':=K) rfl hu) (pv 2) Ze (Z4 _))
 (Zf (Zu (Yf Zb)))
 Z0)
 (Zf (Zu (Yv (T:=["_law_name","_law_table_here","_law_mark_here"]) (cs:=[2,1]) rfl (CScope.ok (by kernel_rfl)) (Z8 (pv 0)) (λ_ _ _ _=>(Wm (n:=3) rfl (Zw (Zn (i:=0) (Yw (by kernel_rfl)) rfl (Cg rfl) (C5 rfl)) (Zw (Zn (i:=1) (Yw (by kernel_rfl)) rfl (Cg rfl) (C5 rfl)) (Zw (Zn (i:=2) (Yw (by kernel_rfl)) rfl (Cg rfl) (C5 rfl)) Xf))) (by rfl))) (λ_ _ _ _=>(Vc (PW.pt (Rc (Zz (Wn (K':=K) rfl hu) (Zp (Yd (K:=K) rfl) (by rfl) T.b_len F6 (Za (pv 2) Zb)) (pv 3) (Z4 _)) (Tp (Zz (Wn (K':=K) rfl hu) (Z2 (P0 (K:=K) rfl) (by rfl) T.b_tuple Ec (Za (Z5 (Wz (K':=K) rfl) (pv 4) Ye (Z7 (pv 3))) Zb)) (pv 2) (Z4 _))))))) (λ_ _ _ _=>(pv 0)) (Sc (Yl nofun (Yl nofun (Yl nofun Vu)))))))))),λ_=>(by symm),λds M Kk hM hD h=>?_⟩
  let⟨d,e,qs,ns,rfl,h⟩:=h;let⟨hd,he,l8,k⟩:=h;let lqm:(qs.map spD).length=qs.length:=Ja _;let sm:∀m:List Int,(m.map D.int).length=m.length:=λm=>Ja _;exists ·,_,(Wo hd).2.1,λi ρ M'=>∃v3 v4 v5:Option D,ρ=[some d,some e,some (.int (topF (Yy (qs.take i) ns))),v3,v4,v5]/\M=M',λ_ _ _ _ h=>(by let⟨_,_,_,_,h⟩:=h;rw[<-h];exact(Wo hd).2.1),⟨_,_,_,rfl,rfl⟩,?_,?_
  .rintro i x ρ _ hi hx ⟨v3,v4,v5,rfl,rfl⟩;let⟨hi',rfl⟩:=Yr hx;exists ·,rfl,_,·,_,·,_,·,rfl,?_;exists ·,·,·,·,?_;refine Zgx he ?_;rw[sm,X6,Xm];let et:=Ziy (zs:=qs.take i) (z:=qs[i]) (ns:=ns);rw[<-Je hi']at et;exists _,·,rfl,·,Ww (Y5 Z9) (a:=ns.take qs[i].2.2.length) (b:=qs[i].2.2) ⟨_,rfl,ite2 (λh=>?_) (λh=>?_)⟩
   .let h:ns.take qs[i].2.2.length=qs[i].2.2:=Fk h;refine⟨_,rfl,_,rfl,_,rfl,_,_,rfl,?_⟩;let ev:(if(((qs[i].2.2.map D.int).length:Nat):Int) > (topF (Yy (qs.take i) ns):Int)then(((qs[i].2.2.map D.int).length:Nat):Int)else(topF (Yy (qs.take i) ns):Int))=((topF (Yy (qs.take (i+1)) ns):Nat):Int):=by
     rw[sm,et];unfold Tq;rw[Fx h,Bool.and_true]
     by_cases h0:0<qs[i].2.2.length
     .rw[Fx h0,Fw rfl,Zkh]
      split<;>lia
     .rw[Fy h0,show(if(false:Bool)=true then [qs[i]]else [])=[]from rfl,Jp,Fv ()]
    try dsimp only
    rw[ev];exact .inl ⟨_,_,_,rfl,rfl⟩
   .let h:¬ ns.take qs[i].2.2.length=qs[i].2.2:=λw=>h (Fx w);let e2:Yy (qs.take (i+1)) ns=Yy (qs.take i) ns:=by
     rw[et];unfold Tq;rw[Fy h,Jgf,Fv nofun,Jp]
    refine .inl ⟨some (.str qs[i].1),some (.lst (qs[i].2.1.map pD)),some (wD qs[i].2.2),?_,rfl⟩;rw[e2];rfl
  .rintro ρ _ ⟨v3,v4,v5,rfl,rfl⟩;let er:qs.take (qs.map spD).length=qs:=by rw[lqm,Jw]
   rw[show K0 _ qs=qs from er];exists ·,.inl ⟨_,rfl,_,rfl,ite2 (λh=>?_) (λh=>?_)⟩
   .let h:topF (Yy qs ns)=0:=by have:=Fk h;lia
    rw[Zp9 h]at k;exists Ju _,.inl k
   .let h:0<topF (Yy qs ns):=Nat.pos_of_ne_zero λw=>h (Fx (by rw[w];rfl));let eb:=Zty h;generalize topF (Yy qs ns)=t at h eb;exists ·,_,(Wo hd).2.1,?_,λj ys M'=>M=M'/\ys=(((qs.take j).filter λz=>decide (z.2.2.length=t)&&decide (ns.take t=z.2.2)).map (·.1)).map .str,λ_ _ _ _ h=>(by rw[<-h.1];exact(Wo hd).2.1),⟨rfl,rfl⟩,?_,?_
    .show(qs.map spD).length<=Cb;rw[lqm];exact Zk ()
    .rintro j x ys _ hj hx ⟨rfl,rfl⟩;let⟨hj',rfl⟩:=Yr hx;exists ·,rfl,_,·,_,·,_,·,rfl,?_;exists ·,·,·,.inl ⟨_,rfl,_,rfl,ite2 (λh1=>?_) (λh1=>iteF ⟨rfl,?_⟩)⟩
     .let h1:qs[j].2.2.length=t:=by have:=Fk h1;rw[sm]at this;lia
      exists ·,·,·,?_;refine Zgx he ?_;rw[X6,Xm];exists _,·,rfl,·,Ww (Y5 Z9) (a:=ns.take t) (b:=qs[j].2.2) ⟨_,rfl,ite2 (λh2=>?_) (λh2=>?_)⟩
      .exists ·,rfl,?_;rw[Je hj',Gj,Gf,Fw (by rw[Fx h1,h2];rfl),Jf,Jf];rfl
      .exists rfl,?_;rw[Je hj',Gj,Gf,Fv (by rw[Fx h1,Fc];exact h2),B3,Jp]
     .let h1:¬ qs[j].2.2.length=t:=λw=>h1 (Fx (by rw[sm,w]));rw[Je hj',Gj,Gf,Fv (by rw[Fy h1,B6];exact Jr),B3,Jp]
    .rintro ys _ ⟨rfl,rfl⟩;rw[show K0 _ qs=qs from er,<-eb];exact .inl k
open L3
def Td(L:List Pr)(W:List (List Pr))(j k:Nat):List (List Pr):=(W.take j).flatMap (ext1 L)++(match W[j]? with|some U=>(L.take k).map λp=>U++[p]|none=>[])
theorem Zi1{W:List (List Pr)}{j:Nat}:Td L W j 0=(W.take j).flatMap (ext1 L):=by
 unfold Td;cases W[j]? with
 |none=>exact Jp _
 |some U=>exact Jp _
def Zpr{W:List (List Pr)}{j k:Nat}(hj:j<W.length)(hk:k<L.length):Td L W j (k+1)=Td L W j k++[W[j]++[L[k]]]:=by
 unfold Td;rw[Jb hj,Gg];show _++(L.take (k+1)).map _=_++((L.take k).map _++_);rw[Je hk,Jf];rfl
def Zlr{W:List (List Pr)}{j:Nat}(hj:j<W.length):Td L W j L.length=Td L W (j+1) 0:=by
 rw[Zi1];unfold Td;rw[Jb hj,Je hj,List.flatMap_append];show _++(L.take L.length).map _=_++(ext1 L W[j]++[]);rw[Jw,Jp];rfl
theorem Zlq{W:List (List Pr)}{j k:Nat}(h1:W.length<=63*63)(h2:L.length<=63):(Td L W j k).length<=300000:=by
 unfold Td;let a:=Zem (l:=W.take j) (f:=ext1 L) (b:=63) λU _=>by unfold ext1;rw[Ja];exact h2
 let b:(W.take j).length*63<=63*63*63:=Jdo _ (Jy (List.length_take_le' _ _) h1);rw[Jc];cases W[j]? with
 |none=>show _+0<=_;lia
 |some U =>
  show _+((L.take k).map _).length<=_;rw[Ja,J8];lia
def dnD(ws:List (List Int))(P:List (List Pr)):List D:=(P.filter (covB ws)).map λU=>txD (Zm U)
def mrD(ws:List (List Int))(P:List (List Pr)):List D:=(P.filter λU=>!covB ws U&&onB ws U).map wtD
theorem Jbw(T:Txt mg){f:Addr}(F:Fun K "_law_least" "_law_least" Du f fd):FnOk P w K mg base CX0 3 f fd ["_law_specs_here","_law_at"] (spOf ⟨C,K⟩ dLeast46):=by
 refine L3.Fun.ok3 F Jcr (λds M K3 h=>?_) (λcdv A outer s H E hr=>?_)
 .let⟨a,d,qs,ha,rfl,_⟩:=h;rfl
 .let SC:=Jcr;let hu:=hr.units;let hu1:=Xv hr;refine⟨_,_,(Zc (Pl (Yc (Y6 (K':=K) rfl) (pv 0) (pv 1) (λ_ _=>rfl)) (Wm (n:=3) rfl (Zw (Zn (i:=2) SC.nd rfl (Cg rfl)) (Zw (Zn (i:=3) SC.nd rfl (Cg rfl)) (Zw (Zn (i:=4) SC.nd rfl (C5 rfl)) Xf))) (by rfl)))
 (Zc (Wi (i:=5) SC.nd rfl rfl (T:=["_law_spec"]) (cs:=[]) rfl (CScope.ok (by kernel_rfl)) (Z8 (pv 0)) (λ_ _ _ _=>(Zn (i:=0) (Yw (by kernel_rfl)) rfl (Cg rfl) (C5 rfl))) (λ_ _ _ _=>Yo) (λ_ _ _ _=>(Yc (Y6 (K':=K) rfl) (pv 0) Ze (λ_ _=>rfl))) (Ym nofun))
 (Zc (Yu (PW.pt (Zky (Zz (Wn (K':=K) rfl hu) (pv 4) (Xd Zb) (Z4 _)) (Zd3 (Zz Za1 (Qg Cz PySem.F.slot_list_count PySem.F.type_list_count (Zl4 (K':=K) rfl hu) (pv 5) (Za (pv 4) Zb)) Ze (Z4 _)))))
 (Zf (Zu (Yf Zb)))
 Z0)
 (Zc (Zr (i:=6) SC.nd rfl (C5 rfl) (Zp (Yd (K:=K) rfl) (by rfl) T.b_len F6 (Za (pv 4) Zb)))
 (Zc (Wi (i:=7) SC.nd rfl rfl (T:=["_law_one"]) (cs:=[6,4]) rfl (CScope.ok (by kernel_rfl)) (Z8 (pv 5)) (λ_ _ _ _=>(Zn (i:=0) (Yw (by kernel_rfl)) rfl (Cg rfl) (C5 rfl))) (λ_ _ _ _=>(Vc (PW.pt (Rc (Zz Za1 (Zp (Yd (K:=K) rfl) (by rfl) T.b_len F6 (Za (pv 0) Zb)) (pv 1) (Z4 _)) (Tp (Zz (Wn (K':=K) rfl hu) (Z5 (Wz (K':=K) rfl) (pv 0) Ye (Z7 (pv 1))) (pv 2) (Z4 _))))))) (λ_ _ _ _=>(pv 0)) (Ym nofun))
 (Zc (Wi (i:=8) SC.nd rfl rfl (T:=["_law_one"]) (cs:=[6]) rfl (CScope.ok (by kernel_rfl)) (Z8 (pv 7)) (λ_ _ _ _=>(Zn (i:=0) (Yw (by kernel_rfl)) rfl (Cg rfl) (C5 rfl))) (λ_ _ _ _=>Yo) (λ_ _ _ _=>(Z5 (Wz (K':=K) rfl) (pv 0) (Z7 (pv 1)) Ye)) (Ym nofun))
 (Zc (Zr (i:=9) SC.nd rfl (Cg rfl) (Yf (Za (Xd (Za (Yf Zb) (Za (Xd Zb) Zb))) Zb)))
 (Zc (Y8 Cm rfl (Yb rfl T.b_range (Za Ze Zb)) (Zn (i:=10) SC.nd rfl (Cg rfl))
 (Zc (Zr (i:=11) SC.nd rfl (Cg rfl) (Yf Zb))
 (Zc (Zr (i:=12) SC.nd rfl (Cg rfl) (Yf Zb))
 (Zc (Y8 Cm rfl (Z8 (pv 9)) (Wm (n:=2) rfl (Zw (Zn (i:=13) SC.nd rfl (Cg rfl)) (Zw (Zn (i:=14) SC.nd rfl (Cg rfl)) Xf)) (by rfl))
 (Zf (Y8 Cm rfl (Z8 (pv 3)) (Wm (n:=2) rfl (Zw (Zn (i:=15) SC.nd rfl (Cg rfl)) (Zw (Zn (i:=16) SC.nd rfl (Cg rfl)) Xf)) (by rfl))
 (Zc (Zr (i:=17) SC.nd rfl (C5 rfl) (Zy (Zf7 (K':=K) rfl) (pv 14) (pv 16)))
 (Zf (Yu (V9 (Zp (Zjo (K:=K) rfl rfl) (by rfl) T.b_any PyProof.Rows.boot_any (Za (Yv (T:=["_law_one"]) (cs:=[17]) rfl (CScope.ok (by kernel_rfl)) (Z8 (pv 8)) (λ_ _ _ _=>(Zn (i:=0) (Yw (by kernel_rfl)) rfl (Cg rfl) (C5 rfl))) (λ_ _ _ _=>Yo) (λ_ _ _ _=>(Vr (Wn (K':=K) rfl hu) (Z5 (Wz (K':=K) rfl) (pv 1) Ye (Z7 (Zp (Yd (K:=K) rfl) (by rfl) T.b_len F6 (Za (pv 0) Zb)))) (pv 0) (Z4 _))) (Ym nofun)) Zb)))
 (Zf (Wu (Qg Cz C9 Ea We (pv 11) (Za (Zy (Y7 (K':=K) rfl) (pv 13) (Yf (Za (pv 15) Zb))) Zb))))
 (Zf (Yu (V9 (Zp (Zjo (K:=K) rfl rfl) (by rfl) T.b_any PyProof.Rows.boot_any (Za (Yv (T:=["_law_one"]) (cs:=[17]) rfl (CScope.ok (by kernel_rfl)) (Z8 (pv 8)) (λ_ _ _ _=>(Zn (i:=0) (Yw (by kernel_rfl)) rfl (Cg rfl) (C5 rfl))) (λ_ _ _ _=>Yo) (λ_ _ _ _=>(Vr (Wn (K':=K) rfl hu) (Z5 (Wz (K':=K) rfl) (pv 0) Ye (Z7 (Zp (Yd (K:=K) rfl) (by rfl) T.b_len F6 (Za (pv 1) Zb)))) (pv 1) (Z4 _))) (Ym nofun)) Zb)))
 (Zf (Wu (Qg Cz C9 Ea We (pv 12) (Za (Xd (Za (Zy (Y7 (K':=K) rfl) (pv 13) (Yf (Za (pv 15) Zb))) (Za (pv 17) Zb))) Zb))))
 Z0))))))))
 (Zc (Yu (Zz (Zb8 (K':=K) rfl hu) (pv 11) (Yf Zb) (Z4 _))
 (Zf (Zu (Zp (Zfp (K:=K) rfl rfl (Znk hr)) (by rfl) T.b_min Kc (Za (pv 11) Zb))))
 Z0)
 (Zf (Zr (i:=9) SC.nd rfl (Cg rfl) (pv 12))))))))
 (Zf (Zu T5)))))))))),λ_=>(Zx (by symm) (Zx (by symm) (Zx (Ws (s_or (by symm) (Zau (s_op s_gt (Zkt (Z6 5) (by symm)) Zg9))) (by symm) Xn) (Zx (by symm) (Zx (by symm) (Zx (by symm) (Zx (by symm) (Zx (Ri (by symm) (s_g 10) (Zx (Vj (Pj Va) (s_g 11)) (Zx (Vj (Pj Va) (s_g 12)) (Zx (Ri (s_il (Z6 9)) (by symm) (Ri (s_il (Z6 3)) (by symm) (Zx (Vj (s_op Zmt (Z6 14) (Z6 16)) (s_g 17)) (Ws (s_b (s_cb Zoo (by symm))) (by symm) (Ws (s_b (s_cb Zoo (by symm))) (by symm) Xn))))) (Zx (Ws (by symm) (Xk (s_cb Zod (by symm))) Xn) (by symm)))))) (Xk Zkr))))))))),λds M Kk hM hD h=>?_⟩
  let⟨a,d,qs,ha,rfl,h⟩:=h;let⟨hd,⟨nd,l8,hq⟩,kN,kY⟩:=h;let a2:(qs.map spD)[a]?=some (spD qs[a]):=by rw[Jq,Jb ha];rfl
  let hqm:=Jn ha;let lqm:(qs.map spD).length=qs.length:=Ja _;exists ·,·,?_;refine Zbc hd (Ul rfl a2) ?_;generalize qs[a]=q at kN kY hqm;let⟨fi,l4⟩:=hq q hqm;exists ·,rfl,_,·,_,·,_,·,rfl,?_;exists ·,_,(Wo hd).2.1,?_,λj ys M'=>M=M'/\ys=((qs.take j).map (·.2.2)).map wD,λ_ _ _ _ h=>(by rw[<-h.1];exact(Wo hd).2.1),⟨rfl,rfl⟩,?_,?_
  .show(qs.map spD).length<=Cb;rw[lqm];exact Zk ()
  .rintro j x ys _ hj hx ⟨rfl,rfl⟩;let⟨hj',rfl⟩:=Yr hx;exists ·,_,_,·,rfl,rfl,rfl,?_;rw[Je hj',Jf,Jf];rfl
  rintro ys _ ⟨rfl,rfl⟩;rw[show K0 _ qs=qs from by rw[show(qs.map spD).length=qs.length from lqm,Jw]];exists ·,Ju _,Ww (Y5 Z9) (a:=q.2.2) (b:=[]) ⟨_,rfl,?_⟩
  by_cases h0:q.2.2=[]
  .rw[Fx h0];refine iteT (iteT ⟨Ju _,.inl (kY [] ?_ (Ju _))⟩);unfold Xu;rw[Fw h0];exact Za7
  rw[Fy h0];refine iteF ?_;let lm:((qs.map (·.2.2)).map wD).length=qs.length:=by rw[Ja,Ja]
  exists ·,(λz=>by cases z),·,_,_,(qs.map (λy:Fq=>y.2.2)).map (Y5 Z9 nofun).py,(Y5 Z9 nofun).py q.2.2,rfl,rfl,Sn ((Y5 Z9 nofun).ok M) _,(Y5 Z9 nofun).ok M _,Ztr _,((Y5 Z9 nofun).shp q.2.2).1,Zts _,?_;rw[Zlx];exists _,·,rfl,·,ite2 (λh=>?_) (λhc=>?_)
  .let h1:1<(qs.map (·.2.2)).count q.2.2:=by have:=Fk h;lia
   let⟨y,hy,ny,ey⟩:=Zri nd h1 q.1;exists Ju _,.inl (kY [] (Zii ((V7 h0).mpr ⟨y,hy,ny,by rw[ey,Jp]⟩)) (Ju _))
  let hc:¬ 1<(qs.map (·.2.2)).count q.2.2:=λz=>hc (Fx ());let wc:=Zj3 nd hqm h0 hc;let lw:(q.2.2.map D.int).length=q.2.2.length:=Ja _;let hms:∀m∈qs.map (·.2.2),m.length<=4:=λm hm=>by
   let⟨y,hy,rfl⟩:=Jh.mp hm;exact(hq y hy).2
  let ew:Zf2 qs q.2.2=((qs.map (·.2.2)).filter λx=>decide (q.2.2.length<x.length)&&decide (x.take q.2.2.length=q.2.2)).map λx=>x.drop q.2.2.length:=rfl;rw[ew]at wc;let wn:∀r∈Zf2 qs q.2.2,r≠[]:=λr hr=>(P7.mp hr).1;rw[ew]at wn;let lms:(qs.map (·.2.2)).length<=8:=by rw[Ja];exact l8
  generalize qs.map (·.2.2)=ms at hms wc wn lms;exists ·,·,?_;exists ·,·,?_,λj ys M'=>M=M'/\ys=((ms.take j).filter λx=>decide (q.2.2.length<x.length)&&decide (x.take q.2.2.length=q.2.2)).map wD,λ_ _ _ _ _=>rfl,⟨rfl,rfl⟩,?_,?_
  .show(ms.map wD).length<=Cb;rw[Ja];exact Zk ()
  .rintro j x ys _ hj hx ⟨rfl,rfl⟩;let⟨hj',rfl⟩:=Yr hx;let et:∀b,(decide (q.2.2.length<ms[j].length)&&decide (ms[j].take q.2.2.length=q.2.2))=b->((ms.take (j+1)).filter λx=>decide (q.2.2.length<x.length)&&decide (x.take q.2.2.length=q.2.2)).map wD=((ms.take j).filter λx=>decide (q.2.2.length<x.length)&&decide (x.take q.2.2.length=q.2.2)).map wD++(if b=true then [wD ms[j]]else []):=λb hb=>by
    rw[Je hj',Gj,Jf,Gf,hb];cases b<;>rfl
   let lj:(ms[j].map D.int).length=ms[j].length:=Ja _;exists ·,·,·,_,·,rfl,·,?_;rw[lj]
   by_cases h1:q.2.2.length<ms[j].length
   .rw[Fx (by lia:((q.2.2.map D.int).length:Int)<_)];refine iteT ?_;exists ·,·,·,·,?_;dsimp only[Ta,U9,sl3,wD];rw[X6,lw,Xm];refine Ww (Y5 Z9) (a:=ms[j].take q.2.2.length) (b:=q.2.2) ⟨_,rfl,ite2 (λh=>⟨_,rfl,rfl,?_⟩) (λh=>⟨rfl,?_⟩)⟩
    .rw[et true (by rw[Fx h1];exact h)];rfl
    .rw[et false (by rw[Fx h1];exact Bk _ ▸ h),Fv Jr,Jp]
   .rw[Fy (by lia:¬ ((q.2.2.map D.int).length:Int)<_)];refine iteF ⟨rfl,?_⟩;rw[et false (by rw[Fy h1];rfl),Fv Jr,Jp]
  rintro ys _ ⟨rfl,rfl⟩;rw[show ms.take (ms.map wD).length=ms from by rw[Ja,Jw]];let hl4:∀x∈ms.filter λx=>decide (q.2.2.length<x.length)&&decide (x.take q.2.2.length=q.2.2),x.length<=4:=λx hx=>hms x (Jz.mp hx).1;let lls:(ms.filter λx=>decide (q.2.2.length<x.length)&&decide (x.take q.2.2.length=q.2.2)).length<=8:=Jy (B5 _ _) lms;generalize ms.filter (λx=>decide (q.2.2.length<x.length)&&decide (x.take q.2.2.length=q.2.2))=lo at hl4 lls wc wn;exists ·,·,?_,λj ys M'=>M=M'/\ys=((lo.take j).map λx=>x.drop q.2.2.length).map wD,λ_ _ _ _ _=>rfl,⟨rfl,rfl⟩,?_,?_
  .show(lo.map wD).length<=Cb;rw[Ja];exact Zk ()
  .rintro j x ys _ hj hx ⟨rfl,rfl⟩;let⟨hj',rfl⟩:=Yr hx;exists ·,·,·,?_;dsimp only[Sj,Ta,U9,sl3,wD];rw[X6,lw,Uh];exists rfl,?_;rw[Je hj',Jf,Jf];rfl
  rintro ys _ ⟨rfl,rfl⟩;rw[show lo.take (lo.map wD).length=lo from by rw[Ja,Jw]];let hw3:∀r∈lo.map λx=>x.drop q.2.2.length,r.length<=3:=λr hr=>by
   let⟨x,hx,rfl⟩:=Jh.mp hr;rw[Gn];let:=hl4 x hx;let:=Gi.mpr h0;lia
  let lws:(lo.map λx=>x.drop q.2.2.length).length<=8:=by rw[Ja];exact lls
  generalize lo.map (λx=>x.drop q.2.2.length)=ws at wc wn hw3 lws;exists Ju _,Ju _,(show 2<=Cb by decide),(show 1<=Cb by decide),?_;let fne:∀p∈q.2.1,p.2≠[]:=λp hp=>(fi.2 p hp).1;let lL:=fi.1;let tr:∀{o},Yq q.2.1 ws o->Yq q.2.1 (Xu qs q) o:=λh=>h.iff wc;exists 3,rfl,⟨nofun,nofun⟩,λi ρ M'=>∃(W:List (List Pr))(d9:D)(v5 v7 v10 v11 v12 v13 v14 v15 v16 v17:Option D),ρ=[some d,some (.int a),some (.str q.1),some (.lst (q.2.1.map pD)),some (wD q.2.2),v5,some (.int ((q.2.2.map D.int).length:Nat)),v7,some (.lst (ws.map wD)),some d9,v10,v11,v12,v13,v14,v15,v16,v17]/\M<+:M'/\Xg M' d9=some (W.map wtD)/\Ways q.2.1 ws i W/\W.length<=63 ^ i,λ_ _ _ _ _=>trivial,⟨[[]],_,_,_,_,_,_,_,_,_,_,_,rfl,Ji _,rfl,Zqs wn,Jd _⟩,?_,?_
  .rintro i x ρ M1 hi rfl ⟨W,d9,v5,v7,v10,v11,v12,v13,v14,v15,v16,v17,rfl,p1,hd9,wy,lW⟩;let hi3:i<3:=hi;let lW2:W.length<=63*63:=Jy lW (Jy (Nat.pow_le_pow_right nofun (by lia:i<=2)) nofun);let lLm:(q.2.1.map pD).length=q.2.1.length:=Ja _;let lWm:(W.map wtD).length=W.length:=Ja _;let h9:∀D1 D2,Xg (M1++[MO.lst D1]++[MO.lst D2]) d9=some (W.map wtD):=λD1 D2=>Zpe (Gg _ _ _ ▸ Gc _ _) hd9;exists Ju _,Ju _,?_;exists ·,_,h9 _ _,λj ρ M'=>∃(v13 v14 v15 v16 v17:Option D),ρ=[some d,some (.int a),some (.str q.1),some (.lst (q.2.1.map pD)),some (wD q.2.2),v5,some (.int ((q.2.2.map D.int).length:Nat)),v7,some (.lst (ws.map wD)),some d9,some (.int (0+(i:Int))),some (.cell M1.length),some (.cell (M1++[MO.lst []]).length),v13,v14,v15,v16,v17]/\M'=M1++[MO.lst (dnD ws (Td q.2.1 W j 0))]++[MO.lst (mrD ws (Td q.2.1 W j 0))],λ_ _ _ _⟨_,_,_,_,_,_,z⟩=>by rw[z];exact h9 _ _,⟨_,_,_,_,_,rfl,by rw[Zi1];rfl⟩,?_,?_
   .rintro j x ρ _ hj hx ⟨v13,v14,v15,v16,v17,rfl,rfl⟩;let⟨hj',rfl⟩:=Yr hx;exists ·,rfl,_,·,_,·,rfl,?_;exists ·,·,λk ρ M'=>∃(v15 v16 v17:Option D),ρ=[some d,some (.int a),some (.str q.1),some (.lst (q.2.1.map pD)),some (wD q.2.2),v5,some (.int ((q.2.2.map D.int).length:Nat)),v7,some (.lst (ws.map wD)),some d9,some (.int (0+(i:Int))),some (.cell M1.length),some (.cell (M1++[MO.lst []]).length),some (.lst ((Zm W[j]).map .int)),some (wD (Zv W[j])),v15,v16,v17]/\M'=M1++[MO.lst (dnD ws (Td q.2.1 W j k))]++[MO.lst (mrD ws (Td q.2.1 W j k))],λ_ _ _ _ _=>rfl,⟨_,_,_,rfl,rfl⟩,?_,?_
    .rintro k x ρ _ hk hx ⟨v15,v16,v17,rfl,rfl⟩;let⟨hk',rfl⟩:=Yr hx;let gu:=Zpr (L:=q.2.1) (W:=W) hj' hk';let gl:=Zlq (j:=j) (k:=k) lW2 (by lia:q.2.1.length<=63);exists ·,rfl,_,·,_,·,rfl,?_;generalize hP:Td q.2.1 W j k=P at gu gl;let hr:Zv (W[j]++[q.2.1[k]])=Zv W[j]++q.2.1[k].2:=by rw[V6,show Zv [q.2.1[k]]=q.2.1[k].2 from Jp _]
     let hs:Zm (W[j]++[q.2.1[k]])=Zm W[j]++[q.2.1[k].1]:=by show List.map _ _=_;rw[Jf];rfl
     let⟨wi,wl⟩:=wy.inn _ (Jn hj');let l1:=Sm fi wi;let l2:=(fi.2 _ (Jn hk')).2;let lsg:(Zm W[j]).length=W[j].length:=Ja _;generalize hU:W[j]++[q.2.1[k]]=U at gu hr hs;generalize Zv W[j]=r1 at hr l1;generalize Zm W[j]=s1 at hs lsg;generalize q.2.1[k]=p at hr hs l2;let lr1:(r1.map D.int).length+(p.2.map D.int).length<=Cb:=by
      rw[Ja,Ja];exact Zk ()
     exists ·,·,_,·,rfl,lr1,?_;rw[show D.tup (r1.map D.int++p.2.map D.int)=wD (Zv U)from by rw[hr,<-Jf];rfl];let lUm:((Zv U).map D.int).length=(Zv U).length:=Ja _;let lwm:(ws.map wD).length<=Cb:=by rw[Ja];exact Zk ()
     generalize hM2:M1++[MO.lst (dnD ws P)]++[MO.lst (mrD ws P)]=M2;exists ·,·,lwm,λm ys M'=>M2=M'/\ys=((ws.take m).map λr=>decide ((Zv U).take r.length=r)).map D.bl,λ_ _ _ _ _=>rfl,⟨rfl,rfl⟩,?_,?_
     .rintro m x ys _ hm hx ⟨rfl,rfl⟩;let⟨hm',rfl⟩:=Yr hx;exists ·,·,·,·,·,?_;dsimp only[Ta,U9,sl3,wD];rw[X6,Ja,Xm];refine Ww (Y5 Z9) (a:=(Zv U).take ws[m].length) (b:=ws[m]) ⟨rfl,?_⟩;rw[Je hm',Jf,Jf];rfl
     rintro ys _ ⟨rfl,rfl⟩;rw[show ws.take (ws.map wD).length=ws from by rw[Ja,Jw]];let any1:(ws.map λr=>decide ((Zv U).take r.length=r)).any id=covB ws U:=List.any_map;rw[<-hM2];let c1:∀a b:MO,(M1++[a]++[b])[M1.length]?=some a:=λa b=>Y1 Yg;let e2:∀a:MO,(M1++[MO.lst []]).length=(M1++[a]).length:=λa=>by rw[Jc,Jc];rfl
     let ld:(dnD ws P).length<=300000:=by unfold dnD;rw[Ja];exact Nat.le_trans (B5 _ _) gl
     let lm2:(mrD ws P).length<=300000:=by unfold mrD;rw[Ja];exact Nat.le_trans (B5 _ _) gl
     let ladd:(s1.map D.int).length+1<=Cb:=by rw[Ja];exact Zk ()
     let dup:∀b,covB ws U=b->dnD ws (P++[U])=dnD ws P++(if b=true then [txD (Zm U)]else []):=λb hb=>by
      unfold dnD;rw[Gj,Jf,Gf,hb];cases b<;>rfl
     let mup:∀b,(!covB ws U&&onB ws U)=b->mrD ws (P++[U])=mrD ws P++(if b=true then [wtD U]else []):=λb hb=>by
      unfold mrD;rw[Gj,Jf,Gf,hb];cases b<;>rfl
     exists _,·,rfl,·,?_;rw[any1];refine ite2 (λhc=>?_) (λhc=>?_)
     .exists ·,Ua (Xj (c1 _ _)),·,·,(show 1<=Cb by decide),_,·,rfl,ladd,M1.length,_,·,rfl,c1 _ _,G4 ld nofun,?_;rw[Zkn];refine .inl ⟨_,_,_,rfl,?_⟩;rw[gu,dup true hc,mup false (by rw[hc];rfl),Fw rfl,Fv Jr,Jp,txD,hs,Jf];rfl
     let hc:covB ws U=false:=Bk _ ▸ hc;exists ·,·,lwm,λm ys M'=>M1++[MO.lst (dnD ws P)]++[MO.lst (mrD ws P)]=M'/\ys=((ws.take m).map λr=>decide (r.take (Zv U).length=Zv U)).map D.bl,λ_ _ _ _ _=>rfl,⟨rfl,rfl⟩,?_,?_
     .rintro m x ys _ hm hx ⟨rfl,rfl⟩;let⟨hm',rfl⟩:=Yr hx;exists ·,·,·,·,·,?_;dsimp only[Ta,U9,sl3,wD];rw[X6,Ja,Xm];refine Ww (Y5 Z9) (a:=ws[m].take (Zv U).length) (b:=Zv U) ⟨rfl,?_⟩;rw[Je hm',Jf,Jf];rfl
     rintro ys _ ⟨rfl,rfl⟩;rw[show ws.take (ws.map wD).length=ws from by rw[Ja,Jw]];let any2:(ws.map λr=>decide (r.take (Zv U).length=Zv U)).any id=onB ws U:=List.any_map;exists _,·,rfl,·,?_;rw[any2];refine ite2 (λho=>?_) (λho=>?_)
     .exists ·,Ua (Xj (by rw[e2 (MO.lst (dnD ws P))];exact Yg)),·,·,(show 1<=Cb by decide),_,·,rfl,ladd,·,(show 2<=Cb by decide),_,_,·,rfl,by rw[e2 (MO.lst (dnD ws P))];exact Yg,G4 lm2 nofun,?_;rw[e2 (MO.lst (dnD ws P)),U1];refine .inl ⟨_,_,_,rfl,?_⟩;rw[gu,dup false hc,mup true (by rw[hc,ho];rfl),Fw rfl,Fv Jr,Jp,wtD,hs,Jf];rfl
     .let ho:onB ws U=false:=Bk _ ▸ ho;refine .inl ⟨_,_,_,rfl,?_⟩;rw[gu,dup false hc,mup false (by rw[hc,ho];rfl),Fv Jr,Jp,Fv Jr,Jp]
    .rintro ρ _ ⟨v15,v16,v17,rfl,rfl⟩;refine .inl ⟨_,_,_,_,_,rfl,?_⟩;rw[show(q.2.1.map pD).length=q.2.1.length from lLm,Zlr hj']
   .rintro ρ _ ⟨v13,v14,v15,v16,v17,rfl,rfl⟩;rw[show Td q.2.1 W (W.map wtD).length 0=W.flatMap (ext1 q.2.1)from by rw[Zi1,lWm,Jw]];let c1:∀a b:MO,(M1++[a]++[b])[M1.length]?=some a:=λa b=>Y1 Yg;let e2:∀a:MO,(M1++[MO.lst []]).length=(M1++[a]).length:=λa=>by rw[Jc,Jc];rfl
    let lfl:(W.flatMap (ext1 q.2.1)).length<=W.length*63:=Zem λU _=>by unfold ext1;rw[Ja];lia
    let edn:dnD ws (W.flatMap (ext1 q.2.1))=((Rl q.2.1 ws W).map Zm).map (W2 Z9).e:=by rw[Gh];rfl
    let emr:mrD ws (W.flatMap (ext1 q.2.1))=(Zpa q.2.1 ws W).map wtD:=rfl;let p2:∀a b:MO,M<+:M1++[a]++[b]:=λa b=>p1.trans (Gg _ _ _ ▸ Gc _ _);rw[emr];exists ·,Ju _,Sz (W2 Z9) (a:=(Rl q.2.1 ws W).map Zm) (b:=[]) (by simp only[Xg,c1];rw[edn]) rfl ⟨_,rfl,?_⟩
    by_cases hd:(Rl q.2.1 ws W).map Zm=[]
    .rw[Fx hd];refine iteF ⟨_,rfl,.inl ⟨Zpa q.2.1 ws W,_,_,_,_,_,_,_,_,_,_,_,rfl,p2 _ _,?_,wy.next (Fb.mp hd),?_⟩⟩
     .simp only[Xg,e2 (MO.lst (dnD ws (W.flatMap (ext1 q.2.1)))),Yg]
     .rw[Nat.pow_succ];exact Jy (B5 _ _) (Jy lfl (Jdo _ lW))
    .rw[Fy hd];refine iteT ⟨_,rfl,_,dnD ws (W.flatMap (ext1 q.2.1)),(Rl q.2.1 ws W).map Zm,rfl,by simp only[Xg,c1],?_,by rw[edn,Ja],λm h1 h2=>?_,λm hm em=>?_⟩
     .rw[edn,Ja];exact Gi.mpr hd
     .simp only[edn,Gv];rfl
     .let hm2:m<((Rl q.2.1 ws W).map Zm).length:=by rw[edn,Ja]at hm;exact hm
      let et:(dnD ws (W.flatMap (ext1 q.2.1)))[m]=.lst ((((Rl q.2.1 ws W).map Zm)[m]).map .int):=by
       simp only[edn,Gv];rfl
      rw[et];let hin:=Jn hm2;refine Zi6 (p2 _ _) hM Zfr (kY _ (tr (wy.done hin λs hs=>?_)) ?_)
      .let⟨n,hn,rfl⟩:=Gb hs;let:=Zcr (zs:=(Rl q.2.1 ws W).map Zm) (((Rl q.2.1 ws W).map Zm).length-1) () n ();rw[<-em]at this;simpa only[Jx,Jb hn,Jb hm2,Li]using this
      .let⟨U,hU,e⟩:=Jh.mp hin;let:=(wy.ext (Jz.mp hU).1).2;rw[<-e,show(Zm U).length=U.length from Ja _];lia
  .rintro ρ M1 ⟨W,d9,v5,v7,v10,v11,v12,v13,v14,v15,v16,v17,rfl,p1,hd9,wy,lW⟩;exact Zi6 p1 hM Zbx (kN (tr (wy.never fne hw3)))
open L3
theorem Dd(T:Txt mg)(Tw:Cal P w K mg base "_law_text" 2 ["_law_hand","_law_signs_here","_law_most"] (spOf ⟨C,K⟩ dText)){f:Addr}(F:Fun K "_law_texts" "_law_texts" Jct f fd):FnOk P w K mg base CX0 3 f fd ["_law_table_here","_law_hand"] (spOf ⟨C,K⟩ dTexts46):=by
 refine L3.Fun.ok3 F Jci (λds M K3 h=>?_) (λcdv A outer s H E hr=>?_)
 .let⟨k0,L,rfl,_⟩:=h;rfl
 .let SC:=Jci;let hu:=hr.units;let hu1:=Xv hr;let Zbf:Room 2 _:=hr.mono nofun;refine⟨_,_,(Zc (Zr (i:=2) SC.nd rfl (C5 rfl) (Yv (T:=["_law_sign","_law_word"]) (cs:=[]) rfl (CScope.ok (by kernel_rfl)) (Z8 (pv 0)) (λ_ _ _ _=>(Wm (n:=2) rfl (Zw (Zn (i:=0) (Yw (by kernel_rfl)) rfl (Cg rfl) (C5 rfl)) (Zw (Zn (i:=1) (Yw (by kernel_rfl)) rfl (Cg rfl) (C5 rfl)) Xf)) (by rfl))) (λ_ _ _ _=>Yo) (λ_ _ _ _=>(pv 0)) (Sc (Yl nofun (Yl nofun Vu)))))
 (Zc (Zr (i:=3) SC.nd rfl (Cg rfl) (Zy (Y7 (K':=K) rfl) (Yv (T:=["_law_k"]) (cs:=[1,2]) rfl (CScope.ok (by kernel_rfl)) (Yb rfl T.b_range (Za Ze Zb)) (λ_ _ _ _=>(Zn (i:=0) (Yw (by kernel_rfl)) rfl (Cg rfl) (C5 rfl))) (λ_ _ _ _=>Yo) (λ_ _ _ _=>(Zt Tw Zbf rfl (Za (pv 1) (Za (pv 2) (Za Ze Zb))))) (Ym nofun)) (Yf (Za (Yf Zb) Zb))))
 (Zc (Y8 Cm rfl (Z8 (Z5 (Wz (K':=K) rfl) (pv 2) Ye (Z7 Ze))) (Zn (i:=4) SC.nd rfl (Cg rfl))
 (Zc (Wu (Qg Cz C9 Ea We (pv 3) (Za (Yf (Za (pv 4) Zb)) Zb)))
 (Zf (Y8 Cm rfl (Z8 (Z5 (Wz (K':=K) rfl) (pv 2) Ye (Z7 Ze))) (Zn (i:=5) SC.nd rfl (Cg rfl))
 (Zf (Wu (Qg Cz C9 Ea We (pv 3) (Za (Yf (Za (pv 4) (Za (pv 5) Zb))) Zb))))))))
 (Zf (Zu (pv 3)))))),λ_=>(Zx (by symm) (Zx (Vj (s_op Zhc (by symm) (by symm)) (s_g 3)) (by symm))),λds M Kk hM hD h=>?_⟩
  let⟨k0,L,rfl,h⟩:=h;let⟨hk,fi,k⟩:=h;let lL:(L.map pD).length=L.length:=Ja _;let l64:=fi.1;exists ·,·,?_,λj ys M'=>M=M'/\ys=(Zm (L.take j)).map .int,λ_ _ _ _ _=>rfl,⟨rfl,rfl⟩,?_,?_
  .show(L.map pD).length<=Cb;rw[lL];exact Zk ()
  .rintro j x ys _ hj hx ⟨rfl,rfl⟩;let⟨hj',rfl⟩:=Yr hx;exists ·,rfl,_,·,_,·,rfl,?_;exists ·,rfl,?_;unfold Zm;rw[Je hj',Jf,Jf];rfl
  rintro ys _ ⟨rfl,rfl⟩;rw[show K0 _ L=L from by rw[show(L.map pD).length=L.length from lL,Jw]];let lo:(Zm L).length=L.length:=by unfold Zm;rw[Ja]
  exists 3,rfl,⟨nofun,nofun⟩,?_,λj ys M'=>M=M'/\∃tss:List (List Int),ys=tss.map txD/\tss.length=j/\TxOk (Zm L) tss,λ_ _ _ _ _=>trivial,⟨rfl,[],rfl,rfl,λ_ h=>nomatch h⟩,?_,?_
  .decide
  .rintro j x ys _ hj rfl ⟨rfl,tss,rfl,rfl,ok⟩;exists ·,·,k0,Zm L,12,rfl,hk,⟨nofun,nofun⟩,λt0 h0 l0=>⟨rfl,tss++[t0],by rw[Jf];rfl,by rw[Jc];rfl,λts hts=>?_⟩;rcases J9.mp hts with z|z
   .exact ok ts z
   .rw[Jg.mp z];exists by lia,h0
  rintro ys _ ⟨rfl,tss,rfl,l3,ok⟩;let l3:tss.length=3:=l3;exists Ju _,(show 1<=Cb by decide),?_;exists _,·,rfl,?_,?_
  .rw[Ja];exact Zk (by show _+1<=_;lia)
  let ok1:TxOk (Zm L) (tss++[[]]):=λts hts=>by
   rcases J9.mp hts with z|z
   .exact ok ts z
   .rw[Jg.mp z];exists Ju _,λ_ h=>nomatch h
  rw[show tss.map txD++[D.lst []]=(tss++[[]]).map txD from by rw[Jf];rfl];let l4:(tss++[[]]).length=4:=by rw[Jc,l3];rfl
  generalize tss++[[]]=tss at ok1 l4;let e4:cut ((Zm L).map D.int) none (some 4)=((Zm L).take 4).map D.int:=by rw[X6,show(4:Int)=((4:Nat):Int)from rfl,Xm]
  let l44:((Zm L).take 4).length<=4:=List.length_take_le _ _;let m4:∀s∈(Zm L).take 4,s∈Zm L:=λs hs=>Bl hs;let add:∀{tss:List (List Int)}{ts:List Int},TxOk (Zm L) tss->(∀t∈ts,t∈Zm L)->ts.length<=200->TxOk (Zm L) (tss++[ts]):=λh1 h2 h3 ts hts=>by
   rcases J9.mp hts with z|z
   .exact h1 ts z
   .rw[Jg.mp z];exists h3,h2
  let big:∀n,n<=40->n<Cb:=λn h=>G4 h nofun;exists ·,·,?_;dsimp only[Sj,Ta,U9,sl3,Zgc,Zgb,Zf9,Sk,Rz,Zew,Zga,Ta,U9,Zan];exists ·,?_;rw[e4];exists ·,λi ρ M'=>∃(tss:List (List Int))(v4 v5:Option D),ρ=[some (.lst (L.map pD)),some (.cell k0),some (.lst ((Zm L).map .int)),some (.cell M.length),v4,v5]/\M'=M++[.lst (tss.map txD)]/\TxOk (Zm L) tss/\tss.length<=4+5*i,λ_ _ _ _ _=>rfl,⟨tss,_,_,rfl,rfl,ok1,()⟩,?_,?_
  .rintro i x ρ _ hi hx ⟨tss,v4,v5,rfl,rfl,ok,lt⟩;let⟨hi',rfl⟩:=Rw hx;let hs:=m4 _ (Jn hi');let ltm:(tss.map txD).length=tss.length:=Ja _;exists ·,Ua Su,·,(show 1<=Cb by decide),M.length,_,·,rfl,Yg,big _ (),?_;rw[U1];exists ·,·,?_;dsimp only[Sj,Ta,U9,sl3,Zgc,Zgb,Zf9,Sk,Rz,Zew,Zga,Ta,U9,Zan];exists ·,?_;rw[e4];exists ·,λj ρ M'=>∃(us:List (List Int))(v5:Option D),ρ=[some (.lst (L.map pD)),some (.cell k0),some (.lst ((Zm L).map .int)),some (.cell M.length),some (.int ((Zm L).take 4)[i]),v5]/\M'=M++[.lst (us.map txD)]/\TxOk (Zm L) us/\us.length<=5+5*i+j,λ_ _ _ _ _=>rfl,⟨tss++[[((Zm L).take 4)[i]]],_,rfl,by rw[Jf];rfl,add ok (λt ht=>by rw[Jg.mp ht];exact hs) (show 1<=200 by decide),by rw[Jc];show _+1<=_;lia⟩,?_,?_
   .rintro j x ρ _ hj hx ⟨us,v5,rfl,rfl,ok,lu⟩;let⟨hj',rfl⟩:=Rw hx;let hs2:=m4 _ (Jn hj');let lum:(us.map txD).length=us.length:=Ja _;exists ·,Ua Su,·,·,(show 2<=Cb by decide),M.length,_,·,rfl,Yg,big _ (),?_;rw[U1];refine .inl ⟨us++[[((Zm L).take 4)[i],((Zm L).take 4)[j]]],_,rfl,by rw[Jf];rfl,add ok (λt ht=>?_) (by decide:2<=200),by rw[Jc];show _+1<=_;lia⟩;rcases Jt.mp ht with z|z
    .rw[z];exact hs
    .rw[Jg.mp z];exact hs2
   .rintro ρ _ ⟨us,v5,rfl,rfl,ok,lu⟩;let lu:us.length<=5+5*i+(((Zm L).take 4).map D.int).length:=lu;rw[Ja]at lu;exact .inl ⟨us,_,_,rfl,rfl,ok,()⟩
  .rintro ρ _ ⟨us,v4,v5,rfl,rfl,ok,lu⟩;let lu:us.length<=4+5*(((Zm L).take 4).map D.int).length:=lu;rw[Ja]at lu;exists ·,.inl (k _ _ us ⟨_,rfl⟩ (Jd _) Yg ok ())
open L3
theorem Jbt(T:Txt mg)(Uy:Cal P w K mg base "_law_least" 3 ["_law_specs_here","_law_at"] (spOf ⟨C,K⟩ dLeast46))(U7:Met P w K mg base Zd "misled" 5 ["self","name"] (spOf ⟨C,K⟩ (λds M K=>dMisfX Zd Zs Pt mslP mslQ ds M K λ_ _ _=>False)))(Wc:Cal P w K mg base "_law_written" 1 ["_law_table_here","_law_text_here"] (spOf ⟨C,K⟩ dWritten47))(Wd:Cal P w K mg base "_law_by_mark" 1 ["_law_specs_here","_law_row"] (spOf ⟨C,K⟩ dByMarkL))(X7:Met P w K mg base Zd "mistaken" 5 ["self","name","text"] (spOf ⟨C,K⟩ (λds M K=>dMistX Zd Zs ds M K λ_ _ _=>False)))(Ut:Cal P w K mg base "_law_texts" 3 ["_law_table_here","_law_hand"] (spOf ⟨C,K⟩ dTexts46)){f:Addr}(F:Fun K "_law_asked" "_law_asked" Jam f fd):FnOk P w K mg base CX0 7 f fd ["_law_family","_law_specs_here","_law_at","_law_hand"] (spOf ⟨C,K⟩ (dAsked46 Zd Pt mslP mslQ)):=by
 refine L3.Fun.ok3 F Jbr (λds M K3 h=>?_) (λcdv A outer s H E hr=>?_)
 .let⟨k1,f,a,k0,d,qs,zs,ha,rfl,_⟩:=h;rfl
 .let SC:=Jbr;let hu:=hr.units;let hu1:=Xv hr;let N3:Room 3 _:=hr.mono nofun;let Qt:Room 5 _:=hr.mono nofun;let Ud:Room 1 _:=hr.mono nofun;let Uf:Room 1 _:=hr.mono nofun;let Vs:Room 5 _:=hr.mono nofun;let Ny:Room 3 _:=hr.mono nofun;refine⟨_,_,(Zc (Pl (Yc (Y6 (K':=K) rfl) (pv 1) (pv 2) (λ_ _=>rfl)) (Wm (n:=3) rfl (Zw (Zn (i:=4) SC.nd rfl (Cg rfl)) (Zw (Zn (i:=5) SC.nd rfl (Cg rfl)) (Zw (Zn (i:=6) SC.nd rfl (Cg rfl)) Xf))) (by rfl)))
 (Zc (Zr (i:=7) SC.nd rfl (Cg rfl) (Zt Uy N3 rfl (Za (pv 1) (Za (pv 2) Zb))))
 (Zc (Y8 Cm rfl (Yb rfl T.b_range (Za Ze Zb)) (Zn (i:=8) SC.nd rfl (Cg rfl))
 (Zc (Zr (i:=9) SC.nd rfl (Cg rfl) (Qf (pv 0) U7 Qt (Za (pv 4) Zb)))
 (Zc (Yu (PW.pt (Rc (Wl (Qh (pv 7))) (Tp (Wl (Sq (pv 9))))))
 (Zf (Zu Tc))
 Z0)
 (Zf (Yu (Wl (Sq (pv 7)))
 (Zc (Yu (PW.pt (Zky (Pk (V9 (Zp (Znh (K:=K) rfl) (by rfl) T.b_isinstance Lp (Za (pv 9) (Za (Zhv (v:=.ty "list") rfl T.b_list Cp rfl) Zb))))) (Zd3 (Zz (Zb8 (K':=K) rfl hu) (pv 9) (pv 7) (Z4 _)))))
 (Zf (Zu Tc))
 Z0)
 (Zc (Yu (V9 (Zp (Zjo (K:=K) rfl rfl) (by rfl) T.b_any PyProof.Rows.boot_any (Za (Yv (T:=["_law_sign"]) (cs:=[]) rfl (CScope.ok (by kernel_rfl)) (Z8 (pv 9)) (λ_ _ _ _=>(Zn (i:=0) (Yw (by kernel_rfl)) rfl (Cg rfl) (C5 rfl))) (λ_ _ _ _=>Yo) (λ_ _ _ _=>(Zp (Znh (K:=K) rfl) (by rfl) T.b_isinstance Lp (Za (pv 0) (Za (Zhv (v:=.ty "bool") rfl T.b_bool Jhh rfl) Zb)))) (Ym nofun)) Zb)))
 (Zf (Zu Tc))
 Z0)
 (Zf (Wu (Qg Cz C9 Ea We (pv 9) (Za Ze Zb))))))
 Z0)))))
 (Zc (Yu (Wl (Sq (pv 7)))
 (Zc (Zr (i:=10) SC.nd rfl (Cg rfl) (Zy (Y7 (K':=K) rfl) (Z2 (Uk (K:=K) rfl) (by rfl) T.b_list Cp (Za (pv 6) Zb)) (Yc (Y6 (K':=K) rfl) (Zt Wc Ud rfl (Za (pv 5) (Za (pv 7) Zb))) Ze (λ_ _=>rfl))))
 (Zf (Yu (PW.pt (Zky (Zz (Wn (K':=K) rfl hu) (Zt Wd Uf rfl (Za (pv 1) (Za (pv 10) Zb))) (Yf (Za (pv 4) Zb)) (Z4 _)) (Zd3 (Pk (V9 (Qf (pv 0) X7 Vs (Za (pv 4) (Za (Z2 (Uk (K:=K) rfl) (by rfl) T.b_list Cp (Za (pv 7) Zb)) Zb))))))))
 (Zf (Zu Tc))
 Z0)))
 Z0)
 (Zc (Y8 Cm rfl (Z8 (Zt Ut Ny rfl (Za (pv 5) (Za (pv 3) Zb)))) (Zn (i:=11) SC.nd rfl (Cg rfl))
 (Zc (Zr (i:=10) SC.nd rfl (Cg rfl) (Zy (Y7 (K':=K) rfl) (Z2 (Uk (K:=K) rfl) (by rfl) T.b_list Cp (Za (pv 6) Zb)) (Yc (Y6 (K':=K) rfl) (Zt Wc Ud rfl (Za (pv 5) (Za (pv 11) Zb))) Ze (λ_ _=>rfl))))
 (Zc (Zr (i:=12) SC.nd rfl (Cg rfl) (Vr (Zb8 (K':=K) rfl hu) (Zt Wd Uf rfl (Za (pv 1) (Za (pv 10) Zb))) (Yf (Za (pv 4) Zb)) (Z4 _)))
 (Zc (Yu (PW.pt (Rc (V9 (pv 12)) (Tp (PW.pt (Zky (Wl (Qh (pv 7))) (Zd3 (Zz (Zqt (K':=K) rfl (Znk hr)) (Xd (Za (Zp (Yd (K:=K) rfl) (by rfl) T.b_len F6 (Za (pv 11) Zb)) (Za (pv 11) Zb))) (Xd (Za (Zp (Yd (K:=K) rfl) (by rfl) T.b_len F6 (Za (pv 7) Zb)) (Za (pv 7) Zb))) (Z4 _))))))))
 (Zf (Zu Tc))
 Z0)
 (Zf (Yu (Zz (Zb8 (K':=K) rfl hu) (Qf (pv 0) X7 Vs (Za (pv 4) (Za (Z2 (Uk (K:=K) rfl) (by rfl) T.b_list Cp (Za (pv 11) Zb)) Zb))) (pv 12) (Z4 _))
 (Zf (Zu Tc))
 Z0))))))
 (Zf (Zu Tc))))))),λ_=>(Zx (by symm) (Zx (by symm) (Zx (Ri (by symm) (s_g 8) (Zx (Vj (V1 (Z6 0) (by symm)) (s_g 9)) (Zx (by symm) (Ws (by symm) (Zx (Ws (s_or (Zoc (s_b (s_cb (Zsb (T:=.list)) (by symm)))) (by symm)) (Xk s_bl) Xn) (Zx (Ws (s_b (s_cb Zoo (Xt (Qa (s_il (Z6 9)) (s_g 0) Zdw (s_cb (Zsb (T:=.bool)) (by symm))) Va))) (Xk s_bl) Xn) (by symm))) Xn)))) (Zx (Ws (by symm) (Zx (by symm) (Ws (s_or (by symm) (Zoc (s_b (V1 (Z6 0) (by symm))))) (Xk s_bl) Xn)) Xn) (Zx (Ri (by symm) (s_g 11) (Zx (by symm) (Zx (by symm) (Zx (Ws (Zsh (s_b (Z6 12)) (s_or (by symm) (Zau (s_op Zvg (by symm) (by symm))))) (Xk s_bl) Xn) (Ws (Zau (s_op s_ne (V1 (Z6 0) (by symm)) (Z6 12))) (Xk s_bl) Xn))))) (Xk s_bl)))))),λds M Kk hM hD h=>?_⟩
  let⟨k1,f,a,k0,d,qs,zs,ha,rfl,h⟩:=h;let⟨h1,hk,Fa,hd,⟨tz,l8,ff⟩,k⟩:=h;let a2:(qs.map spD)[a]?=some (spD qs[a]):=by rw[Jq,Jb ha];rfl
  let haz:a<zs.length:=by rw[tz.1];exact ha
  let t1:=tz.2 a _ _ (Jb haz) (Jb ha);let hqm:=Jn ha;let hzm:=Jn haz;let enm:zs.map (·.1)=qs.map (·.1):=by
   rw[Zlc tz.2 tz.1 (Jd _),Be (by rw[Ja];exact Jd _)]
  let nd:(qs.map (·.1)).Nodup:=by rw[<-enm];exact Fa.nd
  let lqm:(qs.map spD).length=qs.length:=Ja _;exists ·,·,?_;refine Zbc hd (Ul rfl a2) ?_;exists ·,rfl,_,·,_,·,_,·,rfl,?_;let ffq:=ff _ hqm;let⟨fr,fi,l4,sok⟩:=ffq;let⟨e1,e2,pm,ri⟩:=t1;let er:=Zcd tz.alike e1 e2;refine g_nx ?_
  try dsimp only
  refine Q8 (λρ' M'=>∃o,ρ'=[some (.cell f),some d,some (.int a),some (.cell k0),some (.str qs[a].1),some (.lst (qs[a].2.1.map pD)),some (wD qs[a].2.2),some (duD o),none,none,none,none,none]/\M=M'/\Yq qs[a].2.1 (Xu qs qs[a]) o/\∀t,o=some t->t.length<=5) (λKn hn=>?_) ?_
  .exists ·,·,a,d,qs,ha,rfl,hd,⟨nd,l8,λq hq=>⟨(ff q hq).2.1,(ff q hq).2.2.1⟩⟩,λlc=>hn _ _ ⟨none,rfl,rfl,lc,λ_ z=>(nomatch z)⟩,λt lc l5=>hn _ _ ⟨some t,rfl,rfl,lc,λ_ z=>by cases z;exact l5⟩
  rintro _ _ ⟨o,rfl,rfl,lc,l5⟩;generalize qs[a]=q at *
  generalize zs[a]=z at *
  let frz:=fr.perm pm;let fiz:=fi.perm pm;let lz:zs.length<=100:=by rw[tz.1];lia
  let zok:∀y∈zs,C6 y.1=true/\y.2.2.length<=4:=λy hy=>by
   let⟨q',hq',t'⟩:=tz.mem hy;rw[t'.1,t'.2.1];exists(ff q' hq').2.2.2,(ff q' hq').2.2.1
  let mis:∀U,misB qs q.1 (q.2.2++Zv U)=true↔cov (Xu qs q) U:=Zpc nd hqm;let same:∀{o'},Yq z.2.1 (Xu zs z) o'->o'=o:=λh=>h.uniq lc pm λU _=>by rw[er]
  let lfk:=Vk hk;exists 2,rfl,⟨nofun,nofun⟩,λi ρ M'=>∃v8 v9:Option D,ρ=[some (.cell f),some d,some (.int a),some (.cell k0),some (.str q.1),some (.lst (q.2.1.map pD)),some (wD q.2.2),some (duD o),v8,v9,none,none,none]/\M<+:M',λ_ _ _ _ _=>trivial,⟨_,_,rfl,Ji _⟩,?_,?_
  .rintro i x ρ M1 hi rfl ⟨v8,v9,rfl,p1⟩;let F1:=Fa.pre p1;exists ·,⟨f,_,rfl,F1.h0,rfl⟩,·,f,q.1,zs,rfl,F1,.inr ⟨k1,z,Ya p1 h1,⟨hzm,e1⟩,⟨frz,fiz,lz,zok⟩,λM2 p2 lo=>?_,λM2 c t p2 lcn hc lo lt5=>?_⟩
   .cases same lo;exists ·,·,iteT ⟨_,rfl,_,rfl,iteF ?_⟩;exists ·,·,iteF (.inl ⟨_,_,rfl,p1.trans p2⟩)
   .cases same lo;let ltm:(t.map D.int).length=t.length:=Ja _;exists ·,·,iteF ?_;exists ·,·,iteT ?_;exists ·,_,·,(Wo (Xj hc)).1,·,iteF ?_;exists ·,·,Sz Z9 (a:=t) (b:=t) (Wo (Xj hc)).2.1 rfl ⟨_,rfl,?_⟩;rw[Fx rfl];refine iteF ?_;exists ·,_,(Wo (Xj hc)).2.1,?_,λi ys M'=>M2=M'/\ys=((Cv i).map λ_=>false).map .bl,λ_ _ _ _ z=>by rw[<-z.1];exact(Wo (Xj hc)).2.1,⟨rfl,rfl⟩,?_,?_
    .show(t.map D.int).length<=Cb;rw[ltm];exact Zk ()
    .rintro i x ys _ hi hx ⟨rfl,rfl⟩;let⟨hi',rfl⟩:=Rw hx;exists ·,_,·,rfl,rfl,?_;rw[L5,Jf,Jf];rfl
    rintro ys _ ⟨rfl,rfl⟩;exists _,·,rfl,·,?_;rw[show((Cv _).map λ_=>false).any id=false from by simp];refine iteF ?_;exists ·,Ua (Xj hc),c,_,·,rfl,hc,G4 (by lia:_<=1000) nofun,?_;exact .inl ⟨_,_,rfl,Nl (p1.trans p2) (by have:=p1.length_le;lia)⟩
  rintro ρ M1 ⟨v8,v9,rfl,p1⟩;let hd1:=Pp p1 hd;let F1:=Fa.pre p1;let hk1:=Ya p1 hk;let m4:z.2.2.length<=4:=by rw[e2];exact l4
  let eB:∀row,misB zs z.1 (z.2.2++row)=misB qs q.1 (q.2.2++row):=λrow=>by rw[tz.alike.mis,e1,e2]
  let okn:∀row:List Int,∀n∈Xp qs row,C6 n=true:=λrow n hn=>by
   let⟨y,hy,rfl,_⟩:=Zet hn;exact(ff y hy).2.2.2
  let ok1:∀n∈[q.1],C6 n=true:=λn hn=>by rw[Jg.mp hn];exact sok
  let lrow:∀{U:List Pr},TxIn q.2.1 U->U.length<=200->(q.2.2++Zv U).length<=1000:=λhU hl=>by
   let:=Sm fi hU;rw[Jc];lia
  try dsimp only
  refine Q8 (λρ' M'=>∃v8 v9 v10:Option D,ρ'=[some (.cell f),some d,some (.int a),some (.cell k0),some (.str q.1),some (.lst (q.2.1.map pD)),some (wD q.2.2),some (duD o),v8,v9,v10,none,none]/\M<+:M') (λKn hn=>?_) ?_
  .cases o with
   |none=>exact⟨_,rfl,_,rfl,iteF (hn _ _ ⟨_,_,_,rfl,p1⟩)⟩
   |some t =>
    let⟨U,hU,eU,hcv⟩:=lc.text;let lt5:=l5 t rfl;let lU:U.length=t.length:=by rw[<-eU];exact(Ja _).symm
    let tx:Xb q.2.1 U t t.length:=⟨hU,by rw[Jw];exact eU⟩;let lr:=lrow hU ();exists ·,·,iteT ?_;exists ·,_,·,rfl,·,·,q.2.1,_,t,rfl,rfl,⟨fi,()⟩,λU' tx'=>?_,λi U' hi tx' hl=>Fl hl (tx.has i hi);let:=Xb.one fr tx' tx;subst this;exists _,_,·,rfl,rfl,_,·,rfl,?_,?_
    .rw[Jc]at lr;rw[Ja,Ja];exact Zk ()
    rw[<-Jf];let mt:misB qs q.1 (q.2.2++Zv U')=true:=(mis U').mpr hcv;let eM:=eB (Zv U');rw[mt]at eM;let tx2:Xb z.2.1 U' t t.length:=L3.Xb.perm pm tx;generalize q.2.2++Zv U'=row at lr mt;exists ·,·,_,_,qs,row,rfl,hd1,rfl,l8,?_;exists ·,(show 1<=Cb by decide),N5 (zs:=Xp qs row) (ws:=[q.1]) rfl rfl (okn row) ok1 ⟨_,rfl,?_⟩;let:decide (Xp qs row=[q.1])=false:=by unfold misB at mt;rw[Kf]at mt;exact mt
    rw[this];refine iteF ?_;exists ·,⟨f,_,rfl,F1.h0,rfl⟩,·,·,_,·,rfl,f,q.1,_,zs,t,rfl,F1,rfl,(),.inr ⟨z,U',hzm,e1,m4,fiz,frz,tx2,lz,λy hy=>(zok y hy).1,λM3 p3=>?_⟩;let eM:misB zs q.1 (z.2.2++Zv U')=true:=by rw[<-e1];exact eM
    rw[eM];exists ·,iteF (hn _ _ ⟨_,_,_,rfl,p1.trans p3⟩)
  rintro _ M2 ⟨v8,v9,v10,rfl,p2⟩;exists ·,·,k0,q.2.1,rfl,Ya p2 hk,fi,λM3 c tss p3 lcn hc tok ltss=>?_;exists _,(Wo (Xj hc)).2.1,λj ρ M'=>∃v8 v9 v10 v11 v12:Option D,ρ=[some (.cell f),some d,some (.int a),some (.cell k0),some (.str q.1),some (.lst (q.2.1.map pD)),some (wD q.2.2),some (duD o),v8,v9,v10,v11,v12]/\M3<+:M',λ_ _ _ _ h=>?_,⟨_,_,_,_,_,rfl,Ji _⟩,?_,?_
  .let⟨_,_,_,_,_,_,p⟩:=h;exact(Wo (Xj (Ya p hc))).2.1
  .rintro j x ρ M4 hj hx ⟨v8,v9,v10,v11,v12,rfl,p4⟩;let⟨hj',rfl⟩:=Yr hx;let⟨lts,hts⟩:=tok _ (Jn hj');generalize tss[j]=ts at lts hts;let p5:=(p2.trans p3).trans p4;let hd4:=Pp p5 hd;let F4:=Fa.pre p5;let⟨U,tx⟩:=Zn4 hts;exists ·,_,·,rfl,·,·,q.2.1,_,ts,rfl,rfl,⟨fi,()⟩,λU' tx'=>?_,λi U' hi tx' hl=>Fl hl (tx.has i hi);let:=Xb.one fr tx' tx;subst this;let lU:=tx.len (Jd _);let hU:TxIn q.2.1 U':=tx.1;let eU:Zm U'=ts:=by have:=tx.2;rwa [Jw]at this
   let lr:=lrow hU ();exists _,_,·,rfl,rfl,_,·,rfl,?_,?_
   .rw[Jc]at lr;rw[Ja,Ja];exact Zk ()
   rw[<-Jf];let mi:=mis U';let eM:=eB (Zv U');let tx2:Xb z.2.1 U' ts ts.length:=L3.Xb.perm pm tx;generalize q.2.2++Zv U'=row at lr mi eM;exists ·,·,_,_,qs,row,rfl,hd4,rfl,l8,?_;exists ·,(show 1<=Cb by decide),N5 (zs:=Xp qs row) (ws:=[q.1]) rfl rfl (okn row) ok1 ?_;rw[show(!decide (Xp qs row=[q.1]))=misB qs q.1 row from rfl];generalize misB qs q.1 row=B at mi eM;let eM:misB zs q.1 (z.2.2++Zv U')=B:=by rw[<-e1];exact eM
   refine g_nx ?_
   try dsimp only
   show uIfS _ _ _ _ _ _;refine Zv6 (c:=B&&(o.isNone ||ltO ts o)) (Zua (λK h=>⟨_,rfl,_,rfl,h⟩) (λhB=>Zvv (λK h=>⟨_,rfl,_,rfl,?_⟩) (λhno K h=>?_))) ?_
   .cases o<;>exact h
   .cases o with
    |none=>cases hno
    |some t=>exact⟨_,rfl,_,rfl,_,rfl,(show 2<=Cb by decide),_,rfl,_,rfl,_,rfl,(show 2<=Cb by decide),kP ts,kP t,Y0 ts t,Zmv _ ts,Zmv _ t,k_lt ts t,Zml ts,Zml t,_,rfl,h⟩
   let hz:(B&&(o.isNone ||ltO ts o))=false:=by
    cases B with
    |false=>rfl
    |true =>
     let hcv:=mi.mp rfl;cases o with
     |none=>exact Fl hcv (lc U' hU)
     |some t =>
      let:=lc.2 U' hU hcv;rw[eU]at this;exact this
   rw[hz];refine iteF ?_;exists ·,⟨f,_,rfl,F4.h0,rfl⟩,·,·,_,·,rfl,f,q.1,_,zs,ts,rfl,F4,rfl,(),.inr ⟨z,U',hzm,e1,m4,fiz,frz,tx2,lz,λy hy=>(zok y hy).1,λM5 p5'=>?_⟩;rw[eM];exists ·,.inl ⟨_,rfl,_,rfl,?_⟩;rw[Fx rfl];exact iteF (.inl ⟨_,_,_,_,_,rfl,p4.trans p5'⟩)
  .rintro ρ M4 ⟨v8,v9,v10,v11,v12,rfl,p4⟩;exact .inl (k _ ((p2.trans p3).trans p4))
open L3
def Jbq(T:Txt mg){Xc:Addr}(Q7:Cau K mg "NoName" Zs)(mnn:L7 K Zs (.ref Zs)=some true)(U8:MetE P w K mg base Zd "marked" 4 ["self","name","text"] (W7 ⟨C,K⟩ (dMarkedX Zd Zs Xc)))(X7:MetE P w K mg base Zd "mistaken" 5 ["self","name","text"] (W7 ⟨C,K⟩ (dMistX Zd Zs)))(U7:MetE P w K mg base Zd "misled" 5 ["self","name"] (W7 ⟨C,K⟩ (dMisfX Zd Zs Pt mslP mslQ))){f:Addr}(F:Fun K "_law_not_yet" "_law_not_yet" Jcd f fd):FnOk P w K mg base CX0 6 f fd ["_law_family","_law_name"] (spOf ⟨C,K⟩ (dNo41 Zd)):=by
 refine L3.Fun.ok3 F Jah (λds M K3 h=>?_) (λcdv A outer s H E hr=>?_)
 .let⟨f,n,zs,rfl,_⟩:=h;rfl
 .let SC:=Jah;let hu:=hr.units;let hu1:=Xv hr;let Qu:Room 4 _:=hr.mono nofun;let Vs:Room 5 _:=hr.mono nofun;let Qt:Room 5 _:=hr.mono nofun;refine⟨_,_,(Zc (Y8 Cm rfl (Yb rfl T.b_range (Za Ze Zb)) (Zn (i:=2) SC.nd rfl (Cg rfl))
 (Zc (Zmx rfl rfl (λ_ _ _ _ hx=>So (Zmw (Zz (Wn (K':=K) rfl hu) (pv 2) Ze (Z4 _)) (So (Rq (Zd7 (pv 0) U7 Qt hx (Za (pv 1) Zb)))) (So (Zmw (Zz (Wn (K':=K) rfl hu) (pv 2) Ze (Z4 _)) (So (Rq (Zd7 (pv 0) X7 Vs hx (Za (pv 1) (Za (Yf Zb) Zb))))) (So (Rq (Zd7 (pv 0) U8 Qu hx (Za (pv 1) (Za (Yf Zb) Zb))))))))) (Ztl Q7 rfl (λ_=>(Zf Zck)) Zm9))
 (Zf (Zu Tc))))
 (Zf (Zu Tc))),λ_=>(Zx (Ri (by symm) (s_g 2) (Zx (Zr1 (λ_ _ _ he hk hx=>(Ws (by symm) (Rb (V0 he hk hx (Z6 0) (by symm))) (Ws (by symm) (Rb (V0 he hk hx (Z6 0) (by symm))) (Rb (V0 he hk hx (Z6 0) (by symm)))))) (Zsc Zsf Zmo)) (Xk s_bl))) (Xk s_bl)),λds M Kk hM hD h=>?_⟩
  let⟨f,n,zs,rfl,h⟩:=h;let⟨Fa,hn,k⟩:=h;exists 3,rfl,⟨nofun,nofun⟩,λi ρ M'=>∃v2:Option D,ρ=[some (.cell f),some (.str n),v2]/\M=M',λ_ _ _ _ _=>trivial,⟨_,rfl,rfl⟩,?_,?_
  .rintro i x ρ _ hi rfl ⟨v2,rfl,rfl⟩;exists ·,.inl ⟨_,rfl,_,rfl,ite2 (λh=>?_) (λh=>?_)⟩
   .exists ·,⟨f,_,rfl,Fa.h0,rfl⟩,·,f,n,zs,rfl,Fa,.inl ⟨hn,true,mnn,?_⟩;rw[Fw rfl];exact .inl ⟨_,rfl,rfl⟩
   exists ·,.inl ⟨_,rfl,_,rfl,ite2 (λh=>?_) (λh=>?_)⟩
   .exists ·,⟨f,_,rfl,Fa.h0,rfl⟩,·,Ju _,f,n,_,zs,[],rfl,Fa,rfl,Ju _,.inl ⟨hn,true,mnn,?_⟩;rw[Fw rfl];exact .inl ⟨_,rfl,rfl⟩
   .exists ·,⟨f,_,rfl,Fa.h0,rfl⟩,·,Ju _,f,n,_,zs,[],rfl,Fa,rfl,Ju _,.inl ⟨.name,hn,true,mnn,?_⟩;rw[Fw rfl];exact .inl ⟨_,rfl,rfl⟩
  .rintro ρ _ ⟨v2,rfl,rfl⟩;exact .inl k
open L3
def Jcx(T:Txt mg){Yz:Addr}(P6:Mkr P w K mg base "Code" C 4 ["self","table"] (Nd C Pt lamP lamQ))(Zah:Cau K mg "Taken" Yz)(mtt:L7 K Yz (.ref Yz)=some true)(Zfx:MetE P w K mg base Zd "add" 3 ["self","name","code","mark"] (W7 ⟨C,K⟩ (dAddX Zd Yz))){f:Addr}(F:Fun K "_law_refused_again" "_law_refused_again" Jcj f fd):FnOk P w K mg base CX0 7 f fd ["_law_family","_law_known","_law_some"] (spOf ⟨C,K⟩ (dRef46 Zd Pt lamP lamQ)):=by
 refine L3.Fun.ok3 F Jbc (λds M K3 h=>?_) (λcdv A outer s H E hr=>?_)
 .let⟨k0,f,d,bs,q,qs,zs,rfl,_⟩:=h;rfl
 .let SC:=Jbc;let hu:=hr.units;let hu1:=Xv hr;let Zc0:Room 5 _:=hr.mono nofun;let Ziv:Room 3 _:=hr.mono nofun;refine⟨_,_,(Zc (Zmx rfl rfl (λ_ _ _ _ hx=>So (Rq (Zd7 (pv 0) Zfx Ziv hx (Za (Yc (Y6 (K':=K) rfl) (Yc (Y6 (K':=K) rfl) (pv 1) Ze (λ_ _=>rfl)) Ze (λ_ _=>rfl)) (Za (Zsx P6 Zc0 rfl (Za (Yf (Za (Xd (Za Ze (Za (Xd (Za (Yc (Y6 (K':=K) rfl) (pv 2) Ze (λ_ _=>rfl)) Zb)) Zb))) Zb)) Zb)) (Za (Xd (Za (Yc (Y6 (K':=K) rfl) (pv 2) Ze (λ_ _=>rfl)) (Za (Yc (Y6 (K':=K) rfl) (pv 2) Ze (λ_ _=>rfl)) (Za (Yc (Y6 (K':=K) rfl) (pv 2) Ze (λ_ _=>rfl)) (Za (Yc (Y6 (K':=K) rfl) (pv 2) Ze (λ_ _=>rfl)) Zb))))) Zb)))))) (Ztl Zah rfl (λ_=>(Zf (Zu Tc))) Zm9))
 (Zf (Zu Tc))),λ_=>(Zx (Zr1 (λ_ _ _ he hk hx=>(Rb (V0 he hk hx (Z6 0) (Xt (by symm) (Xt (Zdx (by symm)) (by symm)))))) (Zsc (Xk s_bl) Zmo)) (Xk s_bl)),λds M Kk hM hD h=>?_⟩
  let⟨k0,f,d,bs,q,qs,zs,rfl,h⟩:=h;let⟨h0,Fa,hd,⟨b2,hn,lz⟩,k⟩:=h
  match bs,b2 with
  |b0::b1::bs,_ =>
  let a0:((q::qs).map spD)[0]?=some (spD q):=rfl;exists ·,⟨f,_,rfl,Fa.h0,rfl⟩,·,?_;refine Zbc hd (Ul (j:=0) rfl a0) ?_;exists _,_,·,rfl,rfl,?_;let s1:1<=Cb:=by decide
  let s2:2<=Cb:=by decide
  exists ·,_,_,·,rfl,Wy (j:=0) rfl,s1,s2,s1,k0,_,[(1,[b0])],h0,rfl,rfl,⟨Ja0 _ _,?_⟩,λS pm ri=>?_
  .exact⟨(by decide:1<64),λp hp=>by rw[Jg.mp hp];exact⟨λz=>(nomatch z),(by decide:1<=4)⟩⟩
  exists ·,_,_,·,rfl,Wy (j:=1) rfl,·,_,_,·,rfl,Wy (j:=0) rfl,·,_,_,·,rfl,Wy (j:=1) rfl,·,_,_,·,rfl,Wy (j:=0) rfl,(show 4<=Cb by decide),f,q.1,S,[b1,b0,b1,b0],zs,rfl,Fa,lz,λz=>Fl hn z,λ_=>⟨true,mtt,?_⟩;rw[Fw rfl];exact .inl (k _ (Ji _))
open L3
theorem Jbe(T:Txt mg){Yz:Addr}(P6:Mkr P w K mg base "Code" C 4 ["self","table"] (Nd C Pt lamP lamQ))(Zi:Cal P w K mg base "_law_draw" 1 ["_law_hand","_law_many"] (spOf ⟨C,K⟩ dDraw))(Zaf:Mkr P w K mg base "Family" Zd 1 ["self"] (spOf ⟨C,K⟩ (dInitF Zd)))(Zfx:Met P w K mg base Zd "add" 3 ["self","name","code","mark"] (spOf ⟨C,K⟩ (λds M K=>dAddX Zd Yz ds M K λ_ _ _=>False)))(Vh:Cal P w K mg base "_law_not_yet" 6 ["_law_family","_law_name"] (spOf ⟨C,K⟩ (dNo41 Zd)))(Xi:Cal P w K mg base "_law_refused_again" 7 ["_law_family","_law_known","_law_some"] (spOf ⟨C,K⟩ (dRef46 Zd Pt lamP lamQ)))(Xq:Cal P w K mg base "_law_asked" 7 ["_law_family","_law_specs_here","_law_at","_law_hand"] (spOf ⟨C,K⟩ (dAsked46 Zd P2 mslP mslQ))){f:Addr}(F:Fun K "_law_growing" "_law_growing" Jcu f fd):FnOk P w K mg base CX0 8 f fd ["_law_specs_here","_law_hand","_law_some"] (spOf ⟨C,K⟩ (dGrow46 Zd Pt lamP lamQ P2 mslP mslQ)):=by
 refine L3.Fun.ok3 F Jcm (λds M K3 h=>?_) (λcdv A outer s H E hr=>?_)
 .let⟨k0,k1,hh,d,bs,qs,rfl,_⟩:=h;rfl
 .let SC:=Jcm;let hu:=hr.units;let hu1:=Xv hr;let Zc0:Room 5 _:=hr.mono nofun;let Zj:Room 1 _:=hr.mono nofun;let Zix:Room 2 _:=hr.mono nofun;let Ziv:Room 3 _:=hr.mono nofun;let Qv:Room 6 _:=hr.mono nofun;let Ue:Room 7 _:=hr.mono nofun;let Vt:Room 7 _:=hr.mono nofun;refine⟨_,_,(Zc (Zr (i:=3) SC.nd rfl (Cg rfl) (Zsw Zaf Zix rfl))
 (Zc (Y8 Cm rfl (Yb rfl T.b_range (Za (Zp (Yd (K:=K) rfl) (by rfl) T.b_len F6 (Za (pv 0) Zb)) Zb)) (Zn (i:=4) SC.nd rfl (Cg rfl))
 (Zc (Yu (Pk (V9 (Zt Vh Qv rfl (Za (pv 3) (Za (Yc (Y6 (K':=K) rfl) (Yc (Y6 (K':=K) rfl) (pv 0) (pv 4) (λ_ _=>rfl)) Ze (λ_ _=>rfl)) Zb)))))
 (Zf (Zu T5))
 Z0)
 (Zc (Wu (Qf (pv 3) Zfx Ziv (Za (Yc (Y6 (K':=K) rfl) (Yc (Y6 (K':=K) rfl) (pv 0) (pv 4) (λ_ _=>rfl)) Ze (λ_ _=>rfl)) (Za (Zsx P6 Zc0 rfl (Za (Z2 (Uk (K:=K) rfl) (by rfl) T.b_list Cp (Za (Yc (Y6 (K':=K) rfl) (Yc (Y6 (K':=K) rfl) (pv 0) (pv 4) (λ_ _=>rfl)) Ze (λ_ _=>rfl)) Zb)) Zb)) (Za (Yc (Y6 (K':=K) rfl) (Yc (Y6 (K':=K) rfl) (pv 0) (pv 4) (λ_ _=>rfl)) Ze (λ_ _=>rfl)) Zb)))))
 (Zc (Yu (Pk (V9 (Zt Xi Ue rfl (Za (pv 3) (Za (pv 0) (Za (pv 2) Zb))))))
 (Zf (Zu T5))
 Z0)
 (Zc (Zr (i:=5) SC.nd rfl (Cg rfl) (Z5 (Wz (K':=K) rfl) (pv 0) Ye (Z7 (Zy (Y7 (K':=K) rfl) (pv 4) Ze))))
 (Zc (Zr (i:=6) SC.nd rfl (Cg rfl) (Zy Xe (Zt Zi Zj rfl (Za (pv 1) (Za Ze Zb))) (Zp (Yd (K:=K) rfl) (by rfl) T.b_len F6 (Za (pv 5) Zb))))
 (Zf (Y8 Cm rfl (Z8 (Z5 (Wz (K':=K) rfl) (Yf (Za (pv 6) (Za (pv 4) Zb))) Ye (Z7 (Zy (Y7 (K':=K) rfl) Ze (Zt Zi Zj rfl (Za (pv 1) (Za Ze Zb))))))) (Zn (i:=7) SC.nd rfl (Cg rfl))
 (Zf (Yu (Pk (V9 (Zt Xq Vt rfl (Za (pv 3) (Za (pv 5) (Za (pv 7) (Za (pv 1) Zb)))))))
 (Zf (Zu T5))
 Z0))))))))))
 (Zf (Zu (pv 3))))),λ_=>(Zx (Vj (Zvf Va) (s_g 3)) (Zx (Ri (by symm) (s_g 4) (Zx (by symm) (Zx (Rb (V1 (Z6 3) (Xt (by symm) (Xt (Zdx (by symm)) (by symm))))) (by symm)))) (Xk (Z6 3)))),λds M Kk hM hD h=>?_⟩
  let⟨k0,k1,hh,d,bs,qs,rfl,h⟩:=h;let⟨h0,h1,hk,hd,⟨b2,nd,l8,ff⟩,k⟩:=h;refine⟨M.length,rfl,Yg,by rw[Jc];rfl,rfl,?_⟩;rw[U1];let F0:FamAt Zd (M++[MO.ins Zd (famD M.length)]++[MO.dct [],MO.dct []]) M.length []:=by
   rw[Gg];exists Zi2 (k:=0),Zi2 (k:=1),Zi2 (k:=2),List.nodup_nil
  let p0:M<+:M++[MO.ins Zd (famD M.length)]++[MO.dct [],MO.dct []]:=by rw[Gg];exists ·
  generalize M++[MO.ins Zd (famD M.length)]++[MO.dct [],MO.dct []]=M0 at F0 p0;let lqm:(qs.map spD).length=qs.length:=Ja _;refine g_nx ?_
  try dsimp only
  exists ·,?_;refine Zeg (Pp p0 hd) ?_;exists ·,⟨(),()⟩,λi ρ M'=>∃(zs:List Fq)(v3 v4 v5 v6:Option D),ρ=[some d,some (.cell hh),some (.lst (bs.map .int)),some (.cell M.length),v3,v4,v5,v6]/\M<+:M'/\FamAt Zd M' M.length zs/\zs.length=i/\∀(i:Nat)(z q:Fq),zs[i]?=some z->qs[i]?=some q->Zaa z q,λ_ _ _ _ _=>trivial,⟨[],_,_,_,_,rfl,p0,F0,rfl,λi z q e=>nomatch e⟩,?_,?_
  .rintro i x ρ M1 hi rfl ⟨zs,v3,v4,v5,v6,rfl,p1,F1,lz,tz⟩;let hi':i<qs.length:=by
    let:i<(((qs.map spD).length:Int)).toNat:=hi;lia
   let e0:(0:Int)+(i:Int)=(i:Int):=B9 _;rw[e0];let a2:(qs.map spD)[i]?=some (spD qs[i]):=by rw[Jq,Jb hi'];rfl
   let hm:=ff _ (Jn hi');let nw:=Zpw nd tz lz hi';let hd1:=Pp p1 hd;exists ·,·,·,?_;refine Zbc hd1 (Ul rfl a2) ?_;exists _,_,·,rfl,rfl,M.length,qs[i].1,zs,rfl,F1,nw,·,iteF ?_;exists ·,⟨M.length,_,rfl,F1.h0,rfl⟩,·,·,?_;refine Zbc hd1 (Ul rfl a2) ?_;exists _,_,·,rfl,rfl,·,·,?_;refine Zbc hd1 (Ul rfl a2) ?_;exists _,_,·,rfl,rfl,_,·,rfl,k0,_,qs[i].2.1,Ya p1 h0,rfl,rfl,⟨hm.1,hm.2.1⟩,λS pm ri=>?_;exists ·,·,?_;refine Zbc hd1 (Ul rfl a2) ?_;exists _,_,·,rfl,rfl,M.length,qs[i].1,S,qs[i].2.2,zs,rfl,F1,(),λ_=>?_,λz=>Fl z nw
   let lt1:=Vk F1.h2;let F2:FamAt Zd (Q2 M1 M.length (zs++[(qs[i].1,S,qs[i].2.2)])) M.length (zs++[(qs[i].1,S,qs[i].2.2)]):=F1.put (Zs5 F1.nd nw);let p2:M<+:Q2 M1 M.length (zs++[(qs[i].1,S,qs[i].2.2)]):=by
    unfold Q2;exact Nl (Nl p1 ()) ()
   let tz2:=Zrg tz lz hi' (z:=(qs[i].1,S,qs[i].2.2)) ⟨rfl,rfl,pm,ri⟩;let lz2:(zs++[(qs[i].1,S,qs[i].2.2)]).length=i+1:=by rw[Jc,lz];rfl
   generalize Q2 M1 M.length (zs++[(qs[i].1,S,qs[i].2.2)])=M2 at F2 p2;generalize zs++[(qs[i].1,S,qs[i].2.2)]=zs2 at F2 tz2 lz2;let T2:=Wq.take tz2 lz2 hi';let hd2:=Pp p2 hd;obtain⟨q0,qs',eq0⟩:∃q0 qs',qs=q0::qs':=by
    cases qs with
    |nil=>exact Fl hi' (Gp _)
    |cons a b=>exact⟨a,b,rfl⟩
   let n0:q0.1∈zs2.map (·.1):=by
    let hz:0<zs2.length:=by lia
    let:=(tz2 0 zs2[0] q0 (Jb hz) (by rw[eq0];rfl)).1;exact Jh.mpr ⟨_,Jn hz,this⟩
   refine⟨_,rfl,_,rfl,_,rfl,k0,M.length,_,bs,q0,qs',zs2,rfl,Ya p2 h0,F2,by rw[<-eq0];exact hd2,⟨b2,n0,()⟩,λM3 p3=>⟨_,rfl,iteF ?_⟩⟩;let p23:=p2.trans p3;let F3:=F2.pre p3;refine⟨_,rfl,_,rfl,_,rfl,?_⟩;refine Zgx (Pp p23 hd) ?_;let ek:cut (qs.map spD) none (some ((i:Int)+1))=(qs.take (i+1)).map spD:=by
    rw[X6,show(i:Int)+1=((i+1:Nat):Int)by lia,Xm]
   rw[ek];let lk:((qs.take (i+1)).map spD).length=i+1:=by rw[Ja,J8];lia
   let lk':(qs.take (i+1)).length=i+1:=by rw[J8];lia
   let fk:∀q∈qs.take (i+1),Free q.2.1/\Fits q.2.1/\q.2.2.length<=4/\C6 q.1=true:=λq hq=>ff q (Bl hq);generalize qs.take (i+1)=ks at lk lk' fk T2;refine g_nx ?_
   try dsimp only
   exists ·,hh,60,rfl,Ya p23 hk,⟨nofun,nofun⟩,λy y0 y1=>⟨_,rfl,_,rfl,_,_,rfl,rfl,(),?_⟩;let⟨a,ea,ha⟩:=Zee y (n:=(ks.map spD).length) ()
   try dsimp only
   rw[ea];refine⟨_,rfl,_,rfl,(show 2<=Cb by decide),_,rfl,hh,2,rfl,Ya p23 hk,⟨nofun,nofun⟩,λu u0 u1=>?_⟩;obtain⟨ps,eps,hps⟩:∃ps:List Nat,cut [D.int a,D.int i] none (some (1+u))=ps.map (λp=>D.int ((p:Nat):Int))/\∀p∈ps,p<ks.length:=by
    let hu:u=0\/u=1:=by lia
    rcases hu with rfl|rfl
    .exact⟨[a],by rw[show(1:Int)+0=((1:Nat):Int)from rfl,Xm];rfl,λp hp=>by rw[Jg.mp hp];lia⟩
    .exists [a,i],by rw[show(1:Int)+1=((2:Nat):Int)from rfl,Xm];rfl,λp hp=>?_;rcases Jt.mp hp with z|z
     .rw[z];lia
     .rw[Jg.mp z];lia
   exists ·,?_;dsimp only[Ta,U9,sl3,Zgc,Zgb,Zf9,Sk,Rz,Zew,Zga,Ta,U9,Zan];exists ·,?_;rw[eps];exists ·,λj ρ M'=>∃v7:Option D,ρ=[some d,some (.cell hh),some (.lst (bs.map .int)),some (.cell M.length),some (.int i),some (.lst (ks.map spD)),some (.int a),v7]/\M3<+:M',λ_ _ _ _ _=>rfl,⟨_,rfl,Ji _⟩,?_,?_
   .rintro j x ρ M4 hj hx ⟨v7,rfl,p4⟩;let⟨hj',rfl⟩:=Yr hx;let p5:=p23.trans p4;exists ·,·,·,·,k1,M.length,ps[j],hh,_,ks,zs2,hps _ (Jn hj'),rfl,Ya p5 h1,Ya p5 hk,F3.pre p4,rfl,⟨T2,(),fk⟩,λM5 p6=>⟨_,rfl,iteF (.inl ⟨_,rfl,p4.trans p6⟩)⟩
   .rintro ρ M4 ⟨v7,rfl,p4⟩;exact .inl ⟨zs2,_,_,_,_,rfl,p23.trans p4,F3.pre p4,lz2,tz2⟩
  .rintro ρ M1 ⟨zs,v3,v4,v5,v6,rfl,p1,F1,lz,tz⟩;let lz:zs.length=(((qs.map spD).length:Int)).toNat:=lz;exists ·,.inl (k M1 _ zs p1 (Jd _) F1 ⟨(),tz⟩)
open L3
abbrev spLaw(K:Cr)(Pt P2:Addr):Sp:=Zmj K Pt lamP lamQ P2 mslP mslQ
theorem Jau(T:Txt mg)(Y2:Cal P w K mg base "_law_open" 1 ["_law_script","_law_place"] (spOf ⟨C,K⟩ dOpen))(Zi:Cal P w K mg base "_law_draw" 1 ["_law_hand","_law_many"] (spOf ⟨C,K⟩ dDraw))(Uv:Cal P w K mg base "_law_specs" 3 ["_law_script","_law_most"] (spOf ⟨C,K⟩ dSpecs41))(Vi:Cal P w K mg base "_law_growing" 8 ["_law_specs_here","_law_hand","_law_some"] (spOf ⟨C,K⟩ (dGrow46 Zd Pt lamP lamQ P2 mslP mslQ)))(Xq:Cal P w K mg base "_law_asked" 7 ["_law_family","_law_specs_here","_law_at","_law_hand"] (spOf ⟨C,K⟩ (dAsked46 Zd P2 mslP mslQ))){f:Addr}(F:Fun K "law" "law" Zoi f fd):FnOk P w K mg base CX0 9 f fd ["_law_script"] (spOf ⟨C,K⟩ (dLaw2 Pt lamP lamQ P2 mslP mslQ)):=by
 refine L3.Fun.ok3 F Dv (λds M K3 h=>?_) (λcdv A outer s H E hr=>?_)
 .let⟨ns,rfl,_⟩:=h;rfl
 .let SC:=Dv;let hu:=hr.units;let hu1:=Xv hr;let Xo:Room 1 _:=hr.mono nofun;let Zj:Room 1 _:=hr.mono nofun;let N0:Room 3 _:=hr.mono nofun;let Qw:Room 8 _:=hr.mono nofun;let Vt:Room 7 _:=hr.mono nofun;refine⟨_,_,(Zc (Pl (Zt Uv N0 rfl (Za (pv 0) (Za Ze Zb))) (Wm (n:=3) rfl (Zw (Zn (i:=1) SC.nd rfl (Cg rfl)) (Zw (Zn (i:=2) SC.nd rfl (Cg rfl)) (Zw (Zn (i:=3) SC.nd rfl (Cg rfl)) Xf))) (by rfl)))
 (Zc (Zr (i:=4) SC.nd rfl (Cg rfl) (Zt Vi Qw rfl (Za (pv 3) (Za (Zt Y2 Xo rfl (Za (pv 0) (Za Ze Zb))) (Za (pv 1) Zb)))))
 (Zc (Yu (Wl (Qh (pv 4)))
 (Zf (Zu Tc))
 Z0)
 (Zc (Zr (i:=5) SC.nd rfl (Cg rfl) (Zy Xe (Zt Zi Zj rfl (Za (Zt Y2 Xo rfl (Za (pv 0) (Za Ze Zb))) (Za Ze Zb))) (Zp (Sf rfl) (by rfl) T.b_max E8 (Za Ze (Za (Zp (Yd (K:=K) rfl) (by rfl) T.b_len F6 (Za (pv 3) Zb)) Zb)))))
 (Zc (Y8 Cm rfl (Z8 (Zy (Y7 (K':=K) rfl) (Z2 (Rh rfl) (by rfl) T.b_list Cp (Za (Z2 Zda (by rfl) T.b_range PyProof.Rows.boot_range (Za (pv 5) (Za (Zp (Yd (K:=K) rfl) (by rfl) T.b_len F6 (Za (pv 3) Zb)) Zb))) Zb)) (Z2 (Rh rfl) (by rfl) T.b_list Cp (Za (Z2 Zbq (by rfl) T.b_range PyProof.Rows.boot_range (Za (pv 5) Zb)) Zb)))) (Zn (i:=6) SC.nd rfl (Cg rfl))
 (Zf (Yu (Pk (V9 (Zt Xq Vt rfl (Za (pv 4) (Za (pv 3) (Za (pv 6) (Za (Zt Y2 Xo rfl (Za (pv 0) (Za (Zy (Y7 (K':=K) rfl) Ze (pv 6)) Zb))) Zb)))))))
 (Zf (Zu Tc))
 Z0)))
 (Zf (Zu Tc))))))),λ_=>(Zx (by symm) (Zx (by symm) (Zx (by symm) (Zx (by symm) (Zx (Ri (s_il (s_op Zop (Zg7 (by symm)) (Ze5 (by symm)))) (s_g 6) (by symm)) (Xk s_bl)))))),λds M Kk hM hD h=>?_⟩
  let⟨ns,rfl,h⟩:=h;let⟨rfl,hlen,k⟩:=h;exists ·,ns,3,rfl,⟨hlen,nofun,nofun⟩,λbs ss qs c M1 ok p1 lc hc=>?_;exists ·,rfl,_,·,_,·,_,·,rfl,?_;let l8:=ok.ln;let lqm:(qs.map spD).length=qs.length:=Ja _;let h01:M1[0]?=some (.tab Pt lamP lamQ):=Ya p1 rfl;let h11:M1[1]?=some (.tab P2 mslP mslQ):=Ya p1 rfl;let fq:∀q∈qs,Free q.2.1/\Fits q.2.1/\q.2.2.length<=4/\C6 q.1=true:=λq h=>⟨ok.fr q h,ok.fi q h,ok.ml q h,(ok.nl q h).2⟩;exists ·,·,ns,19,rfl,⟨hlen,nofun,nofun⟩,?_;exists ·,0,1,M1.length,_,bs,qs,rfl,Y1 h01,Y1 h11,Yg,Xj (Y1 hc),⟨ok.b2,ok.nd,l8,fq⟩,λM2 f zs p2 lf F2 tz=>?_
  let h12:M2[1]?=some (.tab P2 mslP mslQ):=Ya p2 (Y1 h11);let hc2:M2[c]?=some (.lst (qs.map spD)):=Ya p2 (Y1 hc);refine⟨_,rfl,_,rfl,iteF ?_⟩;refine⟨_,rfl,ns,9,rfl,⟨hlen,nofun,nofun⟩,?_⟩;let hc3:(M2++[MO.hand])[c]?=some (.lst (qs.map spD)):=Y1 hc2;let h13:(M2++[MO.hand])[1]?=some (.tab P2 mslP mslQ):=Y1 h12;let F3:=F2.pre (N:=M2++[MO.hand]) ⟨_,rfl⟩;let h3:(M2++[MO.hand])[M2.length]?=some .hand:=Yg;generalize M2.length=hh at h3;generalize M2++[MO.hand]=M3 at hc3 F3 h3 h13;refine⟨hh,60,rfl,h3,⟨nofun,nofun⟩,λy y0 y1=>?_⟩;let hmx:(0:Int)<(if((qs.map spD).length:Int) > 1 then((qs.map spD).length:Int)else 1):=by split<;>lia
  obtain⟨st,est,hst⟩:∃st:Nat,y % (if((qs.map spD).length:Int) > 1 then((qs.map spD).length:Int)else 1)=(st:Int)/\st<=qs.length:=by
   let hm:(if((qs.map spD).length:Int) > 1 then((qs.map spD).length:Int)else 1)=qs.length\/(if((qs.map spD).length:Int) > 1 then((qs.map spD).length:Int)else 1)=1/\qs.length<=1:=by split<;>lia
   generalize (if((qs.map spD).length:Int) > 1 then((qs.map spD).length:Int)else 1)=mx at hmx hm;let h1:=Gz y (Int.ne_of_gt hmx);let h2:=Gr y hmx
   by_cases h0:qs.length=0
   .exists 0,?_,Ju _;lia
   .exact⟨(y % mx).toNat,(),()⟩
  exists ·,_,(Wo (Xj hc3)).2.2,_,·,_,·,rfl,hmx,?_
  try dsimp only
  rw[est];let lr:∀(a:Int)(n:Nat),(rngD a n).length=n:=λa n=>by unfold rngD;rw[Ja,List.length_range]
  exists ·,·,_,(Wo (Xj hc3)).2.2,_,·,⟨(),(),(),(),()⟩,·,·,⟨(),(),()⟩,_,·,rfl,?_,?_
  .rw[lr,lr];exact Zk ()
  let hin:∀x∈rngD st (((qs.map spD).length:Int)-(st:Int)).toNat++rngD 0 ((st:Int)).toNat,∃j:Nat,x=.int j/\j<qs.length:=λx hx=>by
   rcases J9.mp hx with w|w
   .unfold rngD at w;let⟨j,hj,rfl⟩:=Jh.mp w;let:=Bs.mp hj;exact⟨st+j,by rw[Jc8],()⟩
   .unfold rngD at w;let⟨j,hj,rfl⟩:=Jh.mp w;let:=Bs.mp hj;exact⟨j,by rw[B9],()⟩
  exists ·,λi ρ M'=>∃v6:Option D,ρ=[some (.frz (ns.map .int)),some (.lst (bs.map .int)),some (.lst (ss.map .int)),some (.cell c),some (.cell f),some (.int st),v6]/\M3<+:M',λ_ _ _ _ _=>rfl,⟨_,rfl,Ji _⟩,?_,?_
  .rintro i x ρ M4 hi hx ⟨v6,rfl,p4⟩;let⟨j,rfl,hj⟩:=hin x (Gq hx);exists ·,·,·,·,·,ns,·,⟨hlen,(),()⟩,?_;let p5:M3<+:M4++[MO.hand]:=p4.trans ⟨_,rfl⟩;let hc5:=Ya p5 hc3;let F5:=F3.pre p5;let h5:(M4++[MO.hand])[M4.length]?=some .hand:=Yg;exists 1,f,j,M4.length,_,qs,zs,hj,rfl,Ya p5 h13,h5,F5,Xj hc5,⟨tz,l8,fq⟩,λM6 p6=>⟨_,rfl,iteF (.inl ⟨_,rfl,p5.trans p6⟩)⟩
  .rintro ρ M4 ⟨v6,rfl,p4⟩;exact .inl (k _)
end
def all_mk{l:Jhs}{fa:Addr}(X:K.In h)(G:h.Ns Ct mg)(hfa:mg "law"=some (.ref fa)){C:Addr}(aC:Jhu K Ct "Code"=some (some (.ref C)))(gx_NoSign:Jhu K Ct "NoSign"=some (some (.ref Xc)))(gx_NoName:Jhu K Ct "NoName"=some (some (.ref Zs)))(gx_Taken:Jhu K Ct "Taken"=some (some (.ref Yz)))(gx_SkewError:Jhu K Ct "SkewError"=some (some (.ref Zdd)))(gx_Family:Jhu K Ct "Family"=some (some (.ref Zd)))(h0:FnG K "_law_draw" Jbg f0 d0)(h1:FnG K "_law_open" Jbo f1 d1)(h2:FnG K "_law_bytes" Jad f2 d2)(h3:FnG K "_law_words" Jcy f3 d3)(h4:FnG K "_law_signs" Dz f4 d4)(h5:FnG K "_law_table" Jaf f5 d5)(h6:FnG K "_law_text" F9 f6 d6)(h7:FnG K "odds_between" W9 f7 d7)(h8:FnG K "fault" Zcc f8 d8)(h9:FnG K "refuse_fault" W8 f9 d9)(h10:FnG K "beginnings" V3 f10 d10)(a11:Ed K (.ref C) "__init__"=some (some (.ref f11)))(l11:K.lookup f11=some ⟨oc11,od11,.func (Lc "__init__" "Code.__init__" (Y4 Z3) (Yi Z3) (Zg Z3) .none kV11 dc11 pm11 an11 (.ref c) ct11),sl11⟩)(c11:Ln K (.ref c) "Code.__init__"=true)(k11:Mc K (.ref f11)=true)(n11:W.isFn K (.ref f11)=true)(h12:MtG K C "word" "Code.word" Tm f12 d12)(h13:MtG K C "sign" "Code.sign" To f13 d13)(h14:MtG K C "table" "Code.table" V5 f14 d14)(h15:FnG K "word_at" R9 f15 d15)(h16:MtG K Xc "__init__" "NoSign.__init__" X0 f16 d16)(h17:MtG K Zs "__init__" "NoName.__init__" X1 f17 d17)(h18:MtG K Yz "__init__" "Taken.__init__" Wg f18 d18)(h19:FnG K "write" Zcb f19 d19)(h20:FnG K "least_sign_over" Xz f20 d20)(h21:FnG K "least_text_over" Xy f21 d21)(h22:FnG K "begins_row" V2 f22 d22)(h23:MtG K Zd "__init__" "Family.__init__" X4 f23 d23)(h24:MtG K Zd "add" "Family.add" V4 f24 d24)(h25:MtG K Zd "names" "Family.names" Vb f25 d25)(h26:MtG K Zd "code" "Family.code" Vq f26 d26)(h27:MtG K Zd "mark" "Family.mark" Vp f27 d27)(h28:MtG K Zd "marked" "Family.marked" Wt f28 d28)(h29:MtG K Zd "by_mark" "Family.by_mark" Wh f29 d29)(h30:MtG K Zd "mistaken" "Family.mistaken" X2 f30 d30)(a31:Ed K (.ref Zd) "misled"=some (some (.ref f31)))(l31:K.lookup f31=some ⟨oc31,od31,.func (Lc "misled" "Family.misled" (Y4 Z1) (Yi Z1) (Zg Z1) .none kV31 dc31 pm31 an31 (.ref cL) ct31),sl31⟩)(c31:Ln K (.ref cL) "Family.misled"=true)(k31:Mc K (.ref f31)=true)(n31:W.isFn K (.ref f31)=true)(h32:FnG K "_law_names" Dj f32 d32)(h33:FnG K "_law_mark" Jal f33 d33)(h34:FnG K "_law_specs" Jax f34 d34)(h35:FnG K "_law_written" D9 f35 d35)(h36:FnG K "_law_by_mark" Jbb f36 d36)(h37:FnG K "_law_least" Du f37 d37)(h38:FnG K "_law_texts" Jct f38 d38)(h39:FnG K "_law_asked" Jam f39 d39)(h40:FnG K "_law_not_yet" Jcd f40 d40)(h41:FnG K "_law_refused_again" Jcj f41 d41)(h42:FnG K "_law_growing" Jcu f42 d42)(h43:FnG K "law" Zoi f43 d43)(xc_NoSign:XCl K Xc f16)(xin_NoSign:L2.Qq K Xc=some (some (.ref f16)))(xna_at_NoSign:Ed K (.ref Xc) "at"=some none)(xc_NoName:XCl K Zs f17)(xin_NoName:L2.Qq K Zs=some (some (.ref f17)))(xna_name_NoName:Ed K (.ref Zs) "name"=some none)(xc_Taken:XCl K Yz f18)(xin_Taken:L2.Qq K Yz=some (some (.ref f18)))(xna_name_Taken:Ed K (.ref Yz) "name"=some none)(xca_NoName:CaG K Zs)(xca_Taken:CaG K Yz)(mnn:L7 K Zs (.ref Zs)=some true)(mtt:L7 K Yz (.ref Yz)=some true)(cl_Family:Cls K Zd)(mk_Family:MkG K Zd)(na_codes_by_name_Family:Ed K (.ref Zd) "codes_by_name"=some none)(na_marks_by_name_Family:Ed K (.ref Zd) "marks_by_name"=some none)(hd:Jdh K c Pt=true)(hd2:Jdh K cL P2=true)(cl:Cls K C)(mk:MkG K C)(y_pairs:Ed K (.ref C) "pairs"=some none)(y_words_by_sign:Ed K (.ref C) "words_by_sign"=some none)(y_signs_by_word:Ed K (.ref C) "signs_by_word"=some none)(y_begun:Ed K (.ref C) "begun"=some none)(y_word_sizes:Ed K (.ref C) "word_sizes"=some none)(z:Zm5 K ["len","abs","max","min","isinstance","all","any","range","int","str","bool","tuple","list","dict","sorted","enumerate"]=true)
   :∃fd:Md,(∀P∈[Pt,P2],∃c,Jdh K c P=true)/\(∀(s:Cc)(v:Ca),Jem s fd ⟨[v],[]⟩ [("_law_script",v)])/\∀base:Heap,K.In base->base.Ns Ct mg->Bm mg base->FnOk l.prog w K mg base CX0 9 fa fd ["_law_script"] (spLaw K Pt P2):=by
  let e:=hfa.symm.trans (W.mg_of X G h43.g);cases e;let T:Txt mg:=⟨Wk X G z 0 rfl,Wk X G z 1 rfl,Wk X G z 2 rfl,Wk X G z 3 rfl,Wk X G z 4 rfl,Wk X G z 5 rfl,Wk X G z 6 rfl,Wk X G z 7 rfl,Wk X G z 8 rfl,Wk X G z 9 rfl,Wk X G z 10 rfl,Wk X G z 11 rfl,Wk X G z 12 rfl,Wk X G z 13 rfl,Wk X G z 14 rfl,Wk X G z 15 rfl⟩;let CT:CodeT K C:=⟨cl,y_pairs,y_words_by_sign,y_signs_by_word,y_begun,y_word_sizes⟩;let F11:=Zej (st:=Z3) l11 c11 k11;let b11:=F11.binds (ps:=["self","table"]) λ_ _ _ _ _ _=>us2 λ_ _=>rfl;let F31:=Zej (st:=Z1) l31 c31 k31;let b31:=F31.binds (ps:=["self","name"]) λ_ _ _ _ _ _=>us2 λ_ _=>rfl
  let bl:∀(s:Cc)(v:Ca),Jem s d43 ⟨[v],[]⟩ [("_law_script",v)]:=by
    let⟨_,_,_,_,_,_,_,_,_,rfl,_,_⟩:=h43.F.ex;exact λs v=>.of_eq rfl
  exists d43,(λP hp=>(Jt.mp hp).elim (λz=>⟨c,z ▸ hd⟩) λz=>⟨cL,(Jg.mp z) ▸ hd2⟩),bl,λbase kb _ hBm=>?_;let Y:Tk l.prog w K mg base:=⟨λe=>W.mg_of X G e⟩;let hCd:=Jef kb hd;let hCd2:=Jef kb hd2;let Zug:=Y.m gx_NoSign;let Zma:=Y.m gx_NoName;let Zqm:=Y.m gx_Taken;let Zqn:=Y.m gx_SkewError;let Zuh:=Y.m gx_Family;let Q7:Cau K mg "NoName" Zs:=⟨Zma,xca_NoName.t,xca_NoName.b⟩;let Zah:Cau K mg "Taken" Yz:=⟨Zqm,xca_Taken.t,xca_Taken.b⟩;let Zi:=Wf Y h0 (D7 T  h0.F);let X8:=L3.Cal.imp Zi λ_ _ _ _ h=>L3.Zue (C:=⟨C,K⟩) h;let Y2:=Wf Y h1 (Jas (C:=C) T  h1.F)
  let Uz:=Wf Y h2 (Db T Zi h2.F);let Zb7:=L3.Cal.imp Uz λ_ _ _ _ h=>L3.Zqk (C:=⟨C,K⟩) h;let Us:=Wf Y h3 (Da T Zi h3.F);let Zb5:=L3.Cal.imp Us λ_ _ _ _ h=>L3.Zl8 (C:=⟨C,K⟩) h;let Uw:=Wf Y h4 (Jaa T Zi h4.F);let Zb6:=L3.Cal.imp Uw λ_ _ _ _ h=>L3.Zqi (C:=⟨C,K⟩) h;let Uu:=Wf Y h5 (Dl (C:=C) T X8 h5.F);let Tw:=Wf Y h6 (Ds T Zi h6.F);let Zdh:=L3.Cal.imp Tw λ_ _ _ _ h=>L3.Zud (C:=⟨C,K⟩) h;let Vg:=Wf Y h7 (Df T  h7.F);let Zdj:=Wf Y h8 (Jan T Vg h8.F);let Vf:=Wf Y h9 (Jba T Zdj h9.F);let Ur:=Wf Y h10 (D4 T  h10.F);let P6:Mkr l.prog w K mg base "Code" C 4 _ _:=⟨f11,_,⟨mk.m,a11,n11,mk.k⟩,Jaz T CT hCd hBm Vf Ur l11 c11,Y.m aC,b11⟩
  let Zev:=Zic Y cl h12 (Jcl T CT  h12.F);let Zwb:=L3.Met.imp Zev λ_ _ _ _ h=>L3.Zuc (C:=⟨C,K⟩) h;let P4:=Zic Y cl h13 (Dq T CT  h13.F);let Zdg:=Zic Y cl h14 (Jcc T CT  h14.F);let Zqp:=L3.Met.imp Zdg λ_ _ _ _ h=>L3.Zl9 (C:=⟨C,K⟩) h;let Q6:=Wf Y h15 (Jay T CT P4 h15.F);let Zj2:=L3.Cal.imp Q6 λ_ _ _ _ h=>L3.Zjy (C:=⟨C,K⟩) h;let Q4:=rx_g Y xc_NoSign xin_NoSign h16 (Jab T xc_NoSign xna_at_NoSign h16.F) gx_NoSign;let Vn:=rx_g Y xc_NoName xin_NoName h17 (Dh T xc_NoName xna_name_NoName h17.F) gx_NoName;let Zac:=rx_g Y xc_Taken xin_Taken h18 (Jbf T xc_Taken xna_name_Taken h18.F) gx_Taken
  let Zdi:=Ztw Y h19 (Dn T Zev Q4 h19.F);let Zqo:=L3.CalE.imp Zdi λ_ _ _ _ h=>L3.Zl7 (Cn:=Xc) (C:=⟨C,K⟩) h;let Wa:=Wf Y h20 (Jck (C:=C) T Zqp h20.F);let X9:=Wf Y h21 (Jaq (C:=C) T Zj2 Wa (L3.Met.imp P4 λ_ _ _ _ h=>L3.Zqj (C:=⟨C,K⟩) h) h21.F);let Uq:=Wf Y h22 (Jcw (C:=C) T  h22.F);let Zaf:=Zv1 Y mk_Family h23 (Jbp T (C:=C) cl_Family na_codes_by_name_Family na_marks_by_name_Family  h23.F) gx_Family;let Zfx:=Po Y cl_Family h24 (Dy T (C:=C) cl_Family na_codes_by_name_Family na_marks_by_name_Family Zac h24.F);let Zv9:=Zic Y cl_Family h25 (Jbv T (C:=C) cl_Family na_codes_by_name_Family na_marks_by_name_Family  h25.F)
  let P5:=Po Y cl_Family h26 (Jav T (C:=C) cl_Family na_codes_by_name_Family na_marks_by_name_Family Vn h26.F);let Tj:=Po Y cl_Family h27 (Jcq T (C:=C) cl_Family na_codes_by_name_Family na_marks_by_name_Family Vn h27.F);let U8:=Po Y cl_Family h28 (Jcp T (C:=C) cl_Family na_codes_by_name_Family na_marks_by_name_Family P5 Tj Zqo h28.F);let Q5:=Zic Y cl_Family h29 (D8 T (C:=C) cl_Family na_codes_by_name_Family na_marks_by_name_Family (L3.MetE.calm3 Tj) Uq h29.F);let X7:=Po Y cl_Family h30 (Jbu T (C:=C) cl_Family na_codes_by_name_Family na_marks_by_name_Family Q5 U8 h30.F);let U7:=Po Y cl_Family (⟨a31,n31,F31⟩:MtG K Zd "misled" "Family.misled" Z1 f31 _) (Jbd T (C:=C) cl_Family na_codes_by_name_Family na_marks_by_name_Family hCd2 hBm Tj (L3.MetE.calm3 P5) X9 l31 c31)
  let Ux:=Wf Y h32 (Jcn (C:=C) T X8 h32.F);let Tx:=Wf Y h33 (De (C:=C) T X8 h33.F);let Uv:=Wf Y h34 (Jat (C:=C) T Y2 X8 Zb7 Zb5 Zb6 Uu Ux Tx h34.F);let Wc:=Wf Y h35 (Jbl (C:=C) T  h35.F);let Wd:=Wf Y h36 (Dg (C:=C) T  h36.F);let Uy:=Wf Y h37 (Jbw (C:=C) T  h37.F);let Ut:=Wf Y h38 (Dd (C:=C) T Zdh h38.F);let Xq:=Wf Y h39 (Jbt (C:=C) T Uy (L3.MetE.calm3 U7) Wc Wd (L3.MetE.calm3 X7) Ut h39.F);let Vh:=Wf Y h40 (Jbq (C:=C) T Q7 mnn U8 X7 U7 h40.F);let Xi:=Wf Y h41 (Jcx (C:=C) T P6 Zah mtt Zfx h41.F);let Vi:=Wf Y h42 (Jbe (C:=C) T P6 X8 Zaf (L3.MetE.calm3 Zfx) Vh Xi Xq h42.F);exact(Jau T Y2 X8 Uv Vi Xq h43.F).imp λ_ _ _ _ h=>L3.Zpi (C:=⟨C,K⟩) h
def walk{l:Jhs}{q:Ez}{loose:List Str}{XP:(Str->Option Ca)->Heap->Prop}{YP:Hm->Heap->Prop}{d:DefRec}{K:Params->Cr}(hn:l.most=some 63)(hdf:d.params.defaults=[])(hY:∀(w:Hm)(h:Heap),YP w h->(K w.params).In h)(hYt:∀(w:Hm)(h:Heap),YP w h->h.get? Pt=some (Jhe #[]))(hYt2:∀(w:Hm)(h:Heap),YP w h->h.get? P2=some (Jhe #[]))(hPK:∀w:Hm,(K w.params).lookup Pt=none)(hPK2:∀w:Hm,(K w.params).lookup P2=none)(hne:Pt≠P2)(F:∀(w:Hm)(mg:Str->Option Ca)(fa:Addr)(h:Heap),(K w.params).In h->h.Ns Ct mg->mg d.name=some (.ref fa) ->
   ∃fd:Md,(∀P∈[Pt,P2],∃c,Jdh (K w.params) c P=true)/\(∀(s:Cc)(u:Ca),Jem s fd ⟨[u],[]⟩ [("_law_script",u)])/\∀base:Heap,(K w.params).In base->base.Ns Ct mg->Bm mg base->FnOk l.prog w (K w.params) mg base CX0 9 fa fd ["_law_script"] (spLaw (K w.params) Pt P2)) :
  W.WalkO q loose XP YP l.row.toRowW d [] (λf vs=>Jgw f vs) :=
 L2.Zf3 (Ps:=[Pt,P2]) (n:=63) (k:=9) (x:="_law_script") (CX:=λ_=>CX0) (sp:=λw=>spLaw (K w.params) Pt P2) hn nofun hdf ⟨rfl,nofun,nofun⟩ hY (λw h Y P hp=>(Jt.mp hp).elim (λz=>by rw[z];exact hYt w h Y) λz=>by rw[Jg.mp z];exact hYt2 w h Y) (λw P hp=>(Jt.mp hp).elim (λz=>by rw[z];exact hPK w) λz=>by rw[Jg.mp z];exact hPK2 w) F (λ_ _ a ns hl hO hS=>⟨a,ns,rfl,hS,hl,hO.tab (by simp) _ _,hO.tab (by simp) _ _,hne,λ_=>rfl⟩) λ_ _ _ _ _ z=>z
end K46
namespace PySem.W.Fast
def tw1290529749748319761:=0
def tw7360829525490532568:=0
def tw4341253481915152085:=0
def tw6033973736758935183:=0
def tw9398964896411851637:=0
def tw15265211765245234445:=0
def tw13201971780104680804:=0
def tw9039290240233330162:=0
def tw12714603955994104394:=0
def tw5665362379693996385:=0
def tw2457238164102082680:=0
def tw2279991637351470723:=0
def tw14612065125883319896:=0
def tw4971830470876188520:=0
def tw6698180189206891071:=0
def tw16059494107650391370:=0
def tw14870453180726523224:=0
def tw14492624038007220235:=0
def tw12490576191052905357:=0
def tw10544227399598902118:=0
def tw11504906875662243394:=0
def tw9241203263432866910:=0
def tw8345001631557508106:=0
def tw13599715523629329822:=0
def tw851153631832899963:=0
def tw512440057877662723:=0
def tw6662419611324636197:=0
def tw2858660048226263231:=0
def tw11719912546344190972:=0
def tw3544415631286834495:=0
def tw9170321901613843757:=0
def tw1302568922842537751:=0
def tw6525167505916417683:=0
def tw1399666064763281003:=0
def tw11923176814792806820:=0
def tw8652901722790861488:=0
def tw583271020948488323:=0
def tw4667815577164594440:=0
def tw10296681688807384329:=0
def tw1883094048971405369:=0
def tw12364359915285913693:=0
def tw16008717825702706611:=0
def tw17783198866321507166:=0
def tw2064465401857811643:=0
def tw16597682283526988953:=0
def tw7737440069208781666:=0
def tw17348674685563033585:=0
def tw16042881819492213188:=0
def tw603893956392327174:=0
def tw9630788215514733011:=0
def tw9725531090651084740:=0
def tw4013631158974308603:=0
def tw16041541237149147060:=0
def tw104667662411682045:=0
def tw2391985008812140746:=0
def tw4838181100560810195:=0
def tw10926418692991817853:=0
def tw2369538609164118068:=0
def tw12019702256381278265:=0
def tw12404012485147796168:=0
def tw13052305570432283015:=0
def tw8999113718409267802:=0
def tw1625513593018352655:=0
def tw13159625717642272200:=0
def tw1208543998331739870:=0
def tw719819474029643049:=0
def tw11729799392321388286:=0
def tw6795133684540180452:=0
def tw8564433210807540170:=0
def tw9249339879619478938:=0
def tw1806753356026808159:=0
def tw7939815411165916017:=0
def tw17111860813077636984:=0
def tw5342216083544173038:=0
def tw1125119519964798576:=0
def tw4565144026326186161:=0
def tw13723893569478971136:=0
def tw17822186262514395387:=0
def tw1221618932196008331:=0
def tw14412066995171466274:=0
def tw17817827473104190512:=0
def tw383052758451410003:=0
def tw395317700571023510:=0
def tw15789471288819047722:=0
def tw1923648734407625964:=0
def tw4288891454235907884:=0
def tw15312129075636389962:=0
def tw12785080677521678505:=0
def tw7072663887012393417:=0
def tw10907213478312090136:=0
def tw8508274435396093386:=0
def tw16030806346625390258:=0
def tw4882893602968652065:=0
def tw17626980950880081257:=0
def tw2208576897207423045:=0
def tw6846451913474622973:=0
def tw6081743898291649872:=0
def tw1837001432001473758:=0
def tw11146742529935060675:=0
def tw13241215895740748026:=0
def tw13871657855786277641:=0
def tw9302755529290300843:=0
def tw5235571680535048803:=0
def tw4602676010700263069:=0
def tw17103833330171864010:=0
def tw9680207450104679913:=0
def tw15989515802468700768:=0
def tw12277936031745632194:=0
def tw2414452923615957184:=0
def tw3370978805149002633:=0
def tw13040058761754198030:=0
def tw10962574563249409807:=0
def tw10097570843837870817:=0
def tw6199458465824898322:=0
def tw12329364907677771291:=0
def tw10422392629013314462:=0
def tw1334060898467854062:=0
def tw331381598819909531:=0
def tw12149986885609757600:=0
def tw18064388414138153708:=0
def tw3990081739744862955:=0
def tw9018395297886028616:=0
def tw2662537862414301764:=0
def tw5114700271186887200:=0
def tw9527161995118434067:=0
def tw9448441602676266915:=0
def tw16486285598117294665:=0
def tw1948251742506504855:=0
def tw17617729906417775215:=0
def tw16170497497557616893:=0
def tw16821692116476799336:=0
def tw11212123894395801594:=0
def tw5442175823795448922:=0
def tw12841850013711880646:=0
def tw10272022544651645473:=0
def tw10961622783677422099:=0
def tw16465435468974777823:=0
def tw14674013552378361384:=0
def tw2847156120560052234:=0
def tw6848765185201067445:=0
def tw14497813399987647757:=0
def tw9880178147466268175:=0
def tw2302998942049748805:=0
def tw1202359070012595522:=0
def tw17693252805058342394:=0
def tw10273114897466840187:=0
def tw6159351854167366169:=0
def tw10657067190988303476:=0
def tw3633369027916498689:=0
def tw16708631545720916007:=0
def tw15867135372636457275:=0
def tw16951100356014776979:=0
def tw2855310385725831599:=0
def tw7435884446051931697:=0
def tw3481339580048183529:=0
def tw11374769815073103944:=0
def tw16525319542155195519:=0
def tw305491907745489595:=0
def tw619845195296686310:=0
def tw3193725085464855245:=0
def tw6043308036649192745:=0
def tw13623055320060628747:=0
end PySem.W.Fast
open PySem PySem.W PyProof.Rows
set_option maxRecDepth 100000 in
set_option maxHeartbeats 0 in
theorem PySem.Challenge.cw_skewread_k46_whole_misled_or_never_holds : PySem.Challenge.rw_skewread_k46_whole_misled_or_never.Holds := by
  w_on; o_law; k_head; (case hw=>w_witness2)
  k_fill
  refine K46.walk (l:=PySem.Challenge.rw_skewread_k46_whole_misled_or_never) rfl rfl (fun w h Y=>PySem.W.km_in_of Y) (fun w h Y=>PySem.W.km_tabs_of Y _ (List.Mem.head _)) (fun w h Y=>PySem.W.km_tabs_of Y _ (List.Mem.tail _ (List.Mem.head _))) ?hpk ?hpk2 ?hne ?F
  case hpk=>exact fun w=>by kernel_rfl
  case hpk2=>exact fun w=>by kernel_rfl
  case hne=>decide
  case F =>
    intro w mg fa h KX G hmg
    refine' K46.all_mk KX G hmg ?aC ?gx_NoSign ?gx_NoName ?gx_Taken ?gx_SkewError ?gx_Family ?h0 ?h1 ?h2 ?h3 ?h4 ?h5 ?h6 ?h7 ?h8 ?h9 ?h10 ?a11 ?l11 ?c11 ?k11 ?n11 ?h12 ?h13 ?h14 ?h15 ?h16 ?h17 ?h18 ?h19 ?h20 ?h21 ?h22 ?h23 ?h24 ?h25 ?h26 ?h27 ?h28 ?h29 ?h30 ?a31 ?l31 ?c31 ?k31 ?n31 ?h32 ?h33 ?h34 ?h35 ?h36 ?h37 ?h38 ?h39 ?h40 ?h41 ?h42 ?h43 ?xc_NoSign ?xin_NoSign ?xna_at_NoSign ?xc_NoName ?xin_NoName ?xna_name_NoName ?xc_Taken ?xin_Taken ?xna_name_Taken ?xca_NoName ?xca_Taken ?mnn ?mtt ?cl_Family ?mk_Family ?na_codes_by_name_Family ?na_marks_by_name_Family ?hd ?hd2 ?cl ?mk ?y_pairs ?y_words_by_sign ?y_signs_by_word ?y_begun ?y_word_sizes ?z
    any_goals first | (refine' ⟨?g,L2.Zej ?l ?c ?k⟩; (case g=>k_is); (case l=>k_is); (case c=>k_is); case k=>k_is) | (refine' ⟨?g,?n,L2.Zej ?l ?c ?k⟩; (case g=>k_is); (case n=>k_is); (case l=>k_is); (case c=>k_is); case k=>k_is) | k_is | kernel_rfl | (first | apply L2.Cls.mk | apply L2.MkG.mk | apply L2.XCl.mk | apply L2.CaG.mk) <;> first | k_is | kernel_rfl
#print axioms PySem.Challenge.cw_skewread_k46_whole_misled_or_never_holds