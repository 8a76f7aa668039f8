import PyProof.Rows.All
import Wide.All
import OpenK.AllK
import Wide.FinOn
import Lean
import PyProof.EqAt
import PyProof.EqKinds
import PyProof.TupleCall
import PyProof.DictItems
import KE.KPairComp
import KE.KDictList
import PyProof.ListRange
import KE.KUnpack
import KE.KEqDict
import PyProof.DictFindH
import KE.KDictSum
import PyProof.AutoListH
import PyProof.SumAny
import PyProof.Rows.Range3
import KE.KStateDown
import KE.KSortTup
import KE.KLam
import KE.KNestM
import KE.KDictOf
import PyProof.AttrMissHeap
import KE.KRevSl
import PyProof.RaisesMany
import PyProof.ExcInit
import PyProof.ExcClass2
import PyProof.RulesTry
import PyProof.PassesOwn
import OpenK.KOwn
import PyProof.RulesDel
import KE.KIsAll
import PyProof.EnumMake
import PyProof.LayNew
import PyProof.ZipIter
import PyProof.Rows.ZipGen
import KE.KIntText
import KE.KMinKey
import PyProof.SetKind
import PyProof.TupleKey
import PyProof.IsRules
import PyProof.Rows.SetFrom
import PyProof.SetRoads
import PyProof.FactsAll.set
import PySem.Challenge.RW_skewread_k43_opened
set_option Elab.async false
set_option linter.all false
set_option maxRecDepth 100000
def qp:Nat->Lean.TSyntax `term->Lean.MacroM (Lean.TSyntax `rcasesPat)
 |0,_=>Lean.Macro.throwUnsupported
 |n+1,t=>match t with
  |`(_)=>`(rcasesPat|_)
  |`(⟨$ts,*⟩)=>do
   let ps<-ts.getElems.mapM fun t=>do
    let p<-qp n t
    `(Lean.Parser.Tactic.rcasesPatLo|$p:rcasesPat)
   `(rcasesPat|⟨$ps,*⟩)
  |`($i:ident)=>`(rcasesPat|$i:ident)
  |_=>Lean.Macro.throwUnsupported
theorem rd{α:Sort u}{a p:α->Prop}{w:α}(h:a w)(k:p w):∃x,a x/\p x:=⟨w,h,k⟩
theorem rd2{α:Sort u}{β:Sort v}{a:α->Prop}{b p:α->β->Prop}{w:α}{y:β}(h:a w)(i:b w y)(k:p w y):∃x,a x/\∃z,b x z/\p x z:=⟨w,h,y,i,k⟩
theorem rd3{α:Sort u}{β:Sort v}{γ:Sort t}{a:α->Prop}{b:α->β->Prop}{c p:α->β->γ->Prop}{w:α}{y:β}{v:γ}(h:a w)(i:b w y)(j:c w y v)(k:p w y v):∃x,a x/\∃z,b x z/\∃q,c x z q/\p x z q:=⟨w,h,y,i,v,j,k⟩
def rdw(t:Lean.TSyntax `term):Nat->Lean.MacroM (Lean.TSyntax `term)
 |0=>pure t
 |1=>`(rd rfl $t)
 |2=>`(rd2 rfl rfl $t)
 |n+3=>do
  let r<-rdw t n
  `(rd3 rfl rfl rfl $r)
def rdb(r:Array (Lean.TSyntax `term)):Lean.MacroM (Lean.TSyntax `term):=if h:r.size=1 then pure r[0] else `(⟨$r,*⟩)
local macro_rules|`(def $n $s:optDeclSig $v)=>Lean.MonadRef.withRef .missing (match n.raw.getHeadInfo with|.original ..=>`(theorem $n $(⟨.node .none `Lean.Parser.Command.declSig #[s.raw[0],s.raw[1][0]]⟩):declSig $v)|_=>`(noncomputable def $n $s:optDeclSig $v))
local macro_rules|`(instance $n:declId $s:declSig $v)=>match n.raw.getHeadInfo with|.original ..=>Lean.MonadRef.withRef .missing `(noncomputable def $n $(⟨.node .none `Lean.Parser.Command.optDeclSig #[s.raw[0],Lean.mkNullNode #[s.raw[1]]]⟩):optDeclSig $v)|_=>Lean.Macro.throwUnsupported
local macro_rules | `(abbrev $n:declId $s:optDeclSig $v:declVal)=>`(noncomputable abbrev $n:declId $s:optDeclSig $v:declVal)
open List renaming length_map->Ja,getElem?_eq_getElem->Jb,length_append->Jc,take_succ_eq_append_getElem->Je,getElem?_eq_some_iff->Jf,map_append->Jg,prefix_refl->Ji,mem_singleton->Jj,map_cons->Jk,mem_append_right->Jl,mem_cons_of_mem->Jm,mem_map->Jn,mem_cons_self->Jo,mem_cons->Jp,size_toArray->Jq,getElem?_map->Jr,getElem?_append_left->Js,mem_append->Jt,length_cons->Ju,getElem?_set_self->Jx,getElem_mem->Jy,append_nil->Jz,length_take->J0,length_pos_iff->J9,length_drop->Gb,append_assoc->Gc,filter_cons->Gd,take_length->Ge,getElem_of_mem->Gf,map_map->Gh,length_set->Gi,length_singleton->Gj,getElem?_append_right->Gk,getD_eq_getElem?_getD->Go,getElem?_set_ne->Gp,mem_of_getElem?->Gq,filter_append->Gr,mem_append_left->Gs,lookup_cons->Gu,pairwise_map->Gv,prefix_append->Gx,mem_filter->Gz,replicate_succ->G2,getElem_map->G3,find?_cons->G7,take_of_length_le->G8,length_range->G9,take_append_of_le_length->Ba,nodup_cons->Bf,pairwise_iff_getElem->Bg,getElem?_eq_none->Bh,getElem_inj->Bi,map_take->Bj,mem_of_mem_take->Bk,flatten_cons->Bl,filter_nil->Bo,any_cons->Br,length_nil->Bt,nil_append->Bw,nodup_append->By,take_left->B0,any_eq_true->B3,take_prefix->B4,length_reverse->B6,map_congr_left->B7,drop_zero->Fb,take_zero->Fc,set_set->Fd,map_drop->Fe,replicate->Cm,range->Ec,length->Ho,take->Kl,mem_or_eq_of_mem_set->Km,filterMap_cons->Ko,lookup->K5,mem_of_mem_drop->Li,of_mem_zip->Lr,getElem?_take->Mb,getElem?_take_of_lt->Mo,getElem_append_left->Mx,getElem?_replicate->Ja3,pairwise_singleton->Jb1,map_reverse->Jcp,set_append_right->Jc8,range_succ->Jc9,getElem_range->Jd3,push_toArray->Jef,ext_getElem?->Jek,reverse_perm->Jel,map_nil->Jeu,cons_append->Je0,countP_cons->Je4,map_snd_zip->Je5,mem_nil_iff->Je7,forIn_cons->Jfj,foldl->Jgj
open Nat renaming le_refl->Jd,lt_of_lt_of_le->Jw,zero_le->J8,le_trans->Ga,ne_of_lt->Gg,lt_of_le_of_lt->Gw,le_succ->G1,lt_irrefl->G6,not_lt_zero->Bb,lt_succ_self->Bc,min_eq_left->Bn,le_of_lt->Bp,le_of_eq->Bq,ne_of_gt->B1,not_lt->Ff,lt_succ_of_lt->Jeh,sub_zero->Jev,zero_add->Jew,le_of_not_lt->Je2,min_eq_right->Je6,add_mul->Jhw
open Bool renaming false_ne_true->Jv,false_eq_true->G4,eq_iff_iff->Bv,false_and->Bz,and_eq_true->B2,true_and->B8,not_eq_true->Jcq,beq_eq_decide_eq->Jc7,not_eq_true'->Jee,false_or->Jgy
open Array renaming getElem?_eq_some_iff->Gm,getElem?_setIfInBounds_self->Gn,length_toList->Be,perm_iff_toList_perm->Bs,getD_eq_getD_getElem?->Lu,find?_toList->L7,getElem?_toList->Jc6,getD->Jdc,toList_append->Jdm,forIn_toList->Jdy,toList->Jem
open Int renaming eq_ofNat_of_zero_le->Gy,emod_lt_of_pos->G0,emod_nonneg->G5,toNat_natCast->Bd,zero_add->B5,natCast_add->B9,mul_le_mul_of_nonneg_left->Lf,le_refl->Jdl,mul_sub->Jfp,le_trans->Jg7,le_of_lt->Jg8,mul_one->Jhk,mul_pos->Jhu
open Option renaming map_eq_some_iff->Bu,map_some->Bx,isSome_map->Mr,isNone_none->Jd1,getD_none->Jez,getD_some->Je3,map->Jgq
open PySem renaming wpAny_bind->Fj,wpAny_pure->Fk,boot_len->Fv,wpAny_mono->Fw,Value->Ca,sizeLine->Cb,Shared->Cc,wpAny->Cg,model->Cj,starEach->Cp,mainGlobals->Ct,wpAny_holding->Cw,wpAny_loadPart_at->C3,wpAny_Call_Name_kw->Eb,wpAny_field->Ee,wpAny_standAt->Ej,sizeLine_eq->Em,NameKind->Es,Program->Eu,rawInt->Ew,noteFrame->Ey,unbindBehindTheSuite->E1,sysModules->E6,wpAny_call->E7,compareOp->E8,attributeBase->E9,cellsFrom->Ha,binaryOp->Hd,codeAny_call_builtin->He,wpAny_truthy_bool->Hf,wpAny_passesOwn->Hg,wpAny_newObj_type->Hi,codeAny_mono->Hk,World->Hm,codeAny->Hn,mem_of_lookup->Hq,wpAny_getItem_str_slice->Hr,wpAny_isSubtype_exc->Hs,Around->Ht,tupleKind_room_in1->Hu,Within->Hv,wpAny_execs_nil->Hy,setFlight->Kb,behindInMarks->Kd,wpAny_newFunctionEnv_cells->Ke,backTo->Kg,bootBuiltins->Kq,wpAny_typeOf->Kt,wpAny_attempt->Kx,getattributeRaised->Ky,codeAny_builtin->Kz,wpAny_pyIter_list->K4,plainObj_wpAny_Assign_Attribute->K6,keywordEach->K7,sliceBounds->K8,codeAny_handlers_test->Lb,wpAny_execs_cons->Ld,wpAny_setFlight_none->Lh,FuncData->Lj,ExceptHandler->Ll,swapsWith->Ln,getItem->Lo,letOwnedTupleGo->Lp,post_val_or_str->Ls,codeAny_of_tree->Lw,getAttrByItsOwn->Lx,wpAny_handleBy_cons->Ly,holding->Mc,cLine->Md,wpAny_tryCatch->Me,tupleKind->Mg,builtinsNs->Mh,assignEach->Mi,foldedSetIterable->Mj,typeLookup->Mp,wpAny_getItem_list_slice->Mq,wpAny_comprehension_free->Mt,wpAny_rule->Mv,wpAny_pyNext_tuple_item->Ja1,wpAny_callSpecial?_slot->Ja5,subscripted->Ja7,wpAny_letGo->Jb0,wpAny_newList->Jb2,plainId_quiet->Jb4,wpAny_lookBehind->Jb6,pastItsLine_dict->Jb7,noFill_tuple_add->Jb9,wpAny_call_entry->Jco,wpAny_pyNext_list_item->Jcr,wpAny_pyNext_tuple_end->Jcs,wpAny_isTrue_Compare1->Jcz,wpAny_pyNext_list_end->Jc0,theTreesLotGoes->Jc1,builtinLookup_eq_fast->Jc4,wpAny_updateSeq->Jc5,backToKw->Jda,call_meets->Jdb,isInstance->Jdd,wpAny_loadName_local->Jde,wpAny_loadName_cell->Jdi,BindsTo->Jdj,wpAny_pyIter_tuple->Jdo,getMethod->Jdq,Result->Jdr,bindArgs->Jds,IsPart->Jdt,evalPart_none->Jdv,Fin->Jdx,getAttr?->Jdz,sub_AttributeError->Jd0,Addr->Jd4,standAt->Jd5,wpAny_assign_Name->Jd6,wpAny_Assign_Name->Jd7,wpAny_load->Jd8,wpAny_sequenceKey->Jea,valueAt->Jec,callerA->Jed,assign->Jen,pyNext->Jeo,wpAny_nsSet1->Jep,seqIndex_neg->Jet,wpAny_eqBool_int->Jey,wpAny_Dict_empty->Je1,Str->Je9,Model->Jfc,Keyword->Jfg,seqIndex_of->Jfh,codeAmong->Jfm,typeLookup_type->Jfn,getAttrBy->Jfo,wpAny_Name->Jf4,typeIs_str->Jgh,typeIs_int->Jgi,call->Jgk,closureFor->Jgl,Operator->Jgs,getAttr->Jgv,leaving->Jgx,storeName->Jg4,atKey->Jg6,seqItems?->Jha,CmpOp->Jhg,setItem->Jhi,setAttr->Jhl,bindL->Jhn,bindC->Jho,operate->Jhp,relabel->Jhq,Stmt->Jhz,Expr->Jh0,Obj->Jh5
open PySem.Heap renaming get?_push_of_some->Fl,get?_push_size->Fm,lt_size->Fn,get?_update_other->Ch,get?_update_self->Cy,size_push->Ep,SameBut->Hw,get?_none_of_le->Lg,MadeExcOf->Jdg,get?_push_ne->Jeg,NewExcOf->Jg0
open Option.some renaming inj->Fu,injEq->Jej
open PySem.Value renaming ref->Cd,int->Er,bool->Kp,builtin->Lk,str->Jcy,float->Jfa,isStrOf->Jgr,isInt->Jhe,bytes->Jhf,type->Jh1
open PySem.NameKind renaming cell->Ci,free->Eh
open Or renaming inl->Ck,inr->Ef
open PySem.Str renaming ofString->Co,empty->Mm
open False renaming elim->Cq
open PySem.W renaming Frag->Cs,findIn->Cu,kitOne->Eg,mroIn->Eo,kia_one->Kh,callWith_K->Kr,instObj->Lm,fnOf->L9,looks_findIn->Ma,keepIn->Ja2,codeIn->Ja4,looks_mroIn->Jb5,cellsFrom_some->Jb8,plainGet_of->Jdp,plainGet->Jd9,codeHdIn->Jei,nsIn->Jex,methodObj->Jfb,hasDictIn->Jfd,set_plain->Jfe,methodCall_KW->Jff,isNs_of_in->Jgp,lookIn->Jgu,callWith_K0->Jgw,codeHd_of_K->Jgz,takerIn->Jg5,OpenLaw->Jg9,kas_rev->Jhr,tabObj->Jhx,typeIn->Jhy
open Ne renaming symm->Cv
open PyProof.Rows renaming boot_list->Cz,boot_isinstance->C2,boot_tuple->C8,slot_tuple_getitem->El,envOfC->E4,seqObj->Hz,boot_max->Ka,boot_dict->K2,boot_int->Lc,IntsAre->Le,callWith_type1->Lq,boot_sorted->Mw,AllBare->Mz,Constant_none->Ja0,subscriptTail->Ja6,listUpdate_at->Ja9,subscriptTail_builtinR->Jct,boot_bool->Jcw,get?_update_seq->Jc3,entry_tuple_getitem->Jdk,args_tuple_getitem->Jdu,Subscript_->Jeb,callWith_builtin1->Jes,entry_list_sort->Jfl,size_push'->Jgm,join_ones->Jg3,boot_abs->Jhc,boot_min->Jhd,lt_int->Jhs,gt_int->Jht
open PySem.PyData renaming strOk->C0,eqvAll->C4,eqv->Ed,int->Hj,canLay0->Kj,depth->La,canLayAll0->Mu,depthAll->Jc2,list->Jhv
open PySem.PassesOwn renaming never->C1
open PySem.F renaming slot_list_append->C5,type_list_append->C6,plainAttrs_list->C7,plain_max_loop->Et,args_tuple_add_2->Ks,entry_tuple_add->Kv,slot_tuple_add->K0,slot_dict_get->K9,args_dict_get_2->Ja8,entry_dict_get->Jcu,entry_max_loop->Jcv,slot_int_rmul->Jfi
open PySem.Obj renaming mapFields->C9,mapSeq->Ea,isFreed_of_fields->Ei,data_mapFields->Ez
open True renaming intro->Ek
open Sum renaming inl->E2,inr->Jcx
open PySem.Heap.SameBut renaming update->E5
open PySem.Code renaming quiet_builtin->Hb,isFrame->Jer,frames->Jhm
open PySem.Builtin.Slice renaming slicePlaces->Hc,sliceAdjust->Ki,sliceApplied->L5,slicePartIndex->Je8,sliceFields->Jf3
open PySem.Builtin.Tuple renaming tupleExact->Hh,tupleItemsOf->L6,tupleHashOf->Mf,tupleIsExact->Jfr
open PySem.SeqAt renaming shaped->Hl
open PySem.Builtin.Str renaming strSliceIndices->Kc,glued->Jh3
open PySem.Around renaming under_plainId->Kf,under->Jeq
open PySem.Builtin.List renaming listTooLong->Ku
open PySem.W.KasT renaming kasWp_bind->Kw
open PySem.Calls renaming callWith_builtin->K1,Name_function_global->Lz,spliced_cons->L8,spliced_nil->Mn,evalArgs_plain->Jdf
open PySem.Builtin.Builtins renaming bindParams->Lv
open PySem.Within renaming cons->Ml
open List.Pairwise renaming nil->Ms,sublist->Jhb
open Sum.inl renaming inj->My
open PySem.Builtin.Dict renaming updateFrom->Jb3,addKeywords->Jgn,selfAndRest->Jgo,pairItems->Jg2
open Sum.inr renaming inj->Jdh
open PySem.EntryCells renaming newEntry->Jdn
open PySem.Heap.IsSliceOf renaming new->Jdw
open ToString renaming toString->Jd2
open ForInStep renaming yield->Jfk
open PyProof.Rows.LSm renaming kept_iter->Jfq
open List.IsPrefix renaming eq_of_length->Jfs
open PySem.EqNone renaming eq_none_none->Jft,eq_none_bool->Jfu,eq_bool_none->Jfv,ne_none_none->Jfy,ne_none_bool->Jfz,ne_bool_none->Jf0,eq_none_int->Jf5,eq_none_str->Jf6,eq_int_none->Jf7,eq_str_none->Jf9,ne_none_int->Jgb,ne_none_str->Jgc,ne_int_none->Jgd,ne_str_none->Jgf
open PySem.EqMixed renaming eq_bool_str->Jfw,eq_str_bool->Jfx,ne_bool_str->Jf1,ne_str_bool->Jf2,eq_int_str->Jf8,eq_str_int->Jga,ne_int_str->Jge,ne_str_int->Jgg
open PySem.Builtin.Range renaming rangeSize->Jgt
open PySem.Shared renaming TypeIs->Jg1
open PySem.CmpOp renaming NotIn->Jhh
open PySem.Data renaming fields->Jhj
open PySem.W.WShape renaming has->Jh2
open List.Sublist renaming refl->Jh4
open PySem.Heap.DictOf renaming new->Jh6
open PySem.W.WData renaming int->Jh7
theorem Fg:type_of% @of_decide_eq_true:=@of_decide_eq_true
instance Fh:type_of% @absurd:=@absurd
theorem Fi:type_of% @of_decide_eq_false:=@of_decide_eq_false
theorem Fo:type_of% @if_neg:=@if_neg
theorem Fp:type_of% @if_pos:=@if_pos
theorem Fs:type_of% @decide_eq_true:=@decide_eq_true
theorem Ft:type_of% @decide_eq_false:=@decide_eq_false
local macro_rules | `(tactic| rfl')=>`(tactic| refine ⟨rfl,rfl,rfl,?_,rfl,?_,?_⟩<;>decide +kernel)
local macro_rules | `(nofun)=>`(term| by decide)
local macro_rules | `(tactic| exists $es,*)=>do
 let mut a:Array (Lean.TSyntax `term):=#[]
 for e in es.getElems do
  if e.raw.isOfKind ``Lean.Parser.Term.cdot then a:=a++#[<-`(_),<-`(rfl)] else a:=a.push e
 let mut r:Array (Lean.TSyntax `term):=#[]
 let mut c:=0
 for e in es.getElems.reverse do
  if e.raw.isOfKind ``Lean.Parser.Term.cdot then
   if r.isEmpty then r:=#[<-`(_),<-`(rfl)] else c:=c+1
  else if c=0 then r:=#[e]++r
  else
   r:=#[e,<-rdw (<-rdb r) c]
   c:=0
 let t<-rdw (<-rdb r) c
 `(tactic| first | refine $t | refine ⟨$a,*⟩)
local macro_rules |`(tactic|let $d:letDecl)=>match d with
 |`(Lean.Parser.Term.letDecl|$p:term:=$e:term)=>do
  let q<-qp 9 p
  `(tactic|obtain $q:rcasesPat:=$e:term)
 |_=>`(tactic|have $d:letDecl)
local macro_rules |`(())=>`(by lia)
variable{C ea l Ze Pt fI L T it dx Dc Cl Yj:Jd4}{s:Cc}{α α' fp:List Jd4}{w:PySem.World}{K K':PySem.W.Frag}{fd:PySem.FuncData}{A:PySem.Around}{pq:List (Jd4×Jh5)}{pos pos' apos cpos kpos np:PySem.Pos}{P prog:PySem.Program}{i j t' pl lg:Nat}{h h':PySem.Heap}{E Ex:Ca->Cc->Prop}{mg mA:Je9->Option Ca}{ps N:List Je9}{τ κ β:Type}{ns:List Int}{qual q name:Je9}{oe ox:Jh5}{st:Jhz}{us its rest:List Ca}{es:List Jh0}{cs:List Nat}{ws:List (List Int)}{body:List Jhz}{tg value:Jh0}{B:Prop}{cd pm doc cdv ct oc:Ca}{an od T0:Option Jd4}{lo hi:Option Int}{kw:List (Je9×Ca)}
namespace L2
open PySem PySem.Spec PyProof.Rows
abbrev Key:=Sum Int Str
instance Pz:Key->Ca->Bool
 |.inl k,v=>Jhe k v
 |.inr x,v=>Jgr x v
instance keyH(w:Hm):Key->Int
 |.inl k=>hashInt k
 |.inr x=>hashStr w x
def Ye:∀{k:Key}{v:Ca},Pz k v=true->(∃i t,k=E2 i/\v=Er i t)\/(∃x t,k=Jcx x/\v=Jcy x t)
 |.inl i,v,h=>by
  let⟨t,e⟩:=Ca.isInt_shape (k:=i) (v:=v) h;exact .inl ⟨i,t,rfl,e⟩
 |.inr x,v,h=>by
  let⟨t,e⟩:=Ca.isStrOf_shape (x:=x) (v:=v) h;exact .inr ⟨x,t,rfl,e⟩
def Zg4(i:Int)(t:Tok):Pz (.inl i) (.int i t)=true:=by simp[Pz,Jhe]
def Zg3(x:Str)(t:Tok):Pz (.inr x) (.str x t)=true:=by simp[Pz,Jgr]
def Zry(a b:Int):decide ((E2 a:Key)=E2 b)=(a==b):=by
 by_cases e:a=b
 .subst e;simp
 .let h:¬ (E2 a:Key)=E2 b:=λq=>e (My q);rw[Ft h];exact(beq_eq_false_iff_ne.mpr e).symm
def Zrv(a b:Str):decide ((Jcx a:Key)=Jcx b)=decide (a=b):=by
 by_cases e:a=b
 .subst e;simp
 .let h:¬ (Jcx a:Key)=Jcx b:=λq=>e (Jdh q);rw[Ft h,Ft e]
def Zrx(a:Int)(b:Str):decide ((E2 a:Key)=Jcx b)=false:=Ft (λq=>nomatch q)
def Zrw(a:Str)(b:Int):decide ((Jcx a:Key)=E2 b)=false:=Ft (λq=>nomatch q)
instance Yl(prog:Eu)(w:Hm):PySem.KeyKind prog w Key where
 is:=Pz
 hash:=keyH w
 inj:=λv a b ha hb=>by
  rcases Ye ha with⟨i,t,rfl,rfl⟩|⟨x,t,rfl,rfl⟩
  .rcases Ye hb with⟨j,u,rfl,e⟩|⟨y,u,rfl,e⟩
   .injection e with e1 _;rw[e1]
   .exact nomatch e
  .rcases Ye hb with⟨j,u,rfl,e⟩|⟨y,u,rfl,e⟩
   .exact nomatch e
   .injection e with e1 _;rw[e1]
 byValue:=λk v h=>by
  rcases Ye h with⟨i,t,rfl,rfl⟩|⟨x,t,rfl,rfl⟩<;>rfl
 pyHash:=λhv h=>by
  rcases Ye hv with⟨i,t,rfl,rfl⟩|⟨x,t,rfl,rfl⟩
  .exact wpAny_pyHash_int h
  .exact wpAny_pyHash_str h
 eqBool:=λhu hv h=>by
  rcases Ye hu with⟨i,t,rfl,rfl⟩|⟨x,t,rfl,rfl⟩
  .rcases Ye hv with⟨j,u,rfl,rfl⟩|⟨y,u,rfl,rfl⟩
   .rw[Zry]at h;exact Jey h
   .rw[Zrx]at h;exact SeqAt.EqAt.int_str i t y u _ _ _ _ h
  .rcases Ye hv with⟨j,u,rfl,rfl⟩|⟨y,u,rfl,rfl⟩
   .rw[Zrw]at h;exact SeqAt.EqAt.str_int x t j u _ _ _ _ h
   .rw[Zrv]at h;exact wpAny_eqBool_str h
 «strs»:=λk x t v h=>by
  rcases Ye h with⟨i,u,rfl,e⟩|⟨y,u,rfl,e⟩
  .exact nomatch e
  .injection e with e1 _
   subst e1;cases v<;>rfl
def Zbw(prog:Eu)(w:Hm)(i:Int)(t:Tok):(Yl prog w).is (.inl i) (.int i t)=true:=Zg4 i t
def Zbv(prog:Eu)(w:Hm)(x:Str)(t:Tok):(Yl prog w).is (.inr x) (.str x t)=true:=Zg3 x t
inductive V where
 |non|bl (b:Bool)|int (i:Int)|str (x:Str)|byt (b:Array UInt8)|flt (b:UInt64)|ref (a:Addr)|ty (n:String)
 deriving DecidableEq
variable{v:L2.V}{vs xs ys:List L2.V}{kvs:List (List L2.Key×L2.V)}
instance RelV:V->Ca->Prop
 |.non,u=>u=Ca.none
 |.bl b,u=>u=Kp b
 |.int i,u=>∃t,u=Er i t
 |.str x,u=>∃t,u=Jcy x t
 |.byt b,u=>∃t,u=Jhf b t
 |.flt b,u=>∃t,u=Jfa b t
 |.ref a,u=>u=Cd a
 |.ty n,u=>u=Jh1 n
abbrev Vals:List V->List Ca->Prop:=Paired RelV
def Vals.length(r:Vals xs us):xs.length=us.length:=Paired.length r
def Vals.get:∀{xs:List V}{us:List Ca}{i:Nat}{x:V},Vals xs us->xs[i]?=some x->∃u,us[i]?=some u/\RelV x u
 |_,_,_,_,.nil,e=>by simp at e
 |_,_,0,_,.cons r _,e=>by simp at e;subst e;exists ·,r
 |_,_,i+1,x,.cons _ t,e=>by
  let⟨u,h1,h2⟩:=Vals.get (i:=i) (x:=x) t (by simpa using e);exists u,by simpa using h1,h2
def Vals.set{x:V}{u:Ca}(r:RelV x u):∀{xs:List V}{us:List Ca}(i:Nat),Vals xs us->Vals (xs.set i x) (us.set i u)
 |_,_,_,.nil=>.nil
 |_,_,0,.cons _ t=>.cons r t
 |_,_,i+1,.cons q t=>.cons q (Vals.set r i t)
def Vals.append:∀{xs ys:List V}{us ws:List Ca},Vals xs us->Vals ys ws->Vals (xs++ys) (us++ws):=by
 intro _ _ _ _ hz9 s;cases hz9 with
 |nil=>
  exact s
 |cons r t=>
  exact .cons r (Vals.append t s)
def Vals.take:∀{xs:List V}{us:List Ca}(n:Nat),Vals xs us->Vals (xs.take n) (us.take n)
 |_,_,0,_=>.nil
 |_,_,_+1,.nil=>.nil
 |_,_,n+1,.cons r t=>.cons r (Vals.take n t)
def Vals.drop:∀{xs:List V}{us:List Ca}(n:Nat),Vals xs us->Vals (xs.drop n) (us.drop n)
 |_,_,0,r=>r
 |_,_,_+1,.nil=>.nil
 |_,_,n+1,.cons _ t=>Vals.drop n t
instance RelO:Option V->Option Ca->Prop
 |some v,some u=>RelV v u
 |none,none=>True
 |_,_=>False
instance KV :List (κ×V)->List (κ×Ca)->Prop:=Paired λ(p:κ×V)(q:κ×Ca)=>p.1=q.1/\RelV p.2 q.2
instance kV:Key->V
 |.inl i=>.int i
 |.inr x=>.str x
instance Up(h:Heap)(a:Addr)(items:Array Ca):Prop:=∃o,h.get? a=some o/\o.cls=.type "tuple"/\∃n,o.data=.seq items n/\o.dict=none
def Up.tup{h:Heap}{a:Addr}{items:Array Ca}(x:Up h a items):IsTup h a items:=let⟨o,e,c,n,d,_⟩:=x;⟨o,e,c,n,d⟩
def Up.new(h:Heap)(items:Array Ca):Up (h.push {cls:=.type "tuple",data:=.seq items}) h.objs.size items:=⟨_,Fm _ rfl,rfl,_,rfl,rfl⟩
def Up.lt{a:Addr}{items:Array Ca}(x:Up h a items):a<h.objs.size:=let⟨_,e,_⟩:=x;Fn e
inductive HO where
 |lst (xs:List V)
 |tup (xs:List V)
 |dK (kvs:List (Key×V))|dT (kvs:List (List Key×V))
 |set (S:Int->Bool) (n:Nat)
 |ins (C dx:Addr) (fs:List (Str×V))
 |own (x:Addr)
 |xd (fs:List (Str×V))
 |met (f x:Addr)
 |rng (lo hi:Int)
 |frz (o:Obj) (u:HO)
 |tbl (ps:Array Ca)
 |ext (φ:Heap->Prop)
variable{o:L2.HO}
abbrev Hp:=Addr->Option HO
variable{H I H' I' H1 H2:L2.Hp}
instance upd(H:Hp)(a:Addr)(o:HO):Hp:=λb=>if b=a then some o else H b
def Zi{a:Addr} :upd H a o a=some o:=by unfold upd;rw[if_pos rfl]
def Zk{a b:Addr}(h:b≠a):upd H a o b=H b:=by unfold upd;rw[if_neg h]
def Pi{a:Addr}{u:HO}:upd (upd H a o) a u=upd H a u:=by
 funext b;unfold upd;split<;>rfl
def Pq{a b:Addr}{u:HO}(h:H a=some o)(h':H b=some u)(d:o≠u):a≠b:=by
 intro e;subst e;rw[h]at h';exact d (Fu h')
def Zp{a b:Addr}(h:H a=some o)(h':H b=none):a≠b:=by
 intro e;subst e;rw[h]at h';cases h'
section
variable(P:Eu)(w:Hm)
instance Yv(H:Hp)(h:Heap)(a:Addr):HO->Prop
 |.lst xs=>xs.length<=Cb/\∃(its:List Ca)(n:Nat),Vals xs its/\h.get? a=some {cls:=.type "list",data:=.seq its.toArray n}
 |.tup xs=>xs.length<=Cb/\∃its:List Ca,Vals xs its/\Up h a its.toArray
 |.dK kvs=>kvs.length<=Cb/\(a==E6)=false/\∃vs,KV kvs vs/\h.DictOf (Yl P w) a vs
 |.dT kvs=>kvs.length<=Cb/\(a==E6)=false/\∃xs:List (List Key×Addr×Ca),
   Paired (λ(p:List Key×V)(q:List Key×Addr×Ca)=>p.1=q.1/\H q.2.1=some (.tup (p.1.map kV))/\RelV p.2 q.2.2) kvs xs /\
   ∃o es ep,h.get? a=some o/\o.ExactDict/\o.data=.dict es ep/\es.toList=xs.map (entryOfKey (Mg (Yl P w)))/\(xs.map (·.1)).Nodup
 |.set S n=>h.SetOf (intKind P w) a S n
 |.ins C dx fs=>H dx=some (.own a)/\fs.length<=1000/\dx≠a/\h.get? a=some (Lm C dx) /\
   ∃mA,h.Ns1 dx mA/\(∀f,RelO (fs.lookup f) (mA f))/\Hv mA (fs.map (·.1))
 |.own _=>∃o,h.get? a=some o
 |.xd fs=>∃mA,h.Ns1 a mA/\∀f,RelO (fs.lookup f) (mA f)
 |.rng lo hi=>∃t u v,h.get? a=some {cls:=.type "range",data:=.fields #[.int lo t,.int hi u,.int 1 v]}
 |.frz o u=>h.get? a=some o/\Yv H h a u
 |.tbl ps=>h.get? a=some {cls:=.none,data:=.fields ps}
 |.met f x=>h.get? a=some (Jfb (.ref f) (.ref x))
 |.ext φ=>φ h/\(∃o,h.get? a=some o)/\∀h1 h2:Heap,φ h1->(∀o,h1.get? a=some o->h2.get? a=some o)->φ h2
instance HOk(H:Hp)(h:Heap):Prop:=∀a o,H a=some o->Yv P w H h a o
end
section
variable{a:Addr} 
def Yv.lt(x:Yv P w H h a o):a<h.objs.size:=by
 cases o with
 |lst xs=>obtain⟨_,_,_,_,e⟩:=x;exact Fn e
 |tup xs=>obtain⟨_,_,_,p⟩:=x;exact p.lt
 |dK kvs=>obtain⟨_,_,_,_,o,_,_,e,_⟩:=x;exact Fn e
 |dT kvs=>obtain⟨_,_,_,_,o,_,_,e,_⟩:=x;exact Fn e
 |set S n=>obtain⟨o,_,_,_,e,_⟩:=x;exact Fn e
 |ins C dx fs=>obtain⟨_,_,_,e,_⟩:=x;exact Fn e
 |own y=>obtain⟨_,e⟩:=x;exact Fn e
 |xd fs=>obtain⟨_,⟨_,_,_,e,_⟩,_⟩:=x;exact Fn e
 |rng lo hi=>obtain⟨_,_,_,e⟩:=x;exact Fn e
 |frz ob u=>obtain⟨e,_⟩:=x;exact Fn e
 |tbl ps=>exact Fn (show h.get? a=some _ from x)
 |met f y=>exact Fn (show h.get? a=some _ from x)
 |ext φ=>obtain⟨_,⟨_,e⟩,_⟩:=x;exact Fn e
def Paired.mapP{α:Type}{F G:α->β->Prop}:∀{l₁:List α}{l₂:List β},Paired F l₁ l₂->(∀a b,F a b->G a b)->Paired G l₁ l₂
 |_,_,.nil,_=>.nil
 |_,_,.cons r t,f=>.cons (f _ _ r) (Paired.mapP t f)
def Yv.stay(x:Yv P w H h a o)(k:∀b u,(b=a\/H b=some (.own a))->h.get? b=some u->h'.get? b=some u)(ho:∀b,H b=some (.own a)->H' b=some (.own a))(ht:∀b xs,H b=some (.tup xs)->H' b=some (.tup xs)):Yv P w H' h' a o:=by
 induction o with
 |lst xs=>obtain⟨z,its,n,r,e⟩:=x;exists z,its,n,r,k _ _ (.inl rfl) e
 |tup xs=>obtain⟨z,its,r,ob,e,c⟩:=x;exists z,its,r,ob,k _ _ (.inl rfl) e,c
 |dK kvs=>obtain⟨z,y,vs,r,ob,es,ep,e,c⟩:=x;exists z,y,vs,r,ob,es,ep,k _ _ (.inl rfl) e,c
 |dT kvs =>
  let⟨z,y,xs,r,ob,es,ep,e,c⟩:=x;exists z,y,xs,Paired.mapP r λp q z=>⟨z.1,ht _ _ z.2.1,z.2.2⟩,ob,es,ep,k _ _ (.inl rfl) e,c
 |set S n=>obtain⟨ob,es,ep,t,e,c⟩:=x;exists ob,es,ep,t,k _ _ (.inl rfl) e,c
 |ins C dx fs =>
  let⟨d,z,ne,e,mA,⟨od,es,ep,e2,c⟩,r⟩:=x;exists ho _ d,z,ne,k _ _ (.inl rfl) e,mA,⟨od,es,ep,k _ _ (.inr d) e2,c⟩,r
 |own y=>obtain⟨ob,e⟩:=x;exists ob,k _ _ (.inl rfl) e
 |xd fs=>obtain⟨mA,⟨od,es,ep,e,c⟩,r⟩:=x;exists mA,⟨od,es,ep,k _ _ (.inl rfl) e,c⟩,r
 |rng lo hi=>obtain⟨t,u,v,e⟩:=x;exists t,u,v,k _ _ (.inl rfl) e
 |frz ob u ih=>obtain⟨e,q⟩:=x;exists k _ _ (.inl rfl) e,ih q
 |tbl ps =>
  let e:h.get? a=some {cls:=.none,data:=.fields ps}:=x;show h'.get? a=some {cls:=.none,data:=.fields ps};exact k a _ (.inl rfl) e
 |met f y =>
  let e:h.get? a=some (Jfb (.ref f) (.ref y)):=x;show h'.get? a=some (Jfb (.ref f) (.ref y));exact k a _ (.inl rfl) e
 |ext φ=>obtain⟨p,⟨o,e⟩,st⟩:=x;exists st _ _ p λo q=>k _ _ (.inl rfl) q,⟨o,k _ _ (.inl rfl) e⟩,st
def HOk.lt(x:HOk P w H h)(e:H a=some o):a<h.objs.size:=(x a o e).lt
def HOk.fresh(x:HOk P w H h)(e:h.objs.size<=a):H a=none:=by
 cases q:H a with
 |none=>rfl
 |some u=>exact Fh (Jw (x.lt q) e) (G6 _)
def HOk.kept(x:HOk P w H h)(k:∀b u,h.get? b=some u->h'.get? b=some u):HOk P w H h':=λa o e =>
 (x a o e).stay (λb u _ q=>k b u q) (λ_ q=>q) λ_ _ q=>q
def HOk.laid(x:HOk P w H h)(k:∀b u,h.get? b=some u->h'.get? b=some u)(hp:h.objs.size<=a)(new:Yv P w (upd H a o) h' a o):HOk P w (upd H a o) h':=λb u e=>by
 let hn:=x.fresh hp
 by_cases hb:b=a
 .subst hb;rw[Zi]at e;cases e;exact new
 .rw[Zk hb]at e;exact(x b u e).stay (λc v _ q=>k c v q) (λc q=>by rw[Zk (Zp q hn)];exact q) λc xs q=>by rw[Zk (Zp q hn)];exact q
end
instance Rd(H:Hp)(a:Addr)(u:HO):Prop:=H a=some u\/∃o,H a=some (.frz o u)
def Rd.ok{a:Addr}{u:HO}(r:Rd H a u)(x:HOk P w H h):Yv P w H h a u:=by
 rcases r with r|⟨o,r⟩
 .exact x a u r
 .let⟨_,q⟩:=x a _ r;exact q
instance Mut:Option HO->Prop
 |some (.lst _)=>True
 |some (.dK _)=>True
 |some (.dT _)=>True
 |some (.set _ _)=>True
 |some (.ins _ _ _)=>True
 |some (.ext _)=>True
 |_=>False
section
variable{x e:Addr}{o':HO}
def HOk.write(ok:HOk P w H h)(mu:Mut (H x))(he:e=x\/H e=some (.own x))(k:∀b u,b≠e->h.get? b=some u->h'.get? b=some u)(heo:∃u,h'.get? e=some u)(new:Yv P w (upd H x o') h' x o'):HOk P w (upd H x o') h':=λb u q=>by
 let nown:∀c y,H c=some (.own y)->c≠x:=λc y r z=>by subst z;rw[r]at mu;exact mu
 let ntup:∀c xs,H c=some (.tup xs)->c≠x:=λc xs r z=>by subst z;rw[r]at mu;exact mu
 by_cases hb:b=x
 .subst hb;rw[Zi]at q;cases q;exact new
 .rw[Zk hb]at q
  by_cases hbe:b=e
  .let q':H b=some (.own x):=by
    rcases he with z|z
    .exact Fh (hbe.trans z) hb
    .rw[hbe];exact z
   rw[q]at q';cases q';let⟨v,hv⟩:=heo;exact⟨v,by rw[hbe];exact hv⟩
  .refine(ok b u q).stay (λc v hc r=>k c v ?_ r) (λc r=>by rw[Zk (nown c b r)];exact r) λc xs r=>by rw[Zk (ntup c xs r)];exact r
   rcases hc with rfl|hc
   .exact hbe
   .rintro rfl;rcases he with z|z
    .exact nown c b hc z
    .rw[hc]at z;cases z;exact hb rfl
end
structure Un(fs ex:List Addr)(H H':Hp)(h h':Heap):Prop where
 keep:∀b o,h.get? b=some o->H b=none->b∉fs->b∉ex->h'.get? b=some o
 slot:∀b o,h.get? b=some o->H b=none->b∈fs->b∉ex->∃sl,h'.get? b=some {o with slots:=sl}
 free:∀b o,h.get? b=some o->H b=none->b∉ex->H' b=none
 there:∀b o,h.get? b=some o->b∉ex->∃o',h'.get? b=some o'
 tups:∀b xs,H b=some (.tup xs)->H' b=some (.tup xs)
 frzs:∀b o u,H b=some (.frz o u)->H' b=some (.frz o u)
 tbls:∀b ps,H b=some (.tbl ps)->∃more,H' b=some (.tbl (ps++more))
section
variable{fs ex:List Addr}{h1:Heap}{a x e:Addr} 
def Un.any(u:Un fs ex H H1 h h1){b:Addr}{ob:Obj}(q:h.get? b=some ob)(n:H b=none)(hx:b∉ex):∃sl,h1.get? b=some {ob with slots:=sl}:=by
 by_cases hb:b∈fs
 .exact u.slot b ob q n hb hx
 .exists ob.slots,u.keep b ob q n hb hx
def Un.kept(k:∀b u,h.get? b=some u->h'.get? b=some u):Un fs ex H H h h' :=
 ⟨λb ob q _ _ _=>k b ob q,λb ob q _ _ _=>⟨ob.slots,k b ob q⟩,λ_ _ _ n _=>n,λb ob q _=>⟨ob,k b ob q⟩,λ_ _ q=>q,λ_ _ _ q=>q,λ_ ps q=>⟨#[],by rw[q];simp⟩⟩
def Un.refl:Un fs ex H H h h:=Un.kept λ_ _ q=>q
def Un.laid(k:∀b u,h.get? b=some u->h'.get? b=some u)(hp:h.objs.size<=a)(hn:H a=none):Un fs ex H (upd H a o) h h' where
 keep:=λb u q _ _ _=>k b u q
 slot:=λb u q _ _ _=>⟨u.slots,k b u q⟩
 free:=λb u q n _=>by rw[Zk (Gg (Jw (Fn q) hp))];exact n
 there:=λb u q _=>⟨u,k b u q⟩
 tups:=λb xs q=>by rw[Zk (Zp q hn)];exact q
 frzs:=λb u xs q=>by rw[Zk (Zp q hn)];exact q
 tbls:=λb ps q=>⟨#[],by rw[Zk (Zp q hn),q];simp⟩
def Un.write(mu:Mut (H x))(he:e=x\/H e=some (.own x))(k:∀b u,b≠e->h.get? b=some u->h'.get? b=some u)(heo:∃u,h'.get? e=some u):Un fs ex H (upd H x o) h h':=by
 let hx:∀b,H b=none->b≠x:=λb n z=>by subst z;rw[n]at mu;exact mu
 let hb:∀b,H b=none->b≠e:=λb n z=>by
  subst z;rcases he with r|r
  .exact hx b n r
  .rw[n]at r;cases r
 let hm:∀b u,H b=some u->¬ Mut (some u)->b≠x:=λb u q nm z=>by subst z;rw[q]at mu;exact nm mu
 refine⟨λb u q n _ _=>k b u (hb b n) q,λb u q n _ _=>⟨u.slots,k b u (hb b n) q⟩,λb u q n _=>by rw[Zk (hx b n)];exact n,λb u q _=>?_,
  λb xs q=>by rw[Zk (hm b _ q λz=>z)];exact q,λb u xs q=>by rw[Zk (hm b _ q λz=>z)];exact q,λb ps q=>⟨#[],by rw[Zk (hm b _ q λz=>z),q];simp⟩⟩
 by_cases hbe:b=e
 .subst hbe;exact heo
 .exists u,k b u hbe q
end
instance trk(h:Heap)(H:Hp):List Addr:=(Ec h.objs.size).filter λa=>(H a).isSome
instance hidT(h:Heap)(H:Hp):Heap:=W.hideAll h (trk h H)
def Zhf(h:Heap)(H:Hp):(hidT h H).objs.size=h.objs.size:=W.hideAll_size _ _
def Zj8{b:Addr}{o:Obj}(e:h.get? b=some o)(n:H b=none):(hidT h H).get? b=some o :=
 W.hideAll_get _ e λhm=>by
  let q:(H b).isSome=true:=(Gz.mp hm).2;rw[n]at q;simp at q
def Znn{b:Addr}{o:Obj}(e:(hidT h H).get? b=some o):h.get? b=some o/\H b=none:=by
 let e':h.get? b=some o:=W.of_hideAll (trk h H) e;exists e',?_;cases q:H b with
 |none=>rfl
 |some x =>
  let hm:b∈trk h H:=Gz.mpr ⟨List.mem_range.mpr (Fn e'),by simp[q]⟩;let z:(hidT h H).get? b=none:=W.hideAll_none (trk h H) hm;rw[z]at e;cases e
structure Mod(K:Cs)(mg:Str->Option Ca)(base:Heap):Prop where
 kin:K.In base
 glob:base.Ns Ct mg
 blt:∃mb,base.Ns Mh mb/\∀x:Str,x≠"__name__"->mb x=Kq x
 nolimit:base.NoLimit
structure Cx where
 prog:Eu
 w:Hm
 K:Cs
 mg:Str->Option Ca
 base:Heap
 A:Ht
 N:List Str
 s₀:Cc
 H₀:Hp
 env:Env
 outer:List Env
 stack:List Env
 ex:List Addr
 fn:Str->Bool
 calm:Bool
 pn:List (Addr×Obj)
 xe:Ca->Cc->Prop
variable{X:L2.Cx}
instance frs(l:List Env):List Addr:=l.filterMap (·.frame)
abbrev Cx.fs(X:Cx):List Addr:=frs X.outer
instance Vis(sc:Scope)(x:Str):Prop:=sc.names.lookup x=some .local\/sc.names.lookup x=some .cell\/sc.names.lookup x=some .free
instance Loc(sc:Scope)(x:Str):Prop:=sc.names.lookup x=some .local\/sc.names.lookup x=some .cell
instance Look(env:Env)(h:Heap)(m:Str->Option Ca)(x:Str)(u:Ca):Prop :=
 (env.kindOf x=some .local/\m x=some u)\/((env.kindOf x=some .cell\/env.kindOf x=some .free)/\∃c,env.cells.lookup x=some c/\h.IsCell c (some u))
structure Cx.Ok(X:Cx):Prop where
 mod:Mod X.K X.mg X.base
 kind:X.env.scope.kind=.function
 glob:X.env.globals=Ct
 blt:X.env.builtins=Mh
 above:X.s₀.heap.objs.size<=X.env.locals
 inj:∀x y c,X.env.cells.lookup x=some c->X.env.cells.lookup y=some c->x=y
 has:∀x,(X.env.kindOf x=some .cell\/X.env.kindOf x=some .free)->∃c,X.env.cells.lookup x=some c
 cab:∀x c,X.fn x=true->X.env.cells.lookup x=some c->X.s₀.heap.objs.size<=c
 hd:X.calm=true->X.A.handled=none
 frames:X.A.frames=some X.stack
 stk:X.stack=X.outer\/(X.stack=X.env::X.outer/\X.env.frame=some X.env.locals)
 exf:∀b∈X.ex,b≠X.env.locals/\∀x c,X.env.cells.lookup x=some c->c≠b
 bs:∀b o,X.base.get? b=some o->X.s₀.heap.get? b=some o/\X.H₀ b=none
 bsz:X.base.objs.size<=X.s₀.heap.objs.size
 noex:∀b o,X.base.get? b=some o->b∉X.ex
 exfs:∀b∈X.ex,b∉X.fs
 funs:X.s₀.heap.FunFrames X.base X.outer
 frf:∀b∈X.fs,X.H₀ b=none
structure Inv(X:Cx)(pq:List (Addr×Obj))(σ:List (Option V))(H:Hp)(s:Cc):Prop where
 ok:X.Ok
 os:s.os=X.s₀.os
 bare:Mz s.gens
 base:Un X.fs X.ex X.H₀ H X.s₀.heap s.heap
 loc:∃m,s.heap.Ns X.env.locals m/\∀(i:Nat)(x:Str)(v:V),X.N[i]?=some x->σ[i]?=some (some v)->Vis X.env.scope x->∃u,RelV v u/\Look X.env s.heap m x u
 cell:∀x c,X.env.cells.lookup x=some c->∃v,s.heap.IsCell c v
 free:H X.env.locals=none
 freeC:∀x c,X.env.cells.lookup x=some c->H c=none
 pin:∀p∈X.pn++pq,s.heap.get? p.1=some p.2/\H p.1=none/\p.1≠X.env.locals/\p.1∉X.fs/\∀v,p.2.data≠.cell v
 hok:HOk X.prog X.w H s.heap
 len:σ.length=X.N.length
section
variable{σ:List (Option V)} 
def Cx.Ok.nofr(ok:X.Ok){b:Addr}{o:Obj}(e:X.base.get? b=some o):b∉X.fs:=λhb=>by
 let:=(ok.funs.mem hb).1;rw[e]at this;cases this
def Inv.bs(I:Inv X pq σ H s):∀b o,X.base.get? b=some o->s.heap.get? b=some o/\H b=none:=λb o e =>
 ⟨I.base.keep b o (I.ok.bs b o e).1 (I.ok.bs b o e).2 (I.ok.nofr e) (I.ok.noex b o e),I.base.free b o (I.ok.bs b o e).1 (I.ok.bs b o e).2 (I.ok.noex b o e)⟩
def Inv.bk(I:Inv X pq σ H s):∀b o,X.base.get? b=some o->s.heap.get? b=some o:=λb o e=>(I.bs b o e).1
def Inv.mod(I:Inv X pq σ H s):Mod X.K X.mg X.base:=I.ok.mod
def Inv.kIn(I:Inv X pq σ H s):X.K.In s.heap:=I.ok.mod.kin.keeps I.bk
def Inv.lt(I:Inv X pq σ H s):X.env.locals<s.heap.objs.size:=let⟨_,hn,_⟩:=I.loc;hn.lt
def Inv.sz(I:Inv X pq σ H s):X.s₀.heap.objs.size<=s.heap.objs.size:=Ga I.ok.above (Bp I.lt)
def Inv.nofs(I:Inv X pq σ H s){a:Addr}(h:s.heap.objs.size<=a):a∉X.fs:=λhb=>by
 let⟨_,o,ho,_⟩:=I.ok.funs.mem hb;exact Fh (Jw (Fn ho) (Ga I.sz h)) (G6 _)
def Inv.cne(I:Inv X pq σ H s):∀x c,X.env.cells.lookup x=some c->c≠X.env.locals:=λx c e z=>by
 let⟨v,o,ho,hd⟩:=I.cell x c e;let⟨m,⟨o',es,ep,ho',hd',_⟩,_⟩:=I.loc;rw[z,ho']at ho;cases ho;rw[hd']at hd;cases hd
def Inv.funs(I:Inv X pq σ H s):s.heap.FunFrames X.base X.outer:=by
 let all:∀(l:List Env),(∀b∈frs l,b∈X.fs)->X.s₀.heap.FunFrames X.base l->s.heap.FunFrames X.base l:=by
  intro l
  induction l with
  |nil=>intro _ _;trivial
  |cons env r ih =>
   intro hs hl;let⟨hk,⟨L,o,hf,hn,ho,hd⟩,hr⟩:=hl;let hL:L∈X.fs:=hs L (by unfold frs;rw[Ko,hf];exact List.mem_cons_self);let⟨sl,e⟩:=I.base.slot L o ho (I.ok.frf L hL) hL λz=>I.ok.exfs L z hL;exists hk,⟨L,_,hf,hn,e,hd⟩,ih (λb hb=>hs b (by unfold frs;rw[Ko,hf];exact List.mem_cons_of_mem _ hb)) hr
 exact all X.outer (λ_ hb=>hb) I.ok.funs
def Inv.stack(I:Inv X pq σ H s):s.heap.FunFrames X.base X.stack:=by
 rcases I.ok.stk with e|⟨e,hf⟩
 .rw[e];exact I.funs
 .rw[e];let⟨m,hn,_⟩:=I.loc;refine .cons (by rw[I.ok.kind];decide) hf hn ?_ I.funs;exact Lg (Ga I.ok.bsz I.ok.above)
def Inv.stkSub(I:Inv X pq σ H s):∀b∈frs X.stack,b∈X.env.locals::X.fs:=λb hb=>by
 rcases I.ok.stk with e|⟨e,hf⟩
 .rw[e]at hb;exact Jm _ hb
 .rw[e]at hb;unfold frs at hb;rw[Ko,hf]at hb;exact hb
def Inv.stkFree(I:Inv X pq σ H s):∀b∈frs X.stack,H b=none:=λb hb=>by
 rcases Jp.mp (I.stkSub b hb)with e|hb
 .rw[e];exact I.free
 .let⟨_,o,ho,_⟩:=I.ok.funs.mem hb;exact I.base.free b o ho (I.ok.frf b hb) λz=>I.ok.exfs b z hb
def Inv.step{g':Array GenState}{d':Drawn}{ch:List Addr}(I:Inv X pq σ H s)(hch:∀b∈ch,(b∈X.ex\/X.s₀.heap.objs.size<=b)/\b≠X.env.locals/\(∀x c,X.env.cells.lookup x=some c->c≠b)/\∀p∈X.pn++pq,p.1≠b)(keep:∀b o,b≠X.env.locals->b∉X.fs->b∉ch->s.heap.get? b=some o->H b=none->h'.get? b=some o)(slot:∀b o,b≠X.env.locals->b∈X.fs->b∉ch->s.heap.get? b=some o->H b=none->∃sl,h'.get? b=some {o with slots:=sl})(free:∀b o,b∉ch->s.heap.get? b=some o->H b=none->H' b=none)(there:∀b o,b∉ch->s.heap.get? b=some o->∃o',h'.get? b=some o')(tups:∀b xs,H b=some (.tup xs)->H' b=some (.tup xs))(frzs:∀b o u,H b=some (.frz o u)->H' b=some (.frz o u))(tbls:∀b ps,H b=some (.tbl ps)->∃more,H' b=some (.tbl (ps++more)))(ns:∀m,s.heap.Ns X.env.locals m->h'.Ns X.env.locals m)(hok:HOk X.prog X.w H' h')(hg:Mz g') :
  Inv X pq σ H' {s with heap:=h',gens:=g',drawn:=d',toks:=t'}:=by
 let neL:∀b o,X.s₀.heap.get? b=some o->b≠X.env.locals:=λb o e=>Gg (Jw (Fn e) I.ok.above);let neC:∀b o,X.s₀.heap.get? b=some o->b∉X.ex->b∉ch:=λb o e hx hb=>by
  rcases(hch b hb).1 with z|z
  .exact hx z
  .exact Fh (Jw (Fn e) z) (G6 _)
 let cellK:∀x c,X.env.cells.lookup x=some c->∀v,s.heap.IsCell c v->h'.IsCell c v:=λx c e v⟨o,ho,hd⟩=>by
  let nch:c∉ch:=λz=>(hch c z).2.2.1 x c e rfl
  by_cases hc:c∈X.fs
  .let⟨sl,q⟩:=slot c o (I.cne x c e) hc nch ho (I.freeC x c e);exists _,q,hd
  .exists o,keep c o (I.cne x c e) hc nch ho (I.freeC x c e),hd
 exists I.ok,I.os,hg,⟨λb o e n hb hx=>?_,λb o e n hb hx=>?_,λb o e n hx=>?_,λb o e hx=>?_,λb xs e=>tups b xs (I.base.tups b xs e),λb o xs e=>frzs b o xs (I.base.frzs b o xs e),λb ps e=>?_⟩,?_,λx c e=>?_,?_,λx c e=>?_,λp hp=>?_,hok,I.len
 .exact keep b o (neL b o e) hb (neC b o e hx) (I.base.keep b o e n hb hx) (I.base.free b o e n hx)
 .let⟨sl,e1⟩:=I.base.slot b o e n hb hx;let⟨sl',e2⟩:=slot b _ (neL b o e) hb (neC b o e hx) e1 (I.base.free b o e n hx);exists sl',e2
 .let⟨o',e1⟩:=I.base.there b o e hx;exact free b o' (neC b o e hx) e1 (I.base.free b o e n hx)
 .let⟨o',e1⟩:=I.base.there b o e hx;exact there b o' (neC b o e hx) e1
 .let⟨m1,e1⟩:=I.base.tbls b ps e;let⟨m2,e2⟩:=tbls b _ e1;exact⟨m1++m2,by rw[e2,Array.append_assoc]⟩
 .let⟨m,hn,hl⟩:=I.loc;exists m,ns m hn,λi x v e1 e2 e3=>?_;let⟨u,r,l⟩:=hl i x v e1 e2 e3;exists u,r,?_;rcases l with l|⟨k,c,e,z⟩
  .exact .inl l
  .exact .inr ⟨k,c,e,cellK x c e _ z⟩
 .let⟨v,z⟩:=I.cell x c e;exists v,cellK x c e v z
 .let⟨m,⟨o,_,_,ho,_⟩,_⟩:=I.loc;exact free _ o (λz=>(hch _ z).2.1 rfl) ho I.free
 .let⟨v,o,ho,hd⟩:=I.cell x c e;exact free c o (λz=>(hch c z).2.2.1 x c e rfl) ho (I.freeC x c e)
 .let⟨e,n,ne,nf,d⟩:=I.pin p hp;let nch:p.1∉ch:=λz=>(hch p.1 z).2.2.2 p hp rfl;exists keep p.1 p.2 ne nf nch e n,free p.1 p.2 nch e n,ne,nf,d
def Inv.un(I:Inv X pq σ H s)(u:Un X.fs [] H H' s.heap h')(hok:HOk X.prog X.w H' h'):Inv X pq σ H' {s with heap:=h',toks:=t'}:=by
 let⟨m,⟨o,es,ep,ho,r⟩,_⟩:=id I.loc;let⟨sl,hL⟩:=u.any ho I.free (by simp);exact I.step (g':=s.gens) (d':=s.drawn) (ch:=[]) (λ_ z=>nomatch z) (λb o _ hb _ e n=>u.keep b o e n hb (by simp)) (λb o _ hb _ e n=>u.slot b o e n hb (by simp)) (λb o _ e n=>u.free b o e n (by simp)) (λb o _ e=>u.there b o e (by simp)) u.tups u.frzs u.tbls (λm' hm=>by
  let⟨o',es',ep',ho',r'⟩:=hm;rw[ho]at ho';cases ho';exact⟨_,es',ep',hL,r'⟩) hok I.bare
def Inv.call{g':Array GenState}{d':Drawn}{ch:List Addr}(I:Inv X pq σ H s)(u:Un (frs X.stack) ch H H' s.heap h')(hok:HOk X.prog X.w H' h')(hg:Mz g')(hch:∀b∈ch,(b∈X.ex\/X.s₀.heap.objs.size<=b)/\b≠X.env.locals/\(∀x c,X.env.cells.lookup x=some c->c≠b)/\∀p∈X.pn++pq,p.1≠b) :
  Inv X pq σ H' {s with heap:=h',gens:=g',drawn:=d',toks:=t'}:=by
 let⟨m,⟨o,es,ep,ho,r⟩,_⟩:=id I.loc;let⟨sl,hL⟩:=u.any ho I.free λz=>(hch _ z).2.1 rfl;exact I.step (ch:=ch) hch (λb o hL hb hc e n=>u.keep b o e n (λz=>(Jp.mp (I.stkSub b z)).elim hL hb) hc) (λb o _ _ hc e n=>u.any e n hc) (λb o hc e n=>u.free b o e n hc) (λb o hc e=>u.there b o e hc) u.tups u.frzs u.tbls (λm' hm=>by
  let⟨o',es',ep',ho',r'⟩:=hm;rw[ho]at ho';cases ho';exact⟨_,es',ep',hL,r'⟩) hok hg
def Inv.turned(I:Inv X pq σ H s)(k:∀b o,b≠it->s.heap.get? b=some o->h'.get? b=some o)(hn:H it=none)(hL:it≠X.env.locals)(h1:it∈X.ex\/X.s₀.heap.objs.size<=it)(h2:∀x c,X.env.cells.lookup x=some c->c≠it)(h3:∀p∈X.pn++pq,p.1≠it):Inv X pq σ H {s with heap:=h',toks:=t'}:=by
 let nit:∀b u,H b=some u->b≠it:=λb u e z=>by rw[z,hn]at e;cases e
 refine I.step (g':=s.gens) (d':=s.drawn) (ch:=[it]) (λb hb=>?_) (λb o _ _ hc e _=>k b o (λz=>hc (by simp[z])) e) (λb o _ _ hc e _=>⟨o.slots,k b o (λz=>hc (by simp[z])) e⟩) (λ_ _ _ _ n=>n)
  (λb o hc e=>⟨o,k b o (λz=>hc (by simp[z])) e⟩) (λ_ _ e=>e) (λ_ _ _ e=>e) (λb ps e=>⟨#[],by rw[e];simp⟩) (λm hm=>?_) (λb u e=>?_) I.bare
 .let e:b=it:=by simpa using hb
  subst e;exists h1,hL,h2,h3
 .let⟨o,es,ep,ho,r⟩:=hm;exists o,es,ep,k _ o (Cv hL) ho,r
 .refine(I.hok b u e).stay (λc v hc q=>k c v ?_ q) (λ_ q=>q) λ_ _ q=>q;rcases hc with z|z
  .rw[z];exact nit b u e
  .exact nit c _ z
def Inv.tok(I:Inv X pq σ H s)(t:Nat):Inv X pq σ H {s with toks:=t}:=I.un (h':=s.heap) (t':=t) Un.refl I.hok
def Inv.kept(I:Inv X pq σ H s)(k:∀b u,s.heap.get? b=some u->h'.get? b=some u):Inv X pq σ H {s with heap:=h',toks:=t'}:=I.un (Un.kept k) (I.hok.kept k)
def Inv.laid{a:Addr}(I:Inv X pq σ H s)(k:∀b u,s.heap.get? b=some u->h'.get? b=some u)(hp:s.heap.objs.size<=a)(new:Yv X.prog X.w (upd H a o) h' a o) :
  Inv X pq σ (upd H a o) {s with heap:=h',toks:=t'}:=I.un (Un.laid k hp (I.hok.fresh hp)) (I.hok.laid k hp new)
def Inv.write{x e:Addr}(I:Inv X pq σ H s)(mu:Mut (H x))(he:e=x\/H e=some (.own x))(k:∀b u,b≠e->s.heap.get? b=some u->h'.get? b=some u)(heo:∃u,h'.get? e=some u)(new:Yv X.prog X.w (upd H x o) h' x o):Inv X pq σ (upd H x o) {s with heap:=h',toks:=t'}:=I.un (Un.write mu he k heo) (I.hok.write mu he k heo new)
def Inv.weak{σ':List (Option V)}(I:Inv X pq σ H s)(hl:σ'.length=σ.length)(w:∀(i:Nat)v,σ'[i]?=some (some v)->σ[i]?=some (some v)):Inv X pq σ' H s :=
 ⟨I.ok,I.os,I.bare,I.base,let⟨m,hn,hl'⟩:=I.loc;⟨m,hn,λi x v e1 e2 e3=>hl' i x v e1 (w i v e2) e3⟩,I.cell,I.free,I.freeC,I.pin,I.hok,hl.trans I.len⟩
def Inv.pins_of{pins':List (Addr×Obj)}(I:Inv X pq σ H s)(h:∀p∈pins',s.heap.get? p.1=some p.2/\H p.1=none/\p.1≠X.env.locals/\p.1∉X.fs/\∀v,p.2.data≠.cell v):Inv X pins' σ H s :=
 ⟨I.ok,I.os,I.bare,I.base,I.loc,I.cell,I.free,I.freeC,λp hp=>(Jt.mp hp).elim (λz=>I.pin p (Gs _ z)) (h p),I.hok,I.len⟩
def Zdk(hN:N.Nodup){x:Str}(a:N[i]?=some x)(b:N[j]?=some x):i=j:=by
 let⟨h1,e1⟩:=Jf.mp a;let⟨h2,e2⟩:=Jf.mp b;exact(Bi hN).mp (e1.trans e2.symm)
def Nx{M:Jfc}{x:Str}{u:Ca}{Q:Unit->Cc->Prop}(I:Inv X pq σ H s)(hN:X.N.Nodup)(hi:X.N[i]?=some x)(hx:Loc X.env.scope x)(r:RelV v u)(h:∀s',Inv X pq (σ.set i (some v)) H s'->(∃a,Hw a s.heap s'.heap/\(a=X.env.locals\/X.env.cells.lookup x=some a))->Q ⟨⟩ s')(hf:X.fn x=true\/X.env.scope.names.lookup x=some .local:=by first|left;rfl|right;rfl|assumption):Cg M A (Jg4 X.env x u) Q E s:=by
 let⟨m,hn,hl⟩:=id I.loc;let hcls:(X.env.scope.kind == .class ||(X.env.scope.kind == .module&&X.env.locals != X.env.globals))=false:=by rw[I.ok.kind];rfl
 let hiσ:i < σ.length:=by rw[I.len];exact(Jf.mp hi).1
 let cne:=I.cne;let tracked:∀{a:Addr}{h':Heap},(∃o,s.heap.get? a=some o/\H a=none)->Hw a s.heap h'->HOk X.prog X.w H h':=λ{a h'}ha hs b ob e=>by
  let⟨_,_,hfree⟩:=ha;refine(I.hok b ob e).stay (λc w' hc q=>(hs.2 c ?_).trans q) (λ_ q=>q) λ_ _ q=>q;rintro rfl;rcases hc with rfl|hc
  .rw[hfree]at e;cases e
  .rw[hfree]at hc;cases hc
 rcases hx with hk|hk
 .refine wpAny_storeName_local hk hn (λh' hn' hs=>?_) hcls;let⟨oL,_,_,hoL,_⟩:=id hn;refine h _ ⟨I.ok,I.os,I.bare,⟨λb o e n hb hx=>?_,λb o e n hb hx=>?_,I.base.free,λb o e hx=>?_,I.base.tups,I.base.frzs,I.base.tbls⟩,⟨_,hn',λj y v' e1 e2 e3=>?_⟩,λy c e=>?_,I.free,I.freeC,λp hp=>?_,tracked ⟨oL,hoL,I.free⟩ hs,by simpa using I.len⟩ ⟨_,hs,.inl rfl⟩
  .exact(hs.2 b (Gg (Jw (Fn e) I.ok.above))).trans (I.base.keep b o e n hb hx)
  .let⟨sl,e1⟩:=I.base.slot b o e n hb hx;exists sl,(hs.2 b (Gg (Jw (Fn e) I.ok.above))).trans e1
  .let⟨o',e1⟩:=I.base.there b o e hx;exists o',(hs.2 b (Gg (Jw (Fn e) I.ok.above))).trans e1
  .by_cases hj:j=i
   .subst hj;rw[hi]at e1;cases e1;rw[Jx hiσ]at e2;cases e2;exists u,r,.inl ⟨hk,by simp⟩
   .rw[Gp (Cv hj)]at e2;let⟨u',r',q⟩:=hl j y v' e1 e2 e3;exists u',r',?_;rcases q with⟨k,e⟩|⟨k,c,e,z⟩
    .refine .inl ⟨k,?_⟩;let:y≠x:=λe=>hj (Zdk hN e1 (e ▸ hi));simp[this,e]
    .exact .inr ⟨k,c,e,z.sameBut hs (cne y c e)⟩
  .let⟨w',z⟩:=I.cell y c e;exists w',z.sameBut hs (cne y c e)
  .let⟨e,n,ne,nf,d⟩:=I.pin p hp;exists(hs.2 p.1 ne).trans e,n,ne,nf,d
 .let hfn:X.fn x=true:=by
   rcases hf with z|z
   .exact z
   .rw[z]at hk;cases hk
  let⟨c,hc⟩:=I.ok.has x (.inl hk);let⟨w',z⟩:=I.cell x c hc;refine wpAny_storeName_cell I.ok.kind hk hc z (λh' hc' hs=>?_);let⟨oc,hoc,hocd⟩:=id z;refine h {s with heap:=h'} ⟨I.ok,I.os,I.bare,⟨λb o e n hb hx=>?_,λb o e n hb hx=>?_,I.base.free,λb o e hx=>?_,I.base.tups,I.base.frzs,I.base.tbls⟩,⟨m,hn.sameBut hs (Cv (cne x c hc)),λj y v' e1 e2 e3=>?_⟩,λy c' e=>?_,I.free,I.freeC,λp hp=>?_,tracked ⟨oc,hoc,I.freeC x c hc⟩ hs,by simpa using I.len⟩ ⟨c,hs,.inr hc⟩
  .exact(hs.2 b (Gg (Jw (Fn e) (I.ok.cab x c hfn hc)))).trans (I.base.keep b o e n hb hx)
  .let⟨sl,e1⟩:=I.base.slot b o e n hb hx;exists sl,(hs.2 b (Gg (Jw (Fn e) (I.ok.cab x c hfn hc)))).trans e1
  .let⟨o',e1⟩:=I.base.there b o e hx;exists o',(hs.2 b (Gg (Jw (Fn e) (I.ok.cab x c hfn hc)))).trans e1
  .by_cases hj:j=i
   .subst hj;rw[hi]at e1;cases e1;rw[Jx hiσ]at e2;cases e2;exists u,r,.inr ⟨.inl hk,c,hc,hc'⟩
   .rw[Gp (Cv hj)]at e2;let⟨u',r',q⟩:=hl j y v' e1 e2 e3;exists u',r',?_;rcases q with q|⟨k,c',e,z'⟩
    .exact .inl q
    .refine .inr ⟨k,c',e,z'.sameBut hs ?_⟩;rintro rfl;exact hj (Zdk hN e1 (I.ok.inj _ _ _ e hc ▸ hi))
  .by_cases hcc:c'=c
   .subst hcc;exists _,hc'
   .let⟨w2,z2⟩:=I.cell y c' e;exists w2,z2.sameBut hs hcc
  .let⟨e,n,ne,nf,d⟩:=I.pin p hp;exists(hs.2 p.1 ?_).trans e,n,ne,nf,d;intro q;rw[q,hoc]at e;let q':oc=p.2:=Fu e;exact d w' (by rw[<-q'];exact hocd)
def Wk{M:Jfc}{x:Str}{u:Ca}{Q:Unit->Cc->Prop}(I:Inv X pq σ H s)(hN:X.N.Nodup)(hi:X.N[i]?=some x)(hx:Loc X.env.scope x)(r:RelV v u)(h:∀s',Inv X pq (σ.set i (some v)) H s'->Q ⟨⟩ s')(hf:X.fn x=true\/X.env.scope.names.lookup x=some .local:=by first|left;rfl|right;rfl|assumption):Cg M A (Jg4 X.env x u) Q E s :=
 Nx I hN hi hx r (λs' I' _=>h s' I') hf
def Inv.call'{s':Cc}{ch:List Addr}(I:Inv X pq σ H s)(ho:s'.os=s.os)(u:Un (frs X.stack) ch H H' s.heap s'.heap)(hok:HOk X.prog X.w H' s'.heap)(hg:Mz s'.gens)(hch:∀b∈ch,(b∈X.ex\/X.s₀.heap.objs.size<=b)/\b≠X.env.locals/\(∀x c,X.env.cells.lookup x=some c->c≠b)/\∀p∈X.pn++pq,p.1≠b):Inv X pq σ H' s':=by
 let⟨h',g',d',t',o'⟩:=s';let e:o'=s.os:=ho;subst e;exact I.call (g':=g') (t':=t') (d':=d') u hok hg hch
end
abbrev XK:=Ca->Option Addr->Hp->Prop
abbrev St:=List (Option V)
variable{σ σ0:L2.St}
abbrev VK:=V->Hp->Prop
variable{Q:L2.VK}
abbrev TE:=St->Hp->VK->Prop
variable{ta te tb to:L2.TE}
abbrev TT:=St->Hp->(Bool->Hp->Prop)->Prop
abbrev TA:=St->Hp->(List V->Hp->Prop)->Prop
structure Ends where
 nx:St->Hp->Prop
 rt:VK
 bk:St->Hp->Prop:=λ_ _=>False
 ct:St->Hp->Prop:=λ_ _=>False
abbrev TS:=Ends->St->Hp->Prop
instance EP(X:Cx)(pq:List (Addr×Obj))(σ:St)(Q:VK)(u:Ca)(s':Cc):Prop:=∃v H',Inv X pq σ H' s'/\RelV v u/\Q v H'
instance TP(X:Cx)(pq:List (Addr×Obj))(σ:St)(Q:Bool->Hp->Prop)(b:Bool)(s':Cc):Prop:=∃H',Inv X pq σ H' s'/\Q b H'
instance AP(X:Cx)(pq:List (Addr×Obj))(σ:St)(Q:List V->Hp->Prop)(us:List Ca)(s':Cc):Prop:=∃vs H',Inv X pq σ H' s'/\Vals vs us/\Q vs H'
instance SP(X:Cx)(pq:List (Addr×Obj))(D:Ends)(f:Flow)(s':Cc):Prop :=
 match f with
 |.next=>∃σ' H',Inv X pq σ' H' s'/\D.nx σ' H'
 |.brk=>∃σ' H',Inv X pq σ' H' s'/\D.bk σ' H'
 |.cont=>∃σ' H',Inv X pq σ' H' s'/\D.ct σ' H'
 |.ret u=>∃v σ' H',Inv X pq σ' H' s'/\RelV v u/\D.rt v H'
instance PE(X:Cx)(e:Expr)(t:TE):Prop :=
 ∀(pq:List (Addr×Obj))(s:Cc)(σ:St)(H:Hp)(Q:VK),Inv X pq σ H s->t σ H Q->Cg (Cj X.prog X.w) X.A (eval e X.env) (EP X pq σ Q) X.xe s
instance PT(X:Cx)(e:Expr)(t:TT):Prop :=
 ∀(pq:List (Addr×Obj))(s:Cc)(σ:St)(H:Hp)(Q:Bool->Hp->Prop),Inv X pq σ H s->t σ H Q->Cg (Cj X.prog X.w) X.A (isTrue e X.env (eval e X.env)) (TP X pq σ Q) X.xe s
instance PW(X:Cx)(e:Expr)(t:TT):Prop :=
 ∀(whole:Sem Ca)(pq:List (Addr×Obj))(s:Cc)(σ:St)(H:Hp)(Q:Bool->Hp->Prop),Inv X pq σ H s->t σ H Q->Cg (Cj X.prog X.w) X.A (isTrue e X.env whole) (TP X pq σ Q) X.xe s
def PW.pt{e:Expr}{t:TT}(h:PW X e t):PT X e t:=h _
instance PA(X:Cx)(es:List Expr)(t:TA):Prop :=
 ∀(pos:Pos)(pq:List (Addr×Obj))(s:Cc)(σ:St)(H:Hp)(Q:List V->Hp->Prop),Inv X pq σ H s->t σ H Q->Cg (Cj X.prog X.w) X.A (spliced (Kg pos (Cp es X.env))) (AP X pq σ Q) X.xe s
instance PS(X:Cx)(st:Stmt)(t:TS):Prop :=
 ∀(pq:List (Addr×Obj))(s:Cc)(σ:St)(H:Hp)(D:Ends),Inv X pq σ H s->t D σ H->Cg (Cj X.prog X.w) X.A (exec st X.env) (SP X pq D) X.xe s
instance PSs(X:Cx)(st:List Stmt)(t:TS):Prop :=
 ∀(pq:List (Addr×Obj))(s:Cc)(σ:St)(H:Hp)(D:Ends),Inv X pq σ H s->t D σ H->Cg (Cj X.prog X.w) X.A (execs st X.env) (SP X pq D) X.xe s
def thn{α:Type}{t:Sem α}{Q Q':α->Cc->Prop}{M:Jfc}(h:Cg M A t Q E s)(hQ:∀a s,Q a s->Q' a s):Cg M A t Q' E s:=Fw h hQ λ_ _ x=>x
section
instance tVar(i:Nat):TE:=λσ H Q=>∃v,σ[i]?=some (some v)/\Q v H
instance tC(v:V):TE:=λ_ H Q=>Q v H
def Zgm{x:Str}(hN:X.N[i]?=some x)(hv:Vis X.env.scope x)(hd:(x==("__debug__":Str))=false:=by decide)(hcd:(x==("__classdict__":Str))=false:=by decide):PE X (.Name x pos) (tVar i):=by
 intro pq s σ H Q I h;let⟨v,e,h⟩:=h;let⟨m,hn,hl⟩:=I.loc;let⟨u,r,l⟩:=hl i x v hN e hv;let fin:EP X pq σ Q u s:=⟨v,H,I,r,h⟩;rcases l with⟨hk,hm⟩|⟨hk,c,hc,hcell⟩
 .exact Jf4 (Jde I.ok.kind hk hn hm fin) hd
 .rcases hk with hk|hk
  .exact Jf4 (Jdi I.ok.kind hk hc hcell fin) hd
  .exact Jf4 (wpAny_loadName_free I.ok.kind hk hc hcell fin hcd) hd
def Zd{i j pos}:PE X (.Constant (.int i) j pos) (tC (.int i)):=λ_ _ _ H _ I h=>wpAny_Constant_int ⟨.int i,H,I.tok _,⟨_,rfl⟩,h⟩
def Qm{b j pos}:PE X (.Constant (.bool b) j pos) (tC (.bl b)):=λ_ _ _ H _ I h=>Constant_bool ⟨.bl b,H,I,rfl,h⟩
def Zgo{j pos}:PE X (.Constant .none j pos) (tC .non):=λ_ _ _ H _ I h=>Ja0 ⟨.non,H,I,rfl,h⟩
def Yx{x j pos}:PE X (.Constant (.str x) j pos) (tC (.str x)):=λ_ _ _ H _ I h=>Calls.Constant_str ⟨.str x,H,I.tok _,⟨_,rfl⟩,h⟩
instance Gl(X:Cx)(x:Str):Prop:=X.env.kindOf x=some .globalImplicit
def Wd{x:Str}{u:Ca}{Q:Ca->Cc->Prop}(I:Inv X pq σ H s)(hg:Gl X x)(hm:X.mg x=some u)(h:Q u s)(hd:(x==("__debug__":Str))=false:=by decide):Cg (Cj X.prog X.w) X.A (eval (.Name x pos) X.env) Q E s :=
 Lz I.ok.kind hg (Calls.loadGlobal_global (by rw[I.ok.glob];exact I.mod.glob.keeps I.bk) hm h) hd
def Q4{x:Str}{u:Ca}{Q:Ca->Cc->Prop}(I:Inv X pq σ H s)(hg:Gl X x)(hm:X.mg x=none)(hv:Kq x=some u)(h:Q u s)(hn:x≠"__name__":=by decide)(hd:(x==("__debug__":Str))=false:=by decide):Cg (Cj X.prog X.w) X.A (eval (.Name x pos) X.env) Q E s:=by
 let⟨mb,h1,h2⟩:=I.mod.blt;exact Lz I.ok.kind hg (Calls.loadGlobal_builtin (by rw[I.ok.glob];exact I.mod.glob.keeps I.bk) hm (by rw[I.ok.blt];exact h1.keeps I.bk) ((h2 x hn).trans hv) h) hd
def Zbr{x:Str}{u:Ca}(hg:Gl X x)(hm:X.mg x=some u)(r:RelV v u)(hd:(x==("__debug__":Str))=false:=by decide):PE X (.Name x pos) (tC v) :=
 λ_ _ _ H _ I h=>Wd I hg hm ⟨v,H,I,r,h⟩ hd
def S3{x:Str}{u:Ca}(hg:Gl X x)(hm:X.mg x=none)(hv:Kq x=some u)(r:RelV v u)(hn:x≠"__name__":=by decide)(hd:(x==("__debug__":Str))=false:=by decide):PE X (.Name x pos) (tC v) :=
 λ_ _ _ H _ I h=>Q4 I hg hm hv ⟨v,H,I,r,h⟩ hn hd
variable{a b:Expr} 
instance PC(X:Cx)(op:Jhg)(a b:Expr)(t:TE):Prop :=
 ∀(pq:List (Addr×Obj))(s:Cc)(σ:St)(H:Hp)(Q:VK),Inv X pq σ H s->t σ H Q ->
  Cg (Cj X.prog X.w) X.A (eval a X.env) (λv s₁=>Cg (Cj X.prog X.w) X.A (eval b X.env) (λu s₂=>Cg (Cj X.prog X.w) X.A (E8 op v u) (EP X pq σ Q) X.xe s₂) X.xe s₁) X.xe s
def Zj1(b:Expr){op:Jhg}(h:op≠.In)(h2:op≠.NotIn):Kd op b=false:=by
 let e1:(op==Jhg.In)=false:=by cases op<;>first|rfl|exact Fh rfl h
 let e2:(op==Jhh)=false:=by cases op<;>first|rfl|exact Fh rfl h2
 cases b<;>simp[Kd,e1,e2]
instance tIsN(ta:TE):TE:=λσ H Q=>ta σ H λx H1=>Q (.bl (decide (x=.non))) H1
instance Zqf(ta:TE):TE:=λσ H Q=>ta σ H λx H1=>Q (.bl (!decide (x=.non))) H1
def RelV.none_iff{x:V}{v:Ca}(r:RelV x v):(v==Ca.none)=decide (x=.non):=by
 cases x with
 |non=>cases r;rfl
 |bl _=>cases r;rfl
 |int _=>obtain⟨t,rfl⟩:=r;rfl
 |str _=>obtain⟨t,rfl⟩:=r;rfl
 |byt _=>obtain⟨t,rfl⟩:=r;rfl
 |flt _=>obtain⟨t,rfl⟩:=r;rfl
 |ref _=>cases r;rfl
 |ty _=>cases r;rfl
def Zk6{j pos'}(ha:PE X a ta):PC X .Is a (.Constant .none j pos') (tIsN ta):=by
 intro pq s σ H Q I h;refine thn (ha pq s σ H _ I h) λv s1 hz=>?_;let⟨x,H1,I1,r1,q1⟩:=hz;exact Ja0 (is_none_gen ⟨.bl _,H1,I1,by rw[r1.none_iff];rfl,q1⟩)
def Zgq{j pos'}(ha:PE X a ta):PC X .IsNot a (.Constant .none j pos') (Zqf ta):=by
 intro pq s σ H Q I h;refine thn (ha pq s σ H _ I h) λv s1 hz=>?_;let⟨x,H1,I1,r1,q1⟩:=hz;exact Ja0 (isnot_none_gen ⟨.bl _,H1,I1,by rw[r1.none_iff];rfl,q1⟩)
instance tB(t:TE):TT:=λσ H Q=>t σ H λx H1=>∃c,x=.bl c/\Q c H1
def S1{op:Jhg}{t:TE}(h:PC X op a b t)(h1:Kd op b=false:=by first|exact Zj1 _ nofun nofun|rfl):PT X (.Compare a [op] [b] pos) (tB t):=by
 intro pq s σ H Q I hw;refine Jcz (thn (h pq s σ H _ I hw) λv s1 h1=>thn h1 λu s2 h2=>thn h2 λc s3 hz=>?_) h1;let⟨x,H1,I1,r1,q1⟩:=hz;let⟨d,rfl,q⟩:=q1;cases r1;exact Hf ⟨H1,I1,q⟩
def Sa{e:Expr}{t:TE}(h:PE X e t)(he:∀whole,isTrue e X.env whole=(do let v <-whole;Jd5 e.pos;Mc [v] (truthy v)):=by intro _;rfl):PT X e (tB t):=by
 intro pq s σ H Q I hw;refine isTrue_plain (thn (h pq s σ H _ I hw) λv s1 hz=>?_) (he _);let⟨x,H1,I1,r1,q1⟩:=hz;let⟨d,rfl,q⟩:=q1;cases r1;exact Hf ⟨H1,I1,q⟩
variable{tA tB':TT}{rest:List Expr}
instance tAnd(t u:TT):TT:=λσ H Q=>t σ H λc H1=>if c=true then u σ H1 Q else Q false H1
instance tOr(t u:TT):TT:=λσ H Q=>t σ H λc H1=>if c=true then Q true H1 else u σ H1 Q
instance tNot(t:TT):TT:=λσ H Q=>t σ H λc H1=>Q (!c) H1
def Pm(ha:PT X a tA):PW X (.BoolOp .And [a] pos) tA:=by
 intro wh pq s σ H Q I h;refine isTrue_and (thn (ha pq s σ H Q I h) λc s1 e=>?_);cases c with
 |true=>exact isTrue_and_nil e
 |false=>exact e
def Zge(ha:PT X a tA):PW X (.BoolOp .Or [a] pos) tA:=by
 intro wh pq s σ H Q I h;refine isTrue_or (thn (ha pq s σ H Q I h) λc s1 e=>?_);cases c with
 |false=>exact isTrue_or_nil e
 |true=>exact e
def N5(ha:PT X a tA)(hb:PW X (.BoolOp .And (b::rest) pos) tB'):PW X (.BoolOp .And (a::b::rest) pos) (tAnd tA tB'):=by
 intro wh pq s σ H Q I h;refine isTrue_and (thn (ha pq s σ H _ I h) λc s1 hz=>?_);let⟨H1,I1,q1⟩:=hz;cases c with
 |true=>exact hb wh pq s1 σ H1 Q I1 q1
 |false=>exact⟨H1,I1,q1⟩
def Zjm(ha:PT X a tA)(hb:PW X (.BoolOp .Or (b::rest) pos) tB'):PW X (.BoolOp .Or (a::b::rest) pos) (tOr tA tB'):=by
 intro wh pq s σ H Q I h;refine isTrue_or (thn (ha pq s σ H _ I h) λc s1 hz=>?_);let⟨H1,I1,q1⟩:=hz;cases c with
 |true=>exact⟨H1,I1,q1⟩
 |false=>exact hb wh pq s1 σ H1 Q I1 q1
def N6(ha:PT X a tA):PT X (.UnaryOp .Not a pos) (tNot tA):=by
 intro pq s σ H Q I h;exact isTrue_not (ha pq s σ H (λc H1=>Q (!c) H1) I h)
instance Zqj(ta tb:TE):TE:=λσ H Q=>ta σ H λx H1=>∃c,x=.bl c/\if c=true then tb σ H1 Q else Q (.bl false) H1
def Zk4{op}{t:TE}(h:PE X a t):PE X (.BoolOp op [a] pos) t:=λpq s σ H Q I hw=>BoolOp_one (h pq s σ H Q I hw)
def Zk5(ha:PE X a ta)(hb:PE X (.BoolOp .And (b::rest) pos) tb):PE X (.BoolOp .And (a::b::rest) pos) (Zqj ta tb):=by
 intro pq s σ H Q I h;refine BoolOp_and (thn (ha pq s σ H _ I h) λv s1 hz=>?_);let⟨x,H1,I1,r1,q1⟩:=hz;let⟨c,rfl,q1⟩:=q1;cases r1;refine Hf ?_;cases c with
 |true=>exact hb pq s1 σ H1 Q I1 q1
 |false=>exact⟨.bl false,H1,I1,rfl,q1⟩
end
instance SqL(K:Cs)(H:Hp)(a:Addr)(xs:List V):Prop :=
 Rd H a (.lst xs) \/
  ∃(o:Obj)(its:Array Ca)(n:Nat),K.lookup a=some o/\o.cls=.type "list"/\o.dict=none/\o.data=.seq its n/\its.size<=Cb/\Vals xs its.toList
instance SqT(K:Cs)(H:Hp)(a:Addr)(xs:List V):Prop :=
 Rd H a (.tup xs) \/
  ∃(o:Obj)(its:Array Ca)(n:Nat),K.lookup a=some o/\o.cls=.type "tuple"/\o.data=.seq its n/\its.size<=Cb/\Vals xs its.toList
instance absV:Ca->Option V
 |.none=>some .non
 |.bool b=>some (.bl b)
 |.int i _=>some (.int i)
 |.str x _=>some (.str x)
 |.bytes b _=>some (.byt b)
 |.float b _=>some (.flt b)
 |.ref a=>some (.ref a)
 |.type n=>some (.ty n)
 |_=>none
def RelV.abs{x:V}{u:Ca}(r:RelV x u):absV u=some x:=by
 cases x with
 |non=>cases r;rfl
 |bl _=>cases r;rfl
 |int _=>obtain⟨t,rfl⟩:=r;rfl
 |str _=>obtain⟨t,rfl⟩:=r;rfl
 |byt _=>obtain⟨t,rfl⟩:=r;rfl
 |flt _=>obtain⟨t,rfl⟩:=r;rfl
 |ref _=>cases r;rfl
 |ty _=>cases r;rfl
def RelV.inj{x y:V}{u:Ca}(r:RelV x u)(q:RelV y u):x=y:=Fu (r.abs.symm.trans q.abs)
def Vals.inj:∀{xs ys:List V}{us:List Ca},Vals xs us->Vals ys us->xs=ys:=by
 intro _ _ _ hz9 hz8;cases hz9 with
 |nil=>
  cases hz8 with
  |nil=>
   exact rfl
 |cons r t=>
  cases hz8 with
  |cons r' t'=>
   exact by rw[r.inj r',Vals.inj t t']
section
variable{a:Addr} 
def SqL.of(h:H a=some (.lst xs)):SqL K H a xs:=.inl (.inl h)
def SqT.of(h:H a=some (.tup xs)):SqT K H a xs:=.inl (.inl h)
def Inv.list(I:Inv X pq σ H s)(h:SqL X.K H a xs):∃its:List Ca,Vals xs its/\PlainL s.heap a its.toArray/\xs.length<=Cb:=by
 rcases h with h|⟨o,its,n,hk,hc,hd,hs,hz,r⟩
 .let⟨z,its,n,r,e⟩:=h.ok I.hok;exists its,r,⟨_,n,e,rfl,rfl,rfl⟩,z
 .exists its.toList,r,⟨o,n,I.kIn a o hk,hc,hd,by simpa using hs⟩,?_;let e:=r.length;simp only[Be]at e;lia
def Inv.tuple(I:Inv X pq σ H s)(h:SqT X.K H a xs):∃its:List Ca,Vals xs its/\IsTup s.heap a its.toArray/\xs.length<=Cb:=by
 rcases h with h|⟨o,its,n,hk,hc,hs,hz,r⟩
 .let⟨z,its,r,p⟩:=h.ok I.hok;exists its,r,p.tup,z
 .exists its.toList,r,⟨o,I.kIn a o hk,hc,n,by simpa using hs⟩,?_;let e:=r.length;simp only[Be]at e;lia
def Inv.list_inj(I:Inv X pq σ H s)(h:SqL X.K H a xs)(h':SqL X.K H a ys):xs=ys:=by
 let⟨its,r,⟨o,n,e,_,_,d⟩,_⟩:=I.list h;let⟨its',r',⟨o',n',e',_,_,d'⟩,_⟩:=I.list h';rw[e]at e';cases e';rw[d]at d';injection d' with d1 _
 let:its=its':=by simpa using congrArg Jem d1
 subst this;exact r.inj r'
def Inv.tuple_inj(I:Inv X pq σ H s)(h:SqT X.K H a xs)(h':SqT X.K H a ys):xs=ys:=by
 let⟨its,r,⟨o,e,_,n,d⟩,_⟩:=I.tuple h;let⟨its',r',⟨o',e',_,n',d'⟩,_⟩:=I.tuple h';rw[e]at e';cases e';rw[d]at d';injection d' with d1 _
 let:its=its':=by simpa using congrArg Jem d1
 subst this;exact r.inj r'
end
abbrev Cx.wish(X:Cx)(E:Ca->Cc->Prop):Cx:={X with xe:=E}
abbrev Cx.nox(X:Cx):Cx:=X.wish λ_ _=>False
def Cx.Ok.wish(ok:X.Ok)(E:Ca->Cc->Prop):(X.wish E).Ok :=
 ⟨ok.mod,ok.kind,ok.glob,ok.blt,ok.above,ok.inj,ok.has,ok.cab,ok.hd,ok.frames,ok.stk,ok.exf,ok.bs,ok.bsz,ok.noex,ok.exfs,ok.funs,ok.frf⟩
def Cx.Ok.unwish(ok:(X.wish E).Ok):X.Ok :=
 ⟨ok.mod,ok.kind,ok.glob,ok.blt,ok.above,ok.inj,ok.has,ok.cab,ok.hd,ok.frames,ok.stk,ok.exf,ok.bs,ok.bsz,ok.noex,ok.exfs,ok.funs,ok.frf⟩
section
def Inv.wish(I:Inv X pq σ H s)(E:Ca->Cc->Prop):Inv (X.wish E) pq σ H s:=⟨I.ok.wish E,I.os,I.bare,I.base,I.loc,I.cell,I.free,I.freeC,I.pin,I.hok,I.len⟩
def Inv.unwish(I:Inv (X.wish E) pq σ H s):Inv X pq σ H s:=⟨I.ok.unwish,I.os,I.bare,I.base,I.loc,I.cell,I.free,I.freeC,I.pin,I.hok,I.len⟩
def SP.unwish{D:Ends}{f:Flow}{s':Cc}(h:SP (X.wish E) pq D f s'):SP X pq D f s':=by
 cases f with
 |next=>obtain⟨σ',H',I,q⟩:=h;exists σ',H',I.unwish,q
 |brk=>obtain⟨σ',H',I,q⟩:=h;exists σ',H',I.unwish,q
 |cont=>obtain⟨σ',H',I,q⟩:=h;exists σ',H',I.unwish,q
 |ret u=>obtain⟨v,σ',H',I,r,q⟩:=h;exists v,σ',H',I.unwish,r,q
def PSs.nox{st:List Stmt}{t:TS}(h:PSs X.nox st t):PSs X st t:=λpq s σ H D I hw =>
 Fw (h pq s σ H D (I.wish _) hw) (λ_ _ q=>q.unwish) λ_ _ z=>Cq z
end
section
variable{rest:List Stmt}{t u:TS}{e:Expr} 
instance Zqg:TS:=λD σ H=>D.nx σ H
instance tSeq(t u:TS):TS:=λD σ H=>t {D with nx:=u D} σ H
def Zy:PSs X [] Zqg:=λ_ _ σ H _ I h=>Hy ⟨σ,H,I,h⟩
def Zc(h1:PS X st t)(h2:PSs X rest u):PSs X (st::rest) (tSeq t u):=by
 intro pq s σ H D I h;refine Ld (thn (h1 pq s σ H {D with nx:=u D} I h) λf s1 q=>?_);cases f with
 |next =>
  let⟨σ',H',I',q⟩:=q;exact h2 pq s1 σ' H' D I' q
 |ret v=>exact q
 |brk=>exact q
 |cont=>exact q
def Zh(h1:PS X st t):PSs X [st] t:=by
 intro pq s σ H D I h;refine Ld (thn (h1 pq s σ H D I h) λf s1 q=>?_);cases f with
 |next=>exact Hy q
 |ret v=>exact q
 |brk=>exact q
 |cont=>exact q
def Inv.quiet(I:Inv X pq σ H s):interactive X.env=false:=by simp[interactive,I.ok.kind]
instance Zme(te:TE):TS:=λD σ H=>te σ H λ_ H1=>D.nx σ H1
def Wb(he:PE X e te)(hs:Ln e none pos.line X.env=pure false:=by rfl):PS X (.Expr e pos) (Zme te):=by
 intro pq s σ H D I h;exact wpAny_Expr_any (thn (he pq s σ H _ I h) λv s1⟨x,H1,I1,r1,q1⟩=>⟨σ,H1,I1,q1⟩) I.quiet hs
instance tRet(te:TE):TS:=λD σ H=>te σ H D.rt
def Zx(he:PE X e te):PS X (.Return (some e) pos) (tRet te):=by
 intro pq s σ H D I h;exact wpAny_Return_some (thn (he pq s σ H _ I h) λv s1⟨x,H1,I1,r1,q1⟩=>⟨x,σ,H1,I1,r1,q1⟩)
instance Zqd:TS:=λD _ H=>D.rt .non H
def Zm8:PS X (.Return none pos) Zqd:=λ_ _ σ H _ I h=>wpAny_Return_none ⟨.non,σ,H,I,rfl,h⟩
instance tIfS(c:TT)(t u:TS):TS:=λD σ H=>c σ H λb H1=>if b=true then t D σ H1 else u D σ H1
def Yn{c:Expr}{a b:List Stmt}{tc:TT}(hc:PT X c tc)(ha:PSs X a t)(hb:PSs X b u):PS X (.If c a b pos) (tIfS tc t u):=by
 intro pq s σ H D I h;refine wpAny_If (thn (hc pq s σ H _ I h) λd s1 hz=>?_);let⟨H1,I1,q1⟩:=hz;cases d with
 |true=>exact ha pq s1 σ H1 D I1 q1
 |false=>exact hb pq s1 σ H1 D I1 q1
instance Zkr:TS:=λ_ _ _=>False
def Zde:PS X st Zkr:=λ_ _ _ _ _ _ h=>h.elim
end
abbrev TG:=V->St->Hp->(St->Hp->Prop)->Prop
variable{g:L2.TG}
abbrev TGs:=List V->St->Hp->(St->Hp->Prop)->Prop
instance PG(X:Cx)(target:Expr)(t:TG):Prop :=
 ∀(pq:List (Addr×Obj))(s:Cc)(σ:St)(H:Hp)(v:V)(u:Ca)(Q:St->Hp->Prop),Inv X pq σ H s->RelV v u->t v σ H Q ->
  Cg (Cj X.prog X.w) X.A (Jen target X.env u) (λ_ s'=>∃σ' H',Inv X pq σ' H' s'/\Q σ' H') X.xe s
instance PGs(X:Cx)(ts:List Expr)(t:TGs):Prop :=
 ∀(pq:List (Addr×Obj))(s:Cc)(σ:St)(H:Hp)(vs:List V)(us:List Ca)(Q:St->Hp->Prop),Inv X pq σ H s->Vals vs us->t vs σ H Q ->
  Cg (Cj X.prog X.w) X.A (assignInOrder ((Mi ts X.env).map (·.2)) us) (λ_ s'=>∃σ' H',Inv X pq σ' H' s'/\Q σ' H') X.xe s
abbrev TSet:=V->V->V->Hp->(Hp->Prop)->Prop
instance PSet(X:Cx)(t:TSet):Prop :=
 ∀(pq:List (Addr×Obj))(s:Cc)(σ:St)(H:Hp)(o i v:V)(ov iv u:Ca)(Q:Hp->Prop),Inv X pq σ H s->RelV o ov->RelV i iv->RelV v u->t o i v H Q ->
  Cg (Cj X.prog X.w) X.A (Jhi ov iv u) (λ_ s'=>∃H',Inv X pq σ H' s'/\Q H') X.xe s
abbrev TIp:=V->V->Hp->VK->Prop
instance PIp(X:Cx)(op:Jgs)(t:TIp):Prop :=
 ∀(pq:List (Addr×Obj))(s:Cc)(σ:St)(H:Hp)(x y:V)(v u:Ca)(Q:VK),Inv X pq σ H s->RelV x v->RelV y u->t x y H Q ->
  Cg (Cj X.prog X.w) X.A (inplaceOp op v u) (EP X pq σ Q) X.xe s
section
instance Zak(i:Nat):TG:=λv σ H Q=>Q (σ.set i (some v)) H
def Zq{x:Str}(hN:X.N.Nodup)(hi:X.N[i]?=some x)(hx:Loc X.env.scope x)(hf:X.fn x=true\/X.env.scope.names.lookup x=some .local:=by first|left;rfl|right;rfl|assumption):PG X (.Name x pos) (Zak i):=by
 intro pq s σ H v u Q I r h;exact Jd6 (Wk I hN hi hx r (λs' I'=>⟨_,H,I',h⟩) hf)
instance gNil:TGs:=λvs σ H Q=>vs=[]/\Q σ H
instance Zoa(t:TG)(u:TGs):TGs:=λvs σ H Q=>∃v r,vs=v::r/\t v σ H λσ' H'=>u r σ' H' Q
def Xs:PGs X [] gNil:=by
 intro pq s σ H vs us Q I r h;let⟨e,h⟩:=h;subst e;cases r;exact assignInOrder_nil ⟨σ,H,I,h⟩
def Z0{e:Expr}{t:TG}{u:TGs}(h1:PG X e t)(h2:PGs X es u)(hs:(Mi (e::es) X.env).map (·.2)=Jen e X.env::(Mi es X.env).map (·.2):=by rfl):PGs X (e::es) (Zoa t u):=by
 intro pq s σ H vs us Q I r h;let⟨v,vr,e1,h⟩:=h;subst e1;cases r with
 |cons r rr =>
  rw[hs];refine assignInOrder_cons (thn (h1 pq s σ H _ _ _ I r h) λ_ s1 hz=>?_);let⟨σ1,H1,I1,q1⟩:=hz;exact h2 pq s1 σ1 H1 _ _ Q I1 rr q1
instance gTup(K:Cs)(n:Nat)(t:TGs):TG:=λv σ H Q=>∃a xs,v=.ref a/\SqT K H a xs/\xs.length=n/\t xs σ H Q
def W4{k:Nat}{t:TGs}{n:Nat}(hc:X.calm=true)(h:PGs X es t)(hn:(Mi es X.env).length=n:=by rfl)(hst:(Mi es X.env).findIdx? (·.1)=none:=by rfl):PG X (.Tuple es k pos) (gTup X.K n t):=by
 intro pq s σ H v u Q I r hw;let⟨a,xs,e1,hq,hl,hw⟩:=hw;subst e1;cases r;let⟨its,rv,ht,hz⟩:=I.tuple hq;refine assign_Tuple_tuple (I.ok.hd hc) ht (by simp[hn,<-hl,rv.length]) hst λh' hx=>?_;let I1:Inv X pq σ H {s with heap:=h'}:=I.kept (t':=s.toks) λb o e=>hx b o (Gg (Fn e)) e;exact h pq _ σ H xs _ Q I1 (by simpa using rv) hw
instance gSub(to ti:TE)(t:TSet):TG:=λv σ H Q=>to σ H λo H1=>ti σ H1 λi H2=>t o i v H2 λH3=>Q σ H3
def Zdg{o i:Expr}{ti:TE}{t:TSet}(ho:PE X o to)(hi:PE X i ti)(hs:PSet X t)(ha:∀v,Jen (.Subscript o i pos) X.env v=(do
   let ov <-Mc [v] (eval o X.env)
   let iv <-Mc [v,ov] (eval i X.env)
   Jd5 pos
   Mc [v,ov,iv] (Jhi ov iv v)
   release [v,ov,iv] []):=by intro _;rfl):PG X (.Subscript o i pos) (gSub to ti t):=by
 intro pq s σ H v u Q I r h;rw[ha];refine Fj (Cw (thn (ho pq s σ H _ I h) λov s1 hz=>?_));let⟨x,H1,I1,r1,q1⟩:=hz;refine Fj (Cw (thn (hi pq s1 σ H1 _ I1 q1) λiv s2 hz=>?_));let⟨y,H2,I2,r2,q2⟩:=hz;refine Fj (Ej (Fj (Cw (thn (hs pq s2 σ H2 x y v ov iv u _ I2 r1 r2 r q2) λ_ s3 hz=>?_))));let⟨H3,I3,q3⟩:=hz;exact wpAny_release ⟨σ,H3,I3,q3⟩
instance tAsg(te:TE)(g:TG):TS:=λD σ H=>te σ H λx H1=>g x σ H1 D.nx
def Sb{e:Expr}(he:PE X e te)(hg:PG X tg g)(hs:swapsWithSole [tg] e pos.line X.env=pure false:=by rfl)(hw:swappedStores [tg] e X.env=pure none:=by rfl)(h1:(Mi [tg] X.env).map (·.2)=[Jen tg X.env]:=by rfl):PS X (.Assign [tg] e pos) (tAsg te g):=by
 intro pq s σ H D I h;refine wpAny_Assign_stores (thn (he pq s σ H _ I h) λv s1 hz=>?_) hs hw;let⟨x,H1,I1,r1,q1⟩:=hz;rw[h1];exact thn (hg pq s1 σ H1 x v _ I1 r1 q1) λ_ s2 q=>q
def Zs{x:Str}{e:Expr}(hN:X.N.Nodup)(hi:X.N[i]?=some x)(hx:Loc X.env.scope x)(he:PE X e te)(hs:Ln e (some (.Name x pos')) pos.line X.env=pure false:=by rfl)(hf:X.fn x=true\/X.env.scope.names.lookup x=some .local:=by first|left;rfl|right;rfl|assumption) :
  PS X (.Assign [.Name x pos'] e pos) (tAsg te (Zak i)):=by
 intro pq s σ H D I h;refine Jd7 (thn (he pq s σ H _ I h) λv s1 hz=>?_) hs;let⟨y,H1,I1,r1,q1⟩:=hz;exact Wk I1 hN hi hx r1 (λs2 I2=>⟨_,H1,I2,q1⟩) hf
instance tAug(i:Nat)(te:TE)(ti:TIp):TS:=λD σ H=>∃x,σ[i]?=some (some x)/\te σ H λy H1=>ti x y H1 λz H2=>D.nx (σ.set i (some z)) H2
def Zre{x:Str}{e:Expr}{op:Jgs}{ti:TIp}(hN:X.N.Nodup)(hi:X.N[i]?=some x)(hx:Loc X.env.scope x)(he:PE X e te)(ho:PIp X op ti)(hf:X.fn x=true\/X.env.scope.names.lookup x=some .local:=by first|left;rfl|right;rfl|assumption) :
  PS X (.AugAssign (.Name x pos') op e pos) (tAug i te ti):=by
 intro pq s σ H D I h;let⟨v,e1,h⟩:=h;let⟨m,hn,hl⟩:=I.loc;let vis:Vis X.env.scope x:=by rcases hx with k|k;exact .inl k;exact .inr (.inl k)
 let⟨u,r,l⟩:=hl i x v hi e1 vis;refine wpAny_AugAssign_Name ?_;let go:Cg (Cj X.prog X.w) X.A (eval e X.env) (λw s₂=>Cg (Cj X.prog X.w) X.A (inplaceOp op u w) (λr s₃=>Cg (Cj X.prog X.w) X.A (Jg4 X.env x r) (λ_=>SP X pq D .next) X.xe s₃) X.xe s₂) X.xe s:=by
  refine thn (he pq s σ H _ I h) λw s1 hz=>?_;let⟨y,H1,I1,r1,q1⟩:=hz;refine thn (ho pq s1 σ H1 v y u w _ I1 r r1 q1) λz s2 hz=>?_;let⟨zv,H2,I2,r2,q2⟩:=hz;exact Wk I2 hN hi hx r2 (λs3 I3=>⟨_,H2,I3,q2⟩) hf
 rcases l with⟨hk,hm⟩|⟨hk,c,hc,hcell⟩
 .exact Jde I.ok.kind hk hn hm go
 .rcases hk with hk|hk
  .exact Jdi I.ok.kind hk hc hcell go
  .rcases hx with k|k
   .let:X.env.scope.names.lookup x=some .free:=hk;rw[k]at this;cases this
   .let:X.env.scope.names.lookup x=some .free:=hk;rw[k]at this;cases this
instance Ztr(to ti te:TE)(tget:V->V->Hp->VK->Prop)(tip:TIp)(tset:TSet):TS:=λD σ H=>to σ H λo H1=>ti σ H1 λi H2=>tget o i H2 λx H3=>te σ H3 λy H4=>tip x y H4 λz H5=>tset o i z H5 λH6=>D.nx σ H6
instance PGet(X:Cx)(t:V->V->Hp->VK->Prop):Prop :=
 ∀(pq:List (Addr×Obj))(s:Cc)(σ:St)(H:Hp)(o i:V)(ov iv:Ca)(Q:VK),Inv X pq σ H s->RelV o ov->RelV i iv->t o i H Q ->
  Cg (Cj X.prog X.w) X.A (Lo ov iv) (EP X pq σ Q) X.xe s
def Zm9{o i e:Expr}{ti:TE}{tget:V->V->Hp->VK->Prop}{tip:TIp}{tset:TSet}{op:Jgs}{tpos:Pos}(ho:PE X o to)(hi:PE X i ti)(hg:PGet X tget)(he:PE X e te)(hp:PIp X op tip)(hs:PSet X tset)(ha:∀ov iv new,augStore i ov iv new=(do Mc [new,ov,iv] (Jhi ov iv new);release [new,ov,iv] [];pure .next):=by intros;rfl):PS X (.AugAssign (.Subscript o i tpos) op e pos) (Ztr to ti te tget tip tset):=by
 intro pq s σ H D I h;refine wpAny_AugAssign_SubscriptAny (thn (ho pq s σ H _ I h) λov s1 hz=>?_) ha;let⟨x1,H1,I1,r1,q1⟩:=hz;refine thn (hi pq s1 σ H1 _ I1 q1) λiv s2 hz=>?_;let⟨x2,H2,I2,r2,q2⟩:=hz;refine thn (hg pq s2 σ H2 x1 x2 ov iv _ I2 r1 r2 q2) λold s3 hz=>?_;let⟨x3,H3,I3,r3,q3⟩:=hz;refine thn (he pq s3 σ H3 _ I3 q3) λv s4 hz=>?_;let⟨x4,H4,I4,r4,q4⟩:=hz;refine thn (hp pq s4 σ H4 x3 x4 old v _ I4 r3 r4 q4) λnew s5 hz=>?_;let⟨x5,H5,I5,r5,q5⟩:=hz;exact thn (hs pq s5 σ H5 x1 x2 x5 ov iv new _ I5 r1 r2 r5 q5) λ_ s6⟨H6,I6,q6⟩=>⟨σ,H6,I6,q6⟩
instance ipI(f:Int->Int->Int):TIp:=λx y H Q=>∃i j,x=.int i/\y=.int j/\Q (.int (f i j)) H
def Zld:PIp X .Add (ipI λi j=>i+j):=by
 intro pq s σ H x y v u Q I r1 r2 h;let⟨i,j,e1,e2,q⟩:=h;subst e1;subst e2;let⟨t,rfl⟩:=r1;let⟨t',rfl⟩:=r2;exact iadd_int ⟨.int _,H,I.tok _,⟨_,rfl⟩,q⟩
end
section
instance Zfa(c:TT)(tb:TS):TS:=λD σ H=>∃W:Nat->St->Hp->Prop,(∃m,W m σ H)/\∀m σ H,W m σ H ->
 c σ H λb H1=>if b=true then ∃N:St->Hp->Prop,(∀σ' H',N σ' H'->∃m',m'<m/\W m' σ' H')/\tb {D with nx:=N,ct:=N,bk:=D.nx} σ H1 else D.nx σ H1
def Zdc{c:Expr}{tc:TT}{tb:TS}(hp:PassesOwn (Cj X.prog X.w) X.A X.env X.xe)(hc:PT X c tc)(hb:PSs X body tb):PS X (.While c body [] pos) (Zfa tc tb):=by
 intro pq s σ H D I h;let⟨W,⟨m0,w0⟩,turn⟩:=h;refine wpAny_While (codeAny_whileLoop (λn s'=>∃σ' H',Inv X pq σ' H' s'/\W n σ' H') ?_ m0 ⟨σ,H,I,w0⟩);rintro n s1 ⟨σ1,H1,I1,w1⟩;refine Hg hp (thn (hc pq s1 σ1 H1 _ I1 (turn n σ1 H1 w1)) λb s2 hz=>?_);let⟨H2,I2,q2⟩:=hz;cases b with
 |true =>
  let⟨N,hN,q2⟩:=q2;rw[Fp rfl];refine Hg hp (thn (hb pq s2 σ1 H2 _ I2 q2) λf s3 q3=>?_);cases f with
  |next =>
   let⟨σ3,H3,I3,n3⟩:=q3;let⟨m',hm,w3⟩:=hN σ3 H3 n3;exists m',hm,σ3,H3,I3,w3
  |cont =>
   let⟨σ3,H3,I3,n3⟩:=q3;let⟨m',hm,w3⟩:=hN σ3 H3 n3;exists m',hm,σ3,H3,I3,w3
  |brk=>exact q3
  |ret v=>exact q3
 |false =>
  rw[Fo Jv];exact Hy ⟨σ1,H2,I2,q2⟩
end
structure It where
 go:Nat->Hp->Prop
 yld:Nat->Hp->V->Hp->Prop
 stop:Nat->Hp->Prop
instance FpOk(X:Cx)(pq:List (Addr×Obj))(H:Hp)(b:Addr):Prop :=
 H b=none/\b≠X.env.locals/\b∉X.fs/\(b∈X.ex\/X.s₀.heap.objs.size<=b)/\(∀x c,X.env.cells.lookup x=some c->c≠b)/\∀p∈X.pn++pq,p.1≠b
def Inv.fpOk{b:Addr}(I:Inv X pq σ H s)(hb:s.heap.objs.size<=b)(hn:H' b=none):FpOk X pq H' b:=by
 exists hn,B1 (Jw I.lt hb),I.nofs hb,.inr (Ga I.sz hb),λx c e z=>?_,λp hp z=>?_
 .let⟨v,q⟩:=I.cell x c e;exact Fh (Jw q.lt (by rw[z];exact hb)) (G6 _)
 .exact Fh (Jw (Fn (I.pin p hp).1) (by rw[z];exact hb)) (G6 _)
structure Turn(P:Eu)(w:Hm)(K:Cs)(tg:Expr)(J:It)(fp:List Addr)(it:Addr)(tn:Nat->Heap->Prop):Prop where
 mem:it∈fp
 obj:∀i h,tn i h->∀b∈fp,∃o,h.get? b=some o/\∀v,o.data≠.cell v
 keep:∀i h h',tn i h->(∀b∈fp,∀o,h.get? b=some o->h'.get? b=some o)->tn i h'
 item:∀(X:Cx),X.prog=P->X.w=w->X.K=K->X.calm=true->∀(i:Nat)(pq:List (Addr×Obj))(s:Cc)(σ:St)(H:Hp)(E:Ca->Cc->Prop),Inv X pq σ H s->(∀b∈fp,FpOk X pq H b)->tn i s.heap->J.go i H ->
  Cg (Cj P w) X.A (Jeo (.ref it)) (λr s1=>∃u,r=some u /\
   Cg (Cj P w) X.A (Lp tg (.ref it) u) (λ_ s2=>∃x H',Inv X pq σ H' s2/\RelV x u/\J.yld i H x H'/\tn (i+1) s2.heap/\∀b∈fp,H' b=none) E s1) E s
 done:∀(X:Cx),X.prog=P->X.w=w->X.K=K->X.calm=true->∀(i:Nat)(pq:List (Addr×Obj))(s:Cc)(σ:St)(H:Hp)(E:Ca->Cc->Prop),Inv X pq σ H s->(∀b∈fp,FpOk X pq H b)->tn i s.heap->J.stop i H ->
  Cg (Cj P w) X.A (Jeo (.ref it)) (λr s1=>r=none/\Inv X pq σ H s1) E s
 self:∀(A:Ht)(i:Nat)(s:Cc)(Q:Ca->Cc->Prop)(E:Ca->Cc->Prop),tn i s.heap->Q (.ref it) s->Cg (Cj P w) A (pyIter (.ref it)) Q E s
abbrev TI:=St->Hp->(It->Hp->Prop)->Prop
variable{wi:L2.TI}
instance PIE(X:Cx)(pq:List (Addr×Obj))(σ:St)(tg:Expr)(R:It->Hp->Prop)(itv:Ca)(s2:Cc):Prop :=
 ∃(it:Addr)(fp:List Addr)(tn:Nat->Heap->Prop)(J:It)(H':Hp),itv=.ref it/\Inv X pq σ H' s2/\Turn X.prog X.w X.K tg J fp it tn/\tn 0 s2.heap/\(∀b∈fp,FpOk X pq H' b)/\R J H'
instance PI(X:Cx)(tg iter:Expr)(wi:TI):Prop :=
 ∀(pq:List (Addr×Obj))(s:Cc)(σ:St)(H:Hp)(R:It->Hp->Prop),Inv X pq σ H s->wi σ H R ->
  Cg (Cj X.prog X.w) X.A (eval iter X.env) (λv s1=>Cg (Cj X.prog X.w) X.A (pyIter v) (PIE X pq σ tg R) X.xe s1) X.xe s
def Zn8{M:Jfc}{u:Ca}{o:Obj}{n:String}{vs:Array Ca}{Q:Unit->Cc->Prop}(ho:s.heap.get? it=some o)(hc:o.cls=.type n)(hd:o.data=.fields vs)(hn:["enumerate","zip","dict_itemiterator","dict_reverseitemiterator","odict_iterator","itertools.zip_longest","itertools.pairwise"].contains n=false)(hQ:Q ⟨⟩ s):Cg M A (Lp tg (.ref it) u) Q E s:=by
  unfold Lp;cases tg<;>first
    |exact Fk hQ
    | (cases u <;> first
        |exact Fk hQ
        | (refine Fj (Jd8 ho ?_)
           rw[hc,hd];show Cg M A (if(["enumerate","zip","dict_itemiterator","dict_reverseitemiterator","odict_iterator","itertools.zip_longest","itertools.pairwise"].contains n&&vs[0]? == some (Ew _))=true then _ else _) Q E s;rw[Fo (by intro h;rw[hn,Bz]at h;cases h)];exact Fk hQ))
instance Itl(K:Cs)(a:Addr):It :=
 ⟨λi H=>∃xs x,SqL K H a xs/\xs[i]?=some x,λi H x H'=>H'=H/\∀xs,SqL K H a xs->xs[i]?=some x,λi H=>∃xs,SqL K H a xs/\xs.length<=i⟩
instance Itt(K:Cs)(a:Addr):It :=
 ⟨λi H=>∃xs x,SqT K H a xs/\xs[i]?=some x,λi H x H'=>H'=H/\∀xs,SqT K H a xs->xs[i]?=some x,λi H=>∃xs,SqT K H a xs/\xs.length<=i⟩
instance Itr(lo:Int)(n:Nat):It:=⟨λi _=>i<n,λi H x H'=>H'=H/\x=.int (lo+i),λi _=>n<=i⟩
def Ze7(a it:Addr):Turn P w K tg (Itl K a) [it] it (λi h=>h.IsListIter it a i) where
 mem:=by simp
 obj:=λi h st b hb=>by
  let e:b=it:=by simpa using hb
  subst e;let⟨o,e,c,d⟩:=st;exact⟨o,e,λv z=>by rw[d]at z;cases z⟩
 keep:=λi h h' st k=>st.at λo e=>k it (by simp) o e
 item:=by
  intro X hP hw hK hc i pq s σ H E I hf st hg;subst hP hw hK;let⟨xs,x,hq,hx⟩:=hg;let⟨its,rv,p,hz⟩:=I.list hq;let⟨u,hu,ru⟩:=rv.get hx;let⟨f0,f1,f2,f3,f4,f5⟩:=hf it (by simp);refine Jcr st p.isList (x:=u) (by simpa using hu) λh' st' sb=>?_;let I1:Inv X pq σ H {s with heap:=h'}:=I.turned (t':=s.toks) (λb o hb e=>(sb.2 b hb).trans e) f0 f1 f3 f4 f5;let⟨o,e,c,d⟩:=id st';exists u,rfl,Zn8 (s:={s with heap:=h'}) e c d nofun ⟨x,H,I1,ru,⟨rfl,λys hy=>by rw[I.list_inj hy hq];exact hx⟩,st',λb hb=>(hf b hb).1⟩
 done:=by
  intro X hP hw hK hc i pq s σ H E I hf st hg;subst hP hw hK;let⟨xs,hq,hx⟩:=hg;let⟨its,rv,p,hz⟩:=I.list hq;let⟨f0,f1,f2,f3,f4,f5⟩:=hf it (by simp);let hl:=rv.length;exact Jc0 (I.ok.hd hc) st p.isList (by simp;lia) λh' eb=>⟨rfl,I.turned (t':=s.toks) (λb o hb e=>eb b o hb e) f0 f1 f3 f4 f5⟩
 self:=λ_ _ _ _ _ st h=>wpAny_pyIter_listiter st h
def Zd4(a it:Addr):Turn P w K tg (Itt K a) [it] it (λi h=>h.IsTupleIter it a i) where
 mem:=by simp
 obj:=λi h st b hb=>by
  let e:b=it:=by simpa using hb
  subst e;let⟨o,e,c,d⟩:=st;exact⟨o,e,λv z=>by rw[d]at z;cases z⟩
 keep:=λi h h' st k=>st.at λo e=>k it (by simp) o e
 item:=by
  intro X hP hw hK hc i pq s σ H E I hf st hg;subst hP hw hK;let⟨xs,x,hq,hx⟩:=hg;let⟨its,rv,p,hz⟩:=I.tuple hq;let⟨u,hu,ru⟩:=rv.get hx;let⟨f0,f1,f2,f3,f4,f5⟩:=hf it (by simp);refine Ja1 st (show s.heap.IsTuple a its.toArray from p) (x:=u) (by simpa using hu) λh' st' sb=>?_;let I1:Inv X pq σ H {s with heap:=h'}:=I.turned (t':=s.toks) (λb o hb e=>(sb.2 b hb).trans e) f0 f1 f3 f4 f5;let⟨o,e,c,d⟩:=id st';exists u,rfl,Zn8 (s:={s with heap:=h'}) e c d nofun ⟨x,H,I1,ru,⟨rfl,λys hy=>by rw[I.tuple_inj hy hq];exact hx⟩,st',λb hb=>(hf b hb).1⟩
 done:=by
  intro X hP hw hK hc i pq s σ H E I hf st hg;subst hP hw hK;let⟨xs,hq,hx⟩:=hg;let⟨its,rv,p,hz⟩:=I.tuple hq;let⟨f0,f1,f2,f3,f4,f5⟩:=hf it (by simp);let hl:=rv.length;exact Jcs (I.ok.hd hc) st (show s.heap.IsTuple a its.toArray from p) (by simp;lia) λh' eb=>⟨rfl,I.turned (t':=s.toks) (λb o hb e=>eb b o hb e) f0 f1 f3 f4 f5⟩
 self:=λ_ _ _ _ _ st h=>wpAny_pyIter_tupleiter st h
def Zd5(it:Addr)(lo:Int)(n:Nat):Turn P w K tg (Itr lo n) [it] it (λi h=>IsRangeIter h it (lo+(i:Nat)*1) ((n:Int)-(i:Nat)) 1) where
 mem:=by simp
 obj:=λi h st b hb=>by
  let e:b=it:=by simpa using hb
  subst e;exact⟨_,st,λv z=>by
   let z':Jhj _=Data.cell v:=z;cases z'⟩
 keep:=λi h h' st k=>k it (by simp) _ st
 item:=by
  intro X hP hw hK hc i pq s σ H E I hf st hg;subst hP hw hK;let⟨f0,f1,f2,f3,f4,f5⟩:=hf it (by simp);let W:=Walks.range (prog:=X.prog) (w:=X.w) (I.ok.hd hc) it lo 1 n;refine W.item i s _ _ hg st λv h' tk hv st' kk=>?_;let⟨t,rfl⟩:=hv;let I1:Inv X pq σ H {s with heap:=h',toks:=tk}:=I.turned (λb o hb e=>kk b o (by simpa using hb) e) f0 f1 f3 f4 f5;exists ·,Zn8 (s:={s with heap:=h',toks:=tk}) (n:="range_iterator") st' rfl rfl nofun ⟨.int (lo+i),H,I1,⟨t,?_⟩,⟨rfl,rfl⟩,st',λb hb=>(hf b hb).1⟩;rw[Jhk]
 done:=by
  intro X hP hw hK hc i pq s σ H E I hf st hg;subst hP hw hK;let⟨f0,f1,f2,f3,f4,f5⟩:=hf it (by simp);exact wpAny_pyNext_range_end (I.ok.hd hc) st (by have:n<=i:=hg;lia) λh' eb=>⟨rfl,I.turned (t':=s.toks) (λb o hb e=>eb b o hb e) f0 f1 f3 f4 f5⟩
 self:=λ_ _ _ _ _ st h=>wpAny_pyIter_rangeiter st h
section
instance Zn4(K:Cs)(tl:TE):TI:=λσ H R=>tl σ H λx H1=>∃a,x=.ref a/\(∃xs,SqL K H1 a xs)/\R (Itl K a) H1
instance iTup(K:Cs)(tl:TE):TI:=λσ H R=>tl σ H λx H1=>∃a,x=.ref a/\(∃xs,SqT K H1 a xs)/\R (Itt K a) H1
def Y0{l:Expr}{tl:TE}(hl:PE X l tl):PI X tg l (Zn4 X.K tl):=by
 intro pq s σ H R I h;refine thn (hl pq s σ H _ I h) λv s1 hz=>?_;let⟨x,H1,I1,r1,q1⟩:=hz;let⟨a,e,⟨xs,hq⟩,q⟩:=q1;subst e;cases r1;let⟨its,rv,p,hz⟩:=I1.list hq;refine K4 p.isList ?_;exists s1.heap.objs.size,[s1.heap.objs.size],_,_,H1,rfl,I1.kept (t':=s1.toks) λb o e=>Fl _ e,Ze7 a _,⟨_,Fm _ rfl,rfl,rfl⟩,λb hb=>?_,q;let e:b=s1.heap.objs.size:=by simpa using hb
 subst e;exact I1.fpOk (Jd _) (I1.hok.fresh (Jd _))
def Zdf{l:Expr}{tl:TE}(hl:PE X l tl):PI X tg l (iTup X.K tl):=by
 intro pq s σ H R I h;refine thn (hl pq s σ H _ I h) λv s1 hz=>?_;let⟨x,H1,I1,r1,q1⟩:=hz;let⟨a,e,⟨xs,hq⟩,q⟩:=q1;subst e;cases r1;let⟨its,rv,p,hz⟩:=I1.tuple hq;refine Jdo (show s1.heap.IsTuple a its.toArray from p) ?_;exists s1.heap.objs.size,[s1.heap.objs.size],_,_,H1,rfl,I1.kept (t':=s1.toks) λb o e=>Fl _ e,Zd4 a _,⟨_,Fm _ rfl,rfl,rfl⟩,λb hb=>?_,q;let e:b=s1.heap.objs.size:=by simpa using hb
 subst e;exact I1.fpOk (Jd _) (I1.hok.fresh (Jd _))
def Zjk{R:It->Hp->Prop}{lo hi:Int}{t u v:Tok}{tk:Nat}(I:Inv X pq σ H s)(h1:-(2 ^ 62)<=lo)(h2:lo<2 ^ 62)(h3:-(2 ^ 62)<=hi)(h4:hi<2 ^ 62)(q:R (Itr lo (hi-lo).toNat) H):Cg (Cj X.prog X.w) X.A (pyIter (.ref s.heap.objs.size)) (PIE X pq σ tg R) E {s with heap:=s.heap.push {cls:=.type "range",data:=.fields #[.int lo t,.int hi u,.int 1 v]},toks:=tk}:=by
 refine wpAny_pyIter_range (IsRange.new ..) (small_one h1 h2 h3 h4) ?_;let I1:Inv X pq σ H {s with heap:=s.heap.push {cls:=.type "range",data:=.fields #[.int lo t,.int hi u,.int 1 v]},toks:=tk}:=I.kept λb o e=>Fl _ e;refine⟨(s.heap.push {cls:=.type "range",data:=.fields #[.int lo t,.int hi u,.int 1 v]}).objs.size,[(s.heap.push {cls:=.type "range",data:=.fields #[.int lo t,.int hi u,.int 1 v]}).objs.size],_,_,H,rfl,
  I1.kept (t':=tk) λb o e=>Fl _ e,Zd5 _ lo (hi-lo).toNat,?_,λb hb=>?_,q⟩
 .let e1:lo+((0:Nat):Int)*1=lo:=by simp
  let e2:(((hi-lo).toNat:Nat):Int)-((0:Nat):Int)=Jgt lo hi 1:=by rw[rangeSize_one];split<;>lia
  show IsRangeIter _ _ (lo+((0:Nat):Int)*1) ((((hi-lo).toNat:Nat):Int)-((0:Nat):Int)) 1;rw[e1,e2];exact Fm _ rfl
 .let e:b=(s.heap.push {cls:=.type "range",data:=.fields #[.int lo t,.int hi u,.int 1 v]}).objs.size:=by simpa using hb
  subst e;exact I1.fpOk (Jd _) (I1.hok.fresh (Jd _))
instance Zr3(ta:TA):TI:=λσ H R=>ta σ H λvs H1=>∃j:Int,vs=[.int j]/\-(2 ^ 62)<=j/\j<2 ^ 62/\R (Itr 0 j.toNat) H1
def Yb{a:Expr}{ta:TA}{p:Pos}(hg:Gl X "range")(hm:X.mg "range"=none)(ha:PA X [a] ta)(hs:Cp [a] X.env=[(false,eval a X.env)]:=by rfl):PI X tg (.Call (.Name "range" p) [a] [] pos) (Zr3 ta):=by
 intro pq s σ H R I h;refine Call_ (Q4 I hg hm boot_range (Lq (thn (ha pos pq s σ H _ I h) λus s1 hz=>?_) hs rfl));let⟨vs,H1,I1,r1,q1⟩:=hz;let⟨j,e,q1,q2,q⟩:=q1;subst e;cases r1 with
 |cons r rr =>
  cases rr;let⟨t,rfl⟩:=r;exact call_range_1 (Zjk I1 () () q1 q2 (by simpa using q))
instance tFor(wi:TI)(g:TG)(tb:TS):TS:=λD σ H=>wi σ H λJ H1=>∃W:Nat->Nat->St->Hp->Prop,(∃m,W 0 m σ H1)/\∀i m σ H,W i m σ H ->
 (J.stop i H/\D.nx σ H)\/(J.go i H/\∃N:St->Hp->Prop,(∀σ' H',N σ' H'->∃m',m'<m/\W (i+1) m' σ' H')/\∀x H',J.yld i H x H'->g x σ H' λσ2 H2=>tb {D with nx:=N,ct:=N,bk:=D.nx} σ2 H2)
instance N8(fp:List Addr)(h:Heap):List (Addr×Obj):=fp.filterMap λb=>(h.get? b).map λo=>(b,o)
def Ue{b:Addr}{o:Obj}(hb:b∈fp)(e:h.get? b=some o):(b,o)∈N8 fp h:=List.mem_filterMap.mpr ⟨b,hb,by rw[e];rfl⟩
def Zgw{p:Addr×Obj}(hp:p∈N8 fp h):p.1∈fp/\h.get? p.1=some p.2:=by
 let⟨b,hb,e⟩:=List.mem_filterMap.mp hp;cases q:h.get? b with
 |none=>rw[q]at e;cases e
 |some o =>
  rw[q]at e;let e':(b,o)=p:=Fu e;subst e';exists hb,q
def Inv.pinned(I:Inv X pq σ H s)(hf:∀b∈fp,FpOk X pq H b)(ho:∀b∈fp,∃o,s.heap.get? b=some o/\∀v,o.data≠.cell v):Inv X (pq++N8 fp s.heap) σ H s :=
 I.pins_of λp hp=>(Jt.mp hp).elim (λz=>I.pin p (Jl _ z)) λz=>by
  let⟨hb,e⟩:=Zgw z;let⟨f0,f1,f2,_⟩:=hf p.1 hb;let⟨o,e',d⟩:=ho p.1 hb;rw[e]at e';cases e';exists e,f0,f1,f2,d
def Inv.unpinned{pl:List (Addr×Obj)}(I:Inv X (pq++pl) σ H s):Inv X pq σ H s:=I.pins_of λp hp=>I.pin p (Jl _ (Gs _ hp))
def X5{iter:Expr}{tb:TS}(hp:PassesOwn (Cj X.prog X.w) X.A X.env X.xe)(hc:X.calm=true)(hi:PI X tg iter wi)(hg:PG X tg g)(hb:PSs X body tb)(hs:∀x,Mj iter X.env x=pure x:=by intro _;rfl):PS X (.For tg iter body [] pos) (tFor wi g tb):=by
 intro pq s σ H D I h;refine wpAny_For (thn (hi pq s σ H _ I h) λv s1 h1=>thn h1 λitv s2 h2=>?_) hs;let⟨it,fp,tn,J,H2,e,I2,T,st2,f2,W,⟨m0,w0⟩,turn⟩:=h2;subst e;let stat:∀{H':Hp},(∀b∈fp,H' b=none)->∀b∈fp,FpOk X pq H' b:=λhn b hb=>⟨hn b hb,(f2 b hb).2⟩;refine codeAny_forLoop_any (λn s'=>∃i σ' H',Inv X pq σ' H' s'/\tn i s'.heap/\(∀b∈fp,H' b=none)/\W i n σ' H') ?_ m0 ⟨0,σ,H2,I2,st2,λb hb=>(f2 b hb).1,w0⟩;rintro n s3 ⟨i,σ3,H3,I3,st3,fr3,w3⟩;rcases turn i n σ3 H3 w3 with⟨stop,qn⟩|⟨go,N,hN,step⟩
 .refine Hg hp (thn (T.done X rfl rfl rfl hc i pq s3 σ3 H3 X.xe I3 (stat fr3) st3 stop) λr s4 hz=>?_);let⟨hr,I4⟩:=hz;subst hr;exact Hy ⟨σ3,H3,I4,qn⟩
 .refine Hg hp (thn (T.item X rfl rfl rfl hc i pq s3 σ3 H3 X.xe I3 (stat fr3) st3 go) λr s4 hz=>?_);let⟨u,hr,h4⟩:=hz;subst hr;refine Hg hp (thn h4 λ_ s5 hz=>?_);let⟨x,H5,I5,r5,y5,st5,fr5⟩:=hz;let I5':=I5.pinned (stat fr5) (T.obj _ _ st5);refine Hg hp (thn (hg _ s5 σ3 H5 x u _ I5' r5 (step x H5 y5)) λ_ s6 hz=>?_);let⟨σ6,H6,I6,q6⟩:=hz;refine Hg hp (thn (hb _ s6 σ6 H6 _ I6 q6) λf s7 q7=>?_);let again:∀{σ7:St}{H7:Hp},Inv X (pq++N8 fp s5.heap) σ7 H7 s7->N σ7 H7->∃m,m<n/\∃i σ' H',Inv X pq σ' H' s7/\tn i s7.heap/\(∀b∈fp,H' b=none)/\W i m σ' H':=λ{σ7 H7}I7 n7=>by
   let⟨m',hm,w7⟩:=hN σ7 H7 n7;exists m',hm,i+1,σ7,H7,I7.unpinned,T.keep _ _ _ st5 λb hb o e=>(I7.pin (b,o) (Jl _ (Jl _ (Ue hb e)))).1,λb hb=>?_,w7;let⟨o,e,d⟩:=T.obj _ _ st5 b hb;exact(I7.pin (b,o) (Jl _ (Jl _ (Ue hb e)))).2.1
  cases f with
  |next=>obtain⟨σ7,H7,I7,n7⟩:=q7;exact again I7 n7
  |cont=>obtain⟨σ7,H7,I7,n7⟩:=q7;exact again I7 n7
  |brk=>obtain⟨σ7,H7,I7,q7⟩:=q7;exists σ7,H7,I7.unpinned,q7
  |ret v=>obtain⟨x7,σ7,H7,I7,r7,q7⟩:=q7;exists x7,σ7,H7,I7.unpinned,r7,q7
end
def Zoc{a:Addr}{tb:TS}{D:Ends}(Pv:Nat->St->Hp->Prop)(h0:Pv 0 σ H)(hl:∀i σ H,i<=xs.length->Pv i σ H->SqT K H a xs)(hs:∀i x σ H,xs[i]?=some x->Pv i σ H->g x σ H λσ2 H2=>tb {D with nx:=Pv (i+1),ct:=Pv (i+1),bk:=D.nx} σ2 H2)(hd:∀σ H,Pv xs.length σ H->D.nx σ H) :
  ∃W:Nat->Nat->St->Hp->Prop,(∃m,W 0 m σ H)/\∀i m σ H,W i m σ H ->
   ((Itt K a).stop i H/\D.nx σ H)\/((Itt K a).go i H/\∃N:St->Hp->Prop,(∀σ' H',N σ' H'->∃m',m'<m/\W (i+1) m' σ' H')/\∀x H',(Itt K a).yld i H x H'->g x σ H' λσ2 H2=>tb {D with nx:=N,ct:=N,bk:=D.nx} σ2 H2):=by
 exists λi m σ H=>m=xs.length-i/\i<=xs.length/\Pv i σ H,⟨xs.length,by simp,J8 _,h0⟩,?_;rintro i m σ H ⟨rfl,hi,p⟩;let q:=hl i σ H hi p
 by_cases hlt:i<xs.length
 .refine .inr ⟨⟨xs,xs[i],q,by simp[hlt]⟩,Pv (i+1),λσ' H' p'=>⟨xs.length-(i+1),(),rfl,hlt,p'⟩,λx H' y=>?_⟩;let⟨e,y⟩:=y;subst e;exact hs i x σ _ (y xs q) p
 .let e:i=xs.length:=by lia
  subst e;exact .inl ⟨⟨xs,q,Jd _⟩,hd σ H p⟩
def Zal{lo:Int}{n:Nat}{tb:TS}{D:Ends}(Pv:Nat->St->Hp->Prop)(h0:Pv 0 σ H)(hs:∀i σ H,i<n->Pv i σ H->g (.int (lo+i)) σ H λσ2 H2=>tb {D with nx:=Pv (i+1),ct:=Pv (i+1),bk:=D.nx} σ2 H2)(hd:∀σ H,Pv n σ H->D.nx σ H) :
  ∃W:Nat->Nat->St->Hp->Prop,(∃m,W 0 m σ H)/\∀i m σ H,W i m σ H ->
   ((Itr lo n).stop i H/\D.nx σ H)\/((Itr lo n).go i H/\∃N:St->Hp->Prop,(∀σ' H',N σ' H'->∃m',m'<m/\W (i+1) m' σ' H')/\∀x H',(Itr lo n).yld i H x H'->g x σ H' λσ2 H2=>tb {D with nx:=N,ct:=N,bk:=D.nx} σ2 H2):=by
 exists λi m σ H=>m=n-i/\i<=n/\Pv i σ H,⟨n,by simp,J8 _,h0⟩,?_;rintro i m σ H ⟨rfl,hi,p⟩
 by_cases hlt:i<n
 .refine .inr ⟨hlt,Pv (i+1),λσ' H' p'=>⟨n-(i+1),(),rfl,hlt,p'⟩,λx H' y=>?_⟩;let⟨e,y⟩:=y;subst e y;exact hs i σ _ hlt p
 .let e:i=n:=by lia
  subst e;exact .inl ⟨Jd _,hd σ H p⟩
def Zij{c:TT}{tb:TS}{D:Ends}(Pv:St->Hp->Prop)(μ:St->Hp->Nat)(h0:Pv σ H)(hs:∀σ H,Pv σ H->c σ H λb H1=>if b=true then tb {D with nx:=λσ' H'=>Pv σ' H'/\μ σ' H' < μ σ H,ct:=λσ' H'=>Pv σ' H'/\μ σ' H' < μ σ H,bk:=D.nx} σ H1 else D.nx σ H1)(mono:∀σ H Q Q',(∀b H1,Q b H1->Q' b H1)->c σ H Q->c σ H Q'):Zfa c tb D σ H:=by
 exists λm σ H=>m=μ σ H/\Pv σ H,⟨_,rfl,h0⟩,?_;rintro m σ H ⟨rfl,p⟩;refine mono σ H _ _ (λb H1 q=>?_) (hs σ H p);cases b with
 |true=>exact⟨_,λσ' H'⟨p',l⟩=>⟨_,l,rfl,p'⟩,q⟩
 |false=>exact q
abbrev R2:=V->V->Hp->VK->Prop
variable{r:L2.R2}
instance OpR(X:Cx)(f:Ca->Ca->Sem Ca)(r:R2):Prop :=
 ∀(pq:List (Addr×Obj))(s:Cc)(σ:St)(H:Hp)(x y:V)(v u:Ca)(Q:VK),Inv X pq σ H s->RelV x v->RelV y u->r x y H Q ->
  Cg (Cj X.prog X.w) X.A (f v u) (EP X pq σ Q) X.xe s
instance UnR(X:Cx)(f:Ca->Sem Ca)(r:V->Hp->VK->Prop):Prop :=
 ∀(pq:List (Addr×Obj))(s:Cc)(σ:St)(H:Hp)(x:V)(v:Ca)(Q:VK),Inv X pq σ H s->RelV x v->r x H Q ->
  Cg (Cj X.prog X.w) X.A (f v) (EP X pq σ Q) X.xe s
instance Wv(X:Cx)(f:Ca)(r:List V->Hp->VK->Prop):Prop :=
 ∀(pq:List (Addr×Obj))(s:Cc)(σ:St)(H:Hp)(xs:List V)(us:List Ca)(Q:VK),Inv X pq σ H s->Vals xs us->r xs H Q ->
  Cg (Cj X.prog X.w) X.A (call f us) (EP X pq σ Q) X.xe s
instance tOp(r:R2)(ta tb:TE):TE:=λσ H Q=>ta σ H λx H1=>tb σ H1 λy H2=>r x y H2 Q
instance tUn(r:V->Hp->VK->Prop)(ta:TE):TE:=λσ H Q=>ta σ H λx H1=>r x H1 Q
instance rI(C:Int->Int->Prop)(g:Int->Int->V):R2:=λx y H Q=>∃i j,x=.int i/\y=.int j/\C i j/\Q (g i j) H
instance rI0(g:Int->Int->V):R2:=λx y H Q=>∃i j,x=.int i/\y=.int j/\Q (g i j) H
instance rU(g:Int->V):V->Hp->VK->Prop:=λx H Q=>∃i,x=.int i/\Q (g i) H
section
variable{a b:Expr} 
def binT(ha:PE X a ta)(hb:PE X b tb){R:V->V->Hp->Prop}(I:Inv X pq σ H s)(h:ta σ H λx H1=>tb σ H1 λy H2=>R x y H2){Q:Ca->Cc->Prop}{f:Ca->Ca->Sem Ca}(hf:∀v u s2 x y H2,Inv X pq σ H2 s2->RelV x v->RelV y u->R x y H2->Cg (Cj X.prog X.w) X.A (f v u) Q X.xe s2) :
  Cg (Cj X.prog X.w) X.A (eval a X.env) (λv s₁=>Cg (Cj X.prog X.w) X.A (eval b X.env) (λu s₂=>Cg (Cj X.prog X.w) X.A (f v u) Q X.xe s₂) X.xe s₁) X.xe s:=by
 refine thn (ha pq s σ H _ I h) λv s1 hz=>?_;let⟨x,H1,I1,r1,q1⟩:=hz;refine thn (hb pq s1 σ H1 _ I1 q1) λu s2 hz=>?_;let⟨y,H2,I2,r2,q2⟩:=hz;exact hf v u s2 x y H2 I2 r1 r2 q2
def Zv{op:Jgs}(ho:OpR X (Hd op) r)(ha:PE X a ta)(hb:PE X b tb):PE X (.BinOp a op b pos) (tOp r ta tb):=by
 intro pq s σ H Q I h;exact wpAny_BinOp (binT ha hb I h λv u s2 x y H2 I2 rx ry q=>ho pq s2 σ H2 x y v u Q I2 rx ry q)
def Zne{op:UnaryOp}{r:V->Hp->VK->Prop}(ho:UnR X (unaryOp op) r)(ha:PE X a ta):PE X (.UnaryOp op a pos) (tUn r ta):=by
 intro pq s σ H Q I h;exact UnaryOp_ (thn (ha pq s σ H _ I h) λv s1⟨x,H1,I1,r1,q1⟩=>ho pq s1 σ H1 x v Q I1 r1 q1)
def opI{f:Ca->Ca->Sem Ca}{C:Int->Int->Prop}{g:Int->Int->Int}(rule:∀(i j:Int)(t u:Tok)(s:Cc)(Q:Ca->Cc->Prop)(E:Ca->Cc->Prop),C i j->Q (.int (g i j) s.toks) {s with toks:=s.toks+1}->Cg (Cj X.prog X.w) X.A (f (.int i t) (.int j u)) Q E s) :
  OpR X f (rI C λi j=>.int (g i j)):=by
 intro pq s σ H x y v u Q I rx ry h;let⟨i,j,rfl,rfl,hc,q⟩:=h;let⟨t,rfl⟩:=rx;let⟨t',rfl⟩:=ry;exact rule i j t t' s _ _ hc ⟨.int (g i j),H,I.tok _,⟨_,rfl⟩,q⟩
def opI0{f:Ca->Ca->Sem Ca}{g:Int->Int->Int}(rule:∀(i j:Int)(t u:Tok)(s:Cc)(Q:Ca->Cc->Prop)(E:Ca->Cc->Prop),Q (.int (g i j) s.toks) {s with toks:=s.toks+1}->Cg (Cj X.prog X.w) X.A (f (.int i t) (.int j u)) Q E s) :
  OpR X f (rI0 λi j=>.int (g i j)):=by
 intro pq s σ H x y v u Q I rx ry h;let⟨i,j,rfl,rfl,q⟩:=h;let⟨t,rfl⟩:=rx;let⟨t',rfl⟩:=ry;exact rule i j t t' s _ _ ⟨.int (g i j),H,I.tok _,⟨_,rfl⟩,q⟩
def opB0{f:Ca->Ca->Sem Ca}{g:Int->Int->Bool}(rule:∀(i j:Int)(t u:Tok)(s:Cc)(Q:Ca->Cc->Prop)(E:Ca->Cc->Prop),Q (.bool (g i j)) s->Cg (Cj X.prog X.w) X.A (f (.int i t) (.int j u)) Q E s) :
  OpR X f (rI0 λi j=>.bl (g i j)):=by
 intro pq s σ H x y v u Q I rx ry h;let⟨i,j,rfl,rfl,q⟩:=h;let⟨t,rfl⟩:=rx;let⟨t',rfl⟩:=ry;exact rule i j t t' s _ _ ⟨.bl (g i j),H,I,rfl,q⟩
instance CDiv(i j:Int):Prop:=0<j/\j<1073741824
instance CPow(i j:Int):Prop:=0<=j/\j<=1000000/\i.natAbs<2 ^ 64
instance CMul(i j:Int):Prop:=(-(2 ^ 64)<i/\i<2 ^ 64)\/(-(2 ^ 64)<j/\j<2 ^ 64)
def CMul.ok{i j:Int}(h:CMul i j):IntMulOk i j:=by
 rcases h with⟨h1,h2⟩|⟨h1,h2⟩
 .exact .of_left (intBits_le_64 h1 h2)
 .exact .of_right (intBits_le_64 h1 h2)
def X6:OpR X (Hd .Add) (rI0 λi j=>.int (i+j)):=opI0 λ_ _ _ _ _ _ _ q=>add_int q
def Zdi:OpR X (Hd .Sub) (rI0 λi j=>.int (i-j)):=opI0 λ_ _ _ _ _ _ _ q=>sub_int q
def Ul:OpR X (Hd .Mult) (rI CMul λi j=>.int (i*j)):=opI λ_ _ _ _ _ _ _ hc q=>mul_int q hc.ok
def Zgu:OpR X (Hd .FloorDiv) (rI CDiv λi j=>.int (i / j)):=opI λi j _ _ _ _ _ hc q=>by
 let h1:(0:Int)<j:=hc.1;let h2:j<1073741824:=hc.2;exact floordiv_int () (by rw[Int.fdiv_eq_ediv_of_nonneg i ()];exact q) (.inl (PyProof.noPylong_small ()))
def Yr:OpR X (Hd .Mod) (rI (λ_ j=>0<j) λi j=>.int (i % j)):=opI λi j _ _ _ _ _ hc q=>by
 let h1:(0:Int)<j:=hc;exact mod_int' () (by rw[Int.fmod_eq_emod_of_nonneg i ()];exact q)
def Zgt:OpR X (Hd .Pow) (rI CPow λi j=>.int (i ^ j.toNat)):=opI λ_ _ _ _ _ _ _ hc q=>pow_int_small hc.1 hc.2.1 hc.2.2 q
def unI{f:Ca->Sem Ca}{g:Int->Int}(rule:∀(i:Int)(t:Tok)(s:Cc)(Q:Ca->Cc->Prop)(E:Ca->Cc->Prop),Q (.int (g i) s.toks) {s with toks:=s.toks+1}->Cg (Cj X.prog X.w) X.A (f (.int i t)) Q E s) :
  UnR X f (rU λi=>.int (g i)):=by
 intro pq s σ H x v Q I rx h;let⟨i,rfl,q⟩:=h;let⟨t,rfl⟩:=rx;exact rule i t s _ _ ⟨.int (g i),H,I.tok _,⟨_,rfl⟩,q⟩
def Ze4:UnR X (unaryOp .USub) (rU λi=>.int (-i)):=unI λ_ _ _ _ _ q=>neg_int q
end
instance scal:V->V->Bool
 |.non,.non=>true|.non,.int _=>true|.int _,.non=>true|.non,.bl _=>true|.bl _,.non=>true|.non,.str _=>true|.str _,.non=>true
 |.int _,.int _=>true|.bl _,.bl _=>true|.str _,.str _=>true|.byt _,.byt _=>true
 |.int _,.str _=>true|.str _,.int _=>true|.bl _,.str _=>true|.str _,.bl _=>true
 |_,_=>false
instance rEq:R2:=λx y H Q=>scal x y=true/\Q (.bl (decide (x=y))) H
instance rNe:R2:=λx y H Q=>scal x y=true/\Q (.bl (!decide (x=y))) H
def Zhp{i j:Int}:decide (V.int i=V.int j)=(i==j):=by
 rw[Bv];simp
def Zlh{i j:Bool}:decide (V.bl i=V.bl j)=(i==j):=by
 rw[Bv];simp
def Zho{i j:Str}:decide (V.str i=V.str j)=(i==j):=by
 rw[Bv];simp
def Zhq{i j:Array UInt8}:decide (V.byt i=V.byt j)=(i.toList==j.toList):=by
 rw[Bv];cases i;cases j;simp
section
variable{a b c:Expr} 
def Yk{k k':Bool}(I:Inv X pq σ H s)(q:Q (.bl k) H)(e:k=k'):EP X pq σ Q (.bool k') s:=by
 subst e;exists .bl k,H,I,rfl,q
def Zjy:OpR X (E8 .Eq) rEq:=by
 intro pq s σ H x y v u Q I rx ry h;let⟨hs,q⟩:=h;cases x with
 |non =>
  cases rx;cases y with
  |non=>cases ry;exact Jft (Yk I q (by simp))
  |bl j=>cases ry;exact Jfu (Yk I q (by simp))
  |int j=>obtain⟨t',rfl⟩:=ry;exact Jf5 (Yk I q (by simp))
  |str j=>obtain⟨t',rfl⟩:=ry;exact Jf6 (Yk I q (by simp))
  |_=>exact Fh (show false=true from hs) Jv
 |bl i =>
  cases rx;cases y with
  |non=>cases ry;exact Jfv (Yk I q (by simp))
  |bl j=>cases ry;exact eq_bool (Yk I q Zlh)
  |str j=>obtain⟨t',rfl⟩:=ry;exact Jfw (Yk I q (by simp))
  |_=>exact Fh (show false=true from hs) Jv
 |int i =>
  let⟨t,rfl⟩:=rx;cases y with
  |non=>cases ry;exact Jf7 (Yk I q (by simp))
  |int j=>obtain⟨t',rfl⟩:=ry;exact eq_int (Yk I q Zhp)
  |str j=>obtain⟨t',rfl⟩:=ry;exact Jf8 (Yk I q (by simp))
  |_=>exact Fh (show false=true from hs) Jv
 |str i =>
  let⟨t,rfl⟩:=rx;cases y with
  |non=>cases ry;exact Jf9 (Yk I q (by simp))
  |bl j=>cases ry;exact Jfx (Yk I q (by simp))
  |int j=>obtain⟨t',rfl⟩:=ry;exact Jga (Yk I q (by simp))
  |str j=>obtain⟨t',rfl⟩:=ry;exact eq_str (Yk I q Zho)
  |_=>exact Fh (show false=true from hs) Jv
 |byt i =>
  let⟨t,rfl⟩:=rx;cases y with
  |byt j=>obtain⟨t',rfl⟩:=ry;exact W.eq_bytes (Yk I q Zhq)
  |_=>exact Fh (show false=true from hs) Jv
 |_=>cases y<;>exact Fh (show false=true from hs) Jv
def Zuc:OpR X (E8 .NotEq) rNe:=by
 intro pq s σ H x y v u Q I rx ry h;let⟨hs,q⟩:=h;cases x with
 |non =>
  cases rx;cases y with
  |non=>cases ry;exact Jfy (Yk I q (by simp))
  |bl j=>cases ry;exact Jfz (Yk I q (by simp))
  |int j=>obtain⟨t',rfl⟩:=ry;exact Jgb (Yk I q (by simp))
  |str j=>obtain⟨t',rfl⟩:=ry;exact Jgc (Yk I q (by simp))
  |_=>exact Fh (show false=true from hs) Jv
 |bl i =>
  cases rx;cases y with
  |non=>cases ry;exact Jf0 (Yk I q (by simp))
  |bl j=>cases ry;exact ne_bool (Yk I q (congrArg not Zlh))
  |str j=>obtain⟨t',rfl⟩:=ry;exact Jf1 (Yk I q (by simp))
  |_=>exact Fh (show false=true from hs) Jv
 |int i =>
  let⟨t,rfl⟩:=rx;cases y with
  |non=>cases ry;exact Jgd (Yk I q (by simp))
  |int j=>obtain⟨t',rfl⟩:=ry;exact ne_int (Yk I q (congrArg not Zhp))
  |str j=>obtain⟨t',rfl⟩:=ry;exact Jge (Yk I q (by simp))
  |_=>exact Fh (show false=true from hs) Jv
 |str i =>
  let⟨t,rfl⟩:=rx;cases y with
  |non=>cases ry;exact Jgf (Yk I q (by simp))
  |bl j=>cases ry;exact Jf2 (Yk I q (by simp))
  |int j=>obtain⟨t',rfl⟩:=ry;exact Jgg (Yk I q (by simp))
  |str j=>obtain⟨t',rfl⟩:=ry;exact ne_str (Yk I q (congrArg not Zho))
  |_=>exact Fh (show false=true from hs) Jv
 |byt i =>
  let⟨t,rfl⟩:=rx;cases y with
  |byt j=>obtain⟨t',rfl⟩:=ry;exact W.ne_bytes (Yk I q (congrArg not Zhq))
  |_=>exact Fh (show false=true from hs) Jv
 |_=>cases y<;>exact Fh (show false=true from hs) Jv
def Zab:OpR X (E8 .Lt) (rI0 λi j=>.bl (decide (i<j))):=opB0 λ_ _ _ _ _ _ _ q=>lt_int q
def Zac:OpR X (E8 .Gt) (rI0 λi j=>.bl (decide (j<i))):=opB0 λ_ _ _ _ _ _ _ q=>gt_int q
def Zud:OpR X (E8 .GtE) (rI0 λi j=>.bl (decide (j<=i))):=opB0 λ_ _ _ _ _ _ _ q=>ge_int q
def nomark(b:Expr){op:Jhg}(h:op≠.In:=by decide)(h2:op≠.NotIn:=by decide):Kd op b=false:=by
 let e1:(op==Jhg.In)=false:=by cases op<;>first|rfl|exact Fh rfl h
 let e2:(op==Jhh)=false:=by cases op<;>first|rfl|exact Fh rfl h2
 cases b<;>simp[Kd,e1,e2]
def Ws{op:Jhg}(ho:OpR X (E8 op) r)(ha:PE X a ta)(hb:PE X b tb)(hm:Kd op b=false):PE X (.Compare a [op] [b] pos) (tOp r ta tb):=by
 intro pq s σ H Q I h;exact wpAny_Compare1 (binT ha hb I h λv u s2 x y H2 I2 rx ry q=>ho pq s2 σ H2 x y v u Q I2 rx ry q) hm
instance Zqc(t:TE):TT:=λσ H Q=>t σ H λx H'=>∃k,x=.bl k/\Q k H'
def Zw{op:Jhg}(ho:OpR X (E8 op) r)(ha:PE X a ta)(hb:PE X b tb)(hm:Kd op b=false):PT X (.Compare a [op] [b] pos) (Zqc (tOp r ta tb)):=by
 intro pq s σ H Q I h;refine Jcz (thn (ha pq s σ H _ I h) λv s1⟨x,H1,I1,r1,q1⟩=>thn (hb pq s1 σ H1 _ I1 q1) λu s2 ⟨y,H2,I2,r2,q2⟩ =>
  thn (ho pq s2 σ H2 x y v u _ I2 r1 r2 q2) λc s3⟨z,H3,I3,r3,k,e,q3⟩=>?_) hm
 subst e;cases r3;exact Hf ⟨H3,I3,q3⟩
def Q3:(Cb:Nat)<2 ^ 63:=by rw[Em];decide
def Zee:OpR X (Hd .Add) (λx y H Q=>∃i j,x=.str i/\y=.str j/\i.length+j.length<=Cb/\Q (.str (i++j)) H):=by
 intro pq s σ H x y v u Q I rx ry h;let⟨i,j,rfl,rfl,hz,q⟩:=h;let⟨t,rfl⟩:=rx;let⟨t',rfl⟩:=ry;exact add_str (λt' tk=>⟨.str (i++j),H,I.tok _,⟨_,rfl⟩,q⟩) hz
def Sr{x:V}(r:Vals [x] us):∃u,us=[u]/\RelV x u:=by
 cases r with
 |cons r1 r2=>cases r2;exists ·,r1
def Zil{x y:V}(r:Vals [x,y] us):∃u w',us=[u,w']/\RelV x u/\RelV y w':=by
 cases r with
 |cons r1 r2 =>
  cases r2 with
  |cons r3 r4=>cases r4;exists _,·,r1,r3
def Zkh:Wv X (.builtin "abs") (λxs H Q=>∃i,xs=[.int i]/\Q (.int (if i<0 then -i else i)) H):=by
 intro pq s σ H xs us Q I r h;let⟨i,rfl,q⟩:=h;let⟨u,rfl,t,rfl⟩:=Sr r;exact call_abs_int λu tk=>⟨.int (if i<0 then -i else i),H,I.tok _,⟨_,rfl⟩,q⟩
def Rz(hc:X.calm=true):Wv X (.builtin "max") (λxs H Q=>∃i j,xs=[.int i,.int j]/\Q (.int (if j > i then j else i)) H):=by
 intro pq s σ H xs us Q I r h;let⟨i,j,rfl,q⟩:=h;let⟨u,w',rfl,⟨t,rfl⟩,⟨t',rfl⟩⟩:=Zil r;refine max_two_ints (I.ok.hd hc) λh' tk k=>⟨_,H,I.kept k,?_,q⟩
 by_cases hj:j > i
 .rw[Fp hj,Fp hj];exists ·
 .rw[Fo hj,Fo hj];exists ·
def Zh2(hc:X.calm=true):Wv X (.builtin "min") (λxs H Q=>∃i j,xs=[.int i,.int j]/\Q (.int (if j<i then j else i)) H):=by
 intro pq s σ H xs us Q I r h;let⟨i,j,rfl,q⟩:=h;let⟨u,w',rfl,⟨t,rfl⟩,⟨t',rfl⟩⟩:=Zil r;refine min_two_ints (I.ok.hd hc) λh' tk k=>⟨_,H,I.kept k,?_,q⟩
 by_cases hj:j<i
 .rw[Fp hj,Fp hj];exists ·
 .rw[Fo hj,Fo hj];exists ·
def R7:Wv X (.type "int") (λxs H Q=>(∃i,xs=[.int i]/\Q (.int i) H)\/∃k,xs=[.bl k]/\Q (.int (if k then 1 else 0)) H):=by
 intro pq s σ H xs us Q I r h;rcases h with⟨i,rfl,q⟩|⟨k,rfl,q⟩
 .let⟨u,rfl,t,rfl⟩:=Sr r;exact call_int_int ⟨.int i,H,I,⟨_,rfl⟩,q⟩
 .let⟨u,rfl,r1⟩:=Sr r;cases r1;exact call_int_bool ⟨.int (if k then 1 else 0),H,I.tok _,⟨_,rfl⟩,q⟩
instance LenV(K:Cs)(x:V)(H:Hp)(n:Nat):Prop :=
 match x with
 |.str y=>y.length<=Cb/\n=y.length
 |.byt y=>y.size<=Cb/\n=y.size
 |.ref p=>(∃xs,SqL K H p xs/\n=xs.length)\/∃xs,SqT K H p xs/\n=xs.length
 |_=>False
def X7:Wv X (.builtin "len") (λxs H Q=>∃x n,xs=[x]/\LenV X.K x H n/\Q (.int n) H):=by
 intro pq s σ H xs us Q I r h;let⟨x,n,rfl,e,q⟩:=h;let⟨u,rfl,rx⟩:=Sr r;let hl:=Q3;let hs:Cb=16777216:=Em;cases x with
 |str y =>
  let⟨t,rfl⟩:=rx;obtain⟨hy,e'⟩:y.length<=Cb/\n=y.length:=e;subst e';exact len_str () ⟨.int _,H,I.tok _,⟨_,rfl⟩,q⟩
 |byt y =>
  let⟨t,rfl⟩:=rx;obtain⟨hy,e'⟩:y.size<=Cb/\n=y.size:=e;subst e';exact W.len_bytes () ⟨.int _,H,I.tok _,⟨_,rfl⟩,q⟩
 |ref p =>
  cases rx;let e':(∃xs,SqL X.K H p xs/\n=xs.length)\/∃xs,SqT X.K H p xs/\n=xs.length:=e;rcases e' with⟨xs,hx,e'⟩|⟨xs,hx,e'⟩
  .subst e';let⟨its,r',pl,hz⟩:=I.list hx;let hlen:=r'.length;exact Calls.call_len_list pl.isList (by simp only[Jq];lia) ⟨.int xs.length,H,I.tok _,⟨_,by simp only[Jq];rw[hlen]⟩,q⟩
  .subst e';let⟨its,r',pl,hz⟩:=I.tuple hx;let hlen:=r'.length;exact len_tuple pl (by simp only[Jq];lia) ⟨.int xs.length,H,I.tok _,⟨_,by simp only[Jq];rw[hlen]⟩,q⟩
 |_=>exact(show False from e).elim
end
structure ObjM(h:Heap)(x dx C:Addr)(mA:Str->Option Ca):Prop where
 obj:h.get? x=some (Lm C dx)
 ns:h.Ns1 dx mA
 ne:dx≠x
def Zaf(n:h.Ns1 dx mA):∃od,h.get? dx=some od/\∀name,Jgu name od=some (mA name):=by
 let⟨o,es,ep,ho,hd,hk,_,hm⟩:=n;exists o,ho,λname=>?_;let e:=hm name;unfold nsFind findBy at e;rw[<-L7]at e;unfold Jgu;rw[hd];dsimp only
 split
 .skip;rename_i y q
  rw[q]at e;exact congrArg some e
 .rename_i q
  rw[q]at e;let a:es.toList.any (·.refKey)=false:=by
   rw[List.any_eq_false];intro y hy;let⟨z,t,hkey⟩:=hk y (Array.mem_toList_iff.mp hy);simp[DictEntry.refKey,hkey]
  let a':¬ es.toList.any (·.refKey)=true:=by rw[a];exact Jv
  rw[Fo a'];exact congrArg some e
def ObjM.look{x:Addr}(I:ObjM h x dx C mA):∃od,W.InstAt h x (Lm C dx) C (some od)/\∀name,Jgu name od=some (mA name) :=
 let⟨od,ho,hl⟩:=Zaf I.ns
 ⟨od,⟨I.obj,rfl,rfl,ho⟩,hl⟩
section
variable{x f:Addr}{v:Ca}
def Zn9{expr:Bool}{Q:Ca->Cc->Prop}(X:K.In s.heap)(I:ObjM s.heap x dx C mA)(hg:Jd9 K C name=true)(hh:Jfd K C=true)(ha:Cu K (.ref C) name=some none)(hv:mA name=some v)(hv':W.handedIn v=true)(h:Q v {s with toks:=s.toks+1}) :
  Cg (Cj prog w) A (Jgv (.ref x) name expr) Q E s:=by
 let⟨od,J,hl⟩:=I.look;exact W.get_value X J (Jdp hg).1 (W.findObj_own hh ha rfl (by rw[hl,hv])) hv' h
def Zj9{pl:Sem Bool}{Q:Ca×List Ca->Cc->Prop}(X:K.In s.heap)(I:ObjM s.heap x dx C mA)(hg:Jd9 K C name=true)(hf:Cu K (.ref C) name=some (some (.ref f)))(ht:W.isFn K (.ref f)=true)(hv:mA name=none)(h:Q (.ref f,[.ref x]) s) :
  Cg (Cj prog w) A (Jdq (.ref x) name pl) Q E s:=by
 let⟨od,J,hl⟩:=I.look;exact W.method_fn X J (Jdp hg).1 (Jdp hg).2 hf (beq_iff_eq.mp ht) (by show(Jgu name od).map (·.isSome)=some false;rw[hl,hv];rfl) h
def Zmj{ns:List Str}{Q:Unit->Cc->Prop}(X:K.In s.heap)(I:ObjM s.heap x dx C mA)(hs:Cu K (.ref C) "__setattr__"=some (some (.builtin "object.__setattr__")))(hp:W.plainOver K C=true)(ht:Jg5 K C name=some none)(hh:Jfd K C=true)(hw:Hv mA ns)(hsz:ns.length<=Cb)(h:∀h',ObjM h' x dx C (λy=>if y=name then some v else mA y)->Hw dx s.heap h'->Q ⟨⟩ {s with heap:=h',toks:=s.toks+2}) :
  Cg (Cj prog w) A (Jhl (.ref x) name v) Q E s:=by
 let⟨od,J,hl⟩:=I.look;refine Jfe X J hs (W.osa_open (s:={s with toks:=s.toks+1}) (r:=none) X J hp ht λb=>?_);let⟨cd,hc,hd'⟩:=W.any_some hh;let hx:s.heap.get? x=some ⟨.ref C,some dx,.plain,#[]⟩:=I.obj;refine Fj (Fk (Fj (Fj (wpAny_loadPart hx (Fj (W.Looks.here (s:={s with toks:=s.toks+1}) (W.looks_clsIn X hc) ?_))))));rw[hd'];refine Fk (a:=some dx) (Fj (Fk (Fj ?_)));refine Jep (s:={s with toks:=s.toks+1}) I.ns λh' hn2 hs2=>?_;let⟨oD,esD,epD,hoD,hdD,hcD⟩:=hn2.count (Ml name v hw);refine Fj (Jb6 hoD (by rw[hdD];exact Jb7 (Ga hcD (by rw[Ju];lia))) ?_)
 exact Fk (h _ ⟨(hs2.2 _ (Cv I.ne)).trans I.obj,hn2,I.ne⟩ hs2)
def Zj2{R:Jdr->Cc->Prop}{vs:List Ca}(X:K.In s.heap)(hm:W.makesIn K C=true)(hi:Cu K (.ref C) "__init__"=some (some (.ref f)))(hf:W.typeIn K (.ref f)=some (.type "function"))(h:Hn (Cj prog w) (A.under (.builtin "type.__call__" ⟨.ref C::vs,kw⟩)) (.call (.ref f) ⟨.ref (s.heap.objs.size+1)::vs,kw⟩) (W.InitBack (s.heap.objs.size+1) R)
   {s with heap:=(s.heap.push W.emptyDict).push (Lm C s.heap.objs.size)}) :
  Hn (Cj prog w) A (.call (.ref C) ⟨vs,kw⟩) R s:=by
 let⟨hh,g,d,t,os⟩:=s;exact W.make_core (W.makes_of X hm) (W.looks_findIn X hi) (λself=>W.bind_fn X self hf) (.inl rfl) h
end
instance putF(f:Str)(v:V):List (Str×V)->List (Str×V)
 |[]=>[(f,v)]
 |(g,x)::r=>if g=f then(g,v)::r else(g,x)::putF f v r
def Uw(f g:Str)(v:V):∀fs:List (Str×V),(putF f v fs).lookup g=if g=f then some v else fs.lookup g
 |[]=>by
  show K5 g [(f,v)]=_
  by_cases h:g=f
  .let hb:(g==f)=true:=beq_iff_eq.mpr h;simp only[K5,hb,Fp h]
  .let hb:(g==f)=false:=beq_eq_false_iff_ne.mpr h;simp only[K5,hb,Fo h]
 |(k,x)::r=>by
  let ih:=Uw f g v r;rw[show putF f v ((k,x)::r)=(if k=f then(k,v)::r else(k,x)::putF f v r)from rfl]
  by_cases hk:k=f
  .rw[Fp hk]
   by_cases h:g=k
   .let hb:(g==k)=true:=beq_iff_eq.mpr h;simp only[K5,hb,Fp (h.trans hk)]
   .let hb:(g==k)=false:=beq_eq_false_iff_ne.mpr h;simp only[K5,hb,Fo (λe:g=f=>h (e.trans hk.symm))]
  .rw[Fo hk]
   by_cases h:g=k
   .let hb:(g==k)=true:=beq_iff_eq.mpr h;simp only[K5,hb,Fo (λe:g=f=>hk (h.symm.trans e))]
   .let hb:(g==k)=false:=beq_eq_false_iff_ne.mpr h;simp only[K5,hb];exact ih
def Vq(f:Str)(v:V):∀fs:List (Str×V),f∈(putF f v fs).map (·.1)/\∀g,g∈fs.map (·.1)->g∈(putF f v fs).map (·.1)
 |[]=>⟨by simp[putF],λg h=>by simp at h⟩
 |(k,x)::r=>by
  let⟨i1,i2⟩:=Vq f v r;rw[show putF f v ((k,x)::r)=(if k=f then(k,v)::r else(k,x)::putF f v r)from rfl]
  by_cases hk:k=f
  .rw[Fp hk];subst hk;exact⟨by simp,λg h=>by simpa using h⟩
  .rw[Fo hk];exists ?_,λg h=>?_
   .rw[Jk];exact Jm _ i1
   .rw[Jk]at h⊢;rcases Jp.mp h with e|e
    .exact Jp.mpr (.inl e)
    .exact Jm _ (i2 g e)
def S9(f:Str)(v:V):∀fs:List (Str×V),(putF f v fs).length<=fs.length+1
 |[]=>by simp[putF]
 |(k,x)::r=>by
  let ih:=S9 f v r;rw[show putF f v ((k,x)::r)=(if k=f then(k,v)::r else(k,x)::putF f v r)from rfl]
  by_cases hk:k=f
  .rw[Fp hk,Ju,Ju];lia
  .rw[Fo hk,Ju,Ju];lia
def RelO.some_of{o:Option Ca}(r:RelO (some v) o):∃u,o=some u/\RelV v u:=by
 cases o with
 |none=>exact(show False from r).elim
 |some u=>exact⟨u,rfl,r⟩
def RelO.none_of{o:Option Ca}(r:RelO none o):o=none:=by
 cases o with
 |none=>rfl
 |some u=>exact(show False from r).elim
def Rp{u:Ca}(r:RelV v u):W.handedIn u=true:=by
 cases v with
 |non=>cases(show u=Ca.none from r);rfl
 |bl b=>cases(show u=Kp b from r);rfl
 |int i=>obtain⟨t,e⟩:=(show ∃t,u=Er i t from r);cases e;rfl
 |str x=>obtain⟨t,e⟩:=(show ∃t,u=Jcy x t from r);cases e;rfl
 |byt b=>obtain⟨t,e⟩:=(show ∃t,u=Jhf b t from r);cases e;rfl
 |flt b=>obtain⟨t,e⟩:=(show ∃t,u=Jfa b t from r);cases e;rfl
 |ref a=>cases(show u=Cd a from r);rfl
 |ty n=>cases(show u=Jh1 n from r);rfl
section
variable{a:Addr}{fs:List (Str×V)}
def P1(hok:HOk P w H h)(e:H a=some (.ins C dx fs)):∃mA,ObjM h a dx C mA/\(∀f,RelO (fs.lookup f) (mA f))/\Hv mA (fs.map (·.1))/\fs.length<=1000/\H dx=some (.own a):=by
 let⟨d,z,ne,ob,mA,n,r,q⟩:=(show Yv P w H h a (.ins C dx fs)from hok a _ e);exists mA,⟨ob,n,ne⟩,r,q,z,d
end
structure Cls(K:Cs)(C:Addr):Prop where
 pg:Jd9 K C Mm=true
 hd:Jfd K C=true
 po:W.plainOver K C=true
 sa:Cu K (.ref C) "__setattr__"=some (some (.builtin "object.__setattr__"))
def Cls.get(c:Cls K C)(f:Str):Jd9 K C f=true:=c.pg
instance Yu(K:Cs)(C:Addr)(f:Str):Prop:=Cu K (.ref C) f=some none
def Yu.taker{f:Str}(n:Yu K C f):Jg5 K C f=some none:=by
 unfold Jg5;rw[show Cu K (.ref C) f=some none from n];rfl
structure Meth(K:Cs)(C:Addr)(m:Str)(f:Addr):Prop where
 at_:Cu K (.ref C) m=some (some (.ref f))
 fn:W.isFn K (.ref f)=true
 kp:Ja2 K (.ref f)=true
section
variable{a:Addr}{fs:List (Str×V)}{f:Str} 
def Zen{b:Bool}{Q:Ca->Cc->Prop}(I:Inv X pq σ H s)(e:H a=some (.ins C dx fs))(c:Cls X.K C)(n:Yu X.K C f)(l:fs.lookup f=some v)(h:∀u s',Inv X pq σ H s'->RelV v u->Q u s'):Cg (Cj X.prog X.w) A (Jgv (.ref a) f b) Q E s:=by
 let⟨mA,O,r,_,_,_⟩:=P1 I.hok e;let⟨u,hu,ru⟩:=RelO.some_of (v:=v) (o:=mA f) (by rw[<-l];exact r f);exact Zn9 I.kIn O (c.get f) c.hd n hu (Rp ru) (h u _ (I.tok _) ru)
def Q5{m:Str}{g:Addr}{pl:Sem Bool}{Q:Ca×List Ca->Cc->Prop}(I:Inv X pq σ H s)(e:H a=some (.ins C dx fs))(c:Cls X.K C)(k:Meth X.K C m g)(l:fs.lookup m=none)(h:Q (.ref g,[.ref a]) s):Cg (Cj X.prog X.w) A (Jdq (.ref a) m pl) Q E s:=by
 let⟨mA,O,r,_,_,_⟩:=P1 I.hok e;let hn:mA m=none:=RelO.none_of (by rw[<-l];exact r m);exact Zj9 I.kIn O (c.get m) k.at_ k.fn hn h
def Zeb{y:V}{u:Ca}{Q:Unit->Cc->Prop}(I:Inv X pq σ H s)(e:H a=some (.ins C dx fs))(c:Cls X.K C)(n:Yu X.K C f)(hl:fs.length<1000)(ry:RelV y u)(h:∀s',Inv X pq σ (upd H a (.ins C dx (putF f y fs))) s'->Q ⟨⟩ s'):Cg (Cj X.prog X.w) A (Jhl (.ref a) f u) Q E s:=by
 let⟨mA,O,r,wi,_,ho⟩:=P1 I.hok e;let hz:(fs.map (·.1)).length<=Cb:=by rw[Ja,Em];lia
 refine Zmj I.kIn O c.sa c.po n.taker c.hd wi hz λh' O' sb=>h _ ?_;let hd:∃o,h'.get? dx=some o:=let⟨o,_,_,e',_⟩:=O'.ns;⟨o,e'⟩
 refine I.write (x:=a) (e:=dx) (by rw[e];exact Ek) (.inr ho) (λb q hb z=>(sb.2 b hb).trans z) hd ?_;exists by rw[Zk O.ne];exact ho,?_,O.ne,O'.obj,_,O'.ns,λg=>?_,λg hg=>?_
 .let:=S9 f y fs;lia
 .show RelO ((putF f y fs).lookup g) (if g=f then some u else mA g);rw[Uw]
  by_cases q:g=f
  .rw[Fp q,Fp q];exact ry
  .rw[Fo q,Fo q];exact r g
 .by_cases q:g=f
  .rw[q];exact(Vq f y fs).1
  .refine(Vq f y fs).2 g (wi g λz=>hg ?_);show(if g=f then some u else mA g)=none;rw[Fo q];exact z
def Inv.made(I:Inv X pq σ H s):Inv X pq σ (upd (upd H s.heap.objs.size (.own (s.heap.objs.size+1))) (s.heap.objs.size+1) (.ins C s.heap.objs.size []))
  {s with heap:=(s.heap.push W.emptyDict).push (Lm C s.heap.objs.size)}:=by
 let e1:(s.heap.push W.emptyDict).get? s.heap.objs.size=some W.emptyDict:=Fm s.heap rfl;let e2:((s.heap.push W.emptyDict).push (Lm C s.heap.objs.size)).get? (s.heap.objs.size+1)=some (Lm C s.heap.objs.size):=by
  let:=Fm (s.heap.push W.emptyDict) (o:=Lm C s.heap.objs.size) rfl;rwa [Ep]at this
 let e3:(s.heap.push W.emptyDict).Ns s.heap.objs.size (λ_=>none):=⟨W.emptyDict,#[],_,e1,rfl,(λe he=>Fh he (by simp)),λ_=>rfl⟩;let I1:=I.laid (a:=s.heap.objs.size) (o:=.own (s.heap.objs.size+1)) (h':=s.heap.push W.emptyDict) (t':=s.toks) (λb u q=>Fl _ q) (Jd _) ⟨_,e1⟩;refine I1.laid (a:=s.heap.objs.size+1) (o:=.ins C s.heap.objs.size []) (t':=s.toks) (λb u q=>Fl _ q) (Bq (Ep _ _)) ?_;let ne:s.heap.objs.size≠s.heap.objs.size+1:=Gg (Bc _);exists by rw[Zk ne,Zi],J8 _,ne,e2,λ_=>none,(Heap.Ns1.of_empty e3).at λo q=>Fl _ q,λ_=>Ek,λy hy=>Fh rfl hy
def Zch{env:Env}{e:Expr}{f:Str}{Q:Ca->Cc->Prop}(hb:E9 e f env (eval e env)=eval e env)(h:Cg (Cj prog w) A (eval e env) (λo s₁=>Cg (Cj prog w) A (Jgv o f true) Q E s₁) E s):Cg (Cj prog w) A (eval (.Attribute e f pos) env) Q E s :=
 Attribute_any_ h (by rw[arm_eval_Attribute,hb])
end
instance tFld(K:Cs)(ta:TE)(f:Str):TE:=λσ H Q=>ta σ H λx H1=>∃a C dx fs v,x=.ref a/\H1 a=some (.ins C dx fs)/\Cls K C/\Yu K C f/\fs.lookup f=some v/\Q v H1
instance sFld(K:Cs)(ta tv:TE)(f:Str):TS:=λD σ H=>tv σ H λy H1=>ta σ H1 λx H2=>∃a C dx fs,x=.ref a/\H2 a=some (.ins C dx fs)/\Cls K C/\Yu K C f/\fs.length<1000 /\
 D.nx σ (upd H2 a (.ins C dx (putF f y fs)))
section
variable{o e:Expr}{f:Str}{tv:TE}
def Wc(he:PE X e ta)(hb:E9 e f X.env (eval e X.env)=eval e X.env):PE X (.Attribute e f pos) (tFld X.K ta f):=by
 intro pq s σ H Q I h;refine Zch hb (thn (he pq s σ H _ I h) λu s1 hz=>?_);let⟨x,H1,I1,rx,a,C,dx,fs,v,ex,ea,c,n,l,q⟩:=hz;subst ex;obtain rfl:u=Cd a:=rx;exact Zen I1 ea c n l λu' s2 I2 ru=>⟨v,H1,I2,ru,q⟩
def S2(ha:PE X o ta)(hv:PE X value tv)(hs:Ln value (some (.Attribute o f pos')) pos.line X.env=pure false):PS X (.Assign [.Attribute o f pos'] value pos) (sFld X.K ta tv f):=by
 intro pq s σ H D I h;refine K6 (thn (hv pq s σ H _ I h) λu s1⟨y,H1,I1,ry,q⟩=>thn (ha pq s1 σ H1 _ I1 q) λov s2 hz=>?_) hs;let⟨x,H2,I2,rx,a,C,dx,fs,ex,ea,c,n,l,q2⟩:=hz;subst ex;obtain rfl:ov=Cd a:=rx;exact Zeb I2 ea c n l ry λs3 I3=>⟨σ,_,I3,q2⟩
end
section
variable{Q:Ca->Cc->Prop}{c:Ca}{b:Bool}
inductive TyOf(K:Cs)(H:Hp):V->Ca->Prop where
 |non:TyOf K H .non (.type "NoneType")
 |bl (x:Bool):TyOf K H (.bl x) (.type "bool")
 |int (i:Int):TyOf K H (.int i) (.type "int")
 |str (x:Str):TyOf K H (.str x) (.type "str")
 |flt (x:UInt64):TyOf K H (.flt x) (.type "float")
 |lst {a:Addr} {xs:List V} (e:H a=some (.lst xs)):TyOf K H (.ref a) (.type "list")
 |frz {a:Addr} {o:Obj} {xs:List V} (e:H a=some (.frz o (.lst xs))):TyOf K H (.ref a) (.type "list")
 |tup {a:Addr} {xs:List V} (e:H a=some (.tup xs)):TyOf K H (.ref a) (.type "tuple")
 |dK {a:Addr} {kvs:List (Key×V)} (e:H a=some (.dK kvs)):TyOf K H (.ref a) (.type "dict")
 |dT {a:Addr} {kvs:List (List Key×V)} (e:H a=some (.dT kvs)):TyOf K H (.ref a) (.type "dict")
 |ins {a C dx:Addr} {fs:List (Str×V)} (e:H a=some (.ins C dx fs)) (cl:Cls K C) (ha:Cu K (.ref C) "__class__"=some (some (.builtin "object.__class__")))
   (hn:W.specialIn K (.builtin "object.__class__") "__get__"=some (some (.builtin "getset_descriptor.__get__"))) (htk:W.takesIn K (.builtin "object.__class__")=some true)
   (hm:Eo K C (.type "object")=some true):TyOf K H (.ref a) (.ref C)
def Zg7{x:V}{u t:Ca}(I:Inv X pq σ H s)(rx:RelV x u)(ty:TyOf X.K H x t)(e:Eg X.K t c=some b)(h:∀tk,Q (.bool b) {s with toks:=tk}) :
  Cg (Cj X.prog X.w) A (call (.builtin "isinstance") [u,c]) Q E s:=by
 cases ty with
 |non=>cases(show u=Ca.none from rx);exact Kh W.kitx_none I.kIn Ek e (λz=>nomatch z) h
 |bl y=>cases(show u=Kp y from rx);exact Kh W.kitx_bool I.kIn Ek e (λz=>nomatch z) h
 |int i=>obtain⟨t,q⟩:=(show ∃t,u=Er i t from rx);cases q;exact Kh W.kitx_int I.kIn Ek e (λz=>nomatch z) h
 |str y=>obtain⟨t,q⟩:=(show ∃t,u=Jcy y t from rx);cases q;exact Kh W.kitx_str I.kIn Ek e (λz=>nomatch z) h
 |flt y=>obtain⟨t,q⟩:=(show ∃t,u=Jfa y t from rx);cases q;exact Kh W.kitx_float I.kIn Ek e (λz=>nomatch z) h
 | @lst a xs ea =>
  cases(show u=Cd a from rx);let⟨_,_,n,_,h1⟩:=(show Yv X.prog X.w H s.heap a (.lst xs)from I.hok a _ ea);exact Kh W.kitx_list I.kIn ⟨_,h1,rfl⟩ e (λz=>nomatch z) h
 | @frz a ob xs ea =>
  cases(show u=Cd a from rx);let⟨_,_,_,n,_,h1⟩:=(show Yv X.prog X.w H s.heap a (.frz ob (.lst xs))from I.hok a _ ea);exact Kh W.kitx_list I.kIn ⟨_,h1,rfl⟩ e (λz=>nomatch z) h
 | @tup a xs ea =>
  cases(show u=Cd a from rx);let⟨_,_,_,p⟩:=(show Yv X.prog X.w H s.heap a (.tup xs)from I.hok a _ ea);let⟨o,h1,h2,_⟩:=p;exact Kh W.kitx_tuple I.kIn ⟨o,h1,h2⟩ e (λz=>nomatch z) h
 | @dK a kvs ea =>
  cases(show u=Cd a from rx);let⟨_,_,vs,_,p⟩:=(show Yv X.prog X.w H s.heap a (.dK kvs)from I.hok a _ ea);let⟨o,es,ep,h1,h2,_⟩:=p;exact Kh W.kitx_dict I.kIn ⟨o,h1,h2.1⟩ e (λz=>nomatch z) h
 | @dT a kvs ea =>
  cases(show u=Cd a from rx);let⟨_,_,xs,_,o,es,ep,h1,h2,_⟩:=(show Yv X.prog X.w H s.heap a (.dT kvs)from I.hok a _ ea);exact Kh W.kitx_dict I.kIn ⟨o,h1,h2.1⟩ e (λz=>nomatch z) h
 | @ins a C dx fs ea cl ha hn htk hm =>
  cases(show u=Cd a from rx);let⟨mA,O,_⟩:=P1 I.hok ea;let⟨od,J,_⟩:=O.look;exact Kh (W.kitx_own (cl.get _) cl.hd ha hn htk hm) I.kIn J e (λz=>nomatch z) h
end
structure Room(k:Nat)(A:Ht):Prop where
 hd:A.handled=none
 dp:A.depth+3*k+5<recursionLimit
 un:A.units+16*k+200<Md
def Room.mono{k:Nat}(r:Room k A)(h:j<=k):Room j A:=⟨r.hd,by have:=r.dp;lia,by have:=r.un;lia⟩
def Room.deeper{k:Nat}(r:Room (k+1) A)(env:Env):Room k (A.deeper env) :=
 ⟨r.hd,by have:=r.dp;show A.depth+1+3*k+5<_;lia,by have:=r.un;show A.units+3+16*k+200<_;lia⟩
def Room.in1{k:Nat}(r:Room (k+1) A):Room k A.in1 :=
 ⟨r.hd,by have:=r.dp;show A.depth+3*k+5<_;lia,by have:=r.un;show A.units+1+16*k+200<_;lia⟩
def Q0 :(A.under (.builtin "type.__call__" ⟨.ref C::us,kw⟩)).depth=A.depth+1:=by
 first|rfl|simp[Jeq,Code.weight,Code.isCreation,Code.isGuard,Code.isCaller,Jhm,Jer,guardIds]
def Qz :(A.under (.builtin "type.__call__" ⟨.ref C::us,kw⟩)).units=A.units+1:=by
 first|rfl|simp[Jeq,Code.cUnits,Jhm,Jer]
def Room.make{k:Nat}(r:Room (k+1) A)(C:Addr)(us:List Ca)(kw:List (Str×Ca)):Room k (A.under (.builtin "type.__call__" ⟨.ref C::us,kw⟩)) :=
 ⟨r.hd,by have:=r.dp;rw[Q0];lia,by have:=r.un;rw[Qz];lia⟩
def Room.depth{k:Nat}(r:Room k A):A.depth<recursionLimit:=by have:=r.dp;lia
def Room.units{k:Nat}(r:Room k A):A.units+64<Md:=by have:=r.un;lia
instance tNil:TA:=λ_ H Q=>Q [] H
instance Zmf(ta:TE)(tr:TA):TA:=λσ H Q=>ta σ H λx H1=>tr σ H1 λxs H2=>Q (x::xs) H2
section
variable{e:Expr}{t:TA} 
def Zb:PA X [] tNil:=λ_ _ _ _ H Q I h=>Mn ⟨[],H,I,.nil,h⟩
def Za(ha:PE X e te)(hr:PA X es t)(hs:Cp (e::es) X.env=(false,eval e X.env)::Cp es X.env:=by rfl):PA X (e::es) (Zmf te t):=by
 intro pos pq s σ H Q I h;rw[hs];show Cg _ _ (spliced ((false,eval e X.env)::Kg pos (Cp es X.env))) _ _ s;refine L8 (thn (ha pq s σ H _ I h) λu s1 hz=>?_);let⟨x,H1,I1,r1,q1⟩:=hz;exact thn (hr pos pq s1 σ H1 _ I1 q1) λus s2⟨xs,H2,I2,r2,q2⟩=>⟨x::xs,H2,I2,.cons r1 r2,q2⟩
instance tTup(t:TA):TE:=λσ H Q=>t σ H λxs H1=>xs.length<=Cb/\∀p,H1 p=none->Q (.ref p) (upd H1 p (.tup xs))
instance tLst(t:TA):TE:=λσ H Q=>t σ H λxs H1=>xs.length<=Cb/\∀p,H1 p=none->Q (.ref p) (upd H1 p (.lst xs))
def Yo{x1}(h:PA X es t):PE X (.Tuple es x1 pos) (tTup t):=by
 intro pq s σ H Q I hq;refine wpAny_Tuple_spliced (thn (h pos pq s σ H _ I hq) λus s1⟨xs,H1,I1,r,z,q⟩=>⟨by rw[<-r.length];exact z,?_⟩);let hf:H1 s1.heap.objs.size=none:=I1.hok.fresh (Jd _);exists .ref s1.heap.objs.size,upd H1 s1.heap.objs.size (.tup xs),I1.laid (t':=s1.toks) (λb u e=>Fl _ e) (Jd _) ?_,rfl,q _ hf;exists z,us,r,⟨_,Fm _ rfl,rfl,_,rfl,rfl⟩
def Yh(h:PA X es t):PE X (.List es pos) (tLst t):=by
 intro pq s σ H Q I hq;refine wpAny_List_spliced (thn (h pos pq s σ H _ I hq) λus s1⟨xs,H1,I1,r,z,q⟩=>⟨by rw[<-r.length];exact z,?_⟩);let hf:H1 s1.heap.objs.size=none:=I1.hok.fresh (Jd _);exists .ref s1.heap.objs.size,upd H1 s1.heap.objs.size (.lst xs),I1.laid (t':=s1.toks) (λb u e=>Fl _ e) (Jd _) ?_,rfl,q _ hf;exists z,us,0,r,Fm _ rfl
end
abbrev Sp:=List V->Hp->VK->XK->Prop
variable{sp sp':L2.Sp}
abbrev CXT:=List Env->Hp->Cc->XK->Ca->Cc->Prop
variable{CX:L2.CXT}
structure Env0(P:Eu)(w:Hm)(K:Cs)(mg:Str->Option Ca)(base:Heap)(A:Ht)(outer:List Env)(s:Cc)(H:Hp):Prop where
 frames:A.frames=some outer
 mod:Mod K mg base
 bs:∀b o,base.get? b=some o->s.heap.get? b=some o/\H b=none
 bsz:base.objs.size<=s.heap.objs.size
 funs:s.heap.FunFrames base outer
 frf:∀b∈frs outer,H b=none
 hok:HOk P w H s.heap
 bare:Mz s.gens
instance CE(outer:List Env)(P:Eu)(w:Hm)(H:Hp)(s:Cc)(Q:VK)(u:Ca)(s':Cc):Prop :=
 ∃v H',s'.os=s.os/\Mz s'.gens/\Un (frs outer) [] H H' s.heap s'.heap/\HOk P w H' s'.heap/\RelV v u/\Q v H'
instance CR(CX:CXT)(outer:List Env)(P:Eu)(w:Hm)(H:Hp)(s:Cc)(Q:VK)(E:XK)(r:Jdr)(s':Cc):Prop :=
 match r with
 |.ok (.ret u)=>CE outer P w H s Q u s'
 |.ok _=>False
 |.error e=>CX outer H s E e s'
structure FnOk(P:Eu)(w:Hm)(K:Cs)(mg:Str->Option Ca)(base:Heap)(CX:CXT)(k:Nat)(f:Addr)(fd:Lj)(ps:List Str)(sp:Sp):Prop where
 len:∀vs H Q E,sp vs H Q E->vs.length=ps.length
 run:∀(A:Ht)(outer:List Env)(s:Cc)(H:Hp)(args:Args)(us:List Ca)(vs:List V)(Q:VK)(E:XK),Room k A->Env0 P w K mg base A outer s H->Jdj s fd args (ps.zip us)->Vals vs us->sp vs H Q E ->
  Hn (Cj P w) A (.call (.ref f) args) (CR CX outer P w H s Q E) s
def FnOk.imp{base:Heap}{k:Nat}{f:Addr}(F:FnOk P w K mg base CX k f fd ps sp)(h:∀vs H Q E,sp' vs H Q E->sp vs H Q E):FnOk P w K mg base CX k f fd ps sp' :=
 ⟨λvs H Q E q=>F.len vs H Q E (h _ _ _ _ q),λA outer s H args us vs Q E hr he hb hv hs=>F.run A outer s H args us vs Q E hr he hb hv (h _ _ _ _ hs)⟩
def Env0.make{base:Heap}{outer:List Env}(e:Env0 P w K mg base A outer s H)(C:Addr)(us:List Ca)(kw:List (Str×Ca)) :
  Env0 P w K mg base (A.under (.builtin "type.__call__" ⟨.ref C::us,kw⟩)) outer s H:=⟨by first|exact e.frames|(simpa[Jeq,Code.envs,Jer,pushEnvs]using e.frames),e.mod,e.bs,e.bsz,e.funs,e.frf,e.hok,e.bare⟩
def Env0.in1{base:Heap}{outer:List Env}(e:Env0 P w K mg base A outer s H) :
  Env0 P w K mg base A.in1 outer s H:=⟨e.frames,e.mod,e.bs,e.bsz,e.funs,e.frf,e.hok,e.bare⟩
section
variable{s':Cc}
def Inv.env0(I:Inv X pq σ H s):Env0 X.prog X.w X.K X.mg X.base X.A X.stack s H :=
 ⟨I.ok.frames,I.ok.mod,I.bs,Ga I.ok.bsz I.sz,I.stack,I.stkFree,I.hok,I.bare⟩
def Inv.after{u:Ca}(I:Inv X pq σ H s)(h:CE X.stack X.prog X.w H s Q u s'):EP X pq σ Q u s':=by
 let⟨v,H',os,bare,un,hok,r,q⟩:=h;let⟨hh,g,d,t,os'⟩:=s';obtain rfl:os'=s.os:=os;exists v,H',I.call (h':=hh) (g':=g) (d':=d) (t':=t) (ch:=[]) un hok bare (λb z=>Fh z (by simp)),r,q
end
instance Zfh(sp:Sp)(dvs:List V)(E:XK)(t:TA):TE:=λσ H Q=>t σ H λvs H1=>sp (vs++dvs) H1 Q E
instance Zfe(C:Addr)(m:Str)(sp:Sp)(dvs:List V)(E:XK)(ta:TE)(t:TA):TE:=λσ H Q=>ta σ H λx H1=>∃a dx fs,x=.ref a/\H1 a=some (.ins C dx fs)/\fs.lookup m=none /\
 t σ H1 λvs H2=>sp (x::(vs++dvs)) H2 Q E
instance Zd8(C:Addr)(sp:Sp)(dvs:List V)(E:XK)(t:TA):TE:=λσ H Q=>t σ H λvs H1=>∀x dx,H1 x=none->H1 dx=none->dx≠x ->
 sp (.ref x::(vs++dvs)) (upd (upd H1 dx (.own x)) x (.ins C dx [])) (λv H2=>v=.non/\Q (.ref x) H2) E
instance W2(K:Cs)(fd:Lj)(ps:List Str)(ds:List Ca):Prop :=
 ∀(s:Cc)(us:List Ca),K.In s.heap->(us++ds).length=ps.length->Jdj s fd ⟨us,[]⟩ (ps.zip (us++ds))
def W2.all(h:∀us:List Ca,us.length=ps.length->Jds fd ⟨us,[]⟩=pure (ps.zip us)):W2 K fd ps []:=λs us _ hl=>by
 rw[Jz]at hl⊢;exact .of_eq (h us hl)
instance Qd(CX:CXT)(X:Cx)(E:XK):Prop:=∀(pq:List (Addr×Obj))(σ:St)(H:Hp)(s:Cc)(e:Ca)(s':Cc),Inv X pq σ H s->CX X.stack H s E e s'->X.xe e s'
section
variable{k:Nat}{f:Addr}{dvs:List V}{ds:List Ca}{E:XK}{x m:Str}{p:Pos}{e o:Expr}{t:TA}
def Zk0(F:FnOk X.prog X.w X.K X.mg X.base CX k f fd ps sp)(hr:Room k X.A)(hb:W2 X.K fd ps ds)(hd:Vals dvs ds)(hx:Qd CX X E)(I:Inv X pq σ H s)(r:Vals vs us)(h:sp (vs++dvs) H Q E):Cg (Cj X.prog X.w) X.A (call (.ref f) us) (EP X pq σ Q) X.xe s:=by
 let r2:Vals (vs++dvs) (us++ds):=r.append hd;let hl:(us++ds).length=ps.length:=by rw[<-r2.length];exact F.len _ _ _ _ h
 refine E7 (Hk (F.run X.A X.stack s H ⟨us,[]⟩ (us++ds) (vs++dvs) Q E hr I.env0 (hb s us I.kIn hl) r2 h) λr s' hq=>?_);cases r with
 |error e=>exact hx pq σ H s e s' I hq
 |ok fl =>
  cases fl with
  |ret u=>exact I.after hq
  |next=>exact Cq hq
  |brk=>exact Cq hq
  |cont=>exact Cq hq
def Zni(F:FnOk X.prog X.w X.K X.mg X.base CX k f fd ps sp)(hr:Room k X.A)(hg:Gl X x)(hm:X.mg x=some (.ref f))(hk:Ja2 X.K (.ref f)=true)(hb:W2 X.K fd ps ds)(hd:Vals dvs ds)(hx:Qd CX X E)(ha:PA X (e::es) t)(hdb:(x==("__debug__":Str))=false:=by decide)(he:Cp (e::es) X.env=(false,eval e X.env)::Cp es X.env:=by rfl)(hpl:(Kg pos (Cp es X.env)).any (·.1)=false:=by rfl) :
  PE X (.Call (.Name x p) (e::es) [] pos) (Zfh sp dvs E t):=by
 intro pq s σ H Q I h;refine Eb (Wd I hg hm ?_ hdb);refine Kr (h₀:=X.base) I.ok.mod.kin hk (thn (ha pos pq s σ H _ I h) λus s1⟨vs,H1,I1,r,q⟩=>⟨I1.kIn,?_⟩) he hpl;exact Zk0 F hr hb hd hx I1 r q
def Znf{pl:Sem Bool}(he:PE X o ta)(c:Cls X.K C)(hm:Meth X.K C m f)(F:FnOk X.prog X.w X.K X.mg X.base CX k f fd ps sp)(hr:Room k X.A)(hb:W2 X.K fd ps ds)(hd:Vals dvs ds)(hx:Qd CX X E)(ha:PA X (e::es) t)(hst:Cp (e::es) X.env=(false,eval e X.env)::Cp es X.env:=by rfl)(hpl:(Kg pos (Cp es X.env)).any (·.1)=false:=by rfl)(ht:eval (.Call (.Attribute o m apos) (e::es) [] pos) X.env=(do
   let ov <-eval o X.env
   Jd5 apos.atName
   let(f,first) <-Mc [ov] (Jdq ov m pl)
   callWith pos f first (Kg pos (Cp (e::es) X.env)) (Jda pos (K7 [] X.env))):=by rfl) :
  PE X (.Call (.Attribute o m apos) (e::es) [] pos) (Zfe C m sp dvs E ta t):=by
 intro pq s σ H Q I h;refine Jff (pl:=pl) (thn (he pq s σ H _ I h) λu s1 hz=>?_) ht;let⟨x,H1,I1,rx,a,dx,fs,ex,ea,l,q⟩:=hz;subst ex;obtain rfl:u=Cd a:=rx;refine Q5 I1 ea c hm l ?_;refine Kr (first:=[.ref a]) (h₀:=X.base) I.ok.mod.kin hm.kp (thn (ha pos pq s1 σ H1 _ I1 q) λus s2⟨vs,H2,I2,r,q2⟩=>⟨I2.kIn,?_⟩) hst hpl;exact Zk0 (us:=.ref a::us) (vs:=.ref a::vs) F hr hb hd hx I2 (.cons rfl r) q2
structure Mk(K:Cs)(C f:Addr):Prop where
 makes:W.makesIn K C=true
 init:Cu K (.ref C) "__init__"=some (some (.ref f))
 fn:W.isFn K (.ref f)=true
 kp:Ja2 K (.ref C)=true
def Zc6(M:Mk X.K C f)(F:FnOk X.prog X.w X.K X.mg X.base CX k f fd ps sp)(hr:Room (k+1) X.A)(hb:W2 X.K fd ps ds)(hd:Vals dvs ds)(hx:Qd CX X E)(I:Inv X pq σ H s)(r:Vals vs us)(h:∀x dx,H x=none->H dx=none->dx≠x->sp (.ref x::(vs++dvs)) (upd (upd H dx (.own x)) x (.ins C dx [])) (λv H2=>v=.non/\Q (.ref x) H2) E) :
  Cg (Cj X.prog X.w) X.A (call (.ref C) us) (EP X pq σ Q) X.xe s:=by
 let hq:=h (s.heap.objs.size+1) s.heap.objs.size (I.hok.fresh (G1 _)) (I.hok.fresh (Jd _)) (Gg (Bc _));let I2:=Inv.made (C:=C) I;let r2:Vals (V.ref (s.heap.objs.size+1)::(vs++dvs)) (Cd (s.heap.objs.size+1)::(us++ds)):=.cons rfl (r.append hd);let hl:(Cd (s.heap.objs.size+1)::us++ds).length=ps.length:=by
  let e:=r2.length;rw[F.len _ _ _ _ hq]at e;exact e.symm
 refine E7 (Zj2 (f:=f) I.kIn M.makes M.init (beq_iff_eq.mp M.fn) (Hk (F.run _ X.stack _ _ ⟨Cd (s.heap.objs.size+1)::us,[]⟩ (Cd (s.heap.objs.size+1)::(us++ds)) _ _ E (hr.make C us [])
  (I2.env0.make C us []) (hb _ (Cd (s.heap.objs.size+1)::us) I2.kIn hl) r2 hq) λr s' hq'=>?_))
 cases r with
 |error e=>exact hx pq σ _ _ e s' I2 hq'
 |ok fl =>
  cases fl with
  |ret u =>
   let⟨v,H',I3,rv,ev,q3⟩:=I2.after hq';subst ev;exists rv,⟨V.ref (s.heap.objs.size+1),H',I3,rfl,q3⟩
  |next=>exact Cq hq'
  |brk=>exact Cq hq'
  |cont=>exact Cq hq'
def Znh(M:Mk X.K C f)(F:FnOk X.prog X.w X.K X.mg X.base CX k f fd ps sp)(hr:Room (k+1) X.A)(hg:Gl X x)(hm:X.mg x=some (.ref C))(hb:W2 X.K fd ps ds)(hd:Vals dvs ds)(hx:Qd CX X E)(ha:PA X (e::es) t)(hdb:(x==("__debug__":Str))=false:=by decide)(he:Cp (e::es) X.env=(false,eval e X.env)::Cp es X.env:=by rfl)(hpl:(Kg pos (Cp es X.env)).any (·.1)=false:=by rfl) :
  PE X (.Call (.Name x p) (e::es) [] pos) (Zd8 C sp dvs E t):=by
 intro pq s σ H Q I h;refine Eb (Wd I hg hm ?_ hdb);refine Kr (h₀:=X.base) I.ok.mod.kin M.kp (thn (ha pos pq s σ H _ I h) λus s1⟨vs,H1,I1,r,q⟩=>⟨I1.kIn,?_⟩) he hpl;exact Zc6 M F hr hb hd hx I1 r q
def Zjt(M:Mk X.K C f)(F:FnOk X.prog X.w X.K X.mg X.base CX k f fd ps sp)(hr:Room (k+1) X.A)(hg:Gl X x)(hm:X.mg x=some (.ref C))(hb:W2 X.K fd ps ds)(hd:Vals dvs ds)(hx:Qd CX X E)(hdb:(x==("__debug__":Str))=false:=by decide):PE X (.Call (.Name x p) [] [] pos) (Zd8 C sp dvs E tNil):=by
 intro pq s σ H Q I h;refine Eb (Wd I hg hm ?_ hdb);exact Jgw I.kIn M.kp (Zc6 (us:=[]) M F hr hb hd hx I .nil h)
end
instance PK(X:Cx)(kws:List Jfg)(t:TA):Prop :=
 ∀(pos:Pos)(pq:List (Addr×Obj))(s:Cc)(σ:St)(H:Hp)(Q:List V->Hp->Prop),Inv X pq σ H s->t σ H Q->Cg (Cj X.prog X.w) X.A (evalAll ((Jda pos (K7 kws X.env)).map (·.2))) (AP X pq σ Q) X.xe s
section
variable{x:Str}{e:Expr}{kws:List Jfg}{t:TA}{nm:Option Str}
def Zrf:PK X [] tNil:=λ_ _ _ _ H Q I h=>wpAny_evalAll_nil ⟨[],H,I,.nil,h⟩
def Znb(ha:PE X e te)(hr:PK X kws t):PK X (⟨nm,e,kpos⟩::kws) (Zmf te t):=by
 intro pos pq s σ H Q I h;show Cg _ _ (evalAll ((do let v <-eval e X.env;Jd5 pos;pure v)::(Jda pos (K7 kws X.env)).map (·.2))) _ _ s;refine wpAny_evalAll_cons (Fj (thn (ha pq s σ H _ I h) λu s1⟨x,H1,I1,r1,q1⟩=>Fj (Ej (Fk ?_))));exact thn (hr pos pq s1 σ H1 _ I1 q1) λus s2⟨xs,H2,I2,r2,q2⟩=>⟨x::xs,H2,I2,.cons r1 r2,q2⟩
end
structure FnScope(N P:List Str)(sc:Scope):Prop where
 kind:sc.kind=.function
 co:sc.isCoroutine=false
 gen:sc.isGenerator=false
 nd:N.Nodup
 pre:N.take P.length=P
 par:∀x∈P,sc.names.lookup x=some .local\/sc.names.lookup x=some .cell
 nofree:∀y∈sc.names,y.2≠.free
def Za0{kindOf:Str->Option Es}{x:Str}:∀{binds:List (Str×Ca)}{m:Str->Option Ca},(∀v,(x,v)∉binds)->Jhn kindOf binds m x=m x
 |[],_,_=>rfl
 |(n,v)::r,m,h=>by
  unfold Jhn;rw[Za0 λw hw=>h w (Jm _ hw)]
  split
  .let:x≠n:=by rintro rfl;exact h v Jo
   simp[this]
  .rfl
def Za2{kindOf:Str->Option Es}{x:Str}:∀{binds:List (Str×Ca)}{m:Str->Option Ca},(∀v,(x,v)∉binds)->Jho kindOf binds m x=m x
 |[],_,_=>rfl
 |(n,v)::r,m,h=>by
  unfold Jho;rw[Za2 λw hw=>h w (Jm _ hw)]
  split
  .rfl
  .let:x≠n:=by rintro rfl;exact h v Jo
   simp[this]
def Za1{kindOf:Str->Option Es}{x:Str}{v:Ca}:∀{P:List Str}{vs:List Ca}{i:Nat}{m:Str->Option Ca},P.Nodup->P[i]?=some x->vs[i]?=some v->kindOf x=some .local ->
  Jhn kindOf (P.zip vs) m x=some v
 |[],_,_,_,_,h,_,_=>by simp at h
 |_::_,[],_,_,_,_,h,_=>by simp at h
 |p::P,w::vs,0,m,nd,h1,h2,hk=>by
  simp at h1 h2;subst h1;subst h2;show Jhn kindOf ((p,w)::P.zip vs) m p=_;unfold Jhn;rw[Za0 λv hv=>(Bf.mp nd).1 (Lr hv).1,Fp hk];simp
 |p::P,w::vs,i+1,m,nd,h1,h2,hk=>by
  show Jhn kindOf ((p,w)::P.zip vs) m x=_;unfold Jhn;exact Za1 (i:=i) (Bf.mp nd).2 (by simpa using h1) (by simpa using h2) hk
def Za3{kindOf:Str->Option Es}{x:Str}{v:Ca}:∀{P:List Str}{vs:List Ca}{i:Nat}{m:Str->Option Ca},P.Nodup->P[i]?=some x->vs[i]?=some v->kindOf x≠some .local ->
  Jho kindOf (P.zip vs) m x=some v
 |[],_,_,_,_,h,_,_=>by simp at h
 |_::_,[],_,_,_,_,h,_=>by simp at h
 |p::P,w::vs,0,m,nd,h1,h2,hk=>by
  simp at h1 h2;subst h1;subst h2;show Jho kindOf ((p,w)::P.zip vs) m p=_;unfold Jho;rw[Za2 λv hv=>(Bf.mp nd).1 (Lr hv).1,Fo hk];simp
 |p::P,w::vs,i+1,m,nd,h1,h2,hk=>by
  show Jho kindOf ((p,w)::P.zip vs) m x=_;unfold Jho;exact Za3 (i:=i) (Bf.mp nd).2 (by simpa using h1) (by simpa using h2) hk
instance Vj(N:List Str)(vs:List V):St:=vs.map some++Cm (N.length-vs.length) none
instance cxOf(CX:CXT)(P:Eu)(w:Hm)(K:Cs)(mg:Str->Option Ca)(base:Heap)(N:List Str)(qual:Str)(scope:Scope)(f:Addr)(cd:Ca)(A:Ht)(outer:List Env)(s:Cc)(H:Hp)(E:XK):Cx where
 prog:=P
 w:=w
 K:=K
 mg:=mg
 base:=base
 A:=A.deeper (E4 qual scope s.heap.objs.size f cd)
 N:=N
 s₀:=s
 H₀:=H
 env:=E4 qual scope s.heap.objs.size f cd
 outer:=outer
 stack:=E4 qual scope s.heap.objs.size f cd::outer
 ex:=[]
 calm:=true
 fn:=λ_=>true
 pn:=[]
 xe:=λe s'=>Cg (Cj P w) (A.deeper (E4 qual scope s.heap.objs.size f cd)) (Jgx (E4 qual scope s.heap.objs.size f cd) e) (λ_ s''=>CX outer H s E e s'') (λe' s''=>CX outer H s E e' s'') s'
def Zdy{sc:Scope}{n:Nat}{x:Str}(h:sc.names.lookup x=some .cell):∃c,(Ha n sc.names []).lookup x=some c:=by
 let q:=Jb8 sc.names n [] (.inl h);exact Option.isSome_iff_exists.mp q
def Re{base:Heap}{scope:Scope}{f:Addr}{outer:List Env}{s1:Cc}{E:XK}(S:FnScope N ps scope)(hd:A.handled=none)(e0:Env0 P w K mg base A outer s H)(hl:vs.length=ps.length)(r:Vals vs us)(x:InCallC s s.heap.objs.size (Jhn (E4 qual scope s.heap.objs.size f cd).kindOf (ps.zip us) λ_=>none) (Ha (s.heap.objs.size+1) scope.names []) (Jho (E4 qual scope s.heap.objs.size f cd).kindOf (ps.zip us) λ_=>none) s1) :
  Inv (cxOf CX P w K mg base N qual scope f cd A outer s H E) [] (Vj N vs) H s1:=by
 let hpl:ps.length<=N.length:=by have:=congrArg Ho S.pre;rw[J0]at this;lia
 let⟨h1,tk,rfl,hk⟩:=x.done;let noA:∀b:Addr,b∉(cxOf CX P w K mg base N qual scope f cd A outer s H E).ex:=λb z=>Fh (show b∈([]:List Addr)from z) (by simp);refine⟨⟨e0.mod,S.kind,rfl,rfl,Jd _,λy z c h1 h2=>?_,λy hy=>?_,λy c _ h=>?_,λ_=>hd,Ht.frames_deeper e0.frames,.inr ⟨rfl,rfl⟩,λb z=>Fh z (noA b),e0.bs,e0.bsz,λb _ _=>noA b,λb z=>Fh z (noA b),e0.funs,e0.frf⟩,
  rfl,e0.bare,Un.kept hk,⟨_,x.toInCall.ns,λi y v h1 h2 h3=>?_⟩,λy c h=>⟨_,x.cell y c h⟩,e0.hok.fresh (Jd _),λy c h=>?_,λp hp=>Fh (show p∈([]:List (Addr×Obj))from hp) (by simp),e0.hok.kept hk,?_⟩
 .exact name_of_addr x.apart (Hq h1) (Hq h2)
 .let hy:scope.names.lookup y=some .cell\/scope.names.lookup y=some .free:=hy;rcases hy with hy|hy
  .exact Zdy hy
  .exact Fh rfl (S.nofree _ (Hq hy))
 .exact Bp (x.above y c (Hq h))
 .let hi:i<vs.length:=by
   unfold Vj at h2
   by_cases hi:i<vs.length
   .exact hi
   .rw[Gk (by simpa using hi)]at h2;rw[Ja3]at h2
    split at h2<;>cases h2
  let ha:vs[i]?=some v:=by
   unfold Vj at h2;rw[Js (by simpa using hi),Jr]at h2;cases e:vs[i]? with
   |none=>rw[e]at h2;cases h2
   |some a=>rw[e]at h2;cases h2;rfl
  let⟨u,hu,rv⟩:=r.get ha;let hp:ps[i]?=some y:=by
   rw[<-S.pre,Mo ()];exact h1
  let ndP:ps.Nodup:=by rw[<-S.pre];exact S.nd.sublist (List.take_sublist _ _)
  exists u,rv,?_;rcases S.par y (Gq hp)with k|k
  .exact .inl ⟨k,Za1 ndP hp hu k⟩
  .let⟨c,e⟩:=Zdy (n:=s.heap.objs.size+1) k;refine .inr ⟨.inl k,c,e,?_⟩;let q:=x.cell y c e;rw[Za3 ndP hp hu (by show scope.names.lookup y≠_;rw[k];decide)]at q;exact q
 .exact e0.hok.fresh (Bp (x.above y c (Hq h)))
 .unfold Vj;show _=N.length;rw[Jc,Ja,List.length_replicate];lia
def Zod{base:Heap}{k:Nat}{f:Addr}{params:Arguments}{scope:Scope}{dV kV:Ca}{osl:Array (Option Ca)}{N ps:List Str}{sp:Sp}(lk:K.lookup f=some ⟨oc,od,.func (L9 name qual params body scope dV kV doc pm an cdv ct),osl⟩)(hcd:Ja4 K cdv qual=true)(S:FnScope N ps scope)(len:∀vs H Q E,sp vs H Q E->vs.length=ps.length)(hbody:∀(A:Ht)(outer:List Env)(s:Cc)(H:Hp)(vs:List V)(Q:VK)(E:XK),Room k (A.deeper (E4 qual scope s.heap.objs.size f cdv))->sp vs H Q E ->
   ∃t,PSs (cxOf CX P w K mg base N qual scope f cdv A outer s H E) body t/\t {nx:=λ_ H'=>Q .non H',rt:=Q} (Vj N vs) H) :
  FnOk P w K mg base CX (k+1) f (L9 name qual params body scope dV kV doc pm an cdv ct) ps sp:=by
 refine⟨len,λA outer s H args us vs Q E hr e0 hb r hsp=>?_⟩;let hl:=len _ _ _ _ hsp;let KX:K.In s.heap:=e0.mod.kin.keeps λb o e=>(e0.bs b o e).1;let lim:s.heap.NoLimit:=e0.mod.nolimit.keeps λb o e=>(e0.bs b o e).1;let hkind:∀y∈ps.zip us,scope.names.lookup y.1=some .local\/(scope.names.lookup y.1=some .cell/\((Ha (s.heap.objs.size+1) scope.names []).lookup y.1).isSome=true):=λ⟨n,v⟩hy=>by
  rcases S.par n (Lr hy).1 with q|q
  .exact .inl q
  .exact .inr ⟨q,Jb8 _ _ _ (.inl q)⟩
 refine codeAny_call_function hr.depth (KX _ _ lk) rfl S.co S.gen rfl (W.codeRec_of KX hcd) (hb _ _ _ _ ?_);refine Ke S.kind hkind λenv he s1 x=>?_;subst he;refine⟨lim.keeps x.toInCall.keep,codeAny_func ?_⟩;let⟨t,ht,hq⟩:=hbody A outer s H vs Q E (hr.deeper _) hsp;let I:Inv (cxOf CX P w K mg base N qual scope f cdv A outer s H E) [] (Vj N vs) H s1:=Re S hr.hd e0 hl r x;refine Fw (ht [] s1 (Vj N vs) H _ I hq) (λfl s' hs=>?_) λe s' hs=>hs;let fin:∀{σ':St}{H':Hp}{v:V}{u:Ca},Inv (cxOf CX P w K mg base N qual scope f cdv A outer s H E) [] σ' H' s'->RelV v u->Q v H'->CE outer P w H s Q u s' :=
  λ{σ' H' v u}J rv q=>⟨v,H',J.os,J.bare,J.base,J.hok,rv,q⟩
 cases fl with
 |ret u =>
  let⟨v,σ',H',J,rv,q⟩:=hs;exact fin J rv q
 |next =>
  let⟨σ',H',J,q⟩:=hs;exact fin (v:=V.non) (u:=Ca.none) J rfl q
 |brk =>
  let⟨_,_,_,q⟩:=hs;exact Cq q
 |cont =>
  let⟨_,_,_,q⟩:=hs;exact Cq q
section
variable{x:Str}{p:Pos}{e:Expr}{t:TA}{id T:String}{r:List V->Hp->VK->Prop}
instance tCB(r:List V->Hp->VK->Prop)(t:TA):TE:=λσ H Q=>t σ H λvs H1=>r vs H1 Q
def Zm(hc:Wv X (.builtin id) r)(hg:Gl X x)(hm:X.mg x=none)(hv:Kq x=some (.builtin id))(ha:PA X (e::es) t)(hn:x≠"__name__":=by decide)(hdb:(x==("__debug__":Str))=false:=by decide)(he:Cp (e::es) X.env=(false,eval e X.env)::Cp es X.env:=by rfl)(hpl:(Kg pos (Cp es X.env)).any (·.1)=false:=by rfl):PE X (.Call (.Name x p) (e::es) [] pos) (tCB r t):=by
 intro pq s σ H Q I h;refine Eb (Q4 I hg hm hv ?_ hn hdb);exact Jes (thn (ha pos pq s σ H _ I h) λus s1⟨vs,H1,I1,r1,q1⟩=>hc pq s1 σ H1 vs us Q I1 r1 q1) he hpl
def Z3(hc:Wv X (.type T) r)(hg:Gl X x)(hm:X.mg x=none)(hv:Kq x=some (.type T))(ha:PA X (e::es) t)(hn:x≠"__name__":=by decide)(hdb:(x==("__debug__":Str))=false:=by decide)(he:Cp (e::es) X.env=(false,eval e X.env)::Cp es X.env:=by rfl)(hpl:(Kg pos (Cp es X.env)).any (·.1)=false:=by rfl):PE X (.Call (.Name x p) (e::es) [] pos) (tCB r t):=by
 intro pq s σ H Q I h;refine Eb (Q4 I hg hm hv ?_ hn hdb);exact Lq (thn (ha pos pq s σ H _ I h) λus s1⟨vs,H1,I1,r1,q1⟩=>hc pq s1 σ H1 vs us Q I1 r1 q1) he hpl
end
end L2
variable{H I H' I' H1 H2:L2.Hp}{X:L2.Cx}{σ σ0:L2.St}{v:L2.V}{vs xs ys:List L2.V}{Q:L2.VK}{sp sp':L2.Sp}{o:L2.HO}{ta te tb to:L2.TE}{kvs:List (List L2.Key×L2.V)}{g:L2.TG}{wi:L2.TI}{r:L2.R2}{CX:L2.CXT}
namespace HT
open PySem PyProof.Rows
instance lexLt:List Int->List Int->Bool
 |[],[]=>false
 |[],_::_=>true
 |_::_,[]=>false
 |x::xs,y::ys=>if x=y then lexLt xs ys else decide (x<y)
def Uf(x y:Int)(xs ys:List Int):lexLt (x::xs) (y::ys)=if x=y then lexLt xs ys else decide (x<y):=rfl
def Pw:lexLt [] []=false:=rfl
def Uo(y:Int)(ys:List Int):lexLt [] (y::ys)=true:=rfl
def Wt(x:Int)(xs:List Int):lexLt (x::xs) []=false:=rfl
section
def cat_tup{t b:Addr}{vs ws:List Ca}{Q:Ca->Cc->Prop}(ht:IsTup s.heap t vs.toArray)(hb:IsTup s.heap b ws.toArray)(hv:vs≠[])(h1:ws=[]->Q (.ref t) s)(h2:ws≠[]->Q (.ref s.heap.objs.size) {s with heap:=s.heap.push {cls:=.type "tuple",data:=.seq (vs++ws).toArray} })(hsz:vs.length+ws.length<=Cb):Cg (Cj prog w) A (Hd .Add (.ref t) (.ref b)) Q E s:=by
 let⟨⟨cls,dd,data,sl⟩,ho,hc,n,hd⟩:=id ht;let⟨⟨cls2,dd2,data2,sl2⟩,ho2,hc2,n2,hd2⟩:=id hb;simp only at hc hd hc2 hd2;subst hc hd hc2 hd2;let e:vs.toArray++ws.toArray=(vs++ws).toArray:=by simp
 by_cases hw:ws=[]
 .exact concat_meets ⟨_,ho,rfl⟩ ⟨_,ho2,rfl⟩ Jb9 seq_tuple_add K0 Kv (Ks _ _)
   (tuple_addW1 t b vs.toArray ws.toArray n n2 dd dd2 sl sl2 (by simpa using hv) (by simp[hw])) ⟨ho,ho2,h1 hw⟩
 .refine concat_meets ⟨_,ho,rfl⟩ ⟨_,ho2,rfl⟩ Jb9 seq_tuple_add K0 Kv (Ks _ _)
   (tuple_addW2 t b vs.toArray ws.toArray n n2 dd dd2 sl sl2 (by simpa using hv) (by simpa using hw) (by rw[Jq,Jq];exact hsz)) ⟨ho,ho2,?_⟩
  rw[e];exact h2 hw
instance sIx(n d:Nat):Option Int->Nat
 |none=>d
 |some v=>if v<0 then(v+(n:Int)).toNat else min v.toNat n
def sIx_none(n d:Nat):sIx n d none=d:=rfl
def sIx_nat(n d k:Nat):sIx n d (some (k:Int))=min k n:=by
 show(if(k:Int)<0 then((k:Int)+(n:Int)).toNat else min (k:Int).toNat n)=min k n;rw[Fo (),Bd]
def Zq6(n d:Nat)(hd:d<=n)(o:Option Int):sIx n d o<=n:=by
 cases o with
 |none=>exact hd
 |some v =>
  show(if v<0 then(v+(n:Int)).toNat else min v.toNat n)<=n
  by_cases hv:v<0
  .rw[Fp hv];lia
  .rw[Fo hv];exact Nat.min_le_right _ _
def Zh0(v:Int)(n d:Nat):(if v<0 then max (v+(n:Int)) 0 else min v (n:Int))=((sIx n d (some v):Nat):Int):=by
 show(if v<0 then max (v+(n:Int)) 0 else min v (n:Int))=(((if v<0 then(v+(n:Int)).toNat else min v.toNat n):Nat):Int)
 by_cases hv:v<0
 .simp only[Fp hv];lia
 .simp only[Fo hv];lia
def Zeu(lo hi:Option Int)(n:Nat):Ki lo hi 1 (n:Int)=(((sIx n 0 lo:Nat):Int),((sIx n n hi:Nat):Int)):=by
 let h1:¬ ((1:Int)<0):=by lia
 unfold Ki;simp only[h1,if_false];refine Prod.ext ?_ ?_
 .cases lo with
  |none=>rfl
  |some v=>exact Zh0 v n 0
 .cases hi with
  |none=>rfl
  |some v=>exact Zh0 v n n
def Zed(i j:Nat):Hc (i:Int) (j:Int) 1=j-i:=by
 unfold Hc;let h1:(1:Int) > 0:=by lia
 simp only[h1,if_true,Int.ediv_one]
 split<;>lia
def Qt{v:Ca}{o:Option Int}{Q:Option Int->Cc->Prop}(p:Jdt v o)(h:Q o s):Cg (Cj prog w) A (Je8 v) Q E s:=by
 cases p with
 |none=>exact slicePart_none h
 |int i t=>exact slicePart_int h
def sliceApplied_gen{sl:Addr}{vl vu:Ca}{n:Nat}{Q:Int×Int×Nat->Cc->Prop}(hs:s.heap.IsSliceOf sl vl vu .none)(pl:Jdt vl lo)(pu:Jdt vu hi)(h:Q (((sIx n 0 lo:Nat):Int),1,sIx n n hi-sIx n 0 lo) s):Cg (Cj prog w) A (L5 (.ref sl) (pure (n:Int))) Q E s:=by
 let⟨os,hos,hcs,hds⟩:=id hs;unfold L5 Jf3;refine Fj (Fj (Ee hos hds (x:=vl) rfl (Fj (Ee hos hds (x:=vu) rfl (Fj (Ee hos hds (x:=.none) rfl (Fk ?_)))))));refine Fj (slicePart_none ?_);show Cg _ _ (if((1:Int)==0)=true then _ else _) _ _ s;rw[Fo nofun];refine Fj (Qt pl (Fj (Qt pu (Fj (Fk ?_)))));show Cg _ _ (match Ki lo hi 1 (n:Int)with|(lo,hi)=>pure (lo,(1:Int),Hc lo hi 1)) _ _ s;rw[Zeu lo hi n];show Cg _ _ (pure (((sIx n 0 lo:Nat):Int),(1:Int),Hc ((sIx n 0 lo:Nat):Int) ((sIx n n hi:Nat):Int) 1)) _ _ s
 rw[Zed];exact Fk h
def Zjp(xs:Array Ca)(i k:Nat):((Ec k).filterMap λ(m:Nat)=>xs[((i:Int)+(m:Int)*1).toNat]?).toArray=((xs.toList.drop i).take k).toArray:=by
 let e:(λ(m:Nat)=>xs[((i:Int)+(m:Int)*1).toNat]?)=λm=>xs[i+m]?:=by
  funext m
  let:((i:Int)+(m:Int)*1).toNat=i+m:=by lia
  rw[this]
 rw[e];let:=pick_run xs i k;rw[List.filterMap_map]at this;let e2:((λx=>xs[x]?) ∘ λx=>i+x)=λm=>xs[i+m]?:=rfl;rw[e2]at this;rw[this]
def getItem_tuple_cut{t sl:Addr}{items:Array Ca}{vl vu:Ca}{Q:Ca->Cc->Prop}(ht:IsTup s.heap t items)(hs:s.heap.IsSliceOf sl vl vu .none)(pl:Jdt vl lo)(pu:Jdt vu hi)(hw:¬ (sIx items.size 0 lo=0/\sIx items.size items.size hi=items.size))(h:Q (.ref s.heap.objs.size) {s with heap:=s.heap.push {cls:=.type "tuple",data:=.seq ((items.toList.drop (sIx items.size 0 lo)).take (sIx items.size items.size hi-sIx items.size 0 lo)).toArray} })(hsz:items.size<=Cb):Cg (Cj prog w) A (Lo (.ref t) (.ref sl)) Q E s:=by
 let htake:sizeOk (.seq ((items.toList.drop (sIx items.size 0 lo)).take (sIx items.size items.size hi-sIx items.size 0 lo)).toArray):=by
  show((items.toList.drop (sIx items.size 0 lo)).take (sIx items.size items.size hi-sIx items.size 0 lo)).toArray.size<=Cb;rw[Jq,J0,Gb,Be];lia
 let hj:sIx items.size items.size hi<=items.size:=Zq6 _ _ (Jd _) hi;let⟨os,hos,hcs,hds⟩:=id hs;let hTs:s.TypeIs (.ref sl) "slice":=⟨os,hos,hcs⟩;unfold Lo
 try with_reducible refine Cw ?_
 first|refine Fj (Fk ?_)|skip
 refine Fj (Jea ht.typeIs nofun ?_);refine Fj (Ja5 (name:=Co "__getitem__") ht.typeIs El
  (Jco El ht.typeIs Jdk ?_ (Jdu _ _)))
 show Cg _ _ (L6 (.ref t) >>= _) _ _ s;refine Fj (tupleItemsOf_ ht ?_);refine Fj (Kt hTs ?_);rw[Fp nofun];refine Fj (sliceApplied_gen hs pl pu ?_);let hno:¬ ((((sIx items.size 0 lo:Nat):Int)==0&&(1:Int)==1&&(sIx items.size items.size hi-sIx items.size 0 lo)==items.size)=true):=by
  intro q;rw[B2,B2]at q;let q1:((sIx items.size 0 lo:Nat):Int)=0:=eq_of_beq q.1.1;let q2:sIx items.size items.size hi-sIx items.size 0 lo=items.size:=eq_of_beq q.2;exact hw ⟨(),()⟩
 show Cg _ _ (if(((sIx items.size 0 lo:Nat):Int)==0&&(1:Int)==1&&(sIx items.size items.size hi-sIx items.size 0 lo)==items.size)=true then _ else _) _ _ s;rw[Fo hno,Zjp]
 first
  |exact Fj (m:=Hh _) (Hi (Fk ⟨_,rfl,Fk h⟩) htake)
  |exact Fj (m:=Hh _) (Hi (Fj (Fk (Fk ⟨_,rfl,Fk h⟩))) htake)
  |exact Fj (Fj (m:=Hh _) (Hi (Fk (Fk ⟨_,rfl,Fk h⟩)) htake))
  |exact Fj (Fj (m:=Hh _) (Hi (Fk ⟨_,rfl,Fk h⟩) htake))
end
end HT
namespace L2
open PySem PySem.Spec PyProof.Rows
abbrev TO:=St->Hp->(Option Int->Hp->Prop)->Prop
instance PO(X:Cx)(e:Option Expr)(t:TO):Prop :=
 ∀(pq:List (Addr×Obj))(s:Cc)(σ:St)(H:Hp)(Q:Option Int->Hp->Prop),Inv X pq σ H s->t σ H Q ->
  Cg (Cj X.prog X.w) X.A (evalPart e X.env) (λu s'=>∃o H',Inv X pq σ H' s'/\Jdt u o/\Q o H') X.xe s
instance Zfd:TO:=λ_ H Q=>Q none H
instance Zqe(t:TE):TO:=λσ H Q=>t σ H λx H1=>∃i,x=.int i/\Q (some i) H1
section
variable{e:Expr}{lo hi:Option Expr}{tl th:TO}{p2:Pos}
def Yc:PO X none Zfd:=by
 intro pq s σ H Q I h;rw[Jdv];exact Fk ⟨none,H,I,.none,h⟩
def Z6(h:PE X e te):PO X (some e) (Zqe te):=by
 intro pq s σ H Q I hw;rw[evalPart_some];refine thn (h pq s σ H _ I hw) λu s1 hz=>?_;let⟨x,H1,I1,r1,q1⟩:=hz;let⟨i,rfl,q⟩:=q1;let⟨t,rfl⟩:=r1;exists some i,H1,I1,.int i t,q
instance SlR(X:Cx)(r:V->Option Int->Option Int->Hp->VK->Prop):Prop :=
 ∀(pq:List (Addr×Obj))(s:Cc)(σ:St)(H:Hp)(x:V)(v vl vu:Ca)(lo hi:Option Int)(sl:Addr)(Q:VK),Inv X pq σ H s->RelV x v->s.heap.IsSliceOf sl vl vu .none->Jdt vl lo->Jdt vu hi->r x lo hi H Q ->
  ∃T id,Mp (.type T) "__getitem__"=pure (some (.builtin id))/\s.TypeIs v T/\Cg (Cj X.prog X.w) X.A (Lo v (.ref sl)) (EP X pq σ Q) X.xe s
instance tSl(r:V->Option Int->Option Int->Hp->VK->Prop)(te:TE)(tl th:TO):TE:=λσ H Q=>te σ H λx H1=>tl σ H1 λl H2=>th σ H2 λu H3=>r x l u H3 Q
def Z4{r:V->Option Int->Option Int->Hp->VK->Prop}(hr:SlR X r)(he:PE X e te)(hl:PO X lo tl)(hu:PO X hi th):PE X (.Subscript e (.Slice lo hi none p2) pos) (tSl r te tl th):=by
 intro pq s σ H Q I h;refine Jeb (thn (he pq s σ H _ I h) λv s1 hz=>?_);let⟨x,H1,I1,r1,q1⟩:=hz;refine wpAny_Slice (thn (hl pq s1 σ H1 _ I1 q1) λvl s2⟨l,H2,I2,pl,q2⟩=>thn (hu pq s2 σ H2 _ I2 q2) λvu s3 hz=>?_);let⟨u,H3,I3,pu,q3⟩:=hz;rw[Jdv];refine Fk ?_;let I4:Inv X pq σ H3 {s3 with heap:=s3.heap.push {cls:=.type "slice",data:=.fields #[vl,vu,.none]} }:=I3.kept (t':=s3.toks) λb ob q=>Fl _ q;let⟨T,id,hT,ht,hg⟩:=hr pq {s3 with heap:=s3.heap.push {cls:=.type "slice",data:=.fields #[vl,vu,.none]} } σ H3 x v vl vu l u s3.heap.objs.size Q I4 r1 (Jdw ..) pl pu q3
 show Cg (Cj X.prog X.w) X.A (Ja6 e (.Slice lo hi none p2) v (.ref s3.heap.objs.size)) (EP X pq σ Q) X.xe {s3 with heap:=s3.heap.push {cls:=.type "slice",data:=.fields #[vl,vu,.none]} };exact tail_any (ops:=[.ref s3.heap.objs.size,v]) ht hT hg (by with_unfolding_all rfl)
instance cutV(xs:List V)(lo hi:Option Int):List V:=(xs.drop (HT.sIx xs.length 0 lo)).take (HT.sIx xs.length xs.length hi-HT.sIx xs.length 0 lo)
def Ry(xs:List V)(lo hi:Option Int):(cutV xs lo hi).length<=xs.length:=by
 unfold cutV;rw[J0,Gb];lia
instance Zjl(K:Cs):R2:=λx y H Q=>∃a b xs ys,x=.ref a/\y=.ref b/\SqT K H a xs/\SqT K H b ys/\xs≠[]/\xs.length+ys.length<=Cb /\
 (ys=[]->Q (.ref a) H)/\(ys≠[]->∀p,H p=none->Q (.ref p) (upd H p (.tup (xs++ys))))
def Vals.nil_iff(r:Vals xs us):us=[]↔xs=[]:=by
 cases r with
 |nil=>simp
 |cons _ _=>simp
def Zbs:OpR X (Hd .Add) (Zjl X.K):=by
 intro pq s σ H x y v u Q I rx ry h;let⟨a,b,xs,ys,rfl,rfl,ha,hb,hx,hz,q1,q2⟩:=h;cases rx;cases ry;let⟨its,r1,p1,_⟩:=I.tuple ha;let⟨its2,r2,p2,_⟩:=I.tuple hb;refine HT.cat_tup p1 p2 (λz=>hx (r1.nil_iff.mp z)) (λz=>⟨.ref a,H,I,rfl,q1 (r2.nil_iff.mp z)⟩) (λz=>?_) (by rw[<-r1.length,<-r2.length];exact hz);exists .ref s.heap.objs.size,_,I.laid (t':=s.toks) (o:=.tup (xs++ys)) (λb ob q=>Fl _ q) (Jd _) ?_,rfl,q2 (λw=>z (r2.nil_iff.mpr w)) _ (I.hok.fresh (Jd _));exists by rw[Jc];exact hz,_,r1.append r2,Up.new _ _
end
instance ixN(n:Nat)(i:Int):Option Nat:=if 0<=i then(if i<n then some i.toNat else none)else if -(n:Int)<=i then some (i+n).toNat else none
instance atI{α:Type}(xs:List α)(i:Int):Option α:=(ixN xs.length i).bind λj=>xs[j]?
def Zg5{n:Nat}{i:Int}(h:ixN n i=some j):seqIndex? i n=some j/\j<n/\-(n:Int)<=i/\i<n:=by
 unfold ixN at h
 by_cases h0:0<=i
 .rw[Fp h0]at h
  by_cases h1:i<n
  .rw[Fp h1]at h;let e:i.toNat=j:=Fu h;exists by rw[Jfh h0 h1,e],(),(),h1
  .rw[Fo h1]at h;cases h
 .rw[Fo h0]at h
  by_cases h1:-(n:Int)<=i
  .rw[Fp h1]at h;let e:(i+n).toNat=j:=Fu h;exact⟨by rw[Jet () h1,e],(),h1,()⟩
  .rw[Fo h1]at h;cases h
def Zcj{α:Type}{xs:List α}{i:Int}{v:α}(h:atI xs i=some v):∃j,seqIndex? i xs.length=some j/\xs[j]?=some v/\j<xs.length/\-(xs.length:Int)<=i/\i<xs.length:=by
 unfold atI at h;cases e:ixN xs.length i with
 |none=>rw[e]at h;cases h
 |some j =>
  rw[e]at h;let⟨h1,h2,h3,h4⟩:=Zg5 e;exists j,h1,h,h2,h3,h4
def Wh{α:Type}{xs:List α}{v:α}(h:xs[j]?=some v):atI xs (j:Int)=some v:=by
 let hj:j<xs.length:=(Jf.mp h).1;let e:ixN xs.length (j:Int)=some j:=by
  unfold ixN;rw[Fp (),Fp ()];simp
 unfold atI;rw[e];exact h
instance Zo4(b:Expr):Prop:=∀o i,Ja7 b false o i=Jhp [o,i] (Lo o i)
instance IxR(X:Cx)(r:R2):Prop :=
 ∀(value slice:Expr)(pq:List (Addr×Obj))(s:Cc)(σ:St)(H:Hp)(x y:V)(v u:Ca)(Q:VK),Inv X pq σ H s->RelV x v->RelV y u->r x y H Q ->
  Ja7 slice false v u=Jhp [v,u] (Lo v u)->Cg (Cj X.prog X.w) X.A (Ja6 value slice v u) (EP X pq σ Q) X.xe s
instance MtR(X:Cx)(id:String)(r:V->List V->Hp->VK->Prop):Prop :=
 ∀(pq:List (Addr×Obj))(s:Cc)(σ:St)(H:Hp)(x:V)(xs:List V)(v:Ca)(us:List Ca)(Q:VK),Inv X pq σ H s->RelV x v->Vals xs us->r x xs H Q ->
  Cg (Cj X.prog X.w) X.A (call (.builtin id) (v::us)) (EP X pq σ Q) X.xe s
section
variable{a b:Expr} 
def IxR.or{r':R2}(h:IxR X r)(h':IxR X r'):IxR X (λx y H Q=>r x y H Q\/r' x y H Q):=by
 intro value slice pq s σ H x y v u Q I rx ry q hs;rcases q with q|q
 .exact h value slice pq s σ H x y v u Q I rx ry q hs
 .exact h' value slice pq s σ H x y v u Q I rx ry q hs
def Zz(hr:IxR X r)(ha:PE X a ta)(hb:PE X b tb)(hs:Zo4 b):PE X (.Subscript a b pos) (tOp r ta tb):=by
 intro pq s σ H Q I h;exact Jeb (binT ha hb I h λv u s2 x y H2 I2 rx ry q=>hr a b pq s2 σ H2 x y v u Q I2 rx ry q (hs _ _))
instance rIxL(K:Cs):R2:=λx y H Q=>∃p xs i v,x=.ref p/\y=.int i/\SqL K H p xs/\atI xs i=some v/\Q v H
instance rIxT(K:Cs):R2:=λx y H Q=>∃p xs i v,x=.ref p/\y=.int i/\SqT K H p xs/\atI xs i=some v/\Q v H
instance rIxS:R2:=λx y H Q=>∃z i c,x=.str z/\y=.int i/\z.length<=Cb/\atI z.cps.toList i=some c/\Q (.str ⟨#[c]⟩) H
def Xd:IxR X (rIxL X.K):=by
 intro value slice pq s σ H x y v u Q I rx ry h hs;let⟨p,xs,i,z,rfl,rfl,hq,he,q⟩:=h;cases rx;let⟨t,rfl⟩:=ry;let⟨its,r,pl,hz⟩:=I.list hq;let⟨j,h1,h2,h3,h4,h5⟩:=Zcj he;let⟨w,ew,rw'⟩:=r.get h2;let hl:=r.length;let hn:=Q3;let fin:EP X pq σ Q w s:=⟨z,H,I,rw',q⟩
 by_cases h0:0<=i
 .let hj:i.toNat=j:=by
   rw[Jfh h0 h5]at h1;exact Fu h1
  exact item_listR pl.isList h0 () (by rw[hj];simpa using ew) fin hs
 .let hj:(i+(its.toArray.size:Int)).toNat=j:=by
   rw[Jet () h4]at h1;rw[Jq,<-hl];exact Fu h1
  exact Jct (x:=w) pl.isList.typeIs slot_list_getitem.lookup
   (wpAny_getItem_list_neg (Q:=λr s'=>r=w/\EP X pq σ Q r s') pl.isList () (by rw[Jq]<;>lia) () (by rw[hj];simpa using ew) ⟨rfl,fin⟩) hs
def Zlc:IxR X (rIxT X.K):=by
 intro value slice pq s σ H x y v u Q I rx ry h hs;let⟨p,xs,i,z,rfl,rfl,hq,he,q⟩:=h;cases rx;let⟨t,rfl⟩:=ry;let⟨its,r,pl,hz⟩:=I.tuple hq;let⟨j,h1,h2,h3,h4,h5⟩:=Zcj he;let⟨w,ew,rw'⟩:=r.get h2;let hl:=r.length;let hn:=Q3;let fin:EP X pq σ Q w s:=⟨z,H,I,rw',q⟩;exact Jct (x:=w) pl.typeIs slot_tuple_getitem.lookup
  (getItem_tuple (j:=j) (Q:=λr s'=>r=w/\EP X pq σ Q r s') pl () () (by rw[Jq,<-hl];exact h1) (by simpa using ew) ⟨rfl,fin⟩) hs
def Zrz:IxR X rIxS:=by
 intro value slice pq s σ H x y v u Q I rx ry h hs;let⟨z,i,c,rfl,rfl,hz,he,q⟩:=h;let⟨t,rfl⟩:=rx;let⟨t',rfl⟩:=ry;let⟨j,h1,h2,h3,h4,h5⟩:=Zcj he;let hl:z.cps.toList.length=z.length:=by simp[Str.length]
 rw[hl]at h1 h4 h5;let hn:=Q3;exact tail_any (Jgh s z t) slot_str_getitem.lookup (getItem_str (c:=c) (by
  let e1:decide (i < -(2 ^ 63:Int))=false:=Ft ();let e2:decide (i≥2 ^ 63)=false:=Ft ();rw[e1,e2,Bool.or_false]) (by rw[h1];simpa using h2) ⟨.str ⟨#[c]⟩,H,I.tok _,⟨_,rfl⟩,q⟩) hs
instance rIx(K:Cs):R2:=λx y H Q=>rIxL K x y H Q\/rIxT K x y H Q\/rIxS x y H Q
def Zr0:IxR X (rIx X.K):=Xd.or (Zlc.or Zrz)
def Zeh(its:List Ca)(n j:Nat)(u:Ca):Ea (·.setIfInBounds j u) {cls:=.type "list",data:=.seq its.toArray n}={cls:=.type "list",data:=.seq (its.set j u).toArray n}:=by
 simp[Ea]
def Inv.lst{pq:List (Addr×Obj)}{σ:St}{H:Hp}{s:Cc}{p:Addr}{xs:List V}(I:Inv X pq σ H s)(h:H p=some (.lst xs)) :
  ∃(its:List Ca)(n:Nat),Vals xs its/\s.heap.get? p=some {cls:=.type "list",data:=.seq its.toArray n}/\xs.length<=Cb:=by
 let⟨z,its,n,r,e⟩:=I.hok p _ h;exists its,n,r,e,z
def Inv.lstUpd{p:Addr}{its':List Ca}{n n':Nat}{f:Obj->Obj}(I:Inv X pq σ H s)(h:H p=some (.lst xs))(ho:s.heap.get? p=some {cls:=.type "list",data:=.seq its.toArray n})(hf:f {cls:=.type "list",data:=.seq its.toArray n}={cls:=.type "list",data:=.seq its'.toArray n'})(r:Vals ys its')(hz:ys.length<=Cb)(t:Nat) :
  Inv X pq σ (upd H p (.lst ys)) {s with heap:=s.heap.update p f,toks:=t}:=by
 let e:(s.heap.update p f).get? p=some {cls:=.type "list",data:=.seq its'.toArray n'}:=by
  rw[Cy f ho (by rw[hf]<;>rfl),hf]
 refine I.write (x:=p) (e:=p) (by rw[h];trivial) (.inl rfl) (λb u hb q=>(Ch _ _ (Cv hb)).trans q) ⟨_,e⟩ ?_;exists hz,its',n',r,e
instance Zq9:V->V->V->Hp->(Hp->Prop)->Prop:=λo i v H Q=>∃p xs k j,o=.ref p/\i=.int k/\H p=some (.lst xs)/\ixN xs.length k=some j/\Q (upd H p (.lst (xs.set j v)))
def U7:PSet X Zq9:=by
 intro pq s σ H o i v ov iv u Q I ro ri rv h;let⟨p,xs,k,j,rfl,rfl,hp,hj,q⟩:=h;cases ro;let⟨t,rfl⟩:=ri;let⟨its,n,r,ho,hz⟩:=I.lst hp;let⟨h1,h2,h3,h4⟩:=Zg5 hj;let hl:=r.length;let hn:=Q3;let I':Inv X pq σ (upd H p (.lst (xs.set j v))) {s with heap:=s.heap.update p (Ea (·.setIfInBounds j u))} :=
  I.lstUpd hp ho (Zeh its n j u) (r.set rv j) (by rw[Gi];exact hz) s.toks
 by_cases h0:0<=k
 .let hk:k.toNat=j:=by
   rw[Jfh h0 h4]at h1;exact Fu h1
  exact W.ki_setAt ho h0 () (by rw[Jq,<-hl];exact h4) (by rw[hk];exact⟨_,I',q⟩)
 .let hk:(k+(its.toArray.size:Int)).toNat=j:=by
   rw[Jet () h3]at h1;rw[Jq,<-hl];exact Fu h1
  exact W.ki_setBack ho () (by rw[Jq,<-hl];exact h3) () (by rw[hk];exact⟨_,I',q⟩)
def Nz(lo hi:Option Int)(n:Nat):(K8 lo hi none n).1=((HT.sIx n 0 lo:Nat):Int)/\(K8 lo hi none n).2.1=((HT.sIx n n hi:Nat):Int)/\(K8 lo hi none n).2.2=1:=by
 exists ?_,?_,rfl
 .cases lo with
  |none=>simp[K8,HT.sIx]
  |some i =>
   simp only[K8,HT.sIx,Jez,show(1:Int) > 0 by decide,if_true]
   by_cases h:i<0
   .simp only[h,if_true]<;>lia
   .simp only[h,if_false]<;>lia
 .cases hi with
  |none=>simp[K8,HT.sIx]
  |some i =>
   simp only[K8,HT.sIx,Jez,show(1:Int) > 0 by decide,if_true]
   by_cases h:i<0
   .simp only[h,if_true]<;>lia
   .simp only[h,if_false]<;>lia
def Pj(its:List Ca)(lo hi:Option Int):slicePick its.toArray lo hi none=((its.drop (HT.sIx its.length 0 lo)).take (HT.sIx its.length its.length hi-HT.sIx its.length 0 lo)).toArray:=by
 let⟨h1,h2,h3⟩:=Nz lo hi its.toArray.size;unfold slicePick;rw[h1,h2,h3];simp only[sliceRange_one,pick_run,Jq]<;>rfl
instance rSlL(K:Cs):V->Option Int->Option Int->Hp->VK->Prop:=λx lo hi H Q=>∃a xs,x=.ref a/\SqL K H a xs/\∀p,H p=none->Q (.ref p) (upd H p (.lst (cutV xs lo hi)))
def Tq:SlR X (rSlL X.K):=by
 intro pq s σ H x v vl vu lo hi sl Q I rx hs pl pu h;let⟨a,xs,rfl,hx,q⟩:=h;cases rx;let⟨its,r,ht,hz⟩:=I.list hx;let hlen:=r.length;refine⟨"list",_,slot_list_getitem.lookup,ht.isList.typeIs,?_⟩;refine Mq ht.isList hs pl pu .none (by simp) ?_ (by rw[Jq]<;>lia);rw[Pj,<-hlen];refine⟨.ref s.heap.objs.size,_,I.laid (t':=s.toks) (o:=.lst (cutV xs lo hi)) (λb ob q=>Fl _ q) (Jd _) ?_,rfl,q _ (I.hok.fresh (Jd _))⟩;exact⟨Ga (Ry xs lo hi) hz,_,0,(r.drop (HT.sIx xs.length 0 lo)).take (HT.sIx xs.length xs.length hi-HT.sIx xs.length 0 lo),Fm _ rfl⟩
def Sf:Wv X (.type "list") (λxs H Q=>∃p ys,xs=[.ref p]/\(SqL X.K H p ys\/SqT X.K H p ys)/\∀l,H l=none->Q (.ref l) (upd H l (.lst ys))):=by
 intro pq s σ H xs us Q I r h;let⟨p,ys,rfl,hq,q⟩:=h;let⟨u,rfl,rx⟩:=Sr r;cases rx;let fin:∀(its:List Ca),Vals ys its->ys.length<=Cb->∀(h':Heap)(c':Nat),(∀b o',s.heap.get? b=some o'->h'.get? b=some o') ->
   h'.get? s.heap.objs.size=some {cls:=.type "list",dict:=none,data:=.seq its.toArray c',slots:=#[]}->EP X pq σ Q (.ref s.heap.objs.size) {s with heap:=h'}:=λits r' hz h' c' kp e =>
  ⟨.ref s.heap.objs.size,_,I.laid (t':=s.toks) kp (Jd _) (show Yv X.prog X.w _ h' _ (.lst ys)from⟨hz,its,c',r',e⟩),rfl,q _ (I.hok.fresh (Jd _))⟩
 rcases hq with hq|hq
 .let⟨its,r',pl,hz⟩:=I.list hq;let hlen:=r'.length;let⟨o,ho,hc,n,hd⟩:=pl.isList;exact call_list_seq p (.inl rfl) ho hc hd (λh' c' kp e=>fin its r' hz h' c' kp e) (by simp only[Jq]<;>lia)
 .let⟨its,r',pl,hz⟩:=I.tuple hq;let hlen:=r'.length;let⟨o,ho,hc,n,hd⟩:=pl;exact call_list_seq p (.inr rfl) ho hc hd (λh' c' kp e=>fin its r' hz h' c' kp e) (by simp only[Jq]<;>lia)
def Th:Wv X (.type "tuple") (λxs H Q=>∃p ys,xs=[.ref p]/\((SqL X.K H p ys/\∀l,H l=none->Q (.ref l) (upd H l (.tup ys)))\/(SqT X.K H p ys/\Q (.ref p) H))):=by
 intro pq s σ H xs us Q I r h;let⟨p,ys,rfl,h⟩:=h;let⟨u,rfl,rx⟩:=Sr r;cases rx;rcases h with⟨hq,q⟩|⟨hq,q⟩
 .let⟨its,r',pl,hz⟩:=I.list hq;let hlen:=r'.length;refine call_tuple_list pl.isList (λh' kp=>?_) (by simp only[Jq]<;>lia);let I1:Inv X pq σ H {s with heap:=h'}:=I.kept (t':=s.toks) kp;let I2:Inv X pq σ (upd H h'.objs.size (.tup ys)) {s with heap:=h'.push {cls:=.type "tuple",data:=.seq its.toArray} } :=
   I1.laid (t':=s.toks) (λb o e=>Fl _ e) (Jd _) (show Yv X.prog X.w _ _ _ (.tup ys)from⟨hz,its,r',Up.new _ _⟩)
  exists .ref h'.objs.size,_,I2,rfl,q _ (I1.hok.fresh (Jd _))
 .let⟨its,r',pl,hz⟩:=I.tuple hq;exact call_tuple_same pl ⟨.ref p,H,I,rfl,q⟩
instance tyV(K:Cs)(T:String)(x:V)(H:Hp):Prop:=match x with
 |.str _=>T="str"
 |.int _=>T="int"
 |.ref p=>(T="list"/\∃xs,SqL K H p xs)\/(T="tuple"/\∃o,K.lookup p=some o/\o.cls=.type "tuple"/\o.dict=none) \/
   (T="dict"/\((∃kvs,H p=some (.dK kvs))\/∃kvs,H p=some (.dT kvs)))\/(T="set"/\∃S n,H p=some (.set S n))
 |_=>False
def Zko{T:String}{x:V}{v:Ca}(I:Inv X pq σ H s)(r:RelV x v)(ty:tyV X.K T x H) :
  s.TypeIs v T/\∀a,v=.ref a->∃ob,s.heap.get? a=some ob/\ob.dict=none:=by
 cases x with
 |str z =>
  let⟨t,rfl⟩:=r;cases(show T="str" from ty);exists Jgh s z t,λ_ e=>nomatch e
 |int i =>
  let⟨t,rfl⟩:=r;cases(show T="int" from ty);exists Jgi s i t,λ_ e=>nomatch e
 |ref p =>
  cases r;rcases ty with⟨rfl,xs,hq⟩|⟨rfl,o,hk,hc,hd⟩|⟨rfl,hk⟩|⟨rfl,S,n,hk⟩
  .let⟨its,_,pl,_⟩:=I.list hq;exists pl.isList.typeIs,λa e=>?_;cases e;let⟨o,n,e,c,hd,_⟩:=pl;exists o,e,hd
  .exists⟨o,I.kIn p o hk,hc⟩,λa e=>?_;cases e;exists o,I.kIn _ o hk,hd
  .let z:∃o,s.heap.get? p=some o/\o.ExactDict:=by
    rcases hk with⟨kvs,hk⟩|⟨kvs,hk⟩
    .let⟨_,_,_,_,o,_,_,e,ex,_⟩:=I.hok p _ hk;exists o,e,ex
    .let⟨_,_,_,_,o,_,_,e,ex,_⟩:=I.hok p _ hk;exists o,e,ex
   let⟨o,e,ex⟩:=z;exists⟨o,e,ex.1⟩,λa e2=>?_;cases e2;exists o,e,ex.2.1
  .let⟨o,_,_,_,e,ex,_⟩:=I.hok p _ hk;exists⟨o,e,ex.1⟩,λa e2=>?_;cases e2;exists o,e,ex.2.1
 |_=>exact Cq ty
instance tBM(K:Cs)(T:String)(r:V->List V->Hp->VK->Prop)(to:TE)(t:TA):TE:=λσ H Q=>to σ H λx H1=>tyV K T x H1/\t σ H1 λxs H2=>r x xs H2 Q
variable{o e:Expr}{t:TA}{T id:String}{r:V->List V->Hp->VK->Prop}
def Ql(pa:PlainAttrs T)(slot:Slot T name id)(hty:typeOf (.builtin id)=pure (.type "method_descriptor"))(hm:MtR X id r)(ho:PE X o to)(ha:PA X (e::es) t)(hbase:E9 o name X.env (eval o X.env)=eval o X.env:=by rfl)(hfew:((Kg cpos (Cp (e::es) X.env)).all (λx=>!x.1)&&(Jda cpos (K7 [] X.env)).all (λx=>x.1.isSome)
   && decide ((e::es).length+([]:List Jfg).length+(if([]:List Jfg).isEmpty then 0 else 1)<30))=true:=by rfl)(hline:(apos.endLine==cpos.line)=true:=by rfl)(hs:Cp (e::es) X.env=(false,eval e X.env)::Cp es X.env:=by rfl)(hplain:(Kg cpos (Cp es X.env)).any (·.1)=false:=by rfl) :
  PE X (.Call (.Attribute o name apos) (e::es) [] cpos) (tBM X.K T r to t):=by
 intro pq s σ H Q I h;refine wpAny_Call_method_late hbase hfew hline rfl (thn (ho pq s σ H _ I h) λv s1 hz=>?_);let⟨x,H1,I1,r1,ty,q1⟩:=hz;let⟨h1,h2⟩:=Zko I1 r1 ty;refine⟨T,id,pa,slot,hty,h1,h2,?_⟩;let hA:=ha cpos pq s1 σ H1 _ I1 q1;rw[hs]at hA⊢;refine K1 (by show(false ||(Kg cpos (Cp es X.env)).any (·.1))=false;rw[hplain]<;>rfl) (Jdf ?_);exact thn hA λus s2⟨vs,H2,I2,r2,q2⟩=>hm pq s2 σ H2 x vs v us Q I2 r1 r2 q2
end
instance MtM(X:Cx)(id:String)(r:V->List V->Hp->VK->Prop):Prop :=
 ∀(pq:List (Addr×Obj))(s:Cc)(σ:St)(H:Hp)(x:V)(xs:List V)(v:Ca)(us:List Ca)(Q:VK),Inv X pq σ H s->RelV x v->Vals xs us->r x xs H Q ->
  Cg (Cj X.prog X.w) X.A (call (.builtin id) (v::us)) (EP X pq σ Q) X.xe s
def Vals.one:∀{x:V}{us:List Ca},Vals [x] us->∃u,us=[u]/\RelV x u
 |_,_,.cons r .nil=>⟨_,rfl,r⟩
def Vals.rep(h:Vals xs us):∀k:Nat,Vals (Cm k xs).flatten (Cm k us).flatten
 |0=>.nil
 |k+1=>by
  rw[G2,G2,Bl,Bl];exact Vals.append h (Vals.rep h k)
def Zam(its:List Ca):∀(k:Nat)(acc:List Ca),
  Jgj (λx1 x2=>x1++x2) acc.toArray (Cm k its.toArray)=(acc++(Cm k its).flatten).toArray
 |0,acc=>by simp
 |k+1,acc=>by
  let e:acc.toArray++its.toArray=(acc++its).toArray:=by simp
  let e2:(acc++its)++(Cm k its).flatten=acc++(Cm (k+1) its).flatten:=by
   rw[G2,Bl,Gc]
  rw[<-e2,<-Zam its k (acc++its),<-e,G2,List.foldl_cons]
section
def Inv.lset{its':List Ca}{n:Nat}{f:Array Ca->Array Ca}(I:Inv X pq σ H s)(hH:H l=some (.lst xs))(e:s.heap.get? l=some {cls:=.type "list",data:=.seq its.toArray n})(hf:f its.toArray=its'.toArray)(hv:Vals ys its')(hz:ys.length<=Cb) :
  Inv X pq σ (upd H l (.lst ys)) {s with heap:=s.heap.update l (Ea f),toks:=t'}:=by
 let q:=PySem.IsL.update e f;rw[hf]at q;refine I.write (x:=l) (e:=l) (by rw[hH];exact trivial) (.inl rfl) (λb' u hb hu=>(Ch s.heap (Ea f) (Cv hb)).trans hu) ⟨_,q⟩ ?_;exists hz,its',_,hv,q
def Inv.lnew(I:Inv X pq σ H s)(hv:Vals ys its)(hz:ys.length<=Cb) :
  Inv X pq σ (upd H s.heap.objs.size (.lst ys)) {s with heap:=s.heap.push {cls:=.type "list",data:=.seq its.toArray},toks:=t'} :=
 I.laid (λ_ _ q=>Fl _ q) (Jd _) ⟨hz,its,0,hv,Fm _ rfl⟩
def Inv.fresh(I:Inv X pq σ H s):H s.heap.objs.size=none:=I.hok.fresh (Jd _)
def Inv.lstM(I:Inv X pq σ H s)(hH:H l=some (.lst xs)):xs.length<=Cb/\∃(its:List Ca)(n:Nat),Vals xs its/\xs.length=its.length/\s.heap.get? l=some {cls:=.type "list",data:=.seq its.toArray n}:=by
 let⟨z,its,n,r,e⟩:=I.hok l _ hH;exists z,its,n,r,r.length,e
def Zj0{n:Nat}(h:n<=Cb):Ku n=false:=by
 unfold Ku;exact Ft ()
end
section
instance Zbo:V->List V->Hp->VK->Prop:=λx vs H Q=>∃l xs y,x=.ref l/\vs=[y]/\H l=some (.lst xs)/\xs.length<Cb/\Q .non (upd H l (.lst (xs++[y])))
def Xl:MtM X "list.append" Zbo:=by
 intro pq s σ H x vs v us Q I rx rv h;let⟨l,xs,y,rfl,rfl,hH,hz,q⟩:=h;cases rx;let⟨u,rfl,ru⟩:=rv.one;let⟨z,its,n,r,hl,e⟩:=I.lstM hH;refine Jdb F.slot_list_append ⟨_,e,rfl⟩ F.entry_list_append (F.args_list_append_2 _ _) (PySem.list_append l its.toArray n u (by rw[Jq];lia)) ⟨e,?_⟩;exists .non,_,I.lset (its':=its++[u]) hH e (by simp) (r.append (.cons ru .nil)) ?_,rfl,q;rw[Jc,Gj];lia
instance rCat:R2:=λx y H Q=>∃l b xs zs,x=.ref l/\y=.ref b/\H l=some (.lst xs)/\H b=some (.lst zs)/\xs.length+zs.length<=Cb/\∀p,H p=none->Q (.ref p) (upd H p (.lst (xs++zs)))
def Zad:OpR X (Hd .Add) rCat:=by
 intro pq s σ H x y v u Q I rx ry h;let⟨l,b,xs,zs,rfl,rfl,hH,hB,hz,q⟩:=h;cases rx;cases ry;let⟨z,its,n,r,hl,e⟩:=I.lstM hH;let⟨z2,its2,n2,r2,hl2,e2⟩:=I.lstM hB;refine PySem.P.add_list e e2 ?_ (by rw[Jq,Jq];lia);let ea:its.toArray++its2.toArray=(its++its2).toArray:=by simp
 rw[ea];exists .ref _,_,I.lnew (t':=s.toks) (r.append r2) (by rw[Jc];lia),rfl,q _ I.fresh
instance rRep:R2:=λx y H Q=>∃l k xs,x=.ref l/\y=.int k/\H l=some (.lst xs)/\-(2 ^ 63)<=k/\k<2 ^ 63/\xs.length*k.toNat<=Cb /\
 ∀p,H p=none->Q (.ref p) (upd H p (.lst (Cm k.toNat xs).flatten))
def Znu{α:Type}(xs:List α)(k:Nat):(Cm k xs).flatten.length=k*xs.length:=by
 induction k with
 |zero=>simp
 |succ k ih=>rw[G2,Bl,Jc,ih,Nat.succ_mul,Nat.add_comm]
def Zrk:OpR X (Hd .Mult) rRep:=by
 intro pq s σ H x y v u Q I rx ry h;let⟨l,k,xs,rfl,rfl,hH,h1,h2,hz,q⟩:=h;cases rx;let⟨t,rfl⟩:=ry;let⟨z,its,n,r,hl,e⟩:=I.lstM hH;let hlen:its.toArray.size*k.toNat<=Cb:=by rw[Jq,<-hl];exact hz
 let hcap:¬ its.toArray.size*k.toNat > (2 ^ 63-1) / 8:=by
  let:(Cb:Nat)<=(2 ^ 63-1) / 8:=by decide
  lia
 let hfit:¬ (!Builtin.List.listFitsIndex k)=true:=by
  rw[fitsIndex_both h1 h2];exact Jv
 let hlong:¬ Ku (its.toArray.size*k.toNat)=true:=by
  rw[Zj0 hlen];exact Jv
 let hnew:Jgj (λx1 x2=>x1++x2) #[] (Cm (if its.toArray.isEmpty=true then 0 else k.toNat) its.toArray)=(Cm k.toNat its).flatten.toArray:=by
  let f0:∀m:Nat,Jgj (λx1 x2=>x1++x2) #[] (Cm m its.toArray)=(Cm m its).flatten.toArray:=λm=>by
   let:=Zam its m [];rw[Bw]at this;exact this
  rw[f0];cases its with
  |nil=>simp
  |cons a r'=>rw[Fo (by simp)]
 refine wpAny_binaryOp_repeat_ref (T:="list") (U:="int") nofun ⟨_,e,rfl⟩ (λs'=>Jgi s' k t) noFill_list_mul F.fills_int_mul Jfi repeat_list F.slot_int_index.lookup
  (Jdb Jfi (Jgi s k t) F.entry_int_rmul (F.args_int_rmul_2 _ _) (int___rmul___int_list k t l its.toArray n)
   ⟨e,rfl,⟨_,e,rfl⟩,Jdb F.slot_list_mul ⟨_,e,rfl⟩ F.entry_list_mul (F.args_list_mul_2 _ _) (AutoListH.list___mul___list_int_3 l its.toArray n k t hfit hcap hlong) ⟨e,?_⟩⟩)
 rw[hnew];exists .ref _,_,I.lnew (t':=s.toks) (r.rep k.toNat) (by rw[Znu,Nat.mul_comm];exact hz),rfl,q _ I.fresh
end
section
variable[DecidableEq κ]
instance valV(kvs:List (κ×V))(k:κ):Option V:=(kvs.find? λkv=>decide (kv.1=k)).map (·.2)
instance putK(kvs:List (κ×V))(k:κ)(v:V):List (κ×V) :=
 if(kvs.any λkv=>decide (kv.1=k))=true then kvs.map (λkv=>if kv.1=k then(kv.1,v)else kv)else kvs++[(k,v)]
def Zim{k:κ}:valV ([]:List (κ×V)) k=none:=rfl
def Xi{p:κ×V}{r:List (κ×V)}{k:κ}(e:p.1=k):valV (p::r) k=some p.2:=by simp[valV,G7,e]
def Xj{p:κ×V}{r:List (κ×V)}{k:κ}(e:¬ p.1=k):valV (p::r) k=valV r k:=by simp[valV,G7,e]
def Si(k:κ):∀kvs:List (κ×V),(kvs.any λkv=>decide (kv.1=k))=(valV kvs k).isSome
 |[]=>rfl
 |p::r=>by
  rw[Br]
  by_cases e:p.1=k
  .simp only[Xi e,Fs e,Bool.true_or,Option.isSome_some]
  .rw[Xj e,Ft e,Jgy];exact Si k r
def Zcs(k j:κ)(y:V):∀kvs:List (κ×V),valV (kvs.map λkv=>if kv.1=k then(kv.1,y)else kv) j=(valV kvs j).map λx=>if j=k then y else x
 |[]=>rfl
 |p::r=>by
  let ih:=Zcs k j y r;rw[Jk]
  by_cases h:p.1=k
  .rw[Fp h]
   by_cases e:p.1=j
   .rw[Xi (p:=(p.1,y)) e,Xi e,Bx,Fp (e.symm.trans h)]
   .rw[Xj (p:=(p.1,y)) e,Xj e,ih]
  .rw[Fo h]
   by_cases e:p.1=j
   .rw[Xi (p:=p) e,Xi e,Bx,Fo (λz=>h (e.trans z))]
   .rw[Xj (p:=p) e,Xj e,ih]
def Nv(k j:κ)(y:V):∀kvs:List (κ×V),valV kvs k=none->valV (kvs++[(k,y)]) j=if j=k then some y else valV kvs j
 |[],_=>by
  by_cases e:k=j
  .rw[Fp e.symm];exact Xi (p:=(k,y)) e
  .rw[Fo (λz=>e z.symm)];exact Xj (p:=(k,y)) e
 |p::r,hn=>by
  rw[Je0];let hk:¬ p.1=k:=λz=>by rw[Xi z]at hn;cases hn
  rw[Xj hk]at hn;let ih:=Nv k j y r hn
  by_cases e:p.1=j
  .rw[Xi e,Xi e,Fo (λz=>hk (e.trans z))]
  .rw[Xj e,Xj e,ih]
def Ph(kvs:List (κ×V))(k j:κ)(y:V):valV (putK kvs k y) j=if j=k then some y else valV kvs j:=by
 unfold putK
 by_cases a:(kvs.any λkv=>decide (kv.1=k))=true
 .rw[Fp a,Zcs];rw[Si]at a
  by_cases e:j=k
  .let⟨x,hx⟩:=Option.isSome_iff_exists.mp a;rw[Fp e,e,hx,Bx,Fp rfl]
  .rw[Fo e];cases valV kvs j with
   |none=>rfl
   |some x=>rw[Bx,Fo e]
 .rw[Fo a];refine Nv k j y kvs ?_;rw[Si]at a;cases q:valV kvs k with
  |none=>rfl
  |some x=>rw[q]at a;exact(a rfl).elim
def Xt(kvs:List (κ×V))(k:κ)(v:V):(putK kvs k v).length<=kvs.length+1:=by
 unfold putK
 split
 .rw[Ja];lia
 .rw[Jc,Ju,Bt];lia
def RelO.isSome_eq{o:Option V}{u:Option Ca}(r:RelO o u):o.isSome=u.isSome:=by
 cases o with
 |none=>cases u with
  |none=>rfl
  |some _=>exact(show False from r).elim
 |some _=>cases u with
  |none=>exact(show False from r).elim
  |some _=>rfl
def RelO.getD{o:Option V}{u:Option Ca}{d:V}{d':Ca}(r:RelO o u)(rd:RelV d d'):RelV (o.getD d) (u.getD d'):=by
 cases o with
 |none=>cases u with
  |none=>exact rd
  |some _=>exact(show False from r).elim
 |some _=>cases u with
  |none=>exact(show False from r).elim
  |some _=>exact r
def KV.val{kvs:List (κ×V)}{vs:List (κ×Ca)}(r:KV kvs vs)(k:κ):RelO (valV kvs k) (Jec vs k):=by
 unfold KV at r
 induction r with
 |nil=>exact Ek
 | @cons p q ps qs h t ih =>
  let⟨h1,h2⟩:=h
  by_cases e:p.1=k
  .let e':q.1=k:=h1.symm.trans e;let b:Jec (q::qs) k=some q.2:=by simp[Jec,G7,e']
   rw[Xi e,b];exact h2
  .let e':¬ q.1=k:=λz=>e (h1.trans z);let b:Jec (q::qs) k=Jec qs k:=by simp[Jec,G7,e']
   rw[Xj e,b];exact ih
def KV.any{kvs:List (κ×V)}{vs:List (κ×Ca)}(r:KV kvs vs)(k:κ):(kvs.any λkv=>decide (kv.1=k))=vs.any λkv=>decide (kv.1=k):=by
 unfold KV at r
 induction r with
 |nil=>rfl
 |cons h t ih=>rw[Br,Br,ih,h.1]
def KV.repl{kvs:List (κ×V)}{vs:List (κ×Ca)}(r:KV kvs vs)(k:κ){y:V}{u:Ca}(ry:RelV y u) :
  KV (kvs.map λkv=>if kv.1=k then(kv.1,y)else kv) (vs.map λkv=>if kv.1=k then(kv.1,u)else kv):=by
 unfold KV at r⊢
 induction r with
 |nil=>exact .nil
 | @cons p q ps qs h t ih =>
  rw[Jk,Jk];refine .cons ?_ ih;let⟨h1,h2⟩:=h
  by_cases e:p.1=k
  .rw[Fp e,Fp (h1.symm.trans e)];exists h1,ry
  .rw[Fo e,Fo (λz=>e (h1.trans z))];exists h1,h2
def KV.put{kvs:List (κ×V)}{vs:List (κ×Ca)}(r:KV kvs vs)(k:κ){y:V}{u:Ca}(ry:RelV y u):KV (putK kvs k y) (stored vs k u):=by
 unfold putK stored;rw[r.any k]
 by_cases e:(vs.any λkv=>decide (kv.1=k))=true
 .rw[Fp e,Fp e];exact r.repl k ry
 .rw[Fo e,Fo e];exact Paired.snoc r ⟨rfl,ry⟩
def KV.length{kvs:List (κ×V)}{vs:List (κ×Ca)}(r:KV kvs vs):kvs.length=vs.length:=Paired.length r
end
def Zbz{k:Key}{u:Ca}(r:RelV (kV k) u):(Yl P w).is k u=true:=by
 cases k with
 |inl i=>obtain⟨t,e⟩:=(show ∃t,u=Er i t from r);subst e;exact Zbw P w i t
 |inr x=>obtain⟨t,e⟩:=(show ∃t,u=Jcy x t from r);subst e;exact Zbv P w x t
def Zah :∀{ks:List Key}{us:List Ca},Vals (ks.map kV) us->ItemsAre (Yl P w) ks us
 |[],_,r=>by rw[Jeu]at r;cases r;exact .nil
 |k::ks,_,r=>by
  rw[Jk]at r;cases r with
  |cons h t=>exact .cons (Zbz h) (Zah t)
abbrev KT(H:Hp):List (List Key×V)->List (List Key×Addr×Ca)->Prop:=Paired λp q=>p.1=q.1/\H q.2.1=some (.tup (p.1.map kV))/\RelV p.2 q.2.2
def KT.val{xs:List (List Key×Addr×Ca)}(r:KT H kvs xs)(k:List Key):RelO (valV kvs k) ((Jg6 xs k).map (·.2)):=by
 induction r with
 |nil=>exact Ek
 | @cons p q ps qs h t ih =>
  let⟨h1,_,h2⟩:=h
  by_cases e:p.1=k
  .let e':q.1=k:=h1.symm.trans e;let b:Jg6 (q::qs) k=some q.2:=by simp[Jg6,G7,e']
   rw[Xi e,b];exact h2
  .let e':¬ q.1=k:=λz=>e (h1.trans z);let b:Jg6 (q::qs) k=Jg6 qs k:=by simp[Jg6,G7,e']
   rw[Xj e,b];exact ih
def KT.repl{xs:List (List Key×Addr×Ca)}(r:KT H kvs xs)(k:List Key){y:V}{u:Ca}(ry:RelV y u) :
  KT H (kvs.map λkv=>if kv.1=k then(kv.1,y)else kv) (xs.map (putAt k u)):=by
 induction r with
 |nil=>exact .nil
 | @cons p q ps qs h t ih =>
  rw[Jk,Jk];refine .cons ?_ ih;let⟨h1,h2,h3⟩:=h;unfold putAt
  by_cases e:p.1=k
  .rw[Fp e,Fp (h1.symm.trans e)];exists h1,h2,ry
  .rw[Fo e,Fo (λz=>e (h1.trans z))];exists h1,h2,h3
def KT.put{xs:List (List Key×Addr×Ca)}(r:KT H kvs xs)(k:List Key){b:Addr}{y:V}{u:Ca}(hb:H b=some (.tup (k.map kV)))(ry:RelV y u) :
  KT H (putK kvs k y) (storedH xs k b u):=by
 let e:(kvs.any λkv=>decide (kv.1=k))=(Jg6 xs k).isSome:=by
  rw[Si,(r.val k).isSome_eq,Mr]
 unfold putK storedH;rw[e]
 by_cases q:(Jg6 xs k).isSome=true
 .rw[Fp q,Fp q];exact r.repl k ry
 .rw[Fo q,Fo q];exact Paired.snoc r ⟨rfl,hb,ry⟩
def KT.keeps{xs:List (List Key×Addr×Ca)}(r:KT H kvs xs)(ht:∀b ys,H b=some (.tup ys)->H' b=some (.tup ys)):KT H' kvs xs :=
 Paired.mapP r λ_ _ z=>⟨z.1,ht _ _ z.2.1,z.2.2⟩
section
variable{a:Addr}
def Zq8{u:HO}(ok:HOk P w H h)(e:Rd H a u):Yv P w H h a u:=e.ok ok
def Zat{kvs:List (Key×V)}(ok:HOk P w H h)(e:Rd H a (.dK kvs)):kvs.length<=Cb/\(a==E6)=false/\∃vs,KV kvs vs/\h.DictOf (Yl P w) a vs :=
 show Yv P w H h a (.dK kvs)from Zq8 ok e
def Zok{kvs:List (Key×V)}(ok:HOk P w H h)(e:H a=some (.dK kvs)):kvs.length<=Cb/\(a==E6)=false/\∃vs,KV kvs vs/\h.DictOf (Yl P w) a vs:=Zat ok (.inl e)
def Rb{ks:List Key}(ok:HOk P w H h)(e:H a=some (.tup (ks.map kV))):(Mg (Yl P w)).is h ks a:=by
 let⟨_,its,r,o,h1,h2,n,h3,_⟩:=(show Yv P w H h a (.tup (ks.map kV))from ok a _ e);exact⟨o,its.toArray,n,h1,h2,h3,by simpa using Zah r⟩
def Zca(ok:HOk P w H h)(e:Rd H a (.dT kvs)):kvs.length<=Cb/\(a==E6)=false /\
  ∃xs,KT H kvs xs/\h.DictOfH (Mg (Yl P w)) a xs:=by
 let⟨z,y,xs,r,o,es,ep,h1,h2,h3,h4,h5⟩:=(show Yv P w H h a (.dT kvs)from Zq8 ok e);refine⟨z,y,xs,r,o,es,ep,h1,h2,h3,h4,λx hx=>?_,h5⟩;let all:∀{l:List (List Key×V)}{m:List (List Key×Addr×Ca)},KT H l m->∀x∈m,(Mg (Yl P w)).is h x.1 x.2.1:=by
  intro l m q
  induction q with
  |nil=>intro x hx;exact nomatch hx
  | @cons p q ps qs hq t ih =>
   intro x hx;rcases Jp.mp hx with e|hx
   .subst e;exact Rb ok (by rw[<-hq.1];exact hq.2.1)
   .exact ih x hx
 exact all r x hx
def Zr8(ok:HOk P w H h)(e:H a=some (.dT kvs)):kvs.length<=Cb/\(a==E6)=false /\
  ∃xs,KT H kvs xs/\h.DictOfH (Mg (Yl P w)) a xs:=Zca ok (.inl e)
end
instance DGet(H:Hp)(a:Addr)(y:V)(r:Option V):Prop :=
 (∃kvs k,Rd H a (.dK kvs)/\y=kV k/\r=valV kvs k)\/∃kvs k b,Rd H a (.dT kvs)/\y=.ref b/\H b=some (.tup (k.map kV))/\r=valV kvs k
instance DPut(H:Hp)(a:Addr)(y v:V)(H':Hp):Prop :=
 (∃kvs k,H a=some (.dK kvs)/\y=kV k/\kvs.length<Cb/\H'=upd H a (.dK (putK kvs k v))) \/
 ∃kvs k b,H a=some (.dT kvs)/\y=.ref b/\H b=some (.tup (k.map kV))/\kvs.length<Cb/\H'=upd H a (.dT (putK kvs k v))
def DGet.t{a b:Addr}{k:List Key}(e:H a=some (.dT kvs))(eb:H b=some (.tup (k.map kV))):DGet H a (.ref b) (valV kvs k):=.inr ⟨kvs,k,b,.inl e,rfl,eb,rfl⟩
def DPut.k{a:Addr}{kvs:List (Key×V)}{k:Key}(e:H a=some (.dK kvs))(hl:kvs.length<Cb):DPut H a (kV k) v (upd H a (.dK (putK kvs k v))):=.inl ⟨kvs,k,e,rfl,hl,rfl⟩
def DPut.t{a b:Addr}{k:List Key}(e:H a=some (.dT kvs))(eb:H b=some (.tup (k.map kV)))(hl:kvs.length<Cb) :
  DPut H a (.ref b) v (upd H a (.dT (putK kvs k v))):=.inr ⟨kvs,k,b,e,rfl,eb,hl,rfl⟩
section
variable{a:Addr}{y:V}{u r:Ca}{o:Option V} 
def Inv.big(I:Inv X pq σ H s):E6<s.heap.objs.size:=by
 let h:Ct<s.heap.objs.size:=(I.mod.glob.keeps I.bk).lt;exact Nat.lt_trans nofun h
def Zhs{Q:Ca->Cc->Prop}(hu:A.units+1<Md)(I:Inv X pq σ H s)(g:DGet H a y (some v))(ry:RelV y u)(h:∀w' s',Inv X pq σ H s'->RelV v w'->Q w' s') :
  Cg (Cj X.prog X.w) A (Lo (.ref a) u) Q E s:=by
 rcases g with⟨kvs,k,e,ey,l⟩|⟨kvs,k,b,e,ey,eb,l⟩
 .subst ey;let⟨z,hd,vs,rel,dd⟩:=Zat I.hok e;let⟨w',hw,rw'⟩:=RelO.some_of (v:=v) (o:=Jec vs k) (by rw[l];exact rel.val k);exact wpAny_getItem_of (Zbz ry) dd.mapOf hw (h w' _ (I.tok _) rw')
 .subst ey;cases(show u=Cd b from ry);let⟨z,hd,xs,rel,dd⟩:=Zca I.hok e;let⟨w',hw,rw'⟩:=RelO.some_of (v:=v) (o:=(Jg6 xs k).map (·.2)) (by rw[l];exact rel.val k);let⟨p,hp,hp2⟩:=Bu.mp hw;refine wpAny_getItem_heap (Hu hu) (Rb I.hok eb) dd hp ?_;rw[hp2];exact h w' _ (I.tok _) rw'
def d_in{Q:Ca->Cc->Prop}(hu:A.units+1<Md)(I:Inv X pq σ H s)(g:DGet H a y o)(ry:RelV y u)(h:∀s',Inv X pq σ H s'->Q (.bool o.isSome) s') :
  Cg (Cj X.prog X.w) A (E8 .In u (.ref a)) Q E s:=by
 rcases g with⟨kvs,k,e,ey,l⟩|⟨kvs,k,b,e,ey,eb,l⟩
 .subst ey;let⟨z,hd,vs,rel,dd⟩:=Zat I.hok e;refine wpAny_in_of (Zbz ry) hd dd.mapOf ?_;rw[<-(rel.val k).isSome_eq,<-l];exact h _ (I.tok _)
 .subst ey;cases(show u=Cd b from ry);let⟨z,hd,xs,rel,dd⟩:=Zca I.hok e;refine wpAny_in_heap (Hu hu) (Rb I.hok eb) hd dd ?_;let q:=(rel.val k).isSome_eq;rw[Mr]at q;rw[<-q,<-l];exact h _ (I.tok _)
def Zom{Q:Ca->Cc->Prop}(hu:A.units+1<Md)(I:Inv X pq σ H s)(g:DGet H a y o)(ry:RelV y u)(h:∀s',Inv X pq σ H s'->Q (.bool (!o.isSome)) s') :
  Cg (Cj X.prog X.w) A (E8 .NotIn u (.ref a)) Q E s:=by
 rcases g with⟨kvs,k,e,ey,l⟩|⟨kvs,k,b,e,ey,eb,l⟩
 .subst ey;let⟨z,hd,vs,rel,dd⟩:=Zat I.hok e;refine wpAny_notIn_of (Zbz ry) hd dd.mapOf ?_;rw[<-(rel.val k).isSome_eq,<-l];exact h _ (I.tok _)
 .subst ey;cases(show u=Cd b from ry);let⟨z,hd,xs,rel,dd⟩:=Zca I.hok e;refine wpAny_notIn_heap (Hu hu) (Rb I.hok eb) hd dd ?_;let q:=(rel.val k).isSome_eq;rw[Mr]at q;rw[<-q,<-l];exact h _ (I.tok _)
def Nh{ob:HO}(I:Inv X pq σ H s)(mu:Mut (H a))(hs:Hw a s.heap h')(he:∃q,h'.get? a=some q)(new:Yv X.prog X.w (upd H a ob) h' a ob) :
  Inv X pq σ (upd H a ob) {s with heap:=h',toks:=t'} :=
 I.write (x:=a) (e:=a) mu (.inl rfl) (λb q hb z=>(hs.2 b hb).trans z) he new
def Zlf{kvs:List (Key×V)}{vs:List (Key×Ca)}(z:kvs.length<=Cb)(hd:(a==E6)=false)(rel:KV kvs vs)(dd:h'.DictOf (Yl P w) a vs) :
  Yv P w H' h' a (.dK kvs):=⟨z,hd,vs,rel,dd⟩
def Zhr{Q:Unit->Cc->Prop}(hu:A.units+1<Md)(I:Inv X pq σ H s)(g:DPut H a y v H')(ry:RelV y u)(rv:RelV v r)(h:∀s',Inv X pq σ H' s'->Q ⟨⟩ s') :
  Cg (Cj X.prog X.w) A (Jhi (.ref a) u r) Q E s:=by
 rcases g with⟨kvs,k,e,ey,l,eH⟩|⟨kvs,k,b,e,ey,eb,l,eH⟩
 .subst ey eH;let⟨z,hd,vs,rel,dd⟩:=Zok I.hok e;let hz:vs.length<=Cb:=by rw[<-rel.length];exact z
  let hl:(putK kvs k v).length<=Cb:=by have:=Xt kvs k v;lia
  refine wpAny_setItem_pairs (hsz:=hz) (Zbz ry) dd λh' dd' hs=>h _ ?_;let he:∃q,h'.get? a=some q:=let⟨q,_,_,hq,_⟩:=dd';⟨q,hq⟩
  exact Nh I (by rw[e];exact Ek) hs he (Zlf hl hd (rel.put k rv) dd')
 .subst ey eH;cases(show u=Cd b from ry);let⟨z,hd,xs,rel,dd⟩:=Zr8 I.hok e;let hz:xs.length<=Cb:=by rw[<-Paired.length rel];exact z
  let hl:(putK kvs k v).length<=Cb:=by have:=Xt kvs k v;lia
  refine wpAny_setItem_heap (hsz:=hz) (Hu hu) (Rb I.hok eb) dd λh' dd' hs=>h _ ?_;let⟨q,es,ep,hq,h2,h3,h4,_,h5⟩:=dd';refine Nh I (by rw[e];exact Ek) hs ⟨q,hq⟩ ⟨hl,hd,_,(rel.put k eb rv).keeps λc ys ec=>?_,q,es,ep,hq,h2,h3,h4,h5⟩;rw[Zk (Pq ec e (λz=>nomatch z))];exact ec
end
instance NoSl(i:Expr):Prop:=∀ov iv,Ja7 i false ov iv=Jhp [ov,iv] (Lo ov iv)
def Zmg{env:Env}{slice:Expr}{T id:String}{Q:Ca->Cc->Prop}(hl:Mp (.type T) "__getitem__"=pure (some (.builtin id)))(hs:NoSl slice)(h:Cg (Cj prog w) A (eval value env) (λo s₁=>Cg (Cj prog w) A (eval slice env) (λi s₂=>s₂.TypeIs o T/\Cg (Cj prog w) A (Lo o i) Q E s₂) E s₁) E s) :
  Cg (Cj prog w) A (eval (.Subscript value slice pos) env) Q E s:=by
 refine Jeb (Fw h (λo s₁ h₁=>Fw h₁ (λi s₂ h₂=>?_) λ_ _ x=>x) λ_ _ x=>x);let⟨hT,h₂⟩:=h₂;unfold Ja6;refine Fj ?_;rw[getitemInPython_of_ne hT.not_modules];refine Fj (wpAny_specialOf hT hl ?_);let fin:Cg (Cj prog w) A (Ja7 slice false o i) (λr s₃=>Cg (Cj prog w) A (letTemporaryGo value o r >>= λ_=>pure r) Q E s₃) E s₂:=by
  rw[hs o i];exact wpAny_operating (Fw h₂ (λr s₃ h₃=>Fj (wpAny_letTemporaryGo (Fk h₃))) λ_ _ x=>x)
 first
  |exact Fk (Fj fin)
  |exact Fj (Fk (Fj fin))
  |exact Fj fin
def Zcb{a:Addr}{y:V}{o:Option V}(I:Inv X pq σ H s)(g:DGet H a y o):s.TypeIs (.ref a) "dict":=by
 rcases g with⟨kvs,k,e,_,_⟩|⟨kvs,k,b,e,_,_,_⟩
 .let⟨_,_,vs,_,dd⟩:=Zat I.hok e;exact dd.typeIs
 .let⟨_,_,xs,_,dd⟩:=Zca I.hok e;exact dd.typeIs
instance Zqi(td ty:TE):TE:=λσ H Q=>td σ H λx H1=>ty σ H1 λy H2=>∃a v,x=.ref a/\DGet H2 a y (some v)/\Q v H2
instance tDIn(ty td:TE):TE:=λσ H Q=>ty σ H λy H1=>td σ H1 λx H2=>∃a o,x=.ref a/\DGet H2 a y o/\Q (.bl o.isSome) H2
instance Zff(ty td:TE):TE:=λσ H Q=>ty σ H λy H1=>td σ H1 λx H2=>∃a o,x=.ref a/\DGet H2 a y o/\Q (.bl (!o.isSome)) H2
instance Zq7(td ty tv:TE):TS:=λD σ H=>tv σ H λv H1=>td σ H1 λx H2=>ty σ H2 λy H3=>∃a H4,x=.ref a/\DPut H3 a y v H4/\D.nx σ H4
section
variable{o i:Expr}{td ty tv:TE}
def Zgp(hu:X.A.units+1<Md)(ho:PE X o td)(hi:PE X i ty)(hs:NoSl i):PE X (.Subscript o i pos) (Zqi td ty):=by
 intro pq s σ H Q I h;refine Zmg PySem.F.slot_dict_getitem.lookup hs (thn (ho pq s σ H _ I h) λu s1⟨x,H1,I1,rx,q1⟩=>thn (hi pq s1 σ H1 _ I1 q1) λiv s2 hz=>?_);let⟨y,H2,I2,ry,a,v,ex,g,q2⟩:=hz;subst ex;obtain rfl:u=Cd a:=rx;exists Zcb I2 g,Zhs hu I2 g ry λw' s3 I3 rw'=>⟨v,H2,I3,rw',q2⟩
def Zri(hu:X.A.units+1<Md)(hi:PE X i ty)(ho:PE X o td):PC X .In i o (tDIn ty td):=by
 intro pq s σ H Q I h;refine thn (hi pq s σ H _ I h) λiv s1⟨y,H1,I1,ry,q1⟩=>thn (ho pq s1 σ H1 _ I1 q1) λu s2 hz=>?_;let⟨x,H2,I2,rx,a,ov,ex,g,q2⟩:=hz;subst ex;obtain rfl:u=Cd a:=rx;exact d_in hu I2 g ry λs3 I3=>⟨.bl ov.isSome,H2,I3,rfl,q2⟩
def Zaa(hu:X.A.units+1<Md)(hi:PE X i ty)(ho:PE X o td):PC X .NotIn i o (Zff ty td):=by
 intro pq s σ H Q I h;refine thn (hi pq s σ H _ I h) λiv s1⟨y,H1,I1,ry,q1⟩=>thn (ho pq s1 σ H1 _ I1 q1) λu s2 hz=>?_;let⟨x,H2,I2,rx,a,ov,ex,g,q2⟩:=hz;subst ex;obtain rfl:u=Cd a:=rx;exact Zom hu I2 g ry λs3 I3=>⟨.bl (!ov.isSome),H2,I3,rfl,q2⟩
def Zbp(hu:X.A.units+1<Md)(ho:PE X o td)(hi:PE X i ty)(hv:PE X value tv)(hs:Ln value (some (.Subscript o i pos')) pos.line X.env=pure false) :
  PS X (.Assign [.Subscript o i pos'] value pos) (Zq7 td ty tv):=by
 intro pq s σ H D I h;refine wpAny_Assign_Subscript (thn (hv pq s σ H _ I h) λr s1⟨v,H1,I1,rv,q1⟩=>thn (ho pq s1 σ H1 _ I1 q1) λu s2⟨x,H2,I2,rx,q2⟩=>thn (hi pq s2 σ H2 _ I2 q2) λiv s3 hz=>?_) hs;let⟨y,H3,I3,ry,a,H4,ex,g,q3⟩:=hz;subst ex;obtain rfl:u=Cd a:=rx;exact Zhr hu I3 g ry rv λs4 I4=>⟨σ,H4,I4,q3⟩
end
def Zdu(h:Heap)(hb:E6<h.objs.size):Yv P w H (h.push {cls:=.type "dict",data:=.dict #[]}) h.objs.size (.dK []) :=
 ⟨J8 _,beq_eq_false_iff_ne.mpr (Cv (Gg hb)),[],.nil,Jh6 h⟩
def Zdt(h:Heap)(hb:E6<h.objs.size):Yv P w H (h.push {cls:=.type "dict",data:=.dict #[]}) h.objs.size (.dT []) :=
 ⟨J8 _,beq_eq_false_iff_ne.mpr (Cv (Gg hb)),[],.nil,_,#[],0,Fm _ rfl,⟨rfl,rfl,rfl⟩,rfl,rfl,List.nodup_nil⟩
instance Zkt:TE:=λ_ H Q=>∀p,H p=none->Q (.ref p) (upd H p (.dK []))
instance Zks:TE:=λ_ H Q=>∀p,H p=none->Q (.ref p) (upd H p (.dT []))
section
def Zdh:PE X (.Dict [] [] pos) Zkt:=λpq s σ H Q I h =>
 Je1 ⟨.ref s.heap.objs.size,_,I.laid (a:=s.heap.objs.size) (o:=.dK []) (t':=s.toks) (λ_ _ q=>Fl _ q) (Jd _) (Zdu s.heap I.big),rfl,h _ (I.hok.fresh (Jd _))⟩
def Zju:PE X (.Dict [] [] pos) Zks:=λpq s σ H Q I h =>
 Je1 ⟨.ref s.heap.objs.size,_,I.laid (a:=s.heap.objs.size) (o:=.dT []) (t':=s.toks) (λ_ _ q=>Fl _ q) (Jd _) (Zdt s.heap I.big),rfl,h _ (I.hok.fresh (Jd _))⟩
end
structure M1(X:Cx)(o:Expr)(m:Str)(apos:Pos)(e:Expr)(cpos:Pos):Prop where
 base:E9 o m X.env (eval o X.env)=eval o X.env
 few:((Kg cpos (Cp [e] X.env)).all (λx=>!x.1)&&(Jda cpos (K7 [] X.env)).all (λx=>x.1.isSome)
  && decide (([e]:List Expr).length+([]:List Jfg).length+(if([]:List Jfg).isEmpty then 0 else 1)<30))=true
 line:(apos.endLine==cpos.line)=true
 trees:Kg cpos (Cp [e] X.env)=[(false,eval e X.env)]
instance IsD(H:Hp)(a:Addr):Prop:=(∃kvs,Rd H a (.dK kvs))\/∃kvs,Rd H a (.dT kvs)
def Zr1{a:Addr}(I:Inv X pq σ H s)(d:IsD H a) :
  s.TypeIs (.ref a) "dict"/\(∀b,Cd a=.ref b->∃ob,s.heap.get? b=some ob/\ob.dict=none)/\(a==E6)=false:=by
 rcases d with⟨kvs,e⟩|⟨kvs,e⟩
 .let⟨_,hd,vs,_,dd⟩:=Zat I.hok e;exists dd.typeIs,λb q=>?_,hd;cases q;let⟨ob,_,_,h1,h2,_⟩:=dd;exists ob,h1,h2.2.1
 .let⟨_,hd,xs,_,dd⟩:=Zca I.hok e;exists dd.typeIs,λb q=>?_,hd;cases q;let⟨ob,_,_,h1,h2,_⟩:=dd;exists ob,h1,h2.2.1
section
variable{a:Addr}{y:V}{u:Ca}{o:Option V} 
def Zsa{Q:Ca->Cc->Prop}(hu:A.units+1<Md)(I:Inv X pq σ H s)(g:DGet H a y o)(ry:RelV y u)(h:∀w' s',Inv X pq σ H s'->RelV (o.getD .non) w'->Q w' s') :
  Cg (Cj X.prog X.w) A (call (.builtin "dict.get") [.ref a,u]) Q E s:=by
 rcases g with⟨kvs,k,e,ey,l⟩|⟨kvs,k,b,e,ey,eb,l⟩
 .subst ey;let⟨z,hd,vs,rel,dd⟩:=Zat I.hok e;refine call_meetsIn K9 dd.typeIs Jcu (Ja8 _ _) (meets_dict_get (Yl X.prog X.w) a (Zbz ry) hd) ⟨_,dd.mapOf,h _ _ (I.tok _) ?_⟩;rw[l];exact(rel.val k).getD rfl
 .subst ey;cases(show u=Cd b from ry);let⟨z,hd,xs,rel,dd⟩:=Zca I.hok e;refine call_meetsIn K9 dd.typeIs Jcu (Ja8 _ _) (meetsH_dict_get (Mg (Yl X.prog X.w)) a b hd) ⟨Hu hu,k,xs,Rb I.hok eb,dd,h _ _ (I.tok _) ?_⟩;rw[l];exact(rel.val k).getD rfl
end
instance Zqh(td ty:TE):TE:=λσ H Q=>td σ H λx H1=>∃a,x=.ref a/\IsD H1 a/\ty σ H1 λy H2=>∃o,DGet H2 a y o/\Q (o.getD .non) H2
section
variable{o e:Expr}{td ty:TE}
def Zjv(hu:X.A.units+1<Md)(ho:PE X o td)(he:PE X e ty)(m:M1 X o "get" apos e cpos):PE X (.Call (.Attribute o "get" apos) [e] [] cpos) (Zqh td ty):=by
 intro pq s σ H Q I h;refine wpAny_Call_method m.base m.few m.line PySem.F.plainAttrs_dict K9 PySem.F.type_dict_get (thn (ho pq s σ H _ I h) λu s1 hz=>?_);let⟨x,H1,I1,rx,a,ex,d,q1⟩:=hz;subst ex;obtain rfl:u=Cd a:=rx;let⟨t1,t2,_⟩:=Zr1 I1 d;exists t1,t2,?_;rw[m.trees];refine K1 rfl (Jdf (L8 (thn (he pq s1 σ H1 _ I1 q1) λiv s2⟨y,H2,I2,ry,ov,g,q2⟩=>Mn ?_)));exact Zsa hu I2 g ry λw' s3 I3 rw'=>⟨_,H2,I3,rw',q2⟩
end
end L2
namespace Att
open PySem PySem.W PySem.Calls PyProof.Rows
def Rf{P:Params} :∀(ns:List Int)(vs:List Ca),WellAll P h vs (ns.map Jh7)->Le vs ns:=by
 intro ns
 induction ns with
 |nil =>
  intro vs w;rw[Jeu]at w;cases w;exact .nil
 |cons n ns ih =>
  intro vs w;rw[Jk]at w;cases w with
  |cons a b =>
   cases a;exact .cons _ _ (ih _ b)
def Zfx{l:OpenLaw}{n:Nat}(hn:l.most=some n){P:Params}{args:List WData}{vals:List Ca}(hpre:l.row.toRowW.claim.pre args=true)(hwl:WellAll P h vals args) :
  ∃a vs ns,vals=[Cd a]/\args=[WData.list (ns.map Jh7)]/\h.get? a=some {cls:=.type "list",data:=.seq vs.toArray}/\Le vs ns/\ns.length<=n:=by
 let hsh:WShape.hasAll [] args [.list .int]=true:=(pre_splitW hpre).1;let hc:l.pre.holds [] {args:=args}=true:=(pre_splitW hpre).2;let⟨d,r,rfl,h1,h2⟩:=hasAllW_cons hsh;obtain rfl:=hasAllW_nil h2;let⟨xs,rfl,h3⟩:=hasW_list h1;let⟨ns,rfl⟩:=items_int h3;let hlen:ns.length<=n:=by
  unfold OpenLaw.pre at hc;let h4:(WTm.not (.lt (.lit (.int (n:Int))) (.len (.arg 0)))).holds [] {args:=[.list (ns.map .int)]}=true:=by
   let h4:=(holds_andW hc).1;rw[hn]at h4;exact h4
  let h5:=condW_of h4 (w_not (w_lt w_lit (w_len_list (w_arg rfl))));rw[Ja]at h5;refine Je2 λq=>?_;let q':(n:Int)<((ns.length:Nat):Int):=by lia
  first
   |(rw[Fs q']at h5;exact Fh h5 nofun)
   |(simp at h5;lia)
 cases hwl with
 |cons w1 w2 =>
  cases w2;cases w1 with
  |list ho hall=>exact⟨_,_,ns,rfl,rfl,ho,Rf ns _ hall,hlen⟩
def Zgi(l:OpenLaw)(args:List WData):l.row.toRowW.claim.post args (.bool true) args=true :=
 postW_of (r:=l.row.toRowW) (X:=(true==true))
  (show Jh2 [] (.bool true) .bool=true by first|rfl|decide|simp[Jh2,WShape.arms,WShape.armsAll])
  (show(WTm.eq .res (.lit (.bool true))).value [] {args:=args,res:=some (.bool true),after:=args}=some (.bool (true==true))from w_eq_bool (w_res rfl) w_lit) rfl
def attach_call{l:OpenLaw}{n:Nat}{q:Eu}{loose:List Str}{XP:(Str->Option Ca)->Heap->Prop}{YP:Hm->Heap->Prop}{d:DefRec}(hn:l.most=some n)(hdf:d.params.defaults=[])(call:∀(w:Hm)(s₀ s₁:Cc)(mg mb:Str->Option Ca)(fa:Addr)(o:Obj)(pm cd doc:Ca)(a:Addr)(vs:List Ca)(ns:List Int),
   Ground q loose [] XP w s₀ mg mb s₁.heap->YP w s₁.heap ->
   s₁.heap.get? fa=some o->o.data=.func (docDef d.name d.params d.body d.scope pm cd doc)->s₁.heap.CodeRec cd d.name->mg d.name=some (.ref fa) ->
   s₁.heap.get? a=some {cls:=.type "list",data:=.seq vs.toArray}->Le vs ns->ns.length<=n->s₁.gens=#[] ->
   Hn (Cj l.prog w) Jed (.call (.ref fa) ⟨[.ref a],[]⟩) (λr s'=>r=.ok (.ret (.bool true))/\OldK s₁.heap s'.heap/\s'.os=s₁.os/\Mz s'.gens) s₁) :
  WalkO q loose XP YP l.row.toRowW d [] (λf vs=>Jgk f vs):=by
 intro w s₀ s₁ mg mb G Y fa o pm cd doc dV kV ho hd hcd hD hmg hg args vals as hpre hlay hrd hwl hlo;obtain rfl:dV=.none:=Dflts.none hD hdf;obtain rfl:kV=.none:=Dflts.noKw hD;let⟨a,vs,ns,rfl,rfl,hobj,hints,hlen⟩:=Zfx hn hpre hwl;refine enter_call (Hk (call w s₀ s₁ mg mb fa o pm cd doc a vs ns G Y ho (fd_plain hd) hcd hmg hobj hints hlen hg) λr s' hq=>?_);let⟨rfl,h2,h3,h4⟩:=hq;exists .inl ⟨.bool true,.bool true,[],rfl,λ_=>rfl,.bool true,Zgi l _,λ_=>⟨Ms,λ_ hm=>(nomatch hm)⟩⟩,h2,h3,h4
end Att
namespace L2
open PySem PySem.Spec PyProof.Rows
def Nu:∀{vs:List Ca}{ns:List Int},Le vs ns->Vals (ns.map V.int) vs:=by
 intro _ _ hz9;cases hz9 with
 |nil=>
  exact .nil
 |cons n t h=>
  exact .cons ⟨t,rfl⟩ (Nu h)
instance Xu(s:Stmt)(j:Nat):Stmt:=match s with
 |.ClassDef _ _ _ body _ _ _ _ _ _ _=>body.getD j (.Pass ⟨0,0,0,0⟩)
 |_=>.Pass ⟨0,0,0,0⟩
instance Xv(s:Stmt):Arguments:=match s with
 |.FunctionDef _ a _ _ _ _ _ _ _ _=>a
 |_=>{posonlyargs:=[],args:=[],vararg:=none,kwonlyargs:=[],kw_defaults:=[],kwarg:=none,defaults:=[]}
instance Ys(s:Stmt):List Stmt:=match s with
 |.FunctionDef _ _ b _ _ _ _ _ _ _=>b
 |_=>[]
instance Zl(s:Stmt):Scope:=match s with
 |.FunctionDef _ _ _ _ _ _ sc _ _ _=>sc
 |_=>{kind:=.function,names:=[],isGenerator:=false,isCoroutine:=false}
abbrev CX0:CXT:=λ_ _ _ _ _ _=>False
abbrev E0:XK:=λ_ _ _=>False
def Zjw :Qd CX0 X E0:=λ_ _ _ _ _ _ _ h=>h.elim
structure Fun(K:Cs)(x qual:Str)(st:Stmt)(f:Addr)(fd:Lj):Prop where
 ex:∃(oc:Ca)(od:Option Addr)(kV doc pm:Ca)(an:Option Addr)(cdv ct:Ca)(osl:Array (Option Ca)),
  fd=L9 x qual (Xv st) (Ys st) (Zl st) .none kV doc pm an cdv ct/\K.lookup f=some ⟨oc,od,.func fd,osl⟩/\Ja4 K cdv qual=true
 kp:Ja2 K (.ref f)=true
section
variable{base:Heap}
def Fun.ok{x:Str}{f:Addr}{k:Nat}(F:Fun K x qual st f fd)(S:FnScope N ps (Zl st))(len:∀vs H Q E,sp vs H Q E->vs.length=ps.length)(hbody:∀(cdv:Ca)(A:Ht)(outer:List Env)(s:Cc)(H:Hp)(vs:List V)(Q:VK)(E:XK),Room k (A.deeper (E4 qual (Zl st) s.heap.objs.size f cdv))->sp vs H Q E ->
   ∃t,PSs (cxOf CX0 P w K mg base N qual (Zl st) f cdv A outer s H E).nox (Ys st) t/\t {nx:=λ_ H'=>Q .non H',rt:=Q} (Vj N vs) H):FnOk P w K mg base CX0 (k+1) f fd ps sp:=by
 let⟨oc,od,kV,doc,pm,an,cdv,ct,osl,rfl,lk,hcd⟩:=F.ex;refine Zod lk hcd S len λA outer s H vs Q E hr hsp=>?_;let⟨t,h,q⟩:=hbody cdv A outer s H vs Q E hr hsp;exists t,h.nox,q
def Fun.binds{x:Str}{f:Addr}(F:Fun K x qual st f fd)(h:∀(kV doc pm:Ca)(an:Option Addr)(cdv ct:Ca)(us:List Ca),us.length=ps.length->Jds (L9 x qual (Xv st) (Ys st) (Zl st) .none kV doc pm an cdv ct) ⟨us,[]⟩=pure (ps.zip us)):W2 K fd ps []:=by
 let⟨oc,od,kV,doc,pm,an,cdv,ct,osl,rfl,lk,hcd⟩:=F.ex;exact .all (h kV doc pm an cdv ct)
def Zhi{x:Str}{f:Addr}{osl:Array (Option Ca)}{kV:Ca}(l:K.lookup f=some ⟨oc,od,.func (L9 x qual (Xv st) (Ys st) (Zl st) .none kV doc pm an cdv ct),osl⟩)(c:Ja4 K cdv qual=true)(k:Ja2 K (.ref f)=true):Fun K x qual st f (L9 x qual (Xv st) (Ys st) (Zl st) .none kV doc pm an cdv ct):=⟨⟨oc,od,kV,doc,pm,an,cdv,ct,osl,rfl,l,c⟩,k⟩
end
def Xh{k:Nat}(hr:Room k A):A.units+1<Md:=Gw (Nat.add_le_add_left (by decide:1<=64) _) hr.units
section
def pv(i:Nat){x:Str}(hN:X.N[i]?=some x:=by rfl)(hv:Vis X.env.scope x:=by first|left;rfl|right;left;rfl|right;right;rfl)(hd:(x==("__debug__":Str))=false:=by decide)(hcd:(x==("__classdict__":Str))=false:=by decide):PE X (.Name x pos) (tVar i):=Zgm hN hv hd hcd
end
def iteF{A:Prop}(h:B):if false=true then A else B:=by
 rw[Fo Jv];exact h
def iteT{A:Prop}(h:A):if true=true then A else B:=by
 rw[Fp rfl];exact h
def ite2{c A:Prop}[Decidable c](h1:c->A)(h2:¬ c->B):if c then A else B:=by
 by_cases h:c
 .rw[Fp h];exact h1 h
 .rw[Fo h];exact h2 h
def Zuj{c A:Prop}[Decidable c](hc:c)(h:B):if(!decide c)=true then A else B:=by
 rw[Fs hc];exact iteF h
instance Same(H H':Hp):Prop:=∀b o,H b=some o->H' b=some o
def Same.refl(H:Hp):Same H H:=λ_ _ h=>h
def Same.trans(a:Same H H1)(b:Same H1 H2):Same H H2:=λc o h=>b c o (a c o h)
def Same.free(e:Same H H')(h:H' l=Option.none):H l=Option.none:=by
 cases q:H l with
 |none=>rfl
 |some o =>
  rw[e l o q]at h;cases h
def Same.seq{a:Addr}(e:Same H H')(h:SqL K H a xs):SqL K H' a xs:=by
 rcases h with(h|⟨o,h⟩)|h
 .exact .inl (.inl (e _ _ h))
 .exact .inl (.inr ⟨o,e _ _ h⟩)
 .exact .inr h
end L2
namespace L2
open PySem
instance Wg(cells:List (Str×Addr)):List (Str×Es)->List (Str×Addr)->List (Str×Addr)
 |[],acc=>acc
 |(n,k)::r,acc=>if k == .free then Wg cells r ((n,(cells.lookup n).getD 0)::acc)else Wg cells r acc
instance Zhz(env:Env)(l:List (Str×Es))(acc:List (Str×Addr)):Sem (List (Str×Addr)):=do
 let mut cs:=acc
 for (name,kind) in l do
  if kind == .free then cs:=(name,<-cellOf env name)::cs
 return cs
def Pa{env:Env}:∀(l:List (Str×Es))(acc:List (Str×Addr)),(∀y∈l,y.2=.free->∃c,env.cells.lookup y.1=some c) ->
  Zhz env l acc=pure (Wg env.cells l acc)
 |[],acc,_=>rfl
 |(n,k)::r,acc,h=>by
  let ih:=λacc=>Pa r acc λy hy=>h y (Jm _ hy);unfold Zhz at ih⊢;rw[Wg];cases hk:(k==Eh)with
  |false =>
   simp only[Jfj,hk,G4,if_false,pure_bind]at ih⊢;exact ih acc
  |true =>
   let⟨c,hc⟩:=h (n,k) Jo (by simpa using hk);let hc':env.cells.lookup n=some c:=hc;simp only[Jfj,hk,if_true,cellOf,hc',pure_bind,Je3]at ih⊢;exact ih _
def Q9{scope:Scope}{env:Env}(h:∀y∈scope.names,y.2=.free->∃c,env.cells.lookup y.1=some c):Jgl scope env=pure (Wg env.cells scope.names []) :=
 Pa scope.names [] h
def U1{cells:List (Str×Addr)}{x:Str}{c:Addr}:∀{l:List (Str×Es)}{acc:List (Str×Addr)},(∀y∈l,y.2=.free->∃c,cells.lookup y.1=some c) ->
  (Wg cells l acc).lookup x=some c->acc.lookup x=some c\/cells.lookup x=some c
 |[],acc,_,h=>.inl h
 |(n,k)::r,acc,hl,h=>by
  rw[Wg]at h
  by_cases hk:(k==Eh)=true
  .rw[Fp hk]at h;let⟨c',hc⟩:=hl (n,k) Jo (by simpa using hk);let hc':cells.lookup n=some c':=hc;rcases U1 (λy hy=>hl y (Jm _ hy)) h with z|z
   .rw[Gu,hc']at z;cases hx:(x==n)with
    |true =>
     rw[hx]at z;let e:x=n:=by simpa using hx
     subst e;let z':c'=c:=by simpa using z
     subst z';exact .inr hc'
    |false=>rw[hx]at z;exact .inl z
   .exact .inr z
  .rw[Fo hk]at h;exact U1 (λy hy=>hl y (Jm _ hy)) h
def Vx{cells:List (Str×Addr)}{x:Str}:∀{l:List (Str×Es)}{acc:List (Str×Addr)},(∃c,acc.lookup x=some c)->∃c,(Wg cells l acc).lookup x=some c
 |[],acc,h=>h
 |(n,k)::r,acc,h=>by
  rw[Wg]
  by_cases hk:(k==Eh)=true
  .rw[Fp hk];refine Vx ?_;rw[Gu];cases hx:(x==n)with
   |true=>exact⟨_,rfl⟩
   |false=>exact h
  .rw[Fo hk];exact Vx h
def Ug{cells:List (Str×Addr)}{x:Str}:∀{l:List (Str×Es)}{acc:List (Str×Addr)},(x,Eh)∈l->∃c,(Wg cells l acc).lookup x=some c
 |[],acc,h=>nomatch h
 |(n,k)::r,acc,h=>by
  rw[Wg];rcases Jp.mp h with e|h
  .cases e;rw[Fp (by rfl)];refine Vx ?_;rw[Gu,beq_self_eq_true];exists ·
  .by_cases hk:(k==Eh)=true
   .rw[Fp hk];exact Ug h
   .rw[Fo hk];exact Ug h
def Zh1{n:Nat}:∀{l:List (Str×Es)}{acc:List (Str×Addr)},(l.filter λy=>y.2==Ci)=[]->Ha n l acc=acc
 |[],_,_=>rfl
 |(m,k)::r,acc,h=>by
  by_cases hk:(k==Ci)=true
  .rw[Gd,Fp hk]at h;cases h
  .rw[Gd,Fo hk]at h;rw[Ha,Fo hk];exact Zh1 h
def Tg{x:Str}:∀{l:List (Str×Es)}{n:Nat}{acc:List (Str×Addr)},(x,Ci)∉l->(Ha n l acc).lookup x=acc.lookup x
 |[],_,_,_=>rfl
 |(m,k)::r,n,acc,h=>by
  let h2:(x,Ci)∉r:=λz=>h (Jm _ z)
  by_cases hk:(k==Ci)=true
  .rw[Ha,Fp hk,Tg h2,Gu];let e:k=.cell:=by simpa using hk
   subst e;let:(x==m)=false:=by simpa using λz=>h (by rw[z];exact Jo)
   rw[this]
  .rw[Ha,Fo hk];exact Tg h2
def Zay{x:Str}:∀{l:List (Str×Es)}{n:Nat}{acc:List (Str×Addr)},(l.filter λy=>y.2==Ci).length<=1->(x,Ci)∈l->(Ha n l acc).lookup x=some n
 |(m,k)::r,n,acc,f,h=>by
  by_cases hk:(k==Ci)=true
  .rw[Gd,Fp hk]at f;let f0:(r.filter λy=>y.2==Ci)=[]:=List.eq_nil_of_length_eq_zero (by simp at f⊢;exact f);rw[Ha,Fp hk,Zh1 f0];rcases Jp.mp h with e|h
   .cases e;rw[Gu,beq_self_eq_true]
   .let:(x,Ci)∈r.filter λy=>y.2==Ci:=Gz.mpr ⟨h,rfl⟩;rw[f0]at this;cases this
  .rw[Gd,Fo hk]at f;rw[Ha,Fo hk];rcases Jp.mp h with e|h
   .cases e;exact Fh rfl hk
   .exact Zay f h
def Znj{l:List (Str×Es)}(f:(l.filter λy=>y.2==Ci).length<=1){x y:Str}(hx:(x,Ci)∈l)(hy:(y,Ci)∈l):x=y:=by
 let h1:(x,Ci)∈l.filter λy=>y.2==Ci:=Gz.mpr ⟨hx,rfl⟩;let h2:(y,Ci)∈l.filter λy=>y.2==Ci:=Gz.mpr ⟨hy,rfl⟩
 match h:l.filter λy=>y.2==Ci with
 |[]=>rw[h]at h1;cases h1
 |[a] =>
  rw[h]at h1 h2;let:=(Jj.mp h1).trans (Jj.mp h2).symm;exact(Prod.mk.inj this).1
 |a::b::c=>rw[h]at f;simp at f
def Zrq{M:Jfc}{scope:Scope}{globals:Addr}{closure:List (Str×Addr)}{outer:Env}{Q:Env->Cc->Prop}(f:(scope.names.filter λy=>y.2==Ci).length<=1)(hQ:∀h',h'.Ns s.heap.objs.size (λ_=>none)->(∀b o,s.heap.get? b=some o->h'.get? b=some o)->(∀x,(x,Ci)∈scope.names->h'.IsCell (s.heap.objs.size+1) none) ->
   Q (newEnv scope s.heap.objs.size globals (Ha (s.heap.objs.size+1) scope.names closure) qual none .none (some outer) Mh) {s with heap:=h'}) :
  Cg M A (newFunctionEnv scope globals closure [] qual none .none (some outer)) Q E s:=by
 simp only[newFunctionEnv,Option.isSome_some,if_true];refine Fj (wpAny_alloc ?_);refine Fj (wpAny_layCells _ (λname kind cells=>by cases hkc:kind==Ci<;>simp[hkc]) _ _ _ _ ?_);let ok:=cellsFrom_ok scope.names (s.heap.push {cls:=.type "dict",data:=.dict #[]}) (s.heap.objs.size+1) [] ⟨λ_ _ hm=>(nomatch hm),Ms⟩ (by rw[Ep];exact Jd _);rw[Ep]at ok;rw[show({s with heap:=s.heap.push {cls:=.type "dict",data:=.dict #[]} }:Cc).heap.objs.size=s.heap.objs.size+1 from Ep ..];refine Fj ?_;rw[List.forIn_nil];exact Fk (Fk (hQ _ ((Heap.Ns.new s.heap (.type "dict")).keeps (pushCells_keeps _ _)) (λb o e=>pushCells_keeps _ _ b o (Fl _ e))
  λx hx=>(ok.empty x _ (mem_of_lookup (Zay f hx))).1))
def T9{scope:Scope}{env:Env}{x:Str}(h:(Jhq scope env).names.lookup x=some .cell\/(Jhq scope env).names.lookup x=some .free):(x,Eh)∈scope.names\/(x,Ci)∈scope.names:=by
  let go:∀(l:List (Str×Es)),((l.map λ(n,k)=>if(k==Eh&&env.scope.kind == .function&&env.kindOf n==some .cell)then(n,Ci)else(n,k)).lookup x=some .cell \/
       (l.map λ(n,k)=>if(k==Eh&&env.scope.kind == .function&&env.kindOf n==some .cell)then(n,Ci)else(n,k)).lookup x=some .free)->(x,Eh)∈l\/(x,Ci)∈l:=by
    intro l
    induction l with
    |nil=>intro h;rcases h with h|h<;>cases h
    |cons a r ih =>
      let⟨n,k⟩:=a;intro h;simp only[Jk]at h
      by_cases hx:(x==n)=true
      · let e:x=n:=by simpa using hx
        subst e
        by_cases hk:k=.free
        · subst hk;exact .inl Jo
        · let hb:(k==Eh)=false:=by simpa using hk
          simp only[hb,Bz,G4,if_false,Gu,beq_self_eq_true]at h;rcases h with h|h
          · rw[Fu h];exact .inr Jo
          · exact Fh (Fu h) hk
      · let hx':(x==n)=false:=by simpa using hx
        refine(ih ?_).imp (Jm _) (Jm _);let el:∀(p:Str×Es)(t:List (Str×Es)),p.1=n->(p::t).lookup x=t.lookup x:=by
          intro p t e;let⟨a,b⟩:=p;let e':a=n:=e;subst e';rw[Gu,hx']
        rw[el _ _ (by split<;>rfl)]at h;exact h
  exact go scope.names h
def U8{scope:Scope}{env:Env}{x:Str}(h:(Jhq scope env).names.lookup x=some .local):scope.names.lookup x=some .local:=by
 let go:∀(l:List (Str×Es)),
   (l.map λ(n,k)=>if(k==Eh&&env.scope.kind == .function&&env.kindOf n==some .cell)then(n,Ci)else(n,k)).lookup x=some .local->l.lookup x=some .local:=by
  intro l
  induction l with
  |nil=>intro h;cases h
  |cons a r ih =>
   let⟨n,k⟩:=a;intro h;simp only[Jk]at h
   by_cases hx:(x==n)=true
   .let e:x=n:=by simpa using hx
    subst e
    by_cases hc:(k==Eh&&env.scope.kind == .function&&env.kindOf x==some .cell)=true
    .rw[Fp hc,Gu,beq_self_eq_true]at h;cases h
    .rw[Fo hc,Gu,beq_self_eq_true]at h;rw[Gu,beq_self_eq_true];exact h
   .let hx':(x==n)=false:=by simpa using hx
    let el:∀(p:Str×Es)(t:List (Str×Es)),p.1=n->(p::t).lookup x=t.lookup x:=by
     intro p t e;let⟨a,b⟩:=p;let e':a=n:=e;subst e';rw[Gu,hx']
    rw[el _ _ (by split<;>rfl)]at h;rw[el _ _ rfl];exact ih h
 exact go scope.names h
end L2
namespace L2
open PySem PySem.Spec PyProof.Rows
instance nbOf(N T:List Str)(cs:List Nat):List Str:=T++cs.map λi=>N.getD i Mm
instance sgOf(σ:St)(T:List Str)(cs:List Nat):St:=T.map (λ_=>none)++cs.map λi=>σ.getD i none
structure CScope(outer scope:Scope)(N T:List Str)(cs:List Nat):Prop where
 kind:scope.kind=.function
 few:(scope.names.filter λy=>y.2==Ci).length<=1
 names:∀y∈scope.names,y.2=.local->scope.names.lookup y.1=some .local
 free:∀y∈scope.names,y.2=.free->outer.names.lookup y.1=some .cell\/outer.names.lookup y.1=some .free
 cap:∀i∈cs,scope.names.lookup (N.getD i Mm)≠some .local/\(N.getD i Mm,Ci)∉scope.names
instance Zhy(outer scope:Scope)(N:List Str)(cs:List Nat):Bool :=
 decide (scope.kind=.function)&&(decide ((scope.names.filter λy=>y.2==Ci).length<=1)&&(scope.names.all (λy=>!decide (y.2=Es.local) ||decide (scope.names.lookup y.1=some Es.local)) &&
  (scope.names.all (λy=>!decide (y.2=Eh) ||(decide (outer.names.lookup y.1=some Ci) ||decide (outer.names.lookup y.1=some Eh)))&&cs.all (λi=>!decide (scope.names.lookup (N.getD i Mm)=some Es.local) && !decide ((N.getD i Mm,Ci)∈scope.names)))))
def CScope.ok{outer scope:Scope}{T:List Str}(h:Zhy outer scope N cs=true):CScope outer scope N T cs:=by
 unfold Zhy at h;simp only[B2,List.all_eq_true,Bool.or_eq_true,decide_eq_true_eq,Jee,decide_eq_false_iff_not]at h;let⟨h1,h2,h3,h4,h5⟩:=h;exists h1,h2,λy hy e=>(h3 y hy).resolve_left (λq=>q e),λy hy e=>(h4 y hy).resolve_left (λq=>q e),h5
def Y5{l:List Str}(h:decide l.Nodup=true):l.Nodup:=Fg h
instance blkC(scope:Scope)(C:Addr)(cells:List (Str×Addr)):List (Str×Addr):=Ha (C+1) scope.names (Wg cells scope.names [])
instance blk(X:Cx)(T:List Str)(cs:List Nat)(scope:Scope)(C:Addr)(s₀:Cc)(H₀:Hp)(ex:List Addr):Cx where
 prog:=X.prog
 w:=X.w
 K:=X.K
 mg:=X.mg
 base:=X.base
 A:=X.A
 N:=nbOf X.N T cs
 s₀:=s₀
 H₀:=H₀
 env:=compEnvC scope (blkC scope C X.env.cells) C X.env
 outer:=X.stack
 stack:=X.stack
 ex:=ex
 fn:=λx=>decide ((x,Ci)∈scope.names)
 calm:=X.calm
 pn:=[]
 xe:=λ_ _=>False
section
variable{scope:Scope}{T:List Str} 
def Inv.hl(I:Inv X pq σ H s)(S:CScope X.env.scope scope X.N T cs):∀y∈scope.names,y.2=.free->∃c,X.env.cells.lookup y.1=some c :=
 λy hy e=>I.ok.has y.1 (S.free y hy e)
def Inv.clo(I:Inv X pq σ H s)(S:CScope X.env.scope scope X.N T cs){x:Str}{c:Addr}(h:(Wg X.env.cells scope.names []).lookup x=some c):X.env.cells.lookup x=some c :=
 (U1 (I.hl S) h).resolve_left (by simp)
def Inv.clo2(I:Inv X pq σ H s)(S:CScope X.env.scope scope X.N T cs){x:Str}{c:Addr}(h:(blkC scope C X.env.cells).lookup x=some c):(c=C+1/\(x,Ci)∈scope.names)\/X.env.cells.lookup x=some c:=by
 unfold blkC at h
 by_cases hx:(x,Ci)∈scope.names
 .rw[Zay S.few hx]at h;exact .inl ⟨(Fu h).symm,hx⟩
 .rw[Tg hx]at h;exact .inr (I.clo S h)
def Inv.clo3(I:Inv X pq σ H s)(S:CScope X.env.scope scope X.N T cs){x:Str}{c:Addr}(hC:s.heap.objs.size<=C)(h:(blkC scope C X.env.cells).lookup x=some c):C<c\/X.env.cells.lookup x=some c :=
 (I.clo2 S h).imp_left λz=>by rw[z.1];exact Bc _
def Zn1(I:Inv X pq σ H s)(S:CScope X.env.scope scope X.N T cs)(hf:∀b∈fp,FpOk X pq H b)(hfe:∀b∈fp,∃o,s.heap.get? b=some o){h1:Heap}{m:Str->Option Ca}{tk:Nat}(hC:s.heap.objs.size<=C)(ns:h1.Ns C m)(k:∀b o,s.heap.get? b=some o->h1.get? b=some o)(oc:∀x,(x,Ci)∈scope.names->h1.IsCell (C+1) none) :
  Inv (blk X T cs scope C s H fp) [] (sgOf σ T cs) H {s with heap:=h1,toks:=tk}:=by
 let fr:H C=none:=I.hok.fresh hC;let cellS:∀{c:Addr}{v:Option Ca},s.heap.IsCell c v->h1.IsCell c v:=λ⟨o,e,d⟩=>⟨o,k _ o e,d⟩;refine⟨⟨I.ok.mod,S.kind,I.ok.glob,I.ok.blt,hC,λx y c e1 e2=>?_,λx hx=>?_,λx c h e=>?_,
  I.ok.hd,I.ok.frames,.inl rfl,λb hb=>⟨?_,λx c e=>(I.clo3 S hC e).elim (λz=>by let⟨o,e⟩:=hfe b hb;exact B1 (Nat.lt_trans (Jw (Fn e) hC) z)) ((hf b hb).2.2.2.2.1 x c)⟩,I.bs,Ga I.ok.bsz I.sz,λb o e hb=>?_,λb hb z=>?_,I.stack,I.stkFree⟩,
  rfl,I.bare,Un.kept k,⟨m,ns,λi x v h1' h2' h3'=>?_⟩,λx c e=>?_,fr,λx c e=>(I.clo3 S hC e).elim (λz=>I.hok.fresh (Bp (Gw hC z))) (I.freeC x c),λp hp=>Fh (show p∈([]:List (Addr×Obj))from hp) (by simp),I.hok.kept k,?_⟩
 .let ne:∀{z:Str}{d:Addr},X.env.cells.lookup z=some d->C<d->False:=λq l=>by
   let⟨v,w⟩:=I.cell _ _ q;exact Fh (Jw w.lt (Ga hC (Bp l))) (G6 _)
  rcases I.clo2 S e1 with⟨a,b⟩|a
  .rcases I.clo2 S e2 with⟨_,d⟩|d
   .exact Znj S.few b d
   .exact(ne d (by rw[a];exact Bc _)).elim
  .rcases I.clo2 S e2 with⟨d,_⟩|d
   .exact(ne a (by rw[d];exact Bc _)).elim
   .exact I.ok.inj x y c a d
 .show ∃c,(blkC scope C X.env.cells).lookup x=some c;unfold blkC
  by_cases q:(x,Ci)∈scope.names
  .exists _,Zay S.few q
  .rw[Tg q];exact Ug ((T9 hx).resolve_right q)
 .let q:(x,Ci)∈scope.names:=Fg h;let e':(Ha (C+1) scope.names (Wg X.env.cells scope.names [])).lookup x=some c:=e;rw[Zay S.few q]at e';rw[<-Fu e'];exact Nat.le_succ_of_le hC
 .let⟨o,e⟩:=hfe b hb;exact Gg (Jw (Fn e) hC)
 .rcases(hf b hb).2.2.2.1 with z|z
  .exact I.ok.noex b o e z
  .exact Fh (Jw (Jw (Fn e) I.ok.bsz) z) (G6 _)
 .rcases Jp.mp (I.stkSub b z)with e|e
  .exact(hf b hb).2.1 e
  .exact(hf b hb).2.2.1 e
 .let h2:(sgOf σ T cs)[i]?=some (some v):=h2';let h1'':(nbOf X.N T cs)[i]?=some x:=h1';unfold sgOf at h2;unfold nbOf at h1''
  by_cases hi:i<T.length
  .rw[Js (by simpa using hi),Jr]at h2;cases e:T[i]? with
   |none=>rw[e]at h2;cases h2
   |some a=>rw[e]at h2;cases h2
  .rw[Gk (by simpa using hi),Jr,Ja]at h2;rw[Gk (),Jr]at h1'';cases e:cs[i-T.length]? with
   |none=>rw[e]at h2;cases h2
   |some c0 =>
    rw[e]at h2 h1'';let ex:X.N.getD c0 Mm=x:=Fu h1'';let ev:σ.getD c0 none=some v:=Fu h2;let eσ:σ[c0]?=some (some v):=by
     rw[Go]at ev;cases q:σ[c0]? with
     |none=>rw[q]at ev;cases ev
     |some z=>rw[q]at ev;exact congrArg some ev
    let hlt:c0<X.N.length:=by
     let:=(Jf.mp eσ).1;rw[I.len]at this;exact this
    let eN:X.N[c0]?=some x:=by
     rw[Go,Jb hlt]at ex;rw[Jb hlt];exact congrArg some ex
    let hno:(x,Ci)∉scope.names:=by rw[<-ex];exact(S.cap c0 (Gq e)).2
    let hfree:(x,Eh)∈scope.names:=by
     rcases h3' with z|z
     .exact Fh (U8 z) (by rw[<-ex];exact(S.cap c0 (Gq e)).1)
     .exact(T9 z).resolve_right hno
    let ok:=S.free _ hfree rfl;let⟨m',hn',hl'⟩:=I.loc;let⟨u,r,l⟩:=hl' c0 x v eN eσ (.inr ok);exists u,r,?_;rcases l with⟨kd,_⟩|⟨_,c,ec,z⟩
    .let kd':X.env.scope.names.lookup x=some .local:=kd;rcases ok with q|q<;>(rw[show X.env.scope.names.lookup x=_ from q]at kd';cases kd')
    .let⟨c',ec'⟩:=Ug (cells:=X.env.cells) (acc:=[]) hfree;let:c'=c:=by
      let q:=I.clo S ec';rw[ec]at q;exact(Fu q).symm
     subst this;refine .inr ⟨?_,c',(show(blkC scope C X.env.cells).lookup x=some c' by unfold blkC;rw[Tg hno];exact ec'),cellS z⟩;rcases h3' with q|q
     .exact Fh (U8 q) (by rw[<-ex];exact(S.cap c0 (Gq e)).1)
     .exact q
 .rcases I.clo2 S e with⟨a,b⟩|a
  .rw[a];exists none,oc x b
  .let⟨v,z⟩:=I.cell x c a;exists v,cellS z
 .show(sgOf σ T cs).length=(nbOf X.N T cs).length;simp[sgOf,nbOf]
def Inv.track{D:Addr}{n:Nat}(I:Inv X pq σ H s)(hD:s.heap.get? D=some {cls:=.type "list",data:=.seq its.toArray n})(f:FpOk X pq H D)(rv:Vals ys its)(hz:ys.length<=Cb) :
  Inv X pq σ (upd H D (.lst ys)) s:=by
 let⟨f0,f1,f2,f3,f4,f5⟩:=f;let hok:HOk X.prog X.w (upd H D (.lst ys)) s.heap:=λb u e=>by
  by_cases hb:b=D
  .subst hb;rw[Zi]at e;cases e;exists hz,its,n,rv,hD
  .rw[Zk hb]at e;exact(I.hok b u e).stay (λ_ _ _ q=>q) (λc q=>by rw[Zk (Zp q f0)];exact q) λc xs q=>by rw[Zk (Zp q f0)];exact q
 let st:=I.step (H':=upd H D (.lst ys)) (h':=s.heap) (g':=s.gens) (t':=s.toks) (d':=s.drawn) (ch:=[D])
  (λb hb=>by
   let e:b=D:=by simpa using hb
   subst e;exact⟨f3,f1,f4,f5⟩)
  (λb o _ _ _ e _=>e) (λb o _ _ _ e _=>⟨o.slots,e⟩) (λb o hc e n=>by rw[Zk (λz=>hc (by simp[z]))];exact n) (λb o _ e=>⟨o,e⟩)
  (λb xs e=>by rw[Zk (Zp e f0)];exact e) (λb o u e=>by rw[Zk (Zp e f0)];exact e) (λb ps e=>⟨#[],by rw[Zk (Zp e f0),e];simp⟩) (λm h=>h) hok I.bare
 exact st
end
section
variable{R:Jdr->Cc->Prop} 
abbrev Ze8(ifs:List Expr)(env:Env):Sem Bool:=forIn ifs true λc r=>if r=true then do let ok <-isTrue c env (eval c env);pure (Jfk ok)else pure (Jfk r)
def Zax{elt target iter:Expr}{ifs:List Expr}{scope:Scope}{it acc:Ca}{env:Env}(I:Nat->Cc->Prop)(turn:∀n s,I n s->Cg (Cj prog w) A (Jeo it) (λr s₁=>match r with
   |none=>R (.ok .next) s₁
   |some v=>Cg (Cj prog w) A (Lp target it v) (λ_ s₂=>Cg (Cj prog w) A (Jen target env v) (λ_ s₃ =>
     Cg (Cj prog w) A (Ze8 ifs env) (λok s₄ =>
      if ok=true then Cg (Cj prog w) A (eval elt env) (λx s₅ =>
       Cg (Cj prog w) A (call (.builtin "list.append") [acc,x]) (λ_ s₆=>∃m,m<n/\I m s₆) (λ_ _=>False) s₅) (λ_ _=>False) s₄
      else ∃m,m<n/\I m s₄) (λ_ _=>False) s₃) (λ_ _=>False) s₂) (λ_ _=>False) s₁) (λ_ _=>False) s)(n:Nat)(h:I n s) :
  Hn (Cj prog w) A (.compLoop (.ListComp elt [⟨target,iter,ifs,0⟩] scope pos) 0 it acc env) R s:=by
 refine codeAny_loop rfl I (λn s hI=>?_) n h;show Cg _ A ((compTurn (.ListComp elt [⟨target,iter,ifs,0⟩] scope pos) 0 it acc env).onRaise (λx=>do Ey x env;Jc1 x)) _ _ s;refine wpAny_noted ?_;rw[compTurn_list];refine Fj (Ej (Fj (Fw (turn n s hI) (λr s₁ h₁=>?_) λ_ _ h'=>Cq h')));cases r with
 |none=>exact Fk h₁
 |some v =>
  refine Fj (Fw h₁ (λ_ s₂ h₂=>?_) λ_ _ h'=>Cq h');refine Fj (Fw h₂ (λ_ s₃ h₃=>Fj (Fw h₃ (λok s₄ h₄=>?_) λ_ _ h'=>Cq h')) λ_ _ h'=>Cq h');cases ok with
  |false=>exact Fk ⟨rfl,h₄⟩
  |true =>
   exact Fj (Fj (Fw h₄ (λx s₅ h₅=>Fj (Fw h₅ (λ_ s₆ h₆=>Fk (Fk ⟨rfl,h₆⟩)) λ_ _ h'=>Cq h')) λ_ _ h'=>Cq h'))
end
instance PTs(X:Cx)(ifs:List Expr)(t:TT):Prop :=
 ∀(pq:List (Addr×Obj))(s:Cc)(σ:St)(H:Hp)(Q:Bool->Hp->Prop),Inv X pq σ H s->t σ H Q->Cg (Cj X.prog X.w) X.A (Ze8 ifs X.env) (TP X pq σ Q) X.xe s
instance Zqb:TT:=λ_ H Q=>Q true H
def Yz :PTs X [] Zqb:=λpq s σ H Q I h=>wpAny_tests_nil ⟨H,I,h⟩
def Ut{c:Expr}{t:TT}(hc:PT X c t):PTs X [c] t:=λpq s σ H Q I h=>wpAny_tests_one (hc pq s σ H Q I h)
instance Ag(n:Nat)(σ σ0:St):Prop:=σ.length=σ0.length/\∀i,n<=i->σ[i]?=σ0[i]?
instance Za8(g:TG)(n:Nat):Prop:=∀σ0 x σ H R,Ag n σ σ0->g x σ H R->g x σ H λσ2 H2=>R σ2 H2/\Ag n σ2 σ0
instance Np(g:TGs)(n:Nat):Prop:=∀σ0 xs σ H R,Ag n σ σ0->g xs σ H R->g xs σ H λσ2 H2=>R σ2 H2/\Ag n σ2 σ0
def Ag.set{n:Nat}(a:Ag n σ σ0)(h:i<n)(v:Option V):Ag n (σ.set i v) σ0 :=
 ⟨by rw[Gi];exact a.1,λj hj=>(Gp ()).trans (a.2 j hj)⟩
def Y3{n:Nat}(h:i<n):Za8 (Zak i) n:=λσ0 x σ H R a q=>⟨q,a.set h _⟩
def Vt{n:Nat}:Np gNil n:=λσ0 xs σ H R a q=>⟨q.1,q.2,a⟩
def Yp{n:Nat}{u:TGs}(h:i<n)(h2:Np u n):Np (Zoa (Zak i) u) n:=λσ0 xs σ H R a q=>by
 let⟨v,r,e,q⟩:=q;exists v,r,e,h2 σ0 r _ _ _ (a.set h _) q
def Sd{m n:Nat}{t:TGs}(h:Np t n):Za8 (gTup K m t) n:=λσ0 x σ H R ag q=>by
 let⟨a,xs,e,hq,hl,q⟩:=q;exists a,xs,e,hq,hl,h σ0 xs σ H R ag q
section
variable{scope:Scope}{T:List Str}{elt iter:Expr}{ifs:List Expr}{tt:TT} 
def Zaw{RR:Ca->Addr->Jdr->Cc->Prop}{Fin:List V->Hp->Prop}{J:It}{tn:Nat->Heap->Prop}(I:Inv X pq σ H s)(hc:X.calm=true)(S:CScope X.env.scope scope X.N T cs)(Tn:Turn X.prog X.w X.K tg J fp it tn)(st:tn 0 s.heap)(hf:∀b∈fp,FpOk X pq H b)(hg:∀C s₀ H₀ ex,PG (blk X T cs scope C s₀ H₀ ex) tg g)(ht:∀C s₀ H₀ ex,PTs (blk X T cs scope C s₀ H₀ ex) ifs tt)(he:∀C s₀ H₀ ex,PE (blk X T cs scope C s₀ H₀ ex) elt te)(hk:Za8 g T.length)(W:Nat->Nat->List V->Hp->Prop)(w0:∃m,W 0 m [] H)(turn:∀i m ys H,W i m ys H->(J.stop i H/\ys.length<=Cb/\Fin ys H)\/(J.go i H/\ys.length<Cb/\∃N:List V->Hp->Prop,(∀ys' H',N ys' H'->∃m',m'<m/\W (i+1) m' ys' H') /\
   ∀x H',J.yld i H x H'->g x (sgOf σ T cs) H' λσ2 H2=>tt σ2 H2 λb H3=>if b=true then te σ2 H3 λy H4=>N (ys++[y]) H4 else N ys H3))(fin:∀(D C:Addr)(s':Cc)(m:Str->Option Ca)(ys:List V)(H':Hp),Fin ys H'->H' D=none->s'.heap.Ns C m->FpOk X pq H' C->C≠D->Inv X pq σ (upd H' D (.lst ys)) s'->RR (.ref D) C (.ok .next) s') :
  Cg (Cj X.prog X.w) X.A (newList []) (λacc s₃=>Cg (Cj X.prog X.w) X.A (newFunctionEnv scope X.env.globals (Wg X.env.cells scope.names []) [] X.env.qual none .none (some X.env)) (λcenv s₄ =>
   Hn (Cj X.prog X.w) X.A (.compStart (.ListComp elt [⟨tg,iter,ifs,0⟩] scope pos) 0 (.ref it) acc {cenv with scope:=Jhq scope X.env}) (RR acc cenv.locals) s₄) E s₃) E s:=by
 refine Hi (Zrq S.few λh₁ hns₁ hsb₁ hoc=>?_);dsimp only at hns₁ hsb₁ hoc⊢;generalize hH2:s.heap.push {cls:=.type "list",dict:=none,data:=.seq ([]:List Ca).toArray}=H2 at hns₁ hsb₁ hoc⊢;let hCe:H2.objs.size=s.heap.objs.size+1:=by rw[<-hH2,Ep]
 let hDC:s.heap.objs.size≠H2.objs.size:=by rw[hCe];exact Gg (Bc _)
 let hCle:s.heap.objs.size<=H2.objs.size:=by rw[hCe];exact G1 _
 let old:∀b o,s.heap.get? b=some o->h₁.get? b=some o:=λb o e=>hsb₁ b o (hH2 ▸ Fl _ e);let hacc:h₁.get? s.heap.objs.size=some {cls:=.type "list",data:=.seq ([]:List Ca).toArray 0}:=hsb₁ _ _ (hH2 ▸ Fm _ rfl);let hfe:∀b∈fp,∃o,s.heap.get? b=some o:=λb hb=>let⟨o,e,_⟩:=Tn.obj _ _ st b hb;⟨o,e⟩
 let hlt:∀b∈fp,b<s.heap.objs.size:=λb hb=>let⟨o,e⟩:=hfe b hb;Fn e
 let st₁:tn 0 h₁:=Tn.keep _ _ _ st λb _ o e=>old b o e;generalize hDD:s.heap.objs.size=D at *
 generalize hCC:H2.objs.size=C at *
 let hnD:H D=none:=I.hok.fresh (Bq hDD);let hCle':s.heap.objs.size<=C:=hDD ▸ hCle;let stat:∀{H':Hp}{its:List Ca}{n:Nat},(∀b∈fp,H' b=none)->∀b∈fp,FpOk (blk X T cs scope C s H fp) [(D,({cls:=.type "list",data:=.seq its.toArray n}:Obj))] H' b:=λhn b hb=>by
  let⟨f0,f1,f2,f3,f4,f5⟩:=hf b hb;exists hn b hb,Gg (Jw (hlt b hb) hCle),λz=>?_,.inl hb,λx c e=>(I.clo3 S hCle' e).elim (λz=>B1 (Nat.lt_trans (Jw (hlt b hb) hCle) z)) (f4 x c),λp hp z=>?_
  .rcases Jp.mp (I.stkSub b z)with e|e
   .exact f1 e
   .exact f2 e
  .let e:p.1=D:=by
    rcases Jt.mp hp with q|q
    .exact Fh (show p∈([]:List (Addr×Obj))from q) (by simp)
    .rw[Jj.mp q]
   exact Fh (hlt b hb) (by rw[<-z,e];exact G6 _)
 let loop:∀tk:Nat,Hn (Cj X.prog X.w) X.A (.compLoop (.ListComp elt [⟨tg,iter,ifs,0⟩] scope pos) 0 (.ref it) (.ref D) (compEnvC scope (blkC scope C X.env.cells) C X.env)) (RR (.ref D) C) {s with heap:=h₁,toks:=tk}:=by
  intro tk;let I1:Inv (blk X T cs scope C s H fp) [] (sgOf σ T cs) H {s with heap:=h₁,toks:=tk}:=Zn1 I S hf hfe (by rw[hDD];exact hCle) hns₁ old hoc;let⟨m0,w0⟩:=w0;let pinD:∀{σ':St}{H':Hp}{s':Cc}{its:List Ca}{n:Nat}{pl:List (Addr×Obj)},Inv (blk X T cs scope C s H fp) pl σ' H' s'->s'.heap.get? D=some {cls:=.type "list",data:=.seq its.toArray n}->H' D=none ->
    Inv (blk X T cs scope C s H fp) [(D,({cls:=.type "list",data:=.seq its.toArray n}:Obj))] σ' H' s':=λ{σ' H' s' its n pl}J e hn=>J.pins_of λp hp=>by
   obtain rfl:=Jj.mp hp;refine⟨e,hn,hDC,λz=>?_,λv q=>by cases q⟩;let z':D∈frs X.stack:=z;let⟨_,o,ho,_⟩:=I.stack.mem z';exact Fh (Fn ho) (by rw[hDD];exact G6 _)
  refine Zax (λn s'=>∃(i:Nat)(ys:List V)(its:List Ca)(k:Nat)(H':Hp),Inv (blk X T cs scope C s H fp) [(D,({cls:=.type "list",data:=.seq its.toArray k}:Obj))] (sgOf σ T cs) H' s'/\Vals ys its/\tn i s'.heap/\(∀b∈fp,H' b=none)/\W i n ys H') ?_ m0
   ⟨0,[],[],0,H,pinD I1 hacc hnD,.nil,st₁,λb hb=>(hf b hb).1,w0⟩
  rintro n s1 ⟨i,ys,its,k,H1,J1,rv,st1,fr1,w1⟩;rcases turn i n ys H1 w1 with⟨stop,hz,fq⟩|⟨go,hz,N,hN,step⟩
  .refine Fw (Tn.done (blk X T cs scope C s H fp) rfl rfl rfl hc i _ s1 _ H1 (λ_ _=>False) J1 (stat fr1) st1 stop) (λr s2 hz=>?_) λ_ _ z=>z;let⟨hr,J2⟩:=hz;subst hr;let⟨eD,nD,_⟩:=J2.pin (D,({cls:=.type "list",data:=.seq its.toArray k}:Obj)) (Jl _ (Jj.mpr rfl));let J3:Inv X pq σ H1 s2:=I.call' (ch:=fp) J2.os J2.base J2.hok J2.bare λb hb=>by
    let⟨f0,f1,f2,f3,f4,f5⟩:=hf b hb;exists f3,f1,f4,f5
   let⟨mC,hnC,_⟩:=J2.loc;let fC:FpOk X pq H1 C:=I.fpOk (by rw[hDD];exact hCle) J2.free;let fD:FpOk X pq H1 D:=I.fpOk (Bq hDD) nD;exact fin D C s2 mC ys H1 fq nD hnC fC (Cv hDC) (J3.track eD fD rv hz)
  .refine Fw (Tn.item (blk X T cs scope C s H fp) rfl rfl rfl hc i _ s1 _ H1 (λ_ _=>False) J1 (stat fr1) st1 go) (λr s2 hz=>?_) λ_ _ z=>z;let⟨u,hr,h2⟩:=hz;subst hr;refine Fw h2 (λ_ s3 hz=>?_) λ_ _ z=>z;let⟨x,H3,J3,r3,y3,st3,fr3⟩:=hz;let J3':=J3.pinned (stat fr3) (Tn.obj _ _ st3);refine Fw (hg C s H fp _ s3 _ H3 x u _ J3' r3 (hk (sgOf σ T cs) x _ H3 _ ⟨rfl,λ_ _=>rfl⟩ (step x H3 y3))) (λ_ s4 hz=>?_) λ_ _ z=>z;let⟨σ4,H4,J4,q4,l4,k4⟩:=hz;refine Fw (ht C s H fp _ s4 σ4 H4 _ J4 q4) (λb s5 hz=>?_) λ_ _ z=>z;let⟨H5,J5,q5⟩:=hz;let wk:∀{pl:List (Addr×Obj)}{H':Hp}{s':Cc},Inv (blk X T cs scope C s H fp) pl σ4 H' s'->Inv (blk X T cs scope C s H fp) pl (sgOf σ T cs) H' s':=λJ=>J.weak l4.symm λj v e=>by
    by_cases hj:T.length<=j
    .rw[k4 j hj];exact e
    .exfalso
     unfold sgOf at e;rw[Js (by simp;lia),Jr]at e;cases q:T[j]? with
     |none=>rw[q]at e;cases e
     |some a=>rw[q]at e;cases e
   let tnk:∀{H':Hp}{s':Cc}{σ':St},Inv (blk X T cs scope C s H fp) ([(D,({cls:=.type "list",data:=.seq its.toArray k}:Obj))]++N8 fp s3.heap) σ' H' s'->tn (i+1) s'.heap/\∀b∈fp,H' b=none:=λ{H' s' σ'}J=>by
    exists Tn.keep _ _ _ st3 λb hb o e=>(J.pin (b,o) (Jl _ (Jl _ (Ue hb e)))).1,λb hb=>?_;let⟨o,e,d⟩:=Tn.obj _ _ st3 b hb;exact(J.pin (b,o) (Jl _ (Jl _ (Ue hb e)))).2.1
   cases b with
   |false =>
    rw[Fo Jv]at q5⊢;let⟨m',hm,w5⟩:=hN _ _ q5;let⟨t5,f5⟩:=tnk J5;exists m',hm,i+1,ys,its,k,H5,wk J5.unpinned,rv,t5,f5,w5
   |true =>
    rw[Fp rfl]at q5⊢;refine Fw (he C s H fp _ s5 σ4 H5 _ J5 q5) (λuy s6 hz=>?_) λ_ _ z=>z;let⟨y,H6,J6,ry,n6⟩:=hz;let⟨m',hm,w6⟩:=hN _ _ n6;let⟨t6,f6⟩:=tnk J6;let⟨eD,nD,_⟩:=J6.pin (D,({cls:=.type "list",data:=.seq its.toArray k}:Obj)) (Jl _ (Gs _ (Jj.mpr rfl)));let hsz:its.toArray.size<=Cb:=by rw[Jq,<-rv.length];lia
    refine append_at (hsz:=hsz) eD λh7 sb hD7=>?_;let J6':Inv (blk X T cs scope C s H fp) [] σ4 H6 s6:=J6.pins_of λp hp=>Fh hp (by simp);let J7:Inv (blk X T cs scope C s H fp) [] σ4 H6 {s6 with heap:=h7}:=J6'.turned (t':=s6.toks) (it:=D) (λb o hb e=>(sb.2 b hb).trans e) nD hDC (.inr (Bq hDD))
     (λx c e z=>by
      rcases I.clo3 S hCle' e with q|q
      .rw[z]at q;exact Fh (Jw q hCle) (G6 _)
      .let⟨v,q⟩:=I.cell x c q;exact Fh q.lt (by rw[z,hDD];exact G6 _))
     (λp hp=>Fh hp (by simp[blk]))
    let hD7':h7.get? D=some {cls:=.type "list",data:=.seq (its++[uy]).toArray (k+1)}:=by
     rw[hD7,Jef]
    exists m',hm,i+1,ys++[y],its++[uy],k+1,H6,wk (pinD J7 hD7' nD),rv.append (.cons ry .nil),Tn.keep _ _ _ t6 λb hb o e=>(sb.2 b (Gg (hlt b hb))).trans e,f6,w6
 exact codeAny_compStart_list (loop _) (Tn.self _ 0 _ _ _ st₁ (loop _))
instance Zfg(wi:TI)(g:TG)(tt:TT)(te:TE)(T:List Str)(cs:List Nat):TE:=λσ H Q=>wi σ H λJ H1=>∃W:Nat->Nat->List V->Hp->Prop,(∃m,W 0 m [] H1) /\
 ∀i m ys H,W i m ys H->(J.stop i H/\ys.length<=Cb/\∀p,H p=none->Q (.ref p) (upd H p (.lst ys)))\/(J.go i H/\ys.length<Cb/\∃N:List V->Hp->Prop,(∀ys' H',N ys' H'->∃m',m'<m/\W (i+1) m' ys' H') /\
  ∀x H',J.yld i H x H'->g x (sgOf σ T cs) H' λσ2 H2=>tt σ2 H2 λb H3=>if b=true then te σ2 H3 λy H4=>N (ys++[y]) H4 else N ys H3)
def Y1(hc:X.calm=true)(S:CScope X.env.scope scope X.N T cs)(hi:PI X tg iter wi)(hg:∀C s₀ H₀ ex,PG (blk X T cs scope C s₀ H₀ ex) tg g)(ht:∀C s₀ H₀ ex,PTs (blk X T cs scope C s₀ H₀ ex) ifs tt)(he:∀C s₀ H₀ ex,PE (blk X T cs scope C s₀ H₀ ex) elt te)(hk:Za8 g T.length)(hs:∀x,Mj iter X.env x=pure x:=by intro _;rfl):PE X (.ListComp elt [⟨tg,iter,ifs,0⟩] scope pos) (Zfg wi g tt te T cs):=by
 intro pq s σ H Q I h;rw[eval_ListComp];refine Mt (use:=none) rfl hs (Q9 (I.hl S)) S.kind S.names (thn (hi pq s σ H _ I h) λv s1 h1=>thn h1 λitv s2 h2=>?_);let⟨it,fp,tn,J,H2,e,I2,Tn,st,hf,W,w0,turn⟩:=h2;subst e;refine Zaw (RR:=λacc C=>compPost (Cj X.prog X.w) X.A X.xe none (EP X pq σ Q) acc C) (Fin:=λys H=>∀p,H p=none->Q (.ref p) (upd H p (.lst ys))) I2 hc S Tn st hf hg ht he hk W w0 turn ?_;intro D C s' m ys H' q nD hn fC hCD I';exists m,hn,λh' sb=>⟨.ref D,_,I'.turned (t':=s'.toks) (it:=C) (λb o hb e=>(sb.2 b hb).trans e) ?_ fC.2.1 fC.2.2.2.1 fC.2.2.2.2.1 fC.2.2.2.2.2,rfl,q D nD⟩
 rw[Zk hCD];exact fC.1
def Uu{y:Str}{py spos:Pos}(hN:X.N.Nodup)(hy:X.N[i]?=some y)(hl:X.env.scope.names.lookup y=some .local)(hc:X.calm=true)(S:CScope X.env.scope scope X.N T cs)(hi:PI X tg iter wi)(hg:∀C s₀ H₀ ex,PG (blk X T cs scope C s₀ H₀ ex) tg g)(ht:∀C s₀ H₀ ex,PTs (blk X T cs scope C s₀ H₀ ex) ifs tt)(he:∀C s₀ H₀ ex,PE (blk X T cs scope C s₀ H₀ ex) elt te)(hk:Za8 g T.length)(hs:∀x,Mj iter X.env x=pure x:=by intro _;rfl)(hsw:Ln (.ListComp elt [⟨tg,iter,ifs,0⟩] scope pos) (some (.Name y py)) spos.line X.env=pure true:=by rfl):PS X (.Assign [.Name y py] (.ListComp elt [⟨tg,iter,ifs,0⟩] scope pos) spos) (tAsg (Zfg wi g tt te T cs) (Zak i)):=by
 intro pq s σ H D I h;rw[exec_Assign_Name_used _ _ _ _ hsw];refine Fj (Ej (Fj ?_));show Cg _ X.A (do let _ <-comprehension (.ListComp elt [⟨tg,iter,ifs,0⟩] scope pos) scope X.env _ (newList []) false (eval iter X.env) (some (Jen (.Name y py) X.env))) _ _ s;refine Fj (Fw (Mt (use:=some (Jen (.Name y py) X.env)) (Q:=λ_ s'=>SP X pq D .next s') rfl hs (Q9 (I.hl S)) S.kind S.names
  (thn (hi pq s σ H _ I h) λv s1 h1=>thn h1 λitv s2 h2=>?_)) (λ_ s' hq=>Fk (Fk hq)) λ_ _ e=>e)
 let⟨it,fp,tn,J,H2,e,I2,Tn,st,hf,W,w0,turn⟩:=h2;subst e;refine Zaw (RR:=λacc C=>compPost (Cj X.prog X.w) X.A X.xe (some (Jen (.Name y py) X.env)) (λ_ s'=>SP X pq D .next s') acc C) (Fin:=λys H=>∀p,H p=none->Zak i (.ref p) σ (upd H p (.lst ys)) D.nx) I2 hc S Tn st hf hg ht he hk W w0 turn ?_;intro B C s' m ys H' q nB hn fC hCB I';show Cg _ X.A (Jen (.Name y py) X.env (.ref B)) _ _ s';refine Jd6 (Nx (v:=.ref B) I' hN hy (.inl hl) rfl (λs'' I'' hz=>?_) (.inr hl));let⟨a,sb,ha⟩:=hz;let nC:C≠a:=by
  rcases ha with z|z
  .rw[z];exact fC.2.1
  .exact Cv (fC.2.2.2.2.1 y a z)
 exists m,hn.sameBut sb nC,λh' sb'=>⟨_,_,I''.turned (t':=s''.toks) (it:=C) (λb o hb e=>(sb'.2 b hb).trans e) ?_ fC.2.1 fC.2.2.2.1 fC.2.2.2.2.1 fC.2.2.2.2.2,q B nB⟩;rw[Zk hCB];exact fC.1
end
def T5{J:It}{n:Nat}{tt:TT}{σB:St}{F:List V->Hp->Prop}(Pv:Nat->List V->Hp->Prop)(h0:Pv 0 [] H1)(hn:∀i ys H,Pv i ys H->ys.length<=i)(hz:n<=Cb)(hgo:∀i ys H,i<n->Pv i ys H->J.go i H)(hstop:∀ys H,Pv n ys H->J.stop n H)(hs:∀i ys H,i<n->Pv i ys H->∀x H',J.yld i H x H'->g x σB H' λσ2 H2=>tt σ2 H2 λb H3=>if b=true then te σ2 H3 λy H4=>Pv (i+1) (ys++[y]) H4 else Pv (i+1) ys H3)(hd:∀ys H,Pv n ys H->F ys H) :
  ∃W:Nat->Nat->List V->Hp->Prop,(∃m,W 0 m [] H1)/\∀i m ys H,W i m ys H->(J.stop i H/\ys.length<=Cb/\F ys H)\/(J.go i H/\ys.length<Cb/\∃N:List V->Hp->Prop,(∀ys' H',N ys' H'->∃m',m'<m/\W (i+1) m' ys' H') /\
   ∀x H',J.yld i H x H'->g x σB H' λσ2 H2=>tt σ2 H2 λb H3=>if b=true then te σ2 H3 λy H4=>N (ys++[y]) H4 else N ys H3):=by
 exists λi m ys H=>m=n-i/\i<=n/\Pv i ys H,⟨n,rfl,J8 _,h0⟩,?_;rintro i m ys H ⟨rfl,hi,p⟩;let hl:=hn i ys H p
 by_cases hlt:i<n
 .exact .inr ⟨hgo i ys H hlt p,(),Pv (i+1),λys' H' q=>⟨n-(i+1),(),rfl,hlt,q⟩,hs i ys H hlt p⟩
 .let e:i=n:=by lia
  subst e;exact .inl ⟨hstop ys H p,(),hd ys H p⟩
section
instance Zua(K:Cs):V->V->Hp->VK->Prop:=λo i H Q=>∃p xs k v,o=.ref p/\i=.int ((k:Nat):Int)/\SqL K H p xs/\xs[k]?=some v/\Q v H
def Zgj:PGet X (Zua X.K):=by
 intro pq s σ H o i ov iv Q I ro ri h;let⟨p,xs,k,v,rfl,rfl,hq,hx,q⟩:=h;cases ro;let⟨t,rfl⟩:=ri;let⟨its,rv,pl,hz⟩:=I.list hq;let⟨u,hu,ru⟩:=rv.get hx;let hk:k<xs.length:=(Jf.mp hx).1;let hn:=Q3;exact wpAny_getItem_list pl.isList () () (by simpa using hu) ⟨v,H,I,ru,q⟩
def Vals.bl_get{bs:List Bool}(r:Vals (bs.map V.bl) us){v:Ca}(e:us[i]?=some v):∃b,bs[i]?=some b/\v=.bool b:=by
 let hi:i<us.length:=(Jf.mp e).1;let hl:=r.length;rw[Ja]at hl;let hb:i<bs.length:=by lia
 let eb:(bs.map V.bl)[i]?=some (V.bl bs[i]):=by rw[Jr,Jb hb];rfl
 let⟨u,hu,ru⟩:=r.get eb;rw[e]at hu;cases hu;exists bs[i],Jb hb,ru
def Zst(bs:List Bool):((Ec bs.length).any λi=>(bs[i]?).getD false)=bs.any id:=by
 rw[Bv];simp only[B3,List.mem_range,id]
 constructor
 .rintro⟨i,hi,e⟩;rw[Jb hi]at e;exists _,Jy hi,e
 .rintro⟨b,hb,e⟩;let⟨i,hi,e'⟩:=List.mem_iff_getElem.mp hb;exists i,hi,?_;rw[Jb hi,e'];exact e
def Zkg(hc:X.calm=true):Wv X (.builtin "any") (λxs H Q=>∃(p:Addr)(bs:List Bool),xs=[.ref p]/\SqL X.K H p (bs.map V.bl)/\Q (.bl (bs.any id)) H):=by
 intro pq s σ H xs us Q I r h;let⟨p,bs,rfl,hq,q⟩:=h;let⟨u,rfl,ru⟩:=Sr r;cases ru;let⟨its,rv,pl,hz⟩:=I.list hq;let hlen:=rv.length;rw[Ja]at hlen;let hlt:p<s.heap.objs.size:=by let⟨_,e,_⟩:=pl.isList;exact Fn e
 refine call_any_walk (K4 pl.isList ?_);refine⟨s.heap.objs.size,[s.heap.objs.size,p],[s.heap.objs.size],its.toArray.size,_,_,λi=>(bs[i]?).getD false,rfl,Walks.list (A:=X.A.in1) (I.ok.hd hc) _ p (Gg hlt) its.toArray,
  ⟨⟨_,Fm _ rfl,rfl,rfl⟩,pl.isList.push _⟩,λi v s' Q' E' hP hQ=>?_,λh' tk hk=>?_⟩
 .let⟨b,e,rfl⟩:=rv.bl_get (by simpa using hP);simp only[e,Je3]at hQ;exact Hf hQ
 .rw[Jq,<-hlen,Zst];exists .bl (bs.any id),H,I.kept (t':=tk) (Jfq hk),rfl,q
def Zd9{ys:List Str}:∀{us:List Ca},Vals (ys.map V.str) us->StrsAre us ys:=by
 induction ys with
 |nil=>intro us r;rw[Jeu]at r;cases r;exact .nil
 |cons n ns ih =>
  intro us r;rw[Jk]at r;cases r with
  |cons r1 r2 =>
   let⟨t,e⟩:=r1;subst e;exact .cons n t (ih r2)
def Zns:MtR X "str.join" (λx xs H Q=>∃(z:Str)(p:Addr)(ys:List Str),x=.str z/\xs=[.ref p]/\SqL X.K H p (ys.map V.str)/\(ys.map (·.length)).sum+ys.length*z.length<=16777216/\Q (.str (Txt.join z ys)) H):=by
 intro pq s σ H x xs v us Q I rx r h;let⟨z,p,ys,rfl,rfl,hq,hz,q⟩:=h;let⟨t,rfl⟩:=rx;let⟨u,rfl,ru⟩:=Sr r;cases ru;let⟨its,rv,pl,_⟩:=I.list hq;exact join_list pl.isList (by simpa using Zd9 rv) hz λt' k=>⟨.str _,H,I.tok _,⟨_,rfl⟩,q⟩
def Zkf:Wv X (.builtin "isinstance") (λxs H Q=>∃x T t b,xs=[x,.ty T]/\TyOf X.K H x t/\Eg X.K t (.type T)=some b/\Q (.bl b) H):=by
 intro pq s σ H xs us Q I r h;let⟨x,T,t,b,rfl,ty,e,q⟩:=h;let⟨u,w',rfl,ru,rw'⟩:=Zil r;cases rw';exact Zg7 I ru ty e λtk=>⟨.bl b,H,I.tok tk,rfl,q⟩
instance rSlS:V->Option Int->Option Int->Hp->VK->Prop:=λx lo hi H Q=>∃z,x=.str z/\z.length<=Cb/\Q (.str (Txt.slice z lo hi)) H
def Zqn:SlR X rSlS:=by
 intro pq s σ H x v vl vu lo hi sl Q I rx hs pl pu h;let⟨z,rfl,hz,q⟩:=h;let⟨t,rfl⟩:=rx;exists "str",_,F.slot_str_getitem.lookup,Jgh _ _ _,?_;cases pl with
 |none =>
  cases pu with
  |none=>exact Hr (l:=none) (u:=none) (st:=none) hs rfl (Ls ⟨Ga (Txt.slice_le z _ _) hz,λt' k=>⟨.str _,H,I.tok _,⟨_,rfl⟩,q⟩⟩)
  |int j tj=>exact Hr (l:=none) (u:=some (j,tj)) (st:=none) hs rfl (Ls ⟨Ga (Txt.slice_le z _ _) hz,λt' k=>⟨.str _,H,I.tok _,⟨_,rfl⟩,q⟩⟩)
 |int i ti =>
  cases pu with
  |none=>exact Hr (l:=some (i,ti)) (u:=none) (st:=none) hs rfl (Ls ⟨Ga (Txt.slice_le z _ _) hz,λt' k=>⟨.str _,H,I.tok _,⟨_,rfl⟩,q⟩⟩)
  |int j tj=>exact Hr (l:=some (i,ti)) (u:=some (j,tj)) (st:=none) hs rfl (Ls ⟨Ga (Txt.slice_le z _ _) hz,λt' k=>⟨.str _,H,I.tok _,⟨_,rfl⟩,q⟩⟩)
end
mutual
inductive DV(K:Cs)(H:Hp):V->PyData->Prop
 |non:DV K H .non .none
 |bl (b:Bool):DV K H (.bl b) (.bool b)
 |int (i:Int):DV K H (.int i) (.int i)
 |str (x:Str):DV K H (.str x) (.str x)
 |lst {a:Addr} {xs:List V} {ds:List PyData} (h:SqL K H a xs) (r:DVs K H xs ds):DV K H (.ref a) (.list ds)
 |tup {a:Addr} {xs:List V} {ds:List PyData} (h:SqT K H a xs) (r:DVs K H xs ds):DV K H (.ref a) (.tuple ds)
inductive DVs(K:Cs)(H:Hp):List V->List PyData->Prop
 |nil:DVs K H [] []
 |cons {x:V} {d:PyData} {xs:List V} {ds:List PyData} (h:DV K H x d) (r:DVs K H xs ds):DVs K H (x::xs) (d::ds)
end
section
mutual
theorem Tf(I:Inv X pq σ H s):∀{x:V}{d:PyData}{u:Ca},DV X.K H x d->RelV x u->∃as,Reads s.heap u d as
 |_,_,u,.non,r=>by obtain rfl:u=Ca.none:=r;exists _,Reads.none
 |_,_,u,.bl b,r=>by obtain rfl:u=Kp b:=r;exists _,Reads.bool b
 |_,_,u,.int i,r=>by let⟨t,rfl⟩:=(show ∃t,u=Er i t from r);exists _,Reads.int i t
 |_,_,u,.str x,r=>by let⟨t,rfl⟩:=(show ∃t,u=Jcy x t from r);exists _,Reads.str x t
 |_,_,u,.lst (a:=a) h q,r=>by
  obtain rfl:u=Cd a:=r;let⟨its,rv,⟨o,n,e,c,d,dt⟩,_⟩:=I.list h;let⟨as,ra⟩:=dvs_reads I q rv;exists _,reads_list_at e c dt (by simpa using ra)
 |_,_,u,.tup (a:=a) h q,r=>by
  obtain rfl:u=Cd a:=r;let⟨its,rv,⟨o,e,c,n,dt⟩,_⟩:=I.tuple h;let⟨as,ra⟩:=dvs_reads I q rv;exists _,reads_tuple_at e c dt (by simpa using ra)
theorem dvs_reads(I:Inv X pq σ H s):∀{xs:List V}{ds:List PyData}{us:List Ca},DVs X.K H xs ds->Vals xs us->∃as,ReadsAll s.heap us ds as:=by
 intro _ _ _ hz9 hz8;cases hz9 with
 |nil=>
  cases hz8 with
  |nil=>
   exists _,ReadsAll.nil
 |cons h q=>
  cases hz8 with
  |cons r rr=>
   exact by
     let⟨as,ra⟩:=Tf I h r;let⟨bs,rb⟩:=dvs_reads I q rr;exists _,ReadsAll.cons ra rb
end
instance rEqD(K:Cs):R2:=λx y H Q=>∃dx dy,DV K H x dx/\DV K H y dy/\Hl dx=true/\Hl dy=true/\Q (.bl (Ed dx dy)) H
instance rNeD(K:Cs):R2:=λx y H Q=>∃dx dy,DV K H x dx/\DV K H y dy/\Hl dx=true/\Hl dy=true/\Q (.bl (!PyData.eqv dx dy)) H
def Zgv(hu:X.A.units+64<Md):OpR X (E8 .Eq) (rEqD X.K):=by
 intro pq s σ H x y v u Q I rx ry h;let⟨dx,dy,hx,hy,sx,sy,q⟩:=h;let⟨as,ra⟩:=Tf I hx rx;let⟨bs,rb⟩:=Tf I hy ry;exact eq_dataH ra rb sx sy hu ⟨.bl _,H,I,rfl,q⟩
def Zrl(hu:X.A.units+64<Md):OpR X (E8 .NotEq) (rNeD X.K):=by
 intro pq s σ H x y v u Q I rx ry h;let⟨dx,dy,hx,hy,sx,sy,q⟩:=h;let⟨as,ra⟩:=Tf I hx rx;let⟨bs,rb⟩:=Tf I hy ry;exact ne_dataH ra rb sx sy hu ⟨.bl _,H,I,rfl,q⟩
end
def Ng :∀ns:List Int,DVs K H (ns.map V.int) (ns.map Hj)
 |[]=>.nil
 |n::r=>.cons (.int n) (Ng r)
instance Cal(P:Eu)(w:Hm)(K:Cs)(mg:Str->Option Ca)(base:Heap)(x:Str)(k:Nat)(ps:List Str)(sp:Sp):Prop :=
 ∃(f:Addr)(fd:Lj),FnOk P w K mg base CX0 k f fd ps sp/\mg x=some (.ref f)/\Ja2 K (.ref f)=true/\W2 K fd ps []
section
variable{x:Str}{k:Nat}{e:Expr}{t:TA}{p:Pos}
def Zt(C:Cal X.prog X.w X.K X.mg X.base x k ps sp)(hr:Room k X.A)(hg:Gl X x)(ha:PA X (e::es) t)(hdb:(x==("__debug__":Str))=false:=by decide)(he:Cp (e::es) X.env=(false,eval e X.env)::Cp es X.env:=by rfl)(hpl:(Kg pos (Cp es X.env)).any (·.1)=false:=by rfl):PE X (.Call (.Name x p) (e::es) [] pos) (Zfh sp [] E0 t):=by
 let⟨f,fd,F,hm,hk,hb⟩:=C;exact Zni F hr hg hm hk hb .nil Zjw ha hdb he hpl
end
instance Grow(p:Addr)(H H':Hp):Prop:=∀b o,H b=some o->b≠p->H' b=some o
def Grow.refl(p:Addr)(H:Hp):Grow p H H:=λ_ _ e _=>e
def Grow.trans{p:Addr}(a:Grow p H H1)(b:Grow p H1 H2):Grow p H H2:=λc o e n=>b c o (a c o e n) n
def Grow.same{p:Addr}(s:Same H H'):Grow p H H':=λb o e _=>s b o e
def Grow.free{p:Addr}(g:Grow p H H')(h:H' l=none)(n:l≠p):H l=none:=by
 cases q:H l with
 |none=>rfl
 |some o=>rw[g l o q n]at h;cases h
def Zr{p:Addr}(h:H p=none):Same H (upd H p o):=λb u e=>by rw[Zk (Zp e h)];exact e
structure HandAt(H:Hp)(p a:Addr):Prop where
 ex:∃(d k:Int)(cs:List Int),H p=some (.lst [.int d,.int k,.ref a])/\H a=some (.lst (cs.map V.int))/\cs≠[]/\cs.length<=63/\0<=d/\0<=k/\∀c∈cs,0<=c
def HandAt.ne{p a:Addr}(h:HandAt H p a):p≠a:=by
 let⟨d,k,cs,e1,e2,_⟩:=h.ex;refine Pq e1 e2 λz=>?_;injection z with z
 cases cs with
 |nil=>cases z
 |cons c r =>
  rw[Jk]at z;injection z with _ z
  cases r with
  |nil=>cases z
  |cons c2 r =>
   rw[Jk]at z;injection z with _ z
   cases r with
   |nil=>cases z
   |cons c3 r=>rw[Jk]at z;injection z with z _;cases z
def HandAt.same{p a:Addr}(h:HandAt H p a)(g:Same H H'):HandAt H' p a:=by
 let⟨d,k,cs,e1,e2,r⟩:=h.ex;exists d,k,cs,g _ _ e1,g _ _ e2,r
instance Su:Sp:=λvs H Q _=>∃(p a:Addr)(n:Int),vs=[.ref p,.int n]/\HandAt H p a/\0<n/\n<1073741824 /\
 ∀(r:Int)(H':Hp),0<=r->r<n->HandAt H' p a->Grow p H H'->(∀b,b≠p->H' b=H b)->Q (.int r) H'
def Zci{cs:List Int}(h:cs≠[])(z:Int):∃c,c∈cs/\atI (cs.map V.int) (z % ((cs.map V.int).length:Nat))=some (.int c):=by
 let hl:0<cs.length:=J9.mpr h;let h0:0<=z % ((cs.map V.int).length:Nat):=G5 _ (by rw[Ja];lia);let h1:z % ((cs.map V.int).length:Nat)<((cs.map V.int).length:Nat):=G0 _ (by rw[Ja];lia);generalize z % ((cs.map V.int).length:Nat)=m at h0 h1;rw[Ja]at h1;let hm:m.toNat<cs.length:=by lia
 let⟨k,rfl⟩:=Gy h0;let hm:k<cs.length:=hm;exists cs[k],Jy hm,Wh ?_;rw[Jr,Jb hm];rfl
instance Shp(n:Nat)(d:PyData):Prop:=d.canLay0=true/\d.depth<=n
def Shp.shaped{n:Nat}{d:PyData}(h:Shp n d)(hn:n<=64):Hl d=true:=by
 unfold Hl;rw[h.1,B8];exact Fs (Ga h.2 hn)
def Zbg{n:Nat}:∀{ds:List PyData},(∀d∈ds,Shp n d)->Mu ds=true/\Jc2 ds<=n
 |[],_=>⟨by simp only[Mu],by simp only[Jc2];exact J8 _⟩
 |d::r,h=>by
  let⟨h1,h2⟩:=h d Jo;let⟨h3,h4⟩:=Zbg (n:=n) λx hx=>h x (Jm _ hx);exists by simp only[Mu,h1,h3,Bool.and_self],?_;simp only[Jc2];lia
def Sk{n:Nat}{ds:List PyData}(h:∀d∈ds,Shp n d):Shp (n+1) (.list ds):=by
 let⟨h1,h2⟩:=Zbg h;exact⟨by simp only[Kj,h1],by simp only[La];lia⟩
def X8{n:Nat}{ds:List PyData}(h:∀d∈ds,Shp n d):Shp (n+1) (.tuple ds):=by
 let⟨h1,h2⟩:=Zbg h;exact⟨by simp only[Kj,h1],by simp only[La];lia⟩
def Pk(i:Int):Shp 0 (.int i):=⟨by simp only[Kj],by simp only[La];exact Jd _⟩
def Sl(ns:List Int):Shp 1 (.list (ns.map Hj)):=Sk λd hd=>by
 let⟨i,_,rfl⟩:=Jn.mp hd;exact Pk i
def Zo{n:Nat}(h:n<=100000):n<=Cb:=Ga h nofun
def Zdv{as:List V}{j:Int}(h0:0<=j)(h1:j<=as.length):cutV as (some j) none=as.drop j.toNat:=by
 let⟨m,rfl⟩:=Gy h0;unfold cutV;rw[HT.sIx_nat,HT.sIx_none,Bn (),G8 (by rw[Gb];exact Jd _)];rfl
def Zhv{as:List V}{j:Int}(h0:0<=j)(h1:j<=as.length):cutV as none (some j)=as.take j.toNat:=by
 let⟨m,rfl⟩:=Gy h0;unfold cutV;rw[HT.sIx_nat,HT.sIx_none,Bn (),Fb,Jev];rfl
def Zkk{α:Type}{xs:List α}{r:Int}(h0:0<=r)(h1:r<xs.length):∃v,v∈xs/\atI xs r=some v:=by
 let hm:r.toNat<xs.length:=by lia
 let⟨k,rfl⟩:=Gy h0;let hm:k<xs.length:=hm;exists xs[k],Jy hm,Wh (Jb hm)
def Zsf{base:Heap}{x:Str}{f:Addr}{k:Nat}(F:Fun K x x st f fd)(G:FnOk P w K mg base CX0 k f fd ps sp)(m:mg x=some (.ref f))(b:W2 K fd ps []) :
  Cal P w K mg base x k ps sp:=⟨f,fd,G,m,F.kp,b⟩
end L2
set_option maxHeartbeats 4000000
namespace L2
open PySem PySem.W PyProof.Rows
instance Rk(rk:Nat->Int)(p:Array Nat)(i:Nat):Int:=rk (p.getD i 0)
instance SrtR(rk:Nat->Int)(p:Array Nat)(k:Nat):Prop:=∀i j,i<=j->j<k->Rk rk p i<=Rk rk p j
structure GoodP(n:Nat)(p:Array Nat):Prop where
 perm:p.Perm (Ec n).toArray
def GoodP.size{n:Nat}{p:Array Nat}(g:GoodP n p):p.size=n:=by have:=g.perm.size_eq;simpa using this
def GoodP.lt{n:Nat}{p:Array Nat}(g:GoodP n p)(i:Nat)(hi:i<n):p.getD i 0<n:=by
 let hi':i<p.size:=by rw[g.size];exact hi
 let e:p.getD i 0=p[i]:=by simp[Jdc,hi']
 rw[e];let hm:p[i]∈p.toList:=by simp
 let:=(Bs.mp g.perm).mem_iff.mp hm;simpa using this
def GoodP.ne{n:Nat}{p:Array Nat}(g:GoodP n p)(hi:i<n)(hj:j<n)(h:i≠j):p.getD i 0≠p.getD j 0:=by
 let nd:p.toList.Nodup:=(Bs.mp g.perm).nodup_iff.mpr (by simpa using List.nodup_range);let hi':i<p.size:=by rw[g.size];exact hi
 let hj':j<p.size:=by rw[g.size];exact hj
 let e:p.getD i 0=p[i]:=by simp[Jdc,hi']
 let e2:p.getD j 0=p[j]:=by simp[Jdc,hj']
 rw[e,e2];intro z;let:=(Bi (h₀:=by simpa using hi') (h₁:=by simpa using hj') nd).mp (by simpa using z);exact h this
def W5{p q:Array Nat}(h:p[i]?=q[j]?):p.getD i 0=q.getD j 0:=by
 rw[Lu,Lu,h]
def Za7{rk:Nat->Int}{xs:Array Nat}{src d:Nat}(hs:src<xs.size)(hd:d<=src)(k:Nat) :
  Rk rk (bubble xs src d) k=if k=src-d then Rk rk xs src else if src-d<k/\k<=src then Rk rk xs (k-1)else Rk rk xs k:=by
 let e:=getElem?_bubble hs d hd k;unfold Rk
 by_cases h1:k=src-d
 .rw[Fp h1]at e⊢;rw[W5 e]
 .rw[Fo h1]at e⊢
  by_cases h2:src-d<k/\k<=src
  .rw[Fp h2]at e⊢;rw[W5 e]
  .rw[Fo h2]at e⊢;rw[W5 e]
def Zln{rk:Nat->Int}{xs:Array Nat}(hj:j<=xs.size)(k:Nat) :
  Rk rk (Jhr xs 0 j) k=if k<j then Rk rk xs (j-1-k)else Rk rk xs k:=by
 let e:=getElem?_mirror_all (xs:=xs) (i:=0) hj k;unfold Rk Jhr
 by_cases h1:k<j
 .rw[Fp ⟨J8 _,h1⟩]at e;rw[Fp h1,W5 e,Jew]
 .rw[Fo (λz=>h1 z.2)]at e;rw[Fo h1,W5 e]
section
variable{rk:Nat->Int}{n:Nat}{cmp:Nat->Nat->(Bool->Cc->Prop)->Cc->Prop} 
instance CmpR(rk:Nat->Int)(n:Nat)(cmp:Nat->Nat->(Bool->Cc->Prop)->Cc->Prop)(s:Cc):Prop :=
 ∀i j(C:Bool->Cc->Prop),i<n->j<n->C (decide (rk i<rk j)) s->cmp i j C s
def Zoy(hc:CmpR rk n cmp s){p:Array Nat}(g:GoodP n p){G:Nat->Cc->Prop}:∀(f m:Nat),1<=m->m+f<=n->SrtR rk p m ->
  (∀m',m<=m'->m'<=m+f->SrtR rk p m'->(m'=m+f\/(m'<n/\Rk rk p m'<Rk rk p (m'-1)))->G m' s)->(kas_asc p f m).kasWp cmp G s
 |0,m,_,_,hs,h=>h m (Jd _) (Jd _) hs (.inl rfl)
 |f+1,m,h1,h2,hs,h=>by
  show cmp (p.getD m 0) (p.getD (m-1) 0) _ s;refine hc _ _ _ (g.lt _ ()) (g.lt _ ()) ?_
  by_cases q:rk (p.getD m 0)<rk (p.getD (m-1) 0)
  .simp only[q,decide_true,if_true];exact h m (Jd _) () hs (.inr ⟨(),q⟩)
  .simp only[q,decide_false,G4,if_false];refine Zoy hc g f (m+1) () () (λi j hij hj=>?_) λm' a b c d=>h m' () () c (by
    rcases d with d|d
    .exact .inl ()
    .exact .inr d)
   by_cases hjm:j=m
   .subst hjm
    by_cases him:i=j
    .subst him;exact Jdl _
    .exact Jg7 (hs i (j-1) () ()) (Int.not_lt.mp q)
   .exact hs i j hij ()
def Zlg(hc:CmpR rk n cmp s)(inj:∀i j,i<n->j<n->rk i=rk j->i=j){p:Array Nat}(g:GoodP n p){G:Array Nat×Nat×Nat->Cc->Prop}:∀(f m:Nat),1<=m->m+f<=n ->
  (∀i j,i<j->j<m->Rk rk p j<Rk rk p i) ->
  (∀m',m<=m'->m'<=m+f->(∀i j,i<j->j<m'->Rk rk p j<Rk rk p i)->G (p,m',0) s)->(kas_desc f p m 0).kasWp cmp G s
 |0,m,_,_,hs,h=>h m (Jd _) (Jd _) hs
 |f+1,m,h1,h2,hs,h=>by
  show cmp (p.getD m 0) (p.getD (m-1) 0) _ s;refine hc _ _ _ (g.lt _ ()) (g.lt _ ()) ?_
  by_cases q:rk (p.getD m 0)<rk (p.getD (m-1) 0)
  .simp only[q,decide_true,if_true,G6,if_false,gt_iff_lt];refine Zlg hc inj g f (m+1) () () (λi j hij hj=>?_) λm' a b c=>h m' () () c
   by_cases hjm:j=m
   .subst hjm
    by_cases him:i=j-1
    .subst him;exact q
    .exact Int.lt_trans q (hs i (j-1) () ())
   .exact hs i j hij ()
  .simp only[q,decide_false,G4,if_false];show cmp (p.getD (m-1) 0) (p.getD m 0) _ s;refine hc _ _ _ (g.lt _ ()) (g.lt _ ()) ?_;let lt2:rk (p.getD (m-1) 0)<rk (p.getD m 0):=by
    let ne:rk (p.getD (m-1) 0)≠rk (p.getD m 0):=λz=>g.ne () () (by lia:m-1≠m) (inj _ _ (g.lt _ ()) (g.lt _ ()) z);lia
   simp only[lt2,decide_true,if_true];exact h m (Jd _) () hs
def GoodP.rev{p:Array Nat}(g:GoodP n p)(i j:Nat):GoodP n (Jhr p i j):=⟨(mirror_perm _ _ _ _).trans g.perm⟩
def Zop(hc:CmpR rk n cmp s)(inj:∀i j,i<n->j<n->rk i=rk j->i=j)(h2:2<=n){p:Array Nat}(g:GoodP n p){G:Nat×Array Nat->Cc->Prop}(h:∀m p',1<=m->m<=n->GoodP n p'->SrtR rk p' m->G (m,p') s):(kas_count n p).kasWp cmp G s:=by
 unfold kas_count;rw[Kw];refine Zoy hc g (n-1) 1 (Jd _) () (λi j hij hj=>by rw[show i=j by lia];exact Jdl _) λm a b c d=>?_
 by_cases e:m=n
 .subst e;simp only[beq_self_eq_true,if_true];exact h m p () (Jd _) g c
 .let hb:(m==n)=false:=by simpa using e
  simp only[hb,G4,if_false];let hd:m<n/\Rk rk p m<Rk rk p (m-1):=by
   rcases d with d|d
   .lia
   .exact d
  by_cases hm:m > 1
  .rw[Fp hm];show cmp (p.getD 0 0) (p.getD (m-1) 0) _ s;refine hc _ _ _ (g.lt _ ()) (g.lt _ ()) ?_;let lt2:rk (p.getD 0 0)<rk (p.getD (m-1) 0):=by
    let ne:rk (p.getD 0 0)≠rk (p.getD (m-1) 0):=λz=>g.ne () () (by lia:0≠m-1) (inj _ _ (g.lt _ ()) (g.lt _ ()) z);let le:=c 0 (m-1) () ();unfold Rk at le;lia
   simp only[lt2,decide_true,if_true];exact h m p () () g c
  .rw[Fo hm];let hm1:m=1:=by lia
   subst hm1;unfold kas_descPart;rw[Kw];refine Zlg hc inj g (n-2) 2 () () (λi j hij hj=>?_) λm' a' b' c'=>?_
   .let:j=1:=by lia
    let:i=0:=by lia
    subst i;subst j;exact hd.2
   .simp only[gt_iff_lt,G6,if_false];unfold kas_tail3;rw[Kw];let hm':m'<=n:=by lia
    refine Zoy hc (g.rev 0 m') (n-m') m' () () (λi j hij hj=>?_) λk a2 b2 c2 _=>?_
    .rw[Zln (by rw[g.size];exact hm'),Zln (by rw[g.size];exact hm'),Fp (),Fp hj]
     by_cases hij2:i=j
     .subst hij2;exact Jdl _
     .exact Jg8 (c' _ _ () ())
    .show G (k,Jhr p 0 m') s;exact h k _ () () (g.rev 0 m') c2
def Zbq(hc:CmpR rk n cmp s){p:Array Nat}(g:GoodP n p){k:Nat}(hk:k<n)(hs:SrtR rk p k){G:Nat->Cc->Prop}(h:∀l,l<=k->(∀i,i<l->Rk rk p i<=Rk rk p k)->(∀i,l<=i->i<k->Rk rk p k<Rk rk p i)->G l s):∀(f l r:Nat),l<=r->r<=k->r-l<=f ->
  (∀i,i<l->Rk rk p i<=Rk rk p k)->(∀i,r<=i->i<k->Rk rk p k<Rk rk p i)->(kas_place p k f l r).kasWp cmp G s
 |0,l,r,h1,h2,h3,lo,hi=>by
  let:l=r:=by lia
  subst this;exact h l h2 lo hi
 |f+1,l,r,h1,h2,h3,lo,hi=>by
  unfold kas_place
  by_cases hge:l≥r
  .rw[Fp hge];let:l=r:=by lia
   subst this;exact h l h2 lo hi
  .rw[Fo hge];show cmp (p.getD k 0) (p.getD ((l+r) / 2) 0) _ s;refine hc _ _ _ (g.lt _ hk) (g.lt _ ()) ?_
   by_cases q:rk (p.getD k 0)<rk (p.getD ((l+r) / 2) 0)
   .simp only[q,decide_true,if_true];exact Zbq hc g hk hs h f l ((l+r) / 2) () () () lo λi a b=>Int.lt_of_lt_of_le q (hs _ _ a b)
   .simp only[q,decide_false,G4,if_false];exact Zbq hc g hk hs h f ((l+r) / 2+1) r () () () (λi a=>Jg7 (hs i ((l+r) / 2) () ()) (Int.not_lt.mp q)) hi
def Zsr(hc:CmpR rk n cmp s){G:Array Nat->Cc->Prop}(h:∀p,GoodP n p->SrtR rk p n->G p s):∀(f:Nat)(p:Array Nat)(k:Nat),k+f=n->GoodP n p->SrtR rk p k->(kas_bin f p k).kasWp cmp G s
 |0,p,k,e,g,hs=>h p g (by rw[<-e];exact hs)
 |f+1,p,k,e,g,hs=>by
  unfold kas_bin;rw[Kw];refine Zbq hc g () hs (λl hl lo hi=>?_) k 0 k (J8 _) (Jd _) () (λi z=>Fh z (Bb _)) (λi a b=>by lia);refine Zsr hc h f _ (k+1) () ⟨(bubble_perm _ _ _).trans g.perm⟩ λi j hij hj=>?_;let hks:k<p.size:=by rw[g.size];lia
  rw[Za7 hks (),Za7 hks (),show k-(k-l)=l by lia]
  repeat' split
  all_goals first
   |(exfalso;lia)
   |exact Jdl _
   |exact lo _ ()
   |exact Jg8 (hi _ () ())
   |exact hs _ _ () ()
def Zql(hc:CmpR rk n cmp s)(inj:∀i j,i<n->j<n->rk i=rk j->i=j)(h2:2<=n){G:Array Nat->Cc->Prop}(h:∀p,GoodP n p->SrtR rk p n->G p s):(kas_sort n).kasWp cmp G s:=by
 unfold kas_sort;rw[Kw];refine Zop hc inj h2 ⟨Array.Perm.refl _⟩ λm p' a b g hs=>?_
 by_cases hm:m<n
 .rw[Fp hm];let e:max m 1=m:=by lia
  rw[e];exact Zsr hc h (n-m) p' m () g hs
 .rw[Fo hm];let:m=n:=by lia
  subst this;exact h p' g hs
end
end L2
namespace L2
open PySem PySem.W PyProof.Rows HT
def Zg0:∀a:List Int,lexLt a a=false
 |[]=>rfl
 |x::r=>by rw[Uf,Fp rfl];exact Zg0 r
def Zag:∀{a b c:List Int},lexLt a b=true->lexLt b c=true->lexLt a c=true
 |[],[],_,h,_=>by rw[Pw]at h;cases h
 |[],_::_,[],_,h=>by rw[Wt]at h;cases h
 |[],_::_,_::_,_,_=>rfl
 |_::_,[],_,h,_=>by rw[Wt]at h;cases h
 |_::_,_::_,[],_,h=>by rw[Wt]at h;cases h
 |x::a,y::b,z::c,h1,h2=>by
  rw[Uf]at h1 h2⊢
  by_cases e1:x=y
  .subst e1;rw[Fp rfl]at h1
   by_cases e2:x=z
   .rw[Fp e2]at h2⊢;exact Zag h1 h2
   .rw[Fo e2]at h2⊢;exact h2
  .rw[Fo e1]at h1;let l1:x<y:=Fg h1
   by_cases e2:y=z
   .subst e2;rw[Fo e1];exact h1
   .rw[Fo e2]at h2;let l2:y<z:=Fg h2;rw[Fo ()];exact Fs ()
def Zbx:∀{a b:List Int},lexLt a b=false->lexLt b a=false->a=b
 |[],[],_,_=>rfl
 |[],_::_,h,_=>by rw[Uo]at h;cases h
 |_::_,[],_,h=>by rw[Uo]at h;cases h
 |x::a,y::b,h1,h2=>by
  rw[Uf]at h1 h2
  by_cases e:x=y
  .subst e;rw[Fp rfl]at h1 h2;rw[Zbx h1 h2]
  .rw[Fo e]at h1;rw[Fo (λz=>e z.symm)]at h2;let:=Fi h1;let:=Fi h2;lia
def Zav{α:Type}{p q:α->Bool}:∀{l:List α},(∀x∈l,p x=true->q x=true)->(∃x∈l,q x=true/\p x=false)->l.countP p<l.countP q
 |[],_,⟨_,h,_⟩=>nomatch h
 |a::l,h1,⟨x,hx,hq,hp⟩=>by
  let le:l.countP p<=l.countP q:=List.countP_mono_left λy hy=>h1 y (Jm _ hy);rw[Je4,Je4];rcases Jp.mp hx with e|hx
  .subst e;rw[hq,hp];simp;lia
  .let lt:=Zav (λy hy=>h1 y (Jm _ hy)) ⟨x,hx,hq,hp⟩;let:=h1 a Jo;cases ha:p a<;>cases hb:q a<;>simp_all<;>lia
instance Wl(ks:List (List Int))(i:Nat):Int:=((Ec ks.length).countP λj=>lexLt (ks.getD j []) (ks.getD i []):Nat)
def Zgb{ks:List (List Int)}(hi:i<ks.length)(h:lexLt (ks.getD i []) (ks.getD j [])=true):Wl ks i<Wl ks j:=by
 unfold Wl;let:=Zav (l:=Ec ks.length) (p:=λx=>lexLt (ks.getD x []) (ks.getD i [])) (q:=λx=>lexLt (ks.getD x []) (ks.getD j [])) (λx _ hx=>Zag hx h) ⟨i,List.mem_range.mpr hi,h,Zg0 _⟩;lia
def Sm{ks:List (List Int)}(nd:ks.Nodup)(hi:i<ks.length)(hj:j<ks.length):decide (Wl ks i<Wl ks j)=lexLt (ks.getD i []) (ks.getD j []):=by
 cases e:lexLt (ks.getD i []) (ks.getD j [])with
 |true=>exact Fs (Zgb hi e)
 |false =>
  refine Ft λz=>?_;cases e2:lexLt (ks.getD j []) (ks.getD i [])with
  |true=>have:=Zgb hj e2;lia
  |false =>
   let e3:=Zbx e e2;unfold Wl at z;rw[e3]at z;exact Fh z (Int.lt_irrefl _)
def Zda{ks:List (List Int)}(nd:ks.Nodup)(hi:i<ks.length)(hj:j<ks.length)(h:Wl ks i=Wl ks j):i=j:=by
 let e1:lexLt (ks.getD i []) (ks.getD j [])=false:=by rw[<-Sm nd hi hj];exact Ft ()
 let e2:lexLt (ks.getD j []) (ks.getD i [])=false:=by rw[<-Sm nd hj hi];exact Ft ()
 let e3:=Zbx e1 e2;rw[Go,Go,Jb hi,Jb hj]at e3;exact(Bi (h₀:=hi) (h₁:=hj) nd).mp (by simpa using e3)
section
def Zdm{Q:Bool->Cc->Prop}:∀{vs ws:List Ca}{ns ms:List Int}{fin:Bool}{i:Nat},Le vs ns->Le ws ms->(fin=decide (ns.length<ms.length))->Q (lexLt ns ms) s->KatLex prog w A true fin Q (vs.zip ws) i s
 |_,_,_,_,fin,i,.nil,.nil,e,h=>by
  subst e;exact kat_nil h
 |_,_,_,_,fin,i,.nil,.cons _ _ r,e,h=>by
  subst e;exact kat_nil (by simpa[HT.lexLt]using h)
 |_,_,_,_,fin,i,.cons _ _ r,.nil,e,h=>by
  subst e;exact kat_nil (by simpa[HT.lexLt]using h)
 |_,_,_,_,fin,i,.cons a t r,.cons c u r2,e,h=>by
  rw[List.zip_cons_cons];refine kat_cons (Jey ?_);rw[Uf]at h
  by_cases z:a=c
  .subst z;rw[Fp rfl]at h;rw[beq_self_eq_true];exact kat_yes (Zdm r r2 (by rw[e];simp) h)
  .rw[Fo z]at h;let hb:(a==c)=false:=by simpa using z
   rw[hb];refine kat_no ?_;cases hi:(true&&i==0)with
   |true=>exact oneLt_int h
   |false=>exact kat_one _ _ (Jhs (show PySem.W.BoolBack Q (.bool (decide (a<c))) s from h))
end
abbrev KIt:=V×Addr×List Int
section
def Inv.pin1{b:Addr}{o:Obj}(I:Inv X pq σ H s)(f:FpOk X pq H b)(e:s.heap.get? b=some o)(hd:∀v,o.data≠.cell v):Inv X (pq++[(b,o)]) σ H s :=
 I.pins_of λp hp=>(Jt.mp hp).elim (λz=>I.pin p (Jl _ z)) λz=>by
  rw[Jj.mp z];exists e,f.1,f.2.1,f.2.2.1,hd
def Inv.turn1{b:Addr}(I:Inv X pq σ H s)(f:FpOk X pq H b)(hs:Hw b s.heap h'):Inv X pq σ H {s with heap:=h'} :=
 I.turned (t':=s.toks) (λc o hc e=>(hs.2 c hc).trans e) f.1 f.2.1 f.2.2.2.1 f.2.2.2.2.1 f.2.2.2.2.2
def FpOk.snoc{b c:Addr}{o:Obj}(f:FpOk X pq H b)(h:c≠b):FpOk X (pq++[(c,o)]) H b :=
 ⟨f.1,f.2.1,f.2.2.1,f.2.2.2.1,f.2.2.2.2.1,λp hp=>by
  rw[<-Gc]at hp;rcases Jt.mp hp with z|z
  .exact f.2.2.2.2.2 p z
  .rw[Jj.mp z];exact h⟩
instance Yf(L:List KIt):List Ca:=L.map λq=>Cd q.2.1
def W6{α:Type}{f:α->β}{l:List α}{d:β}(h:i<l.length):(l.map f).getD i d=f l[i]:=by
 rw[Go,Jr,Jb h];rfl
def Zj4{L:List KIt}(I:Inv X pq σ H s)(hk:∀q∈L,SqT X.K H q.2.1 (q.2.2.map V.int)/\q.2.2≠[])(h2:0<L.length){Q:SortKind->Cc->Prop}(h:Q (tuples' true) s) :
  Cg (Cj X.prog X.w) A (keyKind' (Yf L).toArray) Q E s:=by
 let tk:∀L':List KIt,(∀q∈L',q∈L)->∃fs:List Ca,KatTups s.heap (Yf L') fs/\fs.length=L'.length/\∀v∈fs,∃n t,v=.int n t:=by
  intro L'
  induction L' with
  |nil=>intro _;exists [],.nil,rfl,λv hv=>nomatch hv
  |cons q r ih =>
   intro hm;let⟨fs,a,b,c⟩:=ih λx hx=>hm x (Jm _ hx);let⟨sq,ne⟩:=hk q (hm q Jo);let⟨its,rv,⟨o,e,hc,n,hd⟩,_⟩:=I.tuple sq
   match hq:q.2.2,ne with
   |z::zs,_ =>
    rw[hq]at rv;cases rv with
    |cons rv1 rv2 =>
     let⟨t,et⟩:=rv1;exists .int z t::fs,KatTups.cons e hc hd ?_ a,by simp[b],λv hv=>?_
     .rw[et];simp
     .rcases Jp.mp hv with e|hv
      .exists z,t,e
      .exact c v hv
 let⟨fs,a,b,c⟩:=tk L λ_ h=>h;exact kat_kind (T:=.type "int") a () (λv hv=>by let⟨n,t,e⟩:=c v hv;subst e;exact .now) nofun h
def Znz{L:List KIt}(I:Inv X pq σ H s)(hk:∀q∈L,SqT X.K H q.2.1 (q.2.2.map V.int)/\q.2.2≠[])(nd:(L.map (·.2.2)).Nodup) :
  CmpR (Wl (L.map (·.2.2))) L.length (kas_ask X.prog X.w A (tuples' true) (Yf L)) s:=by
 intro i j C hi hj h;rw[Sm nd (by simpa using hi) (by simpa using hj),W6 hi,W6 hj]at h;unfold kas_ask;rw[show(Yf L).getD i Ca.none=Cd L[i].2.1 from W6 hi,show(Yf L).getD j Ca.none=Cd L[j].2.1 from W6 hj];let⟨its,rv,⟨o,e,hc,n,hd⟩,_⟩:=I.tuple (hk _ (Jy hi)).1;let⟨its2,rv2,⟨o2,e2,hc2,n2,hd2⟩,_⟩:=I.tuple (hk _ (Jy hj)).1;let ia:∀{ns:List Int}{vs:List Ca},Vals (ns.map V.int) vs->Le vs ns:=by
  intro ns
  induction ns with
  |nil=>intro vs h;cases h;exact .nil
  |cons a r ih =>
   intro vs h;cases h with
   |cons h1 h2=>obtain⟨t,e⟩:=h1;subst e;exact .cons a t (ih h2)
 refine kat_lt e hd e2 hd2 ?_;let i1:=ia rv;let i2:=ia rv2;exact Zdm i1 i2 (by rw[<-i1.length,<-i2.length];simp) h
end
section
abbrev PD(D:Addr)(e1:Nat):Addr×Obj:=(D,Hz "list" #[] e1)
abbrev PKs(kS:Addr)(e:Nat)(L:List KIt):Addr×Obj:=(kS,Hz "list" (Yf L).toArray e)
def Vals.perm_get{L:List KIt}(rv:Vals (L.map (·.1)) its){p:List Nat}(hp:∀i∈p,i<L.length):Vals (p.map λi=>(L.getD i (.non,0,[])).1) (p.map λi=>its.getD i Ca.none):=by
 let e:=rv.length;simp only[Ja]at e
 induction p with
 |nil=>exact .nil
 |cons i r ih =>
  let hi:=hp i Jo;let hi2:i<its.length:=by lia
  let⟨u,hu,r1⟩:=Vals.get rv (i:=i) (x:=L[i].1) (by rw[Jr,Jb hi];rfl);refine .cons ?_ (ih λj hj=>hp j (Jm _ hj));show RelV (L.getD i (.non,0,[])).1 (its.getD i Ca.none);rw[Go,Go,hu,Jb hi];exact r1
def Ny{D kS:Addr}{e e1:Nat}{L L':List KIt}{st:SortSt}{out:List Ca}{P:Jdx->Cc->Prop}(I:Inv X ((pq++[PD D e1])++[PKs kS e L]) σ H s)(h64:L.length<64)(fD:FpOk X pq H D)(fK:FpOk X (pq++[PD D e1]) H kS)(hout:(arrOf st).map (·.2)=out.toArray)(hf:failedOf st=none)(rv:Vals (L'.map (·.1)) out)(hl:L'.length=L.length)(h:∀s',Inv X pq σ (upd H D (.lst (L'.map (·.1)))) s'->P (.done (.ret .none)) s'):Cg (Cj X.prog X.w) A (ksk_tail D false e1 (.ref kS) st) P E s:=by
 let pk:=I.pin (PKs kS e L) (Jl _ (Jl _ (Jj.mpr rfl)));let s1:=E5 s.heap kS (Ea λ_=>(#[]:Array Ca));let I1:=(I.unpinned (pl:=[PKs kS e L])).turn1 fK s1;let pd:=I1.pin (PD D e1) (Jl _ (Jl _ (Jj.mpr rfl)));let s2:=E5 (s.heap.update kS (Ea λ_=>(#[]:Array Ca))) D (Ea λ_=>out.toArray);obtain⟨c2,hc2⟩:∃c2,((s.heap.update kS (Ea λ_=>(#[]:Array Ca))).update D (Ea λ_=>out.toArray)).get? D=some (Hz "list" out.toArray c2):=⟨_,Jc3 pd.1 λ_=>out.toArray⟩;let lo:out.length=L.length:=by have:=rv.length;simp only[Ja]at this;lia
 let hz:L'.length<=Cb:=by rw[Em];lia
 unfold ksk_tail
 try dsimp only
 rw[hout];refine Fj (Ja9 pk.1 rfl ?_ (by simp only[Jq,Yf,Ja,Em];lia) (J8 _));refine Fj (Jb0 ?_);refine Fj (seqEpoch_at pd.1 rfl ?_);refine Fj (Ja9 pd.1 rfl ?_ (J8 _) (by simp only[Jq,Em,G4,if_false];lia));rw[hf];simp only[bne_self_eq_false,G4,if_false];refine Fk (h _ ?_);let I2:=(I1.unpinned (pl:=[PD D e1])).turn1 fD s2;exact I2.track (its:=out) (n:=c2) hc2 fD rv (by rw[Ja];exact hz)
def Zi2{D kS:Addr}{e e1:Nat}{L:List KIt}{P:Jdx->Cc->Prop}(I:Inv X ((pq++[PD D e1])++[PKs kS e L]) σ H s)(h64:L.length<64)(fD:FpOk X pq H D)(fK:FpOk X (pq++[PD D e1]) H kS)(hk:∀q∈L,SqT X.K H q.2.1 (q.2.2.map V.int)/\q.2.2≠[])(nd:(L.map (·.2.2)).Nodup)(rv:Vals (L.map (·.1)) its)(h:∀(s':Cc)(L':List KIt),L'.Perm L->L'.Pairwise (λa b=>HT.lexLt a.2.2 b.2.2=true)->Inv X pq σ (upd H D (.lst (L'.map (·.1)))) s'->P (.done (.ret .none)) s') :
  Cg (Cj X.prog X.w) A (ksk_end D false its.toArray e1 (.ref kS) (Yf L).toArray) P E s:=by
 let el:its.length=L.length:=by have:=rv.length;simp only[Ja]at this;lia
 let ek:(Yf L).length=its.length:=by rw[el];simp[Yf]
 unfold ksk_end
 try dsimp only
 simp only[G4,if_false]
 by_cases h2:its.toArray.size<2
 .rw[Fp h2];refine Fj (Fk ?_);rw[Fp h2];let h2':its.length<2:=by simpa using h2
  refine Fj (m:=(pure ⟨⟩:StateT SortSt Sem Unit).run _) (Fk ?_);refine Ny (L':=L) (out:=its) I h64 fD fK ?_ rfl rv rfl λs'=>h s' L (List.Perm.refl _) ?_
  .show(((Yf L).toArray.zip its.toArray).map (·.2))=its.toArray
   apply Array.toList_inj.mp
   rw[Array.toList_map,ksk_zip];simp only[Je5 (by lia:its.length<=(Yf L).length)]
  .match L,el with
   |[],_=>exact .nil
   |[q],_=>exact Jb1 _ _
   |_::_::_,el=>simp only[Ju]at el;lia
 .rw[Fo h2,Fo h2];let h2':2<=its.length:=by simpa using h2
  refine Fj (Zj4 (I.unpinned (pl:=[PKs kS e L])) hk () ?_);refine Fj (Fw (kat_run (vs:=its) (ks:=Yf L) (G:=λp s'=>s'=s/\GoodP L.length p/\SrtR (Wl (L.map (·.2.2))) p L.length) (Q:=λst' s'=>∃p:Array Nat,s'=s/\GoodP L.length p/\SrtR (Wl (L.map (·.2.2))) p L.length/\arrOf st'=p.map (kas_item ((Yf L).toArray.zip its.toArray))/\failedOf st'=none) ek h2' ()
   (λp st' s' a1 a2 a3 a4=>⟨p,a4.1,a4.2.1,a4.2.2,a2,a3⟩)
   (by
    rw[el];exact Zql (Znz (I.unpinned (pl:=[PKs kS e L])) hk nd) (λi j hi hj z=>Zda nd (by simpa using hi) (by simpa using hj) z) () (G:=λp s'=>s'=s/\GoodP L.length p/\SrtR (Wl (L.map (·.2.2))) p L.length) λp g hs=>⟨rfl,g,hs⟩)) ?_ λ_ _ x=>x)
  rintro⟨⟨⟩,st'⟩ s' ⟨p,rfl,g,hs,har,hf⟩;let hp:∀i∈p.toList,i<L.length:=λi hi=>by
   let:=(Bs.mp g.perm).mem_iff.mp hi;simpa using this
  let pl:p.toList.Perm (Ec L.length):=by have:=Bs.mp g.perm;simpa using this
  let hmap:∀(F:KIt->V),(p.toList.map λi=>F (L.getD i (.non,0,[])))=(p.toList.map λi=>L.getD i (.non,0,[])).map F:=λF=>by rw[Gh];rfl
  let rangeL:(Ec L.length).map (λi=>L.getD i (.non,0,[]))=L:=by
   apply List.ext_getElem
   .simp
   .intro i h1 h2;simp[Go,h2]
  refine Ny (L':=p.toList.map λi=>L.getD i (.non,0,[])) (out:=p.toList.map λi=>its.getD i Ca.none) I h64 fD fK (kat_snds ek har) hf (by rw[<-hmap (·.1)];exact Vals.perm_get rv hp) (by rw[Ja,Be,g.size]) λs'=>h s' _ ?_ ?_
  .let:=pl.map λi=>L.getD i (.non,0,[]);rwa [rangeL]at this
  .rw[Bg];intro i j hi hj hij;simp only[Ja,Be,g.size]at hi hj;let gi:=g.lt i hi;let gj:=g.lt j hj;let hle:=hs i j (Bp hij) hj;let hne:=g.ne hi hj (Gg hij);unfold Rk at hle;let hlt:Wl (L.map (·.2.2)) (p.getD i 0)<Wl (L.map (·.2.2)) (p.getD j 0):=by
    rcases Int.lt_or_eq_of_le hle with z|z
    .exact z
    .exact Fh (Zda nd (by simpa using gi) (by simpa using gj) z) hne
   let hd:=Sm nd (i:=p.getD i 0) (j:=p.getD j 0) (by simpa using gi) (by simpa using gj);rw[Fs hlt,W6 gi,W6 gj]at hd;let ei:p.getD i 0=p[i]'(by rw[g.size];exact hi):=by simp[Jdc,g.size,hi]
   let ej:p.getD j 0=p[j]'(by rw[g.size];exact hj):=by simp[Jdc,g.size,hj]
   simp only[G3,Array.getElem_toList,Go];let gi':=gi;let gj':=gj;rw[ei]at gi';rw[ej]at gj';rw[Jb gi',Jb gj'];simp only[ei,ej]at hd;exact hd.symm
end
section
def Zfq{D kS f:Addr}{e1:Nat}{L:List KIt}{P:Jdx->Cc->Prop}(I:Inv X ((pq++[PD D e1])++[PKs kS 0 []]) σ H s)(h64:L.length<64)(fD:FpOk X pq H D)(fK:FpOk X (pq++[PD D e1]) H kS)(hk:∀q∈L,SqT X.K H q.2.1 (q.2.2.map V.int)/\q.2.2≠[])(nd:(L.map (·.2.2)).Nodup)(rv:Vals (L.map (·.1)) its)(hcall:∀(pins':List (Addr×Obj))(s':Cc)(q:KIt)(u:Ca),(∀p∈pq,p∈pins')->Inv X pins' σ H s'->q∈L->RelV q.1 u->Cg (Cj X.prog X.w) A (call (.ref f) [u]) (EP X pins' σ λv H'=>v=.ref q.2.1/\H'=H) (λ_ _=>False) s')(h:∀(s':Cc)(L':List KIt),L'.Perm L->L'.Pairwise (λa b=>HT.lexLt a.2.2 b.2.2=true)->Inv X pq σ (upd H D (.lst (L'.map (·.1)))) s'->P (.done (.ret .none)) s') :
  Cg (Cj X.prog X.w) A (ksk_rest D (.ref f) false its.toArray e1 (.ref kS)) P E s:=by
 let el:its.length=L.length:=by have:=rv.length;simp only[Ja]at this;lia
 unfold ksk_rest;refine Fj (Mv ?_)
 first
  |rw[List.forIn_toArray]
  |(rw[<-Jdy];simp only[List.toList_toArray])
  |rw[<-Jdy]
 refine Fj (ksk_fold (λn s'=>∃e,Inv X ((pq++[PD D e1])++[PKs kS e (L.take n)]) σ H s') its 0 s ⟨0,by simpa using I⟩ (λj x s' hx⟨e,J⟩=>?_) λs'⟨e,J⟩=>?_)
 .simp only[Jew]at J⊢;let hj:j<its.length:=(Jf.mp hx).1;let hj':j<L.length:=by lia
  let⟨u,hu,r1⟩:=Vals.get rv (i:=j) (x:=L[j].1) (by rw[Jr,Jb hj'];rfl);rw[hx]at hu;cases hu;refine Fj (Kx (Fw (hcall _ s' L[j] x (λp hp=>Gs _ (Gs _ hp)) J (Jy hj') r1) (λk s'' hkk=>?_) λ_ _ hF=>hF.elim));let⟨v,H',J',rk,ev,eH⟩:=hkk;subst ev;subst eH;obtain rfl:k=Cd L[j].2.1:=rk;let pk:=J'.pin (PKs kS e (L.take j)) (Jl _ (Jl _ (Jj.mpr rfl)));let s1:=E5 s''.heap kS (Ea (·.push (Cd L[j].2.1)));let ea:(Yf (L.take j)).toArray.push (Cd L[j].2.1)=(Yf (L.take (j+1))).toArray:=by
   let e2:Yf (L.take (j+1))=Yf (L.take j)++[Cd L[j].2.1]:=by
    unfold Yf;rw[Je hj',Jg];rfl
   rw[e2,Jef]
  obtain⟨c2,hc2⟩:∃c2,(s''.heap.update kS (Ea (·.push (Cd L[j].2.1)))).get? kS=some (Hz "list" (Yf (L.take (j+1))).toArray c2):=⟨_,by rw[<-ea];exact Jc3 pk.1 (·.push (Cd L[j].2.1))⟩;let hsz:(Yf (L.take j)).toArray.size<64:=by simp only[Jq,Yf,Ja,J0];lia
  try dsimp only
  refine Fj (Ja9 pk.1 rfl ?_ (by rw[Em];show(Yf (L.take j)).toArray.size<=_;lia) (Ga (Bq (Array.size_push ..)) (by rw[Em];show(Yf (L.take j)).toArray.size+1<=_;lia)));refine Fk ⟨rfl,c2,?_⟩;let J1:=(J'.unpinned (pl:=[PKs kS e (L.take j)])).turn1 fK s1;exact J1.pin1 fK hc2 (by intro v;simp)
 .simp only[Jew]at J;rw[el,Ge]at J;let pk:=J.pin (PKs kS e L) (Jl _ (Jl _ (Jj.mpr rfl)))
  try dsimp only
  refine Fj (listItems_at pk.1 rfl ?_);exact Zi2 J h64 fD fK hk nd rv h
def Zmh{f:Addr}{L:List KIt}(I:Inv X pq σ H s)(hl:SqL X.K H l (L.map (·.1)))(h64:L.length<64)(hk:∀q∈L,SqT X.K H q.2.1 (q.2.2.map V.int)/\q.2.2≠[])(nd:(L.map (·.2.2)).Nodup)(hcall:∀(pins':List (Addr×Obj))(s':Cc)(q:KIt)(u:Ca),(∀p∈pq,p∈pins')->Inv X pins' σ H s'->q∈L->RelV q.1 u->Cg (Cj X.prog X.w) X.A.in1.in1 (call (.ref f) [u]) (EP X pins' σ λv H'=>v=.ref q.2.1/\H'=H) (λ_ _=>False) s')(h:∀(D:Addr)(L':List KIt),H D=none->L'.Perm L->L'.Pairwise (λa b=>HT.lexLt a.2.2 b.2.2=true)->Q (.ref D) (upd H D (.lst (L'.map (·.1))))) :
  Cg (Cj X.prog X.w) X.A (call (.builtin "sorted") [.ref l] [(Co "key",.ref f)]) (EP X pq σ Q) E s:=by
 let⟨its,rv,pl,_⟩:=I.list hl;let el:its.length=L.length:=by have:=rv.length;simp only[Ja]at this;lia
 refine call_function_entry_kw kind_sorted plain_sorted entry_sorted (ksk_s1 _ _) ?_;unfold Builtin.«sorted»;refine Fj (m:=checkCount "sorted" 1 1 _) (Fk ?_);refine Fj (collect_list pl.isList ?_ (by rw[Em];lia));refine Fj (Jb2 ?_ (by rw[Em];lia));let hsz:((s.heap.push (Hz "list" #[] 0)).update s.heap.objs.size (Ea (·++its.toArray))).objs.size=s.heap.objs.size+1:=by
  rw[Heap.size_update,Jgm]
 let hoL:(((s.heap.push (Hz "list" #[] 0)).update s.heap.objs.size (Ea (·++its.toArray))).push (Hz "list" its.toArray 0)).get? (s.heap.objs.size+1)=some (Hz "list" its.toArray 0):=by
  rw[<-hsz];exact Fm _ rfl
 let keep:∀b o,s.heap.get? b=some o->(((s.heap.push (Hz "list" #[] 0)).update s.heap.objs.size (Ea (·++its.toArray))).push (Hz "list" its.toArray 0)).get? b=some o:=λb o q=>by
  let hlt:b<s.heap.objs.size:=Fn q;rw[Jeg _ _ _ (by rw[hsz];exact Gg (Jeh hlt)),Heap.get?_update_ne _ _ _ _ (Gg hlt),Jeg _ _ _ (Gg hlt)];exact q
 let fD:FpOk X pq H (s.heap.objs.size+1):=I.fpOk (G1 _) (I.hok.fresh (G1 _));let I1:Inv X pq σ H {s with heap:=((s.heap.push (Hz "list" #[] 0)).update s.heap.objs.size (Ea (·++its.toArray))).push (Hz "list" its.toArray 0)}:=I.kept (t':=s.toks) keep;show Cg _ _ _ _ _ {s with heap:=((s.heap.push (Hz "list" #[] 0)).update s.heap.objs.size (Ea (·++its.toArray))).push (Hz "list" its.toArray 0)};rw[hsz];generalize hD:s.heap.objs.size+1=D at *
 generalize hh:((s.heap.push (Hz "list" #[] 0)).update s.heap.objs.size (Ea (·++its.toArray))).push (Hz "list" its.toArray 0)=hp at *
 refine Fj (Cw (wpAny_call_entry_kw slot_list_sort ⟨_,hoL,rfl⟩ Jfl ?body (ksk_l1 _ _)))
 case body =>
  show Cg (Cj X.prog X.w) X.A.in1.in1 (Builtin.«list.sort» ⟨[.ref D],[(Co "key",.ref f)]⟩) _ _ _;rw[ksk_t1];let s1:=E5 hp D (Ea λ_=>(#[]:Array Ca));obtain⟨e1,ho1⟩:∃e1,(hp.update D (Ea λ_=>(#[]:Array Ca))).get? D=some (Hz "list" #[] e1):=⟨_,Jc3 hoL λ_=>#[]⟩;let I2:=(I1.turn1 fD s1).pin1 fD ho1 (by intro v;simp);let I3:Inv X (pq++[PD D e1]) σ H {s with heap:=((hp.update D (Ea λ_=>(#[]:Array Ca))).push (Hz "tuple" its.toArray 0)).push (Hz "list" #[] 0)} :=
   I2.kept (t':=s.toks) λb o e=>Fl _ (Fl _ e)
  let hKz:(hp.update D (Ea λ_=>(#[]:Array Ca))).objs.size<=((hp.update D (Ea λ_=>(#[]:Array Ca))).push (Hz "tuple" its.toArray 0)).objs.size:=by rw[Jgm];exact G1 _
  let fK:FpOk X (pq++[PD D e1]) H ((hp.update D (Ea λ_=>(#[]:Array Ca))).push (Hz "tuple" its.toArray 0)).objs.size:=I2.fpOk hKz (I2.hok.fresh hKz);unfold ksk_tree;refine Fj (listItems_at hoL rfl ?_);refine Fj (Ja9 hoL rfl ?_ (by rw[Jq,Em];lia) (J8 _));refine Fj (seqEpoch_at ho1 rfl ?_);refine Fj (wpAny_newTuple ?_ (by show its.length<=_;rw[Em];lia));refine Fj (Jb2 ?_ (J8 _));refine Cw ?_;refine Zfq (L:=L) (I3.pin1 fK (Fm _ rfl) (by intro v;simp)) h64 fD fK hk nd rv hcall λs' L' p w I'=>?_;exists ·,Fk ⟨_,rfl,.ref D,_,I',rfl,h D L' fD.1 p w⟩
end
instance codeφ(c:Addr)(q:Str):HO:=.ext λh=>h.CodeRec (.ref c) q
instance Za6(P:Addr)(pos:Pos)(q:Str)(H:Hp):Prop :=
 ∃ps,H P=some (.tbl ps)/\TriplesOk ps.toList/\(Jfm pos ps.toList=none\/∃c,Jfm pos ps.toList=some (.ref c)/\H c=some (codeφ c q))
instance Nl(P:Addr)(H H':Hp):Prop:=∀b o,b≠P->H b=some o->H' b=some o
def Nl.refl(P:Addr)(H:Hp):Nl P H H:=λ_ _ _ h=>h
instance Bm(mg:Str->Option Ca)(h:Heap):Prop:=∃bm ob,mg "__builtins__"=some (.ref bm)/\bm≠Mh/\h.get? bm=some ob/\ob.cls=.type "module"/\ob.dict=some Mh/\ob.data=.plain
abbrev Tc(q:Str)(params:Arguments)(body:Expr)(scope:Scope)(pm cv ctv:Ca):Obj :=
 {cls:=.type "function",data:=.func (kla_fn "<lambda>" q params body scope [] pm cv ctv)}
section
def Zke{c:Addr}(x:h.CodeRec (.ref c) q) :Yv P w H h c (codeφ c q) :=
 ⟨x,let⟨c',o,_,_,e,ho,_⟩:=x;⟨o,by cases e;exact ho⟩,λ_ _ a b=>a.at λo e=>b o e⟩
def Zj3{params:Arguments}{body:Expr}{scope:Scope}{c P:Addr}{R:Ca->Cc->Prop}(I:Inv X pq σ H s)(hcode:X.env.code=.ref c)(C:CodeHd X.base c P)(B:Bm X.mg X.base)(T:Za6 P pos (X.env.qual++"<lambda>") H)(hcl:Jgl scope X.env=pure [])(hdef:defaultsOf params X.env=([],[]))(h:∀(f c':Addr)(pm ctv:Ca)(H2:Hp)(s2:Cc),Nl P H H2->Za6 P pos (X.env.qual++"<lambda>") H2->H2 c'=some (codeφ c' (X.env.qual++"<lambda>")) ->
   Inv X (pq++[(f,Tc (X.env.qual++"<lambda>") params body scope pm (.ref c') ctv)]) σ H2 s2->R (.ref f) s2) :
  Cg (Cj X.prog X.w) X.A (eval (.Lambda params body scope pos) X.env) R E s:=by
 let⟨ps,hP,ht,hc⟩:=T;let oP:s.heap.get? P=some (tabObj ps):=I.hok P _ hP;let⟨bm,ob,b1,b2,b3,b4,b5,b6⟩:=B;let gl:s.heap.Ns Ct X.mg:=I.mod.glob.keeps I.bk;let hgP:Ct≠P:=λz=>by
  let⟨o,es,ep,e,hd,_⟩:=gl;rw[z,oP]at e;cases e;cases hd
 let hbP:bm≠P:=λz=>by
  let e:=I.bk _ _ b3;rw[z,oP]at e;cases e;cases b4
 let hbG:bm≠Ct:=λz=>by
  let⟨o,es,ep,e,hd,_⟩:=gl;let e3:=I.bk _ _ b3;rw[z,e]at e3;cases e3;rw[hd]at b6;cases b6
 let BA:s.heap.BuiltinsAt X.mg P:=⟨bm,ob,b1,b2,hbG,hbP,I.bk _ _ b3,b4,b5,b6⟩;refine kla_eval hdef ?_;rcases hc with hc|⟨c',hc,hx⟩
 .refine kla_makeFunction (mg:=X.mg) hcl I.ok.glob gl hcode (C.keeps I.bk) oP ht hc hgP BA λc' ctv h' tk hx hge hlt hrec htb=>?_;let hn:H c'=none:=I.hok.fresh hge;let cP:c'≠P:=λz=>by rw[z,hP]at hn;cases hn
  let cR:(h'.push (Tc (X.env.qual++"<lambda>") params body scope ((X.mg "__name__").getD .none) (.ref c') ctv)).CodeRec (.ref c') (X.env.qual++"<lambda>"):=hrec.at λo e=>Fl _ e;let keep:∀b o,b≠P->s.heap.get? b=some o->(h'.push (Tc (X.env.qual++"<lambda>") params body scope ((X.mg "__name__").getD .none) (.ref c') ctv)).get? b=some o:=λb o n e=>Fl _ (hx b o n e);let tb:=Fl (Tc (X.env.qual++"<lambda>") params body scope ((X.mg "__name__").getD .none) (.ref c') ctv) htb;let H2e:∀b o,b≠P->H b=some o->upd (upd H P (.tbl (ps++#[Ew pos.line,Ew pos.col,.ref c']))) c' (codeφ c' (X.env.qual++"<lambda>")) b=some o:=λb o n e=>by
   rw[Zk (Zp e hn),Zk n];exact e
  let hok:HOk X.prog X.w (upd (upd H P (.tbl (ps++#[Ew pos.line,Ew pos.col,.ref c']))) c' (codeφ c' (X.env.qual++"<lambda>"))) (h'.push (Tc (X.env.qual++"<lambda>") params body scope ((X.mg "__name__").getD .none) (.ref c') ctv)):=λb u e=>by
   by_cases hb:b=c'
   .subst hb;rw[Zi]at e;cases e;exact Zke cR
   .rw[Zk hb]at e
    by_cases hb2:b=P
    .subst hb2;rw[Zi]at e;cases e;exact tb
    .rw[Zk hb2]at e;refine(I.hok b u e).stay (λd v hd q=>keep d v ?_ q) (λd q=>H2e d _ (λz=>by rw[z,hP]at q;cases q) q) λd xs q=>H2e d _ (λz=>by rw[z,hP]at q;cases q) q;rcases hd with z|z
     .rw[z];exact hb2
     .intro w;rw[w,hP]at z;cases z
  let un:Un X.fs [] H (upd (upd H P (.tbl (ps++#[Ew pos.line,Ew pos.col,.ref c']))) c' (codeφ c' (X.env.qual++"<lambda>"))) s.heap (h'.push (Tc (X.env.qual++"<lambda>") params body scope ((X.mg "__name__").getD .none) (.ref c') ctv)):=by
   let nP:∀b,H b=none->b≠P:=λb n z=>by rw[z,hP]at n;cases n
   exists λb o e n _ _=>keep b o (nP b n) e,λb o e n _ _=>⟨o.slots,keep b o (nP b n) e⟩,λb o e n _=>?_,λb o e _=>?_,λb xs q=>H2e b _ (λz=>by rw[z,hP]at q;cases q) q,λb o u q=>H2e b _ (λz=>by rw[z,hP]at q;cases q) q,λb qs q=>?_
   .let:b≠c':=Gg (Jw (Fn e) hge);rw[Zk this,Zk (nP b n)];exact n
   .by_cases hb:b=P
    .exists _,hb ▸ tb
    .exists o,keep b o hb e
   .by_cases hb:b=P
    .subst hb;rw[hP]at q;cases q;exact⟨#[Ew pos.line,Ew pos.col,.ref c'],by rw[Zk cP.symm,Zi]⟩
    .exact⟨#[],by rw[H2e b _ hb q];simp⟩
  let I2:=I.un (t':=tk) un hok;let fz:s.heap.objs.size<=h'.objs.size:=Ga hge (Bp hlt);let fn:upd (upd H P (.tbl (ps++#[Ew pos.line,Ew pos.col,.ref c']))) c' (codeφ c' (X.env.qual++"<lambda>")) h'.objs.size=none:=by
   rw[Zk (B1 hlt),Zk (λz=>Fh (Fn oP) (by rw[<-z];exact Ff.mpr fz))];exact I.hok.fresh fz
  let fF:=I.fpOk (H':=upd (upd H P (.tbl (ps++#[Ew pos.line,Ew pos.col,.ref c']))) c' (codeφ c' (X.env.qual++"<lambda>"))) fz fn;refine h h'.objs.size c' _ ctv _ _ H2e ⟨_,by rw[Zk cP.symm,Zi],?_,.inr ⟨c',?_,Zi⟩⟩ Zi (I2.pin1 fF (Fm _ rfl) (by intro v;simp))
  .rw[Jdm];exact TriplesOk_snoc _ _ _ _ ht
  .rw[Jdm];exact codeAmong_snoc _ ht hc
 .refine kla_makeFunctionHit (mg:=X.mg) hcl I.ok.glob gl hcode (C.keeps I.bk) oP ht hc BA λctv h' tk hk hsz=>?_;let I2:Inv X pq σ H {s with heap:=h'.push (Tc (X.env.qual++"<lambda>") params body scope ((X.mg "__name__").getD .none) (.ref c') ctv),toks:=tk}:=I.kept (t':=tk) λb o e=>Fl _ (hk b o e);let fF:=I.fpOk (H':=H) hsz (I.hok.fresh hsz);exact h h'.objs.size c' _ ctv H _ (.refl _ _) ⟨ps,hP,ht,.inr ⟨c',hc,hx⟩⟩ hx (I2.pin1 fF (Fm _ rfl) (by intro v;simp))
def Znx{Pg:Eu}{K:Frag}{base:Heap}{outer:List Env}{f c':Addr}{x:Str}{params:Arguments}{body:Expr}{scope:Scope}{ctv:Ca}{u:Ca}{t:TE}(e0:Env0 Pg w K mg base A outer s H)(hr:Room 1 A)(ho:s.heap.get? f=some (Tc q params body scope pm (.ref c') ctv))(hcd:s.heap.CodeRec (.ref c') q)(S:FnScope [x] [x] scope)(hbind:Jds (kla_fn "<lambda>" q params body scope [] pm (.ref c') ctv) ⟨[u],[]⟩=pure [(x,u)])(rv:RelV v u)(hb:PE (cxOf CX0 Pg w K mg base [x] q scope f (.ref c') A outer s H E0) body t)(ht:t [some v] H Q) :
  Hn (Cj Pg w) A (.call (.ref f) ⟨[u],[]⟩) (CR CX0 outer Pg w H s Q E0) s:=by
 let KX:K.In s.heap:=e0.mod.kin.keeps λb o e=>(e0.bs b o e).1;let lim:s.heap.NoLimit:=e0.mod.nolimit.keeps λb o e=>(e0.bs b o e).1;refine kla_callFunE hr.depth ho rfl S.co S.gen rfl hcd ?_;rw[hbind];refine Fk ?_;refine Ke S.kind (λy hy=>?_) λenv he s1 x1=>?_
 .let ey:y=(x,u):=Jj.mp hy;subst ey;rcases S.par x (Jj.mpr rfl)with z|z
  .exact .inl z
  .exact .inr ⟨z,PySem.W.cellsFrom_some _ _ _ (.inl z)⟩
 .subst he;exists lim.keeps x1.toInCall.keep,kla_codeExpr ?_;let I:Inv (cxOf CX0 Pg w K mg base [x] q scope f (.ref c') A outer s H E0) [] (Vj [x] [v]) H s1:=Re (us:=[u]) S hr.hd e0 rfl (.cons rv .nil) x1;refine Fw (hb [] s1 (Vj [x] [v]) H Q I ht) (λr s' hs=>?_) λe s' hs=>hs;let⟨v',H',J,rv',q'⟩:=hs;exists v',H',J.os,J.bare,J.base,J.hok,rv',q'
end
def Nl.sqL{K:Frag}{P:Addr}{ps:Array Ca}(e:Nl P H H')(hP:H P=some (.tbl ps)){a:Addr}(h:SqL K H a xs):SqL K H' a xs:=by
 rcases h with(h|⟨o,h⟩)|h
 .exact .inl (.inl (e _ _ (λz=>by rw[z,hP]at h;cases h) h))
 .exact .inl (.inr ⟨o,e _ _ (λz=>by rw[z,hP]at h;cases h) h⟩)
 .exact .inr h
def Nl.sqT{K:Frag}{P:Addr}{ps:Array Ca}(e:Nl P H H')(hP:H P=some (.tbl ps)){a:Addr}(h:SqT K H a xs):SqT K H' a xs:=by
 rcases h with(h|⟨o,h⟩)|h
 .exact .inl (.inl (e _ _ (λz=>by rw[z,hP]at h;cases h) h))
 .exact .inl (.inr ⟨o,e _ _ (λz=>by rw[z,hP]at h;cases h) h⟩)
 .exact .inr h
instance Zkq(K:Frag)(P:Addr)(lpos:Pos)(qual:Str)(tb:TE)(ta:TA):TE:=λσ H Q=>ta σ H λvs H1=>∃(l:Addr)(L:List KIt),vs=[.ref l]/\SqL K H1 l (L.map (·.1))/\L.length<64 /\
 (∀q∈L,SqT K H1 q.2.1 (q.2.2.map V.int)/\q.2.2≠[])/\(L.map (·.2.2)).Nodup/\Za6 P lpos qual H1/\(∀H2 q,Nl P H1 H2->q∈L->tb [some q.1] H2 λv H'=>v=.ref q.2.1/\H'=H2) /\
 ∀(H2:Hp)(D:Addr)(L':List KIt),Nl P H1 H2->Za6 P lpos qual H2->H2 D=none->L'.Perm L->L'.Pairwise (λa b=>HT.lexLt a.2.2 b.2.2=true)->Q (.ref D) (upd H2 D (.lst (L'.map (·.1))))
section
def Zjs{e:Expr}{ta:TA}{c P:Addr}{x:Str}{params:Arguments}{body:Expr}{scope:Scope}{p lpos:Pos}(hr:Room 3 X.A)(hg:Gl X "sorted")(hm:X.mg "sorted"=none)(ha:PA X [e] ta)(hcode:X.env.code=.ref c)(C:CodeHd X.base c P)(B:Bm X.mg X.base)(hcl:Jgl scope X.env=pure [])(hdef:defaultsOf params X.env=([],[]))(S:FnScope [x] [x] scope)(hbind:∀(pm cv ctv u:Ca),Jds (kla_fn "<lambda>" (X.env.qual++"<lambda>") params body scope [] pm cv ctv) ⟨[u],[]⟩=pure [(x,u)])(hb:∀(f c':Addr)(A:Ht)(outer:List Env)(s:Cc)(H:Hp),PE (cxOf CX0 X.prog X.w X.K X.mg X.base [x] (X.env.qual++"<lambda>") scope f (.ref c') A outer s H E0) body tb)(he:Cp [e] X.env=[(false,eval e X.env)]:=by rfl) :
  PE X (.Call (.Name "sorted" p) [e] [⟨some "key",.Lambda params body scope lpos,kpos⟩] pos) (Zkq X.K P lpos (X.env.qual++"<lambda>") tb ta):=by
 intro pq s σ H Q I h;refine Eb (Q4 I hg hm Mw ?_);refine callWith_kw (thn (ha pos pq s σ H _ I h) λus s1 hz=>?_) (by rw[he];rfl) (by rw[he];rfl);let⟨vs,H1,I1,r1,l,L,ev,hl,h64,hk,nd,T,hbo,q1⟩:=hz;subst ev;let⟨u,rfl,ru⟩:=Vals.one r1;obtain rfl:u=Cd l:=ru;let⟨ps,hP,_,_⟩:=id T;show Cg _ _ (evalAll [do let v <-eval (.Lambda params body scope lpos) X.env;Jd5 pos;pure v]) _ _ s1;refine wpAny_evalAll_cons (Fj (Zj3 I1 hcode C B T hcl hdef λf c' pm ctv H2 s2 sT T2 hx I2=>Fj (Ej (Fk (wpAny_evalAll_nil ?_)))));show Cg _ _ (call (.builtin "sorted") [.ref l] [(Co "key",.ref f)]) _ _ s2
 refine Fw (Zmh (Q:=Q) (E:=X.xe) I2 (sT.sqL hP hl) h64 (λq hq=>⟨sT.sqT hP (hk q hq).1,(hk q hq).2⟩) nd (λpins' s' q u hp I' hq rv=>?_) λD L' n p w=>q1 H2 D L' sT T2 n p w) (λv s'⟨v',H',J,rv,qq⟩=>⟨v',H',J.unpinned,rv,qq⟩) λ_ _ z=>z;let hpin:=I'.pin (f,Tc (X.env.qual++"<lambda>") params body scope pm (.ref c') ctv) (Jl _ (hp _ (Jl _ (Jj.mpr rfl))));refine E7 (Hk (Znx (I'.env0.in1.in1) hr.in1.in1 hpin.1 (I'.hok c' _ hx).1 S (hbind pm (.ref c') ctv u) rv (hb f c' _ _ _ _) (hbo H2 q sT hq)) λr s'' hq'=>?_);cases r with
 |error e=>exact Cq hq'
 |ok fl =>
  cases fl with
  |ret u=>exact I'.after hq'
  |next=>exact Cq hq'
  |brk=>exact Cq hq'
  |cont=>exact Cq hq'
end
end L2
namespace L2
open PySem PySem.Spec PyProof.Rows
instance Zie(P:Addr)(H:Hp):Prop:=H P=some (.tbl #[])/\∀b,b≠P->H b=none\/∃o xs,H b=some (.frz o (.lst xs))
def Zie.tab{P:Addr}(o:Zie P H)(pos:Pos)(q:Str):Za6 P pos q H:=⟨#[],o.1,trivial,.inl rfl⟩
def Zg1{mb:Str->Option Ca}{k:Nat}{fa a c:Addr}{x:Str}{s₁:Cc}{vs:List Ca}(KX:K.In s₁.heap)(hns:s₁.heap.Ns Ct mg)(hb:s₁.heap.Ns Mh mb)(hbb:∀x:Str,x≠"__name__"->mb x=Kq x)(hlim:s₁.heap.NoLimit)(hbm:Bm mg s₁.heap)(hg:s₁.gens=#[])(ha:s₁.heap.get? a=some {cls:=.type "list",data:=.seq vs.toArray})(hi:Le vs ns)(hl:ns.length<=Cb)(hr:Room k Jed)(hP:s₁.heap.get? Pt=some (Jhx #[]))(hPK:K.lookup Pt=none)(hC:W.CodeHd s₁.heap c Pt)(F:∀base:Heap,K.In base->base.Ns Ct mg->Bm mg base->FnOk P w K mg base CX k fa fd [x] sp)(hbind:∀(s:Cc)(u:Ca),Jdj s fd ⟨[u],[]⟩ [(x,u)])(hsp:∀H:Hp,Zie Pt H->SqL K H a (ns.map V.int)->sp [.ref a] H (λv _=>v=.bl true) λ_ _ _=>False)(hCX:∀H e s',CX [] H s₁ (λ_ _ _=>False) e s'->False) :
  Hn (Cj P w) Jed (.call (.ref fa) ⟨[.ref a],[]⟩) (λr s'=>r=.ok (.ret (.bool true))/\OldK s₁.heap s'.heap/\s'.os=s₁.os/\Mz s'.gens) s₁:=by
 let rv:=Nu hi;let lenV:=hi.length;let aP:a≠Pt:=λz=>by rw[z,hP]at ha;cases ha
 let core:∀H:Hp,Zie Pt H->SqL K H a (ns.map V.int)->HOk P w H s₁.heap->(∀b,H b≠none->b=a\/b=Pt)->(∀b,H b≠none->K.lookup b=none) ->
   Hn (Cj P w) Jed (.call (.ref fa) ⟨[.ref a],[]⟩) (λr s'=>r=.ok (.ret (.bool true))/\OldK s₁.heap s'.heap/\s'.os=s₁.os/\Mz s'.gens) s₁:=by
  intro H hO hS hok hA hK;let base_of:∀{b:Addr}{o:Obj},s₁.heap.get? b=some o->H b=none->(hidT s₁.heap H).get? b=some o:=λe n=>Zj8 e n;let noA:∀{b:Addr}{o:Obj},s₁.heap.get? b=some o->(∀its n,o.data≠.seq its n)->(∀ps,o.data≠.fields ps)->H b=none:=λ{b o}e d d2=>by
   cases q:H b with
   |none=>rfl
   |some u =>
    rcases hA b (by rw[q];simp)with e'|e'
    .subst e';rw[ha]at e;cases e;exact Fh rfl (d _ _)
    .subst e';rw[hP]at e;cases e;exact Fh rfl (d2 _)
  let nsK:∀{b:Addr}{m:Str->Option Ca},s₁.heap.Ns b m->(hidT s₁.heap H).Ns b m:=λ{b m}⟨o,es,ep,e,d,r⟩=>⟨o,es,ep,base_of e (noA e (by rw[d];intro _ _ z;cases z) (by rw[d];intro _ z;cases z)),d,r⟩;let hKb:K.In (hidT s₁.heap H):=λb o e=>base_of (KX b o e) (by
   cases q:H b with
   |none=>rfl
   |some u=>rw[hK b (by rw[q];simp)]at e;cases e)
  let hBm:Bm mg (hidT s₁.heap H):=by
   let⟨bm,ob,b1,b2,b3,b4,b5,b6⟩:=hbm;exists bm,ob,b1,b2,base_of b3 (noA b3 (by rw[b6];intro _ _ z;cases z) (by rw[b6];intro _ z;cases z)),b4,b5,b6
  let hM:Mod K mg (hidT s₁.heap H):=⟨hKb,nsK hns,⟨mb,nsK hb,hbb⟩,let⟨mc,h1,h2⟩:=hlim;⟨mc,nsK h1,h2⟩⟩;let e0:Env0 P w K mg (hidT s₁.heap H) Jed [] s₁ H:=⟨rfl,hM,λb o e=>Znn e,Bq (Zhf _ _),trivial,λb hb=>Fh (show b∈([]:List Addr)from hb) (by simp),hok,.of_eq hg⟩;refine Hk ((F _ hKb (nsK hns) hBm).run Jed [] s₁ H ⟨[.ref a],[]⟩ [.ref a] [.ref a] _ _ hr e0 (hbind s₁ (.ref a)) (.cons rfl .nil) (hsp H hO hS)) λr s' h=>?_;cases r with
  |error e=>exact(hCX H e s' h).elim
  |ok fl =>
   cases fl with
   |next=>exact Cq h
   |brk=>exact Cq h
   |cont=>exact Cq h
   |ret u =>
    let⟨v,H',os,bare,un,hok',r',q⟩:=h;let q':v=.bl true:=q;subst q';obtain rfl:u=Kp true:=r';let kp:∀b o,b≠Pt->s₁.heap.get? b=some o->s'.heap.get? b=some o:=λb o nP e=>by
     cases q:H b with
     |none=>exact un.keep b o e q (by intro z;exact Fh (show b∈([]:List Addr)from z) (by simp)) (by simp)
     |some u =>
      rcases hO.2 b nP with z|⟨ob,xs,z⟩
      .rw[q]at z;cases z
      .let z2:=un.frzs b ob _ z;let⟨e1,_⟩:=hok b _ z;let⟨e2,_⟩:=hok' b _ z2;rw[e]at e1;cases e1;exact e2
    let⟨more,hm⟩:=un.tbls Pt #[] hO.1;let hPt:s'.heap.get? Pt=some {cls:=.none,data:=.fields (#[]++more)}:=hok' Pt _ hm;exists rfl,⟨λb o e=>?_,λb o e=>?_⟩,os,bare
    .by_cases hbP:b=Pt
     .subst hbP;rw[hP]at e;cases e;exact .inr (.inl ⟨(hC.tab hP).isCodeTable,rfl,#[],more,rfl,hPt⟩)
     .exact .inl (kp b o hbP e)
    .by_cases hbP:b=Pt
     .subst hbP;exists _,hPt
     .exists o,kp b o hbP e
 let okP:∀(H:Hp),Yv P w H s₁.heap Pt (.tbl #[]):=λH=>hP;cases hk:K.lookup a with
 |some o =>
  let e:=KX a o hk;rw[ha]at e;cases e;refine core (λb=>if b=Pt then some (.tbl #[])else none) ⟨Fp rfl,λb hb=>.inl (Fo hb)⟩ (.inr ⟨_,vs.toArray,_,hk,rfl,rfl,rfl,by rw[Jq,lenV];exact hl,by simpa using rv⟩) (λb u z=>?_) (λb z=>?_) λb z=>?_
  .by_cases hb:b=Pt
   .let z':=(Fp hb).symm.trans z;cases z';rw[hb];exact okP _
   .let z':=(Fo hb).symm.trans z;cases z'
  .by_cases hb:b=Pt
   .exact .inr hb
   .exact Fh (Fo hb) z
  .by_cases hb:b=Pt
   .rw[hb];exact hPK
   .exact Fh (Fo hb) z
 |none =>
  refine core (λb=>if b=Pt then some (.tbl #[])else if b=a then some (.frz {cls:=.type "list",data:=.seq vs.toArray} (.lst (ns.map V.int)))else none) ⟨Fp rfl,λb hb=>?_⟩
   (.inl (.inr ⟨{cls:=.type "list",data:=.seq vs.toArray},(Fo aP).trans (Fp rfl)⟩)) (λb u z=>?_) (λb z=>?_) λb z=>?_
  .by_cases hba:b=a
   .exact .inr ⟨_,_,(Fo hb).trans (Fp hba)⟩
   .exact .inl ((Fo hb).trans (Fo hba))
  .by_cases hb:b=Pt
   .let z':=(Fp hb).symm.trans z;cases z';rw[hb];exact okP _
   .let z1:=(Fo hb).symm.trans z
    by_cases hba:b=a
    .let z':=(Fp hba).symm.trans z1;cases z';subst hba;exists ha,by rw[Ja];exact hl,vs,_,rv,ha
    .let z':=(Fo hba).symm.trans z1;cases z'
  .by_cases hb:b=Pt
   .exact .inr hb
   .by_cases hba:b=a
    .exact .inl hba
    .exact Fh ((Fo hb).trans (Fo hba)) z
  .by_cases hb:b=Pt
   .rw[hb];exact hPK
   .by_cases hba:b=a
    .rw[hba];exact hk
    .exact Fh ((Fo hb).trans (Fo hba)) z
def Zik{l:Jg9}{n k:Nat}{q:Eu}{loose:List Str}{XP:(Str->Option Ca)->Heap->Prop}{YP:Hm->Heap->Prop}{d:DefRec}{K:Params->Cs}{CX:Hm->CXT}{sp:Hm->Sp}{x:Str}(hn:l.most=some n)(hn2:n<=Cb)(hdf:d.params.defaults=[])(hr:Room k Jed)(hY:∀(w:Hm)(h:Heap),YP w h->(K w.params).In h)(hYt:∀(w:Hm)(h:Heap),YP w h->h.get? Pt=some (Jhx #[]))(hPK:∀w:Hm,(K w.params).lookup Pt=none)(F:∀(w:Hm)(mg:Str->Option Ca)(fa:Addr)(h:Heap),(K w.params).In h->h.Ns Ct mg->mg d.name=some (.ref fa) ->
   ∃fd:Lj,(∃c,Jei (K w.params) c Pt=true)/\(∀(s:Cc)(u:Ca),Jdj s fd ⟨[u],[]⟩ [(x,u)]) /\
    ∀base:Heap,(K w.params).In base->base.Ns Ct mg->Bm mg base->FnOk l.prog w (K w.params) mg base (CX w) k fa fd [x] (sp w))(hsp:∀(w:Hm)(H:Hp)(a:Addr)(ns:List Int),ns.length<=n->Zie Pt H->SqL (K w.params) H a (ns.map V.int)->sp w [.ref a] H (λv _=>v=.bl true) λ_ _ _=>False)(hCX:∀(w:Hm)(H:Hp)(s:Cc)(e:Ca)(s':Cc),CX w [] H s (λ_ _ _=>False) e s'->False) :
  W.WalkO q loose XP YP l.row.toRowW d [] (λf vs=>Jgk f vs):=by
 refine Att.attach_call hn hdf λw s₀ s₁ mg mb fa o pm cd doc a vs ns G Y ho hd hcd hmg hobj hints hlen hg=>?_;let KX:=hY w _ Y;let⟨fd,⟨c,hC⟩,hb,hF⟩:=F w mg fa _ KX G.T.g hmg;exact Zg1 KX G.T.g G.T.b G.T.builtins G.T.nolimit G.T.bmain hg hobj hints (Ga hlen hn2) hr (hYt w _ Y) (hPK w) (Jgz KX hC) hF hb (λH hO hS=>hsp w H a ns hlen hO hS) λH e s'=>hCX w H s₁ e s'
section
variable{a:Addr}{o:Obj}{xs:Array Ca}{k:Nat}
def Qn{Q:Option Ca->Cc->Prop}(hx:s.heap.get? a=some o)(hc:o.cls=.type "list")(hdat:o.data=.seq xs k)(hd:o.dict=none)(hA:A.handled=none)(h:∀h' tk e,Jg0 s.heap h' e "AttributeError"->Q none {s with heap:=h',toks:=tk}):Cg (Cj prog w) A (Jdz (.ref a) "keys") Q E s:=by
 let⟨c,dct,dat,sl⟩:=o;simp only at hc hdat hd;subst hc hdat hd;let⟨hp,g,d,tk,os⟩:=s;let hT:∀tk',(⟨hp,g,d,tk',os⟩:Cc).TypeIs (.ref a) "list":=λ_=>⟨_,hx,rfl⟩;let f1:=Jd0;let f3:=F.slot_list_getattribute.lookup;let f4:=F.slot_list_getattribute.bind (.ref a);let f5:=am_list_getattr_none;let hmiss:Mp (.type "list") "keys"=pure none:=by rw[Jfn,Jc4];kernel_rfl
 unfold Jdz getAttrBy? Jfo
 repeat (any_goals (first|assumption|exact hT _|((with_reducible show Cg _ _ (call (Lk "list.__getattribute__") _ _) _ _ _);refine Jdb F.slot_list_getattribute (hT _) am_entry_list_getattribute (F.args_list_getattribute_2 _ _) (meets_getattribute_miss_list a xs k sl "keys" _ hmiss (by decide +kernel)) ⟨hx,hA,λh' tk' e hx'=>?_⟩)|wp_step))
 let⟨t',u',he⟩:=hx'.there;let hTe:∀tk'',(⟨h',g,d,tk'',os⟩:Cc).TypeIs (.ref e) "AttributeError":=λ_=>⟨_,he,rfl⟩;show Cg _ _ (Ky _ _ _ _ _ _ _) _ _ _;unfold Ky
 repeat (any_goals (first|assumption|exact hTe _|wp_step))
 all_goals exact h _ _ _ hx'.of
def Ra{Q:Option Ca->Cc->Prop}(hx:s.heap.get? a=some o)(hc:o.cls=.type "tuple")(hdat:o.data=.seq xs k)(hd:o.dict=none)(hA:A.handled=none)(h:∀h' tk e,Jg0 s.heap h' e "AttributeError"->Q none {s with heap:=h',toks:=tk}):Cg (Cj prog w) A (Jdz (.ref a) "keys") Q E s:=by
 let⟨c,dct,dat,sl⟩:=o;simp only at hc hdat hd;subst hc hdat hd;let⟨hp,g,d,tk,os⟩:=s;let hT:∀tk',(⟨hp,g,d,tk',os⟩:Cc).TypeIs (.ref a) "tuple":=λ_=>⟨_,hx,rfl⟩;let f1:=Jd0;let f3:=F.slot_tuple_getattribute.lookup;let f4:=F.slot_tuple_getattribute.bind (.ref a);let f5:=am_tuple_getattr_none;let hmiss:Mp (.type "tuple") "keys"=pure none:=by rw[Jfn,Jc4];kernel_rfl
 unfold Jdz getAttrBy? Jfo
 repeat (any_goals (first|assumption|exact hT _|((with_reducible show Cg _ _ (call (Lk "tuple.__getattribute__") _ _) _ _ _);refine Jdb F.slot_tuple_getattribute (hT _) am_entry_tuple_getattribute (F.args_tuple_getattribute_2 _ _) (meets_getattribute_miss_tuple a xs k sl "keys" _ hmiss (by decide +kernel)) ⟨hx,hA,λh' tk' e hx'=>?_⟩)|wp_step))
 let⟨t',u',he⟩:=hx'.there;let hTe:∀tk'',(⟨h',g,d,tk'',os⟩:Cc).TypeIs (.ref e) "AttributeError":=λ_=>⟨_,he,rfl⟩;show Cg _ _ (Ky _ _ _ _ _ _ _) _ _ _;unfold Ky
 repeat (any_goals (first|assumption|exact hTe _|wp_step))
 all_goals exact h _ _ _ hx'.of
end
end L2
namespace L2
open PySem PySem.Spec PyProof.Rows PySem.W
def Zaq:entryFor table "dict.update.loop"=some Builtin.«dict.update.loop»:=entryFor_of_tree (by kernel_rfl)
def N7:plainId "dict.update.loop"=true:=by decide +kernel
inductive DFill(H:Hp)(D:Addr):HO->List (V×V)->HO->Prop
 |nil {o:HO}:DFill H D o [] o
 |cons {o o' o'':HO} {k v:V} {r:List (V×V)} (h:DPut (upd H D o) D k v (upd H D o')) (t:DFill H D o' r o''):DFill H D o ((k,v)::r) o''
instance Nn(K:Cs)(H:Hp)(ys:List V)(zs:List (V×V)):Prop:=Paired (λy z=>∃t,y=.ref t/\SqT K H t [z.1,z.2]) ys zs
def SqT.upd'{a D:Addr}(h:SqT K H a xs)(n:H D=none):SqT K (upd H D o) a xs:=by
 rcases h with(h|⟨o,h⟩)|h
 .exact .inl (.inl (by rw[Zk (Zp h n)];exact h))
 .exact .inl (.inr ⟨o,by rw[Zk (Zp h n)];exact h⟩)
 .exact .inr h
section
instance Qp(K:Cs)(H:Hp)(h:Heap)(p it:Addr)(ys:List V)(i:Nat):Prop:=(SqL K H p ys/\h.IsListIter it p i)\/(SqT K H p ys/\h.IsTupleIter it p i)
def Qp.at{p:Addr}(x:Qp K H h p it ys i)(k:∀o,h.get? it=some o->h'.get? it=some o)(hl:SqL K H p ys->SqL K H' p ys)(ht:SqT K H p ys->SqT K H' p ys):Qp K H' h' p it ys i:=by
 rcases x with⟨a,b⟩|⟨a,b⟩
 .exact .inl ⟨hl a,b.at k⟩
 .exact .inr ⟨ht a,b.at k⟩
def Zcw{p:Addr}{x:V}{Q:Option Ca->Cc->Prop}(I:Inv X pq σ H s)(f:FpOk X pq H it)(src:Qp X.K H s.heap p it ys i)(hx:ys[i]?=some x)(h:∀u s',RelV x u->Inv X pq σ H s'->Qp X.K H s'.heap p it ys (i+1)->Q (some u) s'):Cg (Cj X.prog X.w) A (Jeo (.ref it)) Q E s:=by
 let⟨f0,f1,f2,f3,f4,f5⟩:=f;rcases src with⟨hq,st⟩|⟨hq,st⟩
 .let⟨its,rv,p',hz⟩:=I.list hq;let⟨u,hu,ru⟩:=rv.get hx;exact Jcr st p'.isList (x:=u) (by simpa using hu) λh' st' sb=>h u _ ru (I.turned (t':=s.toks) (λb o hb e=>(sb.2 b hb).trans e) f0 f1 f3 f4 f5) (.inl ⟨hq,st'⟩)
 .let⟨its,rv,p',hz⟩:=I.tuple hq;let⟨u,hu,ru⟩:=rv.get hx;exact Ja1 st (show s.heap.IsTuple p its.toArray from p') (x:=u) (by simpa using hu) λh' st' sb=>h u _ ru (I.turned (t':=s.toks) (λb o hb e=>(sb.2 b hb).trans e) f0 f1 f3 f4 f5) (.inr ⟨hq,st'⟩)
def Zfk{p:Addr}{Q:Option Ca->Cc->Prop}(I:Inv X pq σ H s)(f:FpOk X pq H it)(hA:A.handled=none)(src:Qp X.K H s.heap p it ys i)(hx:ys.length<=i)(h:∀s',Inv X pq σ H s'->Q none s'):Cg (Cj X.prog X.w) A (Jeo (.ref it)) Q E s:=by
 let⟨f0,f1,f2,f3,f4,f5⟩:=f;rcases src with⟨hq,st⟩|⟨hq,st⟩
 .let⟨its,rv,p',hz⟩:=I.list hq;let hl:=rv.length;exact Jc0 hA st p'.isList (by simp;lia) λh' eb=>h _ (I.turned (t':=s.toks) (λb o hb e=>eb b o hb e) f0 f1 f3 f4 f5)
 .let⟨its,rv,p',hz⟩:=I.tuple hq;let hl:=rv.length;exact Jcs hA st (show s.heap.IsTuple p its.toArray from p') (by simp;lia) λh' eb=>h _ (I.turned (t':=s.toks) (λb o hb e=>eb b o hb e) f0 f1 f3 f4 f5)
def Zht{a:Addr}{y:V}{u r:Ca}{Q:Unit->Cc->Prop}(hu:A.units<Md)(I:Inv X pq σ H s)(g:DPut H a y v H')(ry:RelV y u)(rv:RelV v r)(h:∀s',Inv X pq σ H' s'->Hw a s.heap s'.heap->Q ⟨⟩ s') :
  Cg (Cj X.prog X.w) A (dictSet a u r) Q E s:=by
 rcases g with⟨kvs,k,e,ey,l,eH⟩|⟨kvs,k,b,e,ey,eb,l,eH⟩
 .subst ey eH;let⟨z,hd,vs,rel,dd⟩:=Zok I.hok e;let hz:vs.length<=Cb:=by rw[<-rel.length];exact z
  let hl:(putK kvs k v).length<=Cb:=by have:=Xt kvs k v;lia
  refine wpAny_dictSet_pairs (hsz:=hz) (Zbz ry) dd λh' dd' hs=>h _ ?_ hs;let he:∃q,h'.get? a=some q:=let⟨q,_,_,hq,_⟩:=dd';⟨q,hq⟩
  exact Nh I (by rw[e];exact Ek) hs he (Zlf hl hd (rel.put k rv) dd')
 .subst ey eH;cases(show u=Cd b from ry);let⟨z,hd,xs,rel,dd⟩:=Zr8 I.hok e;let hz:xs.length<=Cb:=by rw[<-Paired.length rel];exact z
  let hl:(putK kvs k v).length<=Cb:=by have:=Xt kvs k v;lia
  refine wpAny_dictSet_heap (hsz:=hz) (show(Mg (Yl X.prog X.w)).room A from hu) (Rb I.hok eb) dd λh' dd' hs=>h _ ?_ hs;let⟨q,es,ep,hq,h2,h3,h4,_,h5⟩:=dd';refine Nh I (by rw[e];exact Ek) hs ⟨q,hq⟩ ⟨hl,hd,_,(rel.put k eb rv).keeps λc ys ec=>?_,q,es,ep,hq,h2,h3,h4,h5⟩;rw[Zk (Pq ec e (λz=>nomatch z))];exact ec
def Zau{p D:Addr}{R:Jdr->Cc->Prop}(hu:A.units+8<Md)(hA:A.handled=none)(hn:H D=none)(hit:it≠D)(fit:FpOk X pq H it) :
  ∀(zs:List (V×V))(i:Nat)(o o':HO)(s:Cc)(t:Tok),Inv X pq σ (upd H D o) s->Qp X.K (upd H D o) s.heap p it ys i->Nn X.K H (ys.drop i) zs->DFill H D o zs o' ->
   (∀s',Inv X pq σ (upd H D o') s'->R (.ok (.ret .none)) s')->Hn (Cj X.prog X.w) A (.builtin "dict.update.loop" ⟨[.ref D,.ref it,.int i t,.none],[]⟩) R s
 |[],i,o,o',s,t,I,src,pa,df,h=>by
  cases df;let hl:ys.length<=i:=by
   let e:=Paired.length pa;simp only[Gb,Bt]at e;lia
  refine Kz Zaq ?_;rw[Kf N7 _];show Cg _ A.in1 (Jeo (.ref it) >>= _) _ _ s;refine Fj (Zfk I (show FpOk X pq (upd H D o) it from⟨by rw[Zk hit];exact fit.1,fit.2⟩) hA src hl λs' I'=>?_);show Cg _ A.in1 (Jgn D [] >>= _) _ _ s';exact Fj (Fk (Fk (h s' I')))
 |z::zs,i,o,o'',s,t,I,src,pa,df,h=>by
  let hil:i<ys.length:=by
   let e:=Paired.length pa;simp only[Gb,Ju]at e;lia
  rw[List.drop_eq_getElem_cons hil]at pa;cases pa with
  |cons p1 p2 =>
   let⟨tp,ep,sq⟩:=p1;cases df with
   | @cons _ o1 _ k v _ d1 d2 =>
    refine Kz Zaq ?_;rw[Kf N7 _];show Cg _ A.in1 (Jeo (.ref it) >>= _) _ _ s;let fit':∀o,FpOk X pq (upd H D o) it:=λo=>⟨by rw[Zk hit];exact fit.1,fit.2⟩;refine Fj (Zcw I (fit' o) src (Jb hil) λu s1 ru I1 src1=>?_);rw[ep]at ru;obtain rfl:u=Cd tp:=ru;let⟨its,rv,⟨ob,eo,hc,n,hd⟩,_⟩:=I1.tuple (sq.upd' (o:=o) hn);cases rv with
    |cons r1 rv =>
     cases rv with
     |cons r2 rv =>
      cases rv with
      |nil =>
       skip;rename_i uk uv
       show Cg _ A.in1 (Mc [Cd tp] _ >>= _) _ _ s1;refine Fj (Cw ?_);refine Fj (Me ?_);unfold Jg2;refine Fj (Looks.here (show Looks (Cj X.prog X.w) s1.heap (typeOf (.ref tp)) ob.cls from(Looks.ld eo).andThen .now) ?_);rw[hc,Fp nofun];unfold Jha;refine Fj (Fj (Jd8 eo ?_));rw[hd];refine Fk (Fk ?_);show Cg _ A.in1 (Mc [uk,uv] (dictSet D uk uv)) _ _ s1;refine Cw (Zht (by show A.units+1<Md;lia) I1 d1 r1 r2 λs2 I2 sb=>?_);refine Fk ⟨Hb _ (by decide +kernel),?_⟩;refine Zau hu hA hn hit fit zs (i+1) o1 o'' s2 _ I2 (src1.at (λob' e=>(sb.2 it hit).trans e) (λq=>?_) λq=>?_) p2 d2 h
       .rcases q with(q|⟨oo,q⟩)|q
        .by_cases hpD:p=D
         .subst hpD;exact Fh d1 (λz=>by
           rw[Zi]at q;cases q;rcases z with⟨_,_,e,_⟩|⟨_,_,_,e,_⟩<;>rw[Zi]at e<;>cases e)
         .rw[Zk hpD]at q;exact .inl (.inl (by rw[Zk hpD];exact q))
        .by_cases hpD:p=D
         .subst hpD;exact Fh d1 (λz=>by
           rw[Zi]at q;cases q;rcases z with⟨_,_,e,_⟩|⟨_,_,_,e,_⟩<;>rw[Zi]at e<;>cases e)
         .rw[Zk hpD]at q;exact .inl (.inr ⟨oo,by rw[Zk hpD];exact q⟩)
        .exact .inr q
       .rcases q with(q|⟨oo,q⟩)|q
        .by_cases hpD:p=D
         .subst hpD;exact Fh d1 (λz=>by
           rw[Zi]at q;cases q;rcases z with⟨_,_,e,_⟩|⟨_,_,_,e,_⟩<;>rw[Zi]at e<;>cases e)
         .rw[Zk hpD]at q;exact .inl (.inl (by rw[Zk hpD];exact q))
        .by_cases hpD:p=D
         .subst hpD;exact Fh d1 (λz=>by
           rw[Zi]at q;cases q;rcases z with⟨_,_,e,_⟩|⟨_,_,_,e,_⟩<;>rw[Zi]at e<;>cases e)
         .rw[Zk hpD]at q;exact .inl (.inr ⟨oo,by rw[Zk hpD];exact q⟩)
        .exact .inr q
end
section
instance S0(K:Cs):List V->Hp->VK->Prop:=λxs H Q=>∃(p:Addr)(ys:List V)(zs:List (V×V))(o:HO),xs=[.ref p]/\(H p=some (.lst ys)\/H p=some (.tup ys))/\Nn K H ys zs/\(o=.dK []\/o=.dT []) /\
 ∀D,H D=none->∃o',DFill H D o zs o'/\Q (.ref D) (upd H D o')
def Zaz(hr:Room 3 X.A)(hc:X.calm=true):Wv X (.type "dict") (S0 X.K):=by
 intro pq s σ H xs us Q I r h;let⟨p,ys,zs,o,rfl,hp,pa,ho,q⟩:=h;let⟨u,rfl,rx⟩:=Sr r;cases rx;let hA:X.A.handled=none:=I.ok.hd hc;let hD:H s.heap.objs.size=none:=I.hok.fresh (Jd _);let⟨o',df,q'⟩:=q _ hD;let pD:p≠s.heap.objs.size:=λz=>by
  rcases hp with e|e<;>rw[z,hD]at e<;>cases e
 refine callType_codes (Q₁:=λobj s₁=>obj=.ref s.heap.objs.size/\s₁={s with heap:=s.heap.push {cls:=.type "dict",data:=.dict #[]} }) PySem.F.kt_called_dict (PySem.F.kt_typeCall_dict_1 _) PySem.F.entry_dict_init (kt_code_dict_new _ ⟨rfl,rfl⟩) ?_;rintro obj s₁ ⟨rfl,rfl⟩;let I1:Inv X pq σ (upd H s.heap.objs.size o) {s with heap:=s.heap.push {cls:=.type "dict",data:=.dict #[]} }:=by
  rcases ho with e|e
  .subst e;exact I.laid (a:=s.heap.objs.size) (o:=.dK []) (t':=s.toks) (λ_ _ q=>Fl _ q) (Jd _) (Zdu s.heap I.big)
  .subst e;exact I.laid (a:=s.heap.objs.size) (o:=.dT []) (t':=s.toks) (λ_ _ q=>Fl _ q) (Jd _) (Zdt s.heap I.big)
 let hT:(⟨s.heap.push {cls:=.type "dict",data:=.dict #[]},s.gens,s.drawn,s.toks,s.os⟩:Cc).TypeIs (.ref s.heap.objs.size) "dict":=⟨_,Fm _ rfl,rfl⟩;refine⟨hT,PySem.F.args_dict_init_2 _ _,?_⟩;unfold Builtin.«dict.__init__»;refine Fj ?_;unfold Jgo;refine Fj (wpAny_notOrdered_dict hT ?_);show Cg _ _ (pure (s.heap.objs.size,[Cd p])) _ _ _;refine Fk ?_;show Cg _ _ (Jb3 "dict.__init__" s.heap.objs.size (.ref p) [] .none) _ _ _;unfold Jb3;let hA2:X.A.in1.in1.handled=none:=hA;let fin:∀(s2:Cc)(it:Addr),it≠s.heap.objs.size->FpOk X pq H it->Inv X pq σ (upd H s.heap.objs.size o) s2->Qp X.K (upd H s.heap.objs.size o) s2.heap p it ys 0 ->
   Hn (Cj X.prog X.w) X.A.in1 (.builtin "dict.update.loop" ⟨[.ref s.heap.objs.size,.ref it,Ew 0,.none],[]⟩) (wants (λr s₂=>r=.none/\EP X pq σ Q (.ref s.heap.objs.size) s₂) X.xe) s2:=λs2 it nit fit I2 src =>
  Zau (A:=X.A.in1) (by have:=hr.units;show X.A.units+1+8<Md;lia) (show X.A.in1.handled=none from hA) hD nit fit zs 0 o o' s2 _ I2 src (by simpa using pa) df λs' I'=>⟨rfl,.ref s.heap.objs.size,_,I',rfl,q'⟩
 let nq:∀it:Addr,Code.quiet (.builtin "dict.update.loop" ⟨[.ref s.heap.objs.size,.ref it,Ew 0,.none],[]⟩)=true:=λit=>Hb _ (by decide +kernel);rcases hp with hp|hp
 .let⟨hz,its,n,rv,eo⟩:=I1.hok p _ (show upd H s.heap.objs.size o p=some (.lst ys)by rw[Zk pD];exact hp);refine Fj (Kt (show Jg1 _ (.ref p) "list" from⟨_,eo,rfl⟩) ?_);rw[Fp nofun];refine Fj (Qn eo rfl rfl rfl hA2 λh' tk e ne=>?_);let I2:Inv X pq σ (upd H s.heap.objs.size o) {s with heap:=h',toks:=tk}:=I1.kept ne.keeps;simp only[Jd1,if_true];refine Fj (Mv (Fj (K4 (s:={s with heap:=h',toks:=tk}) ⟨_,ne.keeps _ _ eo,rfl,n,rfl⟩ (Fk ⟨nq _,?_⟩))));let hsz:s.heap.objs.size<h'.objs.size:=Fn (ne.keeps _ _ (Fm (o:={cls:=.type "dict",data:=.dict #[]}) s.heap rfl))
  let hle:({s with heap:=h',toks:=tk}:Cc).heap.objs.size<=h'.objs.size:=Jd _;let fI:=I2.fpOk (H':=H) hle (I.hok.fresh (Bp hsz));refine fin _ _ (B1 hsz) fI (I2.kept (t':=tk) λb o e=>Fl _ e) (.inl ⟨.inl (.inl (by rw[Zk pD];exact hp)),⟨_,Fm _ rfl,rfl,rfl⟩⟩)
 .let⟨hz,its,rv,ob,eo,hcl,n,hda,hdi⟩:=I1.hok p _ (show upd H s.heap.objs.size o p=some (.tup ys)by rw[Zk pD];exact hp);refine Fj (Kt (show Jg1 _ (.ref p) "tuple" from⟨_,eo,hcl⟩) ?_);rw[Fp nofun];refine Fj (Ra eo hcl hda hdi hA2 λh' tk e ne=>?_);let I2:Inv X pq σ (upd H s.heap.objs.size o) {s with heap:=h',toks:=tk}:=I1.kept ne.keeps;simp only[Jd1,if_true];refine Fj (Mv (Fj (Jdo (s:={s with heap:=h',toks:=tk}) (show Heap.IsTuple h' p its.toArray from⟨_,ne.keeps _ _ eo,hcl,n,hda⟩) (Fk ⟨nq _,?_⟩))));let hsz:s.heap.objs.size<h'.objs.size:=Fn (ne.keeps _ _ (Fm (o:={cls:=.type "dict",data:=.dict #[]}) s.heap rfl))
  let hle:({s with heap:=h',toks:=tk}:Cc).heap.objs.size<=h'.objs.size:=Jd _;let fI:=I2.fpOk (H':=H) hle (I.hok.fresh (Bp hsz));refine fin _ _ (B1 hsz) fI (I2.kept (t':=tk) λb o e=>Fl _ e) (.inr ⟨.inl (.inl (by rw[Zk pD];exact hp)),⟨_,Fm _ rfl,rfl,rfl⟩⟩)
end
end L2
namespace L2
open PySem PySem.Spec PyProof.Rows
section
variable{e:Expr}{st:Option Expr}{ts:TO}{p2:Pos}
instance tRev(K:Cs)(te:TE)(ts:TO):TE:=λσ H Q=>te σ H λx H1=>ts σ H1 λk H2=>k=some (-1)/\∃a xs,x=.ref a/\SqL K H2 a xs/\∀p,H2 p=none->Q (.ref p) (upd H2 p (.lst xs.reverse))
def Zgn(he:PE X e te)(hs:PO X st ts)(hsub:∀o i,∃ops,Ja7 (.Slice none none st p2) false o i=Jhp ops (Lo o i)):PE X (.Subscript e (.Slice none none st p2) pos) (tRev X.K te ts):=by
 intro pq s σ H Q I h;refine Jeb (thn (he pq s σ H _ I h) λv s1 hz=>?_);let⟨x,H1,I1,r1,q1⟩:=hz;refine wpAny_Slice ?_;rw[Jdv];refine Fk ?_;refine Fk ?_;refine thn (hs pq s1 σ H1 _ I1 q1) λvk s3 hz=>?_;let⟨k,H3,I3,pk,ek,a,xs,ex,hx,q⟩:=hz;subst ek;subst ex;cases r1;let I4:Inv X pq σ H3 {s3 with heap:=s3.heap.push {cls:=.type "slice",data:=.fields #[.none,.none,vk]} }:=I3.kept (t':=s3.toks) λb ob q=>Fl _ q;let⟨its,r,ht,hz⟩:=I4.list hx;let hlen:=r.length;show Cg (Cj X.prog X.w) X.A (Ja6 e (.Slice none none st p2) (.ref a) (.ref s3.heap.objs.size)) (EP X pq σ Q) X.xe {s3 with heap:=s3.heap.push {cls:=.type "slice",data:=.fields #[.none,.none,vk]} }
 let⟨ops,hop⟩:=hsub (.ref a) (.ref s3.heap.objs.size);refine tail_any (ops:=ops) ht.isList.typeIs slot_list_getitem.lookup ?_ hop;refine Mq ht.isList (Jdw ..) .none .none pk nofun ?_ (by rw[Jq]<;>lia);rw[W.krv_pick];refine⟨.ref _,_,I4.laid (t':=s3.toks) (o:=.lst xs.reverse) (λb ob q=>Fl _ q) (Jd _) ?_,rfl,q _ (I4.hok.fresh (Jd _))⟩;refine⟨by rw[B6];exact hz,its.reverse,0,?_,?_⟩
 .let rev:∀{a:List V}{b:List Ca},Vals a b->Vals a.reverse b.reverse:=by
   intro a b h
   induction h with
   |nil=>exact .nil
   |cons h1 h2 ih=>rw[List.reverse_cons,List.reverse_cons];exact ih.append (.cons h1 .nil)
  exact rev r
 .exact Fm _ rfl
end
instance mxOf:Option Int->List Int->Option Int
 |c,[]=>c
 |none,n::r=>mxOf (some n) r
 |some c,n::r=>mxOf (some (if c<n then n else c)) r
instance U2:Option Ca->Array Ca
 |none=>#[]
 |some v=>#[v,v]
section
def Zcg(c:Option Ca):(U2 c).size<=Cb:=by rw[Em];cases c<;>simp[U2]
abbrev lst0(vs:Array Ca)(c:Nat):Obj:={cls:=.type "list",data:=.seq vs c}
def So{p B:Addr}{d:Ca}{R:Jdr->Cc->Prop}(hA:A.handled=none)(hBi:it≠B)(fit:FpOk X pq H it)(fB:FpOk X pq H B) :
  ∀(k:Nat)(i:Nat)(cur:Option Int)(cv:Option Ca)(s:Cc)(c:Nat),ns.length=i+k->Inv X pq σ H s->Qp X.K H s.heap p it (ns.map V.int) i->s.heap.get? B=some (lst0 (U2 cv) c) ->
   (match cur,cv with|none,none=>True|some n,some v=>∃t,v=Er n t|_,_=>False) ->
   (∀s' u,Inv X pq σ H s'->(match mxOf cur (ns.drop i)with|none=>u=d|some n=>∃t,u=Er n t)->R (.ok (.ret u)) s') ->
   Hn (Cj X.prog X.w) A (.builtin "max.loop" ⟨[.ref it,.none,.ref B],[(Co "default",d)]⟩) R s
 |0,i,cur,cv,s,c,hk,I,src,hB,hc,h=>by
  let hname:(Jd2 "max"++Jd2 ".loop":String)="max.loop":=by decide
  refine Kz Jcv ?_;rw[Kf Et _];show Cg _ A.in1 (Jha (.ref B) >>= _) _ _ s;refine Fj (wpAny_seqItems hB rfl ?_);show Cg _ A.in1 (tryCatch (Jeo (.ref it)) _ >>= _) _ _ s;refine Fj (Me (Fw (Zfk (Q:=λr s'=>r=none/\Inv X pq σ H s'/\s'.heap.get? B=some (lst0 (U2 cv) c)) (I.pin1 fB hB (by intro v;simp)) (fit.snoc hBi.symm) hA src (by simp;lia) λs' I'=>⟨rfl,I'.unpinned,(I'.pin (B,lst0 (U2 cv) c) (by simp)).1⟩) (λr s' hz=>?_) λ_ _ z=>z));let⟨er,I',hB'⟩:=hz;subst er;let hd:ns.drop i=[]:=List.drop_eq_nil_of_le ()
  rw[hd]at h;cases cur with
  |none =>
   cases cv with
   |some v=>exact hc.elim
   |none =>
    refine Fj (Mv (Fk ?_));exact h s' d I' rfl
  |some n =>
   cases cv with
   |none=>exact hc.elim
   |some v =>
    show Cg _ A.in1 (updateSeq B (λ_=>#[]) >>= _) _ _ _;refine Fj (Jc5 hB' rfl (Fj (Jb0 (Fk ?_))) (Zcg _));exact h _ v (I'.turn1 fB (E5 _ _ _)) hc
 |k+1,i,cur,cv,s,c,hk,I,src,hB,hc,h=>by
  let hname:(Jd2 "max"++Jd2 ".loop":String)="max.loop":=by decide
  let hil:i<ns.length:=by lia
  refine Kz Jcv ?_;rw[Kf Et _];show Cg _ A.in1 (Jha (.ref B) >>= _) _ _ s;refine Fj (wpAny_seqItems hB rfl ?_);show Cg _ A.in1 (tryCatch (Jeo (.ref it)) _ >>= _) _ _ s;refine Fj (Me (Fw (Zcw (x:=V.int ns[i]) (Q:=λr s'=>∃u,r=some u/\RelV (V.int ns[i]) u/\Inv X pq σ H s'/\s'.heap.get? B=some (lst0 (U2 cv) c)/\Qp X.K H s'.heap p it (ns.map V.int) (i+1)) (I.pin1 fB hB (by intro v;simp)) (fit.snoc hBi.symm) src (by rw[Jr,Jb hil];rfl)
   λu s' ru I' src'=>⟨u,rfl,ru,I'.unpinned,(I'.pin (B,lst0 (U2 cv) c) (by simp)).1,src'⟩) (λr s'⟨u,er,ru,I',hB',src'⟩=>?_) λ_ _ z=>z))
  subst er;let⟨t,eu⟩:=ru;subst eu;rw[List.drop_eq_getElem_cons hil]at h;let st:=λ(f:Obj->Obj)=>E5 s'.heap B f;cases cur with
  |none =>
   cases cv with
   |some v=>exact hc.elim
   |none =>
    show Cg _ A.in1 (updateSeq B (λ_=>#[Er ns[i] t,Er ns[i] t]) >>= _) _ _ _;refine Fj (Jc5 hB' rfl ?_ (Zcg _));rw[hname];refine Fk ⟨Jb4 Et _,So hA hBi fit fB k (i+1) (some ns[i]) (some (Er ns[i] t)) _ _ () (I'.turn1 fB (st _)) (src'.at (λob e=>((st _).2 it hBi).trans e) id id) (Cy _ hB' rfl) ⟨t,rfl⟩ ?_⟩;simpa only[mxOf]using h
  |some n =>
   cases cv with
   |none=>exact hc.elim
   |some v =>
    let⟨t',hv⟩:=hc;subst hv;show Cg _ A.in1 (tryCatch (Mc [Er ns[i] t,Er ns[i] t] (richCompare .Gt (Er ns[i] t) (Er n t') >>= _)) _ >>= _) _ _ _;refine Fj (Me (Cw (Fj (show Cg (Cj X.prog X.w) A.in1 (E8 .Gt (Er ns[i] t) (Er n t')) _ _ _ from Jht ?_))));refine Fj (Cw (Hf ?_));refine Fj (Jb0 (Fk ?_))
    by_cases hlt:n<ns[i]
    .simp only[hlt,decide_true,if_true];refine Fj (Jc5 hB' rfl (Fj (Jb0 ?_)) (Zcg _));rw[hname];refine Fk ⟨Jb4 Et _,So hA hBi fit fB k (i+1) (some ns[i]) (some (Er ns[i] t)) _ _ () (I'.turn1 fB (st _)) (src'.at (λob e=>((st _).2 it hBi).trans e) id id) (Cy _ hB' rfl) ⟨t,rfl⟩ ?_⟩;simpa only[mxOf,hlt,if_true]using h
    .simp only[hlt,decide_false,G4,if_false];refine Fj (Jb0 ?_);rw[hname];refine Fk ⟨Jb4 Et _,So hA hBi fit fB k (i+1) (some n) (some (Er n t')) _ _ () I' src' hB' ⟨t',rfl⟩ ?_⟩;simpa only[mxOf,hlt,if_false]using h
end
def Zeq{id:String}{b:Builtin}{args:List Ca}{Q:Ca->Cc->Prop}(hk:builtinKind id=none)(hp:plainId id=true)(hb:entryFor table id=some b)(ha:argsOk id ⟨args,kw⟩)(hc:Cg (Cj prog w) A.in1 (b ⟨args,kw⟩) (λfin s'=>match fin with
   |.done f=>(match(Except.ok f:Jdr)with|.ok (.ret v)=>Q v s'|.ok _=>False|.error e=>E e s')
   |.again c'=>c'.quiet=true/\Hn (Cj prog w) A c' (λr s'=>match r with|.ok (.ret v)=>Q v s'|.ok _=>False|.error e=>E e s') s') E s) :
  Cg (Cj prog w) A (call (.builtin id) args kw) Q E s:=by
 refine E7 (He hp hb ?_);simp only[checkBuiltinCall,hk];cases hsig:Manifest.signature? id with
 |none=>exact Fk hc
 |some sig =>
  let ha':Bind.checkArgs id sig ⟨args,kw⟩=pure ⟨⟩:=by simpa only[argsOk,hsig]using ha
  simp only[ha'];exact Fk hc
section
variable{e d:Expr}{ta tk:TA}{p:Pos}
instance Zmd(K:Cs)(ta tk:TA):TE:=λσ H Q=>ta σ H λvs H1=>tk σ H1 λds H2=>∃(a:Addr)(ns:List Int)(n0:Int),vs=[.ref a]/\ds=[.int n0]/\SqL K H2 a (ns.map V.int)/\Q (.int ((mxOf none ns).getD n0)) H2
def Zng(hc:X.calm=true)(hg:Gl X "max")(hm:X.mg "max"=none)(ha:PA X [e] ta)(hk:PK X [⟨some "default",d,kpos⟩] tk)(he:Cp [e] X.env=[(false,eval e X.env)]:=by rfl) :
  PE X (.Call (.Name "max" p) [e] [⟨some "default",d,kpos⟩] pos) (Zmd X.K ta tk):=by
 intro pq s σ H Q I h;refine Eb (Q4 I hg hm Ka ?_);refine callWith_kw (thn (ha pos pq s σ H _ I h) λus s1 hz=>?_) (by rw[he];rfl) (by rw[he];rfl);let⟨vs,H1,I1,r1,q1⟩:=hz;refine thn (hk pos pq s1 σ H1 _ I1 q1) λws s2 hz=>?_;let⟨zs,H2,I2,rz,a,ns,n0,ev,ez,hl,q⟩:=hz;subst ev;subst ez;let⟨u,rfl,ru⟩:=Vals.one r1;obtain rfl:u=Cd a:=ru;let⟨dv,rfl,t0,rfl⟩:=Vals.one rz;let hname:(Jd2 "max"++Jd2 ".loop":String)="max.loop":=by decide
 show Cg _ _ (call (.builtin "max") [.ref a] [(Co "default",.int n0 t0)]) _ _ s2;refine Zeq PySem.F.kind_max PySem.F.plain_max PySem.F.entry_max (by unfold argsOk;kernel_rfl) ?_;show Cg _ X.A.in1 (Lv "max" ["key","default"] 0 ⟨[],[(Co "default",.int n0 t0)]⟩ >>= _) _ _ s2;refine Fj (wpAny_of_eq (show Lv "max" ["key","default"] 0 ⟨[],[(Co "default",.int n0 t0)]⟩=pure [none,some (.int n0 t0)]from rfl) ?_);refine Fj (Fk ?_);let⟨its,rv,pl,hz⟩:=I2.list hl;refine Fj (K4 pl.isList ?_);refine Fj (Jb2 ?_ (J8 _))
 rw[hname];let I3:Inv X pq σ H2 {s2 with heap:=(s2.heap.push {cls:=.type "list_iterator",data:=.fields #[.ref a,.int 0 0]}).push (lst0 #[] 0)}:=I2.kept (t':=s2.toks) λb o e=>Fl _ (Fl _ e);let hit:FpOk X pq H2 s2.heap.objs.size:=I2.fpOk (Jd _) (I2.hok.fresh (Jd _));let hle:s2.heap.objs.size<=(s2.heap.push {cls:=.type "list_iterator",data:=.fields #[.ref a,.int 0 0]}).objs.size:=by rw[Ep];exact G1 _
 let hB:=I2.fpOk (H':=H2) hle (I2.hok.fresh hle);let nB:s2.heap.objs.size≠(s2.heap.push {cls:=.type "list_iterator",data:=.fields #[.ref a,.int 0 0]}).objs.size:=by rw[Ep];exact Gg (Bc _)
 refine Fk ⟨Jb4 Et _,So (A:=X.A) (I2.ok.hd hc) nB hit hB ns.length 0 none none _ 0 () I3 (.inl ⟨hl,⟨_,Fl _ (Fm _ rfl),rfl,rfl⟩⟩) (Fm _ rfl) trivial λs' u I' hu=>?_⟩;rw[Fb]at hu;exists _,H2,I',?_,q;cases hm:mxOf none ns with
 |none=>rw[hm]at hu;exists t0,hu
 |some n=>rw[hm]at hu;exact hu
end
section
def Uy{t sl:Addr}{items:Array Ca}{vl vu:Ca}{Q:Ca->Cc->Prop}(ht:IsTup s.heap t items)(hs:s.heap.IsSliceOf sl vl vu .none)(pl:Jdt vl lo)(pu:Jdt vu hi)(hw:HT.sIx items.size 0 lo=0/\HT.sIx items.size items.size hi=items.size)(h:Q (.ref t) s):Cg (Cj prog w) A (Lo (.ref t) (.ref sl)) Q E s:=by
 let⟨os,hos,hcs,hds⟩:=id hs;let hTs:s.TypeIs (.ref sl) "slice":=⟨os,hos,hcs⟩;unfold Lo
 try with_reducible refine Cw ?_
 first|refine Fj (Fk ?_)|skip
 refine Fj (Jea ht.typeIs nofun ?_);refine Fj (Ja5 (name:=Co "__getitem__") ht.typeIs El
  (Jco El ht.typeIs Jdk ?_ (Jdu _ _)))
 show Cg _ _ (L6 (.ref t) >>= _) _ _ s;refine Fj (tupleItemsOf_ ht ?_);refine Fj (Kt hTs ?_);rw[Fp nofun];refine Fj (HT.sliceApplied_gen hs pl pu ?_);show Cg _ _ (if(((HT.sIx items.size 0 lo:Nat):Int)==0&&(1:Int)==1&&(HT.sIx items.size items.size hi-HT.sIx items.size 0 lo)==items.size)=true then _ else _) _ _ s;let hyes:((((HT.sIx items.size 0 lo:Nat):Int)==0&&(1:Int)==1&&(HT.sIx items.size items.size hi-HT.sIx items.size 0 lo)==items.size)=true):=by
  rw[hw.1,hw.2];simp
 rw[Fp hyes];unfold Jfr;refine Fj ?_
 first
  |exact Fj (Kt ht.typeIs (Fk (by rw[Fp nofun];exact Fj (Mv (Fk ⟨_,rfl,Fk h⟩)))))
  |exact Fj (Kt ht.typeIs (Fk (by simp;exact Fj (Mv (Fk ⟨_,rfl,Fk h⟩)))))
end
section
instance rSlW(K:Cs):V->Option Int->Option Int->Hp->VK->Prop:=λx lo hi H Q=>∃a xs,x=.ref a/\SqT K H a xs /\
 ((cutV xs lo hi=xs->Q (.ref a) H)/\∀p,H p=none->Q (.ref p) (upd H p (.tup (cutV xs lo hi))))
def Zfr:SlR X (rSlW X.K):=by
 intro pq s σ H x v vl vu lo hi sl Q I rx hs pl pu h;let⟨a,xs,rfl,hx,q0,q⟩:=h;cases rx;let⟨its,r,ht,hz⟩:=I.tuple hx;let hlen:its.toArray.size=xs.length:=by rw[Jq];exact r.length.symm
 exists "tuple",_,El.lookup,ht.typeIs,?_
 by_cases hw:HT.sIx xs.length 0 lo=0/\HT.sIx xs.length xs.length hi=xs.length
 .refine Uy ht hs pl pu (by rw[hlen];exact hw) ⟨.ref a,H,I,rfl,q0 ?_⟩;unfold cutV;rw[hw.1,hw.2];simp
 .refine HT.getItem_tuple_cut ht hs pl pu (by rw[hlen];exact hw) ?_ (by rw[hlen];exact hz);rw[hlen];exists .ref s.heap.objs.size,_,I.laid (t':=s.toks) (o:=.tup (cutV xs lo hi)) (λb ob q=>Fl _ q) (Jd _) ?_,rfl,q _ (I.hok.fresh (Jd _));exists Ga (Ry xs lo hi) hz,_,(r.drop (HT.sIx xs.length 0 lo)).take (HT.sIx xs.length xs.length hi-HT.sIx xs.length 0 lo),Up.new _ _
end
instance Met(P:Eu)(w:Hm)(K:Cs)(mg:Str->Option Ca)(base:Heap)(C:Addr)(m:Str)(k:Nat)(ps:List Str)(sp:Sp):Prop :=
 ∃f fd,Cls K C/\Meth K C m f/\FnOk P w K mg base CX0 k f fd ps sp/\W2 K fd ps []
instance Mkr(P:Eu)(w:Hm)(K:Cs)(mg:Str->Option Ca)(base:Heap)(x:Str)(C:Addr)(k:Nat)(ps:List Str)(sp:Sp):Prop :=
 ∃f fd,Mk K C f/\FnOk P w K mg base CX0 k f fd ps sp/\mg x=some (.ref C)/\W2 K fd ps []
section
variable{k:Nat}{x m:Str}{p:Pos}{e o:Expr}{t:TA}
def N9{pl:Sem Bool}(he:PE X o ta)(M:Met X.prog X.w X.K X.mg X.base C m k ps sp)(hr:Room k X.A)(ha:PA X (e::es) t)(hst:Cp (e::es) X.env=(false,eval e X.env)::Cp es X.env:=by rfl)(hpl:(Kg pos (Cp es X.env)).any (·.1)=false:=by rfl)(ht:eval (.Call (.Attribute o m apos) (e::es) [] pos) X.env=(do
   let ov <-eval o X.env
   Jd5 apos.atName
   let(f,first) <-Mc [ov] (Jdq ov m pl)
   callWith pos f first (Kg pos (Cp (e::es) X.env)) (Jda pos (K7 [] X.env))):=by rfl) :
  PE X (.Call (.Attribute o m apos) (e::es) [] pos) (Zfe C m sp [] E0 ta t):=by
 let⟨f,fd,c,hm,F,hb⟩:=M;exact Znf he c hm F hr hb .nil Zjw ha hst hpl ht
def Zrh(M:Mkr X.prog X.w X.K X.mg X.base x C k ps sp)(hr:Room (k+1) X.A)(hg:Gl X x)(ha:PA X (e::es) t)(hdb:(x==("__debug__":Str))=false:=by decide)(he:Cp (e::es) X.env=(false,eval e X.env)::Cp es X.env:=by rfl)(hpl:(Kg pos (Cp es X.env)).any (·.1)=false:=by rfl):PE X (.Call (.Name x p) (e::es) [] pos) (Zd8 C sp [] E0 t):=by
 let⟨f,fd,hm,F,g,hb⟩:=M;exact Znh hm F hr hg g hb .nil Zjw ha hdb he hpl
end
def Fun.okC{base:Heap}{x:Str}{f:Addr}{osl:Array (Option Ca)}{kV:Ca}{k:Nat}(lk:K.lookup f=some ⟨oc,od,.func (L9 x qual (Xv st) (Ys st) (Zl st) .none kV doc pm an cdv ct),osl⟩)(hcd:Ja4 K cdv qual=true)(S:FnScope N ps (Zl st))(len:∀vs H Q E,sp vs H Q E->vs.length=ps.length)(hbody:∀(A:Ht)(outer:List Env)(s:Cc)(H:Hp)(vs:List V)(Q:VK)(E:XK),Room k (A.deeper (E4 qual (Zl st) s.heap.objs.size f cdv))->sp vs H Q E ->
   ∃t,PSs (cxOf CX0 P w K mg base N qual (Zl st) f cdv A outer s H E).nox (Ys st) t/\t {nx:=λ_ H'=>Q .non H',rt:=Q} (Vj N vs) H) :
  FnOk P w K mg base CX0 (k+1) f (L9 x qual (Xv st) (Ys st) (Zl st) .none kV doc pm an cdv ct) ps sp :=
 Zod lk hcd S len λA outer s H vs Q E hr hsp=>by
  let⟨t,h,q⟩:=hbody A outer s H vs Q E hr hsp;exists t,h.nox,q
abbrev Pr:=Int×List Int
variable{S:List L2.Pr}
instance TupK(H H':Hp):Prop:=∀b xs,H b=some (.tup xs)->H' b=some (.tup xs)
def TupK.trans(a:TupK H H1)(b:TupK H1 H2):TupK H H2:=λc xs h=>b c xs (a c xs h)
def Same.tk(s:Same H H'):TupK H H':=λb xs h=>s b _ h
def Grow.tk{p:Addr}(g:Grow p H H')(e:H p=some (.lst xs)):TupK H H':=λb ys h=>g b _ h (Pq h e λz=>by cases z)
instance Zck(H:Hp)(v:V)(w:List Int):Prop:=∃t,v=.ref t/\H t=some (.tup (w.map V.int))
instance Zcl(H:Hp)(v:V)(p:Pr):Prop:=∃t tw,v=.ref t/\H t=some (.tup [.int p.1,.ref tw])/\H tw=some (.tup (p.2.map V.int))
def Zck.tk{w:List Int}(h:Zck H v w)(s:TupK H H'):Zck H' v w:=by
 let⟨t,e,a⟩:=h;exists t,e,s _ _ a
def Zcl.tk{p:Pr}(h:Zcl H v p)(s:TupK H H'):Zcl H' v p:=by
 let⟨t,tw,e,a,b⟩:=h;exists t,tw,e,s _ _ a,s _ _ b
abbrev Xp(H:Hp):List V->List (List Int)->Prop:=Paired (Zck H)
abbrev Prs(H:Hp):List V->List Pr->Prop:=Paired (Zcl H)
def Xp.tk(h:Xp H vs ws)(s:TupK H H'):Xp H' vs ws:=Paired.mapP h λ_ _ z=>z.tk s
def Prs.tk{L:List Pr}(h:Prs H vs L)(s:TupK H H'):Prs H' vs L:=Paired.mapP h λ_ _ z=>z.tk s
def Paired.at{α:Type}{F:α->β->Prop}:∀{l:List α}{m:List β},Paired F l m->∀{i:Nat}(h1:i<l.length)(h2:i<m.length),F l[i] m[i]
 |_,_,.nil,_,h,_=>Fh h (Bb _)
 |_,_,.cons a r,0,_,_=>a
 |_,_,.cons a r,i+1,h1,h2=>Paired.at r (i:=i) (by simpa using h1) (by simpa using h2)
def Paired.snoc{α:Type}{F:α->β->Prop}{x:α}{y:β}(h:F x y):∀{l:List α}{m:List β},Paired F l m->Paired F (l++[x]) (m++[y]):=by
 intro _ _ hz9;cases hz9 with
 |nil=>
  exact .cons h .nil
 |cons a r=>
  exact .cons a (Paired.snoc h r)
def Paired.app{α:Type}{F:α->β->Prop}{l':List α}{m':List β}(h:Paired F l' m'):∀{l:List α}{m:List β},Paired F l m->Paired F (l++l') (m++m'):=by
 intro _ _ hz9;cases hz9 with
 |nil=>
  exact h
 |cons a r=>
  exact .cons a (Paired.app h r)
def Paired.tak{α:Type}{F:α->β->Prop}:∀{l:List α}{m:List β}(n:Nat),Paired F l m->Paired F (l.take n) (m.take n)
 |_,_,0,_=>by rw[Fc,Fc];exact .nil
 |_,_,n+1,.nil=>.nil
 |_,_,n+1,.cons a r=>.cons a (Paired.tak n r)
def Paired.drp{α:Type}{F:α->β->Prop}:∀{l:List α}{m:List β}(n:Nat),Paired F l m->Paired F (l.drop n) (m.drop n)
 |_,_,0,h=>h
 |_,_,n+1,.nil=>.nil
 |_,_,n+1,.cons a r=>Paired.drp n r
instance Zkm(a b:Pr):Prop:=a.1≠b.1/\¬ a.2<+:b.2/\¬ b.2<+:a.2
instance Free(L:List Pr):Prop:=L.Pairwise Zkm
def Free.get{L:List Pr}(h:Free L)(hi:i<L.length)(hj:j<L.length)(hij:i<j):Zkm L[i] L[j]:=Bg.mp h i j hi hj hij
def Zds:∀(a b:List Int),C4 (a.map Hj) (b.map Hj)=decide (a=b)
 |[],[]=>by simp[C4]
 |[],_::_=>by simp[C4]
 |_::_,[]=>by simp[C4]
 |x::a,y::b=>by
  simp only[Jk,C4,Ed,Zds a b]
  by_cases h:x=y
  .subst h;simp
  .simp[h]
def Zoh(a b:List Int):Ed (.list (a.map Hj)) (.list (b.map Hj))=decide (a=b):=by
 simp only[Ed,Zds]
def Zfv(ns:List Int):Shp 1 (.tuple (ns.map Hj)):=X8 λd hd=>by
 let⟨i,_,rfl⟩:=Jn.mp hd;exact Pk i
def Zhx(w:List Int){j:Int}(h0:0<=j)(h1:j<=w.length):cutV (w.map V.int) none (some j)=(w.take j.toNat).map V.int:=by
 rw[Zhv h0 (by rw[Ja];exact h1),Bj]
instance Fits(L:List Pr):Prop:=L.length<64/\∀p∈L,p.2≠[]/\p.2.length<=4
abbrev wk(w:List Int):List Key:=w.map E2
def Zs2(w:List Int):(wk w).map kV=w.map V.int:=by rw[Gh];rfl
instance Qi(kvs:List (List Key×V))(ws:List (List Int)):Prop:=∀u:List Int,(valV kvs (wk u)).isSome=decide (∃w∈ws,u<+:w/\u.length<w.length)
def Zm3{a:Addr}{w:List Int}{j:Int}(e:H a=some (.tup (w.map V.int)))(h0:0<=j)(h1:j<=w.length)(h:∀t H',Same H H'->H' t=some (.tup ((w.take j.toNat).map V.int))->Q (.ref t) H'):rSlW K (.ref a) none (some j) H Q:=by
 exists a,·,SqT.of e,λhw=>h a H (.refl _) ?_,λp hp=>h p _ (Zr hp) ?_
 .rw[Zhx w h0 h1]at hw;rw[hw];exact e
 .rw[Zi,Zhx w h0 h1]
def Zej[DecidableEq κ](kvs:List (κ×V))(k k':κ)(v:V):(valV (putK kvs k v) k').isSome=(decide (k'=k) ||(valV kvs k').isSome):=by
 rw[Ph]
 by_cases h:k'=k
 .rw[Fp h,Fs h];rfl
 .rw[Fo h,Ft h,Jgy]
def Nr:∀{u v:List Int},wk u=wk v->u=v
 |[],[],_=>rfl
 |[],_::_,h=>nomatch h
 |_::_,[],h=>nomatch h
 |x::u,y::v,h=>by
  let h':(E2 x:Key)::wk u=E2 y::wk v:=h;injection h' with a b
  rw[My a,Nr b]
instance T8(kvs:List (List Key×V))(ws:List (List Int))(w:List Int)(n:Nat):Prop :=
 ∀u:List Int,(valV kvs (wk u)).isSome=decide ((∃x∈ws,u<+:x/\u.length<x.length)\/(u<+:w/\u.length<n))
def T8.put{w:List Int}{n:Nat}(h:T8 kvs ws w n)(hn:n<=w.length) :T8 (putK kvs (wk (w.take n)) v) ws w (n+1):=by
 intro u;rw[Zej,h u];let e:(wk u=wk (w.take n))↔(u=w.take n):=⟨Nr,λz=>by rw[z]⟩;rw[decide_eq_decide.mpr e,<-Bool.decide_or];refine decide_eq_decide.mpr ⟨λz=>?_,λz=>?_⟩
 .rcases z with z|z|⟨z1,z2⟩
  .subst z;exact .inr ⟨B4 _ _,by rw[J0];lia⟩
  .exact .inl z
  .exact .inr ⟨z1,()⟩
 .rcases z with z|⟨z1,z2⟩
  .exact .inr (.inl z)
  .by_cases l:u.length<n
   .exact .inr (.inr ⟨z1,l⟩)
   .refine .inl ?_;let:u.length=n:=by lia
    rw[<-this];exact List.prefix_iff_eq_take.mp z1
def T8.next{w:List Int}(h:T8 kvs ws w w.length)(w':List Int):T8 kvs (ws++[w]) w' 0:=by
 intro u;rw[h u];refine decide_eq_decide.mpr ⟨λz=>?_,λz=>?_⟩
 .rcases z with⟨x,hx,z⟩|z
  .exact .inl ⟨x,Gs _ hx,z⟩
  .exact .inl ⟨w,Jl _ (Jj.mpr rfl),z⟩
 .rcases z with⟨x,hx,z⟩|⟨_,z⟩
  .rcases Jt.mp hx with hx|hx
   .exact .inl ⟨x,hx,z⟩
   .rw[Jj.mp hx]at z;exact .inr z
  .exact Fh z (Bb _)
def T8.nil(w:List Int):T8 [] [] w 0:=by
 intro u;rw[Zim];refine(Ft ?_).symm;rintro(⟨x,hx,_⟩|⟨_,z⟩)
 .exact nomatch hx
 .exact Fh z (Bb _)
def T8.done{w:List Int}(h:T8 kvs ws w 0):Qi kvs ws:=by
 intro u;rw[h u];refine decide_eq_decide.mpr ⟨λz=>?_,λz=>.inl z⟩;rcases z with z|⟨_,z⟩
 .exact z
 .exact Fh z (Bb _)
def Zgk{α:Type}{f:α->β}{m n:List β}(h:m.Perm n):∀{l:List α},l.map f=n->∃l':List α,l'.Perm l/\l'.map f=m:=by
 induction h with
 |nil=>intro l e;exists l,.refl _,e
 |cons x _ ih =>
  intro l e;cases l with
  |nil=>cases e
  |cons a l =>
   rw[Jk]at e;injection e with e1 e2
   let⟨l',p,q⟩:=ih e2;exact⟨a::l',p.cons a,by rw[Jk,e1,q]⟩
 |swap x y l0 =>
  intro l e
  match l,e with
  |a::b::r,e =>
   rw[Jk,Jk]at e;injection e with e1 e2
   injection e2 with e2 e3
   exact⟨b::a::r,.swap _ _ _,by rw[Jk,Jk,e1,e2,e3]⟩
 |trans _ _ ih1 ih2 =>
  intro l e;let⟨l2,p2,q2⟩:=ih2 e;let⟨l1,p1,q1⟩:=ih1 q2;exists l1,p1.trans p2,q1
structure PK3 where
 v:V
 tw:Addr
 p:Pr
instance PK3.At(H:Hp)(e:PK3):Prop:=∃t,e.v=.ref t/\H t=some (.tup [.int e.p.1,.ref e.tw])/\H e.tw=some (.tup (e.p.2.map V.int))
def Zk3 :∀{vs:List V}{L:List Pr},Prs H vs L->∃M:List PK3,M.map (·.v)=vs/\M.map (·.p)=L/\∀e∈M,e.At H
 |_,_,.nil=>⟨[],rfl,rfl,λ_ h=>nomatch h⟩
 |_,_,.cons ⟨t,tw,a,b,c⟩ r=>by
  let⟨M,e1,e2,e3⟩:=Zk3 r;exists⟨_,tw,_⟩::M,by rw[Jk,e1],by rw[Jk,e2],λe he=>?_;rcases Jp.mp he with z|z
  .rw[z];exists t,a,b,c
  .exact e3 e z
instance PK3.k(e:PK3):KIt:=(e.v,e.tw,e.p.2)
instance Tz[DecidableEq κ](kvs:List (κ×V))(zs:List (κ×V)):List (κ×V):=zs.foldl (λa z=>putK a z.1 z.2) kvs
def Rs[DecidableEq κ]{k:κ}:∀(zs kvs:List (κ×V)),(∀z∈zs,z.1≠k)->valV (Tz kvs zs) k=valV kvs k
 |[],kvs,_=>rfl
 |z::r,kvs,h=>by
  show valV (Tz (putK kvs z.1 z.2) r) k=_;rw[Rs r _ λy hy=>h y (Jm _ hy),Ph,Fo (λe=>h z Jo e.symm)]
def Zap[DecidableEq κ]{k:κ} :∀(zs kvs:List (κ×V)),(zs.map (·.1)).Nodup->(k,v)∈zs->valV (Tz kvs zs) k=some v
 |[],kvs,_,h=>nomatch h
 |z::r,kvs,nd,h=>by
  show valV (Tz (putK kvs z.1 z.2) r) k=_;rw[Jk,Bf]at nd;rcases Jp.mp h with e|h
  .subst e;rw[Rs r _ λy hy e=>nd.1 (by
    let hm:y.1∈r.map (·.1):=Jn.mpr ⟨y,hy,rfl⟩;rw[e]at hm;exact hm),Ph,Fp rfl]
  .exact Zap r _ nd.2 h
def Zcc{D:Addr}:∀(zs kvs:List (Key×V)),kvs.length+zs.length<Cb->DFill H D (.dK kvs) (zs.map λz=>(kV z.1,z.2)) (.dK (Tz kvs zs))
 |[],kvs,_=>.nil
 |z::r,kvs,h=>by
  rw[Ju]at h;let l:=Xt kvs z.1 z.2;let d:=DPut.k (H:=upd H D (.dK kvs)) (a:=D) (k:=z.1) (v:=z.2) Zi ();rw[Pi]at d;exact .cons d (Zcc r (putK kvs z.1 z.2) ())
def Zhn{D:Addr}(hD:H D=none):∀(zs:List (Addr×List Key×V))(kvs:List (List Key×V)),kvs.length+zs.length<Cb->(∀z∈zs,H z.1=some (.tup (z.2.1.map kV))) ->
  DFill H D (.dT kvs) (zs.map λz=>(.ref z.1,z.2.2)) (.dT (Tz kvs (zs.map λz=>(z.2.1,z.2.2))))
 |[],kvs,_,_=>.nil
 |z::r,kvs,h,ht=>by
  rw[Ju]at h;let l:=Xt kvs z.2.1 z.2.2;let e:=ht z Jo;let d:=DPut.t (H:=upd H D (.dT kvs)) (a:=D) (b:=z.1) (k:=z.2.1) (v:=z.2.2) Zi (by rw[Zk (Zp e hD)];exact e) ();rw[Pi]at d;exact .cons d (Zhn hD r (putK kvs z.2.1 z.2.2) () λy hy=>ht y (Jm _ hy))
instance Zlo(H:Hp)(k1:List (Key×V))(S:List Pr):Prop:=(∀p∈S,∃t,valV k1 (E2 p.1)=some (.ref t)/\H t=some (.tup (p.2.map V.int)))/\∀s:Int,(∀p∈S,p.1≠s)->valV k1 (E2 s)=none
instance Zmi(k2:List (List Key×V))(S:List Pr):Prop:=(∀p∈S,valV k2 (wk p.2)=some (.int p.1))/\∀u:List Int,(∀p∈S,p.2≠u)->valV k2 (wk u)=none
instance Sq(ns:List Int)(S:List Pr):Prop:=ns.Pairwise (· < ·)/\∀n:Int,n∈ns↔∃p∈S,(p.2.length:Int)=n
structure CodeIn(H:Hp)(tp d1 d2 d3 d4:Addr)(S:List Pr):Prop where
 pr:∃vs,H tp=some (.tup vs)/\Prs H vs S
 wb:∃k1,H d1=some (.dK k1)/\Zlo H k1 S
 sb:∃k2,H d2=some (.dT k2)/\Zmi k2 S
 bg:∃k3,H d3=some (.dT k3)/\Qi k3 (S.map (·.2))
 sz:∃ns:List Int,H d4=some (.tup (ns.map V.int))/\Sq ns S
instance To(C:Addr)(H:Hp)(x:Addr)(S:List Pr):Prop:=∃dx tp d1 d2 d3 d4,H x=some (.ins C dx [("pairs",.ref tp),("words_by_sign",.ref d1),("signs_by_word",.ref d2),("begun",.ref d3),("word_sizes",.ref d4)])/\CodeIn H tp d1 d2 d3 d4 S
instance Qb(S:List Pr):Prop:=S.Pairwise λa b=>HT.lexLt a.2 b.2=true
section
instance rLen(K:Cs):List V->Hp->VK->Prop:=λxs H Q=>∃x n,xs=[x]/\LenV K x H n/\Q (.int n) H
def Z7(h:X.K=K):Wv X (.builtin "len") (rLen K):=by subst h;exact X7
def Zlm(h:X.K=K):IxR X (rIxL K):=by subst h;exact Xd
def Zsp(h:X.K=K):IxR X (rIxT K):=by subst h;exact Zlc
def Zox(h:X.K=K):OpR X (Hd .Add) (Zjl K):=by subst h;exact Zbs
end
end L2
variable{S:List L2.Pr}
namespace L2
open PySem PySem.W PyProof.Rows HT
def Zdn:∀{us:List Ca}{ns:List Int},Le us ns->Vals (ns.map V.int) us:=by
 intro _ _ hz9;cases hz9 with
 |nil=>
  exact .nil
 |cons n t h=>
  exact .cons ⟨t,rfl⟩ (Zdn h)
def Zha:∀{us:List Ca}{ns:List Int},us.length=ns.length->(∀(j:Nat)(v:Ca),us[j]?=some v->∃n t,ns[j]?=some n/\v=Er n t)->Le us ns
 |[],[],_,_=>.nil
 |u::us,n::ns,hl,h=>by
  let⟨m,t,e,rfl⟩:=h 0 u rfl;cases e;exact .cons _ t (Zha (by simpa using hl) λj v e=>h (j+1) v e)
section
instance Zk2:List V->Hp->VK->Prop:=λxs H Q=>∃(d:Addr)(kvs:List (Key×V))(ns:List Int),xs=[.ref d]/\H d=some (.dK kvs)/\kvs.map (·.1)=ns.map E2/\kvs.length<64 /\
 ∀(D:Addr)(ns':List Int),H D=none->ns'.Perm ns->ns'.Pairwise (·<=·)->Q (.ref D) (upd H D (.lst (ns'.map V.int)))
def Zep(hc:X.calm=true):Wv X (.builtin "sorted") Zk2:=by
 intro pq s σ H xs us Q I r h;let⟨d,kvs,ns,rfl,ed,ek,hl,q⟩:=h;let⟨u,rfl,rx⟩:=Sr r;cases rx;let⟨hz,lo,vs,rel,dof⟩:=Zok I.hok ed;let⟨ep,da⟩:=dof.dictAt;let hv:=Paired.length rel;refine Calls.call_function_entry kind_sorted plain_sorted entry_sorted (args_sorted1 _) ?_;unfold Builtin.«sorted»;refine Fj (m:=checkCount "sorted" 1 1 _) (Fk ?_);refine Fj (kdu_collect (A:=X.A.in1) (kdl_dict (knd:=Yl X.prog X.w) (kvs:=vs) (ep:=ep) lo) (I.ok.hd hc) da (by rw[Em];lia) λh' tk acc hk hacc=>?_);let hal:acc.toList.length=vs.length:=by rw[Be];exact hacc.1
 let hkl:kvs.length=ns.length:=by have:=congrArg Ho ek;simpa using this
 refine Fj (Jb2 ?_ (by rw[hal,Em];lia));let hI:Le acc.toList ns:=Zha () λj v e=>by
  let⟨k,x,e1,e2⟩:=hacc.2 j v (by rw[<-Jc6];exact e);let hj:j<vs.length:=(Jf.mp e1).1;let hr:=L2.Paired.at rel (by lia:j<kvs.length) hj;let e3:=congrArg (·[j]?) ek;simp only[Jr,Jb (by lia:j<kvs.length),Jb (by lia:j<ns.length),Bx,Jej]at e3;rw[Jb hj]at e1;let e4:=Fu e1;rw[hr.1,e4]at e3;subst e3;rcases Ye (show Pz (E2 ns[j]) v=true from e2)with⟨i,t,e5,rfl⟩|⟨y,t,e5,rfl⟩
  .cases e5;exists _,t,Jb (by lia:j<ns.length),rfl
  .cases e5
 let hoL:(h'.push (Hz "list" acc.toList.toArray 0)).get? h'.objs.size=some (Hz "list" acc.toList.toArray 0):=Fm _ rfl;refine Fj (Cw (Jco (s:={s with heap:=h'.push (Hz "list" acc.toList.toArray 0),toks:=tk}) slot_list_sort ⟨_,hoL,rfl⟩ Jfl (list_sort_tree hoL hI () λout ns' a1 a2 a3=>⟨_,rfl,?_⟩) (args_list_sort _)));let⟨e,he⟩:=sortedHeap_at (vs:=acc.toList) (out:=out) hoL;let I1:Inv X pq σ H {s with heap:=h',toks:=tk}:=I.kept hk;refine Fk ⟨_,rfl,.ref h'.objs.size,_,I1.laid (t':=tk) (λb o eb=>?_) (Jd _) (show Yv X.prog X.w _ _ _ (.lst (ns'.map V.int))from⟨?_,out.toList,e,Zdn a1,he⟩),rfl,q _ ns' (I1.hok.fresh (Jd _)) a2 a3⟩
 .let hb:h'.get? b=some o:=eb;let hlt:=Fn hb;rw[sortedHeap_old (Gg hlt) (by rw[Jgm];exact Jeh hlt)];exact Fl _ hb
 .rw[Ja,a2.length_eq,Em];lia
end
end L2
namespace L2
open PySem PySem.Spec PyProof.Rows
def Zfs{ns':List Int}(nd:ns.Nodup)(h:∀n,n∈ns↔n∈S.map λp=>(p.2.length:Int))(p:ns'.Perm ns)(ri:ns'.Pairwise (·<=·)):Sq ns' S:=by
 exists ?_,λn=>?_
 .let nd':ns'.Nodup:=p.nodup_iff.mpr nd;exact(List.pairwise_and_iff.mpr ⟨ri,nd'⟩).imp λ{a b}z=>by
   let:=z.1;let:=z.2;lia
 .rw[p.mem_iff,h,Jn]
instance Zfp:Sp:=λvs H Q _=>∃(p a:Addr)(m:Int),vs=[.ref p,.int m]/\HandAt H p a/\2<=m/\m<=4 /\
 ∀(l:Addr)(bs:List Int)(H':Hp),H l=none->l≠p->H' l=some (.lst (bs.map V.int))->bs.Nodup->2<=bs.length->(bs.length:Int)<=m->(∀b∈bs,0<=b/\b<256)->HandAt H' p a->Grow p H H'->Q (.ref l) H'
def Zbd{b s:Int}(hs:1<=s){n:Nat}(hn:s*n<=255+s):((Ec n).map λk:Nat=>(b+s*(k:Int)) % 256).Nodup:=by
 refine Gv.mpr ?_;refine Bg.mpr λi j hi hj hij=>?_;simp only[G9]at hi hj;simp only[Jd3];intro e;let h2:s*((j:Int)-(i:Int))=s*(j:Int)-s*(i:Int):=Jfp _ _ _;let h3:0<s*((j:Int)-(i:Int)):=Jhu () ();let h4:s*((j:Int)-(i:Int))<=s*((n:Int)-1):=Lf () ();let h5:s*((n:Int)-1)<=255:=by rw[Jfp,Jhk];lia
 rw[h2]at h3 h4;generalize s*(j:Int)=X at *
 generalize s*(i:Int)=Y at *
 lia
instance PF(ws:List (List Int)):Prop:=ws.Pairwise λa b=>¬ a<+:b/\¬ b<+:a
instance WOk(ws:List (List Int)):Prop:=PF ws/\∀w∈ws,w≠[]/\w.length<=4
def PF.sub{a b:List (List Int)}(h:PF b)(s:a.Sublist b):PF a:=Jhb s h
def WOk.sub{a b:List (List Int)}(h:WOk b)(s:a.Sublist b):WOk a:=⟨h.1.sub s,λw hw=>h.2 w (s.subset hw)⟩
def Ub{w:List Int}{a b:Int}(h:a≠b):¬ (w++[a])<+:(w++[b]):=λe=>by
 let:=Jfs e (by simp);simp at this;exact h this
def Znm{bs:List Int}(nd:bs.Nodup):WOk (bs.map λb=>[b]):=by
 exists Gv.mpr (nd.imp λz=>⟨Ub (w:=[]) z,Ub (w:=[]) z.symm⟩),λw hw=>?_;let⟨b,_,rfl⟩:=Jn.mp hw;exact⟨by simp,by simp⟩
def Zjr{a c:List (List Int)}{w:List Int}{bs:List Int}(nd:bs.Nodup)(h:WOk (a++w::c))(hw:w.length<4):WOk (a++(bs.map λb=>w++[b])++c):=by
 let⟨h1,h2⟩:=h;let hk:∀x,(¬ x<+:w/\¬ w<+:x)->∀b,¬ x<+:w++[b]/\¬ (w++[b])<+:x:=λx hx b=>by
  exists λz=>?_,λz=>hx.2 ((Gx _ _).trans z);rcases List.prefix_concat_iff.mp z with e|e
  .exact hx.2 (e ▸ Gx _ _)
  .exact hx.1 e
 unfold PF at h1;rw[List.pairwise_append]at h1;let⟨pa,pwc,pac⟩:=h1;rw[List.pairwise_cons]at pwc;let⟨pw,pc⟩:=pwc;exists ?_,λx hx=>?_
 .unfold PF;rw[Gc,List.pairwise_append];exists pa,?_,λx hx y hy=>?_
  .rw[List.pairwise_append];exists Gv.mpr (nd.imp λz=>⟨Ub z,Ub z.symm⟩),pc,λx hx y hy=>?_;let⟨b,_,rfl⟩:=Jn.mp hx;let:=hk y ⟨(pw y hy).2,(pw y hy).1⟩ b;exists this.2,this.1
  .rcases Jt.mp hy with hy|hy
   .let⟨b,_,rfl⟩:=Jn.mp hy;exact hk x (pac x hx w Jo) b
   .exact pac x hx y (Jm _ hy)
 .rcases Jt.mp hx with hx|hx
  .rcases Jt.mp hx with hx|hx
   .exact h2 x (Gs _ hx)
   .let⟨b,_,rfl⟩:=Jn.mp hx;exact⟨by simp,by rw[Jc,Gj];lia⟩
  .exact h2 x (Jl _ (Jm _ hx))
def Zez:∀(ss:List Int)(ws:List (List Int)),((ss.zip ws).map (·.1)).Sublist ss
 |[],_=>by simp
 |_::_,[]=>by simp
 |a::r,b::t=>by rw[List.zip_cons_cons,Jk];exact(Zez r t).cons₂ a
def Zey:∀(ss:List Int)(ws:List (List Int)),((ss.zip ws).map (·.2)).Sublist ws
 |[],_=>by simp
 |_::_,[]=>by simp
 |a::r,b::t=>by rw[List.zip_cons_cons,Jk];exact(Zey r t).cons₂ b
def WOk.free(h:WOk ws){ss:List Int}(nd:ss.Nodup):Free (ss.zip ws):=by
 let h1:((ss.zip ws).map (·.1)).Nodup:=nd.sublist (Zez ss ws);let h2:PF ((ss.zip ws).map (·.2)):=h.1.sub (Zey ss ws);exact(Gv.mp h1).and (Gv.mp h2) |>.imp λz=>⟨z.1,z.2.1,z.2.2⟩
instance Qa(H:Hp)(a:Addr)(ws:List (List Int)):Prop:=∃vs,H a=some (.lst vs)/\Xp H vs ws
section
variable{a:Addr}{y:V}
def Zg6(e:H a=some (.lst xs))(hi:i<xs.length):(Itl K a).go i H:=⟨_,_,SqL.of e,Jb hi⟩
def P0(e:H a=some (.lst xs))(hi:xs.length<=i):(Itl K a).stop i H:=⟨_,SqL.of e,hi⟩
def Zb0(e:H a=some (.lst xs))(hi:i<xs.length)(z:(Itl K a).yld i H y H'):H'=H/\y=xs[i]:=by
 exists z.1,?_;let:=z.2 _ (SqL.of e);rw[Jb hi]at this;exact(Fu this).symm
end
def Xe{p a:Addr}(h:HandAt H p a):∃xs,H p=some (.lst xs):=let⟨_,_,_,e,_⟩:=h.ex;⟨_,e⟩
def Xp.take1(h:Xp H vs ws)(hi:i<vs.length):∃(hj:i<ws.length)(t:Addr),vs[i]=.ref t/\H t=some (.tup (ws[i].map V.int)):=by
 let hj:i<ws.length:=by rw[<-Paired.length h];exact hi
 let⟨t,e,z⟩:=L2.Paired.at h hi hj;exists hj,t,e,z
instance Zfm:Sp:=λvs H Q _=>∃(p a:Addr)(m:Int),vs=[.ref p,.int m]/\HandAt H p a/\0<=m/\m<=100 /\
 ∀(l:Addr)(ss:List Int)(H':Hp),H l=none->l≠p->H' l=some (.lst (ss.map V.int))->ss.Nodup->(ss.length:Int)=m->HandAt H' p a->Grow p H H'->Q (.ref l) H'
def Free.rev{L:List Pr}(h:Free L):Free L.reverse:=List.pairwise_reverse.mpr (h.imp λz=>⟨z.1.symm,z.2.2,z.2.1⟩)
def Zfj{b s:Int}(hs:1<=s)(n:Nat):((Ec n).map λk:Nat=>b+s*(k:Int)).Nodup:=by
 refine Gv.mpr (Bg.mpr λi j hi hj hij=>?_);simp only[Jd3];intro e;let h3:0<s*((j:Int)-(i:Int)):=Jhu () ();rw[Jfp]at h3;lia
def Zea{ss:List Int}(h:ss.Nodup)(n:Nat):(ss.drop n++ss.take n).Nodup:=by
 let:(ss.take n++ss.drop n).Nodup:=by rw[List.take_append_drop];exact h
 exact(List.perm_append_comm.nodup_iff).mp this
def Zas :∀{vs:List V}{ws:List (List Int)},Xp H vs ws->DVs K H vs (ws.map λw=>.tuple (w.map Hj))
 |_,_,.nil=>.nil
 |_,_,.cons ⟨t,e,h⟩ r=>by
  subst e;exact .cons (.tup (SqT.of h) (Ng _)) (Zas r)
def Zft(ws:List (List Int)):Shp 2 (.list (ws.map λw=>.tuple (w.map Hj))):=Sk λd hd=>by
 let⟨w,_,rfl⟩:=Jn.mp hd;exact Zfv w
def Zka(ws:List (List Int)):Ed (.list (ws.map λw=>.tuple (w.map Hj))) (.list [])=decide (ws=[]):=by
 cases ws with
 |nil=>simp[Ed,C4]
 |cons n r=>simp[Ed,C4]
def Zss{cs:List Int}(h:cs≠[])(z:Int):∃c,atI (cs.map V.int) (z % ((cs.map V.int).length:Nat))=some (.int c):=by
 let⟨c,_,e⟩:=Zci h z;exists c,e
def To.same{x:Addr}(h:To C H x S)(s:Same H H'):To C H' x S:=by
 let⟨dx,tp,d1,d2,d3,d4,ex,⟨⟨vs,a1,a2⟩,⟨k1,b1,b2⟩,⟨k2,c1,c2⟩,⟨k3,f1,f2⟩,⟨k4,g1,g2⟩⟩⟩:=h;exists dx,tp,d1,d2,d3,d4,s _ _ ex,⟨vs,s _ _ a1,Prs.tk a2 s.tk⟩,⟨k1,s _ _ b1,λp hp=>?_,b2.2⟩,⟨k2,s _ _ c1,c2⟩,⟨k3,s _ _ f1,f2⟩,⟨k4,s _ _ g1,g2⟩;let⟨t,u,v⟩:=b2.1 p hp;exists t,u,s _ _ v
instance Zfn(C:Addr):Sp:=λvs H Q _=>∃(x t:Addr)(S:List Pr)(u:List Int),vs=[.ref x,.ref t]/\To C H x S/\H t=some (.tup (u.map V.int))/\(∀p∈S,p.2=u->Q (.int p.1) H)/\((∀p∈S,p.2≠u)->Q .non H)
def Zob(h:Free S){p q:Pr}(hp:p∈S)(hq:q∈S){l:List Int}(p1:p.2<+:l)(q1:q.2<+:l):p=q:=by
 let⟨i,hi,rfl⟩:=Gf hp;let⟨j,hj,rfl⟩:=Gf hq;let z:=List.prefix_or_prefix_of_prefix p1 q1;rcases Nat.lt_trichotomy i j with l|l|l
 .let a:=h.get hi hj l;rcases z with z|z
  .exact Fh z a.2.1
  .exact Fh z a.2.2
 .subst l;rfl
 .let a:=h.get hj hi l;rcases z with z|z
  .exact Fh z a.2.2
  .exact Fh z a.2.1
def Free.perm{L:List Pr}(h:Free L)(p:S.Perm L):Free S:=(p.pairwise_iff (λ{a b}z=>⟨z.1.symm,z.2.2,z.2.1⟩)).mpr h
def Fits.perm{L:List Pr}(h:Fits L)(p:S.Perm L):Fits S:=⟨by rw[p.length_eq];exact h.1,λx hx=>h.2 x (p.mem_iff.mp hx)⟩
instance Zcy(C:Addr):Sp:=λvs H Q _=>∃(x r:Addr)(S:List Pr)(ns:List Int)(pl:Nat),vs=[.ref x,.ref r,.int pl]/\To C H x S/\Fits S/\H r=some (.lst (ns.map V.int))/\pl<=ns.length /\
 (∀p∈S,p.2<+:ns.drop pl->∀(t:Addr)(H':Hp),Same H H'->H' t=some (.tup (p.2.map V.int))->Q (.ref t) H')/\((∀p∈S,¬ p.2<+:ns.drop pl)->∀H',Same H H'->Q .non H')
instance Us(T:List Pr):List Int:=(T.map λq:Pr=>q.2).flatten
instance Tr(T:List Pr):List Int:=T.map λq:Pr=>q.1
def Zjj(p:Pr)(T:List Pr):Us (p::T)=p.2++Us T:=rfl
def Zm1(A B:List Pr):Us (A++B)=Us A++Us B:=by unfold Us;rw[Jg,List.flatten_append]
def Zbl(h:Fits S):∀{T:List Pr},(∀p∈T,p∈S)->(Us T).length<=4*T.length
 |[],_=>by simp[Us]
 |p::T,m=>by
  let a:=Zbl h (T:=T) λq hq=>m q (Jm _ hq);let b:=(h.2 p (m p Jo)).2;rw[Zjj,Jc,Ju];lia
instance Zku:Sp:=λvs H Q _=>∃(p a sa:Addr)(ss:List Int)(m:Int),vs=[.ref p,.ref sa,.int m]/\HandAt H p a/\H sa=some (.lst (ss.map V.int))/\sa≠p/\0<=m/\m<=200 /\
 ∀(l:Addr)(ts:List Int)(H':Hp),H l=none->l≠p->H' l=some (.lst (ts.map V.int))->(∀t∈ts,t∈ss)->(ts.length:Int)<=m->HandAt H' p a->Grow p H H'->Q (.ref l) H'
def Zon(w:List Int){k m:Nat}(h:k<=w.length):cutV (w.map V.int) (some (k:Int)) (some ((k:Int)+(m:Int)))=((w.drop k).take m).map V.int:=by
 unfold cutV;rw[<-B9,HT.sIx_nat,HT.sIx_nat,Ja,Bn h,Bj,Fe];refine List.take_eq_take_iff.mpr ?_;rw[Gb,Ja];lia
def Zui{c A:Prop}[Decidable c](hc:¬ c)(h:A):if(!decide c)=true then A else B:=by
 rw[Ft hc];exact iteT h
def Zuk{c A:Prop}[Decidable c](hc:c)(h:A):if decide c=true then A else B:=by
 rw[Fs hc];exact iteT h
def Zul{c A:Prop}[Decidable c](hc:¬ c)(h:B):if decide c=true then A else B:=by
 rw[Ft hc];exact iteF h
section
instance Zbn(K:Cs):List V->Hp->VK->Prop:=λxs H Q=>∃p ys,xs=[.ref p]/\(SqL K H p ys\/SqT K H p ys)/\∀l,H l=none->Q (.ref l) (upd H l (.lst ys))
def Vy(h:X.K=K):Wv X (.type "list") (Zbn K):=by subst h;exact Sf
instance Zk1(K:Cs):List V->Hp->VK->Prop:=λxs H Q=>∃p ys,xs=[.ref p]/\((SqL K H p ys/\∀l,H l=none->Q (.ref l) (upd H l (.tup ys)))\/(SqT K H p ys/\Q (.ref p) H))
def R9(h:X.K=K):Wv X (.type "tuple") (Zk1 K):=by subst h;exact Th
instance rIsi(K:Cs):List V->Hp->VK->Prop:=λxs H Q=>∃x T t b,xs=[x,.ty T]/\TyOf K H x t/\Eg K t (.type T)=some b/\Q (.bl b) H
def Zd1(h:X.K=K):Wv X (.builtin "isinstance") (rIsi K):=by subst h;exact Zkf
end
abbrev En:=Nat×Option Int
variable{R:List L2.En}
inductive Went(S:List Pr)(ns:List Int):List En->Nat->Prop where
 |nil:Went S ns [] 0
 |lost {R:List En} {pl:Nat}:Went S ns R pl->pl<ns.length->(∀p∈S,¬ p.2<+:ns.drop pl)->Went S ns (R++[(pl,none)]) (pl+1)
 |word {R:List En} {pl:Nat} {p:Pr}:Went S ns R pl->p∈S->p.2<+:ns.drop pl->p.2≠[]->Went S ns (R++[(pl,some p.1)]) (pl+p.2.length)
def Zgh{w:List Int}(h:w<+:ns.drop pl)(hw:w≠[]):pl<ns.length/\pl+w.length<=ns.length:=by
 let a:=h.length_le;let b:=J9.mpr hw;rw[Gb]at a;lia
def Went.le(h:Went S ns R pl):pl<=ns.length:=by
 cases h with
 |nil=>exact J8 _
 |lost _ h _=>exact h
 |word _ _ h1 h2=>exact(Zgh h1 h2).2
def Went.len(h:Went S ns R pl):R.length<=pl:=by
 induction h with
 |nil=>exact Jd _
 |lost _ _ _ ih=>rw[Jc,Gj];lia
 |word _ _ _ h2 ih =>
  let:=J9.mpr h2;rw[Jc,Gj];lia
def Went.perm{L:List Pr}(h:Went S ns R pl)(p:S.Perm L):Went L ns R pl:=by
 induction h with
 |nil=>exact .nil
 |lost _ h1 h2 ih=>exact .lost ih h1 λq hq=>h2 q (p.mem_iff.mpr hq)
 |word _ h1 h2 h3 ih=>exact .word ih (p.mem_iff.mp h1) h2 h3
def Went.one(fr:Free S){A:List En}{pa:Nat}(h:Went S ns A pa):∀{B:List En}{pb:Nat},Went S ns B pb->A.length=B.length->A=B/\pa=pb:=by
 induction h with
 |nil =>
  intro B pb hb e;cases hb with
  |nil=>exact⟨rfl,rfl⟩
  |lost=>simp at e
  |word=>simp at e
 |lost _ h1 h2 ih =>
  intro B pb hb e;cases hb with
  |nil=>simp at e
  |lost b1 b2 b3 =>
   let⟨rfl,rfl⟩:=ih b1 (by simpa using e);exists rfl,rfl
  |word b1 b2 b3 b4 =>
   let⟨rfl,rfl⟩:=ih b1 (by simpa using e);exact Fh b3 (h2 _ b2)
 |word _ h1 h2 h3 ih =>
  intro B pb hb e;cases hb with
  |nil=>simp at e
  |lost b1 b2 b3 =>
   let⟨rfl,rfl⟩:=ih b1 (by simpa using e);exact Fh h2 (b3 _ h1)
  |word b1 b2 b3 b4 =>
   let⟨rfl,rfl⟩:=ih b1 (by simpa using e);obtain rfl:=Zob fr h1 b2 h2 b3;exists rfl,rfl
instance oV:Option Int->V
 |some z=>.int z
 |none=>.non
def HandAt.put{p a:Addr}(h:HandAt H p a)(n1:l≠p)(n2:l≠a):HandAt (upd H l o) p a:=by
 let⟨d0,i0,cs,x1,x2,x3⟩:=h.ex;exists d0,i0,cs,by rw[Zk n1.symm];exact x1,by rw[Zk n2.symm];exact x2,x3
def Zn3{c:TT}{t u:TS}{D:Ends}(R:Hp->Prop)(hA:∀H',R H'->t D σ H')(h:(∀H',R H'->t D σ H')->tIfS c t u D σ H):tIfS c t u D σ H:=h hA
instance Zkv:Sp:=λvs H Q _=>∃(p a sa wa:Addr)(bs:List Int)(ws:List (List Int))(m:Int),vs=[.ref p,.ref sa,.ref wa,.int m]/\HandAt H p a/\H sa=some (.lst (bs.map V.int))/\sa≠p/\bs≠[]/\Qa H wa ws/\wa≠p/\(∀w∈ws,w≠[]/\w.length<=4)/\ws.length<=1000/\0<=m/\m<=20 /\
 ∀(l:Addr)(ns:List Int)(H':Hp),H l=none->l≠p->H' l=some (.lst (ns.map V.int))->(ns.length:Int)<=4*m->HandAt H' p a->Grow p H H'->Q (.ref l) H'
def Zny{k:Key}{v:Ca}(h:Pz k v=true):RelV (kV k) v:=by
 rcases Ye h with⟨i,t,rfl,rfl⟩|⟨x,t,rfl,rfl⟩
 .exists t,rfl
 .exists t,rfl
def Zdp{d:Addr}{o:Obj}{kvs:List (Key×V)}{es0:Array DictEntry}{ep:Nat}(ok:HOk P w H h)(e:H d=some (.frz o (.dK kvs)))(hep:o.data=.dict es0 ep) :
  kvs.length<=Cb/\(d==E6)=false/\∃vs,KV kvs vs/\h.DictAt (Yl P w) d vs ep:=by
 let⟨e1,z,hd,vs,r,ob,es,ep',e2,c,dd,rest⟩:=(show Yv P w H h d (.frz o (.dK kvs))from ok d _ e);let eo:ob=o:=Fu (e2.symm.trans e1);subst eo;rw[hep]at dd;injection dd with d1 d2
 subst d1 d2;exists z,hd,vs,r,ob,es0,e1,c,hep,rest
def Went.step(h:Went S ns R pl):∀i(hi:i<R.length),∃p',Went S ns (R.take i) p'/\R[i].1=p'/\p'<ns.length /\
  ((R[i].2=none/\(∀p∈S,¬ p.2<+:ns.drop p')/\Went S ns (R.take (i+1)) (p'+1))\/∃p∈S,R[i].2=some p.1/\p.2<+:ns.drop p'/\p.2≠[]/\Went S ns (R.take (i+1)) (p'+p.2.length)):=by
 induction h with
 |nil=>intro i hi;exact Fh hi (Bb _)
 | @lost R pl g h1 h2 ih =>
  intro i hi
  by_cases z:i<R.length
  .let⟨p',a1,a2,a3,a4⟩:=ih i z;exists p',?_;rw[Ba (),Ba (),Mx z];exists a1,a2,a3,a4
  .let e:i=R.length:=by rw[Jc,Gj]at hi;lia
   subst e;exists pl,by rw[B0];exact g,by simp,h1,.inl ⟨by simp,h2,?_⟩;rw[G8 (by simp)];exact .lost g h1 h2
 | @word R pl p g h1 h2 h3 ih =>
  intro i hi
  by_cases z:i<R.length
  .let⟨p',a1,a2,a3,a4⟩:=ih i z;exists p',?_;rw[Ba (),Ba (),Mx z];exists a1,a2,a3,a4
  .let e:i=R.length:=by rw[Jc,Gj]at hi;lia
   subst e;exists pl,by rw[B0];exact g,by simp,(Zgh h2 h3).1,.inr ⟨p,h1,by simp,h2,h3,?_⟩;rw[G8 (by simp)];exact .word g h1 h2 h3
def Zsq(h:X.K=K)(hc:X.calm=true):Wv X (.builtin "any") (λxs H Q=>∃(p:Addr)(bs:List Bool),xs=[.ref p]/\SqL K H p (bs.map V.bl)/\Q (.bl (bs.any id)) H):=by subst h;exact Zkg hc
section
variable{M:Jfc} 
structure Noted(fs:List Addr)(ea T:Addr)(oe:Obj)(fl:Ca)(h h':Heap):Prop where
 keep:∀b o,b∉fs->b≠ea->h.get? b=some o->h'.get? b=some o
 slot:∀b o,b≠ea->h.get? b=some o->∃sl,h'.get? b=some {o with slots:=sl}
 new:h.objs.size<=T
 exc:h'.get? ea=some (oe.mapFields (·.setIfInBounds 1 (.ref T)))
 tb:∃ob ts,h'.get? T=some ob/\ob.data=.fields ts/\ts[3]?=some fl
 ne:T≠ea
def S5{base:Heap}{l:List Env}{vs:Array Ca}(ff:h.FunFrames base l)(eo:h.get? ea=some oe)(od:oe.data=.fields vs):ea∉frs l:=λz=>by
 let⟨_,o,ho,hnf⟩:=ff.mem z;rw[eo]at ho;cases ho;exact hnf vs od
def Sj{base:Heap}{env:Env}{outer:List Env}{vs:Array Ca}{head:Ca}{flag:Bool}{Q:Unit->Cc->Prop}(fr:A.frames=some (env::outer))(ff:s.heap.FunFrames base (env::outer))(ef:env.frame=some L)(eo:s.heap.get? ea=some oe)(od:oe.data=.fields vs)(sz:1<vs.size)(k:∀h' T,Noted (frs (env::outer)) ea T oe (Ew L) s.heap h'->Q ⟨⟩ {s with heap:=h'}) :
  Cg M A (do let a <-frameOf env;let pl <-entryPlaceOf L flag;let b <-Jdn head a .none (Ew L) .none pl;setField (.ref ea) 1 b) Q Ex s:=by
 let nf:ea∉frs (env::outer):=S5 ff eo od;refine Fj (wpAny_frameOf_fun fr ff ef λg1 sl1=>?_);refine Fj (wpAny_entryPlaceOf λpl hpl=>?_);unfold Jdn newFields;refine Fj (Hi ?_ (hpl.sizeOk5 _ _ _ _ _));let e1:g1.get? ea=some oe:=(sl1.2.1 ea nf).trans eo;generalize hO:({cls:=.type "traceback",dict:=none,data:=.fields ([head,.ref L,.none,Ew L,.none]++(if pl.isEmpty then Cm 6 Ca.none else pl)).toArray}:Obj)=tbo;let e2:(g1.push tbo).get? ea=some oe:=Fl _ e1;let lt:ea<g1.objs.size:=Fn e1;let nT:g1.objs.size≠ea:=B1 lt;refine wpAny_setField e2 od sz (k _ g1.objs.size ?_)
 let td:tbo.data=.fields ([head,.ref L,.none,Ew L,.none]++(if pl.isEmpty then Cm 6 Ca.none else pl)).toArray:=by rw[<-hO]
 let gT:(g1.push tbo).get? g1.objs.size=some tbo:=Fm g1 (Ei td);let ed:=Ez od (·.setIfInBounds 1 (Cd g1.objs.size));exists λb o hb hne q=>?_,λb o hne q=>?_,Bq sl1.1.symm,Cy _ e2 (Ei ed),⟨tbo,_,?_,td,?_⟩,nT
 .rw[Ch _ _ (Cv hne)];exact Fl _ ((sl1.2.1 b hb).trans q)
 .let⟨sl,e⟩:=sl1.2.2 b o q;exact⟨sl,by rw[Ch _ _ (Cv hne)];exact Fl _ e⟩
 .rw[Ch _ _ (Cv nT)];exact gT
 .simp
structure Gone(fs:List Addr)(ea:Addr)(T0:Option Addr)(oe:Obj)(vs:Array Ca)(h h':Heap):Prop where
 keep:∀b o,b∉fs->b≠ea->some b≠T0->h.get? b=some o->h'.get? b=some o
 slot:∀b o,b≠ea->some b≠T0->h.get? b=some o->∃sl,h'.get? b=some {o with slots:=sl}
 flow:∃T vs' ob ts,h.objs.size<=T/\h'.get? ea=some {oe with data:=.fields vs'}/\vs'.size=vs.size/\vs'[1]?=some (.ref T)/\h'.get? T=some ob/\ob.data=.fields ts/\ts[3]?=some .none/\T≠ea/\vs'[2]?=vs[2]?
def mapF{vs:Array Ca}(od:oe.data=.fields vs)(f:Array Ca->Array Ca):oe.mapFields f={oe with data:=.fields (f vs)}:=by
 let⟨c,d,dt,sl⟩:=oe;cases od;rfl
def Q7{fs:List Addr}{vs:Array Ca}{h0:Heap}{Q:Unit->Cc->Prop}(od:oe.data=.fields vs)(sz:1<vs.size)(nt:Noted fs ea T oe (Ew L) h0 s.heap)(k:∀h',Gone fs ea none oe vs h0 h'->Q ⟨⟩ {s with heap:=h'}):Cg M A (Kb (.ref ea) none) Q Ex s:=by
 let ex:=nt.exc;rw[mapF od]at ex;let⟨ob,ts,eT,dT,h3⟩:=nt.tb;let s3:3<ts.size:=(Gm.mp h3).1;refine Lh ex rfl (by rw[Gn,Fp sz]) eT dT s3 (k _ ?_);let dd:=Ez dT (·.setIfInBounds 3 Ca.none);let lt0:∀b o,h0.get? b=some o->T≠b:=λb o q z=>Fh (Fn q) (Ff.mpr (by rw[<-z];exact nt.new));refine⟨λb o hb hne _ q=>?_,λb o hne _ q=>?_,T,vs.setIfInBounds 1 (.ref T),_,_,nt.new,?_,?_,?_,Cy _ eT (Ei dd),dd,?_,nt.ne,by simp[Array.getElem?_setIfInBounds]⟩
 .rw[Ch _ _ (lt0 b o q)];exact nt.keep b o hb hne q
 .let⟨sl,e⟩:=nt.slot b o hne q;exact⟨sl,by rw[Ch _ _ (lt0 b o q)];exact e⟩
 .rw[Ch _ _ nt.ne];exact ex
 .simp
 .rw[Gn,Fp sz]
 .rw[Gn,Fp s3]
def Zbu{base:Heap}{env:Env}{outer:List Env}{vs:Array Ca}{Q:Unit->Cc->Prop}(fr:A.frames=some (env::outer))(ff:s.heap.FunFrames base (env::outer))(ef:env.frame=some L)(eo:s.heap.get? ea=some oe)(od:oe.data=.fields vs)(v1:vs[1]?=some .none)(k:∀h',Gone (frs (env::outer)) ea none oe vs s.heap h'->Q ⟨⟩ {s with heap:=h'}) :
  Cg M A (Ey (.ref ea) env) (λ_ s2=>Cg M A (Kb (.ref ea) none) Q Ex s2) Ex s:=by
 let sz:1<vs.size:=(Gm.mp v1).1;unfold Ey;simp only[ef];refine Fj (Ee eo od v1 ?_);rw[Fo nofun];exact Sj fr ff ef eo od sz λh' T nt=>Q7 (s:={s with heap:=h'}) od sz nt λh2 g=>k h2 g
def Qw{base:Heap}{env:Env}{outer:List Env}{T0:Addr}{oT:Obj}{vs ts:Array Ca}{Q:Unit->Cc->Prop}(fr:A.frames=some (env::outer))(ff:s.heap.FunFrames base (env::outer))(ef:env.frame=some L)(eo:s.heap.get? ea=some oe)(od:oe.data=.fields vs)(v1:vs[1]?=some (.ref T0))(eT:s.heap.get? T0=some oT)(dT:oT.data=.fields ts)(t3:ts[3]?=some .none)(ne:T0≠ea)(k:∀h',Gone (frs (env::outer)) ea (some T0) oe vs s.heap h'->Q ⟨⟩ {s with heap:=h'}) :
  Cg M A (Ey (.ref ea) env) (λ_ s2=>Cg M A (Kb (.ref ea) none) Q Ex s2) Ex s:=by
 let sz:1<vs.size:=(Gm.mp v1).1;unfold Ey;simp only[ef];refine Fj (Ee eo od v1 ?_);rw[Fp (show(Cd T0 != Ca.none)=true by simp)];refine Fj (Ee eT dT t3 ?_);rw[Fo (show ¬ ((Ca.none==Ew L)=true)by simp[Ew])];refine Fj (wpAny_setField eT dT (Gm.mp t3).1 ?_);let oth:∀b,b≠T0->(s.heap.update T0 (C9 (·.setIfInBounds 3 Ca.none))).get? b=s.heap.get? b:=λb hb=>Ch _ _ (Cv hb);let nfT:T0∉frs (env::outer):=S5 ff eT dT;let ff2:(s.heap.update T0 (C9 (·.setIfInBounds 3 Ca.none))).FunFrames base (env::outer):=ff.of_keeps λb o hb hnf=>⟨o,(oth b λz=>by
  rw[z,eT]at hb;cases hb;exact hnf ts dT).trans hb,rfl⟩
 refine Sj (s:={s with heap:=s.heap.update T0 (C9 (·.setIfInBounds 3 Ca.none))}) fr ff2 ef ((oth ea (Cv ne)).trans eo) od sz λh' T nt=>Q7 (s:={s with heap:=h'}) od sz nt λh2 g=>k h2 ?_;let szU:(s.heap.update T0 (C9 (·.setIfInBounds 3 Ca.none))).objs.size=s.heap.objs.size:=Heap.size_after_update ..;let⟨T1,vs1,ob1,ts1,z1,zr⟩:=g.flow;exists λb o hb hne hT q=>g.keep b o hb hne (by simp) ((oth b λz=>hT (by rw[z])).trans q),λb o hne hT q=>g.slot b o hne (by simp) ((oth b λz=>hT (by rw[z])).trans q),T1,vs1,ob1,ts1,by rw[<-szU];exact z1,zr
def Tw{env:Env}{e:Ca}{Q:Unit->Cc->Prop}(h:Cg M A (Ey e env) (λ_ s2=>Cg M A (Kb e none) Q Ex s2) Ex s):Cg M A (Jgx env e) Q Ex s:=by
 unfold Jgx;exact Fj h
end
instance excP(ea C:Addr)(d:Option Addr)(h:Heap):Prop:=∃oe vs,h.get? ea=some oe/\oe.cls=.ref C/\oe.dict=d/\oe.data=.fields vs/\vs.size=6
def excP.ok{d:Option Addr}(x:excP ea C d h):Yv P w H h ea (.ext (excP ea C d)):=by
 let⟨oe,vs,e,r⟩:=id x;exists x,⟨oe,e⟩,λh1 h2⟨o1,v1,e1,r1⟩k=>⟨o1,v1,k _ e1,r1⟩
instance Zcp(bctx:Bool)(ea T:Addr)(h:Heap):Prop:=∃oe vs oT ts,h.get? ea=some oe/\oe.data=.fields vs/\vs[1]?=some (.ref T)/\h.get? T=some oT/\oT.data=.fields ts/\ts[3]?=some .none/\T≠ea/\(bctx=true->vs[2]?=some .none)
instance CXE(bctx:Bool)(P:Eu)(w:Hm):CXT:=λouter H s E e s'=>∃(ea C T:Addr)(d:Option Addr)(H':Hp),e=.ref ea/\s'.os=s.os/\Mz s'.gens/\Un (frs outer) [] H H' s.heap s'.heap/\HOk P w H' s'.heap /\
 H' ea=some (.ext (excP ea C d))/\s.heap.objs.size<=ea/\H' T=none/\s.heap.objs.size<=T/\Zcp bctx ea T s'.heap/\E (.ref C) d H'
section
def Inv.gone{d:Option Addr}{vs:Array Ca}(I:Inv X pq σ H s)(hx:X.ex=[])(hst:∀b∈frs X.stack,b∈X.fs\/X.s₀.heap.objs.size<=b)(hea:H ea=some (.ext (excP ea C d)))(eo:s.heap.get? ea=some oe)(od:oe.data=.fields vs)(hT:∀T,T0=some T->H T=none/\X.s₀.heap.objs.size<=T)(g:Gone (frs X.stack) ea T0 oe vs s.heap h'):Un X.fs [] X.H₀ H X.s₀.heap h'/\HOk X.prog X.w H h':=by
 let u:=I.base;rw[hx]at u;let ub:∀b o,X.s₀.heap.get? b=some o->some b≠T0:=λb o q z=>by
  let:=(hT b z.symm).2;exact Fh (Fn q) (Ff.mpr this)
 exists⟨λb o q n hb _=>?_,λb o q n hb _=>?_,λb o q n _=>u.free b o q n (by simp),λb o q _=>?_,u.tups,u.frzs,u.tbls⟩,λb o q=>?_
 .let n2:=u.free b o q n (by simp);let ne:b≠ea:=λz=>by rw[z,hea]at n2;cases n2
  refine g.keep b o (λz=>?_) ne (ub b o q) (u.keep b o q n hb (by simp));rcases hst b z with z|z
  .exact hb z
  .exact Fh (Fn q) (Ff.mpr z)
 .let n2:=u.free b o q n (by simp);let ne:b≠ea:=λz=>by rw[z,hea]at n2;cases n2
  let⟨sl,e⟩:=u.slot b o q n hb (by simp);let⟨sl2,e2⟩:=g.slot b _ ne (ub b o q) e;exists sl2,e2
 .let⟨o',e⟩:=u.there b o q (by simp)
  by_cases ne:b=ea
  .subst ne;let⟨_,_,_,_,_,e3,_⟩:=g.flow;exists _,e3
  .let⟨sl,e2⟩:=g.slot b o' ne (ub b o q) e;exists _,e2
 .let nfr:∀c y,H c=some y->c∉frs X.stack:=λc y r z=>by rw[I.stkFree c z]at r;cases r
  let nT:∀c y,H c=some y->some c≠T0:=λc y r z=>by rw[(hT c z.symm).1]at r;cases r
  by_cases ne:b=ea
  .subst ne;rw[hea]at q;cases q;let⟨⟨o1,v1,a1,a2,a3,a4,a5⟩,_,_⟩:=I.hok b _ hea;let⟨T,vs',ob,ts,_,e3,e4,_⟩:=g.flow;rw[eo]at a1;cases a1;rw[od]at a4;cases a4;exact excP.ok ⟨_,vs',e3,a2,a3,rfl,by rw[e4];exact a5⟩
  .refine(I.hok b o q).stay (λc v hc r=>?_) (λ_ z=>z) λ_ _ z=>z;rcases hc with hc|hc
   .rw[hc]at r⊢;exact g.keep b v (nfr b o q) ne (nT b o q) r
   .let ne2:c≠ea:=λz=>by rw[z,hea]at hc;cases hc
    exact g.keep c v (nfr c _ hc) ne2 (nT c _ hc) r
end
section
variable{base:Heap}{scope:Scope}{f:Addr}{outer:List Env}{E:XK}
abbrev cxE(bctx:Bool)(P:Eu)(w:Hm)(K:Cs)(mg:Str->Option Ca)(base:Heap)(N:List Str)(qual:Str)(scope:Scope)(f:Addr)(cd:Ca)(A:Ht)(outer:List Env)(s:Cc)(H:Hp)(E:XK):Cx:=cxOf (CXE bctx P w) P w K mg base N qual scope f cd A outer s H E
def Zhu:∀b∈frs (cxE bctx P w K mg base N qual scope f cd A outer s H E).stack,b∈(cxE bctx P w K mg base N qual scope f cd A outer s H E).fs\/(cxE bctx P w K mg base N qual scope f cd A outer s H E).s₀.heap.objs.size<=b:=λb hb=>by
 rcases Jp.mp (show b∈s.heap.objs.size::frs outer from hb)with z|z
 .exact .inr (Bq z.symm)
 .exact .inl z
instance Lies(bctx:Bool)(ea:Addr)(T0:Option Addr)(h:Heap):Prop:=match T0 with
 |none=>∃oe vs,h.get? ea=some oe/\oe.data=.fields vs/\vs[1]?=some .none/\(bctx=true->vs[2]?=some .none)
 |some T=>Zcp bctx ea T h
def Zo7{s2:Cc}{d:Option Addr}(I:Inv (cxE bctx P w K mg base N qual scope f cd A outer s H E) pq σ H2 s2)(hea:H2 ea=some (.ext (excP ea C d)))(lea:s.heap.objs.size<=ea)(hT:∀T,T0=some T->H2 T=none/\s.heap.objs.size<=T)(fl:Lies bctx ea T0 s2.heap)(q:E (.ref C) d H2):(cxE bctx P w K mg base N qual scope f cd A outer s H E).xe (.ref ea) s2:=by
 let fin:∀(oe:Obj)(vs:Array Ca)(h':Heap),s2.heap.get? ea=some oe->oe.data=.fields vs->(bctx=true->vs[2]?=some .none)->Gone (frs (cxE bctx P w K mg base N qual scope f cd A outer s H E).stack) ea T0 oe vs s2.heap h'->CXE bctx P w outer H s E (.ref ea) {s2 with heap:=h'}:=λoe vs h' eo od c2 g=>by
  let⟨un,hok⟩:=I.gone rfl Zhu hea eo od hT g;let⟨T,vs',ob,ts,z1,z2,z3,z4,z5,z6,z7,z8,z9⟩:=g.flow;exists ea,C,T,d,H2,rfl,I.os,I.bare,un,hok,hea,lea,I.hok.fresh z1,Ga I.sz z1,⟨_,vs',ob,ts,z2,rfl,z4,z5,z6,z7,z8,λk=>by rw[z9];exact c2 k⟩,q
 show Cg (Cj P w) _ (Jgx _ _) _ _ _;cases T0 with
 |none =>
  let⟨oe,vs,eo,od,v1,c2⟩:=fl;exact Tw (Zbu (base:=base) I.ok.frames I.stack rfl eo od v1 λh' g=>fin oe vs h' eo od c2 g)
 |some T =>
  let⟨oe,vs,oT,ts,eo,od,v1,eT,dT,t3,ne,c2⟩:=fl;exact Tw (Qw (base:=base) I.ok.frames I.stack rfl eo od v1 eT dT t3 ne λh' g=>fin oe vs h' eo od c2 g)
end
instance CalE(bctx:Bool)(P:Eu)(w:Hm)(K:Cs)(mg:Str->Option Ca)(base:Heap)(x:Str)(k:Nat)(ps:List Str)(sp:Sp):Prop :=
 ∃f fd,FnOk P w K mg base (CXE bctx P w) k f fd ps sp/\mg x=some (.ref f)/\Ja2 K (.ref f)=true/\W2 K fd ps []
section
variable{base:Heap}
def Fun.okE{x:Str}{f:Addr}{k:Nat}(F:Fun K x qual st f fd)(S:FnScope N ps (Zl st))(len:∀vs H Q E,sp vs H Q E->vs.length=ps.length)(hbody:∀(cdv:Ca)(A:Ht)(outer:List Env)(s:Cc)(H:Hp)(vs:List V)(Q:VK)(E:XK),Room k (A.deeper (E4 qual (Zl st) s.heap.objs.size f cdv))->sp vs H Q E ->
   ∃t,PSs (cxE bctx P w K mg base N qual (Zl st) f cdv A outer s H E) (Ys st) t/\t {nx:=λ_ H'=>Q .non H',rt:=Q} (Vj N vs) H):FnOk P w K mg base (CXE bctx P w) (k+1) f fd ps sp:=by
 let⟨oc,od,kV,doc,pm,an,cdv,ct,osl,rfl,lk,hcd⟩:=F.ex;exact Zod lk hcd S len λA outer s H vs Q E hr hsp=>hbody cdv A outer s H vs Q E hr hsp
def FnOk.calm{k:Nat}{f:Addr}(F:FnOk P w K mg base (CXE bctx P w) k f fd ps sp)(h:∀vs H Q E,sp' vs H Q E->sp vs H Q E0):FnOk P w K mg base CX0 k f fd ps sp':=by
 exists λvs H Q E q=>F.len vs H Q E0 (h _ _ _ _ q),λA outer s H args us vs Q E hr he hb hv hs=>?_;refine Hk (F.run A outer s H args us vs Q E0 hr he hb hv (h _ _ _ _ hs)) λr s' hq=>?_;cases r with
 |ok fl=>cases fl<;>exact hq
 |error e =>
  let⟨_,_,_,_,_,_,_,_,_,_,_,_,_,_,_,z⟩:=hq;exact z.elim
end
end L2
variable{R:List L2.En}
namespace L2
open PySem PySem.Spec PyProof.Rows PySem.W
abbrev veB:List Ca:=[.type "ValueError",.type "Exception",.type "BaseException",.type "object"]
instance excI(K:Frag)(C fI:Addr):Bool:=match K.lookup C with
 |some ⟨c,_,.cls cd,sl⟩=>c == .type "type" && (cd.mro == .ref C::cd.mro.tail&&(tailIn K veB cd.mro.tail&&(decide (sl=#[sl.getD 0 none,sl.getD 1 none,sl.getD 2 none,sl.getD 3 none,some (.builtin "ValueError.__new__"),sl.getD 5 none])&&(!cd.hasDel&&(nsOkIn K cd.ns&&cd.hasDict)))))
 |_=>false
instance Wu(K:Frag)(C:Addr):Option (Option Ca):=match K.lookup C with
 |some ⟨_,_,.cls cd,_⟩=>nsIn K cd.ns "__init__"
 |_=>none
instance ExcA(h:Heap)(C:Addr)(o:Option (Option Ca)):Prop:=∃bm N nm q bs sn sub ab col dd k0 k1 k2 k3 k5 mN,h.get? C=some (excClassObj nm q C N bs bm true sn sub ab col dd k0 k1 k2 k3 k5 "ValueError.__new__")/\h.Ns N mN/\(∀z,o=some z->mN "__init__"=z)/\OwnTail h veB bm
instance ExcI(h:Heap)(C fI:Addr):Prop:=∃bm N nm q bs sn sub ab col dd k0 k1 k2 k3 k5 mN,h.get? C=some (excClassObj nm q C N bs bm true sn sub ab col dd k0 k1 k2 k3 k5 "ValueError.__new__")/\h.Ns N mN/\mN "__init__"=some (.ref fI)/\OwnTail h veB bm
def Zef{K:Frag}{N:Addr}{n:Str}{v:Ca}(X:K.In h)(G:h.Ns N mg)(e:nsIn K N n=some (some v)):mg n=some v:=by
 let⟨o,es,ep,ho,hd,_,hf⟩:=G;unfold nsIn at e
 split at e
 .skip;rename_i c d es' n' sl q
  let z:=X _ _ q;rw[ho]at z;cases z;cases hd
  split at e
  .rename_i y he
   injection e with e
   rw[<-hf];unfold nsFind findBy;rw[<-L7,he];exact e
  .rename_i he
   split at e<;>cases e
 .cases e
def Zeg{K:Frag}{N:Addr}{n:Str}(X:K.In h)(G:h.Ns N mg)(e:nsIn K N n=some none):mg n=none:=by
 let⟨o,es,ep,ho,hd,_,hf⟩:=G;unfold nsIn at e
 split at e
 .skip;rename_i c d es' n' sl q
  let z:=X _ _ q;rw[ho]at z;cases z;cases hd
  split at e
  .cases e
  .rename_i he
   rw[<-hf];unfold nsFind findBy;rw[<-L7,he];rfl
 .cases e
def Vv{K:Frag}(X:K.In h)(q:excI K C fI=true):ExcA h C (Wu K C):=by
 unfold excI at q
 split at q
 .skip;rename_i c dd cd sl ho
  let hin:Wu K C=nsIn K cd.ns "__init__":=by unfold Wu;rw[ho]
  simp only[B2,beq_iff_eq,decide_eq_true_eq,Jee]at q;let⟨rfl,hm,ht,hs,hdel,hok,hdi⟩:=q;let z:=X _ _ ho;rw[hs]at z;let⟨nm,bs,mro,ns,qn,hd,sn,sub,ab,col,del⟩:=cd;dsimp only at hm ht hdel hok hdi hin;rw[hm]at z;subst hdel hdi;exists mro.tail,ns,nm,qn,bs,sn,sub,ab,col,dd,_,_,_,_,_,_,z,.of_isNs (Jgp X hok),λz hz=>?_,tail_of_in X ht;rw[hin]at hz;cases z with
  |none=>exact Zeg X (.of_isNs (Jgp X hok)) hz
  |some v=>exact Zef X (.of_isNs (Jgp X hok)) hz
 .cases q
def Zhl{K:Frag}(X:K.In h)(q:excI K C fI=true)(hi:Wu K C=some (some (.ref fI))):ExcI h C fI:=by
 let⟨bm,N,nm,q,bs,sn,sub,ab,col,dd,k0,k1,k2,k3,k5,mN,cO,cN,cI,T⟩:=Vv X q;exists bm,N,nm,q,bs,sn,sub,ab,col,dd,k0,k1,k2,k3,k5,mN,cO,cN,cI _ hi,T
section
variable{g:Array GenState}{d:Drawn}{t:Nat}{os:OsState}
def Ze9{oI:Obj}{Q:Jdx->Cc->Prop}(x:ExcI h C fI)(fo:h.get? fI=some oI)(fc:oI.cls=.type "function")(sz:rest.length<=Cb)(k:∀h',Jdg h h' (h.objs.size+1) (.ref C) rest->Cg (Cj prog w) A (call (.ref fI) (.ref (h.objs.size+1)::rest)) (λr s'=>r=.none/\Q (.done (.ret (.ref (h.objs.size+1)))) s') E ⟨h',g,d,t,os⟩) :
  Cg (Cj prog w) A (Builtin.«type.__call__» ⟨.ref C::rest,[]⟩) Q E ⟨h,g,d,t,os⟩:=by
 let⟨bm,N,nm,q,bs,sn,sub,ab,col,dd,k0,k1,k2,k3,k5,mN,cO,cN,cI,T⟩:=x;let F:=PySem.F.excBase_ValueError
 repeat (first|wp_step|with_reducible refine C3 cO ?_|with_reducible refine wpAny_madeBy_exc cO ?_)
 refine codeAny_call_builtin_code (Hb _ F.quiet) (wpAny_check_new_subT F T cO ?_);refine codeAny_exc_new_subT F T cO ?_ sz;show Cg _ _ _ _ _ _;generalize hO1:({cls:=.type "tuple",data:=.seq rest.toArray}:Obj)=o1;generalize hO2:({cls:=.ref C,data:=.fields #[.ref h.objs.size,.none,.none,.none,.bool false,.none]}:Obj)=o2;let kp:∀b o,h.get? b=some o->((h.push o1).push o2).get? b=some o:=λb o e=>Fl _ (Fl _ e);let f1:o1.isFreed=false:=by rw[<-hO1];rfl
 let f2:o2.isFreed=false:=by rw[<-hO2];rfl
 let at2:((h.push o1).push o2).get? (h.objs.size+1)=some o2:=by
  let:=Fm (h.push o1) f2;rwa [Ep]at this
 let c2:o2.cls=.ref C:=by rw[<-hO2]
 let self:(Cd C::bm).contains (.ref C)=true:=by simp
 let cO1:=kp _ _ cO;let cN1:=cN.keeps kp;let T1:=T.keeps kp;unfold Jdd
 repeat (first|(with_reducible refine C3 at2 ?_;rw[c2])|(with_reducible refine Hs cO1 ?_;rw[self])|wp_step)
 show Cg _ _ (Mp (.ref C) _) _ _ _;refine wpAny_typeLookup_tail cO1 cN1 T1 F.mroIs F.init.lookup ?_;rw[cI];refine Cw (Fj ?_);unfold bindSpecial;refine Fj (Kt (T:="function") ⟨_,kp _ _ fo,fc⟩ ?_);rw[Fp nofun];let made:Jdg h ((h.push o1).push o2) (h.objs.size+1) (.ref C) rest:=⟨kp,Lg (G1 _),h.objs.size,by rw[at2,<-hO2],Lg (Jd _),by rw[hO1];exact Fl _ (Fm h f1)⟩;refine Fk (Fj (Fw (k _ made) (λr s' hr=>?_) λ_ _ z=>z));let⟨rfl,hQ⟩:=hr
 wp_walk
 exact hQ
def Zdz{oI:Obj}{Q:Ca->Cc->Prop}(x:ExcI h C fI)(fo:h.get? fI=some oI)(fc:oI.cls=.type "function")(sz:rest.length<=Cb)(k:∀h',Jdg h h' (h.objs.size+1) (.ref C) rest->Cg (Cj prog w) (A.under (.builtin "type.__call__" ⟨.ref C::rest,[]⟩)) (call (.ref fI) (.ref (h.objs.size+1)::rest)) (λr s'=>r=.none/\Q (.ref (h.objs.size+1)) s') E ⟨h',g,d,t,os⟩) :
  Cg (Cj prog w) A (call (.ref C) rest) Q E ⟨h,g,d,t,os⟩:=by
 let⟨bm,N,nm,q,bs,sn,sub,ab,col,dd,k0,k1,k2,k3,k5,mN,cO,cN,cI,T⟩:=id x;let z1:=tc_lookup;let z2:=tc_bind (.ref C);let ty:(⟨h,g,d,t,os⟩:Cc).TypeIs (.ref C) "type":=⟨_,cO,rfl⟩;refine E7 (Lw ?_);show Cg _ _ (callAny (.ref C) _) _ _ _
 repeat (any_goals (first|assumption|wp_step|with_reducible refine C3 cO ?_))
 exists rfl,?_;exact codeAny_call_builtin_at (Hb _ (by decide +kernel)) entry_typeCall (wpAny_check_type_call_sub cO (Ze9 x fo fc sz k))
end
end L2
namespace L2
open PySem PySem.Spec PyProof.Rows PySem.W PySem.Builtin PySem.Builtin.ObjectAttr
def Zga(self:Ca):refuseLoop self "__setattr__" veB=pure ⟨⟩:=by kernel_rfl
def Zbm(self:Ca){bm:List Ca}(T:OwnTail h veB bm):refuseLoop self "__setattr__" bm=pure ⟨⟩:=by
 induction T with
 |base=>exact Zga self
 |own _ _ _ _ ih=>rw[refuseLoop_ref];exact ih
section
variable{K:Frag}{a:Addr}
def Zgs{od:Option Obj}{tk:Tok}{v:Ca}{R:Jdr->Cc->Prop}(X:K.In s.heap)(q:excI K C fI=true)(I:InstAt s.heap a ox C od)(ho:Eo K C (.type "object")=some true)(ht:Cu K (.ref C) name=some none)(k:Cg (Cj prog w) A.in1 (storeInOwnDict (.ref a) (.ref C) (.str name tk) name v false) (λfin s'=>match fin with|.done f=>R (.ok f) s'|.again c'=>c'.quiet=true/\Hn (Cj prog w) A c' R s') (λe s'=>R (.error e) s') s) :
  Hn (Cj prog w) A (.call (.builtin "object.__setattr__") ⟨[.ref a,.str name tk,v],[]⟩) R s:=by
 let SF:=PySem.F.store_object;let sub:Looks (Cj prog w) s.heap (Jdd (.ref a) (.type "object")) true:=I.type.andThen (Jb5 X ho);refine He SF.slot.plain SF.entry (@check_slot (Cj prog w) _ _ s "object.__setattr__" "object" "__setattr__" (.ref a) [.str name tk,v] [] _ SF.kind SF.split sub (SF.args (.ref a) (.str name tk) v) ?_);let⟨bm,N,nm,qn,bs,sn,sub',ab,col,dd,k0,k1,k2,k3,k5,mN,cO,cN,cI,T⟩:=Vv X q;rw[osa_eq,refuse_eq];refine Fj (Fj (I.type.here (Fj ?_)));let⟨hh,g,d,t,os⟩:=s;refine wpAny_mroOf_exc cO ?_;rw[refuseLoop_ref,Zbm _ T];refine Fk (Fj (I.type.here (Fj ((Ma X ht).here (Fj ?_)))))
 show Cg _ _ (pure none) _ _ _;refine Fk ?_;exact k
def Zi4{vs:Array Ca}{v:Ca}{Q:Unit->Cc->Prop}(X:K.In s.heap)(q:excI K C fI=true)(ho:Eo K C (.type "object")=some true)(ht:Cu K (.ref C) name=some none)(hs:Cu K (.ref C) "__setattr__"=some (some (.builtin "object.__setattr__")))(ao:s.heap.get? a=some ox)(cl:ox.cls=.ref C)(dn:ox.dict=none)(od:ox.data=.fields vs)(k:∀h',h'.Ns1 s.heap.objs.size (λy=>if y=name then some v else none)->h'.get? a=some {ox with dict:=some s.heap.objs.size}->(∀b o,b≠a->s.heap.get? b=some o->h'.get? b=some o)->Q ⟨⟩ {s with heap:=h',toks:=s.toks+2}) :
  Cg (Cj prog w) A (Jhl (.ref a) name v) Q E s:=by
 let I:InstAt s.heap a ox C none:=⟨ao,cl,by let⟨c,dd,dt,sl⟩:=ox;cases od;rfl,by rw[dn];trivial⟩;refine Jfe X I hs (Zgs (s:={s with toks:=s.toks+1}) X q I ho ht ?_);let⟨bm,N,nm,qn,bs,sn,sub',ab,col,dd,k0,k1,k2,k3,k5,mN,cO,cN,cI,T⟩:=Vv X q;let⟨c,di,dt,sl⟩:=ox;dsimp only at cl dn od;subst cl dn od;refine Fj (Fk (Fj (Fj (wpAny_loadPart ao (Fj ?_)))));unfold classData;refine Fj (Jd8 cO (Fk ?_));show Cg _ _ (alloc {cls:=.type "dict",data:=.dict #[]} >>= λd=>update a (λo=>{o with dict:=some d}) >>= λ_=>dictMade (.ref C) a d) _ _ _;refine Fj (wpAny_alloc ?_)
 let ao2:(s.heap.push {cls:=.type "dict",data:=.dict #[]}).get? a=some _:=Fl _ ao;refine Fj (wpAny_update ao2 ?_);refine Fk ?_;refine Fj (Fk (Fj ?_));let fz:(s.heap.push {cls:=.type "dict",data:=.dict #[]}).objs.size=s.heap.objs.size+1:=Ep ..;let ne:a≠s.heap.objs.size:=Gg (Fn ao);generalize hU:(s.heap.push {cls:=.type "dict",data:=.dict #[]}).update a (λo=>{o with dict:=some s.heap.objs.size})=hp;let aU:hp.get? a=some {cls:=.ref C,dict:=some s.heap.objs.size,data:=.fields vs,slots:=sl}:=by
  rw[<-hU];exact Cy _ ao2 rfl
 let oU:∀b o,b≠a->(s.heap.push {cls:=.type "dict",data:=.dict #[]}).get? b=some o->hp.get? b=some o:=λb o hb e=>by
  rw[<-hU,Ch _ _ (Cv hb)];exact e
 let dU:hp.get? s.heap.objs.size=some {cls:=.type "dict",data:=.dict #[]}:=oU _ _ (Cv ne) (Fm s.heap rfl);let hn0:hp.Ns1 s.heap.objs.size (λ_=>none):=⟨_,#[],_,dU,rfl,(λe he=>Fh he (by simp)),by first|trivial|exact Ms|(intro x;simp),λ_=>rfl⟩;let w0:Hv (λ_:Str=>(none:Option Ca)) []:=λn hn=>Fh rfl hn;refine Jep (s:={s with heap:=hp,toks:=s.toks+1}) hn0 λh' hn2 hs2=>?_;let⟨oD,esD,epD,hoD,hdD,hcD⟩:=hn2.count (Ml name v w0);refine Fj (Jb6 hoD (by rw[hdD];exact Jb7 (Ga hcD (by show 1<=Cb+1;lia))) ?_)
 exact Fk (k h' hn2 ((hs2.2 _ ne).trans aU) λb o hb e=>(hs2.2 b (λz=>by
  rw[z]at e;exact Fh (Fn e) (G6 _))).trans (oU b o hb (Fl _ e)))
def Zi3{vs:Array Ca}{v:Ca}{ns:List Str}{Q:Unit->Cc->Prop}(X:K.In s.heap)(q:excI K C fI=true)(ho:Eo K C (.type "object")=some true)(ht:Cu K (.ref C) name=some none)(hs:Cu K (.ref C) "__setattr__"=some (some (.builtin "object.__setattr__")))(ao:s.heap.get? a=some ox)(cl:ox.cls=.ref C)(dn:ox.dict=some dx)(od:ox.data=.fields vs)(hn:s.heap.Ns1 dx mA)(ne:dx≠a)(hw:Hv mA ns)(sz:ns.length<=1000)(k:∀h',h'.Ns1 dx (λy=>if y=name then some v else mA y)->Hw dx s.heap h'->Q ⟨⟩ {s with heap:=h',toks:=s.toks+2}) :
  Cg (Cj prog w) A (Jhl (.ref a) name v) Q E s:=by
 let⟨odx,_,_,edx,_⟩:=id hn;let I:InstAt s.heap a ox C (some odx):=⟨ao,cl,by let⟨c,dd,dt,sl⟩:=ox;cases od;rfl,by rw[dn];exact edx⟩;refine Jfe X I hs (Zgs (s:={s with toks:=s.toks+1}) X q I ho ht ?_);let⟨bm,N,nm,qn,bs,sn,sub',ab,col,dd,k0,k1,k2,k3,k5,mN,cO,cN,cI,T⟩:=Vv X q;let⟨c,di,dt,sl⟩:=ox;dsimp only at cl dn od;subst cl dn od;refine Fj (Fk (Fj (Fj (wpAny_loadPart ao (Fj ?_)))));unfold classData;refine Fj (Jd8 cO (Fk ?_));refine Fk (a:=some dx) (Fj (Fk (Fj ?_)));refine Jep (s:={s with toks:=s.toks+1}) hn λh' hn2 hs2=>?_;let⟨oD,esD,epD,hoD,hdD,hcD⟩:=hn2.count (Ml name v hw)
 refine Fj (Jb6 hoD (by rw[hdD];exact Jb7 (Ga hcD (by rw[Ju,Em];lia))) ?_);exact Fk (k h' hn2 hs2)
end
section
variable{K:Frag}{a:Addr}
def Zhg{expr:Bool}{vs:Array Ca}{v:Ca}{Q:Ca->Cc->Prop}(X:K.In s.heap)(hh:hasDictIn K C=true)(hb:Eo K C (.type "BaseException")=some true)(g1:Cu K (.ref C) "__getattribute__"=some (some (.builtin "BaseException.__getattribute__")))(g2:Cu K (.ref C) "__getattr__"=some none)(ht:Cu K (.ref C) name=some none)(ao:s.heap.get? a=some ox)(cl:ox.cls=.ref C)(dn:ox.dict=some dx)(od:ox.data=.fields vs)(hn:s.heap.Ns1 dx mA)(hv:mA name=some v)(hv':handedIn v=true)(k:Q v {s with toks:=s.toks+1}) :
  Cg (Cj prog w) A (Jgv (.ref a) name expr) Q E s:=by
 let⟨odx,eo,hl⟩:=Zaf hn;let I:InstAt s.heap a ox C (some odx):=⟨ao,cl,by let⟨c,dd,dt,sl⟩:=ox;cases od;rfl,by rw[dn];exact eo⟩;let L0:=I.type (M:=Cj prog w);let L1:=Ma (M:=Cj prog w) X g1;let L2:=Ma (M:=Cj prog w) X g2;let L3:=looks_find (M:=Cj prog w) X I (findObj_own hh ht rfl (by rw[hl,hv]));let L4:Looks (Cj prog w) s.heap (Jdd (.ref a) (.type "BaseException")) true:=I.type.andThen (Jb5 X hb);let⟨hp,g,d,t,os⟩:=s;unfold Jgv Jfo;refine Fj (wpAny_mkText (Cw (Fj (L0.at (Fj (L1.at ?_))))));show Cg _ _ (Lx (.ref a) (.str name t) (.ref C) (.builtin "BaseException.__getattribute__") true expr) _ _ _
 unfold Lx hookBefore;rw[Fp (show onTheHeap (Cd C)=true from rfl)];refine Fj (L2.at (Fj (Kx (Cw ?_))));unfold callGetattribute;rw[Fo (show ¬ ((expr&&onTheHeap (Lk "BaseException.__getattribute__"))=true)by cases expr<;>exact Jv)];unfold boundAndCalled;let ga:=PySem.F.attrBase_ValueError.ga;rw[ga.bind];refine Fj (Fk ?_);show Cg _ _ (call (Lk "BaseException.__getattribute__") [.ref a,.str name t]) _ _ _;refine E7 (He ga.plain F.entry_bexc_ga ?_);let hk:builtinKind "BaseException.__getattribute__"=some .slot:=by decide +kernel
 let hsp:splitId "BaseException.__getattribute__"=some ("BaseException","__getattribute__"):=by decide +kernel
 refine @check_slot (Cj prog w) _ _ _ "BaseException.__getattribute__" "BaseException" "__getattribute__" (.ref a) [.str name t] [] _ hk hsp L4 (F.args_bexc_ga (.ref a) (.str name t)) ?_;unfold Builtin.«object.__getattribute__»;refine Fj (Fk (Fj (Fk (Fj (L0.at (Fj (L3.at ?_)))))));refine Fk ?_;show Cg _ _ (handedOut v) _ _ _;rw[handedOut_of hv'];exact Fk k
end
end L2
namespace L2
open PySem PySem.Spec PyProof.Rows PySem.W
structure XCl(K:Frag)(C fI:Addr):Prop where
 ei:excI K C fI=true
 ob:Eo K C (.type "object")=some true
 bx:Eo K C (.type "BaseException")=some true
 sa:Cu K (.ref C) "__setattr__"=some (some (.builtin "object.__setattr__"))
 ga:Cu K (.ref C) "__getattribute__"=some (some (.builtin "BaseException.__getattribute__"))
 gt:Cu K (.ref C) "__getattr__"=some none
 hd:hasDictIn K C=true
 kp:keepIn K (.ref C)=true
 fn:Jhy K (.ref fI)=some (.type "function")
 cc:Cu K (.ref C) "__class__"=some (some (.builtin "object.__class__"))
 cg:specialIn K (.builtin "object.__class__") "__get__"=some (some (.builtin "getset_descriptor.__get__"))
 ct:takesIn K (.builtin "object.__class__")=some true
instance excN(ea C:Addr)(d:Option Addr)(h:Heap):Prop:=∃oe vs,h.get? ea=some oe/\oe.cls=.ref C/\oe.dict=d/\oe.data=.fields vs/\vs.size=6/\vs[1]?=some .none/\vs[2]?=some .none
def excN.ok{d:Option Addr}(x:excN ea C d h):Yv P w H h ea (.ext (excN ea C d)):=by
 let⟨oe,vs,e,r⟩:=id x;exists x,⟨oe,e⟩,λh1 h2⟨o1,v1,e1,r1⟩k=>⟨o1,v1,k _ e1,r1⟩
instance xdP(d:Addr)(fs:List (Str×V))(h:Heap):Prop:=∃mA,h.Ns1 d mA/\(∀f,RelO (fs.lookup f) (mA f))/\Hv mA (fs.map (·.1))
def xdP.ok{d:Addr}{fs:List (Str×V)}(x:xdP d fs h):Yv P w H h d (.ext (xdP d fs)):=by
 let⟨mA,⟨o,es,ep,e,r⟩,q⟩:=id x;exists x,⟨o,e⟩,λh1 h2⟨m1,n1,q1⟩k=>⟨m1,n1.at k,q1⟩
section
def Inv.two{d:Addr}{φ ψ o1:HO}(I:Inv X pq σ H s)(hea:H ea=some φ)(mu:Mut (some φ))(hd:s.heap.objs.size<=d)(k:∀b o,b≠ea->s.heap.get? b=some o->h'.get? b=some o)(te:∃o,h'.get? ea=some o)(n1:∀H2,Yv X.prog X.w H2 h' ea o1)(n2:∀H2,Yv X.prog X.w H2 h' d ψ):Inv X pq σ (upd (upd H ea o1) d ψ) {s with heap:=h',toks:=t'}:=by
 let nd:H d=none:=I.hok.fresh hd;let ed:d≠ea:=λz=>by rw[z,hea]at nd;cases nd
 let ld:∀b o,s.heap.get? b=some o->b≠d:=λb o q z=>by rw[z]at q;exact Fh (Fn q) (Ff.mpr hd)
 let at':∀b u,b≠ea->H b=some u->upd (upd H ea o1) d ψ b=some u:=λb u h1 e=>by rw[Zk (λz=>by rw[z,nd]at e;cases e),Zk h1];exact e
 let own:∀c y,H c=some (.own y)->c≠ea:=λc y e z=>by rw[z,hea]at e;cases e;exact mu
 let tup:∀c y,H c=some (.tup y)->c≠ea:=λc y e z=>by rw[z,hea]at e;cases e;exact mu
 let frz:∀c y u,H c=some (.frz y u)->c≠ea:=λc y u e z=>by rw[z,hea]at e;cases e;exact mu
 let tbl:∀c y,H c=some (.tbl y)->c≠ea:=λc y e z=>by rw[z,hea]at e;cases e;exact mu
 refine I.un ⟨λb o q n _ _=>?_,λb o q n _ _=>?_,λb o q n _=>?_,λb o q _=>?_,λb xs e=>at' _ _ (tup _ _ e) e,λb o u e=>at' _ _ (frz _ _ _ e) e,λb ps e=>⟨#[],by rw[at' _ _ (tbl _ _ e) e];simp⟩⟩ (λb o q=>?_)
 .exact k b o (λz=>by rw[z,hea]at n;cases n) q
 .exists o.slots,k b o (λz=>by rw[z,hea]at n;cases n) q
 .rw[Zk (ld b o q),Zk (λz=>by rw[z,hea]at n;cases n)];exact n
 .by_cases z:b=ea
  .rw[z];exact te
  .exists o,k b o z q
 .by_cases z:b=d
  .subst z;rw[Zi]at q;cases q;exact n2 _
  .rw[Zk z]at q
   by_cases z2:b=ea
   .subst z2;rw[Zi]at q;cases q;exact n1 _
   .rw[Zk z2]at q;refine(I.hok b o q).stay (λc v hc r=>?_) (λc e=>at' _ _ (own _ _ e) e) λc xs e=>at' _ _ (tup _ _ e) e;rcases hc with hc|hc
    .rw[hc]at r⊢;exact k b v z2 r
    .exact k c v (own _ _ hc) r
end
instance Zt7(K:Frag)(ta tv:TE)(f:Str):TS:=λD σ H=>tv σ H λy H1=>ta σ H1 λx H2=>∃ea C fI,x=.ref ea/\XCl K C fI/\Cu K (.ref C) f=some none /\
  ((H2 ea=some (.ext (excN ea C none))/\∀d,H2 d=none->d≠ea->D.nx σ (upd (upd H2 ea (.ext (excN ea C (some d)))) d (.ext (xdP d [(f,y)])))) \/
   ∃d fs,H2 ea=some (.ext (excN ea C (some d)))/\H2 d=some (.ext (xdP d fs))/\fs.length<1000/\D.nx σ (upd H2 d (.ext (xdP d (putF f y fs)))))
instance Zmc(K:Frag)(ta:TE)(f:Str):TE:=λσ H Q=>ta σ H λx H1=>∃ea C fI d fs v,x=.ref ea/\XCl K C fI/\Cu K (.ref C) f=some none/\H1 ea=some (.ext (excP ea C (some d)))/\H1 d=some (.ext (xdP d fs))/\fs.lookup f=some v/\Q v H1
section
variable{o:Expr}{f:Str}{tv:TE}
def Zc9{fs:List (Str×V)}{f:Str}{y:V}{u:Ca}(r:∀g,RelO (fs.lookup g) (mA g))(ry:RelV y u)(g:Str):RelO ((putF f y fs).lookup g) (if g=f then some u else mA g):=by
 rw[Uw]
 by_cases q:g=f
 .rw[Fp q,Fp q];exact ry
 .rw[Fo q,Fo q];exact r g
def Qq{fs:List (Str×V)}{f:Str}{y:V}{u:Ca}(wi:Hv mA (fs.map (·.1))):Hv (λg=>if g=f then some u else mA g) ((putF f y fs).map (·.1)):=λg hg=>by
 by_cases q:g=f
 .rw[q];exact(Vq f y fs).1
 .refine(Vq f y fs).2 g (wi g λz=>hg ?_);show(if g=f then some u else mA g)=none;rw[Fo q];exact z
def Vp(ha:PE X o ta)(hv:PE X value tv)(hs:Ln value (some (.Attribute o f pos')) pos.line X.env=pure false):PS X (.Assign [.Attribute o f pos'] value pos) (Zt7 X.K ta tv f):=by
 intro pq s σ H D I h;refine K6 (thn (hv pq s σ H _ I h) λu s1⟨y,H1,I1,ry,q⟩=>thn (ha pq s1 σ H1 _ I1 q) λov s2 hz=>?_) hs;let⟨x,H2,I2,rx,ea,C,fI,ex,xc,hf,q2⟩:=hz;subst ex;obtain rfl:ov=Cd ea:=rx;rcases q2 with⟨hea,q2⟩|⟨d,fs,hea,hd,hl,q2⟩
 .let⟨⟨oe,vs,e1,e2,e3,e4,e5,e6⟩,_,_⟩:=I2.hok ea _ hea;refine Zi4 I2.kIn xc.ei xc.ob hf xc.sa e1 e2 e3 e4 λh' hn ha' hk=>?_;let nd:=I2.hok.fresh (Jd s2.heap.objs.size);refine⟨σ,_,I2.two (d:=s2.heap.objs.size) (ψ:=.ext (xdP s2.heap.objs.size [(f,y)])) (o1:=.ext (excN ea C (some s2.heap.objs.size))) hea Ek (Jd _) hk ⟨_,ha'⟩ (λ_=>excN.ok ⟨_,vs,ha',e2,rfl,e4,e5,e6⟩) (λ_=>xdP.ok ⟨_,hn,Zc9 (fs:=[]) (λ_=>Ek) ry,Qq (fs:=[]) (y:=y) λg hg=>Fh rfl hg⟩),q2 _ nd λz=>by rw[z,hea]at nd;cases nd⟩
 .let⟨⟨oe,vs,e1,e2,e3,e4,e5,e6⟩,_,_⟩:=I2.hok ea _ hea;let⟨⟨mA,n1,r1,w1⟩,_,_⟩:=I2.hok d _ hd;let ne:d≠ea:=λz=>by
   rw[z]at n1;let⟨o',_,_,a1,a2,_⟩:=n1;rw[e1]at a1;cases a1;rw[e4]at a2;cases a2
  refine Zi3 I2.kIn xc.ei xc.ob hf xc.sa e1 e2 e3 e4 n1 ne w1 (by rw[Ja];lia) λh' hn sb=>?_;let⟨od',_,_,ed',_⟩:=id hn;exists σ,_,I2.write (x:=d) (e:=d) (by rw[hd];exact Ek) (.inl rfl) (λb u hb e=>(sb.2 b hb).trans e) ⟨od',ed'⟩ (xdP.ok ⟨_,hn,Zc9 r1 ry,Qq w1⟩),q2
def Znd(ha:PE X o ta)(hb:E9 o f X.env (eval o X.env)=eval o X.env):PE X (.Attribute o f pos) (Zmc X.K ta f):=by
 intro pq s σ H Q I h;refine Zch hb (thn (ha pq s σ H _ I h) λu s1 hz=>?_);let⟨x,H1,I1,rx,ea,C,fI,d,fs,v,ex,xc,hf,hea,hd,l,q⟩:=hz;subst ex;obtain rfl:u=Cd ea:=rx;let⟨⟨oe,vs,e1,e2,e3,e4,e5⟩,_,_⟩:=I1.hok ea _ hea;let⟨⟨mA,n1,r1,w1⟩,_,_⟩:=I1.hok d _ hd;let⟨u',hu,ru⟩:=RelO.some_of (v:=v) (o:=mA f) (by rw[<-l];exact r1 f);exact Zhg I1.kIn xc.hd xc.bx xc.ga xc.gt hf e1 e2 e3 e4 n1 hu (Rp ru) ⟨v,H1,I1.tok _,ru,q⟩
end
instance Rx(P:Eu)(w:Hm)(K:Frag)(mg:Str->Option Ca)(base:Heap)(x:Str)(C:Addr)(k:Nat)(ps:List Str)(sp:Sp):Prop :=
 ∃fI fd,XCl K C fI/\Wu K C=some (some (.ref fI))/\FnOk P w K mg base CX0 k fI fd ps sp/\mg x=some (.ref C)/\W2 K fd ps []
section
variable{k:Nat} 
def Zm0{R:Addr->Hp->Prop}(xc:XCl X.K C fI)(xi:Wu X.K C=some (some (.ref fI)))(F:FnOk X.prog X.w X.K X.mg X.base CX0 k fI fd ps sp)(hr:Room (k+1) X.A)(hb:W2 X.K fd ps [])(I:Inv X pq σ H s)(r:Vals vs us)(sz:us.length<=Cb)(h:∀ea,H ea=none->sp (.ref ea::vs) (upd H ea (.ext (excN ea C none))) (λv H2=>v=.non/\R ea H2) E0) :
  Cg (Cj X.prog X.w) X.A (call (.ref C) us) (λu s'=>∃ea H2,u=.ref ea/\Inv X pq σ H2 s'/\s.heap.objs.size<=ea/\R ea H2) X.xe s:=by
 let hq:=h (s.heap.objs.size+1) (I.hok.fresh (G1 _));obtain⟨oI,lI,tI⟩:∃o,X.K.lookup fI=some o/\o.cls=.type "function":=by
  let z:Jgq (λx=>x.cls) (X.K.lookup fI)=some (.type "function"):=xc.fn;let⟨o,e,c⟩:=Bu.mp z;exists o,e,c
 let fo:=I.kIn _ _ lI;let⟨hp,g,d,t,os⟩:=s;refine Zdz (Zhl I.kIn xc.ei xi) fo tI sz λh' hm=>?_;let⟨tt,h1,h2,h3⟩:=hm.there;let I2:Inv X pq σ (upd H (hp.objs.size+1) (.ext (excN (hp.objs.size+1) C none))) ⟨h',g,d,t,os⟩:=I.laid (a:=hp.objs.size+1) (h':=h') (t':=t) hm.keeps (G1 _) (excN.ok ⟨_,_,h1,rfl,rfl,rfl,rfl,rfl,rfl⟩);let r2:Vals (V.ref (hp.objs.size+1)::vs) (Cd (hp.objs.size+1)::us):=.cons rfl r;let hl:(Cd (hp.objs.size+1)::us++[]).length=ps.length:=by
  let e:=r2.length;rw[F.len _ _ _ _ hq]at e;rw[Jz];exact e.symm
 let bb:=hb ⟨h',g,d,t,os⟩ (Cd (hp.objs.size+1)::us) I2.kIn hl;rw[Jz]at bb;refine E7 (Hk (F.run _ X.stack _ _ ⟨Cd (hp.objs.size+1)::us,[]⟩ (Cd (hp.objs.size+1)::us) _ _ E0 (hr.make C us []) (I2.env0.make C us []) bb r2 hq) λr s' hq'=>?_);cases r with
 |error e=>exact Cq hq'
 |ok fl =>
  cases fl with
  |ret u =>
   let⟨v,H',I3,rv,hv,q⟩:=I2.after hq';subst hv;obtain rfl:u=Ca.none:=rv;exists rfl,_,H',rfl,I3,G1 _,q
  |next=>exact Cq hq'
  |brk=>exact Cq hq'
  |cont=>exact Cq hq'
end
section
variable{M:Jfc}{env:Env}
def Qv{x:Sem Ca}{Q:Flow->Cc->Prop}{oi:Option (Option Ca)}(hh:A.handled=none)(h:Cg M A x (λv s1=>∃e oe vs,v=.ref e/\ExcA s1.heap C oi/\s1.heap.get? e=some oe/\oe.cls=.ref C/\oe.data=.fields vs/\vs[1]?=some .none/\Ex (.ref e) s1) Ex s) :
  Cg M A (raiseStmt env (some x) none) Q Ex s:=by
 unfold raiseStmt;refine Fj (Fw h (λv s1 h1=>?_) λ_ _ z=>z);let⟨e,oe,vs,rfl,⟨bm,N,nm,q,bs,sn,sub,ab,col,dd,k0,k1,k2,k3,k5,mN,cO,cN,cI,T⟩,he,hc,hd,v1,hE⟩:=h1;let hB:(Cd C::bm).contains (.type "BaseException")=true:=by rw[List.contains_cons,T.hasType PySem.F.excBase_ValueError.hasBase,Bool.or_true]
 let⟨hp,g,d,tk,os⟩:=s1
 repeat (first|(with_reducible refine C3 he ?_;rw[hc])|with_reducible refine Ee he hd v1 ?_|with_reducible refine C3 cO ?_|(with_reducible refine Hs cO ?_;rw[hB])|wp_step)
 exact wpAny_raiseNew_none hh hE
end
instance Zfc(C:Addr)(sp:Sp)(E:XK)(t:TA):TS:=λ_ σ H=>t σ H λvs H1=>vs.length<=10/\∀ea,H1 ea=none->sp (.ref ea::vs) (upd H1 ea (.ext (excN ea C none))) (λv H2=>v=.non/\∃d,H2 ea=some (.ext (excN ea C (some d)))/\E (.ref C) (some d) (upd H2 ea (.ext (excP ea C (some d))))) E0
section
variable{K:Frag}{base:Heap}{scope:Scope}{f:Addr}{outer:List Env}{E:XK}
def U9{k:Nat}{x:Str}{e:Expr}{t:TA}(R:Rx P w K mg base x C k ps sp)(hr:Room (k+1) (cxE bctx P w K mg base N qual scope f cd A outer s H E).A)(hg:Gl (cxE bctx P w K mg base N qual scope f cd A outer s H E) x)(ha:PA (cxE bctx P w K mg base N qual scope f cd A outer s H E) (e::es) t)(hdb:(x==("__debug__":Str))=false:=by decide)(he:Cp (e::es) (cxE bctx P w K mg base N qual scope f cd A outer s H E).env=(false,eval e (cxE bctx P w K mg base N qual scope f cd A outer s H E).env)::Cp es (cxE bctx P w K mg base N qual scope f cd A outer s H E).env:=by rfl)(hpl:(Kg cpos (Cp es (cxE bctx P w K mg base N qual scope f cd A outer s H E).env)).any (·.1)=false:=by rfl) :
  PS (cxE bctx P w K mg base N qual scope f cd A outer s H E) (.Raise (some (.Call (.Name x np) (e::es) [] cpos)) none pos) (Zfc C sp E t):=by
 intro pq s1 σ H1 D I h;let⟨fI,fd,xc,xi,F,hm,hb⟩:=R;rw[arm_exec_Raise];refine Fj (Ej (Qv (C:=C) (oi:=Wu K C) (I.ok.hd rfl) ?_));refine Fj (Fw ?_ (λv s3 h3=>Fj (Ej (Fk h3))) λ_ _ z=>z);refine Eb (Wd I hg hm ?_ hdb);refine Kr (h₀:=base) I.ok.mod.kin xc.kp (thn (ha cpos pq s1 σ H1 _ I h) λus s2⟨vs,H2,I2,r,l10,q⟩=>⟨I2.kIn,?_⟩) he hpl;refine Fw (Zm0 (R:=λea H2=>∃d,H2 ea=some (.ext (excN ea C (some d)))/\E (.ref C) (some d) (upd H2 ea (.ext (excP ea C (some d))))) xc xi F hr hb I2 r (by show us.length<=Cb;rw[<-r.length];exact Ga l10 nofun) q) (λu s3 hu=>?_) λ_ _ z=>z
 let⟨ea,H3,rfl,I3,lea,d,hea,qE⟩:=hu;let⟨⟨oe,ws,e1,e2,e3,e4,e5,e6,e7⟩,_,_⟩:=I3.hok ea _ hea;exists ea,oe,ws,rfl,Vv I3.kIn xc.ei,e1,e2,e4,e6,?_;let I4:Inv (cxE bctx P w K mg base N qual scope f cd A outer s H E) pq σ (upd H3 ea (.ext (excP ea C (some d)))) {s3 with heap:=s3.heap,toks:=s3.toks}:=I3.write (x:=ea) (e:=ea) (by rw[hea];exact Ek) (.inl rfl) (λb u _ z=>z) ⟨_,e1⟩ (excP.ok ⟨oe,ws,e1,e2,e3,e4,e5⟩);exact Zo7 (T0:=none) I4 Zi (Ga I2.sz lea) (λT z=>by cases z) ⟨oe,ws,e1,e4,e6,λ_=>e7⟩ qE
end
section
instance Zsy(bctx:Bool)(X:Cx)(pq:List (Addr×Obj))(σ:St)(Ex:XK)(e:Ca)(s':Cc):Prop:=∃(ea C T:Addr)(d:Option Addr)(H':Hp),e=.ref ea/\Inv X pq σ H' s'/\H' ea=some (.ext (excP ea C d))/\Zcp bctx ea T s'.heap/\FpOk X pq H' T/\Ex (.ref C) d H'
instance Qc(CX:CXT)(X:Cx)(pq:List (Addr×Obj))(σ:St)(E:XK):Prop:=∀(H:Hp)(s:Cc)(e:Ca)(s':Cc),Inv X pq σ H s->CX X.stack H s E e s'->X.xe e s'
def Zub{Ex:XK}:Qc (CXE bctx X.prog X.w) (X.wish (Zsy bctx X pq σ Ex)) pq σ Ex:=by
 intro H s e s' I hx;let⟨ea,C,T,d,H2,rfl,os,bare,un,hok,hea,lea,nT,lT,fl,q⟩:=hx;let I':=I.unwish;let I2:Inv X pq σ H2 s':=I'.call' os un hok bare (ch:=[]) λb z=>Fh z (by simp);exists ea,C,T,d,H2,rfl,I2,hea,fl,I'.fpOk lT nT,q
def Inv.noted{d:Option Addr}{vs:Array Ca}(I:Inv X pq σ H s)(hea:H ea=some (.ext (excP ea C d)))(eo:s.heap.get? ea=some oe)(od:oe.data=.fields vs)(hT:∀T,T0=some T->FpOk X pq H T)(g:Gone (frs X.stack) ea T0 oe vs s.heap h'):Inv X pq σ H {s with heap:=h'}:=by
 let nfr:∀c y,H c=some y->c∉frs X.stack:=λc y r z=>by rw[I.stkFree c z]at r;cases r
 let nT:∀c y,H c=some y->some c≠T0:=λc y r z=>by rw[(hT c z.symm).1]at r;cases r
 let hok:HOk X.prog X.w H h':=λb o q=>by
  by_cases ne:b=ea
  .subst ne;rw[hea]at q;cases q;let⟨⟨o1,v1,a1,a2,a3,a4,a5⟩,_,_⟩:=I.hok b _ hea;let⟨T,vs',ob,ts,_,e3,e4,_⟩:=g.flow;rw[eo]at a1;cases a1;rw[od]at a4;cases a4;exact excP.ok ⟨_,vs',e3,a2,a3,rfl,by rw[e4];exact a5⟩
  .refine(I.hok b o q).stay (λc v hc r=>?_) (λ_ z=>z) λ_ _ z=>z;rcases hc with hc|hc
   .rw[hc]at r⊢;exact g.keep b v (nfr b o q) ne (nT b o q) r
   .let ne2:c≠ea:=λz=>by rw[z,hea]at hc;cases hc
    exact g.keep c v (nfr c _ hc) ne2 (nT c _ hc) r
 let un:Un (frs X.stack) T0.toList H H s.heap h':=by
  let tl:∀b,b∉T0.toList->some b≠T0:=λb hb z=>hb (by rw[<-z];simp);exists λb o q n hb hx=>?_,λb o q n hb hx=>?_,λb o q n _=>n,λb o q hx=>?_,λ_ _ e=>e,λ_ _ _ e=>e,λb ps e=>⟨#[],by rw[e];simp⟩
  .exact g.keep b o hb (λz=>by rw[z,hea]at n;cases n) (tl b hx) q
  .exact g.slot b o (λz=>by rw[z,hea]at n;cases n) (tl b hx) q
  .by_cases ne:b=ea
   .let⟨_,_,_,_,_,e3,_⟩:=g.flow;exact⟨_,by rw[ne];exact e3⟩
   .let⟨sl,e2⟩:=g.slot b o ne (tl b hx) q;exists _,e2
 let:=I.call (g':=s.gens) (d':=s.drawn) (t':=s.toks) un hok I.bare λb hb=>by
  let z:T0=some b:=by
   cases T0 with
   |none=>simp at hb
   |some T=>simp at hb;rw[hb]
  let⟨_,f1,f2,f3,f4,f5⟩:=hT b z;exists f3,f1,f4,f5
 exact this
def Gone.flies{bctx:Bool}{fs:List Addr}{vs:Array Ca}(g:Gone fs ea T0 oe vs h h')(c2:bctx=true->vs[2]?=some .none):∃T,h.objs.size<=T/\Zcp bctx ea T h':=by
 let⟨T,vs',ob,ts,z1,z2,z3,z4,z5,z6,z7,z8,z9⟩:=g.flow;exact⟨T,z1,_,vs',ob,ts,z2,rfl,z4,z5,z6,z7,z8,λk=>by rw[z9];exact c2 k⟩
def Zcu{M:Jfc}{x:Str}{Q:Unit->Cc->Prop}(I:Inv X pq (σ.set i (some v)) H s)(hiσ:i < σ.length)(hi:X.N[i]?=some x)(hN:X.N.Nodup)(hk:X.env.scope.names.lookup x=some .local)(h:∀s',Inv X pq (σ.set i none) H s'->Q ⟨⟩ s'):Cg M A (unbindName X.env x) Q E s:=by
 let⟨m,hn,hl⟩:=id I.loc;let hcls:(X.env.scope.kind == .class ||(X.env.scope.kind == .module&&X.env.locals != X.env.globals))=false:=by rw[I.ok.kind];rfl
 let⟨u0,_,lk⟩:=hl i x v hi (by rw[Jx hiσ]) (.inl hk);let hv:m x=some u0:=by
  rcases lk with⟨_,z⟩|⟨z,_⟩
  .exact z
  .let hk':X.env.kindOf x=some .local:=hk;rw[hk']at z;rcases z with z|z<;>cases z
 refine wpAny_unbindName_local hk hn hv hcls λh' u hn' hs=>h _ ?_;let⟨oL,_,_,hoL,_⟩:=id hn;let ab:∀b o,X.s₀.heap.get? b=some o->b≠X.env.locals:=λb o e=>Gg (Jw (Fn e) I.ok.above);exists I.ok,I.os,I.bare,⟨λb o e n hb hx=>(hs.2 b (ab b o e)).trans (I.base.keep b o e n hb hx),λb o e n hb hx=>?_,I.base.free,λb o e hx=>?_,I.base.tups,I.base.frzs,I.base.tbls⟩,⟨_,hn',λj y v' e1 e2 e3=>?_⟩,λy c e=>?_,I.free,I.freeC,λp hp=>?_,λb ob e=>?_,?_
 .let⟨sl,e1⟩:=I.base.slot b o e n hb hx;exists sl,(hs.2 b (ab b o e)).trans e1
 .let⟨o',e1⟩:=I.base.there b o e hx;exists o',(hs.2 b (ab b o e)).trans e1
 .by_cases hj:j=i
  .subst hj;rw[Jx hiσ]at e2;cases e2
  .rw[Gp (Cv hj)]at e2;let⟨u',r',q⟩:=hl j y v' e1 (by rw[Gp (Cv hj)];exact e2) e3;let yx:y≠x:=λz=>by
    subst z;exact hj ((List.getElem?_inj (Jf.mp e1).1 hN).mp (e1.trans hi.symm))
   exists u',r',?_;rcases q with⟨q1,q2⟩|⟨q1,c,q2,q3⟩
   .exact .inl ⟨q1,by show(if y=x then u else m y)=some u';rw[Fo yx];exact q2⟩
   .refine .inr ⟨q1,c,q2,?_⟩;let⟨o3,e3',d3⟩:=q3;exists o3,(hs.2 c (I.cne y c q2)).trans e3',d3
 .let⟨v3,o3,e3',d3⟩:=I.cell y c e;exists v3,o3,(hs.2 c (I.cne y c e)).trans e3',d3
 .let⟨p1,p2,p3,p4,p5⟩:=I.pin p hp;exists(hs.2 _ p3).trans p1,p2,p3,p4,p5
 .refine(I.hok b ob e).stay (λc w' hc q=>(hs.2 c ?_).trans q) (λ_ q=>q) λ_ _ q=>q;rintro rfl;rcases hc with hc|hc
  .rw[<-hc,I.free]at e;cases e
  .rw[I.free]at hc;cases hc
 .let:=I.len;rw[Gi]at this⊢;exact this
end
abbrev Cx.mrk(X:Cx)(e:Ca):Cx:={X with A:=X.A.mark (some e),calm:=false,xe:=λ_ _=>False}
section
variable{e:Ca}
def Inv.mrk(I:Inv X pq σ H s)(e:Ca):Inv (X.mrk e) pq σ H s :=
 ⟨⟨I.ok.mod,I.ok.kind,I.ok.glob,I.ok.blt,I.ok.above,I.ok.inj,I.ok.has,I.ok.cab,(λz=>by cases z),I.ok.frames,I.ok.stk,I.ok.exf,I.ok.bs,I.ok.bsz,I.ok.noex,I.ok.exfs,I.ok.funs,I.ok.frf⟩,I.os,I.bare,I.base,I.loc,I.cell,I.free,I.freeC,I.pin,I.hok,I.len⟩
def Inv.unmrk(ok:X.Ok)(I:Inv (X.mrk e) pq σ H s):Inv X pq σ H s:=⟨ok,I.os,I.bare,I.base,I.loc,I.cell,I.free,I.freeC,I.pin,I.hok,I.len⟩
def SP.unmrk{D:Ends}{f:Flow}(ok:X.Ok)(h:SP (X.mrk e) pq D f s):SP X pq D f s:=by
 cases f with
 |next=>obtain⟨σ',H',I,q⟩:=h;exists σ',H',I.unmrk ok,q
 |brk=>obtain⟨σ',H',I,q⟩:=h;exists σ',H',I.unmrk ok,q
 |cont=>obtain⟨σ',H',I,q⟩:=h;exists σ',H',I.unmrk ok,q
 |ret u=>obtain⟨v,σ',H',I,r,q⟩:=h;exists v,σ',H',I.unmrk ok,r,q
end
section
variable{M:Jfc}{K:Frag}{D:Addr}
def Zl9{K:Frag}{D:Addr}(X:K.In s.heap)(ht:Jhy K (.ref D)=some (.type "type")):s.TypeIs (.ref D) "type":=by
 let z:Jgq (λx=>x.cls) (K.lookup D)=some (.type "type"):=ht;let⟨o,e,c⟩:=Bu.mp z;exists o,X _ _ e,c
def U0{b:Bool}{Q:Bool->Cc->Prop}(X:K.In s.heap)(ht:Jhy K (.ref D)=some (.type "type"))(hb:Eo K D (.type "BaseException")=some true)(he:s.heap.get? ea=some oe)(hc:oe.cls=.ref C)(hm:Eo K C (.ref D)=some b)(k:Q b s) :
  Cg M A (excMatches (.ref ea) (.ref D)) Q E s:=by
 let hT:=Zl9 X ht;let L1:=Jb5 (M:=M) X hb;let L2:=Jb5 (M:=M) X hm;let n1:=tc_notTuple;let n2:=tc_sub;obtain⟨oD,cd,lD,dD⟩:∃(oD:Obj)(cd:ClassData),K.lookup D=some oD/\oD.data=.cls cd:=by
  let z:=hb;unfold Eo at z;let⟨cd,z,_⟩:=Option.bind_eq_some_iff.mp z;unfold clsIn at z
  split at z
  .rename_i e
   exists _,_,e,rfl
  .cases z
 let dO:=X _ _ lD;let⟨c0,dd0,dt0,sl0⟩:=oD;dsimp only at dD;subst dD;let⟨hp,g,d,t,os⟩:=s;unfold excMatches
 repeat (first|(with_reducible refine C3 he ?_;rw[hc])|with_reducible refine C3 dO ?_|with_reducible refine L1.at ?_|with_reducible refine L2.at ?_|wp_step)
 cases b<;>(wp_walk;exact k)
end
section
variable{env:Env}{R:Jdr->Cc->Prop}
def Zi0{e:Ca}{n:Str}{b0:Stmt}(h:Cg (Cj prog w) A (Kb e none) (λ_ s1=>Cg (Cj prog w) A (bindName env n e) (λ_ s2=>Cg (Cj prog w) A (execs (b0::body) env) (λf s3=>R (.ok f) s3) (λ_ _=>False) s2) (λ_ _=>False) s1) (λ_ _=>False) s) :
  Hn (Cj prog w) A (.handlers e [.ExceptHandler none (some n) (b0::body) pos] env) R s:=by
 refine Lw ?_;show Cg _ A (do return Fin.done (<-(handleWith e env [.ExceptHandler none (some n) (b0::body) pos]).onRaise (λx=>do Ey x env;Jc1 x))) _ _ s;refine Fj (wpAny_noted ?_);unfold handleWith;refine Fj (Ej (Fj (Fw h (λ_ s1 h1=>?_) λ_ _ z=>z.elim)));refine Fj (Fw h1 (λ_ s2 h2=>?_) λ_ _ z=>z.elim);exact Fj (Kx (Fw h2 (λf s3 h3=>Fk (Fk h3)) λ_ _ z=>z.elim))
def Ziz{e:Ca}{b0:Stmt}(h:Cg (Cj prog w) A (Kb e none) (λ_ s2=>Cg (Cj prog w) A (execs (b0::body) env) (λf s3=>R (.ok f) s3) (λ_ _=>False) s2) (λ_ _=>False) s) :
  Hn (Cj prog w) A (.handlers e [.ExceptHandler none none (b0::body) pos] env) R s :=
 codeAny_handlers_suite (Fw h (λ_ _ h1=>Fw h1 (λ_ _ q=>q) λ_ _ z=>z.elim) λ_ _ z=>z.elim)
end
abbrev TH:=Addr->Option Addr->Addr->TS
variable{thr:L2.TH}
instance HS(bctx:Bool)(X:Cx)(hs:List Ll)(th:TH):Prop:=∀(pq:List (Addr×Obj))(s:Cc)(σ:St)(H:Hp)(ea C T:Addr)(d:Option Addr)(D:Ends),Inv X pq σ H s->H ea=some (.ext (excP ea C d))->Zcp bctx ea T s.heap->FpOk X pq H T->th C d ea D σ H ->
 Cg (Cj X.prog X.w) X.A (handleBy (.ref ea) X.env hs) (SP X pq D) X.xe s
instance Zp9:TH:=λ_ _ _ _ _ _=>False
def Zdo :HS bctx X [] Zp9:=λ_ _ _ _ _ _ _ _ _ _ _ _ _ h=>h.elim
instance offD(i:Nat)(D:Ends):Ends:={nx:=λσ H=>D.nx (σ.set i none) H,rt:=D.rt,bk:=λσ H=>D.bk (σ.set i none) H,ct:=λσ H=>D.ct (σ.set i none) H}
instance thAs(K:Frag)(Dc:Addr)(i:Nat)(ts:TS)(thr:TH):TH:=λC d ea D σ H=>∃b,Eo K C (.ref Dc)=some b/\if b=true then ts (offD i D) (σ.set i (some (.ref ea))) H else thr C d ea D σ H
instance thNo(K:Frag)(Dc:Addr)(ts:TS)(thr:TH):TH:=λC d ea D σ H=>∃b,Eo K C (.ref Dc)=some b/\if b=true then ts D σ H else thr C d ea D σ H
structure Cau(K:Frag)(mg:Str->Option Ca)(x:Str)(Dc:Addr):Prop where
 mg:mg x=some (.ref Dc)
 ty:Jhy K (.ref Dc)=some (.type "type")
 bx:Eo K Dc (.type "BaseException")=some true
section
variable{c n:Str}{b0:Stmt}{rest:List Ll}{ts:TS} 
def Se{M:Jfc}{Q:Unit->Cc->Prop}(I:Inv X pq σ H s)(fl:Zcp bctx ea T s.heap)(fp:FpOk X pq H T)(k:∀s',Inv X pq σ H s'->Q ⟨⟩ s'):Cg M A (Kb (.ref ea) none) Q E s:=by
 let⟨oe,vs,oT,ts,e1,d1,v1,e2,d2,t3,ne,c2⟩:=fl;let⟨f0,f1,f2,f3,f4,f5⟩:=fp;refine Lh e1 d1 v1 e2 d2 (Gm.mp t3).1 (k _ ?_);exact I.turned (t':=s.toks) (λb o hb e=>by rw[Ch _ _ (Cv hb)];exact e) f0 f1 f3 f4 f5
def Zqk{D:Ends}{f:Flow}{Q:Flow->Cc->Prop}(hN:X.N.Nodup)(hi:X.N[i]?=some n)(hk:X.env.scope.names.lookup n=some .local)(h:SP X pq (offD i D) f s) :
  Cg (Cj X.prog X.w) X.A (do bindName X.env n .none;E1 X.env n pos) (λ_ s'=>SP X pq D f s') E s:=by
 let go:∀(σ:St)(H:Hp),Inv X pq σ H s->(∀s',Inv X pq (σ.set i none) H s'->SP X pq D f s')->Cg (Cj X.prog X.w) X.A (do bindName X.env n .none;E1 X.env n pos) (λ_ s'=>SP X pq D f s') E s:=λσ H I k=>by
  let hiσ:i < σ.length:=by rw[I.len];exact(Jf.mp hi).1
  refine Fj (wpAny_bindName (Wk (v:=.non) I hN hi (.inl hk) rfl (λs1 I1=>?_) (.inr hk)));unfold E1;exact wpAny_onRaise (Zcu I1 hiσ hi hN hk k)
 cases f with
 |next=>obtain⟨σ',H',I,q⟩:=h;exact go σ' H' I λs' I'=>⟨_,H',I',q⟩
 |brk=>obtain⟨σ',H',I,q⟩:=h;exact go σ' H' I λs' I'=>⟨_,H',I',q⟩
 |cont=>obtain⟨σ',H',I,q⟩:=h;exact go σ' H' I λs' I'=>⟨_,H',I',q⟩
 |ret u=>obtain⟨v,σ',H',I,r,q⟩:=h;exact go σ' H' I λs' I'=>⟨v,_,H',I',r,q⟩
def Zn5(ca:Cau X.K X.mg c Dc)(hg:Gl X c)(hN:X.N.Nodup)(hi:X.N[i]?=some n)(hk:X.env.scope.names.lookup n=some .local)(hs:∀e,PSs (X.mrk e) (b0::body) ts)(hr:HS bctx X rest thr)(hd:(c==("__debug__":Str))=false:=by decide) :
  HS bctx X (.ExceptHandler (some (.Name c np)) (some n) (b0::body) pos::rest) (thAs X.K Dc i ts thr):=by
 intro pq s σ H ea C T d D I hea fl fp h;let⟨b,hb,h⟩:=h;refine Ly (Lb ?_) (by intro q;cases q);let J:=I.mrk (.ref ea);refine Wd (X:=X.mrk (.ref ea)) J hg ca.mg ?_ hd;let⟨⟨oe,vs,e1,e2,e3,e4,e5⟩,_,_⟩:=I.hok ea _ hea;refine U0 I.kIn ca.ty ca.bx e1 e2 hb ?_;cases b with
 |false=>exact hr pq s σ H ea C T d D I hea fl fp h
 |true =>
  refine Zi0 (Se J fl fp λs1 J1=>?_);refine wpAny_bindName (Wk (X:=X.mrk (.ref ea)) (v:=.ref ea) J1 hN hi (.inl hk) rfl (λs2 J2=>?_) (.inr hk));refine Fw (hs (.ref ea) pq s2 _ H _ J2 h) (λf s3 h3=>?_) λ_ _ z=>z;exact Zqk (Q:=λ_ _=>True) hN hi hk (h3.unmrk I.ok)
def Zr5(ca:Cau X.K X.mg c Dc)(hg:Gl X c)(hs:∀e,PSs (X.mrk e) (b0::body) ts)(hr:HS bctx X rest thr)(hd:(c==("__debug__":Str))=false:=by decide) :
  HS bctx X (.ExceptHandler (some (.Name c np)) none (b0::body) pos::rest) (thNo X.K Dc ts thr):=by
 intro pq s σ H ea C T d D I hea fl fp h;let⟨b,hb,h⟩:=h;refine Ly (Lb ?_) (by intro q;cases q);let J:=I.mrk (.ref ea);refine Wd (X:=X.mrk (.ref ea)) J hg ca.mg ?_ hd;let⟨⟨oe,vs,e1,e2,e3,e4,e5⟩,_,_⟩:=I.hok ea _ hea;refine U0 I.kIn ca.ty ca.bx e1 e2 hb ?_;cases b with
 |false=>exact hr pq s σ H ea C T d D I hea fl fp h
 |true =>
  refine Ziz (Se J fl fp λs1 J1=>?_);exact Fw (hs (.ref ea) pq s1 _ H _ J1 h) (λf s3 h3=>h3.unmrk I.ok) λ_ _ z=>z
instance PSF(X:Cx)(pq:List (Addr×Obj))(σ:St)(st:List Stmt)(t:TS):Prop:=∀(s:Cc)(H:Hp)(D:Ends),Inv X pq σ H s->t D σ H->Cg (Cj X.prog X.w) X.A (execs st X.env) (SP X pq D) X.xe s
instance tTry(tb:XK->TS)(th:TH):TS:=λD σ H=>tb (λcls d H'=>∃C,cls=.ref C/\∀ea,H' ea=some (.ext (excP ea C d))->th C d ea D σ H') D σ H
def Zdd{bd:List Stmt}{h0:Ll}{hs:List Ll}{tb:XK->TS}{th:TH}(hst:X.stack=X.env::X.outer)(hf:X.env.frame=some L)(hb:∀(pq:List (Addr×Obj))(σ:St)(xe:Ca->Cc->Prop)(Ex:XK),Qc (CXE bctx X.prog X.w) (X.wish xe) pq σ Ex->PSF (X.wish xe) pq σ bd (tb Ex))(hh:HS bctx X (h0::hs) th) :
  PS X (.Try bd (h0::hs) [] [] pos) (tTry tb th):=by
 intro pq s σ H D I h;refine wpAny_Try_except (Fw (hb pq σ _ _ Zub s H D (I.wish _) h) (λf s1 h1=>?_) λe s1 h1=>?_)
 .let h2:=h1.unwish;cases f with
  |next=>exact Hy h2
  |brk=>exact h2
  |cont=>exact h2
  |ret u=>exact h2
 .let⟨ea,C,T,d,H1,rfl,I1,hea,fl,fp,C',hC,k⟩:=h1;cases hC;let⟨oe,vs,oT,ts,e1,d1,v1,e2,d2,t3,ne,c2⟩:=fl;refine Qw (base:=X.base) (by rw[I1.ok.frames,hst]) (by have:=I1.stack;rw[hst]at this;exact this) hf e1 d1 v1 e2 d2 t3 ne λh' g=>?_;rw[<-hst]at g;let I2:=I1.noted hea e1 d1 (λT' z=>by cases z;exact fp) g;let⟨T',lT,fl'⟩:=g.flies c2;exact hh pq _ σ H1 ea C T' d D I2 hea fl' (I1.fpOk lT (I1.hok.fresh lT)) (k ea hea)
end
end L2
variable{thr:L2.TH}
namespace L2
open PySem PySem.Spec PyProof.Rows PySem.W PySem.Builtin PySem.Builtin.ObjectAttr
section
variable{K:Frag}{a:Addr}
def Zhj{od:Option Obj}{n:Str}{va vg:Ca}(h0:(clsIn K C).isSome=true)(h1:Cu K (.ref C) n=some (some va))(h2:specialIn K va "__get__"=some (some vg))(h3:takesIn K va=some true):findObj K C od n=some (.bind vg va):=by
 cases e:clsIn K C with
 |none=>rw[e]at h0;cases h0
 |some cd =>
  simp only[findObj,e,Option.bind_some,h1,h2,h3]
def Zhk{od:Option Obj}{Q:Option Ca->Cc->Prop}(X:K.In s.heap)(xc:XCl K C fI)(I:InstAt s.heap a ox C od)(k:Q (some (.ref C)) {s with toks:=s.toks+1}) :
  Cg (Cj prog w) A (Jdz (.ref a) "__class__") Q E s:=by
 let L0:=I.type (M:=Cj prog w);let L1:=Ma (M:=Cj prog w) X xc.ga;let L2:=Ma (M:=Cj prog w) X xc.gt;let hf:findObj K C od "__class__"=some (.bind (.builtin "getset_descriptor.__get__") (.builtin "object.__class__")):=Zhj (by let⟨cd,hc,_⟩:=any_some xc.hd;rw[hc];rfl) xc.cc xc.cg xc.ct;let L3:=looks_find (M:=Cj prog w) X I hf;let L4:Looks (Cj prog w) s.heap (Jdd (.ref a) (.type "BaseException")) true:=I.type.andThen (Jb5 X xc.bx);let⟨hp,g,d,t,os⟩:=s;unfold Jdz getAttrBy?;refine Fj (wpAny_mkText (Fj (Kx ?_)));unfold Jfo
 refine Cw (Fj (L0.at (Fj (L1.at ?_))));show Cg _ _ (Lx (.ref a) (.str "__class__" t) (.ref C) (.builtin "BaseException.__getattribute__") false false) _ _ _;unfold Lx hookBefore;rw[Fp (show onTheHeap (Cd C)=true from rfl)];refine Fj (L2.at (Fj (Kx (Cw ?_))));unfold callGetattribute;rw[Fo (by exact Jv)];unfold boundAndCalled;let ga:=PySem.F.attrBase_ValueError.ga;rw[ga.bind];refine Fj (Fk ?_);show Cg _ _ (call (Lk "BaseException.__getattribute__") [.ref a,.str "__class__" t]) _ _ _;refine E7 (He ga.plain F.entry_bexc_ga ?_)
 let hk:builtinKind "BaseException.__getattribute__"=some .slot:=by decide +kernel
 let hsp:splitId "BaseException.__getattribute__"=some ("BaseException","__getattribute__"):=by decide +kernel
 refine @check_slot (Cj prog w) _ _ _ "BaseException.__getattribute__" "BaseException" "__getattribute__" (.ref a) [.str "__class__" t] [] _ hk hsp L4 (F.args_bexc_ga (.ref a) (.str "__class__" t)) ?_;unfold Builtin.«object.__getattribute__»;refine Fj (Fk (Fj (Fk (Fj (L0.at (Fj (L3.at ?_)))))));show Cg _ _ (bindTo (.builtin "getset_descriptor.__get__") (.builtin "object.__class__") (.ref a) (.ref C)) _ _ _;unfold bindTo;refine Fj (Cw (E7 (class_get (ox:=ox) (od:=od) X I xc.ob ?_)));refine Fk ?_;show Cg _ _ (handedOut (.ref C)) _ _ _;rw[handedOut_of rfl];exact Fk (Fk k)
def Py{x:Addr}(xc:XCl K C fI):KitX K (.ref x) (.ref C) (λh=>∃ox od,InstAt h x ox C od) where
 ty:=λ_ _ _⟨_,_,I⟩=>I.type
 it:=λ_ _ X _=>by
  let⟨cdD,hcD,_⟩:=any_some xc.hd;unfold clsIn at hcD
  split at hcD
  .rename_i ho
   intro A' Q' E' s' k q;unfold isType loadHead;exact Fj (wpAny_loadPart (k _ _ (X _ _ ho)) (Fk q))
  .cases hcD
 ne:=λh tp dd its n sl X htp=>by
  let⟨cdD,hcD,_⟩:=any_some xc.hd;refine Bool.eq_false_iff.mpr λq=>?_;obtain rfl:C=tp:=Cd.inj (beq_iff_eq.mp q);unfold clsIn at hcD
  split at hcD
  .rename_i ho
   let z:=(X _ _ ho).symm.trans htp;cases z
  .cases hcD
 ca:=λX⟨_,_,I⟩k=>Zhk X xc I k
end
section
instance XD(H:Hp):Option Addr->List (Str×V)->Prop
 |some d,fs=>H d=some (.ext (xdP d fs))
 |none,fs=>fs=[]
def XD.mono(s:Same H H'):∀{o:Option Addr}{fs:List (Str×V)},XD H o fs->XD H' o fs
 |some _,_,h=>s _ _ h
 |none,_,h=>h
instance ExcV(H:Hp)(x:V)(C:Addr)(fs:List (Str×V)):Prop:=∃ea d,x=.ref ea/\H ea=some (.ext (excP ea C d))/\XD H d fs
def Zn2{d:Option Addr}{fs:List (Str×V)}(I:Inv X pq σ H s)(hea:H ea=some (.ext (excP ea C d)))(hd:XD H d fs):∃ox od,InstAt s.heap ea ox C od:=by
 let⟨⟨oe,vs,e1,e2,e3,e4,e5⟩,_,_⟩:=I.hok ea _ hea;cases d with
 |some d =>
  let⟨⟨mA,⟨o,es,ep,e,r⟩,_⟩,_,_⟩:=I.hok d _ hd;exact⟨oe,some o,e1,e2,by let⟨c,dd,dt,sl⟩:=oe;cases e4;rfl,by rw[e3];exact e⟩
 |none=>exact⟨oe,none,e1,e2,by let⟨c,dd,dt,sl⟩:=oe;cases e4;rfl,by rw[e3];trivial⟩
instance Zrb(K:Frag):List V->Hp->VK->Prop:=λxs H Q=>∃x C fI fs c b,xs=[x,c]/\XCl K C fI/\ExcV H x C fs/\((∃T,c=.ty T/\kitOne K (.ref C) (.type T)=some b)\/(∃D,c=.ref D/\kitOne K (.ref C) (.ref D)=some b)\/∃(tp:Addr)(cs:List Addr),c=.ref tp/\H tp=some (.tup (cs.map V.ref))/\kitAny K (.ref C) (cs.map Cd)=some b)/\Q (.bl b) H
def Nt:∀{cs:List Addr}{us:List Ca},Vals (cs.map V.ref) us->us=cs.map Cd
 |[],_,.nil=>rfl
 |_::_,_,.cons h r=>by rw[show _=Cd _ from h,Nt r];rfl
def Ti{K:Frag}(hK:X.K=K):Wv X (.builtin "isinstance") (Zrb K):=by
 subst hK;intro pq s σ H xs us Q I r h;let⟨x,C,fI,fs,c,b,rfl,xc,⟨ea,d,rfl,hea,hd⟩,hc,q⟩:=h;let⟨u,w',rfl,ru,rw'⟩:=Zil r;obtain rfl:u=Cd ea:=ru;let J:=Zn2 I hea hd;rcases hc with⟨T,rfl,e⟩|⟨D,rfl,e⟩|⟨tp,cs,rfl,ht,e⟩
 .cases rw';exact kia_one (Py xc) I.kIn J e (λz=>nomatch z) λtk=>⟨.bl b,H,I.tok tk,rfl,q⟩
 .cases rw';exact kia_one (Py xc) I.kIn J e (λz=>nomatch z) λtk=>⟨.bl b,H,I.tok tk,rfl,q⟩
 .cases rw';let⟨_,its,rv,o,h1,h2,n,h3,h4⟩:=I.hok tp _ ht;let hi:=Nt rv;subst hi;let⟨oc,od,oda,osl⟩:=o;dsimp only at h2 h3 h4;subst h2 h3 h4;exact kia_tup (Py xc) I.kIn J h1 e (λz=>nomatch z) λtk=>⟨.bl b,H,I.tok tk,rfl,q⟩
end
section
variable{e:Expr}{t:TA}{ts us:TS} 
instance PEF(X:Cx)(pq:List (Addr×Obj))(σ:St)(e:Expr)(t:TE):Prop:=∀(s:Cc)(H:Hp)(Q:VK),Inv X pq σ H s->t σ H Q->Cg (Cj X.prog X.w) X.A (eval e X.env) (EP X pq σ Q) X.xe s
def Zf6{k:Nat}{f:Addr}{E:XK}{us:List Ca}(F:FnOk X.prog X.w X.K X.mg X.base CX k f fd ps sp)(hr:Room k X.A)(hb:W2 X.K fd ps [])(hx:Qc CX X pq σ E)(I:Inv X pq σ H s)(r:Vals vs us)(h:sp vs H Q E):Cg (Cj X.prog X.w) X.A (call (.ref f) us) (EP X pq σ Q) X.xe s:=by
 let hl:(us++[]).length=ps.length:=by rw[Jz,<-r.length];exact F.len _ _ _ _ h
 let bb:=hb s us I.kIn hl;rw[Jz]at bb;refine E7 (Hk (F.run X.A X.stack s H ⟨us,[]⟩ us vs Q E hr I.env0 bb r h) λr s' hq=>?_);cases r with
 |error e=>exact hx H s e s' I hq
 |ok fl =>
  cases fl with
  |ret u=>exact I.after hq
  |next=>exact Cq hq
  |brk=>exact Cq hq
  |cont=>exact Cq hq
def Znc{k:Nat}{x:Str}{p:Pos}{E:XK}(C:CalE bctx X.prog X.w X.K X.mg X.base x k ps sp)(hr:Room k X.A)(hg:Gl X x)(hx:Qc (CXE bctx X.prog X.w) X pq σ E)(ha:PA X (e::es) t)(hdb:(x==("__debug__":Str))=false:=by decide)(he:Cp (e::es) X.env=(false,eval e X.env)::Cp es X.env:=by rfl)(hpl:(Kg pos (Cp es X.env)).any (·.1)=false:=by rfl):PEF X pq σ (.Call (.Name x p) (e::es) [] pos) (Zfh sp [] E t):=by
 intro s H Q I h;let⟨f,fd,F,hm,hk,hb⟩:=C;refine Eb (Wd I hg hm ?_ hdb);refine Kr (h₀:=X.base) I.ok.mod.kin hk (thn (ha pos pq s σ H _ I h) λus s1⟨vs,H1,I1,r,q⟩=>⟨I1.kIn,?_⟩) he hpl;exact Zf6 F hr hb hx I1 r (by have q':sp (vs++[]) H1 Q E:=q;rw[Jz]at q';exact q')
instance PSF1(X:Cx)(pq:List (Addr×Obj))(σ:St)(st:Stmt)(t:TS):Prop:=∀(s:Cc)(H:Hp)(D:Ends),Inv X pq σ H s->t D σ H->Cg (Cj X.prog X.w) X.A (exec st X.env) (SP X pq D) X.xe s
def Pn(h:PSF1 X pq σ st ts):PSF X pq σ [st] ts:=by
 intro s H D I q;refine Ld (Fw (h s H D I q) (λf s1 h1=>?_) λ_ _ z=>z);cases f with
 |next=>exact Hy h1
 |brk=>exact h1
 |cont=>exact h1
 |ret u=>exact h1
def Zgf{x:Str}(hN:X.N.Nodup)(hi:X.N[i]?=some x)(hx:Loc X.env.scope x)(he:PEF X pq σ e te)(hs:Ln e (some (.Name x pos')) pos.line X.env=pure false:=by rfl)(hf:X.fn x=true\/X.env.scope.names.lookup x=some .local:=by first|left;rfl|right;rfl|assumption) :
  PSF1 X pq σ (.Assign [.Name x pos'] e pos) (tAsg te (Zak i)):=by
 intro s H D I h;refine Jd7 (thn (he s H _ I h) λv s1 hz=>?_) hs;let⟨y,H1,I1,r1,q1⟩:=hz;exact Wk I1 hN hi hx r1 (λs2 I2=>⟨_,H1,I2,q1⟩) hf
def Zdb(he:PEF X pq σ e te)(hs:Ln e none pos.line X.env=pure false:=by rfl):PSF1 X pq σ (.Expr e pos) (Zme te):=by
 intro s H D I h;exact wpAny_Expr_any (thn (he s H _ I h) λv s1⟨x,H1,I1,r1,q1⟩=>⟨σ,H1,I1,q1⟩) I.quiet hs
end
end L2
namespace L2
open PySem PySem.Spec PyProof.Rows PySem.W
instance spX1(C:Addr)(f:Str):Sp:=λvs H Q _=>∃(ea:Addr)(y:V),vs=[.ref ea,y]/\H ea=some (.ext (excN ea C none))/\∀d,H d=none->d≠ea->Q .non (upd (upd H ea (.ext (excN ea C (some d)))) d (.ext (xdP d [(f,y)])))
instance spX2(C:Addr)(f g:Str):Sp:=λvs H Q _=>∃(ea:Addr)(y z:V),vs=[.ref ea,y,z]/\H ea=some (.ext (excN ea C none))/\∀d,H d=none->d≠ea->Q .non (upd (upd (upd H ea (.ext (excN ea C (some d)))) d (.ext (xdP d [(f,y)]))) d (.ext (xdP d [(f,y),(g,z)])))
instance Zex(R:List En):Prop:=∀e∈R,e.2≠none
instance Va(S:List Pr)(ns:List Int)(R:List En)(pl:Nat):Prop:=Went S ns R pl/\Zex R/\(ns.length<=pl\/(pl<ns.length/\∀p∈S,¬ p.2<+:ns.drop pl))
def Va.lt(fr:Free S){A B:List En}{pa pb:Nat}(ha:Va S ns A pa)(hb:Va S ns B pb)(h:A.length<B.length):False:=by
 let⟨p',w1,w2,w3,w4⟩:=hb.1.step A.length h;let⟨_,e⟩:=ha.1.one fr w1 (by rw[J0];lia);rcases w4 with⟨o1,_,_⟩|⟨p,hp,_,o2,_,_⟩
 .exact hb.2.1 _ (Jy h) o1
 .rcases ha.2.2 with z|⟨_,z⟩
  .lia
  .rw[e]at z;exact z p hp o2
def Va.uniq(fr:Free S){A B:List En}{pa pb:Nat}(ha:Va S ns A pa)(hb:Va S ns B pb):A=B/\pa=pb:=by
 rcases Nat.lt_trichotomy A.length B.length with l|l|l
 .exact(ha.lt fr hb l).elim
 .exact ha.1.one fr hb.1 l
 .exact(hb.lt fr ha l).elim
def Va.perm{L:List Pr}(h:Va S ns R pl)(p:S.Perm L):Va L ns R pl :=
 ⟨h.1.perm p,h.2.1,h.2.2.imp (λz=>z) λ⟨a,b⟩=>⟨a,λq hq=>b q (p.mem_iff.mpr hq)⟩⟩
def Zeo(h:Zex R){e:En}(he:e.2≠none):Zex (R++[e]):=λx hx=>by
 rcases Jt.mp hx with hx|hx
 .exact h x hx
 .rw[Jj.mp hx];exact he
instance outs(R:List En):List V:=R.map λe=>oV e.2
instance Zfo(C Cr:Addr):Sp:=λvs H Q E=>∃(x r:Addr)(S:List Pr)(ns:List Int),vs=[.ref x,.ref r]/\To C H x S/\Fits S/\H r=some (.lst (ns.map V.int))/\ns.length<=1000 /\
 (∀(R:List En)(pl:Nat)(l:Addr)(H':Hp),Va S ns R pl->ns.length<=pl->H l=none->Same H H'->H' l=some (.lst (outs R))->Q (.ref l) H') /\
 (∀(R:List En)(pl:Nat)(d:Addr)(H':Hp),Va S ns R pl->pl<ns.length->H d=none->Same H H'->H' d=some (.ext (xdP d [("at",.int pl)]))->E (.ref Cr) (some d) H')
def Zos{K:Frag}{base:Heap}{x:Str}{f:Addr}{k:Nat}(F:Fun K x x st f fd)(G:FnOk P w K mg base (CXE bctx P w) k f fd ps sp)(m:mg x=some (.ref f))(b:W2 K fd ps []) :
  CalE bctx P w K mg base x k ps sp:=⟨f,fd,G,m,F.kp,b⟩
def R8:Kq "ValueError"=some (.type "ValueError"):=by kernel_rfl
def Nj{K:Frag}{o:Expr}{f:Str}(h:X.K=K)(ha:PE X o ta)(hb:E9 o f X.env (eval o X.env)=eval o X.env):PE X (.Attribute o f pos) (Zmc K ta f):=by subst h;exact Znd ha hb
instance Zo3(S T:List Pr)(ts:List Int)(i:Nat):Prop:=(∀p∈T,p∈S)/\Tr T=ts.take i
end L2
namespace L2
open PySem PySem.Spec PyProof.Rows
inductive NI where
 |k (z:Int)|t (x:List Int)|b (t:Bool)|n
 deriving DecidableEq
instance NI.sh:NI->Nat
 |.k _=>0
 |.t _=>1
 |.b _=>2
 |.n=>3
instance NI.num:NI->Bool
 |.k _=>true
 |.n=>true
 |_=>false
instance NI.shp(ks:List NI):List Nat:=bif ks.all NI.num then [7]else ks.map NI.sh
instance niH:NI->Int
 |.k z=>hashInt z
 |.t x=>reduceHash (Mf (x.map hashInt))
 |.b t=>hashInt (if t then 1 else 0)
 |.n=>4238894112
instance nh(ks:List NI):Int:=reduceHash (Mf (ks.map niH))
abbrev Nkv:=List NI×Addr×V
instance dnP(d:Addr)(kvs:List Nkv)(h:Heap):Prop:=kvs.length<=Cb/\(d==E6)=false/\∃xs:List (List NI×Addr×Ca),Paired (λ(p:Nkv)(q:List NI×Addr×Ca)=>p.1=q.1/\p.2.1=q.2.1/\RelV p.2.2 q.2.2) kvs xs /\
 ∃o es ep,h.get? d=some o/\o.ExactDict/\o.data=.dict es ep/\es.toList=xs.map (λx=>⟨nh x.1,.ref x.2.1,x.2.2⟩)/\(xs.map (·.1)).Nodup
instance NkV(K:Cs)(H:Hp):NI->V->Prop
 |.k z,v=>v=.int z
 |.t x,v=>∃a,v=.ref a/\SqT K H a (x.map V.int)
 |.b t,v=>v=.bl t
 |.n,v=>v=.non
instance NkAt(K:Cs)(H:Hp)(ks:List NI)(a:Addr):Prop:=∃vs,SqT K H a vs/\Paired (NkV K H) ks vs
def Zfl(tk:∀b u,Rd H b (.tup u)->Rd H' b (.tup u)){a:Addr}(h:SqT K H a xs):SqT K H' a xs:=by
 rcases h with h|h
 .exact .inl (tk _ _ h)
 .exact .inr h
def NkV.tk(tk:∀b u,Rd H b (.tup u)->Rd H' b (.tup u)){k:NI}(h:NkV K H k v):NkV K H' k v:=by
 cases k with
 |k z=>exact h
 |t x=>obtain⟨a,e,q⟩:=h;exists a,e,Zfl tk q
 |b t=>exact h
 |n=>exact h
def NkAt.tk(tk:∀b u,Rd H b (.tup u)->Rd H' b (.tup u)){ks:List NI}{a:Addr}(h:NkAt K H ks a):NkAt K H' ks a:=by
 let⟨vs,e,r⟩:=h;exists vs,Zfl tk e,Paired.mapP r λ_ _ z=>z.tk tk
def NkAt.same(s:Same H H'){ks:List NI}{a:Addr}(h:NkAt K H ks a):NkAt K H' ks a:=h.tk λb u r=>by
 rcases r with r|⟨o,r⟩
 .exact .inl (s _ _ r)
 .exact .inr ⟨o,s _ _ r⟩
def Zi1(s:Same H H'){a:Addr}(h:SqT K H a xs):SqT K H' a xs:=Zfl (λb u r=>by
 rcases r with r|⟨o,r⟩
 .exact .inl (s _ _ r)
 .exact .inr ⟨o,s _ _ r⟩) h
def dnP.ne{a:Addr}{kvs:List Nkv}{φ:Heap->Prop}(o:Obj){vs:Array Ca}(hd:o.data=.fields vs)(hφ:∀h:Heap,h.get? a=some o->φ h)(e:dnP a kvs=φ):False:=by
 let g:(Heap.get? ⟨Array.replicate (a+1) o,{}⟩ a)=some o:=by
  let⟨c,di,da,sl⟩:=o;cases hd;unfold Heap.get?;let z:(Array.replicate (a+1) (⟨c,di,.fields vs,sl⟩:Obj))[a]?=some ⟨c,di,.fields vs,sl⟩:=by simp
  simp only[z]
 let x:=hφ _ g;rw[<-e]at x;let⟨_,_,xs,_,ob,es,ep,g2,_,dd,_⟩:=x;rw[g]at g2;cases g2;rw[hd]at dd;cases dd
end L2
namespace L2
open PySem PySem.W PySem.Spec PyProof.Rows
instance MetE(bctx:Bool)(P:Eu)(w:Hm)(K:Cs)(mg:Str->Option Ca)(base:Heap)(C:Addr)(m:Str)(k:Nat)(ps:List Str)(sp:Sp):Prop :=
 ∃f fd,Cls K C/\Meth K C m f/\FnOk P w K mg base (CXE bctx P w) k f fd ps sp/\W2 K fd ps []
section
variable{k:Nat}{x m:Str}{p:Pos}{e o:Expr}{t:TA}{E:XK} 
def Zgl{pl:Sem Bool}(he:PE X o ta)(M:MetE bctx X.prog X.w X.K X.mg X.base C m k ps sp)(hr:Room k X.A)(hx:Qc (CXE bctx X.prog X.w) X pq σ E)(ha:PA X (e::es) t)(hst:Cp (e::es) X.env=(false,eval e X.env)::Cp es X.env:=by rfl)(hpl:(Kg pos (Cp es X.env)).any (·.1)=false:=by rfl)(ht:eval (.Call (.Attribute o m apos) (e::es) [] pos) X.env=(do
   let ov <-eval o X.env
   Jd5 apos.atName
   let(f,first) <-Mc [ov] (Jdq ov m pl)
   callWith pos f first (Kg pos (Cp (e::es) X.env)) (Jda pos (K7 [] X.env))):=by rfl) :
  PEF X pq σ (.Call (.Attribute o m apos) (e::es) [] pos) (Zfe C m sp [] E ta t):=by
 intro s H Q I h;let⟨f,fd,c,hm,F,hb⟩:=M;refine Jff (pl:=pl) (thn (he pq s σ H _ I h) λu s1 hz=>?_) ht;let⟨x,H1,I1,rx,a,dx,fs,ex,ea,l,q⟩:=hz;subst ex;obtain rfl:u=Cd a:=rx;refine Q5 I1 ea c hm l ?_;refine Kr (first:=[.ref a]) (h₀:=X.base) I.ok.mod.kin hm.kp (thn (ha pos pq s1 σ H1 _ I1 q) λus s2⟨vs,H2,I2,r,q2⟩=>⟨I2.kIn,?_⟩) hst hpl;exact Zf6 (us:=.ref a::us) (vs:=.ref a::vs) F hr hb hx I2 (.cons rfl r) (by have q':sp (V.ref a::vs++[]) H2 Q E:=q2;rw[Jz]at q';exact q')
def MetE.calm{base:Heap}(M:MetE bctx P w K mg base C m k ps sp)(h:∀vs H Q E,sp' vs H Q E->sp vs H Q E0):Met P w K mg base C m k ps sp':=by
 let⟨f,fd,c,hm,F,hb⟩:=M;exists f,fd,c,hm,F.calm h,hb
def Zrg(M:Mkr X.prog X.w X.K X.mg X.base x C k ps sp)(hr:Room (k+1) X.A)(hg:Gl X x)(hdb:(x==("__debug__":Str))=false:=by decide):PE X (.Call (.Name x p) [] [] pos) (Zd8 C sp [] E0 tNil):=by
 let⟨f,fd,hm,F,g,hb⟩:=M;exact Zjt hm F hr hg g hb .nil Zjw hdb
end
section
instance Zgc:List V->Hp->VK->Prop:=λxs H Q=>∃(d:Addr)(kvs:List (Key×V)),xs=[.ref d]/\Rd H d (.dK kvs)/\∀(l:Addr),H l=none->Q (.ref l) (upd H l (.lst (kvs.map λkv=>kV kv.1)))
def Ze1:∀{us:List Ca}{vs:List V},us.length=vs.length->(∀(j:Nat)(u:Ca)(v:V),us[j]?=some u->vs[j]?=some v->RelV v u)->Vals vs us
 |[],[],_,_=>.nil
 |u::us,v::vs,hl,h=>.cons (h 0 u v rfl rfl) (Ze1 (by simpa using hl) λj u v e1 e2=>h (j+1) u v e1 e2)
def Zce(hc:X.calm=true):Wv X (.type "list") Zgc:=by
 intro pq s σ H xs us Q I r h;let⟨d,kvs,rfl,rd,q⟩:=h;let⟨u,rfl,rx⟩:=Sr r;cases rx;let⟨hz,lo,vs,rel,dof⟩:=Zat I.hok rd;let⟨ep,da⟩:=dof.dictAt;let hv:=Paired.length rel;refine W.kdl_call (kdl_dict (knd:=Yl X.prog X.w) (kvs:=vs) (ep:=ep) lo) (I.ok.hd hc) da (by rw[<-hv];exact hz) λh' tk acc' c' kp e' hacc=>?_;let hal:acc'.toList.length=vs.length:=by rw[Be];exact hacc.1
 exists .ref s.heap.objs.size,_,I.laid (t':=tk) (o:=.lst (kvs.map λkv=>kV kv.1)) kp (Jd _) ⟨by rw[Ja];exact hz,acc'.toList,c',?_,by simpa using e'⟩,rfl,q _ (I.hok.fresh (Jd _));refine Ze1 (by rw[hal,Ja];lia) λj u v e1 e2=>?_;let⟨k,x,e3,e4⟩:=hacc.2 j u (by rw[<-Jc6];exact e1);let hj:j<vs.length:=(Jf.mp e3).1;let hr:=L2.Paired.at rel (by lia:j<kvs.length) hj;rw[Jr,Jb (by lia:j<kvs.length)]at e2;cases e2;rw[Jb hj]at e3;let e5:=Fu e3;show RelV (kV kvs[j].1) u;rw[hr.1,e5];rcases Ye (show Pz k u=true from e4)with⟨i,t,rfl,rfl⟩|⟨y,t,rfl,rfl⟩
 .exists t,rfl
 .exists t,rfl
end
section
instance Zrc(K:Cs):R2:=λx y H Q=>∃a b ys,x=.ref a/\y=.ref b/\SqT K H a []/\SqT K H b ys/\Q (.ref b) H
def Znl:OpR X (Hd .Add) (Zrc X.K):=by
 intro pq s σ H x y v u Q I rx ry h;let⟨a,b,ys,rfl,rfl,ha,hb,q⟩:=h;cases rx;cases ry;let⟨its,r1,p1,_⟩:=I.tuple ha;let⟨its2,r2,p2,_⟩:=I.tuple hb;cases r1;let⟨⟨cls,dd,data,sl⟩,ho,hc,n,hd⟩:=id p1;let⟨⟨cls2,dd2,data2,sl2⟩,ho2,hc2,n2,hd2⟩:=id p2;simp only at hc hd hc2 hd2;subst hc hd hc2 hd2;exact concat_meets ⟨_,ho,rfl⟩ ⟨_,ho2,rfl⟩ Jb9 seq_tuple_add K0 Kv (Ks _ _)
  (tuple_addW0 a b _ its2.toArray n n2 dd dd2 sl sl2 rfl) ⟨ho,ho2,⟨.ref b,H,I,rfl,q⟩⟩
end
end L2
namespace L2
open PySem PySem.Spec PyProof.Rows
instance ItdI(d:Addr)(o:Obj)(kvs:List (Key×V)):It:=⟨λi H=>H d=some (.frz o (.dK kvs))/\i<kvs.length,λi H x H'=>∃(t:Addr)(kv:Key×V),x=.ref t/\H t=none/\H'=upd H t (.tup [kV kv.1,kv.2])/\kvs[i]?=some kv,λi H=>H d=some (.frz o (.dK kvs))/\kvs.length<=i⟩
def Zd6{elts:List Expr}{x1:Nat}(d:Addr)(o:Obj)(kvs:List (Key×V)){es0:Array DictEntry}{ep:Nat}(hep:o.data=.dict es0 ep)(it:Addr):Turn P w K (.Tuple elts x1 pos) (ItdI d o kvs) [it] it (λi h=>∃ok ov,IsItemIter h it d i kvs.length ep ok ov) where
 mem:=by simp
 obj:=λi h st b hb=>by
  obtain rfl:b=it:=by simpa using hb
  let⟨ok,ov,e⟩:=st;exact⟨_,e,λv z=>by
   let z':Jhj _=Data.cell v:=z;cases z'⟩
 keep:=λi h h' st k=>let⟨ok,ov,e⟩:=st;⟨ok,ov,k it (by simp) _ e⟩
 item:=by
  intro X hP hw hK hc i pq s σ H E I hf st hg;subst hP hw hK;let⟨ok,ov,st⟩:=st;let⟨hd,hi⟩:=hg;let⟨_,_,vs,r,da⟩:=Zdp I.hok hd hep;let hl:=Paired.length r;let hi2:i<vs.length:=by lia
  let hr:=L2.Paired.at r hi hi2;rw[hl]at st;refine wpAny_pyNext_items_item (k:=vs[i].1) (v:=vs[i].2) st da (by rw[Jb hi2]) λkey h1 hk st1 et hsz hkp=>?_;let he:it<s.heap.objs.size:=Fn st;exists ·,wpAny_letOwnedTupleGo_items st1 λh2 st2 sb=>?_
  replace sb:Hw it h1 h2:=sb
  let fr:H s.heap.objs.size=none:=I.fresh;let Il:Inv X pq σ (upd H s.heap.objs.size (.tup [kV kvs[i].1,kvs[i].2])) {s with heap:=s.heap.push {cls:=.type "tuple",data:=.seq #[key,vs[i].2]},toks:=s.toks}:=I.laid (λb o q=>Fl _ q) (Jd _)
   ⟨by show 2<=Cb;decide,[key,vs[i].2],.cons (by rw[hr.1];exact Zny hk) (.cons hr.2 .nil),⟨_,Fm _ rfl,rfl,_,rfl,rfl⟩⟩
  let⟨f0,f⟩:=hf it (by simp);let up:FpOk X pq (upd H s.heap.objs.size (.tup [kV kvs[i].1,kvs[i].2])) it:=⟨by rw[Zk (Gg he)];exact f0,f⟩;let I2:Inv X pq σ (upd H s.heap.objs.size (.tup [kV kvs[i].1,kvs[i].2])) {s with heap:=h2,toks:=s.toks}:=by
   let⟨g0,g1,g2,g3,g4,g5⟩:=up;refine Inv.turned (s:={s with heap:=s.heap.push {cls:=.type "tuple",data:=.seq #[key,vs[i].2]},toks:=s.toks}) (h':=h2) (t':=s.toks) Il (λb o hb q=>?_) g0 g1 g3 g4 g5;rcases Heap.get?_push_cases q with⟨z1,z2⟩|q
   .subst z1 z2;exact(sb.2 _ hb).trans et
   .exact(sb.2 _ hb).trans (hkp b o hb q)
  rw[<-hl]at st2;exact⟨.ref s.heap.objs.size,_,I2,rfl,⟨_,kvs[i],rfl,fr,rfl,Jb hi⟩,⟨_,_,st2⟩,λb hb=>by
   let e:b=it:=by simpa using hb
   rw[e];exact up.1⟩
 done:=by
  intro X hP hw hK hc i pq s σ H E I hf st hg;subst hP hw hK;let⟨ok,ov,st⟩:=st;let⟨f0,f1,f2,f3,f4,f5⟩:=hf it (by simp);let⟨hd,hi⟩:=hg;let⟨_,_,vs,r,da⟩:=Zdp I.hok hd hep;let hl:=Paired.length r;rw[hl]at st;exact wpAny_pyNext_items_end (I.ok.hd hc) st da (by simp;lia) λh' eb=>⟨rfl,I.turned (t':=s.toks) (λb o hb e=>eb b o hb e) f0 f1 f3 f4 f5⟩
 self:=λ_ _ _ _ _ st h=>by
  let⟨ok,ov,q⟩:=st;exact W.kcp_self q h
section
variable{elts:List Expr}{x1:Nat}{pt:Pos}
instance Zle(tl:TE):TI:=λσ H R=>tl σ H λx H1=>∃d kvs,x=.ref d/\H1 d=some (.dK kvs)/\∀o,R (ItdI d o kvs) (upd H1 d (.frz o (.dK kvs)))
def Zjq{l:Expr}{tl:TE}(hl:PE X l tl)(hbase:E9 l "items" X.env (eval l X.env)=eval l X.env:=by rfl)(hline:(apos.endLine==cpos.line)=true:=by rfl) :
  PI X (.Tuple elts x1 pt) (.Call (.Attribute l "items" apos) [] [] cpos) (Zle tl):=by
 intro pq s σ H R I h;refine wpAny_Call_method0_late hbase hline (thn (hl pq s σ H _ I h) λv s1 hz=>?_);let⟨x,H1,I1,r1,q1⟩:=hz;let⟨d,kvs,e,e1,q⟩:=q1;subst e;cases r1;let⟨z,hd,vs,r,ob,es,ep,e3,c,dd,rest⟩:=I1.hok d _ e1;let dof:s1.heap.DictOf (Yl X.prog X.w) d vs:=⟨ob,es,ep,e3,c,dd,rest⟩;let hl:=Paired.length r;let tyd:tyV X.K "dict" (.ref d) H1:=.inr (.inr (.inl ⟨rfl,.inl ⟨kvs,e1⟩⟩));let⟨h1,h2⟩:=Zko I1 (x:=.ref d) (v:=.ref d) rfl tyd;exists "dict","dict.items",PySem.F.plainAttrs_dict,PySem.F.slot_dict_items,PySem.F.type_dict_items,h1,h2,K1 rfl (PySem.evalArgs_none ?_)
 refine call_meetsIn PySem.F.slot_dict_items dof.typeIs PySem.F.entry_dict_items (PySem.F.args_dict_items_1 _) (meets_dict_items (Yl X.prog X.w) d hd) ⟨⟨vs,dof⟩,?_⟩;let I2:Inv X pq σ (upd H1 d (.frz ob (.dK kvs))) {s1 with heap:=s1.heap,toks:=s1.toks}:=I1.write (x:=d) (e:=d) (by rw[e1];exact trivial) (.inl rfl) (λb u _ h=>h) ⟨_,e3⟩ ⟨e3,z,hd,vs,r,ob,es,ep,e3,c,dd,rest⟩;let I3:Inv X pq σ (upd H1 d (.frz ob (.dK kvs))) {s1 with heap:=s1.heap.push {cls:=.type "dict_items",data:=.fields #[.ref d]},toks:=s1.toks}:=I2.kept (t':=s1.toks) λb o e=>Fl _ e;refine wpAny_pyIter_items (knd:=Yl X.prog X.w) (kvs:=vs) (ep:=ep) ⟨_,Fm _ rfl,rfl,rfl⟩ ⟨ob,es,Fl _ e3,c,dd,rest⟩ ?_
 exists _,[_],_,_,upd H1 d (.frz ob (.dK kvs)),rfl,I3.kept (t':=s1.toks) λb o e=>Fl _ e,Zd6 d ob kvs dd _,?_,λb hb=>?_,q ob
 .rw[hl];exists _,_,Fm _ rfl
 .rw[Jj.mp hb];exact I3.fpOk (Jd _) (I3.hok.fresh (Jd _))
def Inv.thaw{s1:Cc}{d:Addr}{kvs kvs0:List (Key×V)}{o:Obj}(I0:Inv X pq σ0 H s)(e0:H d=some (.dK kvs0))(I:Inv X pq σ H1 s1)(e1:H1 d=some (.frz o (.dK kvs))):Inv X pq σ (upd H1 d (.dK kvs)) s1:=by
 let nf:∀o u,X.H₀ d≠some (.frz o u):=λo u z=>by
  let:=I0.base.frzs d o u z;rw[e0]at this;cases this
 let ne:∀b,H1 b=none->b≠d:=λb n z=>by rw[z,e1]at n;cases n
 let⟨e2,z,hd,vs,r,ob,es,ep,e3,rest⟩:=(show Yv X.prog X.w H1 s1.heap d (.frz o (.dK kvs))from I.hok d _ e1);exists I.ok,I.os,I.bare,⟨I.base.keep,I.base.slot,λb o q n hx=>?_,I.base.there,λb xs q=>?_,λb o u q=>?_,λb ps q=>?_⟩,I.loc,I.cell,?_,λx c q=>?_,λp hp=>?_,λb u q=>?_,I.len
 .let:=I.base.free b o q n hx;rw[Zk (ne b this)];exact this
 .let:=I.base.tups b xs q;rw[Zk (λw=>by rw[w,e1]at this;cases this)];exact this
 .let:=I.base.frzs b o u q;rw[Zk (λw=>nf o u (by rw[<-w];exact q))];exact this
 .let⟨more,this⟩:=I.base.tbls b ps q;exists more,?_;rw[Zk (λw=>by rw[w,e1]at this;cases this)];exact this
 .rw[Zk (ne _ I.free)];exact I.free
 .let:=I.freeC x c q;rw[Zk (ne _ this)];exact this
 .let⟨p1,p2,p3⟩:=I.pin p hp;exists p1,by rw[Zk (ne _ p2)];exact p2,p3
 .by_cases w:b=d
  .subst w;rw[Zi]at q;cases q;exists z,hd,vs,r,ob,es,ep,e3,rest
  .rw[Zk w]at q;refine(I.hok b u q).stay (λc v hc q'=>q') (λy q'=>?_) λc xs q'=>?_
   .rw[Zk (λw'=>by rw[w',e1]at q';cases q')];exact q'
   .rw[Zk (λw'=>by rw[w',e1]at q';cases q')];exact q'
instance Zq5(t:TS):TS:=λD σ H=>∃d kvs0,H d=some (.dK kvs0)/\t {D with nx:=λσ' H1=>∃o kvs,H1 d=some (.frz o (.dK kvs))/\D.nx σ' (upd H1 d (.dK kvs))} σ H
def Zm7{t:TS}(h:PS X st t):PS X st (Zq5 t):=by
 intro pq s σ H D I hq;let⟨d,kvs0,e0,hq⟩:=hq;refine Fw (h pq s σ H _ I hq) (λf s1 h1=>?_) λ_ _ z=>z;cases f with
 |next =>
  let⟨σ',H1,I1,o,kvs,e1,q⟩:=h1;exists σ',_,I.thaw e0 I1 e1,q
 |brk=>exact h1
 |cont=>exact h1
 |ret u=>exact h1
end
end L2
namespace L2
open PySem PySem.Spec PyProof.Rows PySem.W
section
variable{g:Array GenState}{d:Drawn}{t:Nat}{os:OsState}
abbrev tupO(rest:List Ca):Obj:={cls:=.type "tuple",data:=.seq rest.toArray}
abbrev excO(C:Addr)(a:Addr):Obj:={cls:=.ref C,data:=.fields #[.ref a,.none,.none,.none,.bool false,.none]}
def Zd7{Q:Jdx->Cc->Prop}(x:ExcA h C (some none))(sz:rest.length<=Cb)(k:∀h',(∀b o,h.get? b=some o->h'.get? b=some o)->h'.get? (h.objs.size+1)=some (excO C (h.objs.size+2))->Q (.done (.ret (.ref (h.objs.size+1)))) ⟨h',g,d,t,os⟩) :
  Cg (Cj prog w) A (Builtin.«type.__call__» ⟨.ref C::rest,[]⟩) Q E ⟨h,g,d,t,os⟩:=by
 let⟨bm,N,nm,q,bs,sn,sub,ab,col,dd,k0,k1,k2,k3,k5,mN,cO,cN,cI,T⟩:=x;let cI:=cI _ rfl;let F:=PySem.F.excBase_ValueError
 repeat (first|wp_step|with_reducible refine C3 cO ?_|with_reducible refine wpAny_madeBy_exc cO ?_)
 refine codeAny_call_builtin_code (Hb _ F.quiet) (wpAny_check_new_subT F T cO ?_);refine codeAny_exc_new_subT F T cO ?_ sz;show Cg _ _ _ _ _ _;let kp:∀b o,h.get? b=some o->((h.push (tupO rest)).push (excO C h.objs.size)).get? b=some o:=λb o e=>Fl _ (Fl _ e);let at2:((h.push (tupO rest)).push (excO C h.objs.size)).get? (h.objs.size+1)=some (excO C h.objs.size):=by heap_get
 let cO1:=kp _ _ cO;let cN1:=cN.keeps kp;let T1:=T.keeps kp;let self:(Cd C::bm).contains (.ref C)=true:=by simp
 unfold Jdd
 repeat (first|with_reducible refine C3 at2 ?_|(with_reducible refine Hs cO1 ?_;rw[self])|wp_step)
 show Cg _ _ (Mp (.ref C) _) _ _ _;refine wpAny_typeLookup_tail cO1 cN1 T1 F.mroIs F.init.lookup ?_;rw[cI];refine Cw (Fj (wpAny_of_eq (F.init.bind _) ?_));refine Fj (E7 (He F.init.plain F.initEntry (wpAny_check_init_subT F T1 cO1 at2 rfl ?_)))
 wp_walk
 refine k _ (λb o hb=>?_) ?_
 .let hlt:b<h.objs.size:=Fn hb;rw[Ch _ _ (λz=>Fh (z ▸ hlt) (Ff.mpr (G1 _)))];exact Fl _ (kp b o hb)
 .rw[Cy _ (Fl _ at2) rfl];simp only[Ep];rfl
def Zh3{Q:Ca->Cc->Prop}(x:ExcA h C (some none))(sz:rest.length<=Cb)(k:∀h',(∀b o,h.get? b=some o->h'.get? b=some o)->h'.get? (h.objs.size+1)=some (excO C (h.objs.size+2))->Q (.ref (h.objs.size+1)) ⟨h',g,d,t,os⟩) :
  Cg (Cj prog w) A (call (.ref C) rest) Q E ⟨h,g,d,t,os⟩:=by
 let⟨bm,N,nm,q,bs,sn,sub,ab,col,dd,k0,k1,k2,k3,k5,mN,cO,cN,cI,T⟩:=id x;let z1:=tc_lookup;let z2:=tc_bind (.ref C);let ty:(⟨h,g,d,t,os⟩:Cc).TypeIs (.ref C) "type":=⟨_,cO,rfl⟩;refine E7 (Lw ?_);show Cg _ _ (callAny (.ref C) _) _ _ _
 repeat (any_goals (first|assumption|wp_step|with_reducible refine C3 cO ?_))
 exists rfl,?_;exact codeAny_call_builtin_at (Hb _ (by decide +kernel)) entry_typeCall (wpAny_check_type_call_sub cO (Zd7 x sz k))
end
instance Zfb(C:Addr)(E:XK):TS:=λ_ σ H=>∀ea,H ea=none->E (.ref C) none (upd H ea (.ext (excP ea C none)))
section
variable{K:Frag}{base:Heap}{scope:Scope}{f:Addr}{outer:List Env}{E:XK}
def Zgg{x:Str}(xc:XCl K C fI)(xi:Wu K C=some none)(hm:mg x=some (.ref C))(hg:Gl (cxE bctx P w K mg base N qual scope f cd A outer s H E) x)(hdb:(x==("__debug__":Str))=false:=by decide) :
  PS (cxE bctx P w K mg base N qual scope f cd A outer s H E) (.Raise (some (.Call (.Name x np) [] [] cpos)) none pos) (Zfb C E):=by
 intro pq s1 σ H1 D I h;rw[arm_exec_Raise];refine Fj (Ej (Qv (C:=C) (oi:=Wu K C) (I.ok.hd rfl) ?_));refine Fj (Fw ?_ (λv s3 h3=>Fj (Ej (Fk h3))) λ_ _ z=>z);refine Eb (Wd I hg hm ?_ hdb);refine Jgw I.kIn xc.kp ?_;let xa:=Vv I.kIn xc.ei;let xi':Wu (cxE bctx P w K mg base N qual scope f cd A outer s H E).K C=some none:=xi;rw[xi']at xa;let lz:=I.sz;let⟨hp,gg,dd,tt,oo⟩:=s1;refine Zh3 xa (J8 _) λh' kp he=>?_;let I4:Inv (cxE bctx P w K mg base N qual scope f cd A outer s H E) pq σ (upd H1 (hp.objs.size+1) (.ext (excP (hp.objs.size+1) C none))) ⟨h',gg,dd,tt,oo⟩:=I.laid (a:=hp.objs.size+1) (h':=h') (t':=tt) kp (G1 _) (excP.ok ⟨_,_,he,rfl,rfl,rfl,rfl⟩)
 exists hp.objs.size+1,_,·,Vv I4.kIn xc.ei,he,rfl,rfl,rfl,?_;exact Zo7 (T0:=none) I4 Zi (Ga lz (G1 _)) (λT z=>by cases z) ⟨_,_,he,rfl,rfl,λ_=>rfl⟩ (h _ (I.hok.fresh (G1 _)))
end
end L2
namespace L2
open PySem PySem.W PyProof.Rows HT PySem.Calls
section
def Zg9:∀{vs:List Ca}{ns ms:List Int},Le vs ns->Le vs ms->ns=ms:=by
 intro _ _ _ hz9 hz8;cases hz9 with
 |nil=>
  cases hz8 with
  |nil=>
   exact rfl
 |cons a t h=>
  cases hz8 with
  |cons _ _ k=>
   exact by rw[Zg9 h k]
end
end L2
namespace L2
open PySem PySem.Spec PyProof.Rows
instance FlyV(ea T:Addr)(v:Ca)(h:Heap):Prop:=∃oe vs oT ts,h.get? ea=some oe/\oe.data=.fields vs/\vs[1]?=some (.ref T)/\h.get? T=some oT/\oT.data=.fields ts/\ts[3]?=some v/\T≠ea
def FlyV.f(fl:FlyV ea T .none h):Zcp false ea T h:=let⟨oe,vs,oT,ts,a,b,c,d,e,f,g⟩:=fl;⟨oe,vs,oT,ts,a,b,c,d,e,f,g,λz=>by cases z⟩
structure GoneV(fs:List Addr)(ea:Addr)(T0:Option Addr)(oe:Obj)(vs:Array Ca)(v:Ca)(h h':Heap):Prop where
 keep:∀b o,b∉fs->b≠ea->some b≠T0->h.get? b=some o->h'.get? b=some o
 slot:∀b o,b≠ea->some b≠T0->h.get? b=some o->∃sl,h'.get? b=some {o with slots:=sl}
 flow:∃T vs' ob ts,h.objs.size<=T/\h'.get? ea=some {oe with data:=.fields vs'}/\vs'.size=vs.size/\vs'[1]?=some (.ref T)/\h'.get? T=some ob/\ob.data=.fields ts/\ts[3]?=some v/\T≠ea
section
variable{M:Jfc} 
def Zno{base:Heap}{env cenv:Env}{outer:List Env}{T0:Addr}{oT:Obj}{vs ts:Array Ca}{v:Ca}{Q:Unit->Cc->Prop}(fr:A.frames=some (env::outer))(ff:s.heap.FunFrames base (env::outer))(ef:env.frame=some L)(ec:cenv.frame=env.frame)(eo:s.heap.get? ea=some oe)(od:oe.data=.fields vs)(v1:vs[1]?=some (.ref T0))(eT:s.heap.get? T0=some oT)(dT:oT.data=.fields ts)(t3:ts[3]?=some v)(hv:(v==Ew L)=false)(ne:T0≠ea)(k:∀h',GoneV (frs (env::outer)) ea (some T0) oe vs (Ew L) s.heap h'->Q ⟨⟩ {s with heap:=h'}) :
  Cg M A (Ey (.ref ea) cenv) Q Ex s:=by
 let sz:1<vs.size:=(Gm.mp v1).1;let efr:PySem.frameOf cenv=PySem.frameOf env:=by unfold PySem.frameOf;rw[ec]
 unfold Ey;simp only[ec,ef];rw[efr];refine Fj (Ee eo od v1 ?_);rw[Fp (show(Cd T0 != Ca.none)=true by simp)];refine Fj (Ee eT dT t3 ?_);rw[Fo (by rw[hv];exact Jv)];refine Fj (wpAny_setField eT dT (Gm.mp t3).1 ?_);let oth:∀b,b≠T0->(s.heap.update T0 (C9 (·.setIfInBounds 3 Ca.none))).get? b=s.heap.get? b:=λb hb=>Ch _ _ (Cv hb);let nfT:T0∉frs (env::outer):=S5 ff eT dT;let ff2:(s.heap.update T0 (C9 (·.setIfInBounds 3 Ca.none))).FunFrames base (env::outer):=ff.of_keeps λb o hb hnf=>⟨o,(oth b λz=>by
  rw[z,eT]at hb;cases hb;exact hnf ts dT).trans hb,rfl⟩
 refine Sj (s:={s with heap:=s.heap.update T0 (C9 (·.setIfInBounds 3 Ca.none))}) fr ff2 ef ((oth ea (Cv ne)).trans eo) od sz λh' T nt=>k h' ?_;let szU:(s.heap.update T0 (C9 (·.setIfInBounds 3 Ca.none))).objs.size=s.heap.objs.size:=Heap.size_after_update ..;let⟨ob,tt,eT',dT',h3⟩:=nt.tb;let ex:=nt.exc;rw[mapF od]at ex;exists λb o hb hne hT q=>nt.keep b o hb hne ((oth b λz=>hT (by rw[z])).trans q),λb o hne hT q=>nt.slot b o hne ((oth b λz=>hT (by rw[z])).trans q),T,_,ob,tt,by rw[<-szU];exact nt.new,ex,by simp,by rw[Gn,Fp sz],eT',dT',h3,nt.ne
def Q6{v:Ca}{f:Option Addr}{Q:Unit->Cc->Prop}(fl:FlyV ea T v s.heap)(k:∀h' v',(∀b o,b≠T->s.heap.get? b=some o->h'.get? b=some o)->FlyV ea T v' h'->(f=none->v'=.none)->Q ⟨⟩ {s with heap:=h'}):Cg M A (Kb (.ref ea) f) Q Ex s:=by
 let⟨oe,vs,oT,ts,e1,d1,v1,e2,d2,t3,ne⟩:=fl;let sz:3<ts.size:=(Gm.mp t3).1;unfold Kb;refine Fj (Ee e1 d1 v1 ?_);rw[Fp (show(Cd T != Ca.none)=true by simp)];refine wpAny_setField e2 d2 sz (k _ (f.elim .none λf=>Ew f) (λb o hb e=>by rw[Ch _ _ (Cv hb)];exact e) ?_ λz=>by rw[z];rfl);let dd:=Ez d2 (·.setIfInBounds 3 (f.elim Ca.none λf=>Ew f));exact⟨oe,vs,_,_,by rw[Ch _ _ ne];exact e1,d1,v1,Cy _ e2 (Ei dd),dd,by rw[Gn,Fp sz],ne⟩
end
section
def Inv.notedV{d:Option Addr}{vs:Array Ca}{v:Ca}(I:Inv X pq σ H s)(hea:H ea=some (.ext (excP ea C d)))(eo:s.heap.get? ea=some oe)(od:oe.data=.fields vs)(hT:∀T,T0=some T->FpOk X pq H T)(g:GoneV (frs X.stack) ea T0 oe vs v s.heap h'):Inv X pq σ H {s with heap:=h'}:=by
 let nfr:∀c y,H c=some y->c∉frs X.stack:=λc y r z=>by rw[I.stkFree c z]at r;cases r
 let nT:∀c y,H c=some y->some c≠T0:=λc y r z=>by rw[(hT c z.symm).1]at r;cases r
 let hok:HOk X.prog X.w H h':=λb o q=>by
  by_cases ne:b=ea
  .subst ne;rw[hea]at q;cases q;let⟨⟨o1,v1,a1,a2,a3,a4,a5⟩,_,_⟩:=I.hok b _ hea;let⟨T,vs',ob,ts,_,e3,e4,_⟩:=g.flow;rw[eo]at a1;cases a1;rw[od]at a4;cases a4;exact excP.ok ⟨_,vs',e3,a2,a3,rfl,by rw[e4];exact a5⟩
  .refine(I.hok b o q).stay (λc v hc r=>?_) (λ_ z=>z) λ_ _ z=>z;rcases hc with hc|hc
   .rw[hc]at r⊢;exact g.keep b v (nfr b o q) ne (nT b o q) r
   .let ne2:c≠ea:=λz=>by rw[z,hea]at hc;cases hc
    exact g.keep c v (nfr c _ hc) ne2 (nT c _ hc) r
 let un:Un (frs X.stack) T0.toList H H s.heap h':=by
  let tl:∀b,b∉T0.toList->some b≠T0:=λb hb z=>hb (by rw[<-z];simp);exists λb o q n hb hx=>?_,λb o q n hb hx=>?_,λb o q n _=>n,λb o q hx=>?_,λ_ _ e=>e,λ_ _ _ e=>e,λb ps e=>⟨#[],by rw[e];simp⟩
  .exact g.keep b o hb (λz=>by rw[z,hea]at n;cases n) (tl b hx) q
  .exact g.slot b o (λz=>by rw[z,hea]at n;cases n) (tl b hx) q
  .by_cases ne:b=ea
   .let⟨_,_,_,_,_,e3,_⟩:=g.flow;exact⟨_,by rw[ne];exact e3⟩
   .let⟨sl,e2⟩:=g.slot b o ne (tl b hx) q;exists _,e2
 let:=I.call (g':=s.gens) (d':=s.drawn) (t':=s.toks) un hok I.bare λb hb=>by
  let z:T0=some b:=by
   cases T0 with
   |none=>simp at hb
   |some T=>simp at hb;rw[hb]
  let⟨_,f1,f2,f3,f4,f5⟩:=hT b z;exists f3,f1,f4,f5
 exact this
end
section
variable{base:Heap}{scope:Scope}{f:Addr}{outer:List Env}{E:XK}
def Zlj{s2:Cc}{d:Option Addr}(I:Inv (cxE false P w K mg base N qual scope f cd A outer s H E) pq σ H2 s2)(hea:H2 ea=some (.ext (excP ea C d)))(lea:s.heap.objs.size<=ea)(nT:H2 T=none)(lT:s.heap.objs.size<=T)(fl:FlyV ea T .none s2.heap)(q:E (.ref C) d H2):CXE false P w outer H s E (.ref ea) s2 :=
 ⟨ea,C,T,d,H2,rfl,I.os,I.bare,I.base,I.hok,hea,lea,nT,lT,fl.f,q⟩
def Zs1{s2:Cc}{d:Option Addr}{v:Ca}(I:Inv (cxE false P w K mg base N qual scope f cd A outer s H E) pq σ H2 s2)(hea:H2 ea=some (.ext (excP ea C d)))(lea:s.heap.objs.size<=ea)(fp:FpOk (cxE false P w K mg base N qual scope f cd A outer s H E) pq H2 T)(fl:FlyV ea T v s2.heap)(q:E (.ref C) d H2):(cxE false P w K mg base N qual scope f cd A outer s H E).xe (.ref ea) s2:=by
 let lT:s.heap.objs.size<=T:=by
  rcases fp.2.2.2.1 with z|z
  .exact Fh (show T∈([]:List Addr)from z) (by simp)
  .exact z
 show Cg (Cj P w) _ (Jgx _ _) _ _ _;let⟨oe,vs,oT,ts,e1,d1,v1,e2,d2,t3,ne⟩:=id fl;refine Tw ?_
 by_cases hv:(v==Ew s.heap.objs.size)=true
 .unfold Ey;simp only[E4];refine Fj (Ee e1 d1 v1 ?_);rw[Fp (show(Cd T != Ca.none)=true by simp)];refine Fj (Ee e2 d2 t3 ?_);rw[Fp hv];refine Fk (Q6 fl λh' v' k fl' hn=>?_);cases hn rfl;let⟨f0,f1,f2,f3,f4,f5⟩:=fp;exact Zlj (I.turned (t':=s2.toks) k f0 f1 f3 f4 f5) hea lea f0 lT fl' q
 .let hv':(v==Ew s.heap.objs.size)=false:=by simpa using hv
  refine Zno (base:=base) I.ok.frames I.stack rfl rfl e1 d1 v1 e2 d2 t3 hv' ne λh' g=>?_;let I2:=I.notedV hea e1 d1 (λT' z=>by cases z;exact fp) g;let⟨T',vs',ob,ts',z1,z2,z3,z4,z5,z6,z7,z8⟩:=g.flow;let fp2:=I.fpOk z1 (I.hok.fresh z1);refine Q6 (v:=Ew s.heap.objs.size) ⟨_,vs',ob,ts',z2,rfl,z4,z5,z6,z7,z8⟩ λh2 v' k fl' hn=>?_;cases hn rfl;let⟨f0,f1,f2,f3,f4,f5⟩:=fp2;exact Zlj (I2.turned (t':=s2.toks) k f0 f1 f3 f4 f5) hea lea f0 (Ga I.sz z1) fl' q
end
end L2
namespace L3
open PySem L2
structure Cf where
 c:Addr
 k:Cs
inductive D where
 |non|bl (b:Bool)|int (i:Int)|str (x:Str)|ty (n:String)|at(a:Addr)
 |tup (xs:List D)|lst (xs:List D)|frz (xs:List D)|dct (kvs:List (Key×D))|dcT (kvs:List (List Key×D))
 |code (S:List Pr)|cell (k:Nat)|exc (C:Addr) (fs:List (Str×D))|nst (ks:List NI)|itp (x:List Int)
variable{ds:List L3.D}
inductive MO where
 |lst (xs:List D)|dct (kvs:List (Key×D))|dcT (kvs:List (List Key×D))|drK (kvs:List (Key×D))|drT (kvs:List (List Key×D))|dfT (o:Obj) (vs:List (List Key×V)) (kvs:List (List Key×D))|dfK (o:Obj) (vs:List (Key×V)) (kvs:List (Key×D))|ins (C:Addr) (fs:List (Str×D))|hand|tab (P:Addr) (pos:Pos) (q:Str)|dcN (sh:List Nat) (z:Option (Obj×List Nkv)) (kvs:List (List NI×D))
variable{m m':L3.MO}
abbrev Mem:=List MO
mutual
inductive Rep(C:Cf)(I:Hp)(α:List Addr):V->D->Prop where
 |non:Rep C I α .non .non
 |bl (b:Bool):Rep C I α (.bl b) (.bl b)
 |int (i:Int):Rep C I α (.int i) (.int i)
 |str (x:Str):Rep C I α (.str x) (.str x)
 |ty (n:String):Rep C I α (.ty n) (.ty n)
 |at(a:Addr):Rep C I α (.ref a) (.at a)
 |tup {a:Addr} {vs:List V} {ds:List D}:I a=some (.tup vs)->Reps C I α vs ds->Rep C I α (.ref a) (.tup ds)
 |lst {a:Addr} {vs:List V} {ds:List D}:I a=some (.lst vs)->Reps C I α vs ds->Rep C I α (.ref a) (.lst ds)
 |frz {a:Addr} {vs:List V} {ds:List D}:SqL C.k I a vs->Reps C I α vs ds->Rep C I α (.ref a) (.frz ds)
 |dct {a:Addr} {vs:List (Key×V)} {ds:List (Key×D)}:I a=some (.dK vs)->RepK C I α vs ds->Rep C I α (.ref a) (.dct ds)
 |dcT {a:Addr} {vs:List (List Key×V)} {ds:List (List Key×D)}:I a=some (.dT vs)->RepT C I α vs ds->Rep C I α (.ref a) (.dcT ds)
 |code {x:Addr} {S:List Pr}:To C.c I x S->Rep C I α (.ref x) (.code S)
 |cell {a:Addr} {k:Nat}:α[k]?=some a->Rep C I α (.ref a) (.cell k)
 |exc {ea Ce:Addr} {d:Option Addr} {vs:List (Str×V)} {fs:List (Str×D)}:I ea=some (.ext (excP ea Ce d))->XD I d vs->RepF C I α vs fs->Rep C I α (.ref ea) (.exc Ce fs)
 |nst {a:Addr} {ks:List NI}:NkAt C.k I ks a->Rep C I α (.ref a) (.nst ks)
 |itp {a:Addr} {x:List Int}:SqT C.k I a (x.map V.int)->Rep C I α (.ref a) (.itp x)
inductive Reps(C:Cf)(I:Hp)(α:List Addr):List V->List D->Prop where
 |nil:Reps C I α [] []
 |cons {v:V} {d:D} {vs:List V} {ds:List D}:Rep C I α v d->Reps C I α vs ds->Reps C I α (v::vs) (d::ds)
inductive RepK(C:Cf)(I:Hp)(α:List Addr):List (Key×V)->List (Key×D)->Prop where
 |nil:RepK C I α [] []
 |cons {k:Key} {v:V} {d:D} {vs:List (Key×V)} {ds:List (Key×D)}:Rep C I α v d->RepK C I α vs ds->RepK C I α ((k,v)::vs) ((k,d)::ds)
inductive RepF(C:Cf)(I:Hp)(α:List Addr):List (Str×V)->List (Str×D)->Prop where
 |nil:RepF C I α [] []
 |cons {k:Str} {v:V} {d:D} {vs:List (Str×V)} {ds:List (Str×D)}:Rep C I α v d->RepF C I α vs ds->RepF C I α ((k,v)::vs) ((k,d)::ds)
inductive RepT(C:Cf)(I:Hp)(α:List Addr):List (List Key×V)->List (List Key×D)->Prop where
 |nil:RepT C I α [] []
 |cons {k:List Key} {v:V} {d:D} {vs:List (List Key×V)} {ds:List (List Key×D)}:Rep C I α v d->RepT C I α vs ds->RepT C I α ((k,v)::vs) ((k,d)::ds)
end
section
variable{C:Cf} 
def Po{k:Nat}{a:Addr}(p:α<+:α')(h:α[k]?=some a):α'[k]?=some a:=by
 let⟨t,rfl⟩:=p;let⟨hk,_⟩:=Jf.mp h;rw[Js hk];exact h
mutual
theorem Rep.mono(s:Same I I')(p:α<+:α'):∀{v:V}{d:D},Rep C I α v d->Rep C I' α' v d:=by
 intro _ _ h;cases h with
 |non=>exact .non
 |bl b=>exact .bl b
 |int i=>exact .int i
 |str x=>exact .str x
 |ty n=>exact .ty n
 |«at» a=>exact .at a
 |tup e r=>exact .tup (s _ _ e) (Reps.mono s p r)
 |lst e r=>exact .lst (s _ _ e) (Reps.mono s p r)
 |frz e r=>exact .frz (s.seq e) (Reps.mono s p r)
 |dct e r=>exact .dct (s _ _ e) (RepK.mono s p r)
 |dcT e r=>exact .dcT (s _ _ e) (RepT.mono s p r)
 |code h=>exact .code (h.same s)
 |cell e=>exact .cell (Po p e)
 |exc e f r=>exact .exc (s _ _ e) (f.mono s) (RepF.mono s p r)
 |nst e=>exact .nst (e.same s)
 |itp e=>exact .itp (Zi1 s e)
theorem Reps.mono(s:Same I I')(p:α<+:α'):∀{vs:List V}{ds:List D},Reps C I α vs ds->Reps C I' α' vs ds:=by
 intro _ _ h;cases h with
 |nil=>exact .nil
 |cons h r=>exact .cons (Rep.mono s p h) (Reps.mono s p r)
theorem RepK.mono(s:Same I I')(p:α<+:α'):∀{vs:List (Key×V)}{ds:List (Key×D)},RepK C I α vs ds->RepK C I' α' vs ds:=by
 intro _ _ h;cases h with
 |nil=>exact .nil
 |cons h r=>exact .cons (Rep.mono s p h) (RepK.mono s p r)
theorem RepF.mono(s:Same I I')(p:α<+:α'):∀{vs:List (Str×V)}{ds:List (Str×D)},RepF C I α vs ds->RepF C I' α' vs ds:=by
 intro _ _ h;cases h with
 |nil=>exact .nil
 |cons h r=>exact .cons (Rep.mono s p h) (RepF.mono s p r)
theorem RepT.mono(s:Same I I')(p:α<+:α'):∀{vs:List (List Key×V)}{ds:List (List Key×D)},RepT C I α vs ds->RepT C I' α' vs ds:=by
 intro _ _ h;cases h with
 |nil=>exact .nil
 |cons h r=>exact .cons (Rep.mono s p h) (RepT.mono s p r)
end
def Reps.length:∀{vs:List V}{ds:List D},Reps C I α vs ds->vs.length=ds.length:=by
 intro _ _ hz9;cases hz9 with
 |nil=>
  exact rfl
 |cons _ r=>
  exact by rw[Ju,Ju,Reps.length r]
def Reps.get:∀{vs:List V}{ds:List D}{i:Nat}{d:D},Reps C I α vs ds->ds[i]?=some d->∃v,vs[i]?=some v/\Rep C I α v d
 |_,_,_,_,.nil,e=>by simp at e
 |_,_,0,_,.cons r _,e=>by simp at e;subst e;exists ·,r
 |_,_,i+1,d,.cons _ t,e=>by
  let⟨u,h1,h2⟩:=Reps.get (i:=i) (d:=d) t (by simpa using e);exists u,by simpa using h1,h2
def Reps.at:∀{vs:List V}{ds:List D}{i:Nat},Reps C I α vs ds->(h1:i<vs.length)->(h2:i<ds.length)->Rep C I α vs[i] ds[i]:=λ{vs ds i}r h1 h2=>by
 let⟨v,e,z⟩:=r.get (Jb h2);rw[Jb h1]at e;cases e;exact z
def Reps.app:∀{vs ws:List V}{ds es:List D},Reps C I α vs ds->Reps C I α ws es->Reps C I α (vs++ws) (ds++es):=by
 intro _ _ _ _ hz9 s;cases hz9 with
 |nil=>
  exact s
 |cons r t=>
  exact .cons r (Reps.app t s)
def Reps.one{d:D}(h:Rep C I α v d):Reps C I α [v] [d]:=.cons h .nil
instance InvR(C:Cf)(I:Hp)(α:List Addr)(v:V):D->Prop
 |.non=>v=.non
 |.bl b=>v=.bl b
 |.int i=>v=.int i
 |.str x=>v=.str x
 |.ty n=>v=.ty n
 |.at a=>v=.ref a
 |.tup ds=>∃a vs,v=.ref a/\I a=some (.tup vs)/\Reps C I α vs ds
 |.lst ds=>∃a vs,v=.ref a/\I a=some (.lst vs)/\Reps C I α vs ds
 |.frz ds=>∃a vs,v=.ref a/\SqL C.k I a vs/\Reps C I α vs ds
 |.dct ds=>∃a vs,v=.ref a/\I a=some (.dK vs)/\RepK C I α vs ds
 |.dcT ds=>∃a vs,v=.ref a/\I a=some (.dT vs)/\RepT C I α vs ds
 |.code S=>∃x,v=.ref x/\To C.c I x S
 |.cell k=>∃a,v=.ref a/\α[k]?=some a
 |.exc Ce fs=>∃ea d vs,v=.ref ea/\I ea=some (.ext (excP ea Ce d))/\XD I d vs/\RepF C I α vs fs
 |.nst ks=>∃a,v=.ref a/\NkAt C.k I ks a
 |.itp x=>∃a,v=.ref a/\SqT C.k I a (x.map V.int)
def Rep.inv{d:D}(r:Rep C I α v d):InvR C I α v d:=by
 cases r with
 |non=>rfl
 |bl b=>rfl
 |int i=>rfl
 |str x=>rfl
 |ty n=>rfl
 |«at» a=>rfl
 |tup e r=>exact⟨_,_,rfl,e,r⟩
 |lst e r=>exact⟨_,_,rfl,e,r⟩
 |frz e r=>exact⟨_,_,rfl,e,r⟩
 |dct e r=>exact⟨_,_,rfl,e,r⟩
 |dcT e r=>exact⟨_,_,rfl,e,r⟩
 |code h=>exact⟨_,rfl,h⟩
 |cell e=>exact⟨_,rfl,e⟩
 |exc e f r=>exact⟨_,_,_,rfl,e,f,r⟩
 |nst e=>exact⟨_,rfl,e⟩
 |itp e=>exact⟨_,rfl,e⟩
def Rep.cellI{a:Addr}{k:Nat}(r:Rep C I α (.ref a) (.cell k)):α[k]?=some a:=by
 let⟨_,e,h⟩:=r.inv;cases e;exact h
instance Zur(C:Cf)(I:Hp)(α:List Addr)(vs:List V):List D->Prop
 |[]=>vs=[]
 |d::ds=>∃v us,vs=v::us/\Rep C I α v d/\Reps C I α us ds
def Reps.inv(r:Reps C I α vs ds):Zur C I α vs ds:=by
 cases r with
 |nil=>rfl
 |cons h r=>exact⟨_,_,rfl,h,r⟩
def Reps.nilI(r:Reps C I α [] ds):ds=[]:=by
 cases r;rfl
@[elab_as_elim] theorem Reps.e1 {vs:List V} {d:D} {P:List V->Prop} (r:Reps C I α vs [d]) (h:∀v,Rep C I α v d->P [v]):P vs:=by
 let⟨_,_,rfl,a,r⟩:=r.inv;cases r.inv;exact h _ a
@[elab_as_elim] theorem Reps.e2 {vs:List V} {d e:D} {P:List V->Prop} (r:Reps C I α vs [d,e]) (h:∀v w,Rep C I α v d->Rep C I α w e->P [v,w]):P vs:=by
 let⟨_,_,rfl,a,r⟩:=r.inv;exact Reps.e1 (P:=λl=>P (_::l)) r λ_ b=>h _ _ a b
@[elab_as_elim] theorem Reps.e3 {vs:List V} {d e f:D} {P:List V->Prop} (r:Reps C I α vs [d,e,f]) (h:∀v w x,Rep C I α v d->Rep C I α w e->Rep C I α x f->P [v,w,x]):P vs:=by
 let⟨_,_,rfl,a,r⟩:=r.inv;exact Reps.e2 (P:=λl=>P (_::l)) r λ_ _ b c=>h _ _ _ a b c
def Reps.take:∀{vs:List V}{ds:List D}(n:Nat),Reps C I α vs ds->Reps C I α (vs.take n) (ds.take n)
 |_,_,0,_=>.nil
 |_,_,_+1,.nil=>.nil
 |_,_,n+1,.cons r t=>.cons r (Reps.take n t)
def Reps.drop:∀{vs:List V}{ds:List D}(n:Nat),Reps C I α vs ds->Reps C I α (vs.drop n) (ds.drop n)
 |_,_,0,r=>r
 |_,_,_+1,.nil=>.nil
 |_,_,n+1,.cons _ t=>Reps.drop n t
def Reps.set{d:D}(r:Rep C I α v d):∀{vs:List V}{ds:List D}(i:Nat),Reps C I α vs ds->Reps C I α (vs.set i v) (ds.set i d)
 |_,_,_,.nil=>.nil
 |_,_,0,.cons _ t=>.cons r t
 |_,_,i+1,.cons q t=>.cons q (Reps.set r i t)
def Reps.rev(h:Reps C I α vs ds):Reps C I α vs.reverse ds.reverse:=by
 let go:∀{vs ws:List V}{ds es:List D},Reps C I α vs ds->Reps C I α ws es->Reps C I α (vs.reverse++ws) (ds.reverse++es):=by
  intro vs
  induction vs with
  |nil=>intro ws ds es h1 h2;cases h1;exact h2
  |cons v vs ih =>
   intro ws ds es h1 h2;cases h1 with
   |cons a b =>
    rw[List.reverse_cons,Gc,List.reverse_cons,Gc];exact ih b (.cons a h2)
 let:=go h .nil;rwa [Jz,Jz]at this
def Reps.ints:∀(ns:List Int),Reps C I α (ns.map V.int) (ns.map D.int)
 |[]=>.nil
 |n::r=>.cons (.int n) (Reps.ints r)
def Reps.of_ints:∀{vs:List V}(ns:List Int),Reps C I α vs (ns.map D.int)->vs=ns.map V.int
 |_,[],h=>h.inv
 |_,n::r,h=>by
  let⟨_,_,rfl,a,b⟩:=h.inv;rw[Reps.of_ints r b,a.inv];rfl
end
variable{M:L3.Mem}
instance RepN(C:Cf)(I:Hp)(α:List Addr):List Nkv->List (List NI×D)->Prop:=Paired λp q=>p.1=q.1/\Rep C I α p.2.2 q.2
instance Zif(C:Cf)(I:Hp)(sh:List Nat)(vs:List Nkv):Prop:=∀x∈vs,NkAt C.k I x.1 x.2.1/\NI.shp x.1=sh
def RepN.mono{C:Cf}{vs:List Nkv}{ds:List (List NI×D)}(h:RepN C I α vs ds)(s:Same I I')(p:α<+:α'):RepN C I' α' vs ds:=Paired.mapP h λ_ _ z=>⟨z.1,z.2.mono s p⟩
def Zif.mono{C:Cf}{sh:List Nat}{vs:List Nkv}(h:Zif C I sh vs)(s:Same I I'):Zif C I' sh vs:=λx hx=>⟨(h x hx).1.same s,(h x hx).2⟩
instance MoAt(C:Cf)(I:Hp)(α:List Addr)(H:Hp)(a:Addr):MO->Prop
 |.lst ds=>∃vs,H a=some (.lst vs)/\Reps C I α vs ds
 |.dct ds=>∃vs,H a=some (.dK vs)/\RepK C I α vs ds
 |.dcT ds=>∃vs,H a=some (.dT vs)/\RepT C I α vs ds
 |.drK ds=>∃vs,Rd H a (.dK vs)/\RepK C I α vs ds
 |.drT ds=>∃vs,Rd H a (.dT vs)/\RepT C I α vs ds
 |.dfT o vs ds=>H a=some (.frz o (.dT vs))/\RepT C I α vs ds
 |.dfK o vs ds=>H a=some (.frz o (.dK vs))/\RepK C I α vs ds
 |.ins Cl fs=>∃dx vs,H a=some (.ins Cl dx vs)/\Paired (λ(p:Str×V)(q:Str×D)=>p.1=q.1/\Rep C I α p.2 q.2) vs fs
 |.hand=>∃(d k:Int)(c:Addr)(cs:List Int),H a=some (.lst [.int d,.int k,.ref c])/\I c=some (.lst (cs.map V.int))/\cs≠[]/\cs.length<=63/\0<=d/\0<=k/\∀c∈cs,0<=c
 |.dcN sh none ds=>∃vs,H a=some (.ext (dnP a vs))/\Zif C I sh vs/\RepN C I α vs ds
 |.dcN sh (some z) ds=>H a=some (.frz z.1 (.ext (dnP a z.2)))/\Zif C I sh z.2/\RepN C I α z.2 ds
 |.tab P pos q=>a=P/\∃ps,H a=some (.tbl ps)/\TriplesOk ps.toList/\(Jfm pos ps.toList=none\/∃c,Jfm pos ps.toList=some (.ref c)/\I c=some (codeφ c q))
def MoAt.some{C:Cf}{a:Addr}(h:MoAt C I α H a m):∃o,H a=some o:=by
 cases m with
 |lst ds=>obtain⟨vs,e,_⟩:=h;exists _,e
 |dct ds=>obtain⟨vs,e,_⟩:=h;exists _,e
 |dcT ds=>obtain⟨vs,e,_⟩:=h;exists _,e
 |drK ds=>obtain⟨vs,e,_⟩:=h;rcases e with e|⟨o,e⟩<;>exact⟨_,e⟩
 |drT ds=>obtain⟨vs,e,_⟩:=h;rcases e with e|⟨o,e⟩<;>exact⟨_,e⟩
 |dfT o vs ds=>exact⟨_,h.1⟩
 |dfK o vs ds=>exact⟨_,h.1⟩
 |ins Cl fs=>obtain⟨dx,vs,e,_⟩:=h;exists _,e
 |hand=>obtain⟨d,k,c,cs,e,_⟩:=h;exists _,e
 |tab P pos q=>obtain⟨_,ps,e,_⟩:=h;exists _,e
 |dcN sh z ds=>cases z with|none=>obtain⟨vs,e,_⟩:=h;exact⟨_,e⟩|some z=>exact⟨_,h.1⟩
def MoAt.mono{C:Cf}{a:Addr}(h:MoAt C I α H a m)(s:Same I I')(p:α<+:α')(e:H' a=H a):MoAt C I' α' H' a m:=by
 cases m with
 |lst ds=>obtain⟨vs,e1,r⟩:=h;exists vs,e.trans e1,r.mono s p
 |dct ds=>obtain⟨vs,e1,r⟩:=h;exists vs,e.trans e1,r.mono s p
 |dcT ds=>obtain⟨vs,e1,r⟩:=h;exists vs,e.trans e1,r.mono s p
 |drK ds=>obtain⟨vs,e1,r⟩:=h;exists vs,e1.imp (λz=>e.trans z) (λ⟨o,z⟩=>⟨o,e.trans z⟩),r.mono s p
 |drT ds=>obtain⟨vs,e1,r⟩:=h;exists vs,e1.imp (λz=>e.trans z) (λ⟨o,z⟩=>⟨o,e.trans z⟩),r.mono s p
 |dfT o vs ds=>exact⟨e.trans h.1,h.2.mono s p⟩
 |dfK o vs ds=>exact⟨e.trans h.1,h.2.mono s p⟩
 |ins Cl fs=>obtain⟨dx,vs,e1,r⟩:=h;exists dx,vs,e.trans e1,Paired.mapP r λ_ _ z=>⟨z.1,z.2.mono s p⟩
 |hand=>obtain⟨d,k,c,cs,e1,e2,r⟩:=h;exists d,k,c,cs,e.trans e1,s _ _ e2,r
 |tab P pos q =>
  let⟨eP,ps,e1,t,r⟩:=h;exists eP,ps,e.trans e1,t,?_;rcases r with r|⟨c,r1,r2⟩
  .exact .inl r
  .exact .inr ⟨c,r1,s _ _ r2⟩
 |dcN sh z ds=>cases z with
  |none=>obtain⟨vs,e1,k,r⟩:=h;exists vs,e.trans e1,k.mono s,r.mono s p
  |some z=>obtain⟨e1,k,r⟩:=h;exists e.trans e1,k.mono s,r.mono s p
abbrev X3:=Addr->List (Str×D)->Mem->Prop
variable{kx:L3.X3}
structure Anc where
 i:Hp
 a:List Addr
 xe:XK
 kx:X3
variable{Z Z':L3.Anc}
structure Rel(C:Cf)(Z:Anc)(I:Hp)(α:List Addr)(H:Hp)(M:Mem):Prop where
 ai:Same Z.i I
 aa:Z.a<+:α
 sub:Same I H
 len:α.length=M.length
 nd:α.Nodup
 cel:∀(k:Nat)(a:Addr)(m:MO),α[k]?=some a->M[k]?=some m->MoAt C I α H a m/\I a=none
section
variable{C:Cf} 
def Rel.get(R:Rel C Z I α H M){k:Nat}(h:M[k]?=some m):∃a,α[k]?=some a/\MoAt C I α H a m/\I a=none:=by
 let⟨hk,_⟩:=Jf.mp h;let hk':k < α.length:=by rw[R.len];exact hk
 exists α[k],Jb hk',R.cel k _ m (Jb hk') h
def Rel.cellNe(R:Rel C Z I α H M){k:Nat}{a p:Addr}(h:α[k]?=some a)(hp:H p=none):a≠p:=by
 let⟨hk,_⟩:=Jf.mp h;let hk':k<M.length:=by rw[<-R.len];exact hk
 let⟨o,e⟩:=(R.cel k a _ h (Jb hk')).1.some;exact Zp e hp
def Rel.new(R:Rel C Z I α H M){p:Addr}(hp:H p=none):Rel C Z (upd I p o) α (upd H p o) M/\Same I (upd I p o)/\(upd I p o) p=some o:=by
 let ip:I p=none:=R.sub.free hp;let s:Same I (upd I p o):=Zr ip;exists⟨R.ai.trans s,R.aa,λb u h=>?_,R.len,R.nd,λk a m h1 h2=>?_⟩,s,Zi
 .by_cases e:b=p
  .subst e;rw[Zi]at h⊢;exact h
  .rw[Zk e]at h⊢;exact R.sub b u h
 .let⟨a1,a2⟩:=R.cel k a m h1 h2;let ne:=R.cellNe h1 hp;exact⟨a1.mono s (Ji _) (Zk ne),by rw[Zk ne];exact a2⟩
def Rel.cell(R:Rel C Z I α H M){p:Addr}{o:HO}{m:MO}(hp:H p=none)(hm:∀H',H' p=some o->MoAt C I α H' p m):Rel C Z I (α++[p]) (upd H p o) (M++[m])/\α<+:(α++[p])/\(α++[p])[M.length]?=some p:=by
 let ip:I p=none:=R.sub.free hp;refine⟨⟨R.ai,R.aa.trans (Gx _ _),λb u h=>?_,by rw[Jc,Jc,R.len];rfl,?_,λk a x h1 h2=>?_⟩,Gx _ _,by rw[<-R.len];simp⟩
 .let ne:b≠p:=λe=>by rw[e,ip]at h;cases h
  rw[Zk ne];exact R.sub b u h
 .rw[By];exists R.nd,by simp,λa ha b hb=>?_;let⟨k,hk,rfl⟩:=Gf ha;rw[Jj.mp hb];exact R.cellNe (Jb hk) hp
 .by_cases hk:k < α.length
  .rw[Js hk]at h1;rw[Js (by rw[<-R.len];exact hk)]at h2;let⟨a1,a2⟩:=R.cel k a x h1 h2;exists a1.mono (.refl _) (Gx _ _) (Zk (R.cellNe h1 hp)),a2
  .let⟨hk2,_⟩:=Jf.mp h1;rw[Jc,Gj]at hk2;let e:k=α.length:=by lia
   subst e;let e1:(α++[p])[α.length]?=some p:=by simp
   let e2:(M++[m])[α.length]?=some m:=by rw[R.len];simp
   rw[e1]at h1;rw[e2]at h2;cases h1;cases h2;exists(hm _ Zi).mono (.refl _) (Gx _ _) rfl,ip
def Rel.put(R:Rel C Z I α H M){k:Nat}{a:Addr}(ha:α[k]?=some a)(hm:∀H',H' a=some o->MoAt C I α H' a m):Rel C Z I α (upd H a o) (M.set k m):=by
 let⟨hk,ea⟩:=Jf.mp ha;let hkM:k<M.length:=by rw[<-R.len];exact hk
 let ia:I a=none:=(R.cel k a _ ha (Jb hkM)).2;exists R.ai,R.aa,λb u h=>?_,by rw[Gi];exact R.len,R.nd,λj b x h1 h2=>?_
 .let ne:b≠a:=λe=>by rw[e,ia]at h;cases h
  rw[Zk ne];exact R.sub b u h
 .by_cases e:k=j
  .subst e;rw[ha]at h1;cases h1;rw[Jx hkM]at h2;cases h2;exists hm _ Zi,ia
  .rw[Gp e]at h2;let⟨a1,a2⟩:=R.cel j b x h1 h2;let⟨hj,eb⟩:=Jf.mp h1;let ne:b≠a:=λz=>e (by
    rw[<-ea,<-eb]at z;exact((Bi R.nd).mp z).symm)
   exists a1.mono (.refl _) (Ji _) (Zk ne),a2
end
abbrev Ev:=List (Option D)
variable{ρ:L3.Ev}
abbrev K3:=D->Mem->Prop
abbrev TE3:=Ev->Mem->K3->Prop
variable{ua ub uo:L3.TE3}
abbrev TT3:=Ev->Mem->(Bool->Mem->Prop)->Prop
abbrev TA3:=Ev->Mem->(List D->Mem->Prop)->Prop
abbrev TO3:=Ev->Mem->(Option Int->Mem->Prop)->Prop
abbrev R3:=D->D->Mem->K3->Prop
structure Ends3 where
 nx:Ev->Mem->Prop
 rt:K3
 bk:Ev->Mem->Prop:=λ_ _=>False
 ct:Ev->Mem->Prop:=λ_ _=>False
abbrev TS3:=Ends3->Ev->Mem->Prop
abbrev TG3:=D->Ev->Mem->(Ev->Mem->Prop)->Prop
abbrev TGs3:=List D->Ev->Mem->(Ev->Mem->Prop)->Prop
instance RepE(C:Cf)(I:Hp)(α:List Addr)(σ:St)(ρ:Ev):Prop:=σ.length=ρ.length/\∀(i:Nat)(d:D),ρ[i]?=some (some d)->∃v,σ[i]?=some (some v)/\Rep C I α v d
def RepE.mono{C:Cf}(h:RepE C I α σ ρ)(s:Same I I')(p:α<+:α'):RepE C I' α' σ ρ :=
 ⟨h.1,λi d e=>let⟨v,a,b⟩:=h.2 i d e;⟨v,a,b.mono s p⟩⟩
def RepE.set{C:Cf}(h:RepE C I α σ ρ){d:D}(r:Rep C I α v d)(i:Nat):RepE C I α (σ.set i (some v)) (ρ.set i (some d)):=by
 exists by rw[Gi,Gi];exact h.1,λj e q=>?_
 by_cases z:i=j
 .subst z
  by_cases hl:i < ρ.length
  .rw[Jx hl]at q;cases q;exists v,Jx (by rw[h.1];exact hl),r
  .rw[Bh (by rw[Gi];lia)]at q;cases q
 .rw[Gp z]at q⊢;exact h.2 j e q
instance Fin(C:Cf)(Z:Anc)(I:Hp)(α:List Addr)(K:K3)(Q:VK):Prop:=∀v d I' α' H' M',Same I I'->α<+:α'->Rel C Z I' α' H' M'->Rep C I' α' v d->K d M'->Q v H'
def Fin.on{C:Cf}{K:K3}{d:D}(k:Fin C Z I α K Q)(s:Same I I')(R:Rel C Z I' α H M)(r:Rep C I' α v d)(h:K d M):Q v H:=k v d I' α H M s (Ji _) R r h
def Fin.now{C:Cf}{K:K3}{d:D}(k:Fin C Z I α K Q)(R:Rel C Z I α H M)(r:Rep C I α v d)(h:K d M):Q v H:=k.on (.refl _) R r h
def Fin.mono{C:Cf}{K:K3}(h:Fin C Z I α K Q)(s:Same I I')(p:α<+:α'):Fin C Z I' α' K Q:=λv d I2 α2 H2 M2 s2 p2=>h v d I2 α2 H2 M2 (s.trans s2) (p.trans p2)
instance SimE(C:Cf)(Z:Anc)(t:TE)(u:TE3):Prop:=∀I α σ H ρ M(K:K3)(Q:VK),Rel C Z I α H M->RepE C I α σ ρ->u ρ M K->Fin C Z I α K Q->t σ H Q
instance SimT(C:Cf)(Z:Anc)(t:TT)(u:TT3):Prop:=∀I α σ H ρ M(K:Bool->Mem->Prop)(Q:Bool->Hp->Prop),Rel C Z I α H M->RepE C I α σ ρ->u ρ M K ->
 (∀b I' α' H' M',Same I I'->α<+:α'->Rel C Z I' α' H' M'->K b M'->Q b H')->t σ H Q
instance SimA(C:Cf)(Z:Anc)(t:TA)(u:TA3):Prop:=∀I α σ H ρ M(K:List D->Mem->Prop)(Q:List V->Hp->Prop),Rel C Z I α H M->RepE C I α σ ρ->u ρ M K ->
 (∀vs ds I' α' H' M',Same I I'->α<+:α'->Rel C Z I' α' H' M'->Reps C I' α' vs ds->K ds M'->Q vs H')->t σ H Q
instance SimO(C:Cf)(Z:Anc)(t:TO)(u:TO3):Prop:=∀I α σ H ρ M(K:Option Int->Mem->Prop)(Q:Option Int->Hp->Prop),Rel C Z I α H M->RepE C I α σ ρ->u ρ M K ->
 (∀b I' α' H' M',Same I I'->α<+:α'->Rel C Z I' α' H' M'->K b M'->Q b H')->t σ H Q
instance SimR(C:Cf)(Z:Anc)(r:R2)(u:R3):Prop:=∀I α H M x y d e(K:K3)(Q:VK),Rel C Z I α H M->Rep C I α x d->Rep C I α y e->u d e M K->Fin C Z I α K Q->r x y H Q
instance SimU(C:Cf)(Z:Anc)(r:V->Hp->VK->Prop)(u:D->Mem->K3->Prop):Prop:=∀I α H M x d(K:K3)(Q:VK),Rel C Z I α H M->Rep C I α x d->u d M K->Fin C Z I α K Q->r x H Q
instance SimC(C:Cf)(Z:Anc)(r:List V->Hp->VK->Prop)(u:List D->Mem->K3->Prop):Prop:=∀I α H M xs ds(K:K3)(Q:VK),Rel C Z I α H M->Reps C I α xs ds->u ds M K->Fin C Z I α K Q->r xs H Q
instance SimL(C:Cf)(Z:Anc)(r:V->Option Int->Option Int->Hp->VK->Prop)(u:D->Option Int->Option Int->Mem->K3->Prop):Prop:=∀I α H M x d lo hi(K:K3)(Q:VK),Rel C Z I α H M->Rep C I α x d->u d lo hi M K->Fin C Z I α K Q->r x lo hi H Q
instance FinS(C:Cf)(Z:Anc)(I:Hp)(α:List Addr)(K:Ev->Mem->Prop)(Q:St->Hp->Prop):Prop:=∀I' α' σ' H' ρ' M',Same I I'->α<+:α'->Rel C Z I' α' H' M'->RepE C I' α' σ' ρ'->K ρ' M'->Q σ' H'
def FinS.mono{C:Cf}{K:Ev->Mem->Prop}{Q:St->Hp->Prop}(h:FinS C Z I α K Q)(s:Same I I')(p:α<+:α'):FinS C Z I' α' K Q:=λI2 α2 σ2 H2 ρ2 M2 s2 p2=>h I2 α2 σ2 H2 ρ2 M2 (s.trans s2) (p.trans p2)
structure FinD(C:Cf)(Z:Anc)(I:Hp)(α:List Addr)(E:Ends3)(D':Ends):Prop where
 nx:FinS C Z I α E.nx D'.nx
 rt:Fin C Z I α E.rt D'.rt
 bk:FinS C Z I α E.bk D'.bk
 ct:FinS C Z I α E.ct D'.ct
def FinD.mono{C:Cf}{E:Ends3}{D':Ends}(h:FinD C Z I α E D')(s:Same I I')(p:α<+:α'):FinD C Z I' α' E D':=⟨h.nx.mono s p,h.rt.mono s p,h.bk.mono s p,h.ct.mono s p⟩
instance SimS(C:Cf)(Z:Anc)(t:TS)(u:TS3):Prop:=∀I α σ H ρ M(E:Ends3)(D':Ends),Rel C Z I α H M->RepE C I α σ ρ->u E ρ M->FinD C Z I α E D'->t D' σ H
instance SimG(C:Cf)(Z:Anc)(t:TG)(u:TG3):Prop:=∀I α σ H ρ M v d(K:Ev->Mem->Prop)(Q:St->Hp->Prop),Rel C Z I α H M->RepE C I α σ ρ->Rep C I α v d->u d ρ M K->FinS C Z I α K Q->t v σ H Q
instance Zid(C:Cf)(Z:Anc)(t:TGs)(u:TGs3):Prop:=∀I α σ H ρ M vs ds(K:Ev->Mem->Prop)(Q:St->Hp->Prop),Rel C Z I α H M->RepE C I α σ ρ->Reps C I α vs ds->u ds ρ M K->FinS C Z I α K Q->t vs σ H Q
section
variable{C:Cf}{tA tB':TT}{uA uB:TT3}{t:TA}{u:TA3}
inductive uVar(i:Nat)(ρ:Ev)(M:Mem)(K:K3):Prop
 |mk:∀d,ρ[i]?=some (some d)->K d M->uVar i ρ M K
def Z5(i:Nat):SimE C Z (tVar i) (uVar i):=λI α σ H ρ M K Q R E h k=>by
 let⟨d,e,h⟩:=h;let⟨v,e2,r⟩:=E.2 i d e;exists v,e2,k v d I α H M (.refl _) (Ji _) R r h
abbrev uC(d:D):TE3:=λ_ M K=>K d M
def Jba{d:D}(r:∀I α,Rep C I α v d):SimE C Z (tC v) (uC d):=λI α σ H ρ M K Q R E h k=>k v d I α H M (.refl _) (Ji _) R (r I α) h
def Zjf{i:Int}:SimE C Z (tC (.int i)) (uC (.int i)):=Jba λ_ _=>.int i
def s_bl{i:Bool}:SimE C Z (tC (.bl i)) (uC (.bl i)):=Jba λ_ _=>.bl i
def Ztw:SimE C Z (tC .non) (uC .non):=Jba λ_ _=>.non
def Zi6{i:Str}:SimE C Z (tC (.str i)) (uC (.str i)):=Jba λ_ _=>.str i
def s_ty{i:String}:SimE C Z (tC (.ty i)) (uC (.ty i)):=Jba λ_ _=>.ty i
def s_at{a:Addr}:SimE C Z (tC (.ref a)) (uC (.at a)):=Jba λ_ _=>.at a
abbrev Zpk(u:R3)(K:K3)(d:D):D->Mem->Prop:=λe M2=>u d e M2 K
abbrev Zpl(u:R3)(ub:TE3)(ρ:Ev)(K:K3):D->Mem->Prop:=λd M1=>ub ρ M1 (Zpk u K d)
instance uOp(u:R3)(ua ub:TE3):TE3:=λρ M K=>ua ρ M (Zpl u ub ρ K)
def s_op{u:R3}(hr:SimR C Z r u)(ha:SimE C Z ta ua)(hb:SimE C Z tb ub):SimE C Z (tOp r ta tb) (uOp u ua ub):=λI α σ H ρ M K Q R E h k =>
 ha I α σ H ρ M _ _ R E h λv d I1 α1 H1 M1 s1 p1 R1 r1 h1 =>
  hb I1 α1 σ H1 ρ M1 _ _ R1 (E.mono s1 p1) h1 λw e I2 α2 H2 M2 s2 p2 R2 r2 h2 =>
   hr I2 α2 H2 M2 v w d e K Q R2 (r1.mono s2 p2) r2 h2 (k.mono (s1.trans s2) (p1.trans p2))
abbrev Zpc(u:D->Mem->K3->Prop)(K:K3):D->Mem->Prop:=λd M1=>u d M1 K
instance uUn(u:D->Mem->K3->Prop)(ua:TE3):TE3:=λρ M K=>ua ρ M (Zpc u K)
def s_un{r:V->Hp->VK->Prop}{u:D->Mem->K3->Prop}(hr:SimU C Z r u)(ha:SimE C Z ta ua):SimE C Z (tUn r ta) (uUn u ua):=λI α σ H ρ M K Q R E h k =>
 ha I α σ H ρ M _ _ R E h λv d I1 α1 H1 M1 s1 p1 R1 r1 h1=>hr I1 α1 H1 M1 v d K Q R1 r1 h1 (k.mono s1 p1)
instance D.isN:D->Bool|.non=>true|_=>false
def Zg8{d:D}(h:Rep C I α v d):decide (v=.non)=d.isN:=by cases h<;>simp[D.isN]
abbrev Zpu(K:K3):D->Mem->Prop:=λd M1=>K (.bl d.isN) M1
instance uIsN(ua:TE3):TE3:=λρ M K=>ua ρ M (Zpu K)
abbrev Zlu(K:K3):D->Mem->Prop:=λd M1=>K (.bl (!d.isN)) M1
instance Ztb(ua:TE3):TE3:=λρ M K=>ua ρ M (Zlu K)
def Zt0(ha:SimE C Z ta ua):SimE C Z (tIsN ta) (uIsN ua):=λI α σ H ρ M K Q R E h k =>
 ha I α σ H ρ M _ _ R E h λv d I1 α1 H1 M1 s1 p1 R1 r1 h1=>by
  rw[Zg8 r1];exact k _ _ I1 α1 H1 M1 s1 p1 R1 (.bl _) h1
def Zqr(ha:SimE C Z ta ua):SimE C Z (Zqf ta) (Ztb ua):=λI α σ H ρ M K Q R E h k =>
 ha I α σ H ρ M _ _ R E h λv d I1 α1 H1 M1 s1 p1 R1 r1 h1=>by
  rw[Zg8 r1];exact k _ _ I1 α1 H1 M1 s1 p1 R1 (.bl _) h1
inductive uB3_1(K:Bool->Mem->Prop)(d:D)(M1:Mem):Prop
 |mk:∀c,d=.bl c->K c M1->uB3_1 K d M1
instance uB3(ua:TE3):TT3:=λρ M K=>ua ρ M (uB3_1 K)
def s_b(ha:SimE C Z ta ua):SimT C Z (tB ta) (uB3 ua):=λI α σ H ρ M K Q R E h k =>
 ha I α σ H ρ M _ _ R E h λv d I1 α1 H1 M1 s1 p1 R1 r1 h1=>by
  let⟨c,e,h1⟩:=h1;subst e;cases r1.inv;exists c,rfl,k c I1 α1 H1 M1 s1 p1 R1 h1
def Zkx(ha:SimE C Z ta ua):SimT C Z (Zqc ta) (uB3 ua):=s_b ha
abbrev Zp3(uB:TT3)(ρ:Ev)(K:Bool->Mem->Prop):Bool->Mem->Prop:=λc M1=>if c=true then uB ρ M1 K else K false M1
instance uAnd(uA uB:TT3):TT3:=λρ M K=>uA ρ M (Zp3 uB ρ K)
abbrev Zta(uB:TT3)(ρ:Ev)(K:Bool->Mem->Prop):Bool->Mem->Prop:=λc M1=>if c=true then K true M1 else uB ρ M1 K
instance uOr(uA uB:TT3):TT3:=λρ M K=>uA ρ M (Zta uB ρ K)
abbrev Zpm(K:Bool->Mem->Prop):Bool->Mem->Prop:=λc M1=>K (!c) M1
instance uNot(uA:TT3):TT3:=λρ M K=>uA ρ M (Zpm K)
def Zt5(ha:SimT C Z tA uA)(hb:SimT C Z tB' uB):SimT C Z (tAnd tA tB') (uAnd uA uB):=λI α σ H ρ M K Q R E h k =>
 ha I α σ H ρ M _ _ R E h λc I1 α1 H1 M1 s1 p1 R1 h1=>by
  cases c with
  |true =>
   exact hb I1 α1 σ H1 ρ M1 _ _ R1 (E.mono s1 p1) h1 λb I2 α2 H2 M2 s2 p2 R2 h2=>k b I2 α2 H2 M2 (s1.trans s2) (p1.trans p2) R2 h2
  |false =>
   exact k false I1 α1 H1 M1 s1 p1 R1 h1
def s_or(ha:SimT C Z tA uA)(hb:SimT C Z tB' uB):SimT C Z (tOr tA tB') (uOr uA uB):=λI α σ H ρ M K Q R E h k =>
 ha I α σ H ρ M _ _ R E h λc I1 α1 H1 M1 s1 p1 R1 h1=>by
  cases c with
  |false =>
   exact hb I1 α1 σ H1 ρ M1 _ _ R1 (E.mono s1 p1) h1 λb I2 α2 H2 M2 s2 p2 R2 h2=>k b I2 α2 H2 M2 (s1.trans s2) (p1.trans p2) R2 h2
  |true =>
   exact k true I1 α1 H1 M1 s1 p1 R1 h1
def Zmn(ha:SimT C Z tA uA):SimT C Z (tNot tA) (uNot uA):=λI α σ H ρ M K Q R E h k =>
 ha I α σ H ρ M _ _ R E h λc I1 α1 H1 M1 s1 p1 R1 h1=>k _ I1 α1 H1 M1 s1 p1 R1 h1
inductive uAndV_1(ub:TE3)(ρ:Ev)(K:K3)(d:D)(M1:Mem):Prop
 |mk:∀c,d=.bl c->(if c=true then ub ρ M1 K else K (.bl false) M1)->uAndV_1 ub ρ K d M1
instance Ztq(ua ub:TE3):TE3:=λρ M K=>ua ρ M (uAndV_1 ub ρ K)
def Zq3(ha:SimE C Z ta ua)(hb:SimE C Z tb ub):SimE C Z (Zqj ta tb) (Ztq ua ub):=λI α σ H ρ M K Q R E h k =>
 ha I α σ H ρ M _ _ R E h λv d I1 α1 H1 M1 s1 p1 R1 r1 h1=>by
  let⟨c,e,h1⟩:=h1;subst e;cases r1.inv;exists c,rfl,?_;cases c with
  |true =>
   exact hb I1 α1 σ H1 ρ M1 _ _ R1 (E.mono s1 p1) h1 (k.mono s1 p1)
  |false =>
   exact k _ _ I1 α1 H1 M1 s1 p1 R1 (.bl _) h1
abbrev uNil:TA3:=λ_ M K=>K [] M
abbrev Ze6(K:List D->Mem->Prop)(d:D):List D->Mem->Prop:=λds M2=>K (d::ds) M2
abbrev Zbc(u:TA3)(ρ:Ev)(K:List D->Mem->Prop):D->Mem->Prop:=λd M1=>u ρ M1 (Ze6 K d)
instance Ztm(ua:TE3)(u:TA3):TA3:=λρ M K=>ua ρ M (Zbc u ρ K)
def Xn:SimA C Z tNil uNil:=λI α σ H ρ M K Q R E h k=>k [] [] I α H M (.refl _) (Ji _) R .nil h
def Ya(ha:SimE C Z ta ua)(hr:SimA C Z t u):SimA C Z (Zmf ta t) (Ztm ua u):=λI α σ H ρ M K Q R E h k =>
 ha I α σ H ρ M _ _ R E h λv d I1 α1 H1 M1 s1 p1 R1 r1 h1 =>
  hr I1 α1 σ H1 ρ M1 _ _ R1 (E.mono s1 p1) h1 λvs ds I2 α2 H2 M2 s2 p2 R2 r2 h2 =>
   k (v::vs) (d::ds) I2 α2 H2 M2 (s1.trans s2) (p1.trans p2) R2 (.cons (r1.mono s2 p2) r2) h2
abbrev Zpd(K:K3):List D->Mem->Prop:=λds M1=>ds.length<=Cb/\K (.tup ds) M1
instance uTup(u:TA3):TE3:=λρ M K=>u ρ M (Zpd K)
def Zml(ha:SimA C Z t u):SimE C Z (tTup t) (uTup u):=λI α σ H ρ M K Q R E h k =>
 ha I α σ H ρ M _ _ R E h λvs ds I1 α1 H1 M1 s1 p1 R1 r1 h1=>by
  exists by rw[r1.length];exact h1.1,λp hp=>?_;let⟨R2,s2,e2⟩:=R1.new (o:=.tup vs) hp;exact k _ _ _ α1 _ M1 (s1.trans s2) p1 R2 (.tup e2 (r1.mono s2 (Ji _))) h1.2
abbrev Zpt(K:K3):List D->Mem->Prop:=λds M1=>ds.length<=Cb/\K (.lst ds) M1
instance uLst(u:TA3):TE3:=λρ M K=>u ρ M (Zpt K)
def Zmp(ha:SimA C Z t u):SimE C Z (tLst t) (uLst u):=λI α σ H ρ M K Q R E h k =>
 ha I α σ H ρ M _ _ R E h λvs ds I1 α1 H1 M1 s1 p1 R1 r1 h1=>by
  exists by rw[r1.length];exact h1.1,λp hp=>?_;let⟨R2,s2,e2⟩:=R1.new (o:=.lst vs) hp;exact k _ _ _ α1 _ M1 (s1.trans s2) p1 R2 (.lst e2 (r1.mono s2 (Ji _))) h1.2
abbrev Zly(K:K3):List D->Mem->Prop:=λds M1=>ds.length<=Cb/\K (.cell M1.length) (M1++[.lst ds])
instance Ztd(u:TA3):TE3:=λρ M K=>u ρ M (Zly K)
def Zc1(ha:SimA C Z t u):SimE C Z (tLst t) (Ztd u):=λI α σ H ρ M K Q R E h k =>
 ha I α σ H ρ M _ _ R E h λvs ds I1 α1 H1 M1 s1 p1 R1 r1 h1=>by
  exists by rw[r1.length];exact h1.1,λp hp=>?_;let⟨R2,p2,e2⟩:=R1.cell (o:=.lst vs) (m:=.lst ds) hp λH' e=>⟨vs,e,r1⟩;exact k _ _ I1 _ _ _ s1 (p1.trans p2) R2 (.cell e2) h1.2
abbrev Zl8(r:List D->Mem->K3->Prop)(K:K3):List D->Mem->Prop:=λds M1=>r ds M1 K
instance uCB(r:List D->Mem->K3->Prop)(u:TA3):TE3:=λρ M K=>u ρ M (Zl8 r K)
def s_cb{r:List V->Hp->VK->Prop}{r3:List D->Mem->K3->Prop}(hr:SimC C Z r r3)(ha:SimA C Z t u):SimE C Z (tCB r t) (uCB r3 u):=λI α σ H ρ M K Q R E h k =>
 ha I α σ H ρ M _ _ R E h λvs ds I1 α1 H1 M1 s1 p1 R1 r1 h1=>hr I1 α1 H1 M1 vs ds K Q R1 r1 h1 (k.mono s1 p1)
abbrev Zlv:TO3:=λ_ M K=>K none M
inductive uPart_1(K:Option Int->Mem->Prop)(d:D)(M1:Mem):Prop
 |mk:∀i,d=.int i->K (some i) M1->uPart_1 K d M1
instance Zs9(ua:TE3):TO3:=λρ M K=>ua ρ M (uPart_1 K)
def Zjc:SimO C Z Zfd Zlv:=λI α σ H ρ M K Q R E h k=>k none I α H M (.refl _) (Ji _) R h
def Zqq(ha:SimE C Z ta ua):SimO C Z (Zqe ta) (Zs9 ua):=λI α σ H ρ M K Q R E h k =>
 ha I α σ H ρ M _ _ R E h λv d I1 α1 H1 M1 s1 p1 R1 r1 h1=>by
  let⟨i,e,h1⟩:=h1;subst e;cases r1.inv;exists i,rfl,k (some i) I1 α1 H1 M1 s1 p1 R1 h1
abbrev Zpf(r:D->Option Int->Option Int->Mem->K3->Prop)(K:K3)(d:D)(l:Option Int):Option Int->Mem->Prop:=λg M3=>r d l g M3 K
abbrev Zpg(r:D->Option Int->Option Int->Mem->K3->Prop)(uh:TO3)(ρ:Ev)(K:K3)(d:D):Option Int->Mem->Prop:=λl M2=>uh ρ M2 (Zpf r K d l)
abbrev Zph(r:D->Option Int->Option Int->Mem->K3->Prop)(ul:TO3)(uh:TO3)(ρ:Ev)(K:K3):D->Mem->Prop:=λd M1=>ul ρ M1 (Zpg r uh ρ K d)
instance uSl(r:D->Option Int->Option Int->Mem->K3->Prop)(ua:TE3)(ul uh:TO3):TE3:=λρ M K=>ua ρ M (Zph r ul uh ρ K)
def s_sl{r:V->Option Int->Option Int->Hp->VK->Prop}{r3:D->Option Int->Option Int->Mem->K3->Prop}{tl th:TO}{ul uh:TO3}(hr:SimL C Z r r3)(ha:SimE C Z ta ua)(hl:SimO C Z tl ul)(hh:SimO C Z th uh):SimE C Z (tSl r ta tl th) (uSl r3 ua ul uh):=λI α σ H ρ M K Q R E h k =>
 ha I α σ H ρ M _ _ R E h λv d I1 α1 H1 M1 s1 p1 R1 r1 h1 =>
  hl I1 α1 σ H1 ρ M1 _ _ R1 (E.mono s1 p1) h1 λlo I2 α2 H2 M2 s2 p2 R2 h2 =>
   hh I2 α2 σ H2 ρ M2 _ _ R2 (E.mono (s1.trans s2) (p1.trans p2)) h2 λhi I3 α3 H3 M3 s3 p3 R3 h3 =>
    hr I3 α3 H3 M3 v d lo hi K Q R3 (r1.mono (s2.trans s3) (p2.trans p3)) h3 (k.mono (s1.trans (s2.trans s3)) (p1.trans (p2.trans p3)))
abbrev Ztp(r:D->List D->Mem->K3->Prop)(K:K3)(d:D):List D->Mem->Prop:=λds M2=>r d ds M2 K
end
instance Vd(M:Mem):D->Option (List D)
 |.lst ds=>some ds
 |.frz ds=>some ds
 |.cell k=>match M[k]? with|some (.lst ds)=>some ds|_=>none
 |_=>none
instance lsOf(M:Mem):D->Option (List D)
 |.lst ds=>some ds
 |.cell k=>match M[k]? with|some (.lst ds)=>some ds|_=>none
 |_=>none
instance Zmb:D->Option (List D)
 |.tup ds=>some ds
 |_=>none
instance Qj(M:Mem):D->Option (List D)
 |.tup ds=>some ds
 |d=>Vd M d
section
variable{C:Cf}{d:D} 
def Ni(R:Rel C Z I α H M){k:Nat}{a:Addr}(e:α[k]?=some a)(h:M[k]?=some (.lst ds)):∃vs,H a=some (.lst vs)/\Reps C I α vs ds:=(R.cel k a _ e h).1
def nos{b:τ}{P:Prop}(h:none=some b):P:=nomatch h
def Zor{k:Nat}(h:lsOf M (.cell k)=some ds):M[k]?=some (.lst ds):=by
 revert h
 show(match M[k]? with|some (.lst ds)=>some ds|_=>none)=some ds->_;cases M[k]? with
 |none=>exact nos
 |some m=>cases m<;>first|exact nos|exact λh=>by cases h;rfl
def Pu(R:Rel C Z I α H M)(r:Rep C I α v d)(h:lsOf M d=some ds):∃a vs,v=.ref a/\H a=some (.lst vs)/\Reps C I α vs ds:=by
 cases d<;>first|exact nos h|skip
 .let⟨a,vs,e,f,r⟩:=r.inv;cases h;exists a,vs,e,R.sub _ _ f,r
 .let⟨a,e,f⟩:=r.inv;let⟨vs,e1,r⟩:=Ni R f (Zor h);exists a,vs,e,e1,r
def Tb(R:Rel C Z I α H M)(r:Rep C I α v d)(h:Vd M d=some ds):∃a vs,v=.ref a/\SqL C.k H a vs/\Reps C I α vs ds:=by
 let go:lsOf M d=some ds->∃a vs,v=.ref a/\SqL C.k H a vs/\Reps C I α vs ds:=λh=>by
  let⟨a,vs,e,f,r⟩:=Pu R r h;exists a,vs,e,SqL.of f,r
 cases d<;>first|exact nos h|exact go h|skip;let⟨a,vs,e,f,r⟩:=r.inv;cases h;exact⟨a,vs,e,R.sub.seq f,r⟩
def Uk(R:Rel C Z I α H M)(r:Rep C I α v d)(h:Zmb d=some ds):∃a vs,v=.ref a/\H a=some (.tup vs)/\I a=some (.tup vs)/\Reps C I α vs ds:=by
 cases d<;>first|exact nos h|skip;let⟨a,vs,e,f,r⟩:=r.inv;cases h;exact⟨a,vs,e,R.sub _ _ f,f,r⟩
def Zcz(R:Rel C Z I α H M)(r:Rep C I α v d)(h:Qj M d=some ds):∃a vs,v=.ref a/\(SqL C.k H a vs\/SqT C.k H a vs)/\Reps C I α vs ds:=by
 let go:Vd M d=some ds->∃a vs,v=.ref a/\(SqL C.k H a vs\/SqT C.k H a vs)/\Reps C I α vs ds:=λh=>by
  let⟨a,vs,e,f,r⟩:=Tb R r h;exists a,vs,e,.inl f,r
 cases d<;>first|exact go h|skip;let⟨a,vs,e,f,_,r⟩:=Uk R r h;exact⟨a,vs,e,.inr (SqT.of f),r⟩
end
instance cut(xs:List τ)(lo hi:Option Int):List τ:=(xs.drop (HT.sIx xs.length 0 lo)).take (HT.sIx xs.length xs.length hi-HT.sIx xs.length 0 lo)
def Reps.cut{C:Cf}(r:Reps C I α vs ds)(lo hi:Option Int):Reps C I α (cutV vs lo hi) (cut ds lo hi):=by
 unfold cutV L3.cut;rw[r.length];exact(r.drop _).take _
def Wf{υ:Type}(f:τ->υ)(xs:List τ)(lo hi:Option Int):cut (xs.map f) lo hi=(cut xs lo hi).map f:=by
 unfold cut;rw[Ja,Bj,Fe]
def Reps.atI{C:Cf}{i:Int}{d:D}(r:Reps C I α vs ds)(h:atI ds i=some d):∃v,L2.atI vs i=some v/\Rep C I α v d:=by
 unfold L2.atI at h⊢;rw[r.length];cases e:ixN ds.length i with
 |none=>rw[e]at h;cases h
 |some j =>
  rw[e]at h;exact r.get (i:=j) h
section
variable{C:Cf} 
def OpR.or{f:Ca->Ca->Sem Ca}{r':R2}(h:OpR X f r)(h':OpR X f r'):OpR X f (λx y H Q=>r x y H Q\/r' x y H Q):=by
 intro pq s σ H x y v u Q I rx ry q;rcases q with q|q
 .exact h pq s σ H x y v u Q I rx ry q
 .exact h' pq s σ H x y v u Q I rx ry q
def SlR.or{r r':V->Option Int->Option Int->Hp->VK->Prop}(h:SlR X r)(h':SlR X r'):SlR X (λx l u H Q=>r x l u H Q\/r' x l u H Q):=by
 intro pq s σ H x v vl vu lo hi sl Q I rx hs pl pu q;rcases q with q|q
 .exact h pq s σ H x v vl vu lo hi sl Q I rx hs pl pu q
 .exact h' pq s σ H x v vl vu lo hi sl Q I rx hs pl pu q
instance Zm2:R2:=λx y H Q=>∃i j,x=.str i/\y=.str j/\i.length+j.length<=Cb/\Q (.str (i++j)) H
instance Zm5(K:Cs):R2:=λx y H Q=>rI0 (λi j=>.int (i+j)) x y H Q\/Zm2 x y H Q\/rCat x y H Q\/Zjl K x y H Q
def Yw(h:X.K=K'):OpR X (Hd .Add) (Zm5 K'):=by
 subst h;exact OpR.or X6 (OpR.or Zee (OpR.or Zad Zbs))
instance add3:R3:=λd e M K=>match d,e with
 |.int i,.int j=>K (.int (i+j)) M
 |.str a,.str b=>a.length+b.length<=Cb/\K (.str (a++b)) M
 |.tup xs,.tup ys=>(xs≠[]/\xs.length+ys.length<=Cb)/\K (.tup (xs++ys)) M
 |d,e=>∃xs ys,lsOf M d=some xs/\lsOf M e=some ys/\xs.length+ys.length<=Cb/\K (.lst (xs++ys)) M
def Zoz{x y:V}{d e:D}{K:K3}(R:Rel C Z I α H M)(r1:Rep C I α x d)(r2:Rep C I α y e)(h:∃xs ys,lsOf M d=some xs/\lsOf M e=some ys/\xs.length+ys.length<=Cb/\K (.lst (xs++ys)) M)(k:Fin C Z I α K Q):Zm5 C.k x y H Q:=by
 let⟨xs,ys,e1,e2,hl,h⟩:=h;let⟨a,vs,rfl,ea,ra⟩:=Pu R r1 e1;let⟨b,ws,rfl,eb,rb⟩:=Pu R r2 e2;refine .inr (.inr (.inl ⟨a,b,vs,ws,rfl,rfl,ea,eb,by rw[ra.length,rb.length];exact hl,λp hp=>?_⟩));let⟨R2,s2,e2⟩:=R.new (o:=.lst (vs++ws)) hp;exact k.on s2 R2 (.lst e2 ((ra.app rb).mono s2 (Ji _))) h
def Zjh:SimR C Z (Zm5 C.k) add3:=λI α H M x y d e K Q R r1 r2 h k=>by
 let go:=λh=>Zoz R r1 r2 h k;cases d with
 |int i =>
  cases e with
  |int j=>cases r1.inv;cases r2.inv;exact .inl ⟨i,j,rfl,rfl,k.now R (.int _) h⟩
  |_=>exact go h
 |str a =>
  cases e with
  |str b=>cases r1.inv;cases r2.inv;exact .inr (.inl ⟨a,b,rfl,rfl,h.1,k.now R (.str _) h.2⟩)
  |_=>exact go h
 |tup xs =>
  cases e with
  |tup ys =>
   let⟨⟨h1,h2⟩,h⟩:=h;let⟨a,vs,rfl,ea,ia,ra⟩:=Uk R r1 rfl;let⟨b,ws,rfl,eb,ib,rb⟩:=Uk R r2 rfl;refine .inr (.inr (.inr ⟨a,b,vs,ws,rfl,rfl,SqT.of ea,SqT.of eb,λz=>?_,by rw[ra.length,rb.length];exact h2,λz=>?_,λ_ p hp=>?_⟩))
   .subst z;exact h1 ra.nilI
   .subst z;cases rb.nilI;rw[Jz]at h;exact k.now R r1 h
   .let⟨R2,s2,e2⟩:=R.new (o:=.tup (vs++ws)) hp;exact k.on s2 R2 (.tup e2 ((ra.app rb).mono s2 (Ji _))) h
  |_=>exact go h
 |_=>exact go h
inductive int3(c:Int->Int->Prop)(g:Int->Int->D)(d:D)(e:D)(M:Mem)(K:K3):Prop
 |mk:∀i j,d=.int i->e=.int j->c i j->K (g i j) M->int3 c g d e M K
inductive int30(g:Int->Int->D)(d:D)(e:D)(M:Mem)(K:K3):Prop
 |mk:∀i j,d=.int i->e=.int j->K (g i j) M->int30 g d e M K
def Jbx{c:Int->Int->Prop}{g:Int->Int->V}{g3:Int->Int->D}(hg:∀I α i j,Rep C I α (g i j) (g3 i j)):SimR C Z (rI c g) (int3 c g3):=λI α H M x y d e K Q R r1 r2 h k=>by
 let⟨i,j,rfl,rfl,hc,h⟩:=h;cases r1.inv;cases r2.inv;exists i,j,rfl,rfl,hc,k.now R (hg _ _ _ _) h
def Zjb{g:Int->Int->V}{g3:Int->Int->D}(hg:∀I α i j,Rep C I α (g i j) (g3 i j)):SimR C Z (rI0 g) (int30 g3):=λI α H M x y d e K Q R r1 r2 h k=>by
 let⟨i,j,rfl,rfl,h⟩:=h;cases r1.inv;cases r2.inv;exists i,j,rfl,rfl,k.now R (hg _ _ _ _) h
def Ztt:SimR C Z (rI0 λi j=>.int (i-j)) (int30 λi j=>.int (i-j)):=Zjb λ_ _ _ _=>.int _
def Zty:SimR C Z (rI (λ_ j=>0<j) λi j=>.int (i % j)) (int3 (λ_ j=>0<j) λi j=>.int (i % j)):=Jbx λ_ _ _ _=>.int _
def Ztv:SimR C Z (rI CPow λi j=>.int (i ^ j.toNat)) (int3 CPow λi j=>.int (i ^ j.toNat)):=Jbx λ_ _ _ _=>.int _
def s_lt:SimR C Z (rI0 λi j=>.bl (decide (i<j))) (int30 λi j=>.bl (decide (i<j))):=Zjb λ_ _ _ _=>.bl _
def s_gt:SimR C Z (rI0 λi j=>.bl (decide (j<i))) (int30 λi j=>.bl (decide (j<i))):=Zjb λ_ _ _ _=>.bl _
def s_ge:SimR C Z (rI0 λi j=>.bl (decide (j<=i))) (int30 λi j=>.bl (decide (j<=i))):=Zjb λ_ _ _ _=>.bl _
inductive neg3(d:D)(M:Mem)(K:K3):Prop
 |mk:∀i,d=.int i->K (.int (-i)) M->neg3 d M K
def Ztx:SimU C Z (rU λi=>.int (-i)) neg3:=λI α H M x d K Q R r h k=>by
 let⟨i,rfl,h⟩:=h;cases r.inv;exists i,rfl,k.now R (.int _) h
instance Zm4:R2:=λx y H Q=>rI CMul (λi j=>.int (i*j)) x y H Q\/rRep x y H Q
def Qr:OpR X (Hd .Mult) Zm4:=OpR.or Ul Zrk
instance mul3:R3:=λd e M K=>match d,e with
 |.int i,.int j=>CMul i j/\K (.int (i*j)) M
 |d,e=>∃xs k,lsOf M d=some xs/\e=.int k/\(-(2 ^ 63)<=k/\k<2 ^ 63/\xs.length*k.toNat<=Cb)/\K (.lst (Cm k.toNat xs).flatten) M
def Reps.rep(r:Reps C I α vs ds):∀n,Reps C I α (Cm n vs).flatten (Cm n ds).flatten
 |0=>.nil
 |n+1=>by
  rw[G2,G2,Bl,Bl];exact r.app (Reps.rep r n)
def Zqs:SimR C Z Zm4 mul3:=λI α H M x y d e K Q R r1 r2 h k=>by
 let go:(∃xs k,lsOf M d=some xs/\e=.int k/\(-(2 ^ 63)<=k/\k<2 ^ 63/\xs.length*k.toNat<=Cb)/\K (.lst (Cm k.toNat xs).flatten) M)->Zm4 x y H Q:=λh=>by
  let⟨xs,j,e1,rfl,⟨h1,h2,h3⟩,h⟩:=h;cases r2.inv;let⟨a,vs,rfl,ea,ra⟩:=Pu R r1 e1;refine .inr ⟨a,j,vs,rfl,rfl,ea,h1,h2,by rw[ra.length];exact h3,λp hp=>?_⟩;let⟨R2,s2,e2⟩:=R.new (o:=.lst (Cm j.toNat vs).flatten) hp;exact k.on s2 R2 (.lst e2 ((ra.rep _).mono s2 (Ji _))) h
 cases d with
 |int i =>
  cases e with
  |int j=>cases r1.inv;cases r2.inv;exact .inl ⟨i,j,rfl,rfl,h.1,k.now R (.int _) h.2⟩
  |_=>exact go h
 |_=>exact go h
def Z8(h:X.K=K'):IxR X (rIx K'):=by subst h;exact Zr0
instance ix3:R3:=λd e M K=>match d with
 |.str z=>∃i c,e=.int i/\z.length<=Cb/\L2.atI z.cps.toList i=some c/\K (.str ⟨#[c]⟩) M
 |d=>∃xs i v,Qj M d=some xs/\e=.int i/\L2.atI xs i=some v/\K v M
def s_ix:SimR C Z (rIx C.k) ix3:=λI α H M x y d e K Q R r1 r2 h k=>by
 let go:(∃xs i v,Qj M d=some xs/\e=.int i/\L2.atI xs i=some v/\K v M)->rIx C.k x y H Q:=λh=>by
  let⟨xs,i,w,e1,rfl,e3,hk⟩:=h;let⟨a,vs,e,ea,ra⟩:=Zcz R r1 e1;let⟨v,e4,rv⟩:=ra.atI e3;let q:=k.now R rv hk;exact ea.elim (λea=>.inl ⟨a,vs,i,v,e,r2.inv,ea,e4,q⟩) λea=>.inr (.inl ⟨a,vs,i,v,e,r2.inv,ea,e4,q⟩)
 cases d<;>first|exact go h|skip;let⟨i,c,rfl,h1,h2,h⟩:=h;exact .inr (.inr ⟨_,i,c,r1.inv,r2.inv,h1,h2,k.now R (.str _) h⟩)
instance rSlU(K:Cs):V->Option Int->Option Int->Hp->VK->Prop:=λx l u H Q=>rSlL K x l u H Q\/rSlW K x l u H Q\/rSlS x l u H Q
def Wi(h:X.K=K'):SlR X (rSlU K'):=by subst h;exact SlR.or Tq (SlR.or Zfr Zqn)
instance sl3:D->Option Int->Option Int->Mem->K3->Prop:=λd lo hi M K=>match d with
 |.str z=>z.length<=Cb/\K (.str (Txt.slice z lo hi)) M
 |.tup xs=>K (.tup (cut xs lo hi)) M
 |d=>∃xs,Vd M d=some xs/\K (.lst (cut xs lo hi)) M
def Reps.inj_cut(r:Reps C I α vs ds)(h:cutV vs lo hi=vs):L3.cut ds lo hi=ds:=by
 let hl:(cutV vs lo hi).length=vs.length:=by rw[h]
 unfold cutV at hl;rw[J0,Gb]at hl;unfold L3.cut;rw[r.length]at hl;generalize HT.sIx ds.length 0 lo=a at *
 generalize HT.sIx ds.length ds.length hi=b at *
 by_cases hd:ds.length=0
 .rw[List.length_eq_zero_iff.mp hd];simp
 .let:a=0:=by lia
  subst this;rw[Fb,G8];lia
def Ztu:SimL C Z (rSlU C.k) sl3:=λI α H M x d lo hi K Q R r1 h k=>by
 let go:(∃xs,Vd M d=some xs/\K (.lst (cut xs lo hi)) M)->rSlU C.k x lo hi H Q:=λh=>by
  let⟨xs,e1,h⟩:=h;let⟨a,vs,rfl,ea,ra⟩:=Tb R r1 e1;refine .inl ⟨a,vs,rfl,ea,λp hp=>?_⟩;let⟨R2,s2,e2⟩:=R.new (o:=.lst (cutV vs lo hi)) hp;exact k.on s2 R2 (.lst e2 ((ra.cut lo hi).mono s2 (Ji _))) h
 cases d with
 |str z=>cases r1.inv;exact .inr (.inr ⟨z,rfl,h.1,k.now R (.str _) h.2⟩)
 |tup xs =>
  let⟨a,vs,rfl,ea,ia,ra⟩:=Uk R r1 rfl;refine .inr (.inl ⟨a,vs,rfl,SqT.of ea,λz=>?_,λp hp=>?_⟩)
  .let h2:K (.tup (cut xs lo hi)) M:=h;rw[ra.inj_cut z]at h2;exact k.now R r1 h2
  .let⟨R2,s2,e2⟩:=R.new (o:=.tup (cutV vs lo hi)) hp;exact k.on s2 R2 (.tup e2 ((ra.cut lo hi).mono s2 (Ji _))) h
 |_=>exact go h
end
mutual
inductive PyR(M:Mem):D->PyData->Prop where
 |non:PyR M .non .none
 |bl (b:Bool):PyR M (.bl b) (.bool b)
 |int (i:Int):PyR M (.int i) (.int i)
 |str (x:Str):PyR M (.str x) (.str x)
 |seq {d:D} {ds:List D} {ps:List PyData}:Vd M d=some ds->PyRs M ds ps->PyR M d (.list ps)
 |tup {ds:List D} {ps:List PyData}:PyRs M ds ps->PyR M (.tup ds) (.tuple ps)
inductive PyRs(M:Mem):List D->List PyData->Prop where
 |nil:PyRs M [] []
 |cons {d:D} {p:PyData} {ds:List D} {ps:List PyData}:PyR M d p->PyRs M ds ps->PyRs M (d::ds) (p::ps)
end
section
variable{C:Cf} 
mutual
theorem Zgd(R:Rel C Z I α H M):∀{v:V}{d:D}{p:PyData},PyR M d p->Rep C I α v d->DV C.k H v p:=by
 intro _ _ _ hz9 r;cases hz9 with
 |non=>
  exact by cases r.inv;exact .non
 |bl b=>
  exact by cases r.inv;exact .bl b
 |int b=>
  exact by cases r.inv;exact .int b
 |str b=>
  exact by cases r.inv;exact .str b
 |seq e q=>
  exact by
    let⟨a,vs,rfl,ea,ra⟩:=Tb R r e;exact .lst ea (pys_dv R q ra)
 |tup q=>
  exact by
    let⟨a,vs,rfl,ea,_,ra⟩:=Uk R r rfl;exact .tup (SqT.of ea) (pys_dv R q ra)
theorem pys_dv(R:Rel C Z I α H M):∀{vs:List V}{ds:List D}{ps:List PyData},PyRs M ds ps->Reps C I α vs ds->DVs C.k H vs ps:=by
 intro _ _ _ hz9 r;cases hz9 with
 |nil=>
  exact by cases r.inv;exact .nil
 |cons a b=>
  exact by
    cases r with
    |cons r1 r2=>exact .cons (Zgd R a r1) (pys_dv R b r2)
end
end
instance eqS:D->D->Option Bool
 |.non,.non=>some true|.non,.int _=>some false|.int _,.non=>some false|.non,.bl _=>some false|.bl _,.non=>some false|.non,.str _=>some false|.str _,.non=>some false
 |.int i,.int j=>some (decide (i=j))|.bl i,.bl j=>some (decide (i=j))|.str i,.str j=>some (decide (i=j))
 |.int _,.str _=>some false|.str _,.int _=>some false|.bl _,.str _=>some false|.str _,.bl _=>some false
 |_,_=>none
instance eqV(d e:D)(M:Mem)(K:Bool->Prop):Prop:=(∃b,eqS d e=some b/\K b)\/∃p q,PyR M d p/\PyR M e q/\Hl p=true/\Hl q=true/\K (Ed p q)
instance eq3:R3:=λd e M K=>eqV d e M λb=>K (.bl b) M
instance ne3:R3:=λd e M K=>eqV d e M λb=>K (.bl (!b)) M
section
variable{C:Cf} 
instance rEqU(K:Cs):R2:=λx y H Q=>rEq x y H Q\/rEqD K x y H Q
instance rNeU(K:Cs):R2:=λx y H Q=>rNe x y H Q\/rNeD K x y H Q
def Xg(h:X.K=K')(hu:X.A.units+64<Md):OpR X (E8 .Eq) (rEqU K'):=by subst h;exact OpR.or Zjy (Zgv hu)
def Ze3(h:X.K=K')(hu:X.A.units+64<Md):OpR X (E8 .NotEq) (rNeU K'):=by subst h;exact OpR.or Zuc (Zrl hu)
instance scl:D->Option V
 |.non=>some .non|.bl b=>some (.bl b)|.int i=>some (.int i)|.str x=>some (.str x)
 |_=>none
def Zfy{x:V}{d:D}(r:Rep C I α v d)(h:scl d=some x):v=x:=by
 cases d<;>first|exact nos h|exact(show v=_ from r.inv).trans (Fu h)
instance SclE(d e:D)(b:Bool):Prop:=∃x y,scl d=some x/\scl e=some y/\scal x y=true/\decide (x=y)=b
def Zr7{d e:D}{x y:V}{b:Bool}(h1:scl d=some x)(h2:scl e=some y)(h3:scal x y=true)(hn:x≠y)(h:some false=some b):SclE d e b:=⟨x,y,h1,h2,h3,by rw[Ft hn];exact Fu h⟩
def Zoj{d e:D}{b:Bool}(h:eqS d e=some b):SclE d e b:=by
 cases d<;>first|exact nos h|(cases e<;>first|exact nos h|exact Zr7 rfl rfl rfl nofun h|exact⟨_,_,rfl,rfl,rfl,Eq.trans (by simp) (Fu h)⟩)
def Zhm{x y:V}{d e:D}{b:Bool}(r1:Rep C I α x d)(r2:Rep C I α y e)(h:eqS d e=some b):scal x y=true/\decide (x=y)=b:=by
 let⟨u,v,e1,e2,h⟩:=Zoj h;rw[Zfy r1 e1,Zfy r2 e2];exact h
def s_eq:SimR C Z (rEqU C.k) eq3:=λI α H M x y d e K Q R r1 r2 h k=>by
 rcases h with⟨b,eb,h⟩|⟨p,q,h1,h2,h3,h4,h⟩
 .let⟨z1,z2⟩:=Zhm r1 r2 eb;exact .inl ⟨z1,by rw[z2];exact k.now R (.bl _) h⟩
 .exact .inr ⟨p,q,Zgd R h1 r1,Zgd R h2 r2,h3,h4,k.now R (.bl _) h⟩
def s_ne:SimR C Z (rNeU C.k) ne3:=λI α H M x y d e K Q R r1 r2 h k=>by
 rcases h with⟨b,eb,h⟩|⟨p,q,h1,h2,h3,h4,h⟩
 .let⟨z1,z2⟩:=Zhm r1 r2 eb;exact .inl ⟨z1,by rw[z2];exact k.now R (.bl _) h⟩
 .exact .inr ⟨p,q,Zgd R h1 r1,Zgd R h2 r2,h3,h4,k.now R (.bl _) h⟩
end
structure Enc(τ:Type)[DecidableEq τ] where
 e:τ->D
 py:τ->PyData
 n:Nat
 ok:∀M a,PyR M (e a) (py a)
 shp:∀a,Shp n (py a)
 eq:∀a b,Ed (py a) (py b)=decide (a=b)
 hn:n<=60
def Nd[DecidableEq τ]{f:τ->PyData}(h:∀a b,Ed (f a) (f b)=decide (a=b)):∀(a b:List τ),C4 (a.map f) (b.map f)=decide (a=b)
 |[],[]=>by simp[C4]
 |[],_::_=>by simp[C4]
 |_::_,[]=>by simp[C4]
 |a::r,b::t=>by
  rw[Jk,Jk,C4,h,Nd h r t];simp
def Tt{e:τ->D}{py:τ->PyData}(h:∀a,PyR M (e a) (py a)):∀as:List τ,PyRs M (as.map e) (as.map py)
 |[]=>.nil
 |a::r=>.cons (h a) (Tt h r)
instance We:Enc Int:=⟨.int,.int,0,λ_=>.int,Pk,λa b=>by rw[Ed,Jc7],nofun⟩
instance Zar[DecidableEq τ](E:Enc τ)(h:E.n<=50:=by decide):Enc (List τ) where
 e as:=.lst (as.map E.e)
 py as:=.list (as.map E.py)
 n:=E.n+1
 ok:=λM as=>.seq rfl (Tt (E.ok M) as)
 shp:=λas=>Sk λd hd=>by
  let⟨a,_,rfl⟩:=Jn.mp hd;exact E.shp a
 eq:=λa b=>by rw[Ed,Nd E.eq]
 hn:=by lia
instance Rw[DecidableEq τ](E:Enc τ)(h:E.n<=50:=by decide):Enc (List τ) where
 e as:=.tup (as.map E.e)
 py as:=.tuple (as.map E.py)
 n:=E.n+1
 ok:=λM as=>.tup (Tt (E.ok M) as)
 shp:=λas=>X8 λd hd=>by
  let⟨a,_,rfl⟩:=Jn.mp hd;exact E.shp a
 eq:=λa b=>by rw[Ed,Nd E.eq]
 hn:=by lia
def Zfu{n m:Nat}{d:PyData}(h:Shp n d)(l:n<=m):Shp m d:=⟨h.1,Ga h.2 l⟩
instance Zuo{υ:Type}[DecidableEq τ][DecidableEq υ](E:Enc τ)(F:Enc υ)(h:E.n<=50:=by decide)(h':F.n<=50:=by decide):Enc (τ×υ) where
 e p:=.tup [E.e p.1,F.e p.2]
 py p:=.tuple [E.py p.1,F.py p.2]
 n:=max E.n F.n+1
 ok:=λM p=>.tup (.cons (E.ok M _) (.cons (F.ok M _) .nil))
 shp:=λp=>X8 λd hd=>by
  rcases Jp.mp hd with z|hd
  .rw[z];exact Zfu (E.shp _) (Nat.le_max_left _ _)
  .rw[Jj.mp hd];exact Zfu (F.shp _) (Nat.le_max_right _ _)
 eq:=λa b=>by
  let⟨a1,a2⟩:=a;let⟨b1,b2⟩:=b;rw[Ed,C4,C4,C4,E.eq,F.eq];simp
 hn:=by lia
def Rv[DecidableEq τ](E:Enc τ){a b:τ}{K:Bool->Prop}(h:K (decide (a=b))):eqV (E.e a) (E.e b) M K :=
 .inr ⟨_,_,E.ok M a,E.ok M b,(E.shp a).shaped (by have:=E.hn;lia),(E.shp b).shaped (by have:=E.hn;lia),by rw[E.eq];exact h⟩
def Vw[DecidableEq τ](E:Enc τ){d d':D}{a b:List τ}{K:Bool->Prop}(h1:Vd M d=some (a.map E.e))(h2:Vd M d'=some (b.map E.e))(h:K (decide (a=b)))(hn:E.n<=50:=by decide):eqV d d' M K :=
 .inr ⟨_,_,.seq h1 (Tt (E.ok M) a),.seq h2 (Tt (E.ok M) b),((Zar E hn).shp a).shaped (by have:=(Zar E hn).hn;lia),((Zar E hn).shp b).shaped (by have:=(Zar E hn).hn;lia),by
  let:=(Zar E hn).eq a b;rw[show Ed (Jhv (a.map E.py)) (Jhv (b.map E.py))=decide (a=b)from this];exact h⟩
inductive Ty3 where
 |non|bool|int|str|list|tuple|dict
 deriving DecidableEq
instance tyN:Ty3->String
 |.non=>"NoneType" |.bool=>"bool" |.int=>"int" |.str=>"str" |.list=>"list" |.tuple=>"tuple" |.dict=>"dict"
instance tyOf(M:Mem):D->Option Ty3
 |.non=>some .non|.bl _=>some .bool|.int _=>some .int|.str _=>some .str|.lst _=>some .list|.tup _=>some .tuple|.dct _=>some .dict|.dcT _=>some .dict
 |.cell k=>match M[k]? with|some (.lst _)=>some .list|some (.dct _)=>some .dict|some (.dcT _)=>some .dict|_=>none
 |_=>none
instance isS:Ty3->Ty3->Bool
 |.bool,.int=>true
 |a,b=>decide (a=b)
section
variable{C:Cf} 
def Zn0(s t:Ty3)(ht:t≠.non):Eg C.k (.type (tyN s)) (.type (tyN t))=some (isS s t):=by
 cases t with
 |non=>exact Fh rfl ht
 |_=>cases s<;>rfl
def Zp5{d:D}{s:Ty3}(R:Rel C Z I α H M)(r:Rep C I α v d)(h:tyOf M d=some s):TyOf C.k H v (.type (tyN s)):=by
 let i:=r.inv;cases d<;>first|exact nos h|skip
 all_goals first|(cases h;let⟨_,_,rfl,e,_⟩:=i;let e:=R.sub _ _ e;first|exact .lst e|exact .tup e|exact .dK e|exact .dT e)|(cases h;cases i;first|exact .non|exact .bl _|exact .int _|exact .str _)|skip
 skip;rename_i k
 let⟨a,rfl,e⟩:=i;let go:∀m,M[k]?=some m->MoAt C I α H a m:=λm hm=>(R.cel k a _ e hm).1
 revert h go
 show(match M[k]? with|some (.lst _)=>some Ty3.list|some (.dct _)=>some .dict|some (.dcT _)=>some .dict|_=>none)=some s->_;cases M[k]? with
 |none=>exact nos
 |some m =>
  intro h go;let g:=go m rfl;cases m<;>first|exact nos h|(cases h;let⟨vs,e,_⟩:=g;first|exact .lst e|exact .dK e|exact .dT e)
inductive isi3(T:Ty3)(ds:List D)(M:Mem)(K:K3):Prop
 |mk:∀d s,ds=[d,.ty (tyN T)]->tyOf M d=some s->K (.bl (isS s T)) M->isi3 T ds M K
def Zje{T:Ty3}(hT:T≠.non:=by decide):SimC C Z (rIsi C.k) (isi3 T):=λI α H M xs ds K Q R r h k=>by
 let⟨d,s,rfl,e,h⟩:=h;refine Reps.e2 r λ_ _ r1 r2=>?_;cases r2.inv;exists _,_,_,·,Zp5 R r1 e,Zn0 s T hT,k.now R (.bl _) h
instance len3:List D->Mem->K3->Prop:=λds M K=>match ds with
 |[.str z]=>z.length<=Cb/\K (.int z.length) M
 |[d]=>∃xs,Qj M d=some xs/\K (.int xs.length) M
 |_=>False
def Zjd:SimC C Z (rLen C.k) len3:=λI α H M xs ds K Q R r h k=>by
 let go:∀d v,Rep C I α v d->(∃xs,Qj M d=some xs/\K (.int xs.length) M)->rLen C.k [v] H Q:=λd v r h=>by
  let⟨ys,e1,h⟩:=h;let⟨a,vs,e,ea,ra⟩:=Zcz R r e1;rw[<-ra.length]at h;exists _,·,e ▸ ea.elim (λz=>.inl ⟨_,z,rfl⟩) λz=>.inr ⟨_,z,rfl⟩,k.now R (.int _) h
 match ds,h with
 |[],h=>exact h.elim
 |[d],h =>
  refine Reps.e1 r λv r1=>?_;cases d<;>first|exact go _ _ r1 h|skip;exact⟨_,_,rfl,r1.inv ▸ ⟨h.1,rfl⟩,k.now R (.int _) h.2⟩
 |d::_::_,h=>cases d<;>exact h.elim
inductive list3(ds:List D)(M:Mem)(K:K3):Prop
 |mk:∀d xs,ds=[d]->Qj M d=some xs->K (.lst xs) M->list3 ds M K
inductive list3C(ds:List D)(M:Mem)(K:K3):Prop
 |mk:∀d xs,ds=[d]->Qj M d=some xs->K (.cell M.length) (M++[.lst xs])->list3C ds M K
def Zqx:SimC C Z (Zbn C.k) list3:=λI α H M xs ds K Q R r h k=>by
 let⟨d,ys,rfl,e,h⟩:=h;refine Reps.e1 r λ_ r1=>?_;let⟨a,vs,rfl,ea,ra⟩:=Zcz R r1 e;exists a,vs,rfl,ea,λp hp=>?_;let⟨R2,s2,e2⟩:=R.new (o:=.lst vs) hp;exact k.on s2 R2 (.lst e2 (ra.mono s2 (Ji _))) h
def Zbj:SimC C Z (Zbn C.k) list3C:=λI α H M xs ds K Q R r h k=>by
 let⟨d,ys,rfl,e,h⟩:=h;refine Reps.e1 r λ_ r1=>?_;let⟨a,vs,rfl,ea,ra⟩:=Zcz R r1 e;exists a,vs,rfl,ea,λp hp=>?_;let⟨R2,p2,e2⟩:=R.cell (o:=.lst vs) (m:=.lst ys) hp λH' e=>⟨vs,e,ra⟩;exact k _ _ I _ _ _ (.refl _) p2 R2 (.cell e2) h
inductive tuple3(ds:List D)(M:Mem)(K:K3):Prop
 |mk:∀d xs,ds=[d]->Qj M d=some xs->K (.tup xs) M->tuple3 ds M K
def Zbh:SimC C Z (Zk1 C.k) tuple3:=λI α H M xs ds K Q R r h k=>by
 let⟨d,ys,rfl,e,h⟩:=h;refine Reps.e1 r λ_ r1=>?_
 by_cases ht:∃zs,d=.tup zs
 .let⟨zs,rfl⟩:=ht;cases e;let⟨a,vs,rfl,ea,_,ra⟩:=Uk R r1 rfl;exists a,vs,rfl,.inr ⟨SqT.of ea,k.now R r1 h⟩
 .let e1':Vd M d=some ys:=by
   cases d with
   |tup ys=>exact Fh ⟨ys,rfl⟩ ht
   |_=>exact e
  let⟨a,vs,rfl,ea,ra⟩:=Tb R r1 e1';exists a,vs,rfl,.inl ⟨ea,λp hp=>?_⟩;let⟨R2,s2,e2⟩:=R.new (o:=.tup vs) hp;exact k.on s2 R2 (.tup e2 (ra.mono s2 (Ji _))) h
inductive one3(f:Int->D)(ds:List D)(M:Mem)(K:K3):Prop
 |mk:∀i,ds=[.int i]->K (f i) M->one3 f ds M K
inductive two3(f:Int->Int->D)(ds:List D)(M:Mem)(K:K3):Prop
 |mk:∀i j,ds=[.int i,.int j]->K (f i j) M->two3 f ds M K
def Zt6:SimC C Z (λxs H Q=>∃i,xs=[.int i]/\Q (.int (if i<0 then -i else i)) H) (one3 λi=>.int (if i<0 then -i else i)):=λI α H M xs ds K Q R r h k=>by
 let⟨i,rfl,h⟩:=h;refine Reps.e1 r λ_ r1=>?_;cases r1.inv;exists i,rfl,k.now R (.int _) h
def Zqv:SimC C Z (λxs H Q=>∃i j,xs=[.int i,.int j]/\Q (.int (if j > i then j else i)) H) (two3 λi j=>.int (if j > i then j else i)):=λI α H M xs ds K Q R r h k=>by
 let⟨i,j,rfl,h⟩:=h;refine Reps.e2 r λ_ _ r1 r2=>?_;cases r1.inv;cases r2.inv;exists i,j,rfl,k.now R (.int _) h
def Zqt:SimC C Z (λxs H Q=>∃i j,xs=[.int i,.int j]/\Q (.int (if j<i then j else i)) H) (two3 λi j=>.int (if j<i then j else i)):=λI α H M xs ds K Q R r h k=>by
 let⟨i,j,rfl,h⟩:=h;refine Reps.e2 r λ_ _ r1 r2=>?_;cases r1.inv;cases r2.inv;exists i,j,rfl,k.now R (.int _) h
instance toI:D->Option Int
 |.int i=>some i
 |.bl b=>some (if b then 1 else 0)
 |_=>none
inductive intOf3(ds:List D)(M:Mem)(K:K3):Prop
 |mk:∀d i,ds=[d]->toI d=some i->K (.int i) M->intOf3 ds M K
def Zmt:SimC C Z (λxs H Q=>(∃i,xs=[.int i]/\Q (.int i) H)\/∃k,xs=[.bl k]/\Q (.int (if k then 1 else 0)) H) intOf3:=λI α H M xs ds K Q R r h k=>by
 let⟨d,i,rfl,e,h⟩:=h;refine Reps.e1 r λ_ r1=>?_;cases d<;>first|exact nos e|skip
 .cases e;exact .inr ⟨_,by rw[r1.inv],k.now R (.int _) h⟩
 .cases e;exact .inl ⟨_,by rw[r1.inv],k.now R (.int _) h⟩
def Reps.of_bls :∀{vs:List V}(bs:List Bool),Reps C I α vs (bs.map D.bl)->vs=bs.map V.bl
 |_,[],h=>h.inv
 |_,n::r,h=>by
  let⟨_,_,rfl,a,b⟩:=h.inv;rw[Reps.of_bls r b,a.inv];rfl
inductive any3(ds:List D)(M:Mem)(K:K3):Prop
 |mk:∀(d:D)(bs:List Bool),ds=[d]->Vd M d=some (bs.map D.bl)->K (.bl (bs.any id)) M->any3 ds M K
def Zt4:SimC C Z (λxs H Q=>∃(p:Addr)(bs:List Bool),xs=[.ref p]/\SqL C.k H p (bs.map V.bl)/\Q (.bl (bs.any id)) H) any3:=λI α H M xs ds K Q R r h k=>by
 let⟨d,bs,rfl,e,h⟩:=h;refine Reps.e1 r λ_ r1=>?_;let⟨a,vs,rfl,ea,ra⟩:=Tb R r1 e;rw[ra.of_bls bs]at ea;exists a,bs,rfl,ea,k.now R (.bl _) h
def Rel.putL(R:Rel C Z I α H M){k:Nat}{a:Addr}(ha:α[k]?=some a)(r:Reps C I α vs ds):Rel C Z I α (upd H a (.lst vs)) (M.set k (.lst ds)) :=
 R.put (m:=.lst ds) ha λH' e=>⟨vs,e,r⟩
def Zma{a:Addr}(e:H a=some (.lst vs)):tyV C.k "list" (.ref a) H:=.inl ⟨rfl,vs,SqL.of e⟩
inductive app3(d:D)(ds:List D)(M:Mem)(K:K3):Prop
 |mk:∀k xs y,d=.cell k->ds=[y]->M[k]?=some (.lst xs)->xs.length<Cb->K .non (M.set k (.lst (xs++[y])))->app3 d ds M K
variable{t:TA}{u:TA3}
abbrev Zp2(r:D->List D->Mem->K3->Prop)(u:TA3)(ρ:Ev)(K:K3):D->Mem->Prop:=λd M1=>lsOf M1 d≠none/\u ρ M1 (Ztp r K d)
instance uBML(r:D->List D->Mem->K3->Prop)(uo:TE3)(u:TA3):TE3:=λρ M K=>uo ρ M (Zp2 r u ρ K)
def Zc5(ho:SimE C Z to uo)(ha:SimA C Z t u):SimE C Z (tBM C.k "list" Zbo to t) (uBML app3 uo u):=λI α σ H ρ M K Q R E h k =>
 ho I α σ H ρ M _ _ R E h λv d I1 α1 H1 M1 s1 p1 R1 r1 h1=>by
  let⟨hn,h1⟩:=h1;cases hl:lsOf M1 d with
  |none=>exact Fh hl hn
  |some zs =>
   let⟨a,vs,rfl,ea,ra⟩:=Pu R1 r1 hl;exists Zma ea,ha I1 α1 σ H1 ρ M1 _ _ R1 (E.mono s1 p1) h1 λws ds I2 α2 H2 M2 s2 p2 R2 r2 h2=>?_;let⟨j,xs,y,rfl,rfl,e1,hz,h2⟩:=h2;refine Reps.e1 r2 λ_ ry=>?_;let ec:=(r1.mono s2 p2).cellI;let⟨us,eu,ru⟩:=Ni R2 ec e1;exists a,us,·,rfl,eu,by rw[ru.length];exact hz,?_;exact k _ _ I2 α2 _ _ (s1.trans s2) (p1.trans p2) (R2.putL ec (ru.app (.one ry))) .non h2
end
instance Ym(n:Nat)(d:D):Prop:=∀C I α v,Rep C I α v d->Rep C I (α.take n) v d
instance Xm(n:Nat)(m:MO):Prop:=∀C I α H a,MoAt C I α H a m->MoAt C I (α.take n) H a m
inductive BelowE(n:Nat):Ev->Ev->Prop where
 |nil:BelowE n [] []
 |skip {o:Option D} {r r':Ev}:BelowE n r r'->BelowE n (o::r) (none::r')
 |keep {d:D} {r r':Ev}:Ym n d->BelowE n r r'->BelowE n (some d::r) (some d::r')
inductive BelS(n:Nat):Ev->Ev->Ev->Prop where
 |nil:BelS n [] [] []
 |skip {o0 o:Option D} {r0 r r':Ev}:BelS n r0 r r'->BelS n (o0::r0) (o::r) (none::r')
 |same {d:D} {r0 r r':Ev}:BelS n r0 r r'->BelS n (some d::r0) (some d::r) (some d::r')
 |keep {o0:Option D} {d:D} {r0 r r':Ev}:Ym n d->BelS n r0 r r'->BelS n (o0::r0) (some d::r) (some d::r')
instance Dr(ρ0:Ev)(M0:Mem)(P:Ev->Mem->Prop)(ρ:Ev)(M:Mem):Prop:=P ρ M\/(∃ρ',(∃X,M=M0++X)/\BelS M0.length ρ0 ρ ρ'/\P ρ' M0)\/∃n ρ',M0.length<=n/\BelowE n ρ ρ'/\(∀m∈M.take n,Xm n m)/\P ρ' (M.take n)
instance Dk(n0:Nat)(K:K3):K3:=λd M=>K d M\/∃n,n0<=n/\Ym n d/\(∀m∈M.take n,Xm n m)/\K d (M.take n)
section
variable{C:Cf} 
def BelowE.rep{n:Nat}{ρ':Ev}(b:BelowE n ρ ρ'):∀{σ:St},RepE C I α σ ρ->RepE C I (α.take n) σ ρ':=by
 induction b with
 |nil=>exact λh=>⟨h.1,λi d e=>by simp at e⟩
 | @skip o r r' b ih =>
  intro σ h;cases σ with
  |nil=>cases h.1
  |cons s σ =>
   let h':RepE C I α σ r:=⟨by simpa using h.1,λi d e=>by
    let⟨v,a,b⟩:=h.2 (i+1) d (by simpa using e);exact⟨v,by simpa using a,b⟩⟩
   let⟨l,g⟩:=ih h';exists by rw[Ju,Ju,l],λi d e=>?_;cases i with
   |zero=>simp at e
   |succ i =>
    let⟨v,a,b⟩:=g i d (by simpa using e);exists v,by simpa using a,b
 | @keep d0 r r' hb b ih =>
  intro σ h;cases σ with
  |nil=>cases h.1
  |cons s σ =>
   let h':RepE C I α σ r:=⟨by simpa using h.1,λi d e=>by
    let⟨v,a,b⟩:=h.2 (i+1) d (by simpa using e);exact⟨v,by simpa using a,b⟩⟩
   let⟨l,g⟩:=ih h';exists by rw[Ju,Ju,l],λi d e=>?_;cases i with
   |zero =>
    let⟨v,a,b⟩:=h.2 0 d e;simp at e;subst e;exists v,a,hb _ _ _ _ b
   |succ i =>
    let⟨v,a,b⟩:=g i d (by simpa using e);exists v,by simpa using a,b
def Sn{α0:List Addr}(p:α0<+:α){n:Nat}(h:α0.length<=n):α0<+:α.take n:=by
 let⟨t,rfl⟩:=p;rw[List.take_append,G8 h];exact Gx _ _
def Rel.take(R:Rel C Z I α H M)(n:Nat)(hz:Z.a.length<=n)(hb:∀m∈M.take n,Xm n m):Rel C Z I (α.take n) H (M.take n):=by
 refine⟨R.ai,Sn R.aa hz,R.sub,by rw[J0,J0,R.len],R.nd.sublist (List.take_sublist _ _),λk a m h1 h2=>?_⟩;let h1':α[k]?=some a:=by
  rw[Mb]at h1
  split at h1
  .exact h1
  .cases h1
 let h2':M[k]?=some m:=by
  rw[Mb]at h2
  split at h2
  .exact h2
  .cases h2
 let⟨a1,a2⟩:=R.cel k a m h1' h2';exists hb m (Gq h2) _ _ _ _ _ a1,a2
def Fin.dk{K:K3}(k:Fin C Z I α K Q){n0:Nat}(hn:α.length=n0)(ha:Z.a<+:α):Fin C Z I α (Dk n0 K) Q:=λv d I' α' H' M' s p R r h=>by
 rcases h with h|⟨n,hl,hb,hm,h⟩
 .exact k v d I' α' H' M' s p R r h
 .exact k v d I' (α'.take n) H' (M'.take n) s (Sn p ()) (R.take n (by have:=ha.length_le;lia) hm) (hb _ _ _ _ r) h
end
def Zia{n:Nat}{i:Int}:Ym n (.int i):=λ_ _ _ _ r=>by cases r.inv;exact .int _
def Zkj{n:Nat}{i:Bool}:Ym n (.bl i):=λ_ _ _ _ r=>by cases r.inv;exact .bl _
def Za4{n:Nat}{i:Str}:Ym n (.str i):=λ_ _ _ _ r=>by cases r.inv;exact .str _
def Zh6{n:Nat}:Ym n .non:=λ_ _ _ _ r=>by cases r.inv;exact .non
def Zes{n:Nat} :Ym n (.code S):=λ_ _ _ _ r=>by cases r with|code h=>exact .code h
def Pb{n k:Nat}(h:k<n):Ym n (.cell k):=λ_ _ α _ r=>by
 let⟨_,rfl,e⟩:=r.inv;exact .cell (by rw[Mb,Fp h];exact e)
def Tm{n:Nat}(h:∀d∈ds,Ym n d){C:Cf} :∀{vs:List V},Reps C I α vs ds->Reps C I (α.take n) vs ds:=by
 induction ds with
 |nil=>intro vs r;cases r.inv;exact .nil
 |cons d ds ih =>
  intro vs r;cases r with
  |cons a b=>exact .cons (h d Jo _ _ _ _ a) (ih (λx hx=>h x (Jm _ hx)) b)
def Zh8{n:Nat}(h:∀d∈ds,Ym n d):Ym n (.lst ds):=λ_ _ _ _ r=>by cases r with|lst e r=>exact .lst e (Tm h r)
def Zib{n:Nat}(h:∀d∈ds,Ym n d):Ym n (.frz ds):=λ_ _ _ _ r=>by cases r with|frz e r=>exact .frz e (Tm h r)
def Zh4{n:Nat}(h:∀d∈ds,Ym n d):Ym n (.tup ds):=λ_ _ _ _ r=>by cases r with|tup e r=>exact .tup e (Tm h r)
def Zh5{n:Nat}{ks:List NI}:Ym n (.nst ks):=λ_ _ _ _ r=>by cases r with|nst e=>exact .nst e
def Zh9{n:Nat}{x:List Int}:Ym n (.itp x):=λ_ _ _ _ r=>by cases r with|itp e=>exact .itp e
def Zh7{n:Nat}:∀d∈([]:List D),Ym n d:=λ_ h=>nomatch h
def Zer{n:Nat}{d:D}(h:Ym n d)(r:∀d∈ds,Ym n d):∀x∈d::ds,Ym n x:=λx hx=>by
 rcases Jp.mp hx with z|z
 .rw[z];exact h
 .exact r x z
def Zou{n:Nat}:Xm n .hand:=λ_ _ _ _ _ h=>h
def Zsh{n:Nat}{P:Addr}{p:Pos} :Xm n (.tab P p q):=λ_ _ _ _ _ h=>h
def Zlk{n:Nat}(h:∀d∈ds,Ym n d):Xm n (.lst ds):=λ_ _ _ _ _ x=>by
 let⟨vs,e,r⟩:=x;exists vs,e,Tm h r
instance WfM(M:Mem):Prop:=∀m∈M,Xm M.length m
def Tj{n:Nat}{kvs:List (Key×D)}(h:∀kv∈kvs,Ym n kv.2){C:Cf} :∀{vs:List (Key×V)},RepK C I α vs kvs->RepK C I (α.take n) vs kvs:=by
 induction kvs with
 |nil=>intro vs r;cases r;exact .nil
 |cons d ds ih =>
  intro vs r;cases r with
  |cons a b=>exact .cons (h _ Jo _ _ _ _ a) (ih (λx hx=>h x (Jm _ hx)) b)
def Tl{n:Nat}{kvs:List (List Key×D)}(h:∀kv∈kvs,Ym n kv.2){C:Cf} :∀{vs:List (List Key×V)},RepT C I α vs kvs->RepT C I (α.take n) vs kvs:=by
 induction kvs with
 |nil=>intro vs r;cases r;exact .nil
 |cons d ds ih =>
  intro vs r;cases r with
  |cons a b=>exact .cons (h _ Jo _ _ _ _ a) (ih (λx hx=>h x (Jm _ hx)) b)
def Zic{n:Nat}{kvs:List (Str×D)}(h:∀kv∈kvs,Ym n kv.2){C:Cf} :∀{vs:List (Str×V)},RepF C I α vs kvs->RepF C I (α.take n) vs kvs:=by
 induction kvs with
 |nil=>intro vs r;cases r;exact .nil
 |cons d ds ih =>
  intro vs r;cases r with
  |cons a b=>exact .cons (h _ Jo _ _ _ _ a) (ih (λx hx=>h x (Jm _ hx)) b)
mutual
theorem Rep.bel{C:Cf}{I:Hp}{α:List Addr}:∀{v:V}{d:D},Rep C I α v d->Ym α.length d:=by
 intro _ _ h;cases h with
 |non=>exact Zh6
 |bl b=>exact Zkj
 |int i=>exact Zia
 |str x=>exact Za4
 |ty n=>exact λ_ _ _ _ r=>by cases r.inv;exact .ty _
 |«at» a=>exact λ_ _ _ _ r=>by cases r.inv;exact .at _
 |tup e r=>exact Zh4 (Reps.bel r)
 |lst e r=>exact Zh8 (Reps.bel r)
 |frz e r=>exact Zib (Reps.bel r)
 |dct e r=>exact λ_ _ _ _ q=>by cases q with|dct e q=>exact .dct e (Tj (RepK.bel r) q)
 |dcT e r=>exact λ_ _ _ _ q=>by cases q with|dcT e q=>exact .dcT e (Tl (RepT.bel r) q)
 |code h=>exact Zes
 |cell e=>exact Pb (Jf.mp e).1
 |exc e f r=>exact λ_ _ _ _ q=>by cases q with|exc e f q=>exact .exc e f (Zic (RepF.bel r) q)
 |nst e=>exact Zh5
 |itp e=>exact Zh9
theorem Reps.bel{C:Cf}{I:Hp}{α:List Addr}:∀{vs:List V}{ds:List D},Reps C I α vs ds->∀d∈ds,Ym α.length d:=by
 intro _ _ h;cases h with
 |nil=>exact Zh7
 |cons h r=>exact Zer (Rep.bel h) (Reps.bel r)
theorem RepK.bel{C:Cf}{I:Hp}{α:List Addr}:∀{vs:List (Key×V)}{ds:List (Key×D)},RepK C I α vs ds->∀kv∈ds,Ym α.length kv.2:=by
 intro _ _ h;cases h with
 |nil=>exact λ_ h=>nomatch h
 |cons h r =>
  exact λkv hk=>by
   rcases Jp.mp hk with z|z
   .rw[z];exact Rep.bel h
   .exact RepK.bel r kv z
theorem RepF.bel{C:Cf}{I:Hp}{α:List Addr}:∀{vs:List (Str×V)}{ds:List (Str×D)},RepF C I α vs ds->∀kv∈ds,Ym α.length kv.2:=by
 intro _ _ h;cases h with
 |nil=>exact λ_ h=>nomatch h
 |cons h r =>
  exact λkv hk=>by
   rcases Jp.mp hk with z|z
   .rw[z];exact Rep.bel h
   .exact RepF.bel r kv z
theorem RepT.bel{C:Cf}{I:Hp}{α:List Addr}:∀{vs:List (List Key×V)}{ds:List (List Key×D)},RepT C I α vs ds->∀kv∈ds,Ym α.length kv.2:=by
 intro _ _ h;cases h with
 |nil=>exact λ_ h=>nomatch h
 |cons h r =>
  exact λkv hk=>by
   rcases Jp.mp hk with z|z
   .rw[z];exact Rep.bel h
   .exact RepT.bel r kv z
end
def Zsn{n:Nat}{ds:List (Key×D)}(h:∀d∈ds,Ym n d.2):Xm n (.dct ds):=λ_ _ _ _ _ x=>by
 let⟨vs,e,r⟩:=x;exists vs,e,Tj h r
def Zso{n:Nat}{ds:List (List Key×D)}(h:∀d∈ds,Ym n d.2):Xm n (.dcT ds):=λ_ _ _ _ _ x=>by
 let⟨vs,e,r⟩:=x;exists vs,e,Tl h r
def Zsk{n:Nat}{ds:List (Key×D)}(h:∀d∈ds,Ym n d.2):Xm n (.drK ds):=λ_ _ _ _ _ x=>by
 let⟨vs,e,r⟩:=x;exists vs,e,Tj h r
def Zsj{n:Nat}{ds:List (List Key×D)}(h:∀d∈ds,Ym n d.2):Xm n (.drT ds):=λ_ _ _ _ _ x=>by
 let⟨vs,e,r⟩:=x;exists vs,e,Tl h r
def Zsl{n:Nat}{o:Obj}{vs:List (List Key×V)}{ds:List (List Key×D)}(h:∀d∈ds,Ym n d.2):Xm n (.dfT o vs ds):=λ_ _ _ _ _ x=>⟨x.1,Tl h x.2⟩
def Zsm{n:Nat}{o:Obj}{vs:List (Key×V)}{ds:List (Key×D)}(h:∀d∈ds,Ym n d.2):Xm n (.dfK o vs ds):=λ_ _ _ _ _ x=>⟨x.1,Tj h x.2⟩
def RepN.bel{C:Cf}{vs:List Nkv}{ds:List (List NI×D)}(r:RepN C I α vs ds):∀kv∈ds,Ym α.length kv.2:=by
 induction r with
 |nil=>exact λ_ h=>nomatch h
 |cons h r ih=>exact λkv hk=>(Jp.mp hk).elim (λz=>by rw[z];exact h.2.bel) (ih kv)
def Za5{n:Nat}{kvs:List (List NI×D)}(h:∀kv∈kvs,Ym n kv.2){C:Cf}{vs:List Nkv}(r:RepN C I α vs kvs):RepN C I (α.take n) vs kvs:=by
 induction r with
 |nil=>exact .nil
 |cons a b ih=>exact .cons ⟨a.1,h _ Jo _ _ _ _ a.2⟩ (ih λx hx=>h x (Jm _ hx))
def Zll{n:Nat}{sh:List Nat}{z:Option (Obj×List Nkv)}{ds:List (List NI×D)}(h:∀d∈ds,Ym n d.2):Xm n (.dcN sh z ds):=λ_ _ _ _ _ x=>by
 cases z with
 |none=>obtain⟨vs,e,k,r⟩:=x;exists vs,e,k,Za5 h r
 |some z=>exact⟨x.1,x.2.1,Za5 h x.2.2⟩
def Zsi{n:Nat}{fs:List (Str×D)}(h:∀d∈fs,Ym n d.2):Xm n (.ins Cl fs):=λC I α H a x=>by
 let⟨dx,vs,e,r⟩:=x;exists dx,vs,e,?_;clear e
 induction fs generalizing vs with
 |nil=>cases r;exact .nil
 |cons d ds ih =>
  cases r with
  |cons a b=>exact .cons ⟨a.1,h _ Jo _ _ _ _ a.2⟩ (ih (λx hx=>h x (Jm _ hx)) _ b)
def Xm.up{n m:Nat}{x:MO}(h:Xm n x)(l:n<=m):Xm m x:=λC I α H a r=>(h C I α H a r).mono (.refl _) (by rw[<-Bn l,<-List.take_take];exact B4 _ _) rfl
def MoAt.bel{C:Cf}{a:Addr}(h:MoAt C I α H a m):Xm α.length m:=by
 cases m with
 |lst ds=>obtain⟨vs,e,r⟩:=h;exact Zlk r.bel
 |dct ds=>obtain⟨vs,e,r⟩:=h;exact Zsn r.bel
 |dcT ds=>obtain⟨vs,e,r⟩:=h;exact Zso r.bel
 |drK ds=>obtain⟨vs,e,r⟩:=h;exact Zsk r.bel
 |drT ds=>obtain⟨vs,e,r⟩:=h;exact Zsj r.bel
 |dfT o vs ds=>exact Zsl h.2.bel
 |dfK o vs ds=>exact Zsm h.2.bel
 |ins Cl fs =>
  let⟨dx,vs,e,r⟩:=h;refine Zsi λkv hk=>?_;clear e
  induction r with
  |nil=>cases hk
  |cons a b ih =>
   rcases Jp.mp hk with z|z
   .rw[z];exact a.2.bel
   .exact ih z
 |hand=>exact Zou
 |tab P pos q=>exact Zsh
 |dcN sh z ds=>cases z with|none=>obtain⟨vs,e,k,r⟩:=h;exact Zll r.bel|some z=>exact Zll h.2.2.bel
def Rel.wf{C:Cf}(R:Rel C Z I α H M):WfM M:=λm hm=>by
 let⟨k,hk,rfl⟩:=Gf hm;let hk':k < α.length:=by rw[R.len];exact hk
 let:=(R.cel k _ _ (Jb hk') (Jb hk)).1.bel;rwa [R.len]at this
def BelS.belowE{n:Nat}{ρ0 ρ':Ev}(b:BelS n ρ0 ρ ρ'):(∀(i:Nat)(d:D),ρ0[i]?=some (some d)->Ym n d)->BelowE n ρ ρ':=by
 induction b with
 |nil=>exact λ_=>.nil
 |skip _ ih=>exact λh=>.skip (ih λi d e=>h (i+1) d (by simpa using e))
 |same _ ih=>exact λh=>.keep (h 0 _ rfl) (ih λi d e=>h (i+1) d (by simpa using e))
 |keep hb _ ih=>exact λh=>.keep hb (ih λi d e=>h (i+1) d (by simpa using e))
def Dr.out{C:Cf}{I0:Hp}{α0:List Addr}{H0:Hp}{M0:Mem}{P:Ev->Mem->Prop}{ρ0:Ev}(h:Dr ρ0 M0 P ρ M)(R0:Rel C Z I0 α0 H0 M0)(E0:RepE C I0 α0 σ0 ρ0)(p:α0<+:α)(R:Rel C Z I α H M)(E:RepE C I α σ ρ) :
  ∃α' ρ' M',α0<+:α'/\Rel C Z I α' H M'/\RepE C I α' σ ρ'/\P ρ' M':=by
 rcases h with h|⟨ρ',⟨X,rfl⟩,hb,h⟩|⟨n,ρ',hl,hb,hm,h⟩
 .exists α,ρ,M,p,R,E,h
 .let hb':=hb.belowE λi d e=>by
   let⟨v,_,r⟩:=E0.2 i d e;let:=r.bel;rwa [R0.len]at this
  let et:(M0++X).take M0.length=M0:=B0 ..;let R1:=R.take M0.length (by rw[<-R0.len];exact R0.aa.length_le) (by rw[et];exact R0.wf);rw[et]at R1;exists α.take M0.length,ρ',M0,Sn p (by rw[R0.len];exact Jd _),R1,hb'.rep E,h
 .exists α.take n,ρ',M.take n,Sn p (by rw[R0.len];lia),R.take n (by have:=R0.aa.length_le;let:=R0.len;lia) hm,hb.rep E,h
section
variable{C:Cf}{t t':TS}{u u':TS3}{ue:TE3}{tc:TT}{uc:TT3}{ug:TG3}{gs:TGs}{ugs:TGs3}
instance uSeq(u u':TS3):TS3:=λE ρ M=>u {E with nx:=u' E} ρ M
def Z1(h1:SimS C Z t u)(h2:SimS C Z t' u'):SimS C Z (tSeq t t') (uSeq u u'):=λI α σ H ρ M E D' R RE h F =>
 h1 I α σ H ρ M {E with nx:=u' E} {D' with nx:=t' D'} R RE h ⟨λI1 α1 σ1 H1 ρ1 M1 s p R1 RE1 h1=>h2 I1 α1 σ1 H1 ρ1 M1 E D' R1 RE1 h1 (F.mono s p),F.rt,F.bk,F.ct⟩
abbrev Zpn:TS3:=λE ρ M=>E.nx ρ M
def X9:SimS C Z Zqg Zpn:=λI α σ H ρ M E D' R RE h F=>F.nx I α σ H ρ M (.refl _) (Ji _) R RE h
abbrev Zl1(E:Ends3)(ρ:Ev):D->Mem->Prop:=λ_x0 M1=>E.nx ρ M1
instance Ztj(ue:TE3):TS3:=λE ρ M=>ue ρ M (Zl1 E ρ)
def N2(he:SimE C Z te ue):SimS C Z (Zme te) (Ztj ue):=λI α σ H ρ M E D' R RE h F =>
 he I α σ H ρ M _ _ R RE h λv d I1 α1 H1 M1 s p R1 r h1=>F.nx I1 α1 σ H1 ρ M1 s p R1 (RE.mono s p) h1
instance uRet(ue:TE3):TS3:=λE ρ M=>ue ρ M E.rt
def Vl(he:SimE C Z te ue):SimS C Z (tRet te) (uRet ue):=λI α σ H ρ M E D' R RE h F=>he I α σ H ρ M _ _ R RE h F.rt
instance Zs8:TS3:=λE _ M=>E.rt .non M
def Zqp:SimS C Z Zqd Zs8:=λI α σ H ρ M E D' R RE h F=>F.rt _ _ I α H M (.refl _) (Ji _) R .non h
abbrev Zpv(u:TS3)(u':TS3)(E:Ends3)(ρ:Ev):Bool->Mem->Prop:=λb M1=>if b=true then u E ρ M1 else u' E ρ M1
instance uIfS(c:TT3)(u u':TS3):TS3:=λE ρ M=>c ρ M (Zpv u u' E ρ)
def Uq(hc:SimT C Z tc uc)(h1:SimS C Z t u)(h2:SimS C Z t' u'):SimS C Z (tIfS tc t t') (uIfS uc u u'):=λI α σ H ρ M E D' R RE h F =>
 hc I α σ H ρ M _ _ R RE h λb I1 α1 H1 M1 s p R1 h3=>by
  cases b with
  |true =>
   exact h1 I1 α1 σ H1 ρ M1 E D' R1 (RE.mono s p) h3 (F.mono s p)
  |false =>
   exact h2 I1 α1 σ H1 ρ M1 E D' R1 (RE.mono s p) h3 (F.mono s p)
instance Zpo:TS3:=λ_ _ _=>False
def Zmo:SimS C Z Zkr Zpo:=λI α σ H ρ M E D' R RE h F=>h
abbrev Zkn(ug:TG3)(E:Ends3)(ρ:Ev):D->Mem->Prop:=λd M1=>ug d ρ M1 E.nx
instance uAsg(ue:TE3)(ug:TG3):TS3:=λE ρ M=>ue ρ M (Zkn ug E ρ)
def Wj(he:SimE C Z te ue)(hg:SimG C Z g ug):SimS C Z (tAsg te g) (uAsg ue ug):=λI α σ H ρ M E D' R RE h F =>
 he I α σ H ρ M _ _ R RE h λv d I1 α1 H1 M1 s p R1 r h1=>hg I1 α1 σ H1 ρ M1 v d _ _ R1 (RE.mono s p) r h1 (F.nx.mono s p)
abbrev uG(i:Nat):TG3:=λd ρ M K=>K (ρ.set i (some d)) M
def s_g(i:Nat):SimG C Z (Zak i) (uG i):=λI α σ H ρ M v d K Q R RE r h k=>k I α _ H _ M (.refl _) (Ji _) R (RE.set r i) h
abbrev Zth:TGs3:=λds ρ M K=>ds=[]/\K ρ M
abbrev Zit(ugs:TGs3)(r:List D)(K:Ev->Mem->Prop):Ev->Mem->Prop:=λρ' M'=>ugs r ρ' M' K
inductive uGCons(ug:TG3)(ugs:TGs3)(ds:List D)(ρ:Ev)(M:Mem)(K:Ev->Mem->Prop):Prop
 |mk:∀d r,ds=d::r->ug d ρ M (Zit ugs r K)->uGCons ug ugs ds ρ M K
def Zq2:Zid C Z gNil Zth:=λI α σ H ρ M vs ds K Q R RE r h k=>by
 let⟨rfl,h⟩:=h;cases r.inv;exists rfl,k I α σ H ρ M (.refl _) (Ji _) R RE h
def Zmw(h1:SimG C Z g ug)(h2:Zid C Z gs ugs):Zid C Z (Zoa g gs) (uGCons ug ugs):=λI α σ H ρ M vs ds K Q R RE r h k=>by
 let⟨d,r',rfl,h⟩:=h;cases r with
 |cons a b=>exact⟨_,_,rfl,h1 I α σ H ρ M _ d _ _ R RE a h λI1 α1 σ1 H1 ρ1 M1 s p R1 RE1 h3=>h2 I1 α1 σ1 H1 ρ1 M1 _ _ _ _ R1 RE1 (b.mono s p) h3 (k.mono s p)⟩
inductive uGTup(n:Nat)(ugs:TGs3)(d:D)(ρ:Ev)(M:Mem)(K:Ev->Mem->Prop):Prop
 |mk:∀ds,Zmb d=some ds->ds.length=n->ugs ds ρ M K->uGTup n ugs d ρ M K
def Zq1{n:Nat}(h:Zid C Z gs ugs):SimG C Z (gTup C.k n gs) (uGTup n ugs):=λI α σ H ρ M v d K Q R RE r hh k=>by
 let⟨ds,e,hl,hh⟩:=hh;let⟨a,vs,rfl,ea,_,ra⟩:=Uk R r e;exists a,vs,rfl,SqT.of ea,by rw[ra.length];exact hl,h I α σ H ρ M vs ds K Q R RE ra hh k
inductive uGSub_2(d:D)(ρ:Ev)(K:Ev->Mem->Prop)(o:D)(i:D)(M2:Mem):Prop
 |mk:∀k xs z j,o=.cell k->i=.int z->M2[k]?=some (.lst xs)->ixN xs.length z=some j->K ρ (M2.set k (.lst (xs.set j d)))->uGSub_2 d ρ K o i M2
abbrev Zl0(ui:TE3)(d:D)(ρ:Ev)(K:Ev->Mem->Prop):D->Mem->Prop:=λo M1=>ui ρ M1 (uGSub_2 d ρ K o)
instance Ztg(uo ui:TE3):TG3:=λd ρ M K=>uo ρ M (Zl0 ui d ρ K)
def Zf0{ti:TE}{ui:TE3}(ho:SimE C Z to uo)(hi:SimE C Z ti ui):SimG C Z (gSub to ti Zq9) (Ztg uo ui):=λI α σ H ρ M v d K Q R RE r hh k =>
 ho I α σ H ρ M _ _ R RE hh λov o I1 α1 H1 M1 s1 p1 R1 r1 h1=>hi I1 α1 σ H1 ρ M1 _ _ R1 (RE.mono s1 p1) h1 λiv i I2 α2 H2 M2 s2 p2 R2 r2 h2=>by
  let⟨kk,xs,z,j,rfl,rfl,e1,e2,h2⟩:=h2;cases r2.inv;let⟨_,rfl,ec⟩:=(r1.mono s2 p2).inv;let⟨us,eu,ru⟩:=Ni R2 ec e1;exists _,us,z,j,rfl,rfl,eu,by rw[ru.length];exact e2,?_;exact k I2 α2 σ _ ρ _ (s1.trans s2) (p1.trans p2) (R2.putL ec (ru.set (r.mono (s1.trans s2) (p1.trans p2)) j)) (RE.mono (s1.trans s2) (p1.trans p2)) h2
abbrev Zcv(P:Nat->Ev->Mem->Prop)(ρ:Ev)(M:Mem)(m:Nat):Ev->Mem->Prop:=λρ' M'=>∃m',m'<m/\Dr ρ M (P m') ρ' M'
abbrev Zin(E:Ends3)(P:Nat->Ev->Mem->Prop)(ρ:Ev)(M:Mem)(m:Nat):Ends3:={E with nx:=Zcv P ρ M m,ct:=Zcv P ρ M m,bk:=E.nx}
abbrev Zio(u:TS3)(E:Ends3)(ρ:Ev)(M:Mem)(P:Nat->Ev->Mem->Prop)(m:Nat)(ρ1:Ev):Bool->Mem->Prop:=λb M2=>if b=true then u (Zin E P ρ M m) ρ1 M2 else E.nx ρ1 M2
inductive uWhile(uc:TT3)(u:TS3)(E:Ends3)(ρ:Ev)(M:Mem):Prop
 |mk:∀P:Nat->Ev->Mem->Prop,(∃m,P m ρ M)->(∀m ρ1 M1,P m ρ1 M1->uc ρ1 M1 (Zio u E ρ M P m ρ1))->uWhile uc u E ρ M
def Zmk(hc:SimT C Z tc uc)(hb:SimS C Z t u):SimS C Z (Zfa tc t) (uWhile uc u):=λI α σ H ρ M E D' R RE h F=>by
 let⟨P,⟨m0,h0⟩,hs⟩:=h;let hlen:=R.len;exists λm σ1 H1=>∃I1 α1 ρ1 M1,Same I I1/\α<+:α1/\Rel C Z I1 α1 H1 M1/\RepE C I1 α1 σ1 ρ1/\P m ρ1 M1,⟨m0,I,α,ρ,M,.refl _,Ji _,R,RE,h0⟩,?_;rintro m σ1 H1 ⟨I1,α1,ρ1,M1,s1,p1,R1,RE1,h1⟩;refine hc I1 α1 σ1 H1 ρ1 M1 _ _ R1 RE1 (hs m ρ1 M1 h1) λb I2 α2 H2 M2 s2 p2 R2 h2=>?_;cases b with
 |false =>
  exact F.nx I2 α2 σ1 H2 ρ1 M2 (s1.trans s2) (p1.trans p2) R2 (RE1.mono s2 p2) h2
 |true =>
  refine⟨λσ' H'=>∃m',m'<m/\∃I1 α1 ρ1 M1,Same I I1/\α<+:α1/\Rel C Z I1 α1 H' M1/\RepE C I1 α1 σ' ρ1/\P m' ρ1 M1,λσ' H' h=>h,?_⟩;let nx:FinS C Z I2 α2 (λρ' M'=>∃m',m'<m/\Dr ρ M (P m') ρ' M') (λσ' H'=>∃m',m'<m/\∃I1 α1 ρ1 M1,Same I I1/\α<+:α1/\Rel C Z I1 α1 H' M1/\RepE C I1 α1 σ' ρ1/\P m' ρ1 M1):=λI3 α3 σ3 H3 ρ3 M3 s3 p3 R3 RE3 h3=>by
   let⟨m',hm,h3⟩:=h3;let⟨α4,ρ4,M4,p4,R4,RE4,h4⟩:=h3.out R RE (p1.trans (p2.trans p3)) R3 RE3;exists m',hm,I3,α4,ρ4,M4,s1.trans (s2.trans s3),p4,R4,RE4,h4
  exact hb I2 α2 σ1 H2 ρ1 M2 _ _ R2 (RE1.mono s2 p2) h2 ⟨nx,F.rt.mono (s1.trans s2) (p1.trans p2),F.nx.mono (s1.trans s2) (p1.trans p2),nx⟩
structure It3 where
 n:Nat
 item:Nat->D->Prop
 ok:Mem->Prop
abbrev TI3:=Ev->Mem->(It3->Mem->Prop)->Prop
instance ItR(C:Cf)(Z:Anc)(I:Hp)(α:List Addr)(J:It)(j:It3):Prop:=∀I' α' H' M',Same I I'->α<+:α'->Rel C Z I' α' H' M'->j.ok M' ->
 (∀i,i<j.n->J.go i H'/\∀x H2,J.yld i H' x H2->∃I2 d,Same I' I2/\Rel C Z I2 α' H2 M'/\Rep C I2 α' x d/\j.item i d)/\J.stop j.n H'
instance SimI(C:Cf)(Z:Anc)(w:TI)(u:TI3):Prop:=∀I α σ H ρ M(K:It3->Mem->Prop)(R':It->Hp->Prop),Rel C Z I α H M->RepE C I α σ ρ->u ρ M K ->
 (∀J j I' α' H' M',Same I I'->α<+:α'->Rel C Z I' α' H' M'->ItR C Z I' α' J j->K j M'->R' J H')->w σ H R'
inductive uIL_1(K:It3->Mem->Prop)(d:D)(M1:Mem):Prop
 |mk:∀ds,Vd M1 d=some ds->K ⟨ds.length,λi x=>ds[i]?=some x,λM=>Vd M d=some ds⟩ M1->uIL_1 K d M1
instance uIL(ue:TE3):TI3:=λρ M K=>ue ρ M (uIL_1 K)
def s_il(he:SimE C Z te ue):SimI C Z (Zn4 C.k te) (uIL ue):=λI α σ H ρ M K R' R RE h k =>
 he I α σ H ρ M _ _ R RE h λv d I1 α1 H1 M1 s1 p1 R1 r1 h1=>by
  let⟨ds,e,h1⟩:=h1;let⟨a,vs,rfl,ea,ra⟩:=Tb R1 r1 e;exists a,rfl,⟨vs,ea⟩,k _ _ I1 α1 H1 M1 s1 p1 R1 (λI2 α2 H2 M2 s2 p2 R2 ok=>?_) h1;let⟨b,ws,eb,eq,rw'⟩:=Tb R2 (r1.mono s2 p2) ok;cases eb;exists λi hi=>?_,⟨ws,eq,by rw[rw'.length];exact Jd _⟩;let hi2:i<ws.length:=by rw[rw'.length];exact hi
  exists⟨ws,ws[i],eq,Jb hi2⟩,λx H3 y=>?_;let⟨rfl,y⟩:=y;let:=y ws eq;rw[Jb hi2]at this;cases this;exists I2,ds[i],.refl _,R2,rw'.at hi2 hi,Jb hi
inductive uIT_1(K:It3->Mem->Prop)(d:D)(M1:Mem):Prop
 |mk:∀ds,Zmb d=some ds->K ⟨ds.length,λi x=>ds[i]?=some x,λ_=>True⟩ M1->uIT_1 K d M1
instance uIT(ue:TE3):TI3:=λρ M K=>ue ρ M (uIT_1 K)
def s_it(he:SimE C Z te ue):SimI C Z (iTup C.k te) (uIT ue):=λI α σ H ρ M K R' R RE h k =>
 he I α σ H ρ M _ _ R RE h λv d I1 α1 H1 M1 s1 p1 R1 r1 h1=>by
  let⟨ds,e,h1⟩:=h1;let⟨a,vs,rfl,ea,ia,ra⟩:=Uk R1 r1 e;exists a,rfl,⟨vs,SqT.of ea⟩,k _ _ I1 α1 H1 M1 s1 p1 R1 (λI2 α2 H2 M2 s2 p2 R2 ok=>?_) h1;let eq:SqT C.k H2 a vs:=SqT.of (R2.sub _ _ (s2 _ _ ia));let rw':=ra.mono s2 p2;exists λi hi=>?_,⟨vs,eq,by rw[rw'.length];exact Jd _⟩;let hi2:i<vs.length:=by rw[rw'.length];exact hi
  exists⟨vs,vs[i],eq,Jb hi2⟩,λx H3 y=>?_;let⟨rfl,y⟩:=y;let:=y vs eq;rw[Jb hi2]at this;cases this;exists I2,ds[i],.refl _,R2,rw'.at hi2 hi,Jb hi
instance Zf7(lo:Int)(n:Nat):It3:=⟨n,λi x=>x=.int (lo+i),λ_=>True⟩
def Zuh{lo:Int}{n:Nat}:ItR C Z I α (Itr lo n) (Zf7 lo n):=λI' α' H' M' s p R _=>⟨λi hi=>⟨hi,λx H2 y=>by
 let⟨rfl,rfl⟩:=y;exact⟨I',_,.refl _,R,.int _,rfl⟩⟩,Jd _⟩
variable{ta:TA}{ua:TA3}
inductive uIR1_1(K:It3->Mem->Prop)(ds:List D)(M1:Mem):Prop
 |mk:∀j:Int,ds=[.int j]->(-(2 ^ 62)<=j/\j<2 ^ 62)->K (Zf7 0 j.toNat) M1->uIR1_1 K ds M1
instance uIR1(ua:TA3):TI3:=λρ M K=>ua ρ M (uIR1_1 K)
def Zt1(ha:SimA C Z ta ua):SimI C Z (Zr3 ta) (uIR1 ua):=λI α σ H ρ M K R' R RE h k =>
 ha I α σ H ρ M _ _ R RE h λvs ds I1 α1 H1 M1 s1 p1 R1 r1 h1=>by
  let⟨j,rfl,⟨h2,h3⟩,h1⟩:=h1;refine Reps.e1 r1 λ_ a=>?_;cases a;exists j,rfl,h2,h3,k _ _ I1 α1 H1 M1 s1 p1 R1 Zuh h1
abbrev Zpw(E:Ends3)(ρ:Ev)(M:Mem)(P:Nat->Ev->Mem->Prop)(i:Nat):Ends3:={E with nx:=Dr ρ M (P (i+1)),ct:=Dr ρ M (P (i+1)),bk:=E.nx}
inductive uFor_1(ug:TG3)(ub:TS3)(E:Ends3)(ρ:Ev)(j:It3)(M1:Mem):Prop
 |mk:∀P:Nat->Ev->Mem->Prop,(∀i ρ M,i<=j.n->P i ρ M->j.ok M)->P 0 ρ M1 ->
  (∀i x ρ1 M',i<j.n->j.item i x->P i ρ1 M'->ug x ρ1 M' (ub (Zpw E ρ M1 P i)))->(∀ρ M,P j.n ρ M->E.nx ρ M)->uFor_1 ug ub E ρ j M1
instance uFor(ui:TI3)(ug:TG3)(ub:TS3):TS3:=λE ρ M=>ui ρ M (uFor_1 ug ub E ρ)
def N1{ui:TI3}(hi:SimI C Z wi ui)(hg:SimG C Z g ug)(hb:SimS C Z t u):SimS C Z (tFor wi g t) (uFor ui ug u):=λI α σ H ρ M E D' R RE h F =>
 hi I α σ H ρ M _ _ R RE h λJ j I1 α1 H1 M1 s1 p1 R1 IR h1=>by
  let⟨P,hok,h0,hs,he⟩:=h1;let hlen:=R1.len;exists λi m σ' H'=>m=j.n-i/\i<=j.n/\∃I2 α2 ρ2 M2,Same I1 I2/\α1<+:α2/\Rel C Z I2 α2 H' M2/\RepE C I2 α2 σ' ρ2/\P i ρ2 M2,⟨j.n,rfl,J8 _,I1,α1,ρ,M1,.refl _,Ji _,R1,RE.mono s1 p1,h0⟩,?_;rintro i m σ' H' ⟨rfl,hi,I2,α2,ρ2,M2,s2,p2,R2,RE2,h2⟩;let⟨go,stop⟩:=IR I2 α2 H' M2 s2 p2 R2 (hok i ρ2 M2 hi h2)
  by_cases hlt:i<j.n
  .let⟨g1,g2⟩:=go i hlt;refine .inr ⟨g1,λσ3 H3=>∃I3 α3 ρ3 M3,Same I1 I3/\α1<+:α3/\Rel C Z I3 α3 H3 M3/\RepE C I3 α3 σ3 ρ3/\P (i+1) ρ3 M3,λσ3 H3 h3=>⟨j.n-(i+1),(),rfl,hlt,h3⟩,λx H3 y=>?_⟩;let⟨I3,d,s3,R3,r3,it⟩:=g2 x H3 y;refine hg I3 α2 σ' H3 ρ2 M2 x d _ _ R3 (RE2.mono s3 (Ji _)) r3 (hs i d ρ2 M2 hlt it h2) λI4 α4 σ4 H4 ρ4 M4 s4 p4 R4 RE4 h4=>?_;let nx:FinS C Z I4 α4 (Dr ρ M1 (P (i+1))) (λσ3 H3=>∃I3 α3 ρ3 M3,Same I1 I3/\α1<+:α3/\Rel C Z I3 α3 H3 M3/\RepE C I3 α3 σ3 ρ3/\P (i+1) ρ3 M3):=λI5 α5 σ5 H5 ρ5 M5 s5 p5 R5 RE5 h5=>by
    let⟨α6,ρ6,M6,p6,R6,RE6,h6⟩:=h5.out R1 (RE.mono s1 p1) (p2.trans (p4.trans p5)) R5 RE5;exists I5,α6,ρ6,M6,s2.trans (s3.trans (s4.trans s5)),p6,R6,RE6,h6
   let F4:=F.mono (s1.trans (s2.trans (s3.trans s4))) (p1.trans (p2.trans p4));exact hb I4 α4 σ4 H4 ρ4 M4 _ _ R4 RE4 h4 ⟨nx,F4.rt,F4.nx,nx⟩
  .let e:i=j.n:=by lia
   subst e;exact .inl ⟨stop,F.nx I2 α2 σ' H' ρ2 M2 (s1.trans s2) (p1.trans p2) R2 RE2 (he ρ2 M2 h2)⟩
instance sg3(ρ:Ev)(T:List Str)(cs:List Nat):Ev:=T.map (λ_=>none)++cs.map λi=>ρ.getD i none
def RepE.sg(h:RepE C I α σ ρ)(T:List Str)(cs:List Nat):RepE C I α (sgOf σ T cs) (sg3 ρ T cs):=by
 exists by unfold sgOf sg3;simp,λi d e=>?_;unfold sg3 at e;unfold sgOf
 by_cases hi:i<T.length
 .rw[Js (by simpa using hi),Jr,Jb hi]at e;simp at e
 .rw[Gk (by simpa using hi),Jr]at e;rw[Gk (by simpa using hi),Jr];simp only[Ja]at e⊢;cases hc:cs[i-T.length]? with
  |none=>rw[hc]at e;cases e
  |some c =>
   rw[hc]at e;simp only[Bx,Jej]at e⊢;rw[Go]at e⊢;cases hr:ρ[c]? with
   |none=>rw[hr]at e;cases e
   |some o =>
    rw[hr]at e;cases e;let⟨v,e2,r⟩:=h.2 c d hr;exists v,by rw[e2];rfl,r
variable{tt:TT}{ut:TT3}{T:List Str} 
abbrev Zsb(P:Nat->List D->Mem->Prop)(i:Nat)(ys:List D):D->Mem->Prop:=λy M4=>P (i+1) (ys++[y]) M4
abbrev Zsc(ue:TE3)(P:Nat->List D->Mem->Prop)(i:Nat)(ys:List D)(ρ2:Ev):Bool->Mem->Prop:=λb M3=>if b=true then ue ρ2 M3 (Zsb P i ys)else P (i+1) ys M3
abbrev Zsd(ut:TT3)(ue:TE3)(P:Nat->List D->Mem->Prop)(i:Nat)(ys:List D):Ev->Mem->Prop:=λρ2 M2=>ut ρ2 M2 (Zsc ue P i ys ρ2)
inductive cmp3_0(ug:TG3)(ut:TT3)(ue:TE3)(T:List Str)(cs:List Nat)(ρ:Ev)(F:List D->Mem->Prop)(j:It3)(M1:Mem):Prop
 |mk:j.n<=Cb->∀P:Nat->List D->Mem->Prop,(∀i ys M,i<=j.n->P i ys M->j.ok M)->P 0 [] M1 ->
  (∀i x ys M,i<j.n->j.item i x->P i ys M->ug x (sg3 ρ T cs) M (Zsd ut ue P i ys))->(∀ys M,P j.n ys M->F ys M)->cmp3_0 ug ut ue T cs ρ F j M1
instance cmp3(ui:TI3)(ug:TG3)(ut:TT3)(ue:TE3)(T:List Str)(cs:List Nat)(ρ:Ev)(M:Mem)(F:List D->Mem->Prop):Prop:=ui ρ M (cmp3_0 ug ut ue T cs ρ F)
abbrev Zl6(K:K3):List D->Mem->Prop:=λys M1=>K (.lst ys) M1
abbrev Ziu(K:K3):List D->Mem->Prop:=λys M1=>K (.cell M1.length) (M1++[.lst ys])
instance Ztn(ui:TI3)(ug:TG3)(ut:TT3)(ue:TE3)(T:List Str)(cs:List Nat):TE3:=λρ M K=>cmp3 ui ug ut ue T cs ρ M (Zl6 K)
instance Zp0(ui:TI3)(ug:TG3)(ut:TT3)(ue:TE3)(T:List Str)(cs:List Nat):TE3:=λρ M K=>cmp3 ui ug ut ue T cs ρ M (Ziu K)
def Zdw{ui:TI3}(hi:SimI C Z wi ui)(hg:SimG C Z g ug)(ht:SimT C Z tt ut)(he:SimE C Z te ue){F:List D->Mem->Prop}(R:Rel C Z I α H M)(RE:RepE C I α σ ρ)(h:cmp3 ui ug ut ue T cs ρ M F)(k:∀ys vs I' α' H' M',Same I I'->α<+:α'->Rel C Z I' α' H' M'->Reps C I' α' vs ys->F ys M'->∀p,H' p=none->Q (.ref p) (upd H' p (.lst vs))):Zfg wi g tt te T cs σ H Q :=
 hi I α σ H ρ M _ _ R RE h λJ j I1 α1 H1 M1 s1 p1 R1 IR h1=>by
  let⟨hz,P,hok,h0,hs,hd⟩:=h1;exists λi m vs H'=>m=j.n-i/\i<=j.n/\∃I2 α2 ys M2,Same I1 I2/\α1<+:α2/\Rel C Z I2 α2 H' M2/\Reps C I2 α2 vs ys/\ys.length<=i/\P i ys M2,⟨j.n,rfl,J8 _,I1,α1,[],M1,.refl _,Ji _,R1,.nil,Jd _,h0⟩,?_;rintro i m vs H' ⟨rfl,hi,I2,α2,ys,M2,s2,p2,R2,r2,hl,h2⟩;let⟨go,stop⟩:=IR I2 α2 H' M2 s2 p2 R2 (hok i ys M2 hi h2);let hvl:=r2.length
  by_cases hlt:i<j.n
  .let⟨g1,g2⟩:=go i hlt;refine .inr ⟨g1,(),λvs3 H3=>∃I3 α3 ys3 M3,Same I1 I3/\α1<+:α3/\Rel C Z I3 α3 H3 M3/\Reps C I3 α3 vs3 ys3/\ys3.length<=i+1/\P (i+1) ys3 M3,λvs3 H3 h3=>⟨j.n-(i+1),(),rfl,hlt,h3⟩,λx H3 y=>?_⟩;let⟨I3,d,s3,R3,r3,it⟩:=g2 x H3 y;let RE3:RepE C I3 α2 σ ρ:=RE.mono (s1.trans (s2.trans s3)) (p1.trans p2);refine hg I3 α2 _ H3 _ M2 x d _ _ R3 (RE3.sg T cs) r3 (hs i d ys M2 hlt it h2) λI4 α4 σ4 H4 ρ4 M4 s4 p4 R4 RE4 h4=>?_;refine ht I4 α4 σ4 H4 ρ4 M4 _ _ R4 RE4 h4 λb I5 α5 H5 M5 s5 p5 R5 h5=>?_;cases b with
   |true =>
    refine he I5 α5 σ4 H5 ρ4 M5 _ _ R5 (RE4.mono s5 p5) h5 λv e I6 α6 H6 M6 s6 p6 R6 r6 h6=>?_;exists I6,α6,ys++[e],M6,s2.trans (s3.trans (s4.trans (s5.trans s6))),p2.trans (p4.trans (p5.trans p6)),R6,(r2.mono (s3.trans (s4.trans (s5.trans s6))) (p4.trans (p5.trans p6))).app (.one r6),?_,h6;rw[Jc,Gj];lia
   |false =>
    exists I5,α5,ys,M5,s2.trans (s3.trans (s4.trans s5)),p2.trans (p4.trans p5),R5,r2.mono (s3.trans (s4.trans s5)) (p4.trans p5),(),h5
  .let e:i=j.n:=by lia
   subst e;exact .inl ⟨stop,(),k ys vs I2 α2 H' M2 (s1.trans s2) (p1.trans p2) R2 r2 (hd ys M2 h2)⟩
def Sy{ui:TI3}(hi:SimI C Z wi ui)(hg:SimG C Z g ug)(ht:SimT C Z tt ut)(he:SimE C Z te ue):SimE C Z (Zfg wi g tt te T cs) (Ztn ui ug ut ue T cs):=λI α σ H ρ M K Q R RE h k =>
 Zdw hi hg ht he R RE h λys vs I' α' H' M' s p R' r hF q hq=>by
  let⟨R2,s2,e2⟩:=R'.new (o:=.lst vs) hq;exact k _ _ _ α' _ M' (s.trans s2) p R2 (.lst e2 (r.mono s2 (Ji _))) hF
def Zmy{ui:TI3}(hi:SimI C Z wi ui)(hg:SimG C Z g ug)(ht:SimT C Z tt ut)(he:SimE C Z te ue):SimE C Z (Zfg wi g tt te T cs) (Zp0 ui ug ut ue T cs):=λI α σ H ρ M K Q R RE h k =>
 Zdw hi hg ht he R RE h λys vs I' α' H' M' s p R' r hF q hq=>by
  let⟨R2,p2,e2⟩:=R'.cell (o:=.lst vs) (m:=.lst ys) hq λH' e=>⟨vs,e,r⟩;exact k _ _ I' _ _ _ s (p.trans p2) R2 (.cell e2) hF
abbrev Zs6:TT3:=λ_ M K=>K true M
def Qu:SimT C Z Zqb Zs6:=λI α σ H ρ M K Q R E h k=>k true I α H M (.refl _) (Ji _) R h
abbrev Sp3:=List D->Mem->K3->Prop
instance spOf(C:Cf)(sp:Sp3):Sp:=λvs H Q _=>∃Z I α M ds K,Rel C Z I α H M/\Reps C I α vs ds/\sp ds M K/\Fin C Z I α K Q
abbrev Zl7(sp:Sp3)(K:K3):List D->Mem->Prop:=λds M1=>sp ds M1 K
instance Zto(sp:Sp3)(ua:TA3):TE3:=λρ M K=>ua ρ M (Zl7 sp K)
def Zkz{sp:Sp3}{E0':XK}(ha:SimA C Z ta ua):SimE C Z (Zfh (spOf C sp) [] E0' ta) (Zto sp ua):=λI α σ H ρ M K Q R RE h k =>
 ha I α σ H ρ M _ _ R RE h λvs ds I1 α1 H1 M1 s1 p1 R1 r1 h1=>by
  rw[Jz];exists Z,I1,α1,M1,ds,K,R1,r1,h1,k.mono s1 p1
def Cal.imp{base:Heap}{x:Str}{k:Nat}(c:Cal P w K mg base x k ps sp)(h:∀vs H Q E,sp' vs H Q E->sp vs H Q E):Cal P w K mg base x k ps sp' :=
 let⟨f,fd,a,b⟩:=c
 ⟨f,fd,a.imp h,b⟩
instance Qs(N:List Str)(ds:List D):Ev:=ds.map some++Cm (N.length-ds.length) none
def Sz(r:Reps C I α vs ds)(N:List Str):RepE C I α (L2.Vj N vs) (Qs N ds):=by
 let hl:=r.length;exists by unfold L2.Vj Qs;simp[hl],λi d e=>?_;unfold Qs at e;unfold L2.Vj
 by_cases hi:i<ds.length
 .rw[Js (by simpa using hi),Jr,Jb hi]at e;let e':ds[i]=d:=by simpa using e
  rw[Js (by simpa[hl]using hi),Jr,Jb (by rw[hl];exact hi)];exists ·,e' ▸ r.at (by rw[hl];exact hi) hi
 .rw[Gk (by simpa using hi),Ja3]at e
  split at e<;>cases e
def Fun.ok3{base:Heap}{x:Str}{f:Addr}{k:Nat}{sp:Sp3}(F:Fun K x qual st f fd)(S:FnScope N ps (Zl st))(len:∀ds M K,sp ds M K->ds.length=ps.length)(hbody:∀(cdv:Ca)(A:Ht)(outer:List Env)(s:Cc)(H:Hp)(E:XK),Room k (A.deeper (E4 qual (Zl st) s.heap.objs.size f cdv)) ->
   ∃t u,PSs (cxOf CX0 P w K mg base N qual (Zl st) f cdv A outer s H E).nox (Ys st) t/\(∀Z,SimS C Z t u)/\∀ds M K,WfM M->(∀d∈ds,Ym M.length d)->sp ds M K->u {nx:=λ_ M'=>Dk M.length K .non M',rt:=Dk M.length K} (Qs N ds) M):FnOk P w K mg base CX0 (k+1) f fd ps (spOf C sp):=by
 refine F.ok S (λvs H Q E h=>?_) (λcdv A outer s H vs Q E hr h=>?_)
 .let⟨Z,I,α,M,ds,K,R,r,h,_⟩:=h;rw[r.length];exact len ds M K h
 .let⟨t,u,h1,h2,h3⟩:=hbody cdv A outer s H E hr;let⟨Z,I,α,M,ds,K,R,r,h,k⟩:=h;let kd:=k.dk R.len R.aa;exists t,h1,h2 Z I α _ H _ M _ _ R (Sz r N) (h3 ds M K R.wf (by rw[<-R.len];exact r.bel) h) ⟨λI1 α1 σ1 H1 ρ1 M1 s1 p1 R1 _ h1=>kd _ _ I1 α1 H1 M1 s1 p1 R1 .non h1,kd,λ_ _ _ _ _ _ _ _ _ _ h=>h.elim,λ_ _ _ _ _ _ _ _ _ _ h=>h.elim⟩
end
section
variable{C:Cf} 
def Zt2{ue:TE3}(he:SimE C Z te ue)(h:K'=C.k):SimI C Z (Zn4 K' te) (uIL ue):=h ▸ s_il he
def Zmv{n:Nat}{gs:TGs}{ugs:TGs3}(hg:Zid C Z gs ugs)(h:K'=C.k):SimG C Z (gTup K' n gs) (uGTup n ugs):=h ▸ Zq1 hg
def Zf5{t:TA}{u:TA3}(ho:SimE C Z to uo)(ha:SimA C Z t u)(h:K'=C.k):SimE C Z (tBM K' "list" Zbo to t) (uBML app3 uo u):=h ▸ Zc5 ho ha
end
section
variable{C:Cf} 
def Rel.full(R:Rel C Z I α H M):∃I',Same I I'/\Rel C Z I' α H M/\∀b o,H b=some o->b∉α->I' b=some o:=by
 let s:Same I (λb=>if b∈α then none else H b):=λb o e=>by
  let hb:b∉α:=λhb=>by
   let⟨k,hk,rfl⟩:=Gf hb;let hk':k<M.length:=by rw[<-R.len];exact hk
   rw[(R.cel k _ _ (Jb hk) (Jb hk')).2]at e;cases e
  show(if b∈α then none else H b)=some o;rw[Fo hb];exact R.sub b o e
 exists _,s,⟨R.ai.trans s,R.aa,λb o e=>?_,R.len,R.nd,λk a m h1 h2=>?_⟩,λb o e hb=>?_
 .let e':(if b∈α then none else H b)=some o:=e
  split at e'
  .cases e'
  .exact e'
 .exists(R.cel k a m h1 h2).1.mono s (Ji _) rfl,?_;show(if a∈α then none else H a)=none;rw[Fp (Gq h1)]
 .show(if b∈α then none else H b)=some o;rw[Fo hb];exact e
def Rel.out(R:Rel C Z I α H M)(h:H l=none):l∉α:=λhl=>by
 let⟨k,hk,e⟩:=Gf hl;exact R.cellNe (Jb hk) h e
def Rel.tupOut(R:Rel C Z I α H M)(h:H l=some (.tup vs)):l∉α:=λhl=>by
 let⟨k,hk,rfl⟩:=Gf hl;let hk':k<M.length:=by rw[<-R.len];exact hk
 let:=(R.cel k _ _ (Jb hk) (Jb hk')).1;cases hm:M[k]with
 |lst ds=>rw[hm]at this;let⟨vs,e,_⟩:=this;rw[h]at e;cases e
 |dct ds=>rw[hm]at this;let⟨vs,e,_⟩:=this;rw[h]at e;cases e
 |dcT ds=>rw[hm]at this;let⟨vs,e,_⟩:=this;rw[h]at e;cases e
 |drK ds=>rw[hm]at this;let⟨vs,e,_⟩:=this;rcases e with e|⟨o,e⟩<;>(rw[h]at e;cases e)
 |drT ds=>rw[hm]at this;let⟨vs,e,_⟩:=this;rcases e with e|⟨o,e⟩<;>(rw[h]at e;cases e)
 |dfT o vs ds=>rw[hm]at this;let e:=this.1;rw[h]at e;cases e
 |dfK o vs ds=>rw[hm]at this;let e:=this.1;rw[h]at e;cases e
 |ins Cl fs=>rw[hm]at this;let⟨dx,vs,e,_⟩:=this;rw[h]at e;cases e
 |hand=>rw[hm]at this;let⟨d,k,c,cs,e,_⟩:=this;rw[h]at e;cases e
 |tab P pos q=>rw[hm]at this;let⟨_,ps,e,_⟩:=this;rw[h]at e;cases e
 |dcN sh z ds=>rw[hm]at this;cases z with|none=>obtain⟨vs,e,_⟩:=this;rw[h]at e;cases e|some z=>have e:=this.1;rw[h]at e;cases e
def Rel.same(R:Rel C Z I α H M)(s:Same H H'):Rel C Z I α H' M:=by
 exists R.ai,R.aa,R.sub.trans s,R.len,R.nd,λk a m h1 h2=>?_;let⟨a1,a2⟩:=R.cel k a m h1 h2;let⟨o,e⟩:=a1.some;exists a1.mono (.refl _) (Ji _) ((s _ _ e).trans e.symm),a2
def Rel.grow(R:Rel C Z I α H M){k:Nat}{p c:Addr}{cs:List Int}(ha:α[k]?=some p)(hm:M[k]?=some .hand)(hh:HandAt H' p c)(ic:I c=some (.lst (cs.map V.int)))(hc:cs≠[]/\cs.length<=63/\∀c∈cs,0<=c)(g:Grow p H H'):Rel C Z I α H' M:=by
 let ip:I p=none:=(R.cel k p _ ha hm).2;exists R.ai,R.aa,λb o e=>g b o (R.sub b o e) (λz=>by rw[z,ip]at e;cases e),R.len,R.nd,λj a m h1 h2=>?_;let⟨a1,a2⟩:=R.cel j a m h1 h2
 by_cases e:k=j
 .subst e;rw[ha]at h1;cases h1;rw[hm]at h2;cases h2;let⟨d0,i0,cs',x1,x2,x3,x4,x5,x6,x7⟩:=hh.ex;exists⟨d0,i0,c,cs,x1,ic,hc.1,hc.2.1,x5,x6,hc.2.2⟩,ip
 .let⟨o,eo⟩:=a1.some;let ne:a≠p:=λz=>by
   let⟨hj,ej⟩:=Jf.mp h1;let⟨hk,ek⟩:=Jf.mp ha;rw[<-ej,<-ek]at z;exact e ((Bi R.nd).mp z).symm
  exists a1.mono (.refl _) (Ji _) ((g _ _ eo ne).trans eo.symm),a2
def Rel.hand(R:Rel C Z I α H M){k:Nat}{p:Addr}(ha:α[k]?=some p)(hm:M[k]?=some .hand):∃c cs,HandAt H p c/\I c=some (.lst (cs.map V.int))/\cs≠[]/\cs.length<=63/\∀c∈cs,0<=c:=by
 let⟨d,i,c,cs,e,ic,h1,h2,h3,h4,h5⟩:=(R.cel k p _ ha hm).1;exists c,cs,⟨d,i,cs,e,R.sub _ _ ic,h1,h2,h3,h4,h5⟩,ic,h1,h2,h5
def Rel.cellAt(R:Rel C Z I α H M)(il:I l=none)(hl:l∉α)(hm:MoAt C I α H l m):Rel C Z I (α++[l]) H (M++[m])/\α<+:(α++[l])/\(α++[l])[M.length]?=some l:=by
 refine⟨⟨R.ai,R.aa.trans (Gx _ _),R.sub,by rw[Jc,Jc,R.len];rfl,?_,λk a x h1 h2=>?_⟩,Gx _ _,by rw[<-R.len];simp⟩
 .rw[By];exists R.nd,by simp,λa ha b hb e=>hl (by rw[<-Jj.mp hb,<-e];exact ha)
 .by_cases hk:k < α.length
  .rw[Js hk]at h1;rw[Js (by rw[<-R.len];exact hk)]at h2;let⟨a1,a2⟩:=R.cel k a x h1 h2;exists a1.mono (.refl _) (Gx _ _) rfl,a2
  .let⟨hk2,_⟩:=Jf.mp h1;rw[Jc,Gj]at hk2;let e:k=α.length:=by lia
   subst e;let e1:(α++[l])[α.length]?=some l:=by simp
   let e2:(M++[m])[α.length]?=some m:=by rw[R.len];simp
   rw[e1]at h1;rw[e2]at h2;cases h1;cases h2;exists hm.mono (.refl _) (Gx _ _) rfl,il
end
variable{ui:L3.TI3}
instance wD(w:List Int):D:=.tup (w.map .int)
instance pD(p:Pr):D:=.tup [.int p.1,wD p.2]
instance oD:Option Int->D
 |some z=>.int z
 |none=>.non
section
variable{C:Cf} 
def Zt9(s:∀b xs,H b=some (.tup xs)->I b=some (.tup xs)){w:List Int}(h:Zck H v w):Rep C I α v (wD w):=by
 let⟨t,rfl,e⟩:=h;exact .tup (s _ _ e) (.ints w)
def Zc7{F:V->τ->Prop}{f:τ->D}(h:∀v a,F v a->Rep C I α v (f a)):∀{vs:List V}{as:List τ},Paired F vs as->Reps C I α vs (as.map f):=by
 intro _ _ hz9;cases hz9 with
 |nil=>
  exact .nil
 |cons a b=>
  exact .cons (h _ _ a) (Zc7 h b)
def Pp{F:V->τ->Prop}{f:τ->D}(h:∀v a,Rep C I α v (f a)->F v a):∀{vs:List V}{as:List τ},Reps C I α vs (as.map f)->Paired F vs as
 |_,[],r=>by cases r.inv;exact .nil
 |_,a::as,r=>by
  cases r with
  |cons x y=>exact .cons (h _ _ x) (Pp h y)
def Zpa(s:Same I H){w:List Int}(h:Rep C I α v (wD w)):Zck H v w:=by
 let⟨_,_,rfl,e,r⟩:=h.inv;rw[r.of_ints w]at e;exists ·,s _ _ e
def Zrj(s:Same I H){p:Pr}(h:Rep C I α v (pD p)):Zcl H v p:=by
 cases h with
 |tup e r =>
  cases r with
  |cons a b =>
   cases b with
   |cons b c =>
    cases c;cases a;let⟨t,rfl,e2⟩:=Zpa s b;exists _,t,rfl,s _ _ e,e2
def Zf9:∀(os:List (Option Int)),Reps C I α (os.map oV) (os.map oD)
 |[]=>.nil
 |none::r=>.cons .non (Zf9 r)
 |some z::r=>.cons (.int z) (Zf9 r)
end
section
variable{C:Cf} 
inductive dDraw(ds:List D)(M:Mem)(K:K3):Prop
 |mk:∀k n,ds=[.cell k,.int n]->(M[k]?=some .hand/\(0<n/\n<1073741824)/\∀r,0<=r->r<n->K (.int r) M)->dDraw ds M K
def Zsw{E:XK}(h:spOf C dDraw vs H Q E):Su vs H Q E:=by
 let⟨Z,I,α,M,ds,K,R,r,⟨k,n,rfl,hm,⟨n0,n1⟩,h⟩,kk⟩:=h;refine Reps.e2 r λ_ _ r1 r2=>?_;cases r2.inv;let⟨p,rfl,ha⟩:=r1.inv;let⟨c,cs,hh,ic,hc⟩:=R.hand ha hm;exists p,c,n,rfl,hh,n0,n1,λz H' z0 z1 hh' g _=>kk _ _ I α H' M (.refl _) (Ji _) (R.grow ha hm hh' ic hc g) (.int z) (h z z0 z1)
inductive dOpen(ds:List D)(M:Mem)(K:K3):Prop
 |mk:∀(ns:List Int)(i:Int),ds=[.frz (ns.map .int),.int i]->((ns.length<=63/\0<=i/\i<2 ^ 60)/\K (.cell M.length) (M++[.hand]))->dOpen ds M K
def Te{k:Nat}{p c:Addr}{cs bs:List Int}{K:K3}(R:Rel C Z I α H M)(ha:α[k]?=some p)(hm:M[k]?=some .hand)(hh:HandAt H' p c)(ic:I c=some (.lst (cs.map V.int)))(hc:cs≠[]/\cs.length<=63/\∀c∈cs,0<=c)(g:Grow p H H')(nl:H l=none)(el:H' l=some (.lst (bs.map V.int)))(kk:Fin C Z I α K Q)(h:K (.lst (bs.map .int)) M):Q (.ref l) H':=by
 let⟨I',s,R',f⟩:=(R.grow ha hm hh ic hc g).full;exact kk _ _ I' α H' M s (Ji _) R' (.lst (f _ _ el (R.out nl)) (.ints bs)) h
inductive dBytes(ds:List D)(M:Mem)(K:K3):Prop
 |mk:∀k m,ds=[.cell k,.int m]->(M[k]?=some .hand/\(2<=m/\m<=4)/\∀bs:List Int,bs.Nodup->2<=bs.length->(bs.length:Int)<=m->(∀b∈bs,0<=b/\b<256)->K (.lst (bs.map .int)) M)->dBytes ds M K
def Zo2{E:XK}(h:spOf C dBytes vs H Q E):Zfp vs H Q E:=by
 let⟨Z,I,α,M,ds,K,R,r,⟨k,m,rfl,hm,⟨m0,m1⟩,h⟩,kk⟩:=h;refine Reps.e2 r λ_ _ r1 r2=>?_;cases r2.inv;let⟨p,rfl,ha⟩:=r1.inv;let⟨c,cs,hh,ic,hc⟩:=R.hand ha hm;exists p,c,m,rfl,hh,m0,m1,λl bs H' nl _ el nd b2 bm bb hh' g=>Te R ha hm hh' ic hc g nl el kk (h bs nd b2 bm bb)
inductive dSigns(ds:List D)(M:Mem)(K:K3):Prop
 |mk:∀k m,ds=[.cell k,.int m]->(M[k]?=some .hand/\(0<=m/\m<=100)/\∀ss:List Int,ss.Nodup->(ss.length:Int)=m->K (.lst (ss.map .int)) M)->dSigns ds M K
def Zo0{E:XK}(h:spOf C dSigns vs H Q E):Zfm vs H Q E:=by
 let⟨Z,I,α,M,ds,K,R,r,⟨k,m,rfl,hm,⟨m0,m1⟩,h⟩,kk⟩:=h;refine Reps.e2 r λ_ _ r1 r2=>?_;cases r2.inv;let⟨p,rfl,ha⟩:=r1.inv;let⟨c,cs,hh,ic,hc⟩:=R.hand ha hm;exists p,c,m,rfl,hh,m0,m1,λl bs H' nl _ el nd b2 hh' g=>Te R ha hm hh' ic hc g nl el kk (h bs nd b2)
def Zb1(R:Rel C Z I α H M)(r:Rep C I α v (.lst (ns.map .int))):∃a,v=.ref a/\H a=some (.lst (ns.map V.int))/\I a=some (.lst (ns.map V.int)):=by
 let⟨_,_,rfl,e,r⟩:=r.inv;rw[r.of_ints ns]at e;exists ·,R.sub _ _ e,e
def Ps{k:Nat}{p a:Addr}(R:Rel C Z I α H M)(ha:α[k]?=some p)(hm:M[k]?=some .hand)(e:I a=some o):a≠p:=λz=>by
 rw[z,(R.cel k p _ ha hm).2]at e;cases e
def Zru(R:Rel C Z I α H M)(r:Rep C I α v (.lst ds)):∃a vs,v=.ref a/\H a=some (.lst vs)/\I a=some (.lst vs)/\Reps C I α vs ds:=by
 let⟨_,_,rfl,e,r⟩:=r.inv;exists _,·,R.sub _ _ e,e,r
def Zem{k:Nat}{p c:Addr}{cs:List Int}{K:K3}(R:Rel C Z I α H M)(ha:α[k]?=some p)(hm:M[k]?=some .hand)(hh:HandAt H' p c)(ic:I c=some (.lst (cs.map V.int)))(hc:cs≠[]/\cs.length<=63/\∀c∈cs,0<=c)(g:Grow p H H')(nl:H l=none)(wa:Qa H' l ws)(kk:Fin C Z I α K Q)(h:K (.lst (ws.map wD)) M):Q (.ref l) H':=by
 let R1:=R.grow ha hm hh ic hc g;let⟨I',s,R',f⟩:=R1.full;let⟨us,eu,pu⟩:=wa;exact kk _ _ I' α H' M s (Ji _) R' (.lst (f _ _ eu (R.out nl)) (Zc7 (λv a z=>Zt9 (λb xs e=>f _ _ e (R1.tupOut e)) z) pu)) h
def Zii(R:Rel C Z I α H M)(r:Rep C I α v (.lst (ws.map wD))):∃a vs,v=.ref a/\I a=some (.lst vs)/\Qa H a ws:=by
 let⟨a,vs,rfl,e,i,rr⟩:=Zru R r;exists a,vs,rfl,i,vs,e,Pp (F:=Zck H) (f:=wD) (λv a z=>Zpa R.sub z) rr
inductive dTable(ds:List D)(M:Mem)(K:K3):Prop
 |mk:∀(k:Nat)(ws:List (List Int))(ss:List Int),ds=[.cell k,.lst (ws.map wD),.lst (ss.map .int)]->(M[k]?=some .hand/\(WOk ws/\ws.length<=28/\ss.Nodup/\ws.length<=ss.length/\ss.length<=100)/\∀L:List Pr,Free L->Fits L->(L.map (·.2)).Perm ws->K (.lst (L.map pD)) M)->dTable ds M K
inductive dText(ds:List D)(M:Mem)(K:K3):Prop
 |mk:∀(k:Nat)(ss:List Int)(m:Int),ds=[.cell k,.lst (ss.map .int),.int m]->(M[k]?=some .hand/\(0<=m/\m<=200)/\∀ts:List Int,(∀t∈ts,t∈ss)->(ts.length:Int)<=m->K (.lst (ts.map .int)) M)->dText ds M K
def Zsu{E:XK}(h:spOf C dText vs H Q E):Zku vs H Q E:=by
 let⟨Z,I,α,M,ds,K,R,r,⟨k,ss,m,rfl,hm,⟨h1,h2⟩,h⟩,kk⟩:=h;refine Reps.e3 r λ_ _ _ r1 r2 r3=>?_;cases r3.inv;let⟨p,rfl,ha⟩:=r1.inv;let⟨c,cs,hh,ic,hc⟩:=R.hand ha hm;let⟨sa,rfl,es,is⟩:=Zb1 R r2;exists p,c,sa,ss,m,rfl,hh,es,Ps R ha hm is,h1,h2,λl ts H' nl _ el hts hl hh' g=>Te R ha hm hh' ic hc g nl el kk (h ts hts hl)
end
section
variable{C:Cf}{tc:TE}{uc:TE3}{t:TA}{u:TA3}
inductive uRev_3(K:K3)(d:D)(M2:Mem):Prop
 |mk:∀xs,Vd M2 d=some xs->K (.lst xs.reverse) M2->uRev_3 K d M2
abbrev Zpi(K:K3)(d:D):Option Int->Mem->Prop:=λk M2=>k=some (-1)/\uRev_3 K d M2
abbrev Zpj(us:TO3)(ρ:Ev)(K:K3):D->Mem->Prop:=λd M1=>us ρ M1 (Zpi K d)
instance uRev(ua:TE3)(us:TO3):TE3:=λρ M K=>ua ρ M (Zpj us ρ K)
def Zqo{ts:TO}{us:TO3}(ha:SimE C Z ta ua)(hs:SimO C Z ts us):SimE C Z (tRev C.k ta ts) (uRev ua us):=λI α σ H ρ M K Q R E h k =>
 ha I α σ H ρ M _ _ R E h λv d I1 α1 H1 M1 s1 p1 R1 r1 h1 =>
  hs I1 α1 σ H1 ρ M1 _ _ R1 (E.mono s1 p1) h1 λo I2 α2 H2 M2 s2 p2 R2 h2=>by
   let⟨ho,xs,e,h2⟩:=h2;let⟨a,vs,rfl,ea,ra⟩:=Tb R2 (r1.mono s2 p2) e;exists ho,a,vs,rfl,ea,λp hp=>?_;let⟨R3,s3,e3⟩:=R2.new (o:=.lst vs.reverse) hp;exact k _ _ _ α2 _ M2 (s1.trans (s2.trans s3)) (p1.trans p2) R3 (.lst e3 (ra.rev.mono s3 (Ji _))) h2
instance valD[DecidableEq κ](kvs:List (κ×D))(k:κ):Option D:=(kvs.find? λkv=>decide (kv.1=k)).map (·.2)
instance putD[DecidableEq κ](kvs:List (κ×D))(k:κ)(v:D):List (κ×D) :=
 if(kvs.any λkv=>decide (kv.1=k))=true then kvs.map (λkv=>if kv.1=k then(kv.1,v)else kv)else kvs++[(k,v)]
instance Zei:D->Option Key
 |.int i=>some (.inl i)
 |.str s=>some (.inr s)
 |_=>none
instance Sc:List D->Option (List Key)
 |[]=>some []
 |d::r=>match Zei d,Sc r with|some k,some ks=>some (k::ks)|_,_=>none
instance tkOf:D->Option (List Key)
 |.tup ds=>Sc ds
 |_=>none
section
def Rc{d:D}{k:Key}(r:Rep C I α v d)(h:Zei d=some k):v=kV k:=by
 cases r with
 |int i=>cases h;rfl
 |str i=>cases h;rfl
 |_=>cases h
def Tx:∀{vs:List V}{ds:List D}{ks:List Key},Reps C I α vs ds->Sc ds=some ks->vs=ks.map kV
 |_,_,_,.nil,h=>by cases h;rfl
 |_,_,ks,.cons (d:=d) (ds:=ds) a b,h=>by
  unfold Sc at h;cases h1:Zei d with
  |none=>simp only[h1]at h;cases h
  |some k =>
   cases h2:Sc ds with
   |none=>simp only[h1,h2]at h;cases h
   |some r =>
    simp only[h1,h2]at h;cases h;rw[Rc a h1,Tx b h2];rfl
def RepK.len:∀{vs:List (Key×V)}{ds:List (Key×D)},RepK C I α vs ds->vs.length=ds.length:=by
 intro _ _ hz9;cases hz9 with
 |nil=>
  exact rfl
 |cons _ b=>
  exact by rw[Ju,Ju,RepK.len b]
def RepT.len:∀{vs:List (List Key×V)}{ds:List (List Key×D)},RepT C I α vs ds->vs.length=ds.length:=by
 intro _ _ hz9;cases hz9 with
 |nil=>
  exact rfl
 |cons _ b=>
  exact by rw[Ju,Ju,RepT.len b]
def Xk[DecidableEq κ]{k k':κ}{d:D}{r:List (κ×D)}:valD ((k',d)::r) k=if k'=k then some d else valD r k:=by
 unfold valD;rw[G7]
 by_cases h:k'=k
 .simp[h]
 .simp[h]
def Nw[DecidableEq κ]{k k':κ}{d:V}{r:List (κ×V)}:valV ((k',d)::r) k=if k'=k then some d else valV r k:=by
 unfold valV;rw[G7]
 by_cases h:k'=k
 .simp[h]
 .simp[h]
def RepK.val{k:Key}:∀{vs:List (Key×V)}{ds:List (Key×D)},RepK C I α vs ds->(valD ds k=none/\valV vs k=none)\/∃d v,valD ds k=some d/\valV vs k=some v/\Rep C I α v d
 |_,_,.nil=>.inl ⟨rfl,rfl⟩
 |_,_,.cons (k:=k') (v:=v) (d:=d) a b=>by
  rw[Xk,Nw]
  by_cases h:k'=k
  .rw[Fp h,Fp h];exact .inr ⟨d,v,rfl,rfl,a⟩
  .rw[Fo h,Fo h];exact RepK.val b
def RepT.val{k:List Key}:∀{vs:List (List Key×V)}{ds:List (List Key×D)},RepT C I α vs ds->(valD ds k=none/\valV vs k=none)\/∃d v,valD ds k=some d/\valV vs k=some v/\Rep C I α v d
 |_,_,.nil=>.inl ⟨rfl,rfl⟩
 |_,_,.cons (k:=k') (v:=v) (d:=d) a b=>by
  rw[Xk,Nw]
  by_cases h:k'=k
  .rw[Fp h,Fp h];exact .inr ⟨d,v,rfl,rfl,a⟩
  .rw[Fo h,Fo h];exact RepT.val b
def RepK.any{k:Key}:∀{vs:List (Key×V)}{ds:List (Key×D)},RepK C I α vs ds->(vs.any λkv=>decide (kv.1=k))=(ds.any λkv=>decide (kv.1=k)):=by
 intro _ _ hz9;cases hz9 with
 |nil=>
  exact rfl
 |cons a b=>
  exact by rw[Br,Br,RepK.any b]
def RepT.any{k:List Key}:∀{vs:List (List Key×V)}{ds:List (List Key×D)},RepT C I α vs ds->(vs.any λkv=>decide (kv.1=k))=(ds.any λkv=>decide (kv.1=k)):=by
 intro _ _ hz9;cases hz9 with
 |nil=>
  exact rfl
 |cons a b=>
  exact by rw[Br,Br,RepT.any b]
def RepK.app:∀{vs ws:List (Key×V)}{ds es:List (Key×D)},RepK C I α vs ds->RepK C I α ws es->RepK C I α (vs++ws) (ds++es):=by
 intro _ _ _ _ hz9 s;cases hz9 with
 |nil=>
  exact s
 |cons r t=>
  exact .cons r (RepK.app t s)
def RepT.app:∀{vs ws:List (List Key×V)}{ds es:List (List Key×D)},RepT C I α vs ds->RepT C I α ws es->RepT C I α (vs++ws) (ds++es):=by
 intro _ _ _ _ hz9 s;cases hz9 with
 |nil=>
  exact s
 |cons r t=>
  exact .cons r (RepT.app t s)
def RepK.mapPut{k:Key}{d:D}(r:Rep C I α v d):∀{vs:List ((Key)×V)}{ds:List ((Key)×D)},RepK C I α vs ds->RepK C I α (vs.map λkv=>if kv.1=k then(kv.1,v)else kv) (ds.map λkv=>if kv.1=k then(kv.1,d)else kv)
 |_,_,.nil=>.nil
 |_,_,.cons (k:=k') a b=>by
  rw[Jk,Jk]
  by_cases e:k'=k
  .simp only[e,if_true];exact .cons r (RepK.mapPut r b)
  .simp only[e,if_false];exact .cons a (RepK.mapPut r b)
def RepK.put{k:Key}{d:D}{vs:List ((Key)×V)}{ds:List ((Key)×D)}(h:RepK C I α vs ds)(r:Rep C I α v d):RepK C I α (putK vs k v) (putD ds k d):=by
 unfold putK putD;rw[h.any]
 split
 .exact RepK.mapPut r h
 .exact h.app (.cons r .nil)
def RepT.mapPut{k:List Key}{d:D}(r:Rep C I α v d):∀{vs:List ((List Key)×V)}{ds:List ((List Key)×D)},RepT C I α vs ds->RepT C I α (vs.map λkv=>if kv.1=k then(kv.1,v)else kv) (ds.map λkv=>if kv.1=k then(kv.1,d)else kv)
 |_,_,.nil=>.nil
 |_,_,.cons (k:=k') a b=>by
  rw[Jk,Jk]
  by_cases e:k'=k
  .simp only[e,if_true];exact .cons r (RepT.mapPut r b)
  .simp only[e,if_false];exact .cons a (RepT.mapPut r b)
def RepT.put{k:List Key}{d:D}{vs:List ((List Key)×V)}{ds:List ((List Key)×D)}(h:RepT C I α vs ds)(r:Rep C I α v d):RepT C I α (putK vs k v) (putD ds k d):=by
 unfold putK putD;rw[h.any]
 split
 .exact RepT.mapPut r h
 .exact h.app (.cons r .nil)
instance Sh(M:Mem):D->Option (List (Key×D))
 |.dct kvs=>some kvs
 |.cell k=>match M[k]? with|some (.dct kvs)=>some kvs|some (.drK kvs)=>some kvs|some (.dfK _ _ kvs)=>some kvs|_=>none
 |_=>none
instance Zol(M:Mem):D->Option (List (List Key×D))
 |.dcT kvs=>some kvs
 |.cell k=>match M[k]? with|some (.dcT kvs)=>some kvs|some (.drT kvs)=>some kvs|_=>none
 |_=>none
def Zli{d:D}{kvs:List (Key×D)}(R:Rel C Z I α H M)(r:Rep C I α v d)(h:Sh M d=some kvs):∃a vs,v=.ref a/\Rd H a (.dK vs)/\RepK C I α vs kvs:=by
 cases r with
 |dct e r=>cases h;exists _,·,.inl (R.sub _ _ e),r
 | @cell a k e =>
  unfold Sh at h;cases hm:M[k]? with
  |none=>simp only[hm]at h;cases h
  |some m =>
   cases m with
   |dct es=>simp only[hm]at h;cases h;let⟨vs,e1,r⟩:=(R.cel k a _ e hm).1;exists _,·,.inl e1,r
   |drK es=>simp only[hm]at h;cases h;let⟨vs,e1,r⟩:=(R.cel k a _ e hm).1;exists _,·,e1,r
   |dfK o vs es=>simp only[hm]at h;cases h;let⟨e1,r⟩:=(R.cel k a _ e hm).1;exists _,·,.inr ⟨o,e1⟩,r
   |_=>simp only[hm]at h;cases h
 |_=>cases h
def Zr9{d:D}{kvs:List (List Key×D)}(R:Rel C Z I α H M)(r:Rep C I α v d)(h:Zol M d=some kvs):∃a vs,v=.ref a/\Rd H a (.dT vs)/\RepT C I α vs kvs:=by
 cases r with
 |dcT e r=>cases h;exists _,·,.inl (R.sub _ _ e),r
 | @cell a k e =>
  unfold Zol at h;cases hm:M[k]? with
  |none=>simp only[hm]at h;cases h
  |some m =>
   cases m with
   |dcT es=>simp only[hm]at h;cases h;let⟨vs,e1,r⟩:=(R.cel k a _ e hm).1;exists _,·,.inl e1,r
   |drT es=>simp only[hm]at h;cases h;let⟨vs,e1,r⟩:=(R.cel k a _ e hm).1;exists _,·,e1,r
   |_=>simp only[hm]at h;cases h
 |_=>cases h
instance dGet(M:Mem)(d e:D)(o:Option D):Prop:=(∃kvs k,Sh M d=some kvs/\Zei e=some k/\o=valD kvs k)\/∃kvs k,Zol M d=some kvs/\tkOf e=some k/\o=valD kvs k
def Zcd{w:V}{d e:D}{o:Option D}(R:Rel C Z I α H M)(r1:Rep C I α v d)(r2:Rep C I α w e)(h:dGet M d e o):∃a o',v=.ref a/\IsD H a/\DGet H a w o'/\((o=none/\o'=none)\/∃x y,o=some x/\o'=some y/\Rep C I α y x):=by
 rcases h with⟨kvs,k,e1,e2,rfl⟩|⟨kvs,k,e1,e2,rfl⟩
 .let⟨a,vs,rfl,ea,ra⟩:=Zli R r1 e1;exists a,valV vs k,rfl,.inl ⟨vs,ea⟩,by rw[Rc r2 e2];exact .inl ⟨vs,k,ea,rfl,rfl⟩,?_;rcases ra.val (k:=k)with⟨h1,h2⟩|⟨x,y,h1,h2,h3⟩
  .exact .inl ⟨h1,h2⟩
  .exact .inr ⟨x,y,h1,h2,h3⟩
 .let⟨a,vs,rfl,ea,ra⟩:=Zr9 R r1 e1;cases r2 with
  | @tup b bs ds eb rb =>
   let hb:H b=some (.tup (k.map kV)):=by rw[<-Tx rb e2];exact R.sub _ _ eb
   exists a,valV vs k,rfl,.inr ⟨vs,ea⟩,.inr ⟨vs,k,b,ea,rfl,hb,rfl⟩,?_;rcases ra.val (k:=k)with⟨h1,h2⟩|⟨x,y,h1,h2,h3⟩
   .exact .inl ⟨h1,h2⟩
   .exact .inr ⟨x,y,h1,h2,h3⟩
  |_=>cases e2
end
inductive uDGet_2(K:K3)(d:D)(e:D)(M2:Mem):Prop
 |mk:∀v,dGet M2 d e (some v)->K v M2->uDGet_2 K d e M2
abbrev Zl5(ub:TE3)(ρ:Ev)(K:K3):D->Mem->Prop:=λd M1=>ub ρ M1 (uDGet_2 K d)
instance Ztl(ua ub:TE3):TE3:=λρ M K=>ua ρ M (Zl5 ub ρ K)
def Zky(ha:SimE C Z ta ua)(hb:SimE C Z tb ub):SimE C Z (Zqi ta tb) (Ztl ua ub):=λI α σ H ρ M K Q R E h k =>
 ha I α σ H ρ M _ _ R E h λv d I1 α1 H1 M1 s1 p1 R1 r1 h1 =>
  hb I1 α1 σ H1 ρ M1 _ _ R1 (E.mono s1 p1) h1 λw e I2 α2 H2 M2 s2 p2 R2 r2 h2=>by
   let⟨x,g,h2⟩:=h2;let⟨a,o',rfl,_,g2,z⟩:=Zcd R2 (r1.mono s2 p2) r2 g;rcases z with⟨z,_⟩|⟨x',y,z1,z2,z3⟩
   .cases z
   .cases z1;subst z2;exists a,y,rfl,g2,k _ _ I2 α2 H2 M2 (s1.trans s2) (p1.trans p2) R2 z3 h2
inductive uDIn_2(K:K3)(e:D)(d:D)(M2:Mem):Prop
 |mk:∀o,dGet M2 d e o->K (.bl o.isSome) M2->uDIn_2 K e d M2
abbrev Zpz(ua:TE3)(ρ:Ev)(K:K3):D->Mem->Prop:=λe M1=>ua ρ M1 (uDIn_2 K e)
instance uDIn(ub ua:TE3):TE3:=λρ M K=>ub ρ M (Zpz ua ρ K)
inductive uDNotIn_2(K:K3)(e:D)(d:D)(M2:Mem):Prop
 |mk:∀o,dGet M2 d e o->K (.bl (!o.isSome)) M2->uDNotIn_2 K e d M2
abbrev Ze5(ua:TE3)(ρ:Ev)(K:K3):D->Mem->Prop:=λe M1=>ua ρ M1 (uDNotIn_2 K e)
instance Zl4(ub ua:TE3):TE3:=λρ M K=>ub ρ M (Ze5 ua ρ K)
def Zt3(hb:SimE C Z tb ub)(ha:SimE C Z ta ua):SimE C Z (tDIn tb ta) (uDIn ub ua):=λI α σ H ρ M K Q R E h k =>
 hb I α σ H ρ M _ _ R E h λw e I1 α1 H1 M1 s1 p1 R1 r1 h1 =>
  ha I1 α1 σ H1 ρ M1 _ _ R1 (E.mono s1 p1) h1 λv d I2 α2 H2 M2 s2 p2 R2 r2 h2=>by
   let⟨o,g,h2⟩:=h2;let⟨a,o',rfl,_,g2,z⟩:=Zcd R2 r2 (r1.mono s2 p2) g;let eo:o'.isSome=o.isSome:=by
    rcases z with⟨rfl,rfl⟩|⟨x',y,rfl,rfl,_⟩<;>rfl
   exact⟨a,o',rfl,g2,by rw[eo];exact k _ _ I2 α2 H2 M2 (s1.trans s2) (p1.trans p2) R2 (.bl _) h2⟩
def Zc4(hb:SimE C Z tb ub)(ha:SimE C Z ta ua):SimE C Z (Zff tb ta) (Zl4 ub ua):=λI α σ H ρ M K Q R E h k =>
 hb I α σ H ρ M _ _ R E h λw e I1 α1 H1 M1 s1 p1 R1 r1 h1 =>
  ha I1 α1 σ H1 ρ M1 _ _ R1 (E.mono s1 p1) h1 λv d I2 α2 H2 M2 s2 p2 R2 r2 h2=>by
   let⟨o,g,h2⟩:=h2;let⟨a,o',rfl,_,g2,z⟩:=Zcd R2 r2 (r1.mono s2 p2) g;let eo:o'.isSome=o.isSome:=by
    rcases z with⟨rfl,rfl⟩|⟨x',y,rfl,rfl,_⟩<;>rfl
   exact⟨a,o',rfl,g2,by rw[eo];exact k _ _ I2 α2 H2 M2 (s1.trans s2) (p1.trans p2) R2 (.bl _) h2⟩
instance Zpy:TE3:=λ_ M K=>K (.cell M.length) (M++[.dct []])
def Zf2:SimE C Z Zkt Zpy:=λI α σ H ρ M K Q R E h k p hp=>by
 let⟨R2,p2,e2⟩:=R.cell (o:=.dK []) (m:=.dct []) hp λH' e=>⟨[],e,.nil⟩;exact k _ _ I _ _ _ (.refl _) p2 R2 (.cell e2) h
instance Zpx:TE3:=λ_ M K=>K (.cell M.length) (M++[.dcT []])
def Zmx:SimE C Z Zks Zpx:=λI α σ H ρ M K Q R E h k p hp=>by
 let⟨R2,p2,e2⟩:=R.cell (o:=.dT []) (m:=.dcT []) hp λH' e=>⟨[],e,.nil⟩;exact k _ _ I _ _ _ (.refl _) p2 R2 (.cell e2) h
instance dPut(M:Mem)(d e v:D)(M':Mem):Prop:=(∃j kvs k,d=.cell j/\M[j]?=some (.dct kvs)/\Zei e=some k/\kvs.length<Cb/\M'=M.set j (.dct (putD kvs k v))) \/
 ∃j kvs k,d=.cell j/\M[j]?=some (.dcT kvs)/\tkOf e=some k/\kvs.length<Cb/\M'=M.set j (.dcT (putD kvs k v))
inductive uDPut_3(E:Ends3)(ρ:Ev)(v:D)(d:D)(e:D)(M3:Mem):Prop
 |mk:∀M4,dPut M3 d e v M4->E.nx ρ M4->uDPut_3 E ρ v d e M3
abbrev Zl2(ub:TE3)(E:Ends3)(ρ:Ev)(v:D):D->Mem->Prop:=λd M2=>ub ρ M2 (uDPut_3 E ρ v d)
abbrev Zl3(ua:TE3)(ub:TE3)(E:Ends3)(ρ:Ev):D->Mem->Prop:=λv M1=>ua ρ M1 (Zl2 ub E ρ v)
instance Ztk(ua ub uc:TE3):TS3:=λE ρ M=>uc ρ M (Zl3 ua ub E ρ)
def Zf1(ha:SimE C Z ta ua)(hb:SimE C Z tb ub)(hc:SimE C Z tc uc):SimS C Z (Zq7 ta tb tc) (Ztk ua ub uc):=λI α σ H ρ M E D' R RE h F =>
 hc I α σ H ρ M _ _ R RE h λv d0 I1 α1 H1 M1 s1 p1 R1 r1 h1=>ha I1 α1 σ H1 ρ M1 _ _ R1 (RE.mono s1 p1) h1 λx d I2 α2 H2 M2 s2 p2 R2 r2 h2 =>
  hb I2 α2 σ H2 ρ M2 _ _ R2 (RE.mono (s1.trans s2) (p1.trans p2)) h2 λy e I3 α3 H3 M3 s3 p3 R3 r3 h3=>by
   let⟨M4,g,h3⟩:=h3;let rv:=r1.mono (s2.trans s3) (p2.trans p3);let RE3:=RE.mono (s1.trans (s2.trans s3)) (p1.trans (p2.trans p3));rcases g with⟨j,kvs,kk,rfl,e1,e2,hl,rfl⟩|⟨j,kvs,kk,rfl,e1,e2,hl,rfl⟩
   .let⟨a,rfl,ec⟩:=(r2.mono s3 p3).inv;let⟨vs,ea,ra⟩:=(R3.cel j a _ ec e1).1;exists a,·,by rw[Rc r3 e2];exact DPut.k ea (by rw[ra.len];exact hl),?_;exact F.nx I3 α3 σ _ ρ _ (s1.trans (s2.trans s3)) (p1.trans (p2.trans p3)) (R3.put (m:=.dct (putD kvs kk d0)) ec λH' e=>⟨_,e,ra.put rv⟩) RE3 h3
   .let⟨a,rfl,ec⟩:=(r2.mono s3 p3).inv;let⟨vs,ea,ra⟩:=(R3.cel j a _ ec e1).1;cases r3 with
    | @tup b bs ds eb rb =>
     let hb:H3 b=some (.tup (kk.map kV)):=by rw[<-Tx rb e2];exact R3.sub _ _ eb
     exists a,·,DPut.t ea hb (by rw[ra.len];exact hl),?_;exact F.nx I3 α3 σ _ ρ _ (s1.trans (s2.trans s3)) (p1.trans (p2.trans p3)) (R3.put (m:=.dcT (putD kvs kk d0)) ec λH' e=>⟨_,e,ra.put rv⟩) RE3 h3
    |_=>cases e2
def Rel.made{k0:Nat}{x:Addr}(R:Rel C Z I α H M)(hk:M[k0]?=some (.tab Pt pos q))(nx:H x=none)(tb:Za6 Pt pos q H')(g:∀b o,b≠x->b≠Pt->H b=some o->H' b=some o) :
  ∃I',Same I I'/\Rel C Z I' α H' M/\∀b o,H' b=some o->b∉α->I' b=some o:=by
 let⟨P',eP,⟨rfl,ps0,e0,_⟩,iP⟩:=R.get hk;let hα:∀b,b∈α->b≠x:=λb hb=>by
  let⟨k,hk,rfl⟩:=Gf hb;exact R.cellNe (Jb hk) nx
 let hI:∀b o,I b=some o->b∉α:=λb o e hb=>by
  let⟨k,hk,rfl⟩:=Gf hb;let hk':k<M.length:=by rw[<-R.len];exact hk
  rw[(R.cel k _ _ (Jb hk) (Jb hk')).2]at e;cases e
 let hS:∀b o,I b=some o->H' b=some o:=λb o e=>g b o (λz=>by rw[z,R.sub.free nx]at e;cases e) (λz=>by rw[z,iP]at e;cases e) (R.sub b o e);let s:Same I (λb=>if b∈α then none else H' b):=λb o e=>by
  show(if b∈α then none else H' b)=some o;rw[Fo (hI b o e)];exact hS b o e
 let hc:∀(k:Nat)(a:Addr)(m:MO),k≠k0->α[k]?=some a->M[k]?=some m->H' a=H a:=λk a m ne h1 h2=>by
  let⟨o,eo⟩:=(R.cel k a m h1 h2).1.some;let n2:a≠P':=λz=>by
   let⟨hj,ej⟩:=Jf.mp h1;let⟨hk,ek⟩:=Jf.mp eP;rw[<-ej,<-ek]at z;exact ne ((Bi R.nd).mp z)
  exact(g a o (hα a (Gq h1)) n2 eo).trans eo.symm
 exists _,s,⟨R.ai.trans s,R.aa,λb o e=>?_,R.len,R.nd,λk a m h1 h2=>?_⟩,λb o e hb=>?_
 .let e':(if b∈α then none else H' b)=some o:=e
  split at e'
  .cases e'
  .exact e'
 .refine⟨?_,by show(if a∈α then none else H' a)=none;rw[Fp (Gq h1)]⟩
  by_cases ne:k=k0
  .subst ne;rw[eP]at h1;cases h1;rw[hk]at h2;cases h2;let⟨ps,e1,t1,z⟩:=tb;exists rfl,ps,e1,t1,?_;rcases z with z|⟨c,z1,z2⟩
   .exact .inl z
   .refine .inr ⟨c,z1,?_⟩;show(if c∈α then none else H' c)=_;rw[Fo,z2];intro hcα;let⟨j,hj,ec⟩:=Gf hcα;let hj':j<M.length:=by rw[<-R.len];exact hj
    let h1:=Jb hj;let h2:=Jb hj';rw[ec]at h1
    by_cases nj:j=k
    .subst nj;rw[eP]at h1;cases h1;rw[e1]at z2;cases z2
    .let hh:=hc j c _ nj h1 h2;let mo:=(R.cel j c _ h1 h2).1;rw[z2]at hh;cases hm:M[j]with
     |lst ds=>rw[hm]at mo;let⟨vs,e,_⟩:=mo;rw[e]at hh;cases hh
     |dct ds=>rw[hm]at mo;let⟨vs,e,_⟩:=mo;rw[e]at hh;cases hh
     |dcT ds=>rw[hm]at mo;let⟨vs,e,_⟩:=mo;rw[e]at hh;cases hh
     |drK ds=>rw[hm]at mo;let⟨vs,e,_⟩:=mo;rcases e with e|⟨o,e⟩<;>(rw[e]at hh;cases hh)
     |drT ds=>rw[hm]at mo;let⟨vs,e,_⟩:=mo;rcases e with e|⟨o,e⟩<;>(rw[e]at hh;cases hh)
     |dfT o vs ds=>rw[hm]at mo;rw[mo.1]at hh;cases hh
     |dfK o vs ds=>rw[hm]at mo;rw[mo.1]at hh;cases hh
     |ins Cl fs=>rw[hm]at mo;let⟨dx,vs,e,_⟩:=mo;rw[e]at hh;cases hh
     |hand=>rw[hm]at mo;let⟨d,k,c,cs,e,_⟩:=mo;rw[e]at hh;cases hh
     |tab P pos q=>rw[hm]at mo;let⟨_,ps,e,_⟩:=mo;rw[e]at hh;cases hh
     |dcN sh z ds =>
      rw[hm]at mo;cases z with
      |none =>
       let⟨vs,e,_⟩:=mo;rw[e]at hh;exact dnP.ne ⟨.none,none,.fields #[.none,.str q default],#[]⟩ rfl (λh g=>⟨c,_,_,_,rfl,g,rfl,rfl⟩) (HO.ext.inj (Fu hh)).symm
      |some z=>rw[mo.1]at hh;cases hh
  .exact(R.cel k a m h1 h2).1.mono s (Ji _) (hc k a m ne h1 h2)
 .show(if b∈α then none else H' b)=some o;rw[Fo hb];exact e
instance Zlw(Pt:Addr)(pos:Pos)(q:Str)(u:TA3):TE3:=λρ M K=>u ρ M λds M1=>∃(k0:Nat)(d:D)(L:List Pr),M1[k0]?=some (.tab Pt pos q)/\ds=[d]/\lsOf M1 d=some (L.map pD)/\(Free L/\Fits L)/\∀S:List Pr,S.Perm L->Qb S->K (.code S) M1
end
def Yg :(M++[m])[M.length]?=some m:=by simp
def Uc :(M++[m]).set M.length m'=M++[m']:=by simp
section
variable{C:Cf} 
def Zoq(R:Rel C Z I α H M)(r:Rep C I α v (.code S)):∃x,v=.ref x/\To C.c H x S:=by
 let⟨_,rfl,h⟩:=r.inv;exists ·,h.same R.sub
def Zk9{d:D}(R:Rel C Z I α H M)(r:Rep C I α v d)(h:lsOf M d=some (ns.map .int)):∃a,v=.ref a/\H a=some (.lst (ns.map V.int)):=by
 let⟨a,vs,rfl,ea,ra⟩:=Pu R r h;rw[ra.of_ints ns]at ea;exists a,rfl,ea
end
instance Zkw(K:Cs)(Pt:Addr)(pos:Pos)(q:Str):Sp:=λvs H Q _=>∃(a:Addr)(ns:List Int),vs=[.ref a]/\SqL K H a (ns.map V.int)/\ns.length<=63/\Za6 Pt pos q H/\∀H',Q (.bl true) H'
inductive dLawT(Pt:Addr)(pos:Pos)(q:Str)(ds:List D)(M:Mem)(K:K3):Prop
 |mk:∀ns:List Int,ds=[.frz (ns.map .int)]->(M=[.tab Pt pos q]/\ns.length<=63/\∀M',K (.bl true) M')->dLawT Pt pos q ds M K
def Znw{C:Cf}{E:XK}(h:Zkw C.k Pt pos q vs H Q E):spOf C (dLawT Pt pos q) vs H Q E:=by
 let⟨a,ns,rfl,hS,hl,⟨ps,eP,tp,cp⟩,k⟩:=h;let sI:Same (λb=>if b=Pt then none else H b) H:=λb o e=>by
  let e':(if b=Pt then none else H b)=some o:=e
  split at e'
  .cases e'
  .exact e'
 exists⟨λ_=>none,[],λ_ _ _=>False,λ_ _ _=>False⟩,λb=>if b=Pt then none else H b,[Pt],[.tab Pt pos q],[.frz (ns.map .int)],λd _=>d=.bl true,⟨(λ_ _ h=>nomatch h),List.nil_prefix,sI,rfl,by simp,λk' a' m h1 h2=>?_⟩,?_,⟨ns,rfl,rfl,hl,λ_=>rfl⟩,λv d I' α' H' M' s p R r h=>?_
 .cases k' with
  |succ n=>simp at h1
  |zero =>
   simp at h1 h2;subst h1;subst h2;exists⟨rfl,ps,eP,tp,?_⟩,Fp rfl;rcases cp with z|⟨c,z1,z2⟩
   .exact .inl z
   .exact .inr ⟨c,z1,by
     show(if c=Pt then none else H c)=_;rw[Fo (Pq z2 eP λz=>by cases z)];exact z2⟩
 .refine .one (.frz ?_ (.ints ns));rcases hS with(hS|⟨o,hS⟩)|hS
  .exact .inl (.inl (by
    show(if a=Pt then none else H a)=_;rw[Fo (Pq hS eP λz=>by cases z)];exact hS))
  .exact .inl (.inr ⟨o,by
    show(if a=Pt then none else H a)=_;rw[Fo (Pq hS eP λz=>by cases z)];exact hS⟩)
  .exact .inr hS
 .subst h;cases r.inv;exact k H'
def Zj5{x:D}(h:(ns.map D.int)[i]?=some x):∃hi:i<ns.length,x=.int ns[i]:=by
 let⟨hi,e⟩:=Jf.mp h;rw[Ja]at hi;exists hi,?_;rw[<-e,G3]
def Y4{f:τ->D}{as:List τ}{x:D}(h:(as.map f)[i]?=some x):∃hi:i<as.length,x=f as[i]:=by
 let⟨hi,e⟩:=Jf.mp h;rw[Ja]at hi;exact⟨hi,by rw[<-e,G3]⟩
def Ve{f:τ->D}{as:List τ}{i:Int}(h:i=j)(hj:j<as.length):L2.atI (as.map f) i=some (f as[j]):=by
 subst h;exact Wh (by rw[Jr,Jb hj];rfl)
def Zgz{xs:List D}:lsOf (M++[.lst xs]) (.cell M.length)=some xs:=by simp[lsOf]
def Tv{d:D}{xs:List D}(h:lsOf M d=some xs):lsOf M d≠none:=by rw[h];exact λz=>nomatch z
end L3
variable{M:L3.Mem}{Z Z':L3.Anc}{ds:List L3.D}{m m':L3.MO}{ρ:L3.Ev}{kx:L3.X3}{ua ub uo:L3.TE3}{ui:L3.TI3}
namespace L3
def g_nx{d:D}{K:Ev->Mem->Prop}(h:K (ρ.set i (some d)) M):uG i d ρ M K:=h
end L3
namespace L3
open PySem L2
instance FinX(C:Cf)(Z:Anc):Prop:=∀Ce d vs fs I' α' H' M',Rel C Z I' α' H' M'->XD I' d vs->RepF C I' α' vs fs->Z.kx Ce fs M'->Z.xe (.ref Ce) d H'
abbrev Sp3X:=List D->Mem->K3->X3->Prop
instance Tp(C:Cf)(sp:Sp3X):Sp:=λvs H Q E=>∃Z I α M ds K KX,Rel C Z I α H M/\Reps C I α vs ds/\sp ds M K KX/\Fin C Z I α K Q /\
 ∀Ce d vs fs I' α' H' M',Same I I'->α<+:α'->Rel C Z I' α' H' M'->XD I' d vs->RepF C I' α' vs fs->KX Ce fs M'->E (.ref Ce) d H'
section
variable{C:Cf}{t:TA}{u:TA3}
def Rel.re{M':Mem}(R':Rel C Z' I' α' H' M')(R:Rel C Z I α H M)(s:Same I I')(p:α<+:α'):Rel C Z I' α' H' M':=⟨R.ai.trans s,R.aa.trans p,R'.sub,R'.len,R'.nd,R'.cel⟩
def Rel.here(R:Rel C Z I α H M)(E:XK)(k:X3):Rel C ⟨I,α,E,k⟩ I α H M:=⟨.refl _,Ji _,R.sub,R.len,R.nd,R.cel⟩
def Fin.re{K:K3}(k:Fin C Z I α K Q)(R:Rel C Z I α H M):Fin C Z' I α K Q:=λv d I' α' H' M' s p R' r h=>k v d I' α' H' M' s p (R'.re R s p) r h
def FinS.re{K:Ev->Mem->Prop}{Q:St->Hp->Prop}(k:FinS C Z I α K Q)(R:Rel C Z I α H M):FinS C Z' I α K Q:=λI' α' σ' H' ρ' M' s p R' E h=>k I' α' σ' H' ρ' M' s p (R'.re R s p) E h
def FinD.re{E:Ends3}{D':Ends}(k:FinD C Z I α E D')(R:Rel C Z I α H M):FinD C Z' I α E D':=⟨k.nx.re R,k.rt.re R,k.bk.re R,k.ct.re R⟩
abbrev Ziv(sp:Sp3X)(kx:X3)(K:K3):List D->Mem->Prop:=λds M1=>sp ds M1 K kx
instance Zp1(sp:Sp3X)(kx:X3)(u:TA3):TE3:=λρ M K=>u ρ M (Ziv sp kx K)
def Zmz{sp:Sp3X}{E:XK}(he:Z.xe=E)(hk:Z.kx=kx)(hx:FinX C Z)(ha:SimA C Z t u):SimE C Z (Zfh (Tp C sp) [] E t) (Zp1 sp kx u):=λI α σ H ρ M K Q R RE h k =>
 ha I α σ H ρ M _ _ R RE h λvs ds I1 α1 H1 M1 s1 p1 R1 r1 h1=>by
  subst he hk;rw[Jz];exists Z,I1,α1,M1,ds,K,Z.kx,R1,r1,h1,k.mono s1 p1,λCe d vs fs I' α' H' M' s p R' e f g=>hx Ce d vs fs I' α' H' M' R' e f g
def CalE.imp{base:Heap}{x:Str}{k:Nat}(c:CalE bctx P w K mg base x k ps sp)(h:∀vs H Q E,sp' vs H Q E->sp vs H Q E):CalE bctx P w K mg base x k ps sp' :=
 let⟨f,fd,a,b⟩:=c
 ⟨f,fd,a.imp h,b⟩
inductive uRaise1_1(Cx:Addr)(f:Str)(kx:X3)(ds:List D)(M1:Mem):Prop
 |mk:∀d,ds=[d]->kx Cx [(f,d)] M1->uRaise1_1 Cx f kx ds M1
instance Zls(Cx:Addr)(f:Str)(kx:X3)(u:TA3):TS3:=λ_y0 ρ M=>u ρ M (uRaise1_1 Cx f kx)
def Pl{Cx:Addr}{f:Str}{E:XK}(he:Z.xe=E)(hk:Z.kx=kx)(hx:FinX C Z)(ha:SimA C Z t u):SimS C Z (Zfc Cx (spX1 Cx f) E t) (Zls Cx f kx u):=λI α σ H ρ M E3 D' R RE h F =>
 ha I α σ H ρ M _ _ R RE h λvs ds I1 α1 H1 M1 s1 p1 R1 r1 h1=>by
  subst he hk;let⟨d0,rfl,h1⟩:=h1;refine Reps.e1 r1 λ_ r1=>?_
  rename_i y
  exists by simp,λea hea=>⟨ea,y,rfl,Zi,λd hd hne=>⟨rfl,d,?_,?_⟩⟩
  .rw[Zk (Cv hne),Zi]
  .let hd1:H1 d=none:=by rw[Zk hne]at hd;exact hd
   let sH:Same H1 (upd (upd (upd (upd H1 ea (.ext (excN ea Cx none))) ea (.ext (excN ea Cx (some d)))) d (.ext (xdP d [(f,y)]))) ea (.ext (excP ea Cx (some d)))):=λb o e=>by
    let n1:b≠ea:=Zp e hea;let n2:b≠d:=Zp e hd1;rw[Zk n1,Zk n2,Zk n1,Zk n1];exact e
   let⟨I',s',R',fl⟩:=(R1.same sH).full;refine hx Cx (some d) [(f,y)] [(f,d0)] I' α1 _ M1 R' (fl d _ ?_ (R1.out hd1)) (.cons (r1.mono s' (Ji _)) .nil) h1;rw[Zk hne,Zi]
inductive uRaise2_1(Cx:Addr)(f:Str)(g:Str)(kx:X3)(ds:List D)(M1:Mem):Prop
 |mk:∀d e,ds=[d,e]->kx Cx [(f,d),(g,e)] M1->uRaise2_1 Cx f g kx ds M1
instance Zlr(Cx:Addr)(f g:Str)(kx:X3)(u:TA3):TS3:=λ_y0 ρ M=>u ρ M (uRaise2_1 Cx f g kx)
def Zi9{Cx:Addr}{f g:Str}{E:XK}(he:Z.xe=E)(hk:Z.kx=kx)(hx:FinX C Z)(ha:SimA C Z t u):SimS C Z (Zfc Cx (spX2 Cx f g) E t) (Zlr Cx f g kx u):=λI α σ H ρ M E3 D' R RE h F =>
 ha I α σ H ρ M _ _ R RE h λvs ds I1 α1 H1 M1 s1 p1 R1 r1 h1=>by
  subst he hk;let⟨d0,d1,rfl,h1⟩:=h1;refine Reps.e2 r1 λ_ _ r1 r2=>?_
  rename_i y z
  exists by simp,λea hea=>⟨ea,y,z,rfl,Zi,λd hd hne=>⟨rfl,d,?_,?_⟩⟩
  .rw[Zk (Cv hne),Zk (Cv hne),Zi]
  .let hd1:H1 d=none:=by rw[Zk hne]at hd;exact hd
   let sH:Same H1 (upd (upd (upd (upd (upd H1 ea (.ext (excN ea Cx none))) ea (.ext (excN ea Cx (some d)))) d (.ext (xdP d [(f,y)]))) d (.ext (xdP d [(f,y),(g,z)]))) ea (.ext (excP ea Cx (some d)))):=λb o e=>by
    let n1:b≠ea:=Zp e hea;let n2:b≠d:=Zp e hd1;rw[Zk n1,Zk n2,Zk n2,Zk n1,Zk n1];exact e
   let⟨I',s',R',fl⟩:=(R1.same sH).full;refine hx Cx (some d) [(f,y),(g,z)] [(f,d0),(g,d1)] I' α1 _ M1 R' (fl d _ ?_ (R1.out hd1)) (.cons (r1.mono s' (Ji _)) (.cons (r2.mono s' (Ji _)) .nil)) h1;rw[Zk hne,Zi]
abbrev TH3:=Addr->List (Str×D)->TS3
instance SimH(C:Cf)(Z:Anc)(th:TH)(uh:TH3):Prop:=∀I α σ H ρ M(E:Ends3)(D':Ends)Ce d ea fs vs,Rel C Z I α H M->RepE C I α σ ρ->I ea=some (.ext (excP ea Ce d))->XD I d vs->RepF C I α vs fs->uh Ce fs E ρ M->FinD C Z I α E D'->th Ce d ea D' σ H
instance Zs4:TH3:=λ_ _ _ _ _=>False
def Zc3:SimH C Z Zp9 Zs4:=λ_ _ _ _ _ _ _ _ _ _ _ _ _ _ _ _ _ _ h _=>h.elim
instance off3(i:Nat)(E:Ends3):Ends3:={nx:=λρ M=>E.nx (ρ.set i none) M,rt:=E.rt,bk:=λρ M=>E.bk (ρ.set i none) M,ct:=λρ M=>E.ct (ρ.set i none) M}
def RepE.unset(h:RepE C I α σ ρ)(i:Nat):RepE C I α (σ.set i none) (ρ.set i none):=by
 exists by rw[Gi,Gi];exact h.1,λj e q=>?_
 by_cases z:i=j
 .subst z
  by_cases hl:i < ρ.length
  .rw[Jx hl]at q;cases q
  .rw[Bh (by rw[Gi];lia)]at q;cases q
 .rw[Gp z]at q⊢;exact h.2 j e q
def FinS.off{K:Ev->Mem->Prop}{Q:St->Hp->Prop}(k:FinS C Z I α K Q)(i:Nat):FinS C Z I α (λρ M=>K (ρ.set i none) M) (λσ H=>Q (σ.set i none) H):=λI' α' σ' H' ρ' M' s p R E h=>k I' α' _ H' _ M' s p R (E.unset i) h
def FinD.off{E:Ends3}{D':Ends}(k:FinD C Z I α E D')(i:Nat):FinD C Z I α (off3 i E) (offD i D'):=⟨k.nx.off i,k.rt,k.bk.off i,k.ct.off i⟩
variable{ts:TS}{us:TS3}{ur:TH3}
instance uhAs(K:Cs)(Dc:Addr)(i:Nat)(us:TS3)(ur:TH3):TH3:=λCe fs E ρ M=>∃b,Eo K Ce (.ref Dc)=some b/\if b=true then us (off3 i E) (ρ.set i (some (.exc Ce fs))) M else ur Ce fs E ρ M
def Zmu(hs:SimS C Z ts us)(hr:SimH C Z thr ur):SimH C Z (thAs K Dc i ts thr) (uhAs K Dc i us ur):=λI α σ H ρ M E D' Ce d ea fs vs R RE e1 e2 rf h F=>by
 let⟨b,eb,h⟩:=h;exists b,eb,?_;cases b with
 |true =>
  exact hs I α _ H _ M _ _ R (RE.set (.exc e1 e2 rf) i) h (F.off i)
 |false =>
  exact hr I α σ H ρ M E D' Ce d ea fs vs R RE e1 e2 rf h F
instance uhNo(K:Cs)(Dc:Addr)(us:TS3)(ur:TH3):TH3:=λCe fs E ρ M=>∃b,Eo K Ce (.ref Dc)=some b/\if b=true then us E ρ M else ur Ce fs E ρ M
def Zq0(hs:SimS C Z ts us)(hr:SimH C Z thr ur):SimH C Z (thNo K Dc ts thr) (uhNo K Dc us ur):=λI α σ H ρ M E D' Ce d ea fs vs R RE e1 e2 rf h F=>by
 let⟨b,eb,h⟩:=h;exists b,eb,?_;cases b with
 |true =>
  exact hs I α _ H _ M _ _ R RE h F
 |false =>
  exact hr I α σ H ρ M E D' Ce d ea fs vs R RE e1 e2 rf h F
instance uTry(ub:X3->TS3)(uh:TH3):TS3:=λE ρ M=>ub (λCe fs M'=>uh Ce fs E ρ M') E ρ M
def Rel.extOut(R:Rel C Z I α H M){Ce:Addr}{d:Option Addr}(h:H l=some (.ext (excP l Ce d))):l∉α:=λhl=>by
 let⟨k,hk,rfl⟩:=Gf hl;let hk':k<M.length:=by rw[<-R.len];exact hk
 let:=(R.cel k _ _ (Jb hk) (Jb hk')).1;cases hm:M[k]with
 |lst ds=>rw[hm]at this;let⟨vs,e,_⟩:=this;rw[h]at e;cases e
 |dct ds=>rw[hm]at this;let⟨vs,e,_⟩:=this;rw[h]at e;cases e
 |dcT ds=>rw[hm]at this;let⟨vs,e,_⟩:=this;rw[h]at e;cases e
 |drK ds=>rw[hm]at this;let⟨vs,e,_⟩:=this;rcases e with e|⟨o,e⟩<;>(rw[h]at e;cases e)
 |drT ds=>rw[hm]at this;let⟨vs,e,_⟩:=this;rcases e with e|⟨o,e⟩<;>(rw[h]at e;cases e)
 |dfT o vs ds=>rw[hm]at this;let e:=this.1;rw[h]at e;cases e
 |dfK o vs ds=>rw[hm]at this;let e:=this.1;rw[h]at e;cases e
 |ins Cl fs=>rw[hm]at this;let⟨dx,vs,e,_⟩:=this;rw[h]at e;cases e
 |hand=>rw[hm]at this;let⟨d,k,c,cs,e,_⟩:=this;rw[h]at e;cases e
 |tab P pos q=>rw[hm]at this;let⟨_,ps,e,_⟩:=this;rw[h]at e;cases e
 |dcN sh z ds =>
  rw[hm]at this;cases z with
  |none =>
   let⟨vs,e,_⟩:=this;rw[h]at e;exact dnP.ne ⟨.ref Ce,d,.fields (Array.replicate 6 .none),#[]⟩ rfl (λh g=>⟨_,_,g,rfl,rfl,rfl,by simp⟩) (HO.ext.inj (Fu e)).symm
  |some z=>have e:=this.1;rw[h]at e;cases e
def Zi5{tb:XK->TS}{th:TH}{ub:X3->TS3}{uh:TH3}(hb:∀(E:XK)(kx:X3)(Z:Anc),Z.xe=E->Z.kx=kx->FinX C Z->SimS C Z (tb E) (ub kx))(hh:SimH C Z th uh):SimS C Z (tTry tb th) (uTry ub uh):=λI α σ H ρ M E D' R RE h F=>by
 refine hb _ _ ⟨I,α,_,_⟩ rfl rfl ?_ I α σ H ρ M E D' (R.here _ _) RE h (F.re R);intro Ce d vs fs I' α' H' M' R' e f g;exists Ce,rfl,λea hea=>?_;let R2:=R'.re R R'.ai R'.aa;let⟨I2,s2,R3,fl⟩:=R2.full;exact hh I2 α' σ H' ρ M' E D' Ce d ea fs vs R3 (RE.mono (Same.trans R'.ai s2) R'.aa) (fl _ _ hea (R2.extOut hea)) (e.mono s2) (f.mono s2 (Ji _)) g (F.mono (Same.trans R'.ai s2) R'.aa)
inductive isiX3(K:Cs)(ds:List D)(M:Mem)(Kk:K3):Prop
 |mk:∀(Ce:Addr)(fs:List (Str×D))(c:D)(b:Bool)(fI:Addr),ds=[.exc Ce fs,c]->XCl K Ce fI->((∃T,c=.ty T/\Eg K (.ref Ce) (.type T)=some b)\/(∃D,c=.at D/\Eg K (.ref Ce) (.ref D)=some b)\/∃cs:List Addr,c=.tup (cs.map .at)/\W.kitAny K (.ref Ce) (cs.map Cd)=some b)->Kk (.bl b) M->isiX3 K ds M Kk
def Reps.of_ats :∀{vs:List V}(cs:List Addr),Reps C I α vs (cs.map D.at)->vs=cs.map V.ref
 |_,[],h=>by cases h;rfl
 |_,n::r,h=>by
  cases h with
  |cons a b =>
   cases a;rw[Reps.of_ats r b];rfl
def Zc2 :SimC C Z (Zrb K) (isiX3 K):=λI α H M xs ds Kk Q R r h k=>by
 let⟨Ce,fs,c,b,fI,rfl,xc,hc,h⟩:=h;refine Reps.e2 r λ_ _ r1 r2=>?_;cases r1 with
 | @exc ea _ d vs _ e1 e2 rf =>
  let fin:=k.now R (.bl b) h;rcases hc with⟨T,rfl,hc⟩|⟨D,rfl,hc⟩|⟨cs,rfl,hc⟩
  .cases r2.inv;exists _,Ce,fI,vs,_,b,rfl,xc,⟨ea,d,rfl,R.sub _ _ e1,e2.mono R.sub⟩,.inl ⟨T,rfl,hc⟩,fin
  .cases r2.inv;exists _,Ce,fI,vs,_,b,rfl,xc,⟨ea,d,rfl,R.sub _ _ e1,e2.mono R.sub⟩,.inr (.inl ⟨D,rfl,hc⟩),fin
  .cases r2 with
   | @tup tp us _ et rt =>
    rw[Reps.of_ats cs rt]at et;exists _,Ce,fI,vs,_,b,rfl,xc,⟨ea,d,rfl,R.sub _ _ e1,e2.mono R.sub⟩,.inr (.inr ⟨tp,cs,rfl,R.sub _ _ et,hc⟩),fin
def RepF.lookup{f:Str}:∀{vs:List (Str×V)}{ds:List (Str×D)}{d:D},RepF C I α vs ds->ds.lookup f=some d->∃v,vs.lookup f=some v/\Rep C I α v d
 |_,_,_,.nil,h=>by cases h
 |_,_,d,.cons (k:=k) (v:=v) (d:=d') a b,h=>by
  rw[Gu]at h⊢;cases e:(f==k)with
  |true=>rw[e]at h;cases h;exists v,rfl,a
  |false=>rw[e]at h;exact RepF.lookup b h
inductive uXFld_1(K:Cs)(f:Str)(Kk:K3)(d:D)(M1:Mem):Prop
 |mk:∀Ce fs fI v,d=.exc Ce fs->XCl K Ce fI->Cu K (.ref Ce) f=some none->fs.lookup f=some v->Kk v M1->uXFld_1 K f Kk d M1
instance Zs5(K:Cs)(f:Str)(ua:TE3):TE3:=λρ M Kk=>ua ρ M (uXFld_1 K f Kk)
def Zc0{f:Str}(ha:SimE C Z ta ua):SimE C Z (Zmc K ta f) (Zs5 K f ua):=λI α σ H ρ M Kk Q R RE h k =>
 ha I α σ H ρ M _ _ R RE h λv d I1 α1 H1 M1 s1 p1 R1 r1 h1=>by
  let⟨Ce,fs,fI,w,rfl,xc,na,el,h1⟩:=h1;cases r1 with
  | @exc ea _ d vs _ e1 e2 rf =>
   let⟨v,ev,rv⟩:=rf.lookup el;cases d with
   |none =>
    let e2:vs=[]:=e2;subst e2;cases ev
   |some d=>exact⟨ea,Ce,fI,d,vs,v,rfl,xc,na,R1.sub _ _ e1,R1.sub _ _ e2,ev,k _ _ I1 α1 H1 M1 s1 p1 R1 rv h1⟩
def Fun.okX3{base:Heap}{x:Str}{f:Addr}{k:Nat}{sp:Sp3X}(F:Fun K x qual st f fd)(S:FnScope N ps (Zl st))(len:∀ds M K KX,sp ds M K KX->ds.length=ps.length)(hbody:∀(cdv:Ca)(A:Ht)(outer:List Env)(s:Cc)(H:Hp)(E:XK),Room k (A.deeper (E4 qual (Zl st) s.heap.objs.size f cdv)) ->
   ∃(t:TS)(u:X3->TS3),PSs (cxE bctx P w K mg base N qual (Zl st) f cdv A outer s H E) (Ys st) t/\(∀(kx:X3)(Z:Anc),Z.xe=E->Z.kx=kx->FinX C Z->SimS C Z t (u kx))/\∀ds M K KX,WfM M->(∀d∈ds,Ym M.length d)->sp ds M K KX->u KX {nx:=λ_ M'=>Dk M.length K .non M',rt:=Dk M.length K} (Qs N ds) M):FnOk P w K mg base (CXE bctx P w) (k+1) f fd ps (Tp C sp):=by
 refine F.okE S (λvs H Q E h=>?_) (λcdv A outer s H vs Q E hr h=>?_)
 .let⟨Z,I,α,M,ds,K,KX,R,r,h,_⟩:=h;rw[r.length];exact len ds M K KX h
 .let⟨t,u,h1,h2,h3⟩:=hbody cdv A outer s H E hr;let⟨Z,I,α,M,ds,K,KX,R,r,h,k,kx⟩:=h;let R1:=R.here E KX;let kd:=(k.re (Z':=⟨I,α,E,KX⟩) R).dk R1.len R1.aa;exists t,h1,h2 KX ⟨I,α,E,KX⟩ rfl rfl (λCe d vs fs I' α' H' M' R' e f g=>kx Ce d vs fs I' α' H' M' R'.ai R'.aa (R'.re R R'.ai R'.aa) e f g) I α _ H _ M _ _ R1 (Sz r N) (h3 ds M K KX R.wf (by rw[<-R.len];exact r.bel) h) ⟨λI1 α1 σ1 H1 ρ1 M1 s1 p1 R1 _ h1=>kd _ _ I1 α1 H1 M1 s1 p1 R1 .non h1,kd,λ_ _ _ _ _ _ _ _ _ _ h=>h.elim,λ_ _ _ _ _ _ _ _ _ _ h=>h.elim⟩
end
instance kD:Key->D
 |.inl i=>.int i
 |.inr s=>.str s
instance Uz[DecidableEq κ](kvs zs:List (κ×D)):List (κ×D):=zs.foldl (λa z=>putD a z.1 z.2) kvs
def Zct[DecidableEq κ]{k k':κ}{v:D}:∀{kvs:List (κ×D)},valD (putD kvs k v) k'=if k'=k then some v else valD kvs k':=by
 let mapped:∀kvs:List (κ×D),(kvs.any λkv=>decide (kv.1=k))=true->valD (kvs.map λkv=>if kv.1=k then(kv.1,v)else kv) k'=if k'=k then some v else valD kvs k':=by
  intro kvs
  induction kvs with
  |nil=>intro h;cases h
  |cons p r ih =>
   intro h;let⟨a,b⟩:=p;rw[Jk]
   by_cases e:a=k
   .subst e;simp only[if_true];rw[Xk,Xk]
    by_cases z:a=k'
    .rw[Fp z,Fp z.symm]
    .rw[Fo z,Fo (Cv z),Fo z]
     by_cases hr:(r.any λkv=>decide (kv.1=a))=true
     .rw[ih hr,Fo (Cv z)]
     .let:r.map (λkv=>if kv.1=a then(kv.1,v)else kv)=r:=by
       refine(B7 λkv hk=>?_).trans (List.map_id r);let:¬ kv.1=a:=λz=>hr (B3.mpr ⟨kv,hk,by simpa using z⟩);rw[Fo this];rfl
      rw[this]
   .simp only[e,if_false];rw[Xk,Xk];let hr:(r.any λkv=>decide (kv.1=k))=true:=by simpa[e]using h
    rw[ih hr]
    by_cases z:a=k'
    .rw[Fp z,Fo (λq=>e (z.trans q)),Fp z]
    .rw[Fo z,Fo z]
 let none_:∀kvs:List (κ×D),¬ (kvs.any λkv=>decide (kv.1=k))=true->valD (kvs++[(k,v)]) k'=if k'=k then some v else valD kvs k':=by
  intro kvs
  induction kvs with
  |nil =>
   intro _;rw[Bw,Xk]
   by_cases z:k=k'
   .rw[Fp z,Fp z.symm]
   .rw[Fo z,Fo (Cv z)]
  |cons p r ih =>
   intro h;let⟨a,b⟩:=p;rw[Br,Bool.or_eq_true]at h;let h1:¬ a=k:=λz=>h (.inl (by simpa using z));rw[Je0,Xk,Xk,ih λz=>h (.inr z)]
   by_cases z:a=k'
   .rw[Fp z,Fo (λq=>h1 (z.trans q)),Fp z]
   .rw[Fo z,Fo z]
 intro kvs;unfold putD
 split
 .exact mapped kvs (by assumption)
 .exact none_ kvs (by assumption)
def Zjo[DecidableEq κ]{k:κ}{v:D}{kvs:List (κ×D)}:(putD kvs k v).length<=kvs.length+1:=by
 unfold putD
 split
 .rw[Ja];lia
 .rw[Jc];exact Jd _
def T3[DecidableEq κ]{k:κ}:∀(zs kvs:List (κ×D)),(∀z∈zs,z.1≠k)->valD (Uz kvs zs) k=valD kvs k
 |[],kvs,_=>rfl
 |z::r,kvs,h=>by
  show valD (Uz (putD kvs z.1 z.2) r) k=_;rw[T3 r _ λy hy=>h y (Jm _ hy),Zct,Fo (λe=>h z Jo e.symm)]
def Q8[DecidableEq κ]{k:κ}{v:D}:∀(zs kvs:List (κ×D)),(zs.map (·.1)).Nodup->(k,v)∈zs->valD (Uz kvs zs) k=some v
 |[],kvs,_,h=>nomatch h
 |z::r,kvs,nd,h=>by
  show valD (Uz (putD kvs z.1 z.2) r) k=_;rw[Jk,Bf]at nd;rcases Jp.mp h with e|h
  .subst e;rw[T3 r _ λy hy e=>nd.1 (by
    let hm:y.1∈r.map (·.1):=Jn.mpr ⟨y,hy,rfl⟩;rw[e]at hm;exact hm),Zct,Fp rfl]
  .exact Q8 r _ nd.2 h
instance Zo8(kd:List (Key×D))(S:List Pr):Prop:=(∀p∈S,valD kd (.inl p.1)=some (wD p.2))/\∀s:Int,(∀p∈S,p.1≠s)->valD kd (.inl s)=none
instance prK(p:Pr):Key×D:=(.inl p.1,wD p.2)
def Zd3{L:List Pr}(fr:Free L):Zo8 (Uz [] (L.map prK)) L:=by
 let nd:((L.map prK).map (·.1)).Nodup:=by
  rw[Gh];exact Gv.mpr (fr.imp λ{a b}z e=>z.1 (My e))
 exists λp hp=>Q8 _ _ nd (Jn.mpr ⟨p,hp,rfl⟩),λs hs=>?_;rw[T3 _ _ λz hz e=>?_]
 .rfl
 .let⟨p,hp,rfl⟩:=Jn.mp hz;exact hs p hp (My e)
section
variable{C:Cf} 
def Nc :∀{ws:List (Key×V)}{zs:List (Key×D)}{vs:List (Key×V)}{ds:List (Key×D)},RepK C I α ws zs->RepK C I α vs ds->RepK C I α (Tz vs ws) (Uz ds zs)
 |_,_,_,_,.nil,h=>h
 |_,_,vs,ds,.cons (k:=k) (v:=v) (d:=d) (vs:=ws) (ds:=zs) a b,h=>by
  show RepK C I α (Tz (putK vs k v) ws) (Uz (putD ds k d) zs);exact Nc b (h.put a)
def Zlb{k:Key}(r:Rep C I α v (kD k)):v=kV k:=by
 cases k with
 |inl i=>cases r.inv;rfl
 |inr s=>cases r.inv;rfl
def Tu(R:Rel C Z I α H M):∀{vs:List V}(zs:List (Key×D)),Reps C I α vs (zs.map λz=>.tup [kD z.1,z.2])->∃ws:List (Key×V),Nn C.k H vs (ws.map λz=>(kV z.1,z.2))/\RepK C I α ws zs
 |_,[],r=>by cases r;exists [],.nil,.nil
 |_,z::zs,r=>by
  cases r with
  |cons a b =>
   let⟨ws,p,q⟩:=Tu R zs b;cases a with
   |tup e r2 =>
    cases r2 with
    |cons r2 r3 =>
     cases r3 with
     |cons r3 r4 =>
      cases r4
      skip;rename_i v1 v2
      exists(z.1,v2)::ws,.cons ⟨_,rfl,SqT.of ?_⟩ p,?_
      .show H _=some (.tup [kV z.1,v2]);rw[<-Zlb r2];exact R.sub _ _ e
      .exact .cons r3 q
inductive dictP3(ds:List D)(M:Mem)(K:K3):Prop
 |mk:∀(d:D)(zs:List (Key×D)),ds=[d]->lsOf M d=some (zs.map λz=>.tup [kD z.1,z.2])->zs.length<1000->K (.dct (Uz [] zs)) M->dictP3 ds M K
def Zjg:SimC C Z (S0 C.k) dictP3:=λI α H M xs ds K Q R r h k=>by
 let⟨d,zs,rfl,e,hl,h⟩:=h;refine Reps.e1 r λ_ r1=>?_;let⟨a,vs,rfl,ea,ra⟩:=Pu R r1 e;let⟨ws,pw,rw'⟩:=Tu R zs ra;exists a,vs,_,.dK [],rfl,.inl ea,pw,.inl rfl,λD hD=>⟨_,Zcc _ [] ?_,?_⟩
 .rw[Bt,rw'.len];exact Gw (by lia:0+zs.length<=1000) nofun
 .let⟨R2,s2,e2⟩:=R.new (o:=.dK (Tz [] ws)) hD;exact k.on s2 R2 (.dct e2 ((Nc rw' .nil).mono s2 (Ji _))) h
def Zrp{os:List (Option Int)}{K:K3}(R:Rel C Z I α H M)(nl:H l=none)(s:Same H H')(el:H' l=some (.lst (os.map oV)))(kk:Fin C Z I α K Q)(h:K (.cell M.length) (M++[.lst (os.map oD)])):Q (.ref l) H':=by
 let⟨R2,p2,e2⟩:=(R.same s).cellAt (l:=l) (m:=.lst (os.map oD)) (R.sub.free nl) (R.out nl) ⟨_,el,Zf9 os⟩;exact kk _ _ I _ H' _ (.refl _) p2 R2 (.cell e2) h
instance osOf(R:List En):List (Option Int):=R.map λe=>e.2
def Zof{Ce d:Addr}{f:Str}{i:Int}{KX:X3}{E:XK}(R:Rel C Z I α H M)(nd:H d=none)(s:Same H H')(ed:H' d=some (.ext (xdP d [(f,.int i)])))(kx:∀Ce d vs fs I' α' H' M',Same I I'->α<+:α'->Rel C Z I' α' H' M'->XD I' d vs->RepF C I' α' vs fs->KX Ce fs M'->E (.ref Ce) d H')(h:KX Ce [(f,.int i)] M):E (.ref Ce) (some d) H':=by
 let⟨I',s',R',fl⟩:=(R.same s).full;exact kx Ce (some d) _ _ I' α H' M s' (Ji _) R' (fl _ _ ed (R.out nd)) (.cons (.int _) .nil) h
inductive dReadX(Cr:Addr)(ds:List D)(M:Mem)(K:K3)(KX:X3):Prop
 |mk:∀(S:List Pr)(d:D)(ns:List Int),ds=[.code S,d]->(lsOf M d=some (ns.map .int)/\(Fits S/\ns.length<=1000)/\(∀(R:List En)(pl:Nat),Va S ns R pl->ns.length<=pl->K (.cell M.length) (M++[.lst ((osOf R).map oD)]))/\∀(R:List En)(pl:Nat),Va S ns R pl->pl<ns.length->KX Cr [("at",.int pl)] M)->dReadX Cr ds M K KX
def Zo1{Cr:Addr}{E:XK}(h:Tp C (dReadX Cr) vs H Q E):Zfo C.c Cr vs H Q E:=by
 let⟨Z,I,α,M,ds,K,KX,R,r,⟨S,d,ts,rfl,e1,⟨h1,h3⟩,ha,hb⟩,kk,kx⟩:=h;refine Reps.e2 r λ_ _ r1 r2=>?_;let⟨x,rfl,ca⟩:=Zoq R r1;let⟨xa,rfl,ex⟩:=Zk9 R r2 e1;exists x,xa,S,ts,rfl,ca,h1,ex,h3,λRr pl l H' en hl nl s el=>Zrp R nl s (by rw[el];unfold osOf outs;rw[Gh];rfl) kk (ha Rr pl en hl),λRr pl d H' en hl nd s ed=>Zof R nd s ed kx (hb Rr pl en hl)
end
def Zcf(h:X.K=K)(hr:Room 3 X.A)(hc:X.calm=true):Wv X (.type "dict") (S0 K):=by subst h;exact Zaz hr hc
section
variable{C:Cf}
inductive dRow4(ds:List D)(M:Mem)(K:K3):Prop
 |mk:∀(k:Nat)(bs:List Int)(ws:List (List Int))(m:Int),ds=[.cell k,.lst (bs.map .int),.lst (ws.map wD),.int m]->(M[k]?=some .hand/\(bs≠[]/\(∀w∈ws,w≠[]/\w.length<=4)/\ws.length<=1000/\0<=m/\m<=20)/\∀ns:List Int,(ns.length:Int)<=4*m->K (.lst (ns.map .int)) M)->dRow4 ds M K
def Zsv{E:XK}(h:spOf C dRow4 vs H Q E):Zkv vs H Q E:=by
 let⟨Z,I,α,M,ds,K,R,r,⟨k,bs,ws,m,rfl,hm,⟨h1,h2,h3,h4,h5⟩,h⟩,kk⟩:=h;cases r with
 |cons r1 r2 =>
  refine Reps.e3 r2 λ_ _ _ r2 r3 r4=>?_;cases r4.inv;let⟨p,rfl,ha⟩:=r1.inv;let⟨c,cs,hh,ic,hc⟩:=R.hand ha hm;let⟨sa,rfl,es,is⟩:=Zb1 R r2;let⟨wa,_,rfl,iw,hw⟩:=Zii R r3;exists p,c,sa,wa,bs,ws,m,rfl,hh,es,Ps R ha hm is,h1,hw,Ps R ha hm iw,h2,h3,h4,h5,λl ns H' nl _ el hl hh' g=>Te R ha hm hh' ic hc g nl el kk (h ns hl)
end
def Ss{u u':TS3}{En:Ends3}(S:Ev->Mem->Prop)(h1:∀Kn:Ev->Mem->Prop,(∀ρ' M',S ρ' M'->Kn ρ' M')->u {En with nx:=Kn} ρ M)(h2:∀ρ' M',S ρ' M'->u' En ρ' M'):uSeq u u' En ρ M:=h1 _ h2
def Zoo(xs:List τ)(lo hi:Option Int):(cut xs lo hi).length<=xs.length:=by
 unfold cut;rw[J0,Gb];lia
def S8{d:D}{xs:List D}(h:lsOf M d=some xs):lsOf (M++[m]) d=some xs:=by
 cases d with
 |lst ys=>exact h
 |cell k =>
  simp only[lsOf]at h⊢
  by_cases hk:k<M.length
  .rw[Js hk];exact h
  .rw[Bh (Je2 hk)]at h;exact nomatch h
 |_=>exact nomatch h
def Znk{xs:List Int}(h:osOf R=xs.map some):(osOf R).map oD=xs.map D.int:=by
 rw[h,Gh];rfl
def Zkd{ns:List τ}{m:Nat}(h:pl<=ns.length):cut ns (some (pl:Int)) (some ((pl:Int)+(m:Int)))=(ns.drop pl).take m:=by
 unfold cut;rw[<-B9,HT.sIx_nat,HT.sIx_nat,Bn h];refine List.take_eq_take_iff.mpr ?_;rw[Gb];lia
instance Qk(f:Str)(v:D):List (Str×D)->List (Str×D)
 |[]=>[(f,v)]
 |(g,x)::r=>if g=f then(g,v)::r else(g,x)::Qk f v r
section
variable{C:Cf} 
abbrev FldR(C:Cf)(I:Hp)(α:List Addr):Str×V->Str×D->Prop:=λp q=>p.1=q.1/\Rep C I α p.2 q.2
def Zao{f:Str}{d:D}:∀{vs:List (Str×V)}{fs:List (Str×D)},Paired (FldR C I α) vs fs->fs.lookup f=some d->∃v,vs.lookup f=some v/\Rep C I α v d
 |_,_,.nil,h=>nomatch h
 |_,_,.cons (a:=(g,v)) (b:=(g',d')) a r,h=>by
  let⟨e,rv⟩:=a;let e:g=g':=e;subst e;rw[Gu]at h⊢;cases z:f==g with
  |true=>rw[z]at h;cases h;exists v,rfl,rv
  |false=>rw[z]at h;exact Zao r h
def Rq{f:Str}:∀{vs:List (Str×V)}{fs:List (Str×D)},Paired (FldR C I α) vs fs->fs.lookup f=none->vs.lookup f=none
 |_,_,.nil,h=>rfl
 |_,_,.cons (a:=(g,v)) (b:=(g',d')) a r,h=>by
  let⟨e,rv⟩:=a;let e:g=g':=e;subst e;rw[Gu]at h⊢;cases z:f==g with
  |true=>rw[z]at h;cases h
  |false=>rw[z]at h;exact Rq r h
def Zdq{f:Str}{d:D}(rv:Rep C I α v d):∀{vs:List (Str×V)}{fs:List (Str×D)},Paired (FldR C I α) vs fs->Paired (FldR C I α) (putF f v vs) (Qk f d fs)
 |_,_,.nil=>.cons ⟨rfl,rv⟩ .nil
 |_,_,.cons (a:=(g,v')) (b:=(g',d')) a r=>by
  let⟨e,rv'⟩:=a;let e:g=g':=e;subst e;unfold putF Qk
  by_cases z:g=f
  .rw[Fp z,Fp z];exact .cons ⟨rfl,rv⟩ r
  .rw[Fo z,Fo z];exact .cons ⟨rfl,rv'⟩ (Zdq rv r)
end
section
variable{C:Cf}{t:TA}{u:TA3} 
inductive uFldI_1(K:Cs)(f:Str)(Kk:K3)(d:D)(M1:Mem):Prop
 |mk:∀(k:Nat)(Cl:Addr)(fs:List (Str×D))(v:D),d=.cell k->M1[k]?=some (.ins Cl fs)->Cls K Cl->Yu K Cl f->fs.lookup f=some v->Kk v M1->uFldI_1 K f Kk d M1
instance Zti(K:Cs)(f:Str)(ua:TE3):TE3:=λρ M Kk=>ua ρ M (uFldI_1 K f Kk)
def W3{f:Str}(ha:SimE C Z ta ua):SimE C Z (tFld K ta f) (Zti K f ua):=λI α σ H ρ M Kk Q R E h k =>
 ha I α σ H ρ M _ _ R E h λv d I1 α1 H1 M1 s1 p1 R1 r1 h1=>by
  let⟨j,Cl,fs,w,rfl,e1,cl,na,el,h1⟩:=h1;let⟨a,rfl,ec⟩:=r1.inv;let⟨dx,vs,ea,ra⟩:=(R1.cel j a _ ec e1).1;let⟨v,ev,rv⟩:=Zao ra el;exists a,Cl,dx,vs,v,rfl,ea,cl,na,ev,k _ _ I1 α1 H1 M1 s1 p1 R1 rv h1
inductive uSetI_2(K:Cs)(f:Str)(E:Ends3)(ρ:Ev)(dv:D)(d:D)(M2:Mem):Prop
 |mk:∀(k:Nat)(Cl:Addr)(fs:List (Str×D)),d=.cell k->M2[k]?=some (.ins Cl fs)->Cls K Cl->Yu K Cl f->fs.length<1000->E.nx ρ (M2.set k (.ins Cl (Qk f dv fs)))->uSetI_2 K f E ρ dv d M2
abbrev Zlq(K:Cs)(f:Str)(ua:TE3)(E:Ends3)(ρ:Ev):D->Mem->Prop:=λdv M1=>ua ρ M1 (uSetI_2 K f E ρ dv)
instance Zs7(K:Cs)(f:Str)(ua ub:TE3):TS3:=λE ρ M=>ub ρ M (Zlq K f ua E ρ)
def Sx{f:Str}(ha:SimE C Z ta ua)(hb:SimE C Z tb ub):SimS C Z (sFld K ta tb f) (Zs7 K f ua ub):=λI α σ H ρ M E3 D' R RE h F =>
 hb I α σ H ρ M _ _ R RE h λy dv I1 α1 H1 M1 s1 p1 R1 r1 h1=>ha I1 α1 σ H1 ρ M1 _ _ R1 (RE.mono s1 p1) h1 λv d I2 α2 H2 M2 s2 p2 R2 r2 h2=>by
  let⟨j,Cl,fs,rfl,e1,cl,na,hl,h2⟩:=h2;let⟨a,rfl,ec⟩:=r2.inv;let⟨dx,vs,ea,ra⟩:=(R2.cel j a _ ec e1).1;exists a,Cl,dx,vs,rfl,ea,cl,na,by rw[Paired.length ra];exact hl,?_;exact F.nx I2 α2 σ _ ρ _ (s1.trans s2) (p1.trans p2) (R2.put (m:=.ins Cl (Qk f dv fs)) ec λH' e=>⟨dx,_,e,Zdq (r1.mono s2 p2) ra⟩) (RE.mono (s1.trans s2) (p1.trans p2)) h2
abbrev Zpp(Kk:K3)(M1:Mem):D->Mem->Prop:=λd M2=>d=.non/\Kk (.cell M1.length) M2
abbrev Zpq(Cl:Addr)(sp:Sp3)(Kk:K3):List D->Mem->Prop:=λds M1=>sp (.cell M1.length::ds) (M1++[.ins Cl []]) (Zpp Kk M1)
instance uMkI(Cl:Addr)(sp:Sp3)(u:TA3):TE3:=λρ M Kk=>u ρ M (Zpq Cl sp Kk)
def Ztz{sp:Sp3}(ha:SimA C Z t u):SimE C Z (Zd8 Cl (spOf C sp) [] E0 t) (uMkI Cl sp u):=λI α σ H ρ M Kk Q R E h k =>
 ha I α σ H ρ M _ _ R E h λvs ds I1 α1 H1 M1 s1 p1 R1 r1 h1=>by
  intro x dx nx ndx ne;let R2:=R1.same (Zr (o:=.own x) ndx);let⟨R3,p3,e3⟩:=R2.cell (p:=x) (o:=.ins Cl dx []) (m:=.ins Cl []) (by rw[Zk (Cv ne)];exact nx) λH' e=>⟨dx,[],e,.nil⟩;rw[Jz];exists Z,I1,α1++[x],_,_,_,R3,.cons (.cell e3) (r1.mono (.refl _) p3),h1,λv d I' α' H' M' s p R' r h'=>?_;let⟨rfl,h'⟩:=h';cases r.inv;exists rfl,k _ _ I' α' H' M' (s1.trans s) ((p1.trans p3).trans p) R' (.cell ?_) h';let⟨tl,rfl⟩:=p;rw[Js (by have:=(Jf.mp e3).1;exact this)];exact e3
abbrev Zir(sp:Sp3)(Kk:K3)(d:D):List D->Mem->Prop:=λds M2=>sp (d::ds) M2 Kk
abbrev Zis(Cl:Addr)(m:Str)(sp:Sp3)(u:TA3)(ρ:Ev)(Kk:K3):D->Mem->Prop:=λd M1=>(∃(k:Nat)(fs:List (Str×D)),d=.cell k/\M1[k]?=some (.ins Cl fs)/\fs.lookup m=none)/\u ρ M1 (Zir sp Kk d)
instance Zps(Cl:Addr)(m:Str)(sp:Sp3)(ua:TE3)(u:TA3):TE3:=λρ M Kk=>ua ρ M (Zis Cl m sp u ρ Kk)
def Ts{m:Str}{sp:Sp3}(ha:SimE C Z ta ua)(hr:SimA C Z t u):SimE C Z (Zfe Cl m (spOf C sp) [] E0 ta t) (Zps Cl m sp ua u):=λI α σ H ρ M Kk Q R E h k =>
 ha I α σ H ρ M _ _ R E h λv d I1 α1 H1 M1 s1 p1 R1 r1 h1=>by
  let⟨⟨j,fs,rfl,e1,el⟩,h1⟩:=h1;let⟨a,rfl,ec⟩:=r1.inv;let⟨dx,vs,ea,ra⟩:=(R1.cel j a _ ec e1).1;exists a,dx,vs,rfl,ea,Rq ra el,?_;refine hr I1 α1 σ H1 ρ M1 _ _ R1 (E.mono s1 p1) h1 λvs ds I2 α2 H2 M2 s2 p2 R2 r2 h2=>?_;rw[Jz];exists Z,I2,α2,M2,_,Kk,R2,.cons ((Rep.cell ec).mono s2 p2) r2,h2,k.mono (s1.trans s2) (p1.trans p2)
end
def Xo{d:D}{xs:List D}(h:lsOf M d=some xs):tyOf M d=some .list/\Vd M d=some xs/\Qj M d=some xs:=by
 cases d with
 |lst ys=>cases h;exists rfl,rfl,rfl
 |cell k =>
  simp only[lsOf]at h;cases hm:M[k]? with
  |none=>rw[hm]at h;cases h
  |some m =>
   rw[hm]at h;cases m with
   |lst es=>cases h;exact⟨by simp only[tyOf,hm],by simp only[Vd,hm],by simp only[Qj,Vd,hm]⟩
   |_=>cases h
 |_=>cases h
def Zjn[DecidableEq κ]{k:κ}{v:D}{kvs:List (κ×D)}(h:∀kv∈kvs,kv.1≠k):putD kvs k v=kvs++[(k,v)]:=by
 unfold putD;rw[Fo];intro z;let⟨kv,hk,e⟩:=B3.mp z;exact h kv hk (Fg e)
def Zhw{ns:List τ}(h:pl<=ns.length):cut ns (some (pl:Int)) none=ns.drop pl:=by
 unfold cut;rw[HT.sIx_nat,Bn h];show(ns.drop pl).take (ns.length-pl)=_;rw[G8];rw[Gb];exact Jd _
def Sv{d:D}{xs:List D}{K:K3}(h:lsOf M d=some xs)(hk:K (.lst (cut xs lo hi)) M):sl3 d lo hi M K:=by
 cases d with
 |lst ys=>cases h;exists ·,hk
 |cell k=>exact⟨_,(Xo h).2.1,hk⟩
 |_=>cases h
def Pc{d e:D}{xs ys:List D}{K:K3}(h1:lsOf M d=some xs)(h2:lsOf M e=some ys)(hl:xs.length+ys.length<=Cb)(hk:K (.lst (xs++ys)) M):add3 d e M K:=by
 cases d with
 |lst zs=>exact⟨_,_,h1,h2,hl,hk⟩
 |cell k=>exact⟨_,_,h1,h2,hl,hk⟩
 |_=>cases h1
def Znv{d:D}{xs:List D}{K:K3}(h:lsOf M d=some xs)(hk:K (.int xs.length) M):len3 [d] M K:=by
 cases d with
 |lst zs=>exact⟨_,(Xo h).2.2,hk⟩
 |cell k=>exact⟨_,(Xo h).2.2,hk⟩
 |_=>cases h
def Vi{d:D}{xs:List D}{K:K3}(h:lsOf M d=some xs)(hk:K (.int xs.length) M):Zbc uNil ρ (Zl8 len3 K) d M:=Znv h hk
def Uj{d v:D}{xs:List D}{i:Int}{K:K3}(h:lsOf M d=some xs)(hv:L2.atI xs i=some v)(hk:K v M):ix3 d (.int i) M K:=by
 cases d with
 |lst zs=>exact⟨_,_,_,(Xo h).2.2,rfl,hv,hk⟩
 |cell k=>exact⟨_,_,_,(Xo h).2.2,rfl,hv,hk⟩
 |_=>cases h
def Xc{xs:List D}{v:D}{i:Int}(e:i=j)(h:xs[j]?=some v):L2.atI xs i=some v:=by
 rw[e];exact Wh h
def Zg2:∀ns:List Int,Sc (ns.map D.int)=some (wk ns)
 |[]=>rfl
 |x::r=>by
  show(match Zei (D.int x),Sc (r.map D.int)with|some k,some ks=>some (k::ks)|_,_=>none)=_;rw[Zg2 r];rfl
def Y8{r:Nat}(h:M[r]?=some m):(M++[m'])[r]?=some m:=by
 rw[Js (Jf.mp h).1];exact h
def add_int{i j:Int}{K:K3}(h:K (.int (i+j)) M):add3 (.int i) (.int j) M K:=h
end L3
namespace L2
open PySem
instance Zcx:Sp:=λvs H Q _=>∃(p a sa:Addr)(m lg:Int)(bs:List Int),vs=[.ref p,.ref sa,.int m,.int lg]/\HandAt H p a/\H sa=some (.lst (bs.map V.int))/\sa≠p/\bs.Nodup/\bs≠[]/\bs.length<=24/\0<=m/\m<=6/\1<=lg/\lg<=4 /\
 ∀(l:Addr)(ws:List (List Int))(H':Hp),H l=none->l≠p->Qa H' l ws->WOk ws->(∀w∈ws,∀b∈w,b∈bs)->(ws.length:Int)<=bs.length+m*bs.length->HandAt H' p a->Grow p H H'->Q (.ref l) H'
end L2
namespace L3
open PySem L2
section
variable{C:Cf} 
inductive dWordsB(ds:List D)(M:Mem)(K:K3):Prop
 |mk:∀(k:Nat)(bs:List Int)(m lg:Int),ds=[.cell k,.lst (bs.map .int),.int m,.int lg]->(M[k]?=some .hand/\(bs.Nodup/\bs≠[]/\bs.length<=24/\0<=m/\m<=6/\1<=lg/\lg<=4)/\∀ws:List (List Int),WOk ws->(∀w∈ws,∀b∈w,b∈bs)->(ws.length:Int)<=bs.length+m*bs.length->K (.lst (ws.map wD)) M)->dWordsB ds M K
def Zkl{E:XK}(h:spOf C dWordsB vs H Q E):Zcx vs H Q E:=by
 let⟨Z,I,α,M,ds,K,R,r,⟨k,bs,m,lg,rfl,hm,⟨h1,h2,h3,h4,h5,h6,h7⟩,h⟩,kk⟩:=h;cases r with
 |cons r1 r2 =>
  refine Reps.e3 r2 λ_ _ _ r2 r3 r4=>?_;cases r3.inv;cases r4.inv;let⟨p,rfl,ha⟩:=r1.inv;let⟨c,cs,hh,ic,hc⟩:=R.hand ha hm;let⟨sa,rfl,es,is⟩:=Zb1 R r2;exists p,c,sa,m,lg,bs,rfl,hh,es,Ps R ha hm is,h1,h2,h3,h4,h5,h6,h7,λl ws H' nl _ wa wo wb wl hh' g=>Zem R ha hm hh' ic hc g nl wa kk (h ws wo wb wl)
end
def X2{ns:List τ} :cut ns none (some (pl:Int))=ns.take pl:=by
 unfold cut;rw[HT.sIx_nat];show(ns.drop 0).take (min pl ns.length-0)=_;rw[Jev,Fb,List.take_eq_take_iff];lia
def W7{ns:List τ} :cut ns (some (pl:Int)) none=ns.drop pl:=by
 by_cases h:pl<=ns.length
 .exact Zhw h
 .unfold cut;rw[HT.sIx_nat,Je6 (),List.drop_length,List.drop_of_length_le (),List.take_nil]
def Uv{N:Mem}{t:Nat}(h:M<+:N)(ht:M.length<=t):M<+:N.set t m:=by
 let⟨X,rfl⟩:=h;rw[Jc8 _ _ ht];exact Gx _ _
def Ux{N:Mem}{r t:Nat}(h:N[r]?=some m)(ne:r≠t):(N.set t m')[r]?=some m:=by
 rw[Gp (Cv ne)];exact h
def Vu{N:Mem}{r:Nat}(h:N[r]?=some m):r<N.length:=(Jf.mp h).1
def Yd{N:Mem}{xs:List D}{t:Nat}(h:N[t]?=some (.lst xs)):lsOf N (.cell t)=some xs:=by simp only[lsOf,h]
def Z9{N:Mem}{r:Nat}(p:M<+:N)(h:M[r]?=some m):N[r]?=some m:=by
 let⟨X,rfl⟩:=p;rw[Js (Jf.mp h).1];exact h
section
variable{C:Cf} 
def RepT.of_ints :∀{vs:List (List Key×V)}(ka:List (List Key×Int)),RepT C I α vs (ka.map λz=>(z.1,D.int z.2))->vs=ka.map λz=>(z.1,V.int z.2)
 |_,[],h=>by cases h;rfl
 |_,z::r,h=>by
  cases h with
  |cons a b =>
   cases a;rw[RepT.of_ints r b];rfl
def Zf8 :∀{vs:List V}(ks:List Key),Reps C I α vs (ks.map kD)->vs=ks.map kV
 |_,[],h=>by cases h;rfl
 |_,k::r,h=>by
  cases h with
  |cons a b=>rw[Zlb a,Zf8 r b];rfl
def S4(R:Rel C Z I α H M):∀{vs:List V}(zs:List (List Key×Int)),Reps C I α vs (zs.map λz=>.tup [.tup (z.1.map kD),.int z.2]) ->
  ∃ws:List (Addr×List Key×V),Nn C.k H vs (ws.map λz=>(.ref z.1,z.2.2))/\(∀z∈ws,H z.1=some (.tup (z.2.1.map kV)))/\(ws.map λz=>(z.2.1,z.2.2))=zs.map λz=>(z.1,V.int z.2)
 |_,[],r=>by cases r;exists [],.nil,(λ_ h=>nomatch h),rfl
 |_,z::zs,r=>by
  let⟨_,_,rfl,a,b⟩:=r.inv;let⟨ws,p,q,e⟩:=S4 R zs b;let⟨_,_,rfl,e1,r2⟩:=a.inv;let⟨_,_,rfl,f1,r3⟩:=r2.inv;let⟨_,_,rfl,f2,r4⟩:=r3.inv;cases r4.inv;cases f2.inv;let⟨t,_,rfl,et,rt⟩:=f1.inv;rw[Zf8 z.1 rt]at et;exists(t,z.1,V.int z.2)::ws,.cons ⟨_,rfl,SqT.of (R.sub _ _ e1)⟩ p,λy hy=>?_,?_
  .rcases Jp.mp hy with w|w
   .rw[w];exact R.sub _ _ et
   .exact q y w
  .rw[Jk,Jk,e]
def Rt[DecidableEq κ]:∀(zs kvs:List (κ×V)),((kvs++zs).map (·.1)).Nodup->Tz kvs zs=kvs++zs
 |[],kvs,_=>(Jz _).symm
 |z::zs,kvs,h=>by
  let e:putK kvs z.1 z.2=kvs++[z]:=by
   unfold putK;rw[Fo];intro hz;let⟨kv,hk,e⟩:=B3.mp hz;let e:=Fg e;rw[Jg,By]at h;exact h.2.2 kv.1 (Jn.mpr ⟨kv,hk,rfl⟩) z.1 Jo e
  show Tz (putK kvs z.1 z.2) zs=_;rw[e,Rt zs (kvs++[z]) (by rw[Gc];exact h),Gc];rfl
def N4 :∀(ka:List (List Key×Int)),RepT C I α (ka.map λz=>(z.1,V.int z.2)) (ka.map λz=>(z.1,D.int z.2))
 |[]=>.nil
 |z::r=>.cons (.int _) (N4 r)
end
instance Zup:Enc Pr:=Zuo We (Rw We)
end L3
namespace L2
open PySem PySem.Spec PyProof.Rows
section
instance Zra(K:Cs):V->List V->Hp->VK->Prop:=λx xs H Q=>∃(z:Str)(p:Addr)(ys:List Str),x=.str z/\xs=[.ref p]/\SqL K H p (ys.map V.str)/\(ys.map (·.length)).sum+ys.length*z.length<=16777216/\Q (.str (Txt.join z ys)) H
def Zow(h:X.K=K):MtR X "str.join" (Zra K):=by subst h;exact Zns
end
end L2
namespace L3
open PySem L2
section
variable{C:Cf}{t:TA}{u:TA3} 
abbrev Zip(sp:Sp3X)(kx:X3)(Kk:K3)(d:D):List D->Mem->Prop:=λds M2=>sp (d::ds) M2 Kk kx
abbrev Ziq(Cl:Addr)(m:Str)(sp:Sp3X)(kx:X3)(u:TA3)(ρ:Ev)(Kk:K3):D->Mem->Prop:=λd M1=>(∃(k:Nat)(fs:List (Str×D)),d=.cell k/\M1[k]?=some (.ins Cl fs)/\fs.lookup m=none)/\u ρ M1 (Zip sp kx Kk d)
instance Zpr(Cl:Addr)(m:Str)(sp:Sp3X)(kx:X3)(ua:TE3)(u:TA3):TE3:=λρ M Kk=>ua ρ M (Ziq Cl m sp kx u ρ Kk)
def Zbi{m:Str}{sp:Sp3X}{E:XK}(he:Z.xe=E)(hk:Z.kx=kx)(hx:FinX C Z)(ha:SimE C Z ta ua)(hr:SimA C Z t u):SimE C Z (Zfe Cl m (Tp C sp) [] E ta t) (Zpr Cl m sp kx ua u):=λI α σ H ρ M Kk Q R RE h k =>
 ha I α σ H ρ M _ _ R RE h λv d I1 α1 H1 M1 s1 p1 R1 r1 h1=>by
  let⟨⟨j,fs,rfl,e1,el⟩,h1⟩:=h1;subst he hk;let⟨a,rfl,ec⟩:=r1.inv;let⟨dx,vs,ea,ra⟩:=(R1.cel j a _ ec e1).1;exists a,dx,vs,rfl,ea,Rq ra el,?_;refine hr I1 α1 σ H1 ρ M1 _ _ R1 (RE.mono s1 p1) h1 λvs ds I2 α2 H2 M2 s2 p2 R2 r2 h2=>?_;rw[Jz];exists Z,I2,α2,M2,_,Kk,Z.kx,R2,.cons ((Rep.cell ec).mono s2 p2) r2,h2,k.mono (s1.trans s2) (p1.trans p2),λCe d vs fs I' α' H' M' s p R' e f g=>hx Ce d vs fs I' α' H' M' R' e f g
def MetE.calm3{base:Heap}{m:Str}{k:Nat}{sp:Sp3X}(c:MetE bctx P w K mg base Cl m k ps (Tp C sp)):Met P w K mg base Cl m k ps (spOf C λds M K=>sp ds M K λ_ _ _=>False) :=
 L2.MetE.calm c λvs H Q E h=>by
  let⟨Z,I,α,M,ds,K,R,r,h,k⟩:=h;exists Z,I,α,M,ds,K,_,R,r,h,k,λ_ _ _ _ _ _ _ _ _ _ _ _ _ z=>z.elim
def Reps.of_strs :∀{vs:List V}(zs:List Str),Reps C I α vs (zs.map D.str)->vs=zs.map V.str
 |_,[],h=>by cases h;rfl
 |_,z::r,h=>by
  cases h with
  |cons a b =>
   cases a;rw[Reps.of_strs r b];rfl
inductive uJoin_1(u:TA3)(ρ:Ev)(K:K3)(d:D)(M1:Mem):Prop
 |mk:∀z,d=.str z->(u ρ M1 λds M2=>∃(e:D)(ys:List Str),ds=[e]/\Vd M2 e=some (ys.map D.str)/\(ys.map (·.length)).sum+ys.length*z.length<=16777216/\K (.str (Txt.join z ys)) M2)->uJoin_1 u ρ K d M1
instance Zte(uo:TE3)(u:TA3):TE3:=λρ M K=>uo ρ M (uJoin_1 u ρ K)
def Zqy(ho:SimE C Z to uo)(ha:SimA C Z t u):SimE C Z (tBM C.k "str" (Zra C.k) to t) (Zte uo u):=λI α σ H ρ M K Q R E h k =>
 ho I α σ H ρ M _ _ R E h λv d I1 α1 H1 M1 s1 p1 R1 r1 h1=>by
  let⟨z,rfl,h1⟩:=h1;cases r1.inv;exists rfl,ha I1 α1 σ H1 ρ M1 _ _ R1 (E.mono s1 p1) h1 λws ds I2 α2 H2 M2 s2 p2 R2 r2 h2=>?_;let⟨e,ys,rfl,el,hz,h2⟩:=h2;refine Reps.e1 r2 λ_ ry=>?_;let⟨a,vs,rfl,ea,ra⟩:=Tb R2 ry el;rw[ra.of_strs ys]at ea;exists z,a,ys,rfl,rfl,ea,hz,k _ _ I2 α2 H2 M2 (s1.trans s2) (p1.trans p2) R2 (.str _) h2
inductive list3D(ds:List D)(M:Mem)(K:K3):Prop
 |mk:∀(d:D)(kvs:List (Key×D)),ds=[d]->Sh M d=some kvs->K (.cell M.length) (M++[.lst (kvs.map λkv=>kD kv.1)])->list3D ds M K
def N3 :∀{vs:List (Key×V)}{kvs:List (Key×D)},RepK C I α vs kvs->Reps C I α (vs.map λkv=>kV kv.1) (kvs.map λkv=>kD kv.1)
 |_,_,.nil=>.nil
 |_,_,.cons (k:=k) r1 r2=>.cons (by cases k with|inl i=>exact .int i|inr z=>exact .str z) (N3 r2)
def Zmq:SimC C Z Zgc list3D:=λI α H M xs ds K Q R r h k=>by
 let⟨d,kvs,rfl,e,h⟩:=h;refine Reps.e1 r λ_ r1=>?_;let⟨a,vs,rfl,ea,ra⟩:=Zli R r1 e;exists a,vs,rfl,ea,λp hp=>?_;let⟨R2,p2,e2⟩:=R.cell (o:=.lst (vs.map λkv=>kV kv.1)) (m:=.lst (kvs.map λkv=>kD kv.1)) hp λH' e=>⟨_,e,N3 ra⟩;exact k _ _ I _ _ _ (.refl _) p2 R2 (.cell e2) h
instance Zrd(K:Cs):R2:=λx y H Q=>Zrc K x y H Q\/Zjl K x y H Q
def Zlp(h:X.K=K'):OpR X (Hd .Add) (Zrd K'):=by
 subst h;exact OpR.or Znl Zbs
inductive addT3(d:D)(e:D)(M:Mem)(K:K3):Prop
 |mk:∀xs ys,d=.tup xs->e=.tup ys->xs.length+ys.length<=Cb->K (.tup (xs++ys)) M->addT3 d e M K
def Zq4:SimR C Z (Zrd C.k) addT3:=λI α H M x y d e K Q R r1 r2 h k=>by
 let⟨xs,ys,rfl,rfl,hl,h⟩:=h;let⟨a,vs,rfl,ea,ia,ra⟩:=Uk R r1 rfl;let⟨b,ws,rfl,eb,ib,rb⟩:=Uk R r2 rfl
 by_cases hx:xs=[]
 .subst hx;cases ra;exact .inl ⟨a,b,ws,rfl,rfl,SqT.of ea,SqT.of eb,k.now R r2 h⟩
 .refine .inr ⟨a,b,vs,ws,rfl,rfl,SqT.of ea,SqT.of eb,λz=>?_,by rw[ra.length,rb.length];exact hl,λz=>?_,λ_ p hp=>?_⟩
  .subst z;cases ra;exact hx rfl
  .subst z;cases rb;rw[Jz]at h;exact k.now R r1 h
  .let⟨R2,s2,e2⟩:=R.new (o:=.tup (vs++ws)) hp;exact k.on s2 R2 (.tup e2 ((ra.app rb).mono s2 (Ji _))) h
end
abbrev Fq:=Str×List Pr×List Int
variable{zs qs:List L3.Fq}
instance famD(f:Nat):List (Str×D):=[("codes_by_name",.cell (f+1)),("marks_by_name",.cell (f+2))]
instance Wn(zs:List Fq):List (Key×D):=zs.map λz=>(.inr z.1,.code z.2.1)
instance Xb(zs:List Fq):List (Key×D):=zs.map λz=>(.inr z.1,wD z.2.2)
structure FamAt(XF:Addr)(M:Mem)(f:Nat)(zs:List Fq):Prop where
 h0:M[f]?=some (.ins XF (famD f))
 h1:M[f+1]?=some (.dct (Wn zs))
 h2:M[f+2]?=some (.dct (Xb zs))
 nd:(zs.map (·.1)).Nodup
instance Ru(M:Mem)(f:Nat)(zs:List Fq):Mem:=(M.set (f+1) (.dct (Wn zs))).set (f+2) (.dct (Xb zs))
def FamAt.pre{XF:Addr}{N:Mem}{f:Nat}(h:FamAt XF M f zs)(p:M<+:N):FamAt XF N f zs:=⟨Z9 p h.h0,Z9 p h.h1,Z9 p h.h2,h.nd⟩
def FamAt.put{XF:Addr}{f:Nat}{ys:List Fq}(h:FamAt XF M f zs)(nd:(ys.map (·.1)).Nodup):FamAt XF (Ru M f ys) f ys:=by
 let l1:=Vu h.h1;let l2:=Vu h.h2;unfold Ru;exists Ux (Ux h.h0 ()) (),Ux (Jx l1) (),Jx (by rw[Gi];exact l2),nd
def Ze2{g:Fq->D}{n:Str}(h:n∉zs.map (·.1)):valD (zs.map λz=>((.inr z.1:Key),g z)) (.inr n)=none:=by
 unfold valD;rw[Option.map_eq_none_iff,List.find?_eq_none];intro kv hkv e;let⟨z,hz,rfl⟩:=Jn.mp hkv;let:=Fg e;exact h (Jn.mpr ⟨z,hz,Jdh this⟩)
def Pf{g:Fq->D}:∀{zs:List Fq},(zs.map (·.1)).Nodup->∀{z:Fq},z∈zs->valD (zs.map λz=>((.inr z.1:Key),g z)) (.inr z.1)=some (g z)
 |[],_,_,h=>nomatch h
 |y::ys,nd,z,h=>by
  unfold valD;rw[Jk,G7];rw[Jk,Bf]at nd
  by_cases e:y.1=z.1
  .rcases Jp.mp h with w|w
   .subst w;simp
   .exact Fh (Jn.mpr ⟨z,w,e.symm⟩) nd.1
  .let hz:z∈ys:=by
    rcases Jp.mp h with w|w
    .exact Fh (by rw[w]) e
    .exact w
   rw[show decide ((Jcx y.1:Key)=Jcx z.1)=false from Ft λw=>e (Jdh w)];exact Pf nd.2 hz
inductive dInitF(XF:Addr)(ds:List D)(M:Mem)(K:K3):Prop
 |mk:∀f:Nat,ds=[.cell f]->(M[f]?=some (.ins XF [])/\M.length=f+1/\K .non (M.set f (.ins XF (famD f))++[.dct [],.dct []]))->dInitF XF ds M K
inductive dAddX(XF XT:Addr)(ds:List D)(M:Mem)(K:K3)(KX:X3):Prop
 |mk:∀(f:Nat)(n:Str)(S:List Pr)(mk:List Int)(zs:List Fq),ds=[.cell f,.str n,.code S,wD mk]->(FamAt XF M f zs/\zs.length<=100/\(n∉zs.map (·.1)->K .non (Ru M f (zs++[(n,S,mk)])))/\(n∈zs.map (·.1)->KX XT [("name",.str n)] M))->dAddX XF XT ds M K KX
inductive dNamesF(XF:Addr)(ds:List D)(M:Mem)(K:K3):Prop
 |mk:∀(f:Nat)(zs:List Fq),ds=[.cell f]->(FamAt XF M f zs/\K (.cell M.length) (M++[.lst ((zs.map (·.1)).map .str)]))->dNamesF XF ds M K
inductive dCodeX(XF XN:Addr)(ds:List D)(M:Mem)(K:K3)(KX:X3):Prop
 |mk:∀(f:Nat)(n:Str)(zs:List Fq),ds=[.cell f,.str n]->(FamAt XF M f zs/\(∀z∈zs,z.1=n->K (.code z.2.1) M)/\(n∉zs.map (·.1)->KX XN [("name",.str n)] M))->dCodeX XF XN ds M K KX
inductive dMarkX(XF XN:Addr)(ds:List D)(M:Mem)(K:K3)(KX:X3):Prop
 |mk:∀(f:Nat)(n:Str)(zs:List Fq),ds=[.cell f,.str n]->(FamAt XF M f zs/\(∀z∈zs,z.1=n->K (wD z.2.2) M)/\(n∉zs.map (·.1)->KX XN [("name",.str n)] M))->dMarkX XF XN ds M K KX
instance Zcm(zs:List Str):Prop:=(∀z∈zs,z.length≠1)\/∀z∈zs,z.length≠4
def Znq{zs:List Str}{n:Nat}(h:∀z∈zs,n<=z.length+1/\z.length<=n+1):Zcm zs:=by
 by_cases hn:n<=2
 .exact .inr λz hz=>by have:=h z hz;lia
 .exact .inl λz hz=>by have:=h z hz;lia
inductive dNames41(ds:List D)(M:Mem)(K:K3):Prop
 |mk:∀(k n:Nat),ds=[.cell k,.int n]->(M[k]?=some .hand/\n<=8/\∀zs:List Str,zs.Nodup->zs.length=n->(∀z∈zs,z.length<=8/\C0 z=true)->Zcm zs->K (.cell M.length) (M++[.lst (zs.map .str)]))->dNames41 ds M K
inductive dMark41(ds:List D)(M:Mem)(K:K3):Prop
 |mk:∀(k:Nat)(bs:List Int)(ms:List (List Int)),ds=[.cell k,.lst (bs.map .int),.lst (ms.map wD)]->(M[k]?=some .hand/\(bs≠[]/\bs.length<=100/\ms.length<=100/\∀m∈ms,m.length<=4/\∀b∈m,b∈bs)/\∀mk:List Int,mk.length<=4->(∀b∈mk,b∈bs)->K (wD mk) M)->dMark41 ds M K
instance spD(q:Fq):D:=.tup [.str q.1,.lst (q.2.1.map pD),wD q.2.2]
structure SpOk(bs ss:List Int)(qs:List Fq):Prop where
 bnd:bs.Nodup
 b2:2<=bs.length
 b4:bs.length<=4
 br:∀b∈bs,0<=b/\b<256
 snd:ss.Nodup
 sl:ss.length=30
 nd:(qs.map (·.1)).Nodup
 ln:qs.length<=8
 nl:∀q∈qs,q.1.length<=8/\C0 q.1=true
 fr:∀q∈qs,Free q.2.1
 fi:∀q∈qs,Fits q.2.1
 wb:∀q∈qs,∀p∈q.2.1,∀b∈p.2,b∈bs
 ml:∀q∈qs,q.2.2.length<=4
 mb:∀q∈qs,∀b∈q.2.2,b∈bs
 al:Zcm (qs.map (·.1))
 ll:∀q∈qs,q.2.1.length<=28
inductive dSpecs41(ds:List D)(M:Mem)(K:K3):Prop
 |mk:∀(ns:List Int)(m:Int),ds=[.frz (ns.map .int),.int m]->((ns.length<=63/\0<=m/\m<=3)/\∀(bs ss:List Int)(qs:List Fq)(c:Nat)(M':Mem),SpOk bs ss qs->M<+:M'->M.length<=c->M'[c]?=some (.lst (qs.map spD))->K (.tup [.lst (bs.map .int),.lst (ss.map .int),.cell c]) M')->dSpecs41 ds M K
def Zna{N:Mem}(p:M<+:N):M.length<=N.length:=by
 let⟨X,rfl⟩:=p;rw[Jc];lia
abbrev OkS:={z:Str // C0 z=true}
instance encS:Enc OkS:=⟨λz=>.str z.1,λz=>.str z.1,0,λ_ _=>.str _,λz=>⟨by simp only[Kj];exact z.2,by simp only[La];exact Jd _⟩,λa b=>by
 rw[Ed,Jc7,decide_eq_decide];exact⟨Subtype.ext,λh=>by rw[h]⟩,nofun⟩
instance nmS(cs:List Nat):Str:=⟨(cs.map λc=>97+c).toArray⟩
def S6(cs:List Nat):(nmS cs).length=cs.length:=by
 show(cs.map λc=>97+c).toArray.size=_;rw[Jq,Ja]
def Zrn{a b:List Nat}(h:nmS a=nmS b):a=b:=by
 unfold nmS at h;injection h with h
 let h:=congrArg Jem h;simp only at h;exact(List.map_inj_right (λx y e=>Nat.add_left_cancel e)).mp h
def Zrm(h:∀c∈cs,c<26):C0 (nmS cs)=true:=by
 unfold C0 nmS;rw[Array.all_eq_true'];intro x hx;let:x∈cs.map λc=>97+c:=by simpa using hx
 let⟨c,hc,rfl⟩:=Jn.mp this;let:=h c hc;exact Fs ()
def Zue{c:Nat}(h:c<26):L2.atI (Co "abcdefghijklmnopqrstuvwxyz").cps.toList (c:Int)=some (97+c):=by
 let:∀c:_root_.Fin 26,L2.atI (Co "abcdefghijklmnopqrstuvwxyz").cps.toList ((c.val:Nat):Int)=some (97+c.val):=by decide
 exact this ⟨c,h⟩
def Znp(cs:List Nat):Txt.join (Co "") (cs.map λc=>(⟨#[97+c]⟩:Str))=nmS cs:=by
 show Jh3 (Co "") _=_;rw[StrLaws.glued_eq_join];let:=Jg3 (cs.map λc=>97+c);rw[Gh]at this;exact this
def Zr2(n len:Nat):Kc none (some (n:Int)) 1 len=Kc (some ((0:Nat):Int)) (some (n:Int)) 1 len:=by
 unfold Kc;let e1:max (0:Int) (min ((0:Nat):Int) (len:Int))=0:=by lia
 let h1:¬ (((0:Nat):Int)<0):=by lia
 simp only[show((1:Int) > 0)=True from by simp,if_true,h1,if_false,e1]
def Zro{n:Nat}(h:n<cs.length):Txt.slice (nmS cs) none (some (n:Int))=nmS (cs.take n):=by
 unfold Txt.slice;rw[Zr2,StrLaws.sliced_plain (nmS cs) (J8 n) (by rw[S6];lia),Fo ?_]
 .unfold nmS;rw[Fb,Jev,Bj]
 .rw[StrLaws.strSliceIndices_plain (J8 n) (by rw[S6];lia),Ja,G9,S6];simp;lia
def Zgx{xs:List τ}(h:xs.Nodup){x:τ}(hx:x∉xs)(i:Nat):(xs.set i x).Nodup:=by
 rw[List.nodup_iff_pairwise_ne,Bg]at h⊢;intro a b ha hb hab;rw[Gi]at ha hb;let:=h a b ha hb hab;rw[List.getElem_set,List.getElem_set]
 split
 .split
  .lia
  .exact λe=>hx (e ▸ Jy _)
 .split
  .exact λe=>hx (e ▸ Jy _)
  .exact this
def Qy(z:Int){n:Nat}(h:0<n):∃j:Nat,z % (n:Int)=(j:Int)/\j<n:=by
 let⟨j,ej⟩:=Gy (G5 z (by lia:(n:Int)≠0));let:=G0 z (by lia:(0:Int)<(n:Int));exact⟨j,ej,()⟩
instance Nk(z q:Fq):Prop:=z.1=q.1/\z.2.2=q.2.2/\z.2.1.Perm q.2.1/\Qb z.2.1
def S7:∀{zs:List Fq},(zs.map (·.1)).Nodup->∀{z y:Fq},z∈zs->y∈zs->z.1=y.1->z=y
 |[],_,_,_,h,_,_=>nomatch h
 |x::xs,nd,z,y,hz,hy,e=>by
  rw[Jk,Bf]at nd;rcases Jp.mp hz with a|a<;>rcases Jp.mp hy with b|b
  .rw[a,b]
  .exact Fh (Jn.mpr ⟨y,b,by rw[<-e,a]⟩) nd.1
  .exact Fh (Jn.mpr ⟨z,a,by rw[e,b]⟩) nd.1
  .exact S7 nd.2 a b e
def Um{N:Mem}{d:D}{xs:List D}(p:M<+:N)(h:lsOf M d=some xs):lsOf N d=some xs:=by
 cases d with
 |lst ys=>exact h
 |cell c =>
  simp only[lsOf]at h⊢;cases hm:M[c]? with
  |none=>rw[hm]at h;cases h
  |some m=>rw[Z9 p hm];rw[hm]at h;exact h
 |_=>cases h
def Zkc{d d':D}{K:Bool->Prop}{p:PyData}(h1:PyR M d p)(h2:PyR M d' p)(hs:Hl p=true)(he:Ed p p=true)(h:K true):eqV d d' M K :=
 .inr ⟨p,p,h1,h2,hs,hs,by rw[he];exact h⟩
def Zoe(nd:(qs.map (·.1)).Nodup)(tz:∀(i:Nat)(z q:Fq),zs[i]?=some z->qs[i]?=some q->Nk z q)(lz:zs.length=i)(hi:i<qs.length):qs[i].1∉zs.map (·.1):=λh=>by
 let⟨z,hz,e⟩:=Jn.mp h;let⟨j,hj,rfl⟩:=Gf hz;let t:=(tz j _ _ (Jb hj) (Jb ())).1;let:=(Bi (i:=j) (j:=i) (h₀:=by rw[Ja];lia) (h₁:=by rw[Ja];lia) nd).mp (by rw[G3,G3,<-t,e]);lia
def Zp4{z:Fq}(tz:∀(i:Nat)(z q:Fq),zs[i]?=some z->qs[i]?=some q->Nk z q)(lz:zs.length=i)(hi:i<qs.length)(h:Nk z qs[i]):∀(j:Nat)(y q:Fq),(zs++[z])[j]?=some y->qs[j]?=some q->Nk y q:=λj y q e1 e2=>by
 by_cases hj:j<zs.length
 .rw[Js hj]at e1;exact tz j y q e1 e2
 .let:=(Jf.mp e1).1;rw[Jc,Gj]at this;let:j=i:=by lia
  subst this;rw[Gk (),lz,Nat.sub_self]at e1;cases e1;rw[Jb hi]at e2;cases e2;exact h
def Zrr{z:Fq}(nd:(zs.map (·.1)).Nodup)(h:z.1∉zs.map (·.1)):((zs++[z]).map (·.1)).Nodup:=by
 rw[Jg,By];exists nd,Bf.mpr ⟨List.not_mem_nil,List.nodup_nil⟩,λa ha b hb e=>?_;let e:a=z.1:=e.trans (Jj.mp hb);exact h (e ▸ ha)
def Zhh{X:Mem}{k:Nat}:(M++X)[M.length+k]?=X[k]?:=by
 rw[Gk ()]
 congr 1
 lia
inductive dWritten44(ds:List D)(M:Mem)(K:K3):Prop
 |mk:∀(L:List Pr)(d:D)(ts:List Int),ds=[.lst (L.map pD),d]->(lsOf M d=some (ts.map .int)/\(Fits L/\ts.length<=200/\∀t∈ts,t∈Tr L)/\∀U:List Pr,Zo3 L U ts ts.length->K (.tup [.str (Co "row"),.lst ((Us U).map .int)]) M)->dWritten44 ds M K
instance W8(M:Mem)(xs:List D):Prop:=∀x∈xs,∃ns:List Int,lsOf M x=some (ns.map .int)/\ns.length<=900
def W8.pre{N:Mem}{xs:List D}(h:W8 M xs)(p:M<+:N):W8 N xs:=λx hx=>by
 let⟨ns,e,l⟩:=h x hx;exists ns,Um p e,l
def W8.app{xs ys:List D}(h:W8 M xs)(h':W8 M ys):W8 M (xs++ys):=λx hx=>(Jt.mp hx).elim (h x) (h' x)
instance Y2(zs qs:List Fq):Prop:=zs.length=qs.length/\∀(i:Nat)(z q:Fq),zs[i]?=some z->qs[i]?=some q->Nk z q
def Y2.free(h:Y2 zs qs)(ff:∀q∈qs,Free q.2.1/\Fits q.2.1):∀z∈zs,Free z.2.1/\Fits z.2.1:=λz hz=>by
 let⟨i,hi,rfl⟩:=Gf hz;let hq:i<qs.length:=by rw[<-h.1];exact hi
 let⟨_,_,pm,_⟩:=h.2 i _ _ (Jb hi) (Jb hq);let:=ff _ (Jy hq);exists this.1.perm pm,this.2.perm pm
def pick_at{bs:List Int}(h:bs≠[])(y:Int):∃b∈bs,L2.atI (bs.map D.int) (y % ((bs.map D.int).length:Int))=some (.int b):=by
 let h0:0<bs.length:=J9.mpr h;let⟨a,ea,ha⟩:=Qy y (n:=(bs.map D.int).length) (by rw[Ja];exact h0);rw[Ja]at ha;exact⟨bs[a],Jy ha,by rw[ea];exact Ve (j:=a) rfl ha⟩
def ixN_nat{n:Nat}(h:j<n):ixN n (j:Int)=some j:=by
 unfold ixN;rw[Fp (),Fp (),Bd]
def Zk8{d:D}{xs:List D}{c:Nat}(h:lsOf M d=some xs)(ne:d≠.cell c):lsOf (M.set c m) d=some xs:=by
 cases d with
 |lst ys=>exact h
 |cell j =>
  let:j≠c:=λe=>ne (by rw[e]);simp only[lsOf]at h⊢;rw[Gp (Cv this)];exact h
 |_=>cases h
section
variable{C:Cf}{ue:TE3}
def RepK.get :∀{vs:List (Key×V)}{ds:List (Key×D)},RepK C I α vs ds->vs.length=ds.length/\∀(i:Nat)(kv:Key×V)(kd:Key×D),vs[i]?=some kv->ds[i]?=some kd->kv.1=kd.1/\Rep C I α kv.2 kd.2:=by
 intro _ _ hz9;cases hz9 with
 |nil=>
  exists rfl,λi kv kd e=>nomatch e
 |cons h r=>
  exact by
    let⟨a,b⟩:=RepK.get r;exists by rw[Ju,Ju,a],λi kv kd e1 e2=>?_;cases i with
    |zero=>cases e1;cases e2;exists rfl,h
    |succ i=>exact b i kv kd (by simpa using e1) (by simpa using e2)
instance iIt(k:Nat)(o:Obj)(vs:List (Key×V))(kvs:List (Key×D)):It3:=⟨kvs.length,λi x=>∃kv,kvs[i]?=some kv/\x=.tup [kD kv.1,kv.2],λM=>M[k]?=some (.dfK o vs kvs)⟩
inductive uIItems_1(K:It3->Mem->Prop)(d:D)(M1:Mem):Prop
 |mk:∀k kvs,d=.cell k->M1[k]?=some (.dct kvs)->(∀o vs,K (iIt k o vs kvs) (M1.set k (.dfK o vs kvs)))->uIItems_1 K d M1
instance Zlz(ue:TE3):TI3:=λρ M K=>ue ρ M (uIItems_1 K)
def Zum{k:Nat}{a:Addr}{o:Obj}{vs:List (Key×V)}{kvs:List (Key×D)}(ea:α[k]?=some a):ItR C Z I α (ItdI a o vs) (iIt k o vs kvs):=λI' α' H' M' s p R ok=>by
 let m:=(R.cel k a _ (Po p ea) ok).1;let⟨ln,kg⟩:=RepK.get m.2;exists λi hi=>⟨⟨m.1,by rw[ln];exact hi⟩,λx H2 y=>?_⟩,⟨m.1,by rw[ln];exact Jd _⟩;let⟨t,kv,rfl,ht,rfl,e1⟩:=y;let⟨R2,s2,e2⟩:=R.new (o:=.tup [kV kv.1,kv.2]) ht;let⟨g1,g2⟩:=kg i kv kvs[i] e1 (Jb hi);exists _,.tup [kD kvs[i].1,kvs[i].2],s2,R2,.tup e2 (.cons ?_ (.cons (g2.mono s2 (Ji _)) .nil)),kvs[i],Jb hi,rfl;rw[g1];cases kvs[i].1 with
 |inl j=>exact .int j
 |inr z=>exact .str z
def Zms(he:SimE C Z te ue):SimI C Z (Zle te) (Zlz ue):=λI α σ H ρ M K R' R RE h kk =>
 he I α σ H ρ M _ _ R RE h λv d I1 α1 H1 M1 s1 p1 R1 r1 h1=>by
  let⟨k,kvs,rfl,e,h1⟩:=h1;let⟨a,rfl,ea⟩:=r1.inv;let⟨vs,e1,r⟩:=(R1.cel k a _ ea e).1;exists a,vs,rfl,e1,λo=>kk _ _ I1 α1 _ _ s1 p1 (R1.put (m:=.dfK o vs kvs) ea λH' e'=>⟨e',r⟩) (Zum ea) (h1 o vs)
def Zmm{t:TS}{u:TS3}(hs:SimS C Z t u):SimS C Z (Zq5 t) (λE ρ M=>∃k kvs0,M[k]?=some (.dct kvs0)/\u {E with nx:=λρ' M1=>∃o vs kvs,M1[k]?=some (.dfK o vs kvs)/\E.nx ρ' (M1.set k (.dct kvs))} ρ M):=λI α σ H ρ M E D' R RE h F=>by
 let⟨k,kvs0,e0,h⟩:=h;let⟨a,ea,ma,_⟩:=R.get e0;let⟨vs0,h0,_⟩:=ma;exists a,vs0,h0,hs I α σ H ρ M _ _ R RE h ⟨λI1 α1 σ1 H1 ρ1 M1 s1 p1 R1 RE1 h1=>?_,F.rt,F.bk,F.ct⟩;let⟨o,vs,kvs,e1,h1⟩:=h1;let ea1:=Po p1 ea;let⟨f1,f2⟩:=(R1.cel k a _ ea1 e1).1;exists o,vs,f1,F.nx I1 α1 σ1 _ ρ1 _ s1 p1 (R1.put (m:=.dct kvs) ea1 λH' e'=>⟨vs,e',f2⟩) RE1 h1
end
section
variable{C:Cf}{ta tk:TA}{ua uk:TA3}
inductive uMaxD_2(K:K3)(ds:List D)(es:List D)(M2:Mem):Prop
 |mk:∀(d:D)(ns:List Int)(n0:Int),ds=[d]->es=[.int n0]->lsOf M2 d=some (ns.map .int)->K (.int ((mxOf none ns).getD n0)) M2->uMaxD_2 K ds es M2
abbrev Zlx(uk:TA3)(ρ:Ev)(K:K3):List D->Mem->Prop:=λds M1=>uk ρ M1 (uMaxD_2 K ds)
instance Ztc(ua uk:TA3):TE3:=λρ M K=>ua ρ M (Zlx uk ρ K)
def Zqu(ha:SimA C Z ta ua)(hk:SimA C Z tk uk):SimE C Z (Zmd C.k ta tk) (Ztc ua uk):=λI α σ H ρ M K Q R E h k =>
 ha I α σ H ρ M _ _ R E h λvs ds I1 α1 H1 M1 s1 p1 R1 r1 h1 =>
  hk I1 α1 σ H1 ρ M1 _ _ R1 (E.mono s1 p1) h1 λws es I2 α2 H2 M2 s2 p2 R2 r2 h2=>by
   let⟨d,ns,n0,rfl,rfl,el,h2⟩:=h2;refine Reps.e1 r1 λ_ a=>?_;refine Reps.e1 r2 λ_ c=>?_;cases c;let⟨x,rfl,ex⟩:=Zk9 R2 (a.mono s2 p2) el;exists x,ns,n0,rfl,rfl,SqL.of ex,k _ _ I2 α2 H2 M2 (s1.trans s2) (p1.trans p2) R2 (.int _) h2
end
def Zov{e d:Expr}{p:Pos}{ta tk:TA}(hK:X.K=K)(hc:X.calm=true)(hg:Gl X "max")(hm:X.mg "max"=none)(ha:PA X [e] ta)(hk:PK X [⟨some "default",d,kpos⟩] tk)(he:Cp [e] X.env=[(false,eval e X.env)]:=by rfl) :
  PE X (.Call (.Name "max" p) [e] [⟨some "default",d,kpos⟩] pos) (Zmd K ta tk):=by subst hK;exact Zng hc hg hm ha hk he
instance Sg(m ns:List Int):Bool:=decide (0<m.length)&&decide (ns.take m.length=m)
instance Y7(zs:List Fq)(ns:List Int):List Fq:=zs.filter λz=>Sg z.2.2 ns
instance topF:List Fq->Nat
 |[]=>0
 |z::r=>max z.2.2.length (topF r)
instance Y9(zs:List Fq)(ns:List Int):List Str:=((Y7 zs ns).filter λz=>decide (z.2.2.length=topF (Y7 zs ns))).map (·.1)
def Zgy:∀(c:Nat)(zs:List Fq),mxOf (some (c:Int)) (zs.map λz=>((z.2.2.length:Nat):Int))=some ((max c (topF zs):Nat):Int)
 |c,[]=>by show some _=some _;rw[show topF []=0 from rfl,Nat.max_zero]
 |c,z::r=>by
  rw[Jk];unfold mxOf;let:(if(c:Int)<((z.2.2.length:Nat):Int)then((z.2.2.length:Nat):Int)else(c:Int))=((max c z.2.2.length:Nat):Int):=by
   split<;>lia
  rw[this,Zgy,show topF (z::r)=max z.2.2.length (topF r)from rfl,Nat.max_assoc]
def Zrs(zs:List Fq):(mxOf none (zs.map λz=>((z.2.2.length:Nat):Int))).getD 0=(topF zs:Int):=by
 cases zs with
 |nil=>rfl
 |cons z r =>
  rw[Jk];show(mxOf (some _) _).getD 0=_;rw[Zgy];rfl
def Zp7{z:Fq}(h:z∈zs):z.2.2.length<=topF zs:=by
 induction zs with
 |nil=>cases h
 |cons y r ih =>
  show _<=max y.2.2.length (topF r);rcases Jp.mp h with e|e
  .rw[e];lia
  .let:=ih e;lia
instance Ua(zs qs:List Fq):Prop:=zs.map (λz=>(z.1,z.2.2))=qs.map λq=>(q.1,q.2.2)
def Ua.by(h:Ua zs qs)(ns:List Int):Y9 zs ns=Y9 qs ns:=by
 let go:∀{zs qs:List Fq},Ua zs qs->Ua (Y7 zs ns) (Y7 qs ns):=by
  intro zs
  induction zs with
  |nil=>intro qs h;cases qs with|nil=>rfl|cons _ _=>cases h
  |cons z zs ih =>
   intro qs h;cases qs with
   |nil=>cases h
   |cons q qs =>
    unfold Ua at h ih⊢;rw[Jk,Jk]at h;injection h with h1 h2
    injection h1 with e1 e2
    let:=ih h2;unfold Y7 at this⊢;rw[Gd,Gd,e2]
    split
    .rw[Jk,Jk,this,e1,e2]
    .exact this
 let tp:∀{zs qs:List Fq},Ua zs qs->topF zs=topF qs:=by
  intro zs
  induction zs with
  |nil=>intro qs h;cases qs with|nil=>rfl|cons _ _=>cases h
  |cons z zs ih =>
   intro qs h;cases qs with
   |nil=>cases h
   |cons q qs =>
    unfold Ua at h ih;rw[Jk,Jk]at h;injection h with h1 h2
    injection h1 with e1 e2
    show max _ _=max _ _;rw[e2,ih h2]
 let nm:∀(t:Nat){zs qs:List Fq},Ua zs qs->(zs.filter λz=>decide (z.2.2.length=t)).map (·.1)=(qs.filter λz=>decide (z.2.2.length=t)).map (·.1):=by
  intro t zs
  induction zs with
  |nil=>intro qs h;cases qs with|nil=>rfl|cons _ _=>cases h
  |cons z zs ih =>
   intro qs h;cases qs with
   |nil=>cases h
   |cons q qs =>
    unfold Ua at h ih;rw[Jk,Jk]at h;injection h with h1 h2
    injection h1 with e1 e2
    let:=ih h2;rw[Gd,Gd,e2]
    split
    .rw[Jk,Jk,this,e1]
    .exact this
 unfold Y9;rw[tp (go h)];exact nm _ (go h)
def Y2.alike(h:Y2 zs qs):Ua zs qs:=by
 unfold Ua
 apply Jek
 intro i;rw[Jr,Jr]
 by_cases hi:i<qs.length
 .let hz:i<zs.length:=by rw[h.1];exact hi
  let⟨e1,e2,_⟩:=h.2 i _ _ (Jb hz) (Jb hi);rw[Jb hi,Jb hz];show some (_,_)=some (_,_);rw[e1,e2]
 .rw[Bh (by lia:qs.length<=i),Bh (by have:=h.1;lia:zs.length<=i)]
inductive dBegR(ds:List D)(M:Mem)(K:K3):Prop
 |mk:∀(m ns:List Int)(d:D),ds=[wD m,d]->(lsOf M d=some (ns.map .int)/\K (.bl (Sg m ns)) M)->dBegR ds M K
inductive dByMark(XF:Addr)(ds:List D)(M:Mem)(K:K3):Prop
 |mk:∀(f:Nat)(d:D)(zs:List Fq)(ns:List Int),ds=[.cell f,d]->(FamAt XF M f zs/\lsOf M d=some (ns.map .int)/\zs.length<=100/\∀(M':Mem)(c:Nat),M<+:M'->M'[c]?=some (.lst ((Y9 zs ns).map .str))->M.length<=c->K (.cell c) M')->dByMark XF ds M K
inductive dByMarkL(ds:List D)(M:Mem)(K:K3):Prop
 |mk:∀(d e:D)(qs:List Fq)(ns:List Int),ds=[d,e]->(lsOf M d=some (qs.map spD)/\lsOf M e=some (ns.map .int)/\qs.length<=8/\K (.lst ((Y9 qs ns).map .str)) M)->dByMarkL ds M K
def Ziw{z:Fq}:topF (zs++[z])=max (topF zs) z.2.2.length:=by
 induction zs with
 |nil=>show max _ 0=max 0 _;lia
 |cons y r ih =>
  show max _ (topF (r++[z]))=max (max _ _) _;rw[ih,Nat.max_assoc]
def Zhe{z:Fq} :Y7 (zs++[z]) ns=Y7 zs ns++(if Sg z.2.2 ns then [z]else []):=by
 unfold Y7;rw[Gr,Gd,Bo]
def Zot(h:topF (Y7 zs ns)=0):Y9 zs ns=[]:=by
 let:Y7 zs ns=[]:=by
  cases hh:Y7 zs ns with
  |nil=>rfl
  |cons z r =>
   let hz:z∈Y7 zs ns:=by rw[hh];exact Jo
   let l:=Zp7 hz;let:=(Gz.mp hz).2;unfold Sg at this;rw[B2]at this;let:=Fg this.1;lia
 unfold Y9;rw[this];rfl
def Zsg(h:0<topF (Y7 zs ns)):Y9 zs ns=(zs.filter λz=>decide (z.2.2.length=topF (Y7 zs ns))&&decide (ns.take (topF (Y7 zs ns))=z.2.2)).map (·.1):=by
 unfold Y9;generalize topF (Y7 zs ns)=t at h
 congr 1
 unfold Y7;rw[List.filter_filter];refine List.filter_congr λz _=>?_;unfold Sg
 by_cases e:z.2.2.length=t
 .rw[Fs e,B8,B8,Fs (by lia:0<z.2.2.length),B8,e]
 .rw[Ft e,Bz,Bz]
def Zbf{z:Str}(h:C0 z=true):Shp 0 (.str z):=⟨by simp only[Kj];exact h,by simp only[La];exact Jd _⟩
def Zts(b:Bool):Shp 0 (.bool b):=⟨by simp only[Kj],by simp only[La];exact Jd _⟩
def Zoi{bs:List Bool}{K:Bool->Prop}(h:K true):eqV (.lst (bs.map .bl)) (.lst (bs.map .bl)) M K:=by
 let pr:PyRs M (bs.map .bl) (bs.map .bool):=by
  induction bs with
  |nil=>exact .nil
  |cons b r ih=>exact .cons (.bl b) ih
 refine Zkc (p:=.list (bs.map .bool)) (.seq rfl pr) (.seq rfl pr) (Shp.shaped (n:=1) (Sk λd hd=>?_) nofun) ?_ h
 .let⟨b,_,rfl⟩:=Jn.mp hd;exact Zts b
 .rw[Ed]
  induction bs with
  |nil=>simp[C4]
  |cons b r ih =>
   cases pr with
   |cons _ pr=>rw[Jk,C4,ih pr];simp[Ed]
def okV{zs:List Str}(h:∀z∈zs,C0 z=true):∃os:List OkS,os.map (·.1)=zs:=⟨zs.attach.map λz=>⟨z.1,h z.1 z.2⟩,by rw[Gh];exact List.attach_map_val (l:=zs) (f:=id) |>.trans (List.map_id zs)⟩
def Zkb{zs ws:List Str}{d d':D}{K:Bool->Prop}(h1:Vd M d=some (zs.map .str))(h2:Vd M d'=some (ws.map .str))(k1:∀z∈zs,C0 z=true)(k2:∀z∈ws,C0 z=true)(h:K (decide (zs=ws))):eqV d d' M K:=by
 let⟨os,rfl⟩:=okV k1;let⟨ps,rfl⟩:=okV k2;rw[Gh]at h1 h2;refine Vw encS (a:=os) (b:=ps) h1 h2 ?_;let:decide (os=ps)=decide (os.map (·.1)=ps.map (·.1)):=by
  rw[decide_eq_decide];exists λe=>by rw[e],λe=>(List.map_inj_right λx y=>Subtype.ext).mp e
 rw[this];exact h
def Zd0{n:Str}(h:n∈Y9 zs ns):∃z∈zs,z.1=n/\Sg z.2.2 ns=true/\z.2.2.length=topF (Y7 zs ns):=by
 unfold Y9 at h;let⟨z,hz,e⟩:=Jn.mp h;let⟨h1,h2⟩:=Gz.mp hz;let⟨h3,h4⟩:=Gz.mp h1;exists z,h3,e,h4,Fg h2
def Y2.mem(h:Y2 zs qs){z:Fq}(hz:z∈zs):∃q∈qs,Nk z q:=by
 let⟨i,hi,rfl⟩:=Gf hz;let hq:i<qs.length:=by rw[<-h.1];exact hi
 exists _,Jy hq,h.2 i _ _ (Jb hi) (Jb hq)
def Y2.take(tz:∀(i:Nat)(z q:Fq),zs[i]?=some z->qs[i]?=some q->Nk z q)(lz:zs.length=i)(hi:i<=qs.length):Y2 zs (qs.take i):=by
 exists by rw[J0];lia,λj z q e1 e2=>?_;let hj:=(Jf.mp e1).1;rw[Mo ()]at e2;exact tz j z q e1 e2
def Zm6[DecidableEq κ](kvs:List (κ×D))(k:κ)(v:D):(putD kvs k v).length<=kvs.length+1:=by
 unfold putD
 split
 .rw[Ja];lia
 .rw[Jc];exact Jd _
def Zdr[DecidableEq κ]:∀(zs kvs:List (κ×D)),(Uz kvs zs).length<=kvs.length+zs.length
 |[],_=>Jd _
 |z::zs,kvs=>by
  let h:=Zdr zs (putD kvs z.1 z.2);let:=Zm6 kvs z.1 z.2;show(Uz (putD kvs z.1 z.2) zs).length<=_;rw[Ju];lia
section
variable{C:Cf} 
instance Zlt(Cx:Addr)(kx:X3):TS3:=λ_ _ M=>kx Cx [] M
def Zja{Cx:Addr}{E:XK}(he:Z.xe=E)(hk:Z.kx=kx)(hx:FinX C Z):SimS C Z (Zfb Cx E) (Zlt Cx kx):=λI α σ H ρ M E3 D' R RE h F ea hea=>by
 subst he hk;let⟨I',s',R',fl⟩:=(R.same (Zr (o:=.ext (excP ea Cx none)) hea)).full;exact hx Cx none [] [] I' α _ M R' rfl .nil h
end
section
variable{C:Cf}
def Zc8 :∀{vs:List (Key×V)}{kvs:List (Key×D)},RepK C I α vs kvs->vs.map (·.1)=kvs.map (·.1):=by
 intro _ _ hz9;cases hz9 with
 |nil=>
  exact rfl
 |cons _ r=>
  exact by rw[Jk,Jk,Zc8 r]
end
section
variable{C:Cf}
def Fun.okC3{base:Heap}{x:Str}{f:Addr}{osl:Array (Option Ca)}{kV:Ca}{k:Nat}{sp:Sp3}(lk:K.lookup f=some ⟨oc,od,.func (L9 x qual (Xv st) (Ys st) (Zl st) .none kV doc pm an cdv ct),osl⟩)(hcd:Ja4 K cdv qual=true)(S:FnScope N ps (Zl st))(len:∀ds M K,sp ds M K->ds.length=ps.length)(hbody:∀(A:Ht)(outer:List Env)(s:Cc)(H:Hp)(E:XK),Room k (A.deeper (E4 qual (Zl st) s.heap.objs.size f cdv)) ->
   ∃t u,PSs (cxOf CX0 P w K mg base N qual (Zl st) f cdv A outer s H E).nox (Ys st) t/\(∀Z,SimS C Z t u)/\∀ds M K,WfM M->(∀d∈ds,Ym M.length d)->sp ds M K->u {nx:=λ_ M'=>Dk M.length K .non M',rt:=Dk M.length K} (Qs N ds) M) :
  FnOk P w K mg base CX0 (k+1) f (L9 x qual (Xv st) (Ys st) (Zl st) .none kV doc pm an cdv ct) ps (spOf C sp):=by
 refine L2.Fun.okC lk hcd S (λvs H Q E h=>?_) (λA outer s H vs Q E hr h=>?_)
 .let⟨Z,I,α,M,ds,K,R,r,h,_⟩:=h;rw[r.length];exact len ds M K h
 .let⟨t,u,h1,h2,h3⟩:=hbody A outer s H E hr;let⟨Z,I,α,M,ds,K,R,r,h,k⟩:=h;let kd:=k.dk R.len R.aa;exists t,h1,h2 Z I α _ H _ M _ _ R (Sz r N) (h3 ds M K R.wf (by rw[<-R.len];exact r.bel) h) ⟨λI1 α1 σ1 H1 ρ1 M1 s1 p1 R1 _ h1=>kd _ _ I1 α1 H1 M1 s1 p1 R1 .non h1,kd,λ_ _ _ _ _ _ _ _ _ _ h=>h.elim,λ_ _ _ _ _ _ _ _ _ _ h=>h.elim⟩
end
end L3
variable{zs qs:List L3.Fq}
namespace L2
open PySem PySem.W
instance AllL :Nat->(List τ->Prop)->Prop
 |0,Q=>Q []
 |n+1,Q=>∀a,AllL n λl=>Q (a::l)
def allL :∀{n:Nat}{Q:List τ->Prop},AllL n Q->∀{us:List τ},us.length=n->Q us
 |0,_,h,[],_=>h
 |n+1,_,h,a::l,e=>allL (h a) (Nat.succ.inj e)
def us2{Q:List τ->Prop}(h:∀a b,Q [a,b])(us:List τ)(hl:us.length=2):Q us:=match us,hl with |[a,b],_=>h a b
structure FnG(K:Frag)(x:Str)(st:Stmt)(f:Addr)(fd:Lj):Prop where
 g:nsIn K Ct x=some (some (.ref f))
 F:Fun K x x st f fd
structure MtG(K:Frag)(C:Addr)(m q:Str)(st:Stmt)(f:Addr)(fd:Lj):Prop where
 a:Cu K (.ref C) m=some (some (.ref f))
 n:isFn K (.ref f)=true
 F:Fun K m q st f fd
instance Zk7(K:Frag)(xs:List Str):Bool:=xs.all λx=>match nsIn K Ct x with|some none=>true|_=>false
def Xy{K:Frag}{xs:List Str}(X:K.In h)(G:h.Ns Ct mg)(z:Zk7 K xs=true)(i:Nat){x:Str}(e:xs[i]?=some x):mg x=none:=by
 let:=List.all_eq_true.mp z x (Gq e);cases q:nsIn K Ct x with
 |none=>rw[q]at this;cases this
 |some o =>
  cases o with
  |none=>exact mg_none_of X G q
  |some v=>rw[q]at this;cases this
structure MkG(K:Frag)(C:Addr):Prop where
 m:makesIn K C=true
 k:keepIn K (.ref C)=true
structure CaG(K:Frag)(C:Addr):Prop where
 t:Jhy K (.ref C)=some (.type "type")
 b:Eo K C (.type "BaseException")=some true
structure Tk(P:Eu)(w:Hm)(K:Frag)(mg:Str->Option Ca)(base:Heap):Prop where
 m:∀{x:Str}{v:Ca},nsIn K Ct x=some (some v)->mg x=some v
section
variable{K:Frag}{base:Heap}{x m:Str}{f:Addr}{k:Nat} 
abbrev Bnd(x q:Str)(st:Stmt)(ps:List Str):Prop:=∀(kV doc pm:Ca)(an:Option Addr)(cdv ct:Ca)(us:List Ca),us.length=ps.length->Jds (fnOf x q (Xv st) (Ys st) (Zl st) .none kV doc pm an cdv ct) ⟨us,[]⟩=pure (ps.zip us)
def bn(h:∀(kV doc pm:Ca)(an:Option Addr)(cdv ct:Ca),AllL ps.length λus=>Jds (fnOf x q (Xv st) (Ys st) (Zl st) .none kV doc pm an cdv ct) ⟨us,[]⟩=pure (ps.zip us)):Bnd x q st ps:=λkV doc pm an cdv ct _ e=>allL (h kV doc pm an cdv ct) e
def Xw(Y:Tk P w K mg base)(g:FnG K x st f fd)(ok:FnOk P w K mg base CX0 k f fd ps sp)(b:Bnd x x st ps:=by apply bn;(repeat intro _);exact rfl) :
  Cal P w K mg base x k ps sp:=Zsf g.F ok (Y.m g.g) (g.F.binds b)
def Zse(Y:Tk P w K mg base)(g:FnG K x st f fd)(ok:FnOk P w K mg base (CXE bctx P w) k f fd ps sp)(b:Bnd x x st ps:=by apply bn;(repeat intro _);exact rfl) :
  CalE bctx P w K mg base x k ps sp:=Zos g.F ok (Y.m g.g) (g.F.binds b)
def Znt(Y:Tk P w K mg base)(cl:Cls K C)(g:MtG K C m q st f fd)(ok:FnOk P w K mg base CX0 k f fd ps sp)(b:Bnd m q st ps:=by apply bn;(repeat intro _);exact rfl) :
  Met P w K mg base C m k ps sp:=⟨f,fd,cl,⟨g.a,g.n,g.F.kp⟩,ok,g.F.binds b⟩
def Zdl(Y:Tk P w K mg base)(cl:Cls K C)(g:MtG K C m q st f fd)(ok:FnOk P w K mg base (CXE bctx P w) k f fd ps sp)(b:Bnd m q st ps:=by apply bn;(repeat intro _);exact rfl) :
  MetE bctx P w K mg base C m k ps sp:=⟨f,fd,cl,⟨g.a,g.n,g.F.kp⟩,ok,g.F.binds b⟩
def Zug(Y:Tk P w K mg base)(mk:MkG K C)(g:MtG K C "__init__" q st f fd)(ok:FnOk P w K mg base CX0 k f fd ps sp)(hm:nsIn K Ct x=some (some (.ref C)))(b:Bnd "__init__" q st ps:=by apply bn;(repeat intro _);exact rfl) :
  Mkr P w K mg base x C k ps sp:=⟨f,fd,⟨mk.m,g.a,g.n,mk.k⟩,ok,Y.m hm,g.F.binds b⟩
def rx_g(Y:Tk P w K mg base)(xc:XCl K C f)(xi:Wu K C=some (some (.ref f)))(g:MtG K C "__init__" q st f fd)(ok:FnOk P w K mg base CX0 k f fd ps sp)(hm:nsIn K Ct x=some (some (.ref C)))(b:Bnd "__init__" q st ps:=by apply bn;(repeat intro _);exact rfl) :
  Rx P w K mg base x C k ps sp:=⟨f,fd,xc,xi,ok,Y.m hm,g.F.binds b⟩
end
end L2
namespace L3
open PySem PySem.W PyProof.Rows L2
section
variable{C:Cf}{t:TA}{u:TA3}
inductive uHand_1(K:K3)(ds:List D)(M:Mem):Prop
 |mk:∀(d i:Int)(cs:List Int),ds=[.int d,.int i,.lst (cs.map .int)]->((cs≠[]/\cs.length<=63/\0<=d/\0<=i/\∀c∈cs,0<=c)/\K (.cell M.length) (M++[.hand]))->uHand_1 K ds M
instance Ztf(u:TA3):TE3:=λρ M K=>u ρ M (uHand_1 K)
def Zqw(ha:SimA C Z t u):SimE C Z (tLst t) (Ztf u):=λI α σ H ρ M K Q R E h k =>
 ha I α σ H ρ M _ _ R E h λvs ds I1 α1 H1 M1 s1 p1 R1 r1 h1=>by
  let⟨d,i,cs,rfl,⟨x3,x4,x5,x6,x7⟩,h⟩:=h1;refine Reps.e3 r1 λ_ _ _ a b c=>?_;cases a.inv;cases b.inv;let⟨q,vs,rfl,ec,rc⟩:=c.inv;rw[rc.of_ints cs]at ec;exists(show 3<=Cb by decide),λp hp=>?_;let⟨R2,p2,e2⟩:=R1.cell (o:=.lst [.int d,.int i,.ref q]) (m:=.hand) hp λH' e=>⟨d,i,q,cs,e,ec,x3,x4,x5,x6,x7⟩;exact k _ _ I1 _ _ _ s1 (p1.trans p2) R2 (.cell e2) h
end
end L3
namespace L3
open PySem L2
inductive dRef46(XF Pt:Addr)(pos:Pos)(qn:Str)(ds:List D)(M:Mem)(K:K3):Prop
 |mk:∀(k0 f:Nat)(d:D)(bs:List Int)(q:Fq)(qs zs:List Fq),ds=[.cell f,d,.lst (bs.map .int)]->(M[k0]?=some (.tab Pt pos qn)/\FamAt XF M f zs/\lsOf M d=some ((q::qs).map spD)/\(2<=bs.length/\q.1∈zs.map (·.1)/\zs.length<=100)/\∀M',M<+:M'->K (.bl true) M')->dRef46 XF Pt pos qn ds M K
section
variable{C:Cf}{t:TA}{u:TA3}
inductive dNoF(ds:List D)(M:Mem)(K:K3):Prop
 |mk:∀(d:D)(L:List Pr),ds=[d]->(lsOf M d=some (L.map pD)/\(Free L/\Fits L)/\K .non M)->dNoF ds M K
instance tv(kv:List Key×D):List Key×V:=(kv.1,.non)
def Zp6{k:List Key}{d:D}{kvs:List (List Key×D)}:putK (kvs.map tv) k .non=(putD kvs k d).map tv:=by
 unfold putK putD;rw[show((kvs.map tv).any λz=>decide (z.1=k))=kvs.any λz=>decide (z.1=k)by rw[List.any_map];rfl]
 split
 .rw[Gh,Gh];refine B7 λz _=>?_;show(if(tv z).1=k then _ else tv z)=tv (if z.1=k then _ else z)
  by_cases e:z.1=k
  .rw[Fp e,Fp (show(tv z).1=k from e)];rfl
  .rw[Fo e,Fo (show ¬ (tv z).1=k from e)]
 .rw[Jg];rfl
def Zkp :∀{vs:List (List Key×V)}{kvs:List (List Key×D)},RepT C I α vs kvs->∀k,(valV vs k).isSome=(valV (kvs.map tv) k).isSome
 |_,_,.nil,k=>rfl
 |_,_,.cons (k:=k') _ r,k=>by
  let ih:=Zkp r k;unfold valV at ih⊢;rw[Jk,G7,G7]
  by_cases e:k'=k
  .rw[Fs e,show decide ((tv (k',_)).1=k)=true from Fs e];rfl
  .rw[Ft e,show decide ((tv (k',_)).1=k)=false from Ft e];exact ih
inductive dBeg(ds:List D)(M:Mem)(K:K3):Prop
 |mk:∀(d:D)(ws:List (List Int)),ds=[d]->(lsOf M d=some (ws.map wD)/\(ws.length<64/\∀w∈ws,w.length<=4)/\∀kvs:List (List Key×D),Qi (kvs.map tv) ws->K (.cell M.length) (M++[.dcT kvs]))->dBeg ds M K
instance tSnd(K:Cs):TE:=tOp (rIxT K) (tVar 0) (tC (.int 1))
inductive uSortL_1(Pt:Addr)(pos:Pos)(q:Str)(K:K3)(ds:List D)(M1:Mem):Prop
 |mk:∀(k0:Nat)(d:D)(L:List Pr),M1[k0]?=some (.tab Pt pos q)->ds=[d]->lsOf M1 d=some (L.map pD)->(L.length<64/\(∀p∈L,p.2≠[])/\(L.map (·.2)).Nodup)->(∀S:List Pr,S.Perm L->Qb S->K (.lst (S.map pD)) M1)->uSortL_1 Pt pos q K ds M1
instance Zpe(Pt:Addr)(pos:Pos)(q:Str)(u:TA3):TE3:=λρ M K=>u ρ M (uSortL_1 Pt pos q K)
def Zqa{k0:Nat}(R:Rel C Z I α H M)(hk:M[k0]?=some (.tab Pt pos q)):Za6 Pt pos q H/\I Pt=none:=by
 let⟨P',eP,⟨rfl,ps,ep,tp,cp⟩,iP⟩:=R.get hk;exists⟨ps,ep,tp,cp.imp id λ⟨c,z1,z2⟩=>⟨c,z1,R.sub _ _ z2⟩⟩,iP
def Zi7(hr:SimA C Z t u):SimE C Z (Zkq C.k Pt pos q (tSnd C.k) t) (Zpe Pt pos q u):=λI α σ H ρ M K Q R E h k =>
 hr I α σ H ρ M _ _ R E h λvs ds I1 α1 H1 M1 s1 p1 R1 r1 h1=>by
  let⟨k0,d,L,hk,rfl,e1,⟨h64,hne,nd⟩,h1⟩:=h1;refine Reps.e1 r1 λ_ r1=>?_;let⟨a,vs,rfl,ea,ra⟩:=Pu R1 r1 e1;let⟨tb1,iP⟩:=Zqa R1 hk;let⟨X,m1,m2,m3⟩:=Zk3 (Pp (F:=Zcl H1) (f:=pD) (λv a z=>Zrj R1.sub z) ra);let lX:X.length=L.length:=by rw[<-m2,Ja]
  let rX:∀e∈X,Rep C I1 α1 e.v (pD e.p):=λe he=>by
   let⟨i,hi,rfl⟩:=Gf he;subst m1;subst m2;let:=ra.at (i:=i) (by rw[Ja];exact hi) (by rw[Ja,Ja];exact hi);rw[G3,G3,G3]at this;exact this
  let⟨ps,hP,_,_⟩:=id tb1;exists a,X.map PK3.k,rfl,?_,by rw[Ja];lia,λq hq=>?_,?_,tb1,λH2 q sT hq=>?_,λH2 D L' sT T2 hD pm pw=>?_
  .rw[show(X.map PK3.k).map (·.1)=vs by rw[Gh,<-m1];rfl];exact SqL.of ea
  .let⟨e,he,rfl⟩:=Jn.mp hq;let⟨t,_,_,cw⟩:=m3 e he;exists SqT.of cw,hne e.p (by rw[<-m2];exact Jn.mpr ⟨e,he,rfl⟩)
  .rw[show(X.map PK3.k).map (·.2.2)=L.map (·.2)by rw[Gh,<-m2,Gh];rfl];exact nd
  .let⟨e,he,rfl⟩:=Jn.mp hq;let⟨t,ev,b,_⟩:=m3 e he;exists e.v,rfl,t,_,1,_,ev,rfl,SqT.of (sT _ _ (Pq b hP λz=>by cases z) b),rfl,rfl,rfl
  .let⟨X',pX,rfl⟩:=Zgk pm rfl;let nD:H1 D=none:=by
    cases e:H1 D with
    |none=>rfl
    |some o =>
     let⟨ps2,hP2,_⟩:=id T2;rw[sT _ _ (λz=>by rw[z,hP2]at hD;cases hD) e]at hD;cases hD
   let⟨I',s',R',f⟩:=R1.made hk nD T2 λb o n1 n2 e=>sT b o n2 e;rw[show(X'.map PK3.k).map (·.1)=X'.map (·.v)by rw[Gh];rfl];let⟨R3,s3,e3⟩:=R'.new (o:=.lst (X'.map (·.v))) hD;let pS:(X'.map (·.p)).Perm L:=by have:=pX.map (·.p);rw[m2]at this;exact this
   refine k _ _ _ α1 _ M1 (s1.trans (s'.trans s3)) p1 R3 (.lst e3 ?_) (h1 (X'.map (·.p)) pS (Gv.mpr ((Gv.mp pw).imp λz=>z)));let all:∀{Y:List PK3},(∀e∈Y,Rep C I1 α1 e.v (pD e.p))->Reps C I1 α1 (Y.map (·.v)) ((Y.map (·.p)).map pD):=λ{Y}=>by
    induction Y with
    |nil=>exact λ_=>.nil
    |cons e Y ih=>exact λh=>.cons (h e Jo) (ih λx hx=>h x (Jm _ hx))
   exact(all λe he=>rX e (pX.mem_iff.mp he)).mono (s'.trans s3) (Ji _)
inductive dictPU3(ds:List D)(M:Mem)(K:K3):Prop
 |mk:∀(d:D)(zs:List (List Key×Int)),ds=[d]->lsOf M d=some (zs.map λz=>.tup [.tup (z.1.map kD),.int z.2])->(zs.length<1000/\(zs.map (·.1)).Nodup)->K (.dcT (zs.map λz=>(z.1,.int z.2))) M->dictPU3 ds M K
def Zf3:SimC C Z (S0 C.k) dictPU3:=λI α H M xs ds K Q R r h k=>by
 let⟨d,zs,rfl,e,⟨hl,nd⟩,h⟩:=h;refine Reps.e1 r λ_ r1=>?_;let⟨a,vs,rfl,ea,ra⟩:=Pu R r1 e;let⟨ws,pw,hw,ew⟩:=S4 R zs ra;let lw:ws.length=zs.length:=by have:=congrArg Ho ew;simpa using this
 exists a,vs,_,.dT [],rfl,.inl ea,pw,.inr rfl,λD hD=>⟨_,Zhn hD ws [] ?_ hw,?_⟩
 .rw[Bt];exact Gw (by lia:0+ws.length<=1000) nofun
 .rw[show Tz [] (ws.map λz=>(z.2.1,z.2.2))=zs.map λz=>(z.1,V.int z.2)by rw[ew,Rt _ _ (by rw[Bw,Gh];exact nd),Bw]];let⟨R2,s2,e2⟩:=R.new (o:=.dT (zs.map λz=>(z.1,V.int z.2))) hD;exact k.on s2 R2 (.dcT e2 (N4 zs)) h
inductive dictPP3(ds:List D)(M:Mem)(K:K3):Prop
 |mk:∀(zs:List (Key×D)),ds=[.tup (zs.map λz=>.tup [kD z.1,z.2])]->zs.length<1000->K (.dct (Uz [] zs)) M->dictPP3 ds M K
def Zf4:SimC C Z (S0 C.k) dictPP3:=λI α H M xs ds K Q R r h k=>by
 let⟨zs,rfl,hl,h⟩:=h;refine Reps.e1 r λ_ r1=>?_;let⟨a,vs,rfl,ea,ra⟩:=r1.inv;let⟨ws,pw,rw'⟩:=Tu R zs ra;exists a,vs,_,.dK [],rfl,.inr (R.sub _ _ ea),pw,.inl rfl,λD hD=>⟨_,Zcc _ [] ?_,?_⟩
 .rw[Bt,rw'.len];exact Gw (by lia:0+zs.length<=1000) nofun
 .let⟨R2,s2,e2⟩:=R.new (o:=.dK (Tz [] ws)) hD;exact k.on s2 R2 (.dct e2 ((Nc rw' .nil).mono s2 (Ji _))) h
inductive sortDD3(ds:List D)(M:Mem)(K:K3):Prop
 |mk:∀(kvs:List (Key×D))(ns:List Int),ds=[.dct kvs]->kvs.map (·.1)=ns.map E2->kvs.length<64->(∀ns':List Int,ns'.Perm ns->ns'.Pairwise (·<=·)->K (.lst (ns'.map .int)) M)->sortDD3 ds M K
def Zi8:SimC C Z Zk2 sortDD3:=λI α H M xs ds K Q R r h k=>by
 let⟨kvs,ns,rfl,ek,hl,h⟩:=h;refine Reps.e1 r λ_ r1=>?_;let⟨a,vs,rfl,ea,rv⟩:=r1.inv;let lv:=(RepK.get rv).1;exists a,vs,ns,rfl,R.sub _ _ ea,by rw[Zc8 rv];exact ek,(),λD ns' hD pm pw=>?_;let⟨R4,s4,e4⟩:=R.new (o:=.lst (ns'.map V.int)) hD;exact k _ _ _ α _ M s4 (Ji _) R4 (.lst e4 (.ints _)) (h ns' pm pw)
def Zb9:∀(zs:List Int)(kvs:List (Key×D))(ns:List Int),kvs.map (·.1)=ns.map E2->ns.Nodup ->
  ∃ns':List Int,(Uz kvs (zs.map λz=>((E2 z:Key),D.bl true))).map (·.1)=ns'.map E2/\ns'.Nodup/\∀n,n∈ns'↔n∈ns\/n∈zs
 |[],kvs,ns,e,nd=>⟨ns,e,nd,λn=>by simp⟩
 |z::r,kvs,ns,e,nd=>by
  let hm:(kvs.any λkv=>decide (kv.1=(E2 z:Key)))=decide (z∈ns):=by
   rw[show(kvs.any λkv=>decide (kv.1=(E2 z:Key)))=(kvs.map (·.1)).any λx=>decide (x=E2 z)by rw[List.any_map];rfl,e,List.any_map,Bv,B3,decide_eq_true_iff];exists λ⟨x,h,h2⟩=>My (Fg h2) ▸ h,λh=>⟨z,h,Fs rfl⟩
  show ∃ns':List Int,(Uz (putD kvs (E2 z) (D.bl true)) (r.map _)).map (·.1)=_/\_
  by_cases h:z∈ns
  .let⟨ns',a,b,c⟩:=Zb9 r (putD kvs (E2 z) (D.bl true)) ns (by
    unfold putD;rw[hm,Fp (Fs h),<-e,Gh];refine B7 λkv _=>?_;show(if kv.1=_ then _ else kv).1=kv.1
    split<;>rfl) nd
   exists ns',a,b,λn=>?_;rw[c,Jp];exists λq=>q.imp id .inr,λq=>q.elim .inl λq=>q.elim (λq=>.inl (q ▸ h)) .inr
  .let⟨ns',a,b,c⟩:=Zb9 r (putD kvs (E2 z) (D.bl true)) (ns++[z]) (by
    unfold putD;rw[hm,Fo (by rw[Ft h];exact Jv),Jg,e,Jg];rfl) (By.mpr ⟨nd,by simp,λx hx y hy q=>h (by rw[Jj.mp hy]at q;exact q ▸ hx)⟩)
   exists ns',a,b,λn=>?_;rw[c,Jp,Jt,Jj,or_assoc]
inductive dInitC(Cl Pt:Addr)(pos:Pos)(q:Str)(ds:List D)(M:Mem)(K:K3):Prop
 |mk:∀(x k0:Nat)(d:D)(L:List Pr),ds=[.cell x,d]->((M[x]?=some (.ins Cl [])/\M[k0]?=some (.tab Pt pos q)/\lsOf M d=some (L.map pD))/\(Free L/\Fits L)/\∀(S:List Pr)(kvs:List (List Key×D))(zs:List Int),S.Perm L->Qb S->Qi (kvs.map tv) (S.map (·.2))->Sq zs S ->
  K .non (M.set x (.ins Cl [("pairs",.tup (S.map pD)),("words_by_sign",.dct (Uz [] (S.map prK))),("signs_by_word",.dcT ((S.map λp=>(wk p.2,p.1)).map λz=>(z.1,.int z.2))),("begun",.cell M.length),("word_sizes",.tup (zs.map .int))])++[.dcT kvs]))->dInitC Cl Pt pos q ds M K
abbrev Zbe(K:Cs)(Cl Pt:Addr)(pos:Pos)(q:Str):Sp:=spOf ⟨Cl,K⟩ (dInitC Cl Pt pos q)
def N0(hr:SimA C Z t u):SimE C Z (Zd8 C.c (Zbe C.k C.c Pt pos q) [] E0 t) (Zlw Pt pos q u):=λI α σ H ρ M K Q R E h k =>
 hr I α σ H ρ M _ _ R E h λvs ds I1 α1 H1 M1 s1 p1 R1 r1 h1=>by
  let⟨k0,d,L,hk,rfl,e1,frfi,h1⟩:=h1;intro x dx nx ndx ne;let R2:=R1.same (Zr (o:=.own x) ndx);let⟨R3,p3,e3⟩:=R2.cell (p:=x) (o:=.ins C.c dx []) (m:=.ins C.c []) (by rw[Zk (Cv ne)];exact nx) λH' e=>⟨dx,[],e,.nil⟩;rw[Jz];exists Z,I1,α1++[x],_,_,λd' M'=>d'=.non/\∃(S:List Pr)(kvs:List (List Key×D))(zs:List Int),S.Perm L/\Qb S/\Qi (kvs.map tv) (S.map (·.2))/\Sq zs S/\M'=M1++[.ins C.c [("pairs",.tup (S.map pD)),("words_by_sign",.dct (Uz [] (S.map prK))),("signs_by_word",.dcT ((S.map λp=>(wk p.2,p.1)).map λz=>(z.1,.int z.2))),("begun",.cell (M1.length+1)),("word_sizes",.tup (zs.map .int))]]++[.dcT kvs],R3,.cons (.cell e3) (r1.mono (.refl _) p3),⟨M1.length,k0,d,L,rfl,⟨Yg,Y8 hk,S8 e1⟩,frfi,λS kvs zs pm ri bg sz=>⟨rfl,S,kvs,zs,pm,ri,bg,sz,?_⟩⟩,λv d' I' α' H' M' s p R' r h'=>?_
  .rw[Uc,Jc];rfl
  let⟨rfl,S,kvs,zs,pm,ri,bg,sz,rfl⟩:=h';cases r.inv;let lα:α1.length=M1.length:=R1.len;let eα:α'.take α1.length=α1:=by
   let⟨z,rfl⟩:=p;rw[Gc,B0]
  let T1:=R'.take α1.length (R1.aa.length_le) (by
   rw[lα,Gc,B0];exact R1.wf)
  rw[eα]at T1;rw[lα,Gc,B0]at T1;let⟨I2,s2,R4,f⟩:=T1.full;let xα:x∉α1:=R1.out nx;let ex:α'[M1.length]?=some x:=Po p e3;let⟨⟨dx',vs',ei,rf⟩,_⟩:=R'.cel M1.length x _ ex (by rw[Gc,Gk (Jd _),Nat.sub_self];rfl);let l2:α'.length=M1.length+2:=by rw[R'.len,Jc,Jc];rfl
  obtain⟨b,eb⟩:∃b,α'[M1.length+1]?=some b:=⟨_,Jb ()⟩;let bα:b∉α1:=λhb=>by
   let⟨i,hi,rfl⟩:=Gf hb;let h1:α'[i]?=some α1[i]:=by let⟨z,rfl⟩:=p;rw[Gc,Js hi];exact Jb hi
   let⟨h3,h4⟩:=Jf.mp h1;let⟨h5,h6⟩:=Jf.mp eb;let:=(Bi R'.nd).mp (h4.trans h6.symm);lia
  let⟨⟨k3,e5,r5⟩,_⟩:=R'.cel (M1.length+1) b _ eb (by rw[Gk (by rw[Jc];exact Jd _),Jc,Gj,Nat.sub_self];rfl);cases rf with
  |cons q1 rf=>cases rf with
  |cons q2 rf=>cases rf with
  |cons q3 rf=>cases rf with
  |cons q4 rf=>cases rf with
  |cons q5 rf =>
   cases rf
   skip;rename_i v1 v2 v3 v4 v5
   let⟨n1,v1⟩:=v1;let⟨n2,v2⟩:=v2;let⟨n3,v3⟩:=v3;let⟨n4,v4⟩:=v4;let⟨n5,v5⟩:=v5;let⟨rfl,q1⟩:=q1;let⟨rfl,q2⟩:=q2;let⟨rfl,q3⟩:=q3;let⟨rfl,q4⟩:=q4;let⟨rfl,q5⟩:=q5;let⟨tp,w1,rfl,i1,r1'⟩:=q1.inv;let⟨d1,k1,rfl,i2,r2⟩:=q2.inv;let⟨d2,k2,rfl,i3,r3⟩:=q3.inv;let⟨d3,rfl,i4⟩:=q4.inv;let⟨d4,w5,rfl,i5,r5'⟩:=q5.inv;rw[eb]at i4;cases i4;rw[Reps.of_ints _ r5']at i5;let fr:=frfi.1.perm pm;let wf:=Zd3 fr;exists rfl,k _ _ I2 α1 H' M1 (s1.trans (s.trans s2)) p1 R4 (.code ⟨dx',tp,d1,d2,b,d4,f _ _ ei xα,⟨⟨w1,s2 _ _ i1,Pp (F:=Zcl I2) (f:=pD) (λv a z=>Zrj s2 z) r1'⟩,⟨k1,s2 _ _ i2,λp hp=>?_,λsg hsg=>?_⟩,⟨k2,s2 _ _ i3,?_⟩,⟨k3,f _ _ e5 bα,λw=>?_⟩,⟨zs,s2 _ _ i5,sz⟩⟩⟩) (h1 S pm ri)
   .rcases r2.val (k:=.inl p.1)with⟨z1,_⟩|⟨x',y',z1,z2,z3⟩
    .rw[wf.1 p hp]at z1;cases z1
    .rw[wf.1 p hp]at z1;cases z1;let⟨t,w,rfl,et,rt⟩:=z3.inv;rw[Reps.of_ints _ rt]at et;exists t,z2,s2 _ _ et
   .rcases r2.val (k:=.inl sg)with⟨_,z2⟩|⟨x',y',z1,_,_⟩
    .exact z2
    .rw[wf.2 sg hsg]at z1;cases z1
   .let ndW:((S.map λp=>(wk p.2,p.1)).map (·.1)).Nodup:=by
     rw[Gh];exact Gv.mpr (fr.imp λ{a b}z e=>z.2.1 (by rw[Nr e];exact Ji _))
    rw[RepT.of_ints _ r3,<-Bw (List.map _ _),<-Rt _ _ (by rw[Bw,Gh];exact ndW)];exists λp hp=>Zap _ _ (by rw[Gh];exact ndW) (Jn.mpr ⟨_,Jn.mpr ⟨p,hp,rfl⟩,rfl⟩),λw hw=>?_;rw[Rs _ _ λz hz=>?_]
    .rfl
    .let⟨y,hy,rfl⟩:=Jn.mp hz;let⟨p,hp,rfl⟩:=Jn.mp hy;exact λe=>hw p hp (Nr e)
   .rw[Zkp r5];exact bg w
end
section
inductive dApart(ds:List D)(M:Mem)(K:K3):Prop
 |mk:∀(p q:Pr),ds=[pD p,pD q]->(Zkm p q/\K .non M)->dApart ds M K
def Zet{p q:Pr}(h:Zkm p q):¬ p.2.take (min p.2.length q.2.length)=q.2.take (min p.2.length q.2.length):=λe=>by
 rcases Nat.le_total p.2.length q.2.length with l|l
 .rw[Bn l,Ge]at e;exact h.2.1 (e ▸ B4 _ _)
 .rw[Je6 l,Ge]at e;exact h.2.2 (e ▸ B4 _ _)
def Zqm{w:List Int}{m:Nat}{K:K3}(h:K (wD (w.take m)) M):sl3 (wD w) none (some (m:Int)) M K:=by
 show K (.tup (cut (w.map .int) none (some (m:Int)))) M;rw[Wf,X2];exact h
end
end L3
namespace L2
open PySem PySem.Spec PyProof.Rows PySem.W
section
variable{env:Env}
def Nf:entryFor table "proto.unchain"=some Builtin.«proto.unchain»:=entryFor_of_fast (by kernel_rfl)
def Zd2{e:Ca}{h:Addr}{oh:Obj}{vs:Array Ca}{Q:Ca->Cc->Prop}(eh:s.heap.get? h=some oh)(dh:oh.data=.fields vs)(c2:vs[2]?=some .none)(k:Q .none s) :
  Cg (Cj prog w) A (runValue (.builtin "proto.unchain" ⟨[e,.ref h,.ref h,.bool false],[]⟩)) Q Ex s:=by
 refine wpAny_runValue (Kz Nf ?_);unfold Builtin.«proto.unchain»;dsimp only;refine Fj (Ee eh dh c2 ?_);rw[Fp nofun];show Cg (Cj prog w) (A.under (.builtin "proto.unchain" _)) (ret .none >>= pure) _ _ _;refine Fj (Fk ?_);exact Fk k
def Ze0{e h:Addr}{oh:Obj}{vs ws:Array Ca}{α:Type}{Q:α->Cc->Prop}(hh:A.handled=some (.ref h))(eh:s.heap.get? h=some oh)(dh:oh.data=.fields vs)(c2:vs[2]?=some .none)(he:s.heap.get? e=some oe)(hd:oe.data=.fields ws)(sz:2<ws.size)(ne:h≠e)(k:Ex (.ref e) {s with heap:=s.heap.update e (C9 (·.setIfInBounds 2 (.ref h)))}):Cg (Cj prog w) A (raiseNew (.ref e):Sem α) Q Ex s:=by
 unfold raiseNew;refine Fj (wpAny_handled ?_);rw[hh];dsimp only;rw[Fp (by simp[ne])];refine Fj (Cw (Zd2 eh dh c2 ?_));show Cg (Cj prog w) A (setField (.ref e) 2 (.ref h) >>= λ_=>throw (.ref e)) _ _ s;exact Fj (wpAny_setField he hd sz (wpAny_throw k))
def Zec{x c:Sem Ca}{h:Addr}{oi:Option (Option Ca)}{Q:Flow->Cc->Prop}(hh:A.handled=some (.ref h))(hc:∀s1,Cg (Cj prog w) A c (λv s2=>v=.none/\s2=s1) Ex s1)(hx:Cg (Cj prog w) A x (λv s1=>∃e oe ws oh vs,v=.ref e/\ExcA s1.heap C oi/\s1.heap.get? e=some oe/\oe.cls=.ref C/\oe.data=.fields ws/\ws.size=6/\ws[1]?=some .none/\s1.heap.get? h=some oh/\oh.data=.fields vs/\vs[2]?=some .none/\h≠e /\
   ∀ws' h',ws'.size=6->ws'[1]?=some .none->h'.get? e=some {oe with data:=.fields ws'}->(∀b,b≠e->h'.get? b=s1.heap.get? b)->Ex (.ref e) {s1 with heap:=h'}) Ex s) :
  Cg (Cj prog w) A (raiseStmt env (some x) (some c)) Q Ex s:=by
 unfold raiseStmt;refine Fj (Fw hx (λv s1 h1=>?_) λ_ _ z=>z);let⟨e,oe,ws,oh,vs,rfl,⟨bm,N,nm,q,bs,sn,sub,ab,col,dd,k0,k1,k2,k3,k5,mN,cO,cN,cI,T⟩,he,hcl,hd,sz,w1,eh,dh,c2,ne,hE⟩:=h1;let hB:(Cd C::bm).contains (.type "BaseException")=true:=by rw[List.contains_cons,T.hasType PySem.F.excBase_ValueError.hasBase,Bool.or_true]
 refine Fj (Cw (Fw (hc s1) (λv s2 h2=>?_) λ_ _ z=>z));let⟨rfl,rfl⟩:=h2;refine Fj (Fk ?_);dsimp only;let⟨hp,g,d,tk,os⟩:=s2
 repeat (first|(with_reducible refine C3 he ?_;rw[hcl])|with_reducible refine C3 cO ?_|(with_reducible refine Hs cO ?_;rw[hB])|wp_step)
 let nC:C≠e:=λz=>by
  subst z;rw[show hp.get? C=_ from he]at cO;cases cO;cases hd
 rw[hd];dsimp only;rw[Fp ()];refine wpAny_update he ?_;let d1:=Ez hd (·.setIfInBounds 3 Ca.none);let he1:(hp.update e (C9 (·.setIfInBounds 3 Ca.none))).get? e=some {oe with data:=.fields (ws.setIfInBounds 3 .none)}:=(Cy _ he (Ei d1)).trans (by rw[mapF hd]);refine Fj (wpAny_setField he1 rfl (by simp;lia) ?_);let d2:=Ez (o:={oe with data:=.fields (ws.setIfInBounds 3 .none)}) rfl (·.setIfInBounds 4 (Kp true));let he2:((hp.update e (C9 (·.setIfInBounds 3 Ca.none))).update e (C9 (·.setIfInBounds 4 (Kp true)))).get? e=some {oe with data:=.fields ((ws.setIfInBounds 3 .none).setIfInBounds 4 (.bool true))}:=(Cy _ he1 (Ei d2)).trans (by rw[mapF rfl])
 let oth:∀b,b≠e->((hp.update e (C9 (·.setIfInBounds 3 Ca.none))).update e (C9 (·.setIfInBounds 4 (Kp true)))).get? b=hp.get? b:=λb hb=>(Ch _ _ (Cv hb)).trans (Ch _ _ (Cv hb));let cO2:=(oth C nC).trans cO;let v1:((ws.setIfInBounds 3 .none).setIfInBounds 4 (.bool true))[1]?=some Ca.none:=by simpa[Array.getElem?_setIfInBounds]using w1
 generalize (hp.update e (C9 (·.setIfInBounds 3 Ca.none))).update e (C9 (·.setIfInBounds 4 (Kp true)))=h2 at he2 oth cO2⊢
 repeat (first|(with_reducible refine C3 he2 ?_;dsimp only;rw[hcl])|with_reducible refine Ee he2 rfl v1 ?_|with_reducible refine C3 cO2 ?_|(with_reducible refine Hs cO2 ?_;rw[hB])|wp_step)
 refine Ze0 hh ((oth h ne).trans eh) dh c2 he2 rfl (by simp;lia) ne ?_;let d3:=Ez (o:={oe with data:=.fields ((ws.setIfInBounds 3 .none).setIfInBounds 4 (.bool true))}) rfl (·.setIfInBounds 2 (Cd h));exact hE (((ws.setIfInBounds 3 .none).setIfInBounds 4 (.bool true)).setIfInBounds 2 (.ref h)) _ (by simp;exact sz) (by simpa[Array.getElem?_setIfInBounds]using v1) ((Cy _ he2 (Ei d3)).trans (by rw[mapF rfl])) λb hb=>(Ch _ _ (Cv hb)).trans (oth b hb)
end
structure RoomH(k:Nat)(A:Ht):Prop where
 dp:A.depth+3*k+5<recursionLimit
 un:A.units+16*k+200<Md
def RoomH.make{k:Nat}(r:RoomH (k+1) A)(C:Addr)(us:List Ca)(kw:List (Str×Ca)):RoomH k (A.under (.builtin "type.__call__" ⟨.ref C::us,kw⟩)) :=
 ⟨by have:=r.dp;rw[Q0];lia,by have:=r.un;rw[Qz];lia⟩
structure FnH(P:Eu)(w:Hm)(K:Cs)(mg:Str->Option Ca)(base:Heap)(k:Nat)(f:Addr)(fd:Lj)(ps:List Str)(sp:Sp):Prop where
 len:∀vs H Q E,sp vs H Q E->vs.length=ps.length
 run:∀(A:Ht)(e:Ca)(outer:List Env)(s:Cc)(H:Hp)(args:Args)(us:List Ca)(vs:List V)(Q:VK),A.handled=some e->RoomH k A->Env0 P w K mg base A outer s H->Jdj s fd args (ps.zip us)->Vals vs us->sp vs H Q E0 ->
  Hn (Cj P w) A (.call (.ref f) args) (CR CX0 outer P w H s Q E0) s
abbrev cxH(P:Eu)(w:Hm)(K:Cs)(mg:Str->Option Ca)(base:Heap)(N:List Str)(qual:Str)(scope:Scope)(f:Addr)(cd:Ca)(A:Ht)(outer:List Env)(s:Cc)(H:Hp)(e:Ca):Cx:=(cxOf CX0 P w K mg base N qual scope f cd ({A with handled:=none}:Ht) outer s H E0).mrk e
def Zr6{base:Heap}{k:Nat}{f:Addr}{params:Arguments}{scope:Scope}{dV kV:Ca}{osl:Array (Option Ca)}{N ps:List Str}{sp:Sp}(lk:K.lookup f=some ⟨oc,od,.func (L9 name qual params body scope dV kV doc pm an cdv ct),osl⟩)(hcd:Ja4 K cdv qual=true)(S:FnScope N ps scope)(len:∀vs H Q E,sp vs H Q E->vs.length=ps.length)(hbody:∀(A:Ht)(outer:List Env)(s:Cc)(H:Hp)(vs:List V)(Q:VK)(e:Ca),sp vs H Q E0 ->
   ∃t,PSs (cxH P w K mg base N qual scope f cdv A outer s H e) body t/\t {nx:=λ_ H'=>Q .non H',rt:=Q} (Vj N vs) H) :
  FnH P w K mg base (k+1) f (L9 name qual params body scope dV kV doc pm an cdv ct) ps sp:=by
 refine⟨len,λA ee outer s H args us vs Q hh hr e0 hb r hsp=>?_⟩;let hl:=len _ _ _ _ hsp;let KX:K.In s.heap:=e0.mod.kin.keeps λb o e=>(e0.bs b o e).1;let lim:s.heap.NoLimit:=e0.mod.nolimit.keeps λb o e=>(e0.bs b o e).1;let hkind:∀y∈ps.zip us,scope.names.lookup y.1=some .local\/(scope.names.lookup y.1=some .cell/\((Ha (s.heap.objs.size+1) scope.names []).lookup y.1).isSome=true):=λ⟨n,v⟩hy=>by
  rcases S.par n (Lr hy).1 with q|q
  .exact .inl q
  .exact .inr ⟨q,Jb8 _ _ _ (.inl q)⟩
 let dep:A.depth<recursionLimit:=by have:=hr.dp;lia
 refine codeAny_call_function dep (KX _ _ lk) rfl S.co S.gen rfl (W.codeRec_of KX hcd) (hb _ _ _ _ ?_);refine Ke S.kind hkind λenv he s1 x=>?_;subst he;refine⟨lim.keeps x.toInCall.keep,codeAny_func ?_⟩;let⟨t,ht,hq⟩:=hbody A outer s H vs Q ee hsp;let e1:Env0 P w K mg base ({A with handled:=none}:Ht) outer s H:=⟨e0.frames,e0.mod,e0.bs,e0.bsz,e0.funs,e0.frf,e0.hok,e0.bare⟩;let I:=(Re (E:=E0) (CX:=CX0) (A:={A with handled:=none}) (f:=f) (cd:=cdv) (qual:=qual) S rfl e1 hl r x).mrk ee;let eA:(({A with handled:=none}:Ht).deeper (E4 qual scope s.heap.objs.size f cdv)).mark (some ee)=A.deeper (E4 qual scope s.heap.objs.size f cdv):=by
  let⟨hd,dp,fr,gu,un⟩:=A;cases hh;rfl
 let z:=ht [] s1 (Vj N vs) H _ I hq;dsimp only[cxH,Cx.mrk]at z;let z2:Cg (Cj P w) ((({A with handled:=none}:Ht).deeper (E4 qual scope s.heap.objs.size f cdv)).mark (some ee)) (execs body (E4 qual scope s.heap.objs.size f cdv)) _ _ s1:=z;rw[eA]at z2;refine Fw z2 (λfl s' hs=>?_) λe s' hs=>hs.elim;let fin:∀{σ':St}{H':Hp}{v:V}{u:Ca},Inv (cxH P w K mg base N qual scope f cdv A outer s H ee) [] σ' H' s'->RelV v u->Q v H'->CE outer P w H s Q u s' :=
  λ{σ' H' v u}J rv q=>⟨v,H',J.os,J.bare,J.base,J.hok,rv,q⟩
 cases fl with
 |ret u =>
  let⟨v,σ',H',J,rv,q⟩:=hs;exact fin J rv q
 |next =>
  let⟨σ',H',J,q⟩:=hs;exact fin (v:=V.non) (u:=Ca.none) J rfl q
 |brk =>
  let⟨_,_,_,q⟩:=hs;exact Cq q
 |cont =>
  let⟨_,_,_,q⟩:=hs;exact Cq q
instance RxH(P:Eu)(w:Hm)(K:Frag)(mg:Str->Option Ca)(base:Heap)(x:Str)(C:Addr)(k:Nat)(ps:List Str)(sp:Sp):Prop :=
 ∃fI fd,XCl K C fI/\Wu K C=some (some (.ref fI))/\FnH P w K mg base k fI fd ps sp/\mg x=some (.ref C)/\W2 K fd ps []
section
variable{k:Nat} 
def Zji{ee:Ca}{R:Addr->Hp->Prop}(xc:XCl X.K C fI)(xi:Wu X.K C=some (some (.ref fI)))(F:FnH X.prog X.w X.K X.mg X.base k fI fd ps sp)(hr:RoomH (k+1) X.A)(hh:X.A.handled=some ee)(hb:W2 X.K fd ps [])(I:Inv X pq σ H s)(r:Vals vs us)(sz:us.length<=Cb)(h:∀ea,H ea=none->sp (.ref ea::vs) (upd H ea (.ext (excN ea C none))) (λv H2=>v=.non/\R ea H2) E0) :
  Cg (Cj X.prog X.w) X.A (call (.ref C) us) (λu s'=>∃ea H2,u=.ref ea/\Inv X pq σ H2 s'/\s.heap.objs.size<=ea/\R ea H2) X.xe s:=by
 let hq:=h (s.heap.objs.size+1) (I.hok.fresh (G1 _));obtain⟨oI,lI,tI⟩:∃o,X.K.lookup fI=some o/\o.cls=.type "function":=by
  let z:Jgq (λx=>x.cls) (X.K.lookup fI)=some (.type "function"):=xc.fn;let⟨o,e,c⟩:=Bu.mp z;exists o,e,c
 let fo:=I.kIn _ _ lI;let⟨hp,g,d,t,os⟩:=s;refine Zdz (Zhl I.kIn xc.ei xi) fo tI sz λh' hm=>?_;let⟨tt,h1,h2,h3⟩:=hm.there;let I2:Inv X pq σ (upd H (hp.objs.size+1) (.ext (excN (hp.objs.size+1) C none))) ⟨h',g,d,t,os⟩:=I.laid (a:=hp.objs.size+1) (h':=h') (t':=t) hm.keeps (G1 _) (excN.ok ⟨_,_,h1,rfl,rfl,rfl,rfl,rfl,rfl⟩);let r2:Vals (V.ref (hp.objs.size+1)::vs) (Cd (hp.objs.size+1)::us):=.cons rfl r;let hl:(Cd (hp.objs.size+1)::us++[]).length=ps.length:=by
  let e:=r2.length;rw[F.len _ _ _ _ hq]at e;rw[Jz];exact e.symm
 let bb:=hb ⟨h',g,d,t,os⟩ (Cd (hp.objs.size+1)::us) I2.kIn hl;rw[Jz]at bb;refine E7 (Hk (F.run _ ee X.stack _ _ ⟨Cd (hp.objs.size+1)::us,[]⟩ (Cd (hp.objs.size+1)::us) _ _ ?_ (hr.make C us []) (I2.env0.make C us []) bb r2 hq) λr s' hq'=>?_)
 .exact hh
 cases r with
 |error e=>exact Cq hq'
 |ok fl =>
  cases fl with
  |ret u =>
   let⟨v,H',I3,rv,hv,q⟩:=I2.after hq';subst hv;obtain rfl:u=Ca.none:=rv;exists rfl,_,H',rfl,I3,G1 _,q
  |next=>exact Cq hq'
  |brk=>exact Cq hq'
  |cont=>exact Cq hq'
end
instance off(H:Hp)(a:Addr):Hp:=λb=>if b=a then none else H b
def Ta{a:Addr}:off H a a=none:=Fp rfl
def Wm{a b:Addr}(h:b≠a):off H a b=H b:=Fo h
def Zdj{a b:Addr}(h:off H a b=some o):H b=some o/\b≠a:=by
 by_cases e:b=a
 .rw[e,Ta]at h;cases h
 .rw[Wm e]at h;exists h,e
def Ud{a b:Addr}(h:H b=none):off H a b=none:=by
 by_cases e:b=a
 .rw[e,Ta]
 .rw[Wm e];exact h
section
def Inv.unpin{p:Addr×Obj}(I:Inv X (p::pq) σ H s):Inv X pq σ H s :=
 ⟨I.ok,I.os,I.bare,I.base,I.loc,I.cell,I.free,I.freeC,λq hq=>I.pin q (by
  rcases Jt.mp hq with z|z
  .exact Gs _ z
  .exact Jl _ (Jm _ z)),I.hok,I.len⟩
def Inv.pinT{ob:Obj}(I:Inv X pq σ H s)(fp:FpOk X pq H T)(eT:s.heap.get? T=some ob)(hc:∀v,ob.data≠.cell v):Inv X ((T,ob)::pq) σ H s :=
 ⟨I.ok,I.os,I.bare,I.base,I.loc,I.cell,I.free,I.freeC,λq hq=>by
  rcases Jt.mp hq with z|z
  .exact I.pin q (Gs _ z)
  .rcases Jp.mp z with z|z
   .rw[z];exists eT,fp.1,fp.2.1,fp.2.2.1,hc
   .exact I.pin q (Jl _ z),I.hok,I.len⟩
def Inv.hold{vs:Array Ca}{φ:Heap->Prop}(I:Inv X pq σ H s)(hx:X.ex=[])(hea:H ea=some (.ext φ))(eo:s.heap.get? ea=some oe)(od:oe.data=.fields vs):Inv X ((ea,oe)::pq) σ (off H ea) s:=by
 let nf:ea∉X.fs:=λz=>by
  let⟨_,o,ho,hnf⟩:=I.ok.funs.mem z;let h1:=I.stkFree ea (by rcases I.ok.stk with e|⟨e,_⟩<;>rw[e]<;>first|exact z|exact(show ea∈frs (X.env::X.outer)from by unfold frs;rw[Ko];split<;>first|exact z|exact List.mem_cons_of_mem _ z));rw[h1]at hea;cases hea
 exists I.ok,I.os,I.bare,⟨I.base.keep,I.base.slot,λb o q n hb=>Ud (I.base.free b o q n hb),I.base.there,λb xs q=>?_,λb o u q=>?_,λb ps q=>?_⟩,I.loc,I.cell,Ud I.free,λx c e=>Ud (I.freeC x c e),λq hq=>?_,λb ob q=>?_,I.len
 .let z:=I.base.tups b xs q;rw[Wm (λe=>by rw[e,hea]at z;cases z)];exact z
 .let z:=I.base.frzs b o u q;rw[Wm (λe=>by rw[e,hea]at z;cases z)];exact z
 .let⟨m,z⟩:=I.base.tbls b ps q;exact⟨m,by rw[Wm (λe=>by rw[e,hea]at z;cases z)];exact z⟩
 .rcases Jt.mp hq with z|z
  .let⟨a,b,c⟩:=I.pin q (Gs _ z);exists a,Ud b,c
  .rcases Jp.mp z with z|z
   .rw[z];exact⟨eo,Ta,(λe=>by rw[show ea=_ from e,I.free]at hea;cases hea),nf,λv z=>by rw[od]at z;cases z⟩
   .let⟨a,b,c⟩:=I.pin q (Jl _ z);exists a,Ud b,c
 .let⟨q,nb⟩:=Zdj q;refine(I.hok b ob q).stay (λc v hc r=>r) (λc z=>?_) λc xs z=>?_
  .rw[Wm (λe=>by rw[e,hea]at z;cases z)];exact z
  .rw[Wm (λe=>by rw[e,hea]at z;cases z)];exact z
end
section
variable{M:Jfc} 
def Zjz{base:Heap}{env:Env}{outer:List Env}{vs:Array Ca}{Q:Unit->Cc->Prop}(fr:A.frames=some (env::outer))(ff:s.heap.FunFrames base (env::outer))(ef:env.frame=some L)(eo:s.heap.get? ea=some oe)(od:oe.data=.fields vs)(v1:vs[1]?=some .none)(k:∀h' T,Noted (frs (env::outer)) ea T oe (Ew L) s.heap h'->Q ⟨⟩ {s with heap:=h'}) :
  Cg M A (Ey (.ref ea) env) Q Ex s:=by
 let sz:1<vs.size:=(Gm.mp v1).1;unfold Ey;simp only[ef];refine Fj (Ee eo od v1 ?_);rw[Fo nofun];exact Sj fr ff ef eo od sz k
def Zbt{env:Env}{Q:Unit->Cc->Prop}(ef:env.frame=some L)(fl:FlyV ea T (Ew L) s.heap)(k:Q ⟨⟩ s):Cg M A (Ey (.ref ea) env) Q Ex s:=by
 let⟨oe,vs,oT,ts,e1,d1,v1,e2,d2,t3,ne⟩:=fl;unfold Ey;simp only[ef];refine Fj (Ee e1 d1 v1 ?_);rw[Fp (show(Cd T != Ca.none)=true by simp)];refine Fj (Ee e2 d2 t3 ?_);rw[Fp (by simp[Ew])];exact Fk k
def Zan{v:Ca}{Q:Unit->Cc->Prop}(fl:FlyV ea T v s.heap)(k:∀h',(∀b o,b≠T->s.heap.get? b=some o->h'.get? b=some o)->FlyV ea T (Ew L) h'->Q ⟨⟩ {s with heap:=h'}):Cg M A (Kb (.ref ea) (some L)) Q Ex s:=by
 let⟨oe,vs,oT,ts,e1,d1,v1,e2,d2,t3,ne⟩:=fl;let sz:3<ts.size:=(Gm.mp t3).1;unfold Kb;refine Fj (Ee e1 d1 v1 ?_);rw[Fp (show(Cd T != Ca.none)=true by simp)];refine wpAny_setField e2 d2 sz (k _ (λb o hb e=>by rw[Ch _ _ (Cv hb)];exact e) ?_);let dd:=Ez d2 (·.setIfInBounds 3 (Ew L));exact⟨oe,vs,_,_,by rw[Ch _ _ ne];exact e1,d1,v1,Cy _ e2 (Ei dd),dd,by rw[Gn,Fp sz],ne⟩
end
section
variable{env:Env}{R:Jdr->Cc->Prop}
def Zfi{e:Ca}{n:Str}{b0:Stmt}(h:Cg (Cj prog w) A (Kb e none) (λ_ s1=>Cg (Cj prog w) A (bindName env n e) (λ_ s2=>Cg (Cj prog w) A (execs (b0::body) env) (λ_ _=>False)
   (λx s3=>Cg (Cj prog w) A (Ey x env) (λ_ s4=>Cg (Cj prog w) A (do bindName env n .none;E1 env n pos)
    (λ_ s5=>Cg (Cj prog w) A (passOn "try.except-as" x env:Sem Flow) (λ_ _=>False) (notedBy (Cj prog w) A env λx s'=>R (.error x) s') s5) (λ_ _=>False) s4) (λ_ _=>False) s3) s2) (λ_ _=>False) s1) (λ_ _=>False) s) :
  Hn (Cj prog w) A (.handlers e [.ExceptHandler none (some n) (b0::body) pos] env) R s:=by
 refine Lw ?_;show Cg _ A (do return Fin.done (<-(handleWith e env [.ExceptHandler none (some n) (b0::body) pos]).onRaise (λx=>do Ey x env;Jc1 x))) _ _ s;refine Fj (wpAny_noted ?_);unfold handleWith;refine Fj (Ej (Fj (Fw h (λ_ s1 h1=>?_) λ_ _ z=>z.elim)));refine Fj (Fw h1 (λ_ s2 h2=>?_) λ_ _ z=>z.elim);refine Fj (Kx (Fw h2 (λf s3 h3=>h3.elim) λx s3 h3=>?_));refine Fj (Fw h3 (λ_ s4 h4=>?_) λ_ _ z=>z.elim);refine Fj (Cw (wpAny_onRaise (Fw h4 (λ_ s5 h5=>?_) λ_ _ z=>z.elim)));exact Fw h5 (λ_ _ hf=>hf.elim) λ_ _ y=>y
end
instance Zco(X:Cx)(E:XK):Prop:=∀{pq:List (Addr×Obj)}{σ:St}{H:Hp}{s:Cc}{ea C T:Addr}{d:Option Addr}{v:Ca},Inv X pq σ H s->H ea=some (.ext (excP ea C d))->X.s₀.heap.objs.size<=ea->FpOk X pq H T->FlyV ea T v s.heap->E (.ref C) d H->X.xe (.ref ea) s
instance Zp8(K:Frag)(Dc Cn:Addr)(j:Nat)(f g:Str)(E:XK)(thr:TH):TH:=λC d ea D σ H=>∃b,Eo K C (.ref Dc)=some b/\if b=true then ∃z n dd fI fs,σ[j]?=some (some (.int z))/\XCl K C fI/\Cu K (.ref C) f=some none/\d=some dd/\H dd=some (.ext (xdP dd fs))/\fs.lookup f=some (.int n) /\
 (∀e2 d2,H e2=none->H d2=none->d2≠e2->E (.ref Cn) (some d2) (upd (upd H d2 (.ext (xdP d2 [(g,.int (z+n))]))) e2 (.ext (excP e2 Cn (some d2)))))else thr C d ea D σ H
instance excT(ea C T:Addr)(d:Option Addr)(h:Heap):Prop:=∃oe vs,h.get? ea=some oe/\oe.cls=.ref C/\oe.dict=d/\oe.data=.fields vs/\vs.size=6/\vs[1]?=some (.ref T)
def excT.ok{d:Option Addr}(x:excT ea C T d h):Yv P w H h ea (.ext (excT ea C T d)):=by
 let⟨oe,vs,e,r⟩:=id x;exists x,⟨oe,e⟩,λh1 h2⟨o1,v1,e1,r1⟩k=>⟨o1,v1,k _ e1,r1⟩
def Room.hh{k:Nat}(r:Room k A):RoomH k A:=⟨r.dp,r.un⟩
section
variable{E:XK}{Cn:Addr}{c n a x f g:Str}{k:Nat}{ap np2 fp bp xp kp rpos:Pos}{kk:Nat}{rest:List Ll} 
def Ziy{dd:Addr}{vs:Array Ca}{fs:List (Str×V)}{z m:Int}{Q:Ca->Cc->Prop}(I:Inv X ((ea,oe)::pq) σ H s)(hi:X.N[i]?=some n)(hvi:Vis X.env.scope n)(hj:X.N[j]?=some a)(hvj:Vis X.env.scope a)(hda:(a==("__debug__":Str))=false)(hca:(a==("__classdict__":Str))=false)(hdn:(n==("__debug__":Str))=false)(hcn:(n==("__classdict__":Str))=false)(hab:E9 (.Name n np2) f X.env (eval (.Name n np2) X.env)=eval (.Name n np2) X.env)(sz:σ[j]?=some (some (.int z)))(si:σ[i]?=some (some (.ref ea)))(cl:oe.cls=.ref C)(od:oe.dict=some dd)(ov:oe.data=.fields vs)(xc:XCl X.K C fI)(na:Cu X.K (.ref C) f=some none)(hd:H dd=some (.ext (xdP dd fs)))(lk:fs.lookup f=some (.int m))(k:∀s' u,Inv X ((ea,oe)::pq) σ H s'->RelV (.int (z+m)) u->Q u s'):Cg (Cj X.prog X.w) X.A (eval (.BinOp (.Name a ap) .Add (.Attribute (.Name n np2) f fp) bp) X.env) Q X.xe s:=by
 refine wpAny_BinOp (thn (Zgm hj hvj hda hca _ s σ H (λy H1=>y=.int z/\H1=H) I ⟨_,sz,rfl,rfl⟩) λv s1 hz=>?_);let⟨y,H1,I1,r1,hy,hH⟩:=hz;subst hy hH;refine Zch hab (thn (Zgm hi hvi hdn hcn _ s1 σ H1 (λy H2=>y=.ref ea/\H2=H1) I1 ⟨_,si,rfl,rfl⟩) λu s2 hz=>?_);let⟨y,H2,I2,r2,hy,hH⟩:=hz;subst hy hH;obtain rfl:u=Cd ea:=r2;let⟨p1,_⟩:=I2.pin (ea,oe) (Jl _ Jo);let⟨⟨mA,n1,rr,w1⟩,_,_⟩:=I2.hok dd _ hd;let⟨u',hu,ru⟩:=RelO.some_of (v:=.int m) (o:=mA f) (by rw[<-lk];exact rr f);refine Zhg I2.kIn xc.hd xc.bx xc.ga xc.gt na p1 cl od ov n1 hu (Rp ru) ?_;let⟨t,rfl⟩:=r1
 let⟨t',rfl⟩:=ru;exact add_int (k _ _ ((I2.tok _).tok _) ⟨_,rfl⟩)
def Inv.release{φ:Heap->Prop}{H0:Hp}{s0:Cc}(I0:Inv X pq σ0 H0 s0)(hx:X.ex=[])(h0:H0 ea=some (.ext φ))(I:Inv X ((ea,oe)::pq) σ (off H ea) s)(hea:H ea=some (.ext φ))(ok:Yv X.prog X.w H s.heap ea (.ext φ)):Inv X pq σ H s:=by
 let J:=I.unpin;let on:∀{b:Addr},b≠ea->off H ea b=none->H b=none:=λ{b}hb z=>by rw[Wm hb]at z;exact z
 let up:∀{b:Addr}{o:HO},off H ea b=some o->H b=some o:=λ{b o}z=>(Zdj z).1;let apart:∀{b:Addr},H0 b=none->b≠ea:=λ{b}z e=>by rw[e,h0]at z;cases z
 exists J.ok,J.os,J.bare,⟨J.base.keep,J.base.slot,λb o q n hb=>on (apart (I0.base.free b o q n hb)) (J.base.free b o q n hb),J.base.there,λb xs q=>up (J.base.tups b xs q),λb o u q=>up (J.base.frzs b o u q),λb ps q=>?_⟩,J.loc,J.cell,on (apart I0.free) J.free,λx c e=>on (apart (I0.freeC x c e)) (J.freeC x c e),λp hp=>?_,λb ob q=>?_,J.len
 .let⟨m,z⟩:=J.base.tbls b ps q;exists m,up z
 .let⟨a,b,c⟩:=J.pin p hp;exists a,on (apart (I0.pin p hp).2.1) b,c
 .by_cases e:b=ea
  .subst e;rw[hea]at q;cases q;exact ok
  .exact(J.hok b ob (by rw[Wm e];exact q)).stay (λc v hc r=>r) (λc z=>up z) λc xs z=>up z
def Zpb{a:Addr}(h:H a=some o):upd H a o=H:=funext λb=>by
 by_cases e:b=a
 .rw[e,Zi,h]
 .rw[Zk e]
def Zby{ee:Ca}{e2 d:Addr}{ws:Array Ca}(fx:Zco X E)(hst:X.stack=X.env::X.outer)(hf:X.env.frame=some L)(hN:X.N.Nodup)(hi:X.N[i]?=some n)(hk:X.env.scope.names.lookup n=some .local)(iX:X.Ok)(hiσ:i < σ.length)(I:Inv (X.mrk ee) pq (σ.set i (some v)) H s)(h2:H e2=some (.ext (excP e2 Cn (some d))))(eo:s.heap.get? e2=some oe)(oc:oe.cls=.ref Cn)(odd:oe.dict=some d)(od:oe.data=.fields ws)(wz:ws.size=6)(w1:ws[1]?=some .none)(lea:X.s₀.heap.objs.size<=e2)(q:E (.ref Cn) (some d) H) :
  Cg (Cj X.prog X.w) (X.A.mark (some ee)) (Ey (.ref e2) X.env) (λ_ s4=>Cg (Cj X.prog X.w) (X.A.mark (some ee)) (do bindName X.env n .none;E1 X.env n pos)
   (λ_ s5=>Cg (Cj X.prog X.w) (X.A.mark (some ee)) (PySem.passOn "try.except-as" (.ref e2) X.env:Sem Flow) (λ_ _=>False) (notedBy (Cj X.prog X.w) (X.A.mark (some ee)) X.env λx s'=>cameBackBy (Cj X.prog X.w) X.A X.env X.xe x s') s5) (λ_ _=>False) s4) (λ_ _=>False) s:=by
 refine Zjz (base:=X.base) (outer:=X.outer) (by have:=I.ok.frames;rw[show(X.mrk ee).stack=_ from hst]at this;exact this) (by have:=I.stack;rw[show(X.mrk ee).stack=_ from hst]at this;exact this) hf eo od w1 λh' T nt=>?_;let⟨ob,ts,eT,dT,t3⟩:=id nt.tb;let sz:1<ws.size:=by lia
 let ex:=nt.exc;rw[mapF od]at ex;let g:GoneV (frs (X.mrk ee).stack) e2 none oe ws (Ew L) s.heap h':=by
  rw[show(X.mrk ee).stack=_ from hst];exists λb o hb hne _ q=>nt.keep b o hb hne q,λb o hne _ q=>nt.slot b o hne q,T,_,ob,ts,nt.new,ex,by simp,by rw[Gn,Fp sz],eT,dT,t3,nt.ne
 let I1:=I.notedV h2 eo od (λT z=>by cases z) g;let fp:FpOk (X.mrk ee) pq H T:=I.fpOk nt.new (I.hok.fresh nt.new);let I2:=I1.pinT fp eT (λv z=>by rw[dT]at z;cases z);let I3:=I2.write (x:=e2) (e:=e2) (h':=h') (t':=s.toks) (o:=.ext (excT e2 Cn T (some d))) (by rw[h2];exact Ek) (.inl rfl) (λb u _ z=>z) ⟨_,ex⟩ (excT.ok ⟨_,_,ex,oc,odd,rfl,by simp;exact wz,by rw[Gn,Fp sz]⟩);refine Fj (wpAny_bindName (Wk (X:=X.mrk ee) (v:=.non) I3 hN hi (.inl hk) rfl (λs1 I4=>?_) (.inr hk)));unfold E1;rw[Fd]at I4;refine wpAny_onRaise (Zcu (X:=X.mrk ee) I4 hiσ hi hN hk λs2 I5=>?_)
 let⟨⟨o3,w3,x1,x2,x3,x4,x5,x6⟩,_,_⟩:=I5.hok e2 _ Zi;let⟨y1,_⟩:=I5.pin (T,ob) (Jl _ Jo);let fl:FlyV e2 T (Ew L) s2.heap:=⟨o3,w3,ob,ts,x1,x4,x6,y1,dT,t3,nt.ne⟩;unfold PySem.passOn;refine Fj (Ee x1 x4 x6 ?_);rw[Fo (by simp)];rw[hf];let I6:=I5.unpin;let fpT:FpOk (X.mrk ee) pq (upd H e2 (.ext (excT e2 Cn T (some d)))) T:=⟨by rw[Zk nt.ne];exact fp.1,fp.2⟩;let⟨g0,g1,g2,g3,g4,g5⟩:=id fpT;refine Fj (Zan fl λh6 k6 fl6=>?_);let I7:=I6.turned (t':=s2.toks) (h':=h6) k6 g0 g1 g3 g4 g5;refine wpAny_throw ?_;show Cg _ _ (Ey (.ref e2) X.env) _ _ _;refine Zbt hf fl6 ?_
 unfold cameBackBy;let⟨o7,w7,t7,s7,z1,z2,z3,z4⟩:=id fl6;refine Fj (Ee z1 z2 z3 ?_);rw[Fo (by simp)];rw[hf];refine Zan fl6 λh8 k8 fl8=>?_;let I8:=I7.turned (t':=s2.toks) (h':=h8) k8 g0 g1 g3 g4 g5;let⟨⟨o9,w9,n1,n2,n3,n4,n5,n6⟩,_,_⟩:=I8.hok e2 _ Zi;let I9:=I8.write (x:=e2) (e:=e2) (h':=h8) (t':=s2.toks) (o:=.ext (excP e2 Cn (some d))) (by rw[Zi];exact Ek) (.inl rfl) (λb u _ z=>z) ⟨_,n1⟩ (excP.ok ⟨_,_,n1,n2,n3,n4,n5⟩);rw[Pi,Zpb h2]at I9;exact fx (I9.unmrk iX) h2 lea fp fl8 q
def Zr4(fx:Zco X E)(hex:X.ex=[])(hst:X.stack=X.env::X.outer)(hf:X.env.frame=some L)(ca:Cau X.K X.mg c Dc)(hg:Gl X c)(hN:X.N.Nodup)(hi:X.N[i]?=some n)(hk:X.env.scope.names.lookup n=some .local)(hj:X.N[j]?=some a)(hvj:Vis X.env.scope a)(hji:i≠j)(R:RxH X.prog X.w X.K X.mg X.base x Cn k ps (spX1 Cn g))(hr:RoomH (k+1) X.A)(hgx:Gl X x)(hr':HS true X rest thr)(hab:E9 (.Name n np2) f X.env (eval (.Name n np2) X.env)=eval (.Name n np2) X.env)(hd:(c==("__debug__":Str))=false:=by decide)(hdx:(x==("__debug__":Str))=false:=by decide)(hda:(a==("__debug__":Str))=false:=by decide)(hca:(a==("__classdict__":Str))=false:=by decide)(hdn:(n==("__debug__":Str))=false:=by decide)(hcn:(n==("__classdict__":Str))=false:=by decide)(he:Cp [(.BinOp (.Name a ap) .Add (.Attribute (.Name n np2) f fp) bp:Expr)] X.env=[(false,eval (.BinOp (.Name a ap) .Add (.Attribute (.Name n np2) f fp) bp) X.env)]:=by rfl) :
  HS true X (.ExceptHandler (some (.Name c np)) (some n) [.Raise (some (.Call (.Name x xp) [.BinOp (.Name a ap) .Add (.Attribute (.Name n np2) f fp) bp] [] cpos)) (some (.Constant .none kk kp)) rpos] pos::rest) (Zp8 X.K Dc Cn j f g E thr):=by
 intro pq s σ H ea C T d D I hea fl fp h;let⟨b,hb,h⟩:=h;refine Ly (Lb ?_) (by intro q;cases q);let J:=I.mrk (.ref ea);refine Wd (X:=X.mrk (.ref ea)) J hg ca.mg ?_ hd;let⟨⟨oe,vs,e1,e2,e3,e4,e5⟩,_,_⟩:=I.hok ea _ hea;refine U0 I.kIn ca.ty ca.bx e1 e2 hb ?_;cases b with
 |false=>exact hr' pq s σ H ea C T d D I hea fl fp h
 |true =>
  let⟨z,m,dd,fI,fs,hz,xc,na,rfl,hdd,lk,hE⟩:=h;let⟨oe',vs',oT,ts,f1,d1,v1,f2,d2,t3,ne,c2⟩:=fl;rw[e1]at f1;cases f1;rw[e4]at d1;cases d1;let c2:=c2 rfl;let Jh:=J.hold hex hea e1 e4;let fpT:FpOk (X.mrk (.ref ea)) ((ea,oe)::pq) (off H ea) T:=⟨Ud fp.1,fp.2.1,fp.2.2.1,fp.2.2.2.1,fp.2.2.2.2.1,λp hp=>by
   rcases Jt.mp hp with q|q
   .exact fp.2.2.2.2.2 p (Gs _ q)
   .rcases Jp.mp q with q|q
    .rw[q];exact Cv ne
    .exact fp.2.2.2.2.2 p (Jl _ q)⟩
  refine Zfi ?_;refine Lh e1 e4 v1 f2 d2 (Gm.mp t3).1 ?_;let⟨g0,g1,g2,g3,g4,g5⟩:=fpT;let J1:=Jh.turned (t':=s.toks) (h':=s.heap.update T (C9 (·.setIfInBounds 3 .none))) (λb o hb e=>by rw[Ch _ _ (Cv hb)];exact e) g0 g1 g3 g4 g5;refine wpAny_bindName (Wk (X:=X.mrk (.ref ea)) (v:=.ref ea) J1 hN hi (.inl hk) rfl (λs2 J2=>?_) (.inr hk));let hiσ:i < σ.length:=by rw[I.len];exact(Jf.mp hi).1
  refine Ld (Fw (Q:=λ_ _=>False) ?_ (λ_ _ z=>z.elim) λ_ _ z=>z);rw[arm_exec_Raise];let⟨fI',fd,xc',xi,F,hm,hbd⟩:=R;refine Fj (Ej (Zec (C:=Cn) (oi:=Wu X.K Cn) (h:=ea) rfl (λs1=>Fj (Ja0 (Fj (Ej (Fk ⟨rfl,rfl⟩))))) ?_));refine Fj (Fw ?_ (λv s3 h3=>Fj (Ej (Fk h3))) λ_ _ z=>z);refine Eb (Wd (X:=X.mrk (.ref ea)) J2 hgx hm ?_ hdx);let ls2:(σ.set i (some (V.ref ea)))[j]?=some (some (.int z)):=by rw[Gp hji];exact hz
  let ndd:dd≠ea:=λe=>by
   rw[e,hea]at hdd;let⟨⟨mA,⟨o',_,_,a1,a2,_⟩,_,_⟩,_,_⟩:=I.hok ea _ (hea.trans hdd);rw[e1]at a1;cases a1;rw[e4]at a2;cases a2
  let hdd2:off H ea dd=some (.ext (xdP dd fs)):=by rw[Wm ndd];exact hdd
  refine Kr (h₀:=X.base) J2.ok.mod.kin xc'.kp ?_ he (by rfl);rw[he];show Cg _ _ (spliced ((false,eval _ X.env)::Kg cpos [])) _ _ _;refine L8 (Fw (Ziy (X:=X.mrk (.ref ea)) (Q:=λu s3=>Inv (X.mrk (.ref ea)) ((ea,oe)::pq) (σ.set i (some (.ref ea))) (off H ea) s3/\RelV (.int (z+m)) u) J2 hi (.inl hk) hj hvj hda hca hdn hcn hab ls2 (Jx hiσ) e2 e3 e4 xc na hdd2 lk λs3 u J3 ru=>⟨J3,ru⟩) (λu s3 h3=>?_) λ_ _ z=>z.elim);let⟨J3,ru⟩:=h3;refine Mn ⟨J3.kIn,?_⟩;refine Fw (Zji (X:=X.mrk (.ref ea)) (ee:=.ref ea) (vs:=[.int (z+m)]) (R:=λe2 H2=>∃d,H2 e2=some (.ext (excN e2 Cn (some d)))/\off H ea e2=none/\off H ea d=none/\d≠e2/\H2=upd (upd (off H ea) e2 (.ext (excN e2 Cn (some d)))) d (.ext (xdP d [(g,.int (z+m))]))) xc' xi F ⟨hr.dp,hr.un⟩ rfl hbd J3 (.cons ru .nil) (by show 1<=Cb;decide) ?_) (λu s4 hu=>?_) λ_ _ z=>z.elim
  .intro e2 he2;exists e2,·,Zi,λd hd hne=>⟨rfl,d,?_,he2,?_,hne,by rw[Pi]⟩
   .rw[Zk (Cv hne),Zi]
   .rw[Zk hne]at hd;exact hd
  .let⟨e2',H3,rfl,I4,lea,d2,q1,q2,q3,q4,rfl⟩:=hu;let⟨⟨oe2,ws,y1,y2,y3,y4,y5,y6,y7⟩,_,_⟩:=I4.hok e2' _ q1;let⟨p1,p2,_⟩:=I4.pin (ea,oe) (Jl _ Jo);let p2:upd (upd (off H ea) e2' (.ext (excN e2' Cn (some d2)))) d2 (.ext (xdP d2 [(g,.int (z+m))])) ea=none:=p2;let n1:ea≠e2':=λe=>nomatch p2.symm.trans ((congrArg _ e).trans q1);let n2:ea≠d2:=λe=>nomatch p2.symm.trans ((congrArg _ e).trans Zi);rw[Wm (Cv n1)]at q2;rw[Wm (Cv n2)]at q3;exists e2',oe2,ws,oe,vs,rfl,Vv I4.kIn xc'.ei,y1,y2,y4,y5,y6,p1,e4,c2,n1,λws' h' z1 z2 z3 z4=>?_;let I5:=I4.write (x:=e2') (e:=e2') (h':=h') (t':=s4.toks) (o:=.ext (excP e2' Cn (some d2))) (by rw[q1];exact Ek) (.inl rfl) (λb u hb q=>(z4 b hb).trans q) ⟨_,z3⟩ (excP.ok ⟨_,_,z3,y2,y3,rfl,z1⟩)
   let eH:upd (upd (upd (off H ea) e2' (.ext (excN e2' Cn (some d2)))) d2 (.ext (xdP d2 [(g,.int (z+m))]))) e2' (.ext (excP e2' Cn (some d2)))=off (upd (upd H d2 (.ext (xdP d2 [(g,.int (z+m))]))) e2' (.ext (excP e2' Cn (some d2)))) ea:=funext λb=>by
    by_cases b1:b=ea
    .subst b1;rw[Ta,Zk n1,Zk n2,Zk n1,Ta]
    .rw[Wm b1]
     by_cases b2:b=e2'
     .subst b2;rw[Zi,Zi]
     .rw[Zk b2,Zk b2]
      by_cases b3:b=d2
      .subst b3;rw[Zi,Zi]
      .rw[Zk b3,Zk b3,Zk b2,Wm b1]
   rw[eH]at I5;let hea2:upd (upd H d2 (.ext (xdP d2 [(g,.int (z+m))]))) e2' (.ext (excP e2' Cn (some d2))) ea=some (.ext (excP ea C (some dd))):=by rw[Zk n1,Zk n2];exact hea
   let I6:=Inv.release J hex hea I5 hea2 (excP.ok ⟨oe,vs,(z4 ea n1).trans p1,e2,e3,e4,e5⟩);exact Zby (pos:=pos) fx hst hf hN hi hk I.ok hiσ I6 Zi z3 y2 y3 rfl z1 z2 (Ga J3.sz lea) (hE e2' d2 q2 q3 q4)
end
end L2
namespace L2
open PySem PySem.Spec PyProof.Rows
def Zun{base:Heap}{scope:Scope}{f:Addr}{outer:List Env}{E:XK}:Zco (cxE false P w K mg base N qual scope f cd A outer s H E) E:=λI h2 l fp fl q=>Zs1 I h2 l fp fl q
def Fun.okH{base:Heap}{x:Str}{f:Addr}{k:Nat}(F:Fun K x qual st f fd)(S:FnScope N ps (Zl st))(len:∀vs H Q E,sp vs H Q E->vs.length=ps.length)(hbody:∀(cdv:Ca)(A:Ht)(outer:List Env)(s:Cc)(H:Hp)(vs:List V)(Q:VK)(e:Ca),sp vs H Q E0 ->
   ∃t,PSs (cxH P w K mg base N qual (Zl st) f cdv A outer s H e) (Ys st) t/\t {nx:=λ_ H'=>Q .non H',rt:=Q} (Vj N vs) H):FnH P w K mg base (k+1) f fd ps sp:=by
 let⟨oc,od,kV,doc,pm,an,cdv,ct,osl,rfl,lk,hcd⟩:=F.ex;exact Zr6 lk hcd S len λA outer s H vs Q e hsp=>hbody cdv A outer s H vs Q e hsp
def Zt8{base:Heap}{f:Addr}{x:Str}{k:Nat}(Y:Tk P w K mg base)(xc:XCl K C f)(xi:Wu K C=some (some (.ref f)))(g:MtG K C "__init__" q st f fd)(ok:FnH P w K mg base k f fd ps sp)(hm:Jex K Ct x=some (some (.ref C)))(b:Bnd "__init__" q st ps:=by apply bn;(repeat intro _);exact rfl) :
  RxH P w K mg base x C k ps sp:=⟨f,fd,xc,xi,ok,Y.m hm,g.F.binds b⟩
end L2
namespace L3
open PySem L2
section
variable{C:Cf} 
instance Zs3(K:Cs)(Dc Cn:Addr)(j:Nat)(f g:Str)(kx:X3)(ur:TH3):TH3:=λCe fs E ρ M=>∃b,Eo K Ce (.ref Dc)=some b/\if b=true then ∃z n fI,ρ[j]?=some (some (.int z))/\XCl K Ce fI/\Cu K (.ref Ce) f=some none/\fs.lookup f=some (.int n)/\kx Cn [(g,.int (z+n))] M else ur Ce fs E ρ M
def Zqz{Cn:Addr}{f g:Str}{E:XK}{ur:TH3}(he:Z.xe=E)(hk:Z.kx=kx)(hx:FinX C Z)(hr:SimH C Z thr ur):SimH C Z (Zp8 K Dc Cn j f g E thr) (Zs3 K Dc Cn j f g kx ur):=λI α σ H ρ M E3 D' Ce d ea fs vs R RE e1 e2 rf h F=>by
 subst he hk;let⟨b,eb,h⟩:=h;exists b,eb,?_;cases b with
 |false=>exact hr I α σ H ρ M E3 D' Ce d ea fs vs R RE e1 e2 rf h F
 |true =>
  let⟨z,n,fI,hz,xc,na,lk,h⟩:=h;let⟨v,ev,rv⟩:=rf.lookup lk;cases d with
  |none =>
   let e2:vs=[]:=e2;subst e2;cases ev
  |some dd =>
   cases rv.inv;let⟨v0,hv0,r0⟩:=RE.2 j _ hz;cases r0.inv;refine⟨z,n,dd,fI,vs,hv0,xc,na,rfl,R.sub _ _ e2,ev,λe2' d2 he2 hd2 hne=>?_⟩;let sH:Same H (upd (upd H d2 (.ext (xdP d2 [(g,.int (z+n))]))) e2' (.ext (excP e2' Cn (some d2)))):=λb o e=>by
    let n1:b≠e2':=Zp e he2;let n2:b≠d2:=Zp e hd2;rw[Zk n1,Zk n2];exact e
   let⟨I',s',R',fl⟩:=(R.same sH).full;refine hx Cn (some d2) [(g,.int (z+n))] [(g,.int (z+n))] I' α _ M R' (fl d2 _ ?_ (R.out hd2)) (.cons (.int _) .nil) h;rw[Zk hne,Zi]
end
inductive Out where
 |nomark
 |two (a b:Str)
 |ends (n:Nat)
 |text (n:Str) (ts:List Int)
instance outP:Out->PyData
 |.nomark=>.tuple [.str (Co "no mark")]
 |.two a b=>.tuple [.str (Co "two marks"),.str a,.str b]
 |.ends n=>.tuple [.str (Co "ends"),.int (n:Int)]
 |.text n ts=>.tuple [.str (Co "opened"),.str n,.list (ts.map .int)]
instance Zo9:Out->String
 |.nomark=>"no mark"
 |.two _ _=>"two marks"
 |.ends _=>"ends"
 |.text _ _=>"opened"
instance Zo5:Out->Prop
 |.two a b=>C0 a=true/\C0 b=true
 |.text n _=>C0 n=true
 |_=>True
inductive OutD(M:Mem)(c0:Nat):Out->D->Prop
 |nomark:OutD M c0 .nomark (.tup [.str (Co "no mark")])
 |two {a b:Str}:OutD M c0 (.two a b) (.tup [.str (Co "two marks"),.str a,.str b])
 |ends {n:Nat}:OutD M c0 (.ends n) (.tup [.str (Co "ends"),.int (n:Int)])
 |text {n:Str} {ts:List Int} {c:Nat}:M[c]?=some (.lst (ts.map .int))->c0<=c->OutD M c0 (.text n ts) (.tup [.str (Co "opened"),.str n,.cell c])
def OutD.pre{N:Mem}{c0:Nat}{o:Out}{d:D}(h:OutD M c0 o d)(p:M<+:N):OutD N c0 o d:=by
 cases h with
 |nomark=>exact .nomark
 |two=>exact .two
 |ends=>exact .ends
 |text e l=>exact .text (Z9 p e) l
def OutD.py{c0:Nat}{o:Out}{d:D}(h:OutD M c0 o d):PyR M d (outP o):=by
 cases h with
 |nomark=>exact .tup (.cons (.str _) .nil)
 |two=>exact .tup (.cons (.str _) (.cons (.str _) (.cons (.str _) .nil)))
 |ends=>exact .tup (.cons (.str _) (.cons (.int _) .nil))
 |text e l=>exact .tup (.cons (.str _) (.cons (.str _) (.cons (.seq (Xo (Yd e)).2.1 (Tt (We.ok M) _)) .nil)))
def Zgr{o:Out}(h:Zo5 o):Shp 2 (outP o):=by
 let s0:∀{d:PyData},Shp 0 d->Shp 1 d:=λh=>Zfu h (J8 _);let k:∀z∈(["no mark","two marks","ends","opened"]:List String),C0 (Co z)=true:=by decide +kernel
 cases o with
 |nomark=>exact X8 λd hd=>by rw[Jj.mp hd];exact s0 (Zbf (k _ (by simp)))
 |two a b =>
  refine X8 λd hd=>?_
  .skip
   rcases Jp.mp hd with z|hd
   .rw[z];exact s0 (Zbf (k _ (by simp)))
   rcases Jp.mp hd with z|hd
   .rw[z];exact s0 (Zbf h.1)
   .rw[Jj.mp hd];exact s0 (Zbf h.2)
 |ends n =>
  refine X8 λd hd=>?_
  .skip
   rcases Jp.mp hd with z|hd
   .rw[z];exact s0 (Zbf (k _ (by simp)))
   .rw[Jj.mp hd];exact s0 (Pk _)
 |text n ts =>
  refine X8 λd hd=>?_
  .skip
   rcases Jp.mp hd with z|hd
   .rw[z];exact s0 (Zbf (k _ (by simp)))
   rcases Jp.mp hd with z|hd
   .rw[z];exact s0 (Zbf h)
   .rw[Jj.mp hd];exact Sl _
def Zjx(o:Out):Ed (outP o) (outP o)=true:=by
 cases o with
 |text n ts =>
  let:=Nd (f:=Hj) We.eq ts ts;simp only[outP,Ed,C4,this];simp
 |_=>simp only[outP,Ed,C4];simp
def Zog{c0 c1:Nat}{o:Out}{d e:D}{K:Bool->Prop}(ok:Zo5 o)(h1:OutD M c0 o d)(h2:OutD M c1 o e)(h:K true):eqV d e M K :=
 .inr ⟨_,_,h1.py,h2.py,(Zgr ok).shaped nofun,(Zgr ok).shaped nofun,by rw[Zjx];exact h⟩
inductive OutOf(zs:List Fq)(ns:List Int):Out->Prop
 |nomark:Y9 zs ns=[]->OutOf zs ns .nomark
 |two {a b:Str} {r:List Str}:Y9 zs ns=a::b::r->OutOf zs ns (.two a b)
 |ends {z:Fq} {R:List En} {pl:Nat}:z∈zs->Y9 zs ns=[z.1]->Va z.2.1 (ns.drop z.2.2.length) R pl->pl<(ns.drop z.2.2.length).length->OutOf zs ns (.ends (z.2.2.length+pl))
 |text {z:Fq} {R:List En} {pl:Nat} {ts:List Int}:z∈zs->Y9 zs ns=[z.1]->Va z.2.1 (ns.drop z.2.2.length) R pl->(ns.drop z.2.2.length).length<=pl->osOf R=ts.map some->OutOf zs ns (.text z.1 ts)
def Y2.at(h:Y2 zs qs)(nd:(qs.map (·.1)).Nodup){z q:Fq}(hz:z∈zs)(hq:q∈qs)(e:z.1=q.1):Nk z q:=by
 let⟨q',hq',t⟩:=h.mem hz;let:=S7 nd hq' hq (t.1.symm.trans e);rw[<-this];exact t
def Zae{xs ys:List Int}(h:xs.map some=ys.map some):xs=ys:=by
 let:=congrArg (List.filterMap id) h;simpa using this
def OutOf.uniq(h:Y2 zs qs)(nd:(qs.map (·.1)).Nodup)(fr:∀q∈qs,Free q.2.1){o u:Out}(a:OutOf zs ns o)(b:OutOf qs ns u):o=u:=by
 let eb:=h.alike.by ns;let key:∀{z q:Fq}{R R':List En}{pl pl':Nat},z∈zs->q∈qs->Y9 zs ns=[z.1]->Y9 qs ns=[q.1]->Va z.2.1 (ns.drop z.2.2.length) R pl->Va q.2.1 (ns.drop q.2.2.length) R' pl'->z.1=q.1/\z.2.2=q.2.2/\R=R'/\pl=pl':=λ{z q R R' pl pl'}hz hq m1 m2 e1 e2=>by
  rw[eb,m2]at m1;let en:z.1=q.1:=by injection m1 with m1;exact m1.symm
  let t:=h.at nd hz hq en;rw[t.2.1]at e1;let⟨x,y⟩:=Va.uniq (fr q hq) (e1.perm t.2.2.1) e2;exists en,t.2.1,x,y
 cases a with
 |nomark m =>
  rw[eb]at m;cases b with
  |nomark _=>rfl
  |two m2=>rw[m]at m2;cases m2
  |ends _ m2=>rw[m]at m2;cases m2
  |text _ m2=>rw[m]at m2;cases m2
 |two m =>
  rw[eb]at m;cases b with
  |nomark m2=>rw[m]at m2;cases m2
  |two m2=>rw[m]at m2;cases m2;rfl
  |ends _ m2=>rw[m]at m2;cases m2
  |text _ m2=>rw[m]at m2;cases m2
 |ends hz m e1 l =>
  cases b with
  |nomark m2=>rw[eb,m2]at m;cases m
  |two m2=>rw[eb,m2]at m;cases m
  |ends hq m2 e2 l2 =>
   let⟨_,x,_,y⟩:=key hz hq m m2 e1 e2;rw[x,y]
  |text hq m2 e2 l2 _ =>
   let⟨_,x,_,y⟩:=key hz hq m m2 e1 e2;rw[x,y]at l;lia
 |text hz m e1 l os =>
  cases b with
  |nomark m2=>rw[eb,m2]at m;cases m
  |two m2=>rw[eb,m2]at m;cases m
  |ends hq m2 e2 l2 =>
   let⟨_,x,_,y⟩:=key hz hq m m2 e1 e2;rw[x,y]at l;lia
  |text hq m2 e2 l2 os2 =>
   let⟨x0,_,x,_⟩:=key hz hq m m2 e1 e2;rw[x,os2]at os;rw[x0,Zae os]
def OutOf.ok{o:Out}(h:OutOf zs ns o)(ok:∀z∈zs,C0 z.1=true):Zo5 o:=by
 let hm:∀n∈Y9 zs ns,C0 n=true:=λn hn=>by
  let⟨z,hz,e,_⟩:=Zd0 hn;rw[<-e];exact ok z hz
 cases h with
 |nomark=>trivial
 |two m=>exact⟨hm _ (by rw[m];exact Jo),hm _ (by rw[m];exact Jm _ Jo)⟩
 |ends=>trivial
 |text hz=>exact ok _ hz
def Zdx:∀{R:List En},Zex R->∃ts:List Int,osOf R=ts.map some
 |[],_=>⟨[],rfl⟩
 |e::R,h=>by
  let⟨ts,e2⟩:=Zdx (R:=R) λx hx=>h x (Jm _ hx);let⟨a,b⟩:=e;cases b with
  |none=>exact Fh rfl (h _ Jo)
  |some t=>exact⟨t::ts,by unfold osOf at e2⊢;rw[List.map_cons,e2,List.map_cons]⟩
def OutOf.len{n:Str}{ts:List Int}(h:OutOf zs ns (.text n ts)):ts.length<=ns.length:=by
 cases h with
 |text hz m e l os =>
  let h1:=e.1.le;let h2:=e.1.len;let h3:=congrArg Ho os;unfold osOf at h3;rw[Ja,Ja]at h3;rw[Gb]at h1;lia
inductive dReading43(ds:List D)(M:Mem)(K:K3):Prop
 |mk:∀(L:List Pr)(d:D)(ns:List Int),ds=[.lst (L.map pD),d]->(lsOf M d=some (ns.map .int)/\(Free L/\Fits L/\ns.length<=1000)/\(∀(R:List En)(pl:Nat)(ts:List Int),Va L ns R pl->ns.length<=pl->osOf R=ts.map some->K (.tup [.str (Co "text"),.cell M.length]) (M++[.lst (ts.map .int)]))/\∀(R:List En)(pl:Nat)(M':Mem),Va L ns R pl->pl<ns.length->M<+:M'->K (.tup [.str (Co "ends"),.int (pl:Int)]) M')->dReading43 ds M K
inductive dDue43(ds:List D)(M:Mem)(K:K3):Prop
 |mk:∀(d e:D)(qs:List Fq)(ns:List Int),ds=[d,e]->(lsOf M d=some (qs.map spD)/\lsOf M e=some (ns.map .int)/\((∀q∈qs,Free q.2.1/\Fits q.2.1/\C0 q.1=true)/\(qs.map (·.1)).Nodup/\qs.length<=8/\ns.length<=1000)/\∀(o:Out)(x:D)(M':Mem),M<+:M'->OutOf qs ns o->OutD M' M.length o x->K x M')->dDue43 ds M K
inductive dOpenedX(XF XM XT XR:Addr)(ds:List D)(M:Mem)(K:K3)(KX:X3):Prop
 |mk:∀(f:Nat)(d:D)(zs:List Fq)(ns:List Int),ds=[.cell f,d]->(FamAt XF M f zs/\lsOf M d=some (ns.map .int)/\(zs.length<=100/\ns.length<=1000/\∀z∈zs,Free z.2.1/\Fits z.2.1) /\
   (∀M',M<+:M'->OutOf zs ns .nomark->KX XM [] M')/\(∀a b M',M<+:M'->OutOf zs ns (.two a b)->KX XT [("first",.str a),("second",.str b)] M') /\
   (∀n M',M<+:M'->OutOf zs ns (.ends n)->KX XR [("at",.int (n:Int))] M')/\∀n ts M' c,M<+:M'->OutOf zs ns (.text n ts)->M'[c]?=some (.lst (ts.map .int))->M.length<=c->K (.tup [.str n,.cell c]) M')->dOpenedX XF XM XT XR ds M K KX
inductive dOut43(XF:Addr)(ds:List D)(M:Mem)(K:K3):Prop
 |mk:∀(f:Nat)(d:D)(zs:List Fq)(ns:List Int),ds=[.cell f,d]->(FamAt XF M f zs/\lsOf M d=some (ns.map .int)/\(zs.length<=100/\ns.length<=1000/\∀z∈zs,Free z.2.1/\Fits z.2.1)/\∀(o:Out)(x:D)(M':Mem),M<+:M'->OutOf zs ns o->OutD M' M.length o x->K x M')->dOut43 XF ds M K
instance Zla:Out->List Bool
 |.nomark=>[true,false,false,true]
 |.two _ _=>[false,true,false,true]
 |.ends _=>[false,false,true,true]
 |.text _ _=>[]
inductive dKinds43(XF:Addr)(ds:List D)(M:Mem)(K:K3):Prop
 |mk:∀(f:Nat)(d:D)(zs:List Fq)(ns:List Int),ds=[.cell f,d]->(FamAt XF M f zs/\lsOf M d=some (ns.map .int)/\(zs.length<=100/\ns.length<=1000/\∀z∈zs,Free z.2.1/\Fits z.2.1)/\∀(o:Out)(M':Mem),M<+:M'->OutOf zs ns o->K (.lst ((Zla o).map .bl)) M')->dKinds43 XF ds M K
inductive dDueK43(ds:List D)(M:Mem)(K:K3):Prop
 |mk:∀(o:Out),ds=[.str (Co (Zo9 o))]->K (.lst ((Zla o).map .bl)) M->dDueK43 ds M K
inductive dAsk43(XF:Addr)(ds:List D)(M:Mem)(K:K3):Prop
 |mk:∀(f:Nat)(d e:D)(zs qs:List Fq)(ns:List Int),ds=[.cell f,d,e]->(FamAt XF M f zs/\lsOf M d=some (qs.map spD)/\lsOf M e=some (ns.map .int)/\(Y2 zs qs/\(qs.map (·.1)).Nodup/\(∀q∈qs,Free q.2.1/\Fits q.2.1/\C0 q.1=true)/\qs.length<=8/\ns.length<=900)/\∀M',M<+:M'->K (.bl true) M')->dAsk43 XF ds M K
inductive dRowsOf43(ds:List D)(M:Mem)(K:K3):Prop
 |mk:∀(k:Nat)(q:Fq)(bs:List Int),ds=[spD q,.lst (bs.map .int),.cell k]->(M[k]?=some .hand/\(Free q.2.1/\Fits q.2.1/\q.2.2.length<=4/\bs≠[]/\bs.length<=100)/\∀(M':Mem)(xs:List D),M<+:M'->W8 M' xs->xs.length<=10->K (.lst xs) M')->dRowsOf43 ds M K
end L3
namespace K43
open PySem L2
instance top(i:Nat):Stmt:=PySem.Challenge.pw_skewread_k43_opened.main.body.getD i (.Pass ⟨0,0,0,0⟩)
abbrev Jcg:Stmt:=top 24
def Fx:FnScope ["_law_hand","_law_many","_law_got","_law_cell","_law_number"] ["_law_hand","_law_many"] (Zl Jcg):=(by rfl')
abbrev Jaw:Stmt:=top 23
def Jbz:FnScope ["_law_script","_law_place","_law_cells","_law_at","_law_digits"] ["_law_script","_law_place"] (Zl Jaw):=(by rfl')
abbrev Jcn:Stmt:=top 25
def Jbn:FnScope ["_law_hand","_law_most","_law_begin","_law_step"] ["_law_hand","_law_most"] (Zl Jcn):=(by rfl')
abbrev Jcm:Stmt:=top 26
def Jbs:FnScope ["_law_hand","_law_some","_law_most","_law_longest","_law_words_here","_law_k","_law_at"] ["_law_hand","_law_some","_law_most","_law_longest"] (Zl Jcm):=(by rfl')
abbrev Dp:Stmt:=top 27
def Jcb:FnScope ["_law_hand","_law_many","_law_begin","_law_step","_law_signs_here","_law_at"] ["_law_hand","_law_many"] (Zl Dp):=(by rfl')
abbrev D0:Stmt:=top 28
def D7:FnScope ["_law_hand","_law_words_here","_law_signs_here","_law_at","_law_spun","_law_pairs"] ["_law_hand","_law_words_here","_law_signs_here"] (Zl D0):=(by rfl')
abbrev Jai:Stmt:=top 29
def Jaj:FnScope ["_law_hand","_law_signs_here","_law_most"] ["_law_hand","_law_signs_here","_law_most"] (Zl Jai):=(by rfl')
abbrev F7:Stmt:=top 30
def Dx:FnScope ["_law_hand","_law_some","_law_words_here","_law_most","_law_row_here","_law_k","_law_way","_law_word"] ["_law_hand","_law_some","_law_words_here","_law_most"] (Zl F7):=(by rfl')
abbrev Wq:Stmt:=top 18
def D1:FnScope ["one","other","shared"] ["one","other"] (Zl Wq):=(by rfl')
abbrev Zbk:Stmt:=top 17
def D2:FnScope ["table","second","first","odds"] ["table"] (Zl Zbk):=(by rfl')
abbrev Wp:Stmt:=top 19
def Jcl:FnScope ["table","found"] ["table"] (Zl Wp):=(by rfl')
abbrev Vn:Stmt:=top 20
def Jag:FnScope ["words","found","word","size"] ["words"] (Zl Vn):=(by rfl')
abbrev Z2:Stmt:=Xu (top 21) 0
def Jau:FnScope ["self","table"] ["self","table"] (Zl Z2):=(by rfl')
abbrev Ur:Stmt:=Xu (top 21) 4
def Jao:FnScope ["self","word"] ["self","word"] (Zl Ur):=(by rfl')
abbrev Sw:Stmt:=top 11
def Jcc:FnScope ["code","row","place","size","word"] ["code","row","place"] (Zl Sw):=(by rfl')
abbrev Yq:Stmt:=Xu (top 5) 0
def Jck:FnScope ["self","at"] ["self","at"] (Zl Yq):=(by rfl')
abbrev Xq:Stmt:=Xu (top 6) 0
def Jbe:FnScope ["self","name"] ["self","name"] (Zl Xq):=(by rfl')
abbrev X0:Stmt:=Xu (top 7) 0
def Jbv:FnScope ["self","name"] ["self","name"] (Zl X0):=(by rfl')
abbrev Yy:Stmt:=Xu (top 9) 0
def Jci:FnScope ["self","first","second"] ["self","first","second"] (Zl Yy):=(by rfl')
abbrev Zfz:Stmt:=top 12
def D6:FnScope ["code","row","text","place","word"] ["code","row"] (Zl Zfz):=(by rfl')
abbrev Vm:Stmt:=top 14
def Dn:FnScope ["mark","row"] ["mark","row"] (Zl Vm):=(by rfl')
abbrev Xr:Stmt:=Xu (top 15) 0
def Jaf:FnScope ["self"] ["self"] (Zl Xr):=(by rfl')
abbrev Vo:Stmt:=Xu (top 15) 1
def Dq:FnScope ["self","name","code","mark"] ["self","name","code","mark"] (Zl Vo):=(by rfl')
abbrev Wr:Stmt:=Xu (top 15) 2
def Jbr:FnScope ["self"] ["self"] (Zl Wr):=(by rfl')
abbrev Vc:Stmt:=Xu (top 15) 3
def Dl:FnScope ["self","name"] ["self","name"] (Zl Vc):=(by rfl')
abbrev Vb:Stmt:=Xu (top 15) 4
def Jaq:FnScope ["self","name"] ["self","name"] (Zl Vb):=(by rfl')
abbrev X1:Stmt:=Xu (top 15) 7
def Jaa:FnScope ["self","row","names","longest"] ["self","row"] (Zl X1):=(by rfl')
abbrev Wa:Stmt:=Xu (top 15) 8
def Jbh:FnScope ["self","row","names","size","text","refusal"] ["self","row"] (Zl Wa):=(by rfl')
abbrev Jbi:Stmt:=top 31
def Jbm:FnScope ["_law_hand","_law_many","_law_letters","_law_base","_law_at","_law_longer","_law_names_here","_law_k","_law_moved"] ["_law_hand","_law_many"] (Zl Jbi):=(by rfl')
abbrev Jby:Stmt:=top 32
def Do:FnScope ["_law_hand","_law_some","_law_marks","_law_way","_law_mark_here","_law_k"] ["_law_hand","_law_some","_law_marks"] (Zl Jby):=(by rfl')
abbrev Jac:Stmt:=top 33
def Jal:FnScope ["_law_script","_law_most","_law_hand","_law_some","_law_signs_here","_law_many","_law_names_here","_law_specs_here","_law_k","_law_wide","_law_words_here","_law_table_here"] ["_law_script","_law_most"] (Zl Jac):=(by rfl')
abbrev Jch:Stmt:=top 34
def Jbo:FnScope ["_law_specs_here","_law_row_here","_law_size","_law_name","_law_table_here","_law_mark_here"] ["_law_specs_here","_law_row_here"] (Zl Jch):=(by rfl')
abbrev Ds:Stmt:=top 35
def Jca:FnScope ["_law_table_here","_law_text_here","_law_row_here","_law_at","_law_words_here"] ["_law_table_here","_law_text_here"] (Zl Ds):=(by rfl')
abbrev Jab:Stmt:=top 36
def Jbf:FnScope ["_law_table_here","_law_row_here","_law_text_here","_law_at","_law_fit"] ["_law_table_here","_law_row_here"] (Zl Jab):=(by rfl')
abbrev Jbl:Stmt:=top 37
def D4:FnScope ["_law_specs_here","_law_row_here","_law_fit","_law_name","_law_table_here","_law_mark_here","_law_word","_law_told"] ["_law_specs_here","_law_row_here"] (Zl Jbl):=(by rfl')
abbrev Jcf:Stmt:=top 38
def Dt:FnScope ["_law_family","_law_row_here","_law_found","e"] ["_law_family","_law_row_here"] (Zl Jcf):=(by rfl')
abbrev Jaz:Stmt:=top 39
def Jar:FnScope ["_law_family","_law_row_here","e","_law_kinds_here"] ["_law_family","_law_row_here"] (Zl Jaz):=(by rfl')
abbrev Jbb:Stmt:=top 40
def Jbt:FnScope ["_law_word"] ["_law_word"] (Zl Jbb):=(by rfl')
abbrev Jad:Stmt:=top 41
def Jah:FnScope ["_law_spec","_law_some","_law_hand","_law_name","_law_table_here","_law_mark_here","_law_text_here","_law_row_here","_law_rows","_law_other"] ["_law_spec","_law_some","_law_hand"] (Zl Jad):=(by rfl')
abbrev Fz:Stmt:=top 42
def D9:FnScope ["_law_family","_law_specs_here","_law_row_here","_law_handed","_law_due_here","_law_found"] ["_law_family","_law_specs_here","_law_row_here"] (Zl Fz):=(by rfl')
abbrev D5:Stmt:=top 43
def Jbk:FnScope ["_law_family","_law_known","_law_some"] ["_law_family","_law_known","_law_some"] (Zl D5):=(by rfl')
abbrev Zmr:Stmt:=top 44
def F9:FnScope ["_law_script","_law_some","_law_signs_here","_law_specs_here","_law_hand","_law_rows","_law_k","_law_family","_law_told","_law_start","_law_row_here"] ["_law_script"] (Zl Zmr):=(by rfl')
structure Txt(mg:Str->Option Ca):Prop where
 b_len:mg "len"=none
 b_abs:mg "abs"=none
 b_max:mg "max"=none
 b_min:mg "min"=none
 b_isinstance:mg "isinstance"=none
 b_all:mg "all"=none
 b_any:mg "any"=none
 b_range:mg "range"=none
 b_int:mg "int"=none
 b_str:mg "str"=none
 b_bool:mg "bool"=none
 b_tuple:mg "tuple"=none
 b_list:mg "list"=none
 b_dict:mg "dict"=none
 b_sorted:mg "sorted"=none
 b_enumerate:mg "enumerate"=none
 b_ValueError:mg "ValueError"=none
section
variable{base:Heap}
local macro_rules | `(tactic|symm)=>`(tactic|repeat' first|with_reducible (first|apply L3.Z5|apply L3.s_g|apply L3.Xn|apply L3.Zjf|apply L3.Ya|apply L3.s_op|apply L3.Z1|apply L3.Wj|apply L3.s_cb|apply L3.Zkz|apply L3.Vl|apply L3.Uq|apply L3.Zkx|apply L3.s_b|apply L3.Zt2|apply L3.Zml|apply L3.Zmw|apply L3.Zqq|apply L3.N1|apply L3.Sy|apply L3.Zmp|apply L3.s_sl|apply L3.Zmv|apply L3.Zmn|apply L3.Zt5|apply L3.s_or|apply L3.s_itK|apply L3.Zt1|apply L3.s_ir2|apply L3.Zmk|apply L3.N2|apply L3.Zt0|apply L3.Zqr|apply L3.s_un|apply L3.s_if|apply L3.Zf5|apply L3.s_extendK|apply L3.Zq3|apply L3.s_orV|apply L3.s_notV|apply L3.s_bl|apply L3.Ztw|apply L3.Zi6|apply L3.s_ty|apply L3.s_ix|apply L3.Zjh|apply L3.Ztt|apply L3.Zty|apply L3.Zqs|apply L3.s_fdiv|apply L3.Ztv|apply L3.s_lt|apply L3.s_le|apply L3.s_gt|apply L3.s_ge|apply L3.s_eq|apply L3.s_ne|apply L3.Zjd|apply L3.Zqx|apply L3.Zbh|apply L3.Zqp|apply L3.X9|apply L3.Zmo|apply L3.Zq2|apply L3.Zjc|apply L3.Ztu|apply L3.Qu|apply L3.Ztx|apply L3.Zqv|apply L3.Zqt|apply L3.Zt6)|rfl)
def Jbj(T:Txt mg){f:Addr}(F:Fun K "_law_draw" "_law_draw" Jcg f fd):FnOk P w K mg base CX0 1 f fd ["_law_hand","_law_many"] Su:=by
 refine F.ok Fx (λvs H Q E h=>?_) (λcdv A outer s H vs Q E hr h=>?_)
 .let⟨p,a,n,rfl,_⟩:=h;rfl
 .let⟨p,a,n,rfl,hh,hn0,hn1,k⟩:=h;let⟨d,i,cs,e1,e2,hne,hlen,hd,hi,hc⟩:=hh.ex;let npa:p≠a:=hh.ne;let SC:=Fx;let fin:∀(r d' i':Int),0<=r->r<n->0<=d'->0<=i'->Q (.int r) (upd H p (.lst [.int d',.int i',.ref a])):=λr d' i' h1 h2 h3 h4 =>
   k r _ h1 h2 ⟨d',i',cs,Zi,by rw[Zk npa.symm];exact e2,hne,hlen,h3,h4,hc⟩ (λb o e nb=>by rw[Zk nb];exact e) λb nb=>by rw[Zk nb]
  refine⟨_,(Zc (Yn (Zw Zac (Zz Xd (pv 0) Zd (λ_ _=>rfl)) Zd (nomark _))
 (Zc (Zs (i:=2) SC.nd rfl (Ck rfl) (Zv Yr (Zz Xd (pv 0) Zd (λ_ _=>rfl)) (pv 1)))
 (Zc (Sb (Zv Zgu (Zz Xd (pv 0) Zd (λ_ _=>rfl)) (pv 1)) (Zdg (pv 0) Zd U7))
 (Zh (Zx (pv 2)))))
 Zy)
 (Zc (Zm9 (pv 0) Zd Zgj Zd Zld U7)
 (Zc (Zs (i:=3) SC.nd rfl (Ck rfl) (Zv Yr (Zz Xd (Zz Xd (pv 0) Zd (λ_ _=>rfl)) (Zv Yr (Zz Xd (pv 0) Zd (λ_ _=>rfl)) (Zm X7 (by rfl) T.b_len Fv (Za (Zz Xd (pv 0) Zd (λ_ _=>rfl)) Zb))) (λ_ _=>rfl)) Zd))
 (Zc (Zs (i:=4) SC.nd rfl (Ck rfl) (Zv Yr (Zv X6 (Zv X6 (Zv Ul (pv 3) Zd) (Zv Ul (Zz Xd (pv 0) Zd (λ_ _=>rfl)) Zd)) Zd) Zd))
 (Zc (Zs (i:=4) SC.nd rfl (Ck rfl) (Zv Yr (Zv X6 (Zv Ul (pv 4) (pv 4)) (Zz Xd (pv 0) Zd (λ_ _=>rfl))) Zd))
 (Zc (Zs (i:=4) SC.nd rfl (Ck rfl) (Zv Yr (Zv X6 (Zv Ul (pv 4) Zd) Zd) Zd))
 (Zh (Zx (Zv Yr (Zv Zgu (Zv Yr (Zv Ul (pv 4) (pv 4)) Zd) Zd) (pv 1)))))))))),?_⟩
  exists ·,p,_,_,·,rfl,SqL.of e1,rfl,_,·,rfl,·,?_;refine ite2 (λh0=>?_) (λh0=>?_)
  .exists ·,p,_,_,·,rfl,SqL.of e1,rfl,·,_,·,rfl,hn0,?_;exists ·,p,_,_,·,rfl,SqL.of e1,rfl,·,_,·,rfl,⟨hn0,hn1⟩,·,p,_,_,0,rfl,rfl,e1,rfl,?_;exists ·,?_;exact fin _ _ _ (G5 _ ()) (G0 _ hn0) (Int.ediv_nonneg hd ()) hi
  .let e1':(upd H p (.lst [.int d,.int (i+1),.ref a])) p=some (.lst [.int d,.int (i+1),.ref a]):=Zi;let e2':(upd H p (.lst [.int d,.int (i+1),.ref a])) a=some (.lst (cs.map V.int)):=by rw[Zk npa.symm];exact e2
   let⟨c,hc1,hc2⟩:=Zci hne (i+1);let hlp:(0:Int)<(((cs.map V.int).length:Nat):Int):=by
    rw[Ja];let:=J9.mpr hne;lia
   refine⟨_,rfl,p,_,1,_,rfl,rfl,SqL.of e1,rfl,_,_,rfl,rfl,p,_,_,1,rfl,rfl,e1,rfl,?_⟩;refine⟨_,rfl,p,_,_,_,rfl,rfl,SqL.of e1',rfl,_,rfl,p,_,_,_,rfl,rfl,SqL.of e1',rfl,_,rfl,p,_,_,_,rfl,rfl,SqL.of e1',rfl,_,_,rfl,.inl ⟨_,SqL.of e2',rfl⟩,_,_,rfl,rfl,hlp,
    a,_,_,_,rfl,rfl,SqL.of e2',hc2,_,_,rfl,rfl,(by show(0:Int)<_;decide),?_⟩
   exists ·,_,·,rfl,.inr ⟨nofun,nofun⟩,·,p,_,_,·,rfl,SqL.of e1',rfl,_,·,rfl,.inr ⟨nofun,nofun⟩,_,·,rfl,_,·,rfl,_,·,rfl,(by show(0:Int)<_;decide),?_;generalize hx:(c % 2147483647*48271+(i+1)*7368787+11) % 998244353=x;let x0:0<=x:=by rw[<-hx];exact G5 _ nofun
   let x1:x<998244353:=by rw[<-hx];exact G0 _ nofun
   exists ·,·,_,·,rfl,.inl ⟨(),()⟩,·,p,_,_,·,rfl,SqL.of e1',rfl,_,·,rfl,_,·,rfl,(by show(0:Int)<_;decide),?_;generalize hy:(x*x+(i+1)) % 998244353=y;exists ·,_,·,rfl,.inr ⟨nofun,nofun⟩,_,·,rfl,_,·,rfl,(by show(0:Int)<_;decide),?_;generalize hz:(y*40503203+12345) % 2147483647=z;let z0:0<=z:=by rw[<-hz];exact G5 _ nofun
   let z1:z<2147483647:=by rw[<-hz];exact G0 _ nofun
   exists ·,·,_,·,rfl,.inl ⟨(),()⟩,_,·,rfl,(by show(0:Int)<_;decide),_,·,rfl,⟨nofun,nofun⟩,·,_,·,rfl,hn0,?_;exact fin _ _ _ (G5 _ ()) (G0 _ hn0) hd (by show 0<=i+1;lia)
open L3
def Jam(T:Txt mg){f:Addr}(F:Fun K "_law_open" "_law_open" Jaw f fd):FnOk P w K mg base CX0 1 f fd ["_law_script","_law_place"] (spOf ⟨C,K⟩ dOpen):=by
 refine L3.Fun.ok3 F Jbz (λds M K3 h=>?_) (λcdv A outer s H E hr=>?_)
 .let⟨ns,i,rfl,_⟩:=h;rfl
 .let SC:=Jbz;let hu:=hr.units;let hu1:=Xh hr;refine⟨_,_,(Zc (Uu (i:=2) SC.nd rfl rfl (T:=["_law_cell"]) (cs:=[]) rfl (CScope.ok (by kernel_rfl)) (Y0 (Z4 (Wi (K':=K) rfl) (pv 0) Yc (Z6 Zd))) (λ_ _ _ _=>(Zq (i:=0) (Y5 (by kernel_rfl)) rfl (Ck rfl) (Ef rfl))) (λ_ _ _ _=>Yz) (λ_ _ _ _=>(Zm Zkh (by rfl) T.b_abs Jhc (Za (pv 0) Zb))) (Y3 nofun))
 (Zc (Yn (Zw (Xg (K':=K) rfl hu) (pv 2) (Yh Zb) (nomark _))
 (Zh (Zs (i:=2) SC.nd rfl (Ck rfl) (Yh (Za Zd Zb))))
 Zy)
 (Zc (Zs (i:=3) SC.nd rfl (Ck rfl) (Zv Yr (pv 1) (Zm (Z7 (K:=K) rfl) (by rfl) T.b_len Fv (Za (pv 2) Zb))))
 (Zc (Zs (i:=4) SC.nd rfl (Ck rfl) Zd)
 (Zc (Yn (PW.pt (N5 (Zw Zud (Zz (Z8 (K':=K) rfl) (pv 2) (pv 3) (λ_ _=>rfl)) (Zv Zgt Zd Zd) (nomark _)) (Pm (Zw Zab (pv 1) (Zm (Z7 (K:=K) rfl) (by rfl) T.b_len Fv (Za (pv 2) Zb)) (nomark _)))))
 (Zh (Zs (i:=4) SC.nd rfl (Ck rfl) (Zz (Z8 (K':=K) rfl) (pv 2) (pv 3) (λ_ _=>rfl))))
 Zy)
 (Zh (Zx (Yh (Za (pv 4) (Za (Zv (Yw (K':=K) rfl) Zd (Zv Qr Zd (pv 1))) (Za (Zv (Yw (K':=K) rfl) (Z4 (Wi (K':=K) rfl) (pv 2) (Z6 (pv 3)) Yc) (Z4 (Wi (K':=K) rfl) (pv 2) Yc (Z6 (pv 3)))) Zb))))))))))),λ_=>(Z1 (by symm) (Z1 (by symm) (Z1 (by symm) (Z1 (by symm) (Z1 (by symm) (Vl (Zqw (by symm)))))))),λds M Kk hM hD h=>?_⟩
  let⟨ns,i,rfl,h⟩:=h;let⟨⟨hl,i0,i1⟩,k⟩:=h;exists ·,·,ns.map .int,rfl,?_;rw[show(63:Int)=((63:Nat):Int)from rfl,X2,<-Bj];let lm:(ns.take 63).length<=63:=by rw[J0];lia
  generalize ns.take 63=ms at lm;let lms:(ms.map D.int).length=ms.length:=Ja _;exists ·,Zo (by show(ms.map D.int).length<=_;lia),λj ys M'=>M=M'/\ys=((ms.take j).map λz=>if z<0 then -z else z).map .int,λ_ _ _ _ _=>rfl,⟨rfl,rfl⟩,?_,?_
  .rintro j x ys _ hj hx ⟨rfl,rfl⟩;let⟨hj',rfl⟩:=Zj5 hx;exists ·,·,rfl,?_;rw[Je hj',Jg,Jg];rfl
  rintro ys _ ⟨rfl,rfl⟩;rw[show ms.take _=ms from by show ms.take (ms.map D.int).length=ms;rw[lms,Ge]];let nn:∀c∈ms.map λz:Int=>if z<0 then -z else z,0<=c:=λc hc=>by
   let⟨z,_,rfl⟩:=Jn.mp hc
   split<;>lia
  let lc:(ms.map λz:Int=>if z<0 then -z else z).length<=63:=by rw[Ja];exact lm
  generalize (ms.map λz:Int=>if z<0 then -z else z)=cs at nn lc;refine Ss (λρ M'=>ρ=[some (.frz (ns.map .int)),some (.int i),some (.lst (cs.map .int)),none,none]/\M=M') (λKn hKn=>hKn _ _ ⟨rfl,rfl⟩) ?_;rintro _ _ ⟨rfl,rfl⟩;refine Ss (λρ M'=>∃cs:List Int,ρ=[some (.frz (ns.map .int)),some (.int i),some (.lst (cs.map .int)),none,none]/\M=M'/\cs≠[]/\cs.length<=63/\∀c∈cs,0<=c) (λKn hKn=>?_) ?_
  .exists ·,J8 _,?_;refine Vw We (a:=cs) (b:=[]) rfl rfl ⟨_,rfl,ite2 (λe=>?_) λe=>?_⟩
   .exists Nat.succ_le_succ (J8 _),hKn _ _ ⟨[0],rfl,rfl,by simp,nofun,by simp⟩
   .exact hKn _ _ ⟨cs,rfl,rfl,by simpa using e,lc,nn⟩
  rintro _ _ ⟨cs,rfl,rfl,ne,lc,nn⟩;let lp:=J9.mpr ne;let lm2:(cs.map D.int).length=cs.length:=Ja _;obtain⟨j,ej⟩:∃j:Nat,i % ((cs.map D.int).length:Int)=(j:Int):=⟨(i % ((cs.map D.int).length:Int)).toNat,by rw[Int.toNat_of_nonneg (G5 _ ())]⟩;let hj:j<cs.length:=by have:=G0 i (b:=((cs.map D.int).length:Int)) ();lia
  exists ·,·,·,_,·,rfl,(),?_;rw[ej];let ec:=Ve (f:=D.int) (as:=cs) (i:=(j:Int)) (j:=j) rfl hj;let c0:=nn _ (Jy hj);refine Ss (λρ M'=>ρ=[some (.frz (ns.map .int)),some (.int i),some (.lst (cs.map .int)),some (.int j),none]/\M=M') (λKn hKn=>hKn _ _ ⟨rfl,rfl⟩) ?_;rintro _ _ ⟨rfl,rfl⟩;refine Ss (λρ M'=>ρ=[some (.frz (ns.map .int)),some (.int i),some (.lst (cs.map .int)),some (.int j),some (.int 0)]/\M=M') (λKn hKn=>hKn _ _ ⟨rfl,rfl⟩) ?_;rintro _ _ ⟨rfl,rfl⟩;refine Ss (λρ M'=>∃d:Int,ρ=[some (.frz (ns.map .int)),some (.int i),some (.lst (cs.map .int)),some (.int j),some (.int d)]/\M=M'/\0<=d) (λKn hKn=>?_) ?_
  .exists ·,·,_,_,·,rfl,ec,_,·,rfl,⟨nofun,nofun,nofun⟩,_,·,rfl,·,ite2 (λ_=>?_) λ_=>iteF (hKn _ _ ⟨0,rfl,rfl,nofun⟩);exists ·,·,·,_,·,rfl,·,ite2 (λ_=>⟨_,rfl,_,rfl,_,_,_,rfl,rfl,ec,hKn _ _ ⟨_,rfl,rfl,c0⟩⟩) λ_=>hKn _ _ ⟨0,rfl,rfl,nofun⟩
  rintro _ _ ⟨d,rfl,rfl,d0⟩;let ec2:cut (cs.map D.int) (some (j:Int)) none++cut (cs.map D.int) none (some (j:Int))=(cs.drop j++cs.take j).map D.int:=by rw[W7,X2,Jg,Fe,Bj]
  let lc2:(cs.drop j++cs.take j).length=cs.length:=by rw[Jc,Gb,J0];lia
  exists ·,·,.inl ⟨nofun,nofun⟩,·,·,·,cs.map .int,rfl,·,·,·,cs.map .int,rfl,_,·,rfl,?_,?_
  .rw[<-Jc,ec2,Ja,lc2];exact Zo ()
  .rw[ec2];exists _,_,·,⟨λe=>by rw[e]at lc2;exact Fh lc2 (by simp;lia),(),d0,(),λc hc=>nn c ((Jt.mp hc).elim Li Bk)⟩,.inl k
def Jak(T:Txt mg)(Zf:Cal P w K mg base "_law_draw" 1 ["_law_hand","_law_many"] Su){f:Addr}(F:Fun K "_law_bytes" "_law_bytes" Jcn f fd):FnOk P w K mg base CX0 2 f fd ["_law_hand","_law_most"] Zfp:=by
 refine F.ok Jbn (λvs H Q E h=>?_) (λcdv A outer s H vs Q E hr h=>?_)
 .let⟨p,a,m,rfl,_⟩:=h;rfl
 .let⟨p,a,m,rfl,hh,hm1,hm2,k⟩:=h;let SC:=Jbn;let Zg:Room 1 _:=hr.mono nofun;refine⟨_,(Zc (Zs (i:=2) SC.nd rfl (Ef rfl) (Zt Zf Zg rfl (Za (pv 0) (Za Zd Zb))))
 (Zc (Zs (i:=3) SC.nd rfl (Ef rfl) (Zv X6 Zd (Zt Zf Zg rfl (Za (pv 0) (Za Zd Zb)))))
 (Zh (Zx (Y1 (T:=["_law_k"]) (cs:=[2,3]) rfl (CScope.ok (by kernel_rfl)) (Yb rfl T.b_range (Za (Zv X6 Zd (Zt Zf Zg rfl (Za (pv 0) (Za (Zv Zdi (pv 1) Zd) Zb)))) Zb)) (λ_ _ _ _=>(Zq (i:=0) (Y5 (by kernel_rfl)) rfl (Ck rfl) (Ef rfl))) (λ_ _ _ _=>Yz) (λ_ _ _ _=>(Zv Yr (Zv X6 (pv 1) (Zv Ul (pv 2) (pv 0))) Zd)) (Y3 nofun)))))),?_⟩
  refine⟨_,rfl,p,a,_,rfl,hh,nofun,nofun,λb0 H1 b00 b01 h1 g1 u1=>?_⟩;refine⟨_,rfl,p,a,_,rfl,h1,nofun,nofun,λs0 H2 s00 s01 h2 g2 u2=>⟨_,_,rfl,rfl,?_⟩⟩;refine⟨_,rfl,_,rfl,_,_,rfl,rfl,p,a,_,rfl,h2,(),(),λn0 H3 n00 n01 h3 g3 u3=>⟨_,_,rfl,rfl,(2+n0),rfl,(),(),T5 (n:=(2+n0).toNat)
   (λj ys H'=>H'=H3/\ys=((Ec j).map λk:Nat=>(b0+(1+s0)*(k:Int)) % 256).map V.int) ⟨rfl,rfl⟩ ?_ (Zo ()) ?_ ?_ ?_ ?_⟩⟩
  .rintro j ys H' ⟨rfl,rfl⟩;rw[Ja,Ja,G9];exact Jd _
  .rintro j ys H' hj _;exact hj
  .rintro ys H' _;exact Jd _
  .rintro j ys H' hj ⟨rfl,rfl⟩ x H4 ⟨rfl,rfl⟩;exists ·,·,·,_,·,rfl,.inl ⟨(),()⟩,_,·,rfl,_,·,rfl,(by show(0:Int)<_;decide),rfl,?_;rw[Jc9,Jg,Jg,B5];rfl
  .rintro ys H' ⟨rfl,rfl⟩ l hl;let⟨_,_,_,ep,_⟩:=h3.ex;let nl:l≠p:=Cv (Zp ep hl);let g:=(g1.trans g2).trans g3;refine k l _ _ (g.free hl nl) nl Zi (Zbd () ?_) ?_ ?_ (λb hb=>?_) (h3.same (Zr hl)) (g.trans (Grow.same (Zr hl)))
   .let:((2+n0).toNat:Int)=2+n0:=by lia
    rw[this];let h4:(1+s0)*(2+n0)<=(1+s0)*4:=Lf () ();lia
   .rw[Ja,G9];lia
   .rw[Ja,G9];lia
   .let⟨i,_,rfl⟩:=Jn.mp hb;exists G5 _ nofun,G0 _ nofun
def Zki{bs:List Int}{n:Nat}(h:∀w∈ws,∀b∈w,b∈bs)(hn:n<ws.length):∀w∈ws.take n++(bs.map λb=>ws[n]++[b])++ws.drop (n+1),∀b∈w,b∈bs:=λw hw b hb=>by
 rcases Jt.mp hw with z|z
 .rcases Jt.mp z with z|z
  .exact h w (Bk z) b hb
  .let⟨c,hc,rfl⟩:=Jn.mp z;rcases Jt.mp hb with y|y
   .exact h _ (Jy hn) b y
   .rw[Jj.mp y];exact hc
 .exact h w (Li z) b hb
def Df(T:Txt mg)(Zf:Cal P w K mg base "_law_draw" 1 ["_law_hand","_law_many"] Su){f:Addr}(F:Fun K "_law_words" "_law_words" Jcm f fd):FnOk P w K mg base CX0 2 f fd ["_law_hand","_law_some","_law_most","_law_longest"] Zcx:=by
 refine F.ok Jbs (λvs H Q E h=>?_) (λcdv A outer s H vs Q E hr h=>?_)
 .let⟨p,a,sa,m,lg,bs,rfl,_⟩:=h;rfl
 .let⟨p,a,sa,m,lg,bs,rfl,hh,es,nsp,nd,hne,hl,hm1,hm2,hg1,hg2,k⟩:=h;let SC:=Jbs;let Zg:Room 1 _:=hr.mono nofun;let hlp:0<bs.length:=J9.mpr hne;refine⟨_,(Zc (Zs (i:=4) SC.nd rfl (Ef rfl) (Y1 (T:=["_law_one"]) (cs:=[]) rfl (CScope.ok (by kernel_rfl)) (Y0 (pv 1)) (λ_ _ _ _=>(Zq (i:=0) (Y5 (by kernel_rfl)) rfl (Ck rfl) (Ef rfl))) (λ_ _ _ _=>Yz) (λ_ _ _ _=>(Yo (Za (pv 0) Zb))) (Y3 nofun)))
 (Zc (X5 C1 rfl (Yb rfl T.b_range (Za (Zt Zf Zg rfl (Za (pv 0) (Za (Zv X6 (pv 2) Zd) Zb))) Zb)) (Zq (i:=5) SC.nd rfl (Ck rfl))
 (Zc (Zs (i:=6) SC.nd rfl (Ef rfl) (Zv Yr (Zt Zf Zg rfl (Za (pv 0) (Za Zd Zb))) (Zm X7 (by rfl) T.b_len Fv (Za (pv 4) Zb))))
 (Zh (Yn (Zw Zab (Zm X7 (by rfl) T.b_len Fv (Za (Zz Xd (pv 4) (pv 6) (λ_ _=>rfl)) Zb)) (pv 3) (nomark _))
 (Zh (Zs (i:=4) SC.nd rfl (Ef rfl) (Zv Zad (Zv Zad (Z4 Tq (pv 4) Yc (Z6 (pv 6))) (Y1 (T:=["_law_one"]) (cs:=[4,6]) rfl (CScope.ok (by kernel_rfl)) (Y0 (pv 1)) (λ_ _ _ _=>(Zq (i:=0) (Y5 (by kernel_rfl)) rfl (Ck rfl) (Ef rfl))) (λ_ _ _ _=>Yz) (λ_ _ _ _=>(Zv (Zox (K:=K) rfl) (Zz (Zlm (K:=K) rfl) (pv 1) (pv 2) (λ_ _=>rfl)) (Yo (Za (pv 0) Zb)))) (Y3 nofun))) (Z4 Tq (pv 4) (Z6 (Zv X6 (pv 6) Zd)) Yc))))
 Zy))))
 (Zh (Zx (Y1 (T:=["_law_word"]) (cs:=[0]) rfl (CScope.ok (by kernel_rfl)) (Y0 (pv 4)) (λ_ _ _ _=>(Zq (i:=0) (Y5 (by kernel_rfl)) rfl (Ck rfl) (Ef rfl))) (λ_ _ _ _=>(Ut (Zw Zac (Zt Zf Zg rfl (Za (pv 1) (Za Zd Zb))) Zd (nomark _)))) (λ_ _ _ _=>(pv 0)) (Y3 nofun)))))),?_⟩
  exists ·,sa,rfl,⟨_,SqL.of es⟩,T5 (n:=bs.length) (λj ys H'=>ys.length=j/\Same H H'/\Xp H' ys ((bs.map λb=>[b]).take j)) ⟨rfl,.refl _,by rw[Fc];exact .nil⟩ ?_ (Zo ()) ?_ ?_ ?_ ?_
  .rintro j ys H' ⟨e,_⟩;exact Bq e
  .rintro j ys H' hj ⟨_,s1,_⟩;exact Zg6 (s1 _ _ es) (by rw[Ja];exact hj)
  .rintro ys H' ⟨_,s1,_⟩;exact P0 (s1 _ _ es) (by rw[Ja];exact Jd _)
  .rintro j ys H' hj ⟨e,s1,w1⟩ y H'' hy;let⟨rfl,rfl⟩:=Zb0 (s1 _ _ es) (by rw[Ja];exact hj) hy;exists ·,by show 1<=Cb;decide,λq hq=>⟨by rw[Jc,e];rfl,s1.trans (Zr hq),?_⟩;rw[Je (by rw[Ja];exact hj)];refine L2.Paired.snoc ⟨q,rfl,?_⟩ (Xp.tk w1 (Zr hq).tk);rw[Zi,G3,G3];rfl
  .rintro ys H1 ⟨e,s1,w1⟩ wl hwl;rw[<-Ja (f:=λb:Int=>[b]),Ge]at w1;let s2:=s1.trans (Zr (o:=.lst ys) hwl);let w2:=Xp.tk w1 (Zr (o:=.lst ys) hwl).tk;let e2:(upd H1 wl (.lst ys)) wl=some (.lst ys):=Zi;let⟨_,ep⟩:=Xe hh;let nwp:wl≠p:=Cv (Zp (s1 _ _ ep) hwl);let nw0:H wl=none:=s1.free hwl;generalize upd H1 wl (.lst ys)=H2 at s2 w2 e2;refine⟨_,rfl,_,rfl,_,_,rfl,rfl,p,a,_,rfl,hh.same s2,(),(),λn0 H3 n00 n01 h3 g3 u3=>?_⟩;let inv0:WOk (bs.map λb=>[b]):=Znm nd;refine⟨n0,rfl,(),(),Zal (n:=n0.toNat) (λj σ H'=>∃wl ws v1 v2,σ=[some (.ref p),some (.ref sa),some (.int m),some (.int lg),some (.ref wl),v1,v2]/\H wl=none/\wl≠p/\Qa H' wl ws/\WOk ws/\(∀w∈ws,∀b∈w,b∈bs)/\ws≠[]/\ws.length<=bs.length+j*bs.length/\HandAt H' p a/\Grow p H H')
    ⟨wl,_,_,_,rfl,nw0,nwp,⟨ys,by rw[u3 wl nwp];exact e2,Xp.tk w2 (g3.tk (s2 _ _ ep))⟩,inv0,(λw hw b hb=>by let⟨c,hc,rfl⟩:=Jn.mp hw;rw[Jj.mp hb];exact hc),by simpa using hne,by rw[Ja];lia,h3,(Grow.same s2).trans g3⟩ ?_ ?_⟩
   .rintro j σ H4 hj ⟨wl,ws,v1,v2,rfl,nw0,nwp,⟨vs,e4,w4⟩,ok4,bn4,ne4,l4,h4,g4⟩;let lv:=Paired.length w4;let lp:0<vs.length:=by rw[lv];exact J9.mpr ne4
    let hjb:j*bs.length<=6*24:=Nat.mul_le_mul () hl;exists ·,p,a,·,h4,nofun,nofun,λr H5 r0 r1 h5 g5 u5=>?_;let e5:H5 wl=some (.lst vs):=by rw[u5 wl nwp];exact e4
    let⟨_,ep4⟩:=Xe h4;let w5:=Xp.tk w4 (g5.tk ep4);let es5:H5 sa=some (.lst (bs.map V.int)):=(g4.trans g5) _ _ es nsp;exists ·,_,·,.inl ⟨_,SqL.of e5,rfl⟩,_,·,rfl,(by show(0:Int)<_;lia),?_;let r2:0<=r % (vs.length:Int):=G5 _ ();let r3:r % (vs.length:Int)<vs.length:=G0 _ ();let⟨n,en0⟩:=Gy r2;let hn:n<vs.length:=by lia
    let⟨hn2,t,ev,et⟩:=Xp.take1 w5 hn;let atn:atI vs (r % (vs.length:Int))=some (.ref t):=by rw[en0,<-ev];exact Wh (Jb hn)
    let cut1:cutV vs none (some (r % (vs.length:Int)))=vs.take n:=by rw[en0,Zhv () (),Bd]
    let cut2:cutV vs (some (r % (vs.length:Int)+1)) none=vs.drop (n+1):=by rw[en0,Zdv () ()];congr 1
    exists ·,·,wl,_,_,·,rfl,SqL.of e5,atn,_,·,.inr ⟨_,SqT.of et,rfl⟩,·,_,·,rfl,·,?_;refine ite2 (λhlt=>?_) (λhlt=>?_)
    .let hlt':((ws[n].map V.int).length:Int)<lg:=Fg hlt;rw[Ja]at hlt';exists ·,·,·,wl,·,SqL.of e5,λq1 hq1=>?_;rw[cut1];let s6:=Zr (o:=.lst (vs.take n)) hq1;let e61:(upd H5 q1 (.lst (vs.take n))) q1=_:=Zi;let nq1:q1≠p:=by let⟨_,ep5⟩:=Xe h5;exact Cv (Zp ep5 hq1)
     generalize upd H5 q1 (.lst (vs.take n))=H6 at s6 e61;exists ·,sa,rfl,⟨_,SqL.of (s6 _ _ es5)⟩,T5 (n:=bs.length) (λj ys H'=>ys.length=j/\Same H6 H'/\Xp H' ys ((bs.map λb=>ws[n]++[b]).take j)) ⟨rfl,.refl _,by rw[Fc];exact .nil⟩ ?_ (Zo ()) ?_ ?_ ?_ ?_
     .rintro j ys H' ⟨e,_⟩;exact Bq e
     .rintro j ys H' hj ⟨_,s1,_⟩;exact Zg6 (s1 _ _ (s6 _ _ es5)) (by rw[Ja];exact hj)
     .rintro ys H' ⟨_,s1,_⟩;exact P0 (s1 _ _ (s6 _ _ es5)) (by rw[Ja];exact Jd _)
     .rintro j ys H' hj ⟨e,s1,w1⟩ y H'' hy;let⟨rfl,rfl⟩:=Zb0 (s1 _ _ (s6 _ _ es5)) (by rw[Ja];exact hj) hy;let et':=s1 _ _ (s6 _ _ et);exists ·,·,wl,_,_,·,rfl,SqL.of (s1 _ _ (s6 _ _ e5)),atn,·,by show 1<=Cb;decide,λq hq=>?_;let sq:=Zr (o:=.tup [(bs.map V.int)[j]'(by rw[Ja];exact hj)]) hq;exists t,q,_,·,rfl,SqT.of (sq _ _ et'),SqT.of Zi,?_,?_,λz=>Fh z (by simp),λ_ q2 hq2=>?_
      .let:=(ok4.2 ws[n] (Jy hn2)).1;simpa using this
      .rw[Ja];show ws[n].length+1<=Cb;exact Ga (by lia:ws[n].length+1<=10) nofun
      .exists by rw[Jc,e];rfl,(s1.trans sq).trans (Zr hq2),?_;rw[Je (by rw[Ja];exact hj)];refine L2.Paired.snoc ⟨q2,rfl,?_⟩ (Xp.tk w1 (sq.tk.trans (Zr hq2).tk));rw[Zi,G3,G3,Jg];rfl
     .rintro ys H7 ⟨e,s7,w7⟩ q3 hq3;rw[<-Ja (f:=λb:Int=>ws[n]++[b]),Ge]at w7;let s8:=s6.trans (s7.trans (Zr (o:=.lst ys) hq3));let e8:(upd H7 q3 (.lst ys)) q3=some (.lst ys):=Zi;let e81:=(s7.trans (Zr (o:=.lst ys) hq3)) _ _ e61;let w8:=Xp.tk w7 (Zr (o:=.lst ys) hq3).tk;generalize upd H7 q3 (.lst ys)=H8 at s8 e8 e81 w8;let ly:ys.length=bs.length:=by rw[Paired.length w8,Ja]
      exists q1,q3,_,·,rfl,e81,e8,?_,λq4 hq4=>?_
      .rw[J0,ly];exact Zo ()
      let s9:=s8.trans (Zr (o:=.lst (vs.take n++ys)) hq4);let e9:(upd H8 q4 (.lst (vs.take n++ys))) q4=_:=Zi;let w9:=Xp.tk w8 (Zr (o:=.lst (vs.take n++ys)) hq4).tk;generalize upd H8 q4 (.lst (vs.take n++ys))=H9 at s9 e9 w9;exists ·,·,_,·,rfl,·,wl,·,SqL.of (s9 _ _ e5),λq5 hq5=>?_;rw[cut2];let s10:=s9.trans (Zr (o:=.lst (vs.drop (n+1))) hq5);let e10:(upd H9 q5 (.lst (vs.drop (n+1)))) q5=_:=Zi;let e104:=Zr (o:=.lst (vs.drop (n+1))) hq5 _ _ e9;let w10:=Xp.tk w9 (Zr (o:=.lst (vs.drop (n+1))) hq5).tk;generalize upd H9 q5 (.lst (vs.drop (n+1)))=H10 at s10 e10 e104 w10
      exists q4,q5,_,·,rfl,e104,e10,?_,λq6 hq6=>?_
      .rw[Jc,J0,Gb,ly];exact Zo ()
      let s11:=s10.trans (Zr (o:=.lst (vs.take n++ys++vs.drop (n+1))) hq6);let w11:=Xp.tk w10 (Zr (o:=.lst (vs.take n++ys++vs.drop (n+1))) hq6).tk;let hsp:ws=ws.take n++ws[n]::ws.drop (n+1):=by
       rw[<-List.drop_eq_getElem_cons hn2,List.take_append_drop]
      let ok11:WOk (ws.take n++(bs.map λb=>ws[n]++[b])++ws.drop (n+1)):=Zjr nd (hsp ▸ ok4) ();let ws5:=Xp.tk w5 s11.tk;let⟨_,ep5⟩:=Xe h5;let nq6:q6≠p:=Cv (Zp (s10 _ _ ep5) hq6);exists q6,_,_,·,?_,nq6,⟨_,Zi,L2.Paired.app (L2.Paired.drp (n+1) ws5) (L2.Paired.app w11 (L2.Paired.tak n ws5))⟩,ok11,Zki bn4 hn2,?_,?_,h5.same s11,(g4.trans g5).trans (Grow.same s11)
      .exact(g4.trans g5).free (s10.free hq6) nq6
      .intro z;let:=congrArg Ho z;simp only[Jc,Ja,Bt]at this;lia
      .rw[Jc,Jc,J0,Gb,Ja,Jhw,Nat.one_mul];lia
    .exists wl,ws,_,·,nw0,nwp,⟨vs,e5,w5⟩,ok4,bn4,ne4,?_,h5,g4.trans g5;rw[Jhw];lia
   .rintro σ H4 ⟨wl,ws,v1,v2,rfl,nw0,nwp,⟨vs,e4,w4⟩,ok4,bn4,ne4,l4,h4,g4⟩;let lv:=Paired.length w4;let lb:ws.length<=200:=by
     let:n0.toNat*bs.length<=6*24:=Nat.mul_le_mul () hl;lia
    exists ·,wl,rfl,⟨_,SqL.of e4⟩,T5 (n:=vs.length) (λj ys H'=>∃us:List (List Int),Xp H' ys us/\us.Sublist (ws.take j)/\HandAt H' p a/\Grow p H4 H') ⟨[],.nil,List.nil_sublist _,h4,Grow.refl _ _⟩ ?_ (Zo ()) ?_ ?_ ?_ ?_
    .rintro j ys H' ⟨us,w1,sb,_⟩;let:=sb.length_le;rw[J0]at this;rw[Paired.length w1];lia
    .rintro j ys H' hj ⟨us,w1,sb,h1,g1⟩;exact Zg6 (g1 _ _ e4 nwp) hj
    .rintro ys H' ⟨us,w1,sb,h1,g1⟩;exact P0 (g1 _ _ e4 nwp) (Jd _)
    .rintro j ys H' hj ⟨us,w1,sb,h1,g1⟩ y H'' hy;let⟨rfl,rfl⟩:=Zb0 (g1 _ _ e4 nwp) hj hy;exists ·,p,a,·,h1,nofun,nofun,λr H6 r0 r1 h6 g6 u6=>⟨_,_,rfl,rfl,_,rfl,?_⟩;let⟨_,ep1⟩:=Xe h1;let hj2:j<ws.length:=by lia
     let tk:(ws.take (j+1))=ws.take j++[ws[j]]:=Je hj2;refine ite2 (λ_=>?_) (λ_=>?_)
     .exists ·,us++[ws[j]],L2.Paired.snoc ?_ (Xp.tk w1 (g6.tk ep1)),by rw[tk];exact sb.append (Jh4 _),h6,g1.trans g6;let⟨_,ep4⟩:=Xe h4;exact(L2.Paired.at w4 hj hj2).tk ((g1.trans g6).tk ep4)
     .exists us,Xp.tk w1 (g6.tk ep1),by rw[tk];exact sb.trans (List.sublist_append_left _ _),h6,g1.trans g6
    .rintro ys H5 ⟨us,w1,sb,h5,g5⟩ q hq;rw[lv,Ge]at sb;let⟨_,ep5⟩:=Xe h5;let nq:q≠p:=Cv (Zp ep5 hq);let g:=g4.trans g5;refine k q us _ (g.free hq nq) nq ⟨ys,Zi,Xp.tk w1 (Zr hq).tk⟩ (ok4.sub sb) (λw hw=>bn4 w (sb.subset hw)) ?_ (h5.same (Zr hq)) (g.trans (Grow.same (Zr hq)));let l1:=sb.length_le;let l2:n0.toNat*bs.length<=m.toNat*bs.length:=Nat.mul_le_mul () (Jd _);let l3:((m.toNat*bs.length:Nat):Int)=m*bs.length:=by rw[Int.natCast_mul];congr 1;lia
     lia
def Da(T:Txt mg)(Zf:Cal P w K mg base "_law_draw" 1 ["_law_hand","_law_many"] Su){f:Addr}(F:Fun K "_law_signs" "_law_signs" Dp f fd):FnOk P w K mg base CX0 2 f fd ["_law_hand","_law_many"] Zfm:=by
 refine F.ok Jcb (λvs H Q E h=>?_) (λcdv A outer s H vs Q E hr h=>?_)
 .let⟨p,a,m,rfl,_⟩:=h;rfl
 .let⟨p,a,m,rfl,hh,hm0,hm1,k⟩:=h;let SC:=Jcb;let Zg:Room 1 _:=hr.mono nofun;refine⟨_,(Zc (Zs (i:=2) SC.nd rfl (Ef rfl) (Zv Ul (Z3 R7 (by rfl) T.b_int Lc (Za (Ws Zac (Zt Zf Zg rfl (Za (pv 0) (Za Zd Zb))) Zd (nomark _)) Zb)) (Zv X6 (Zv Ul (Zt Zf Zg rfl (Za (pv 0) (Za Zd Zb))) (Zv Zgt Zd Zd)) (Zt Zf Zg rfl (Za (pv 0) (Za Zd Zb))))))
 (Zc (Zs (i:=3) SC.nd rfl (Ef rfl) (Zv X6 Zd (Zz Xd (Yh (Za Zd (Za (Zt Zf Zg rfl (Za (pv 0) (Za Zd Zb))) (Za (Zt Zf Zg rfl (Za (pv 0) (Za (Zv Zgt Zd Zd) Zb))) Zb)))) (Zt Zf Zg rfl (Za (pv 0) (Za Zd Zb))) (λ_ _=>rfl))))
 (Zc (Uu (i:=4) SC.nd rfl rfl (T:=["_law_k"]) (cs:=[2,3]) rfl (CScope.ok (by kernel_rfl)) (Yb rfl T.b_range (Za (pv 1) Zb)) (λ_ _ _ _=>(Zq (i:=0) (Y5 (by kernel_rfl)) rfl (Ck rfl) (Ef rfl))) (λ_ _ _ _=>Yz) (λ_ _ _ _=>(Zv X6 (pv 1) (Zv Ul (pv 2) (pv 0)))) (Y3 nofun))
 (Zc (Zs (i:=5) SC.nd rfl (Ck rfl) (Zv Yr (Zt Zf Zg rfl (Za (pv 0) (Za Zd Zb))) (Zm (Rz rfl) (by rfl) T.b_max Ka (Za Zd (Za (pv 1) Zb)))))
 (Zc (Zs (i:=4) SC.nd rfl (Ck rfl) (Zv Zad (Z4 Tq (pv 4) (Z6 (pv 5)) Yc) (Z4 Tq (pv 4) Yc (Z6 (pv 5)))))
 (Zc (Yn (Zw Zjy (Zt Zf Zg rfl (Za (pv 0) (Za Zd Zb))) Zd (nomark _))
 (Zh (Zx (Zgn (pv 4) (Z6 (Zne Ze4 Zd)) (λ_ _=>⟨_,rfl⟩))))
 Zy)
 (Zh (Zx (pv 4))))))))),?_⟩
  exists ·,p,a,·,hh,nofun,nofun,λr1 H1 r10 r11 h1 g1 u1=>⟨_,_,rfl,rfl,.inr ⟨_,rfl,_,rfl,p,a,_,rfl,h1,nofun,nofun,λr2 H2 r20 r21 h2 g2 u2=>⟨_,_,rfl,rfl,⟨nofun,nofun,nofun⟩,_,_,rfl,rfl,.inl ⟨(),()⟩,_,rfl,p,a,_,rfl,h2,nofun,nofun,λr3 H3 r30 r31 h3 g3 u3=>⟨_,_,rfl,rfl,_,_,rfl,rfl,.inl ?_,?_⟩⟩⟩⟩
  .split<;>exact⟨nofun,nofun⟩
  obtain⟨bg,hbg⟩:∃bg:Int,bg=(if decide (0<r1)=true then(1:Int)else 0)*(r2*10 ^ Int.toNat 6+r3):=⟨_,rfl⟩;let g30:=(g1.trans g2).trans g3;exists ·,p,a,·,h3,nofun,nofun,λr4 H4 r40 r41 h4 g4 u4=>⟨_,rfl,_,_,rfl,rfl,⟨nofun,nofun,nofun⟩,p,a,_,rfl,h4,nofun,nofun,λr5 H5 r50 r51 h5 g5 u5=>⟨by show 3<=Cb;decide,λlq hlq=>?_⟩⟩;let s6:=Zr (o:=.lst [.int 0,.int r4,.int r5]) hlq;let⟨_,ep5⟩:=Xe h5;let nlq:lq≠p:=Cv (Zp ep5 hlq);let elq:(upd H5 lq (.lst [.int 0,.int r4,.int r5])) lq=_:=Zi;let h6:=h5.same s6;let g60:=g30.trans (g4.trans (g5.trans (Grow.same s6)))
  generalize upd H5 lq (.lst [.int 0,.int r4,.int r5])=H6 at s6 elq h6 g60;exists ·,p,a,·,h6,nofun,nofun,λr6 H7 r60 r61 h7 g7 u7=>?_;let elq7:H7 lq=some (.lst [.int 0,.int r4,.int r5]):=by rw[u7 lq nlq];exact elq
  let⟨v,hv,ev⟩:=Zkk (xs:=[V.int 0,.int r4,.int r5]) r60 (by simpa using r61);obtain⟨c,rfl,hc⟩:∃c:Int,v=.int c/\0<=c:=by
   simp only[Jp,Je7,or_false]at hv;rcases hv with z|z|z<;>exact⟨_,z,()⟩
  let r51':r5<10000000:=r51;let hc2:c<10000000:=by
   simp only[Jp,Je7,or_false]at hv;rcases hv with z|z|z<;>injection z with z<;>lia
  exists lq,_,_,·,rfl,SqL.of elq7,ev,_,·,rfl,?_;exists ·,m,rfl,(),(),T5 (n:=m.toNat) (λj ys H'=>H'=H7/\ys=((Ec j).map λk:Nat=>bg+(1+c)*(k:Int)).map V.int) ⟨rfl,rfl⟩ ?_ (Zo ()) ?_ ?_ ?_ ?_
  .rintro j ys H' ⟨rfl,rfl⟩;rw[Ja,Ja,G9];exact Jd _
  .rintro j ys H' hj _;exact hj
  .rintro ys H' _;exact Jd _
  .rintro j ys H' hj ⟨rfl,rfl⟩ x H8 ⟨rfl,rfl⟩;exists ·,·,·,_,·,rfl,.inl ⟨(),()⟩,_,·,rfl,rfl,?_;rw[Jc9,Jg,Jg,B5,hbg];rfl
  .rintro ys H' ⟨rfl,rfl⟩ l hl;generalize hss:(Ec m.toNat).map (λk:Nat=>bg+(1+c)*(k:Int))=ss;let nd:ss.Nodup:=by rw[<-hss];exact Zfj () _
   let ls:(ss.length:Int)=m:=by rw[<-hss,Ja,G9];lia
   let s8:=Zr (o:=.lst (ss.map V.int)) hl;let e8:(upd H' l (.lst (ss.map V.int))) l=_:=Zi;let⟨_,ep7⟩:=Xe h7;let nl:l≠p:=Cv (Zp ep7 hl);let h8:=h7.same s8;let g80:=(g60.trans g7).trans (Grow.same s8);generalize upd H' l (.lst (ss.map V.int))=H8 at s8 e8 h8 g80;exists ·,p,a,·,h8,nofun,nofun,λr9 H9 r90 r91 h9 g9 u9=>⟨_,rfl,_,_,rfl,_,_,rfl,rfl,?_,?_⟩
   .show(0:Int)<if m > 1 then m else 1
    split<;>lia
   let e9:H9 l=some (.lst (ss.map V.int)):=by rw[u9 l nl];exact e8
   let z0:0<=r9 % (if m > 1 then m else 1):=G5 _ (by split<;>lia);let z1:r9 % (if m > 1 then m else 1)<=ss.length:=by
    rw[ls];let:=G0 r9 (show(0:Int)<if m > 1 then m else 1 by split<;>lia)
    by_cases hm:m > 1
    .rw[Fp hm]at this⊢;lia
    .rw[Fo hm]at this⊢;lia
   let⟨n,en⟩:=Gy z0;let cut1:cutV (ss.map V.int) (some (r9 % (if m > 1 then m else 1))) none=(ss.drop n).map V.int:=by rw[en,Zdv () (by rw[Ja];lia),Fe];rfl
   let cut2:cutV (ss.map V.int) none (some (r9 % (if m > 1 then m else 1)))=(ss.take n).map V.int:=by rw[en,Zhv () (by rw[Ja];lia),Bj];rfl
   exists ·,·,·,l,·,SqL.of e9,λq1 hq1=>?_;rw[cut1];let sA:=Zr (o:=.lst ((ss.drop n).map V.int)) hq1;let eA:(upd H9 q1 (.lst ((ss.drop n).map V.int))) q1=_:=Zi;generalize upd H9 q1 (.lst ((ss.drop n).map V.int))=HA at sA eA;exists ·,·,·,l,·,SqL.of (sA _ _ e9),λq2 hq2=>?_;rw[cut2];let sB:=sA.trans (Zr (o:=.lst ((ss.take n).map V.int)) hq2);let eB:(upd HA q2 (.lst ((ss.take n).map V.int))) q2=_:=Zi;let eB1:=Zr (o:=.lst ((ss.take n).map V.int)) hq2 _ _ eA;generalize upd HA q2 (.lst ((ss.take n).map V.int))=HB at sB eB eB1;exists q1,q2,_,·,rfl,eB1,eB,?_,λq3 hq3=>?_
   .rw[Ja,Ja,Gb,J0];exact Zo ()
   rw[<-Jg];let nd2:=Zea nd n;let ls2:((ss.drop n++ss.take n).length:Int)=m:=by rw[Jc,Gb,J0];lia
   generalize ss.drop n++ss.take n=tt at nd2 ls2;let sC:=sB.trans (Zr (o:=.lst (tt.map V.int)) hq3);let eC:(upd HB q3 (.lst (tt.map V.int))) q3=_:=Zi;let⟨_,ep9⟩:=Xe h9;let nq3:q3≠p:=Cv (Zp (sB _ _ ep9) hq3);let n30:H q3=none:=(g80.trans g9).free (sB.free hq3) nq3;let hC:=h9.same sC;let gC:=(g80.trans g9).trans (Grow.same sC);generalize upd HB q3 (.lst (tt.map V.int))=HC at sC eC hC gC;exists ·,p,a,·,hC,nofun,nofun,λrd HD rd0 rd1 hD gD uD=>⟨rfl,_,rfl,?_⟩;let eD:HD q3=some (.lst (tt.map V.int)):=by rw[uD q3 nq3];exact eC
   refine ite2 (λ_=>?_) (λ_=>?_)
   .exists ·,·,·,rfl,q3,·,SqL.of eD,λq4 hq4=>?_;rw[<-Jcp];let sE:=Zr (o:=.lst (tt.reverse.map V.int)) hq4;let⟨_,epD⟩:=Xe hD;let nq4:q4≠p:=Cv (Zp epD hq4);exact k q4 tt.reverse _ ((gC.trans gD).free hq4 nq4) nq4 Zi ((Jel tt).nodup_iff.mpr nd2) (by rw[B6];exact ls2) (hD.same sE) ((gC.trans gD).trans (Grow.same sE))
   .exists ·,k q3 tt HD n30 nq3 eD nd2 ls2 hD (gC.trans gD)
open L3
def Jay(T:Txt mg)(Zf:Cal P w K mg base "_law_draw" 1 ["_law_hand","_law_many"] (spOf ⟨C,K⟩ dDraw)){f:Addr}(F:Fun K "_law_table" "_law_table" D0 f fd):FnOk P w K mg base CX0 2 f fd ["_law_hand","_law_words_here","_law_signs_here"] (spOf ⟨C,K⟩ dTable):=by
 refine L3.Fun.ok3 F D7 (λds M K3 h=>?_) (λcdv A outer s H E hr=>?_)
 .let⟨k0,ws,ss,rfl,_⟩:=h;rfl
 .let SC:=D7;let hu:=hr.units;let hu1:=Xh hr;let Zg:Room 1 _:=hr.mono nofun;refine⟨_,_,(Zc (Zs (i:=3) SC.nd rfl (Ck rfl) (Zv Yr (Zt Zf Zg rfl (Za (pv 0) (Za Zd Zb))) (Zm (Rz rfl) (by rfl) T.b_max Ka (Za Zd (Za (Zm (Z7 (K:=K) rfl) (by rfl) T.b_len Fv (Za (pv 2) Zb)) Zb)))))
 (Zc (Zs (i:=4) SC.nd rfl (Ef rfl) (Zv (Yw (K':=K) rfl) (Z4 (Wi (K':=K) rfl) (pv 2) (Z6 (pv 3)) Yc) (Z4 (Wi (K':=K) rfl) (pv 2) Yc (Z6 (pv 3)))))
 (Zc (Uu (i:=5) SC.nd rfl rfl (T:=["_law_k"]) (cs:=[4,1]) rfl (CScope.ok (by kernel_rfl)) (Yb rfl T.b_range (Za (Zm (Z7 (K:=K) rfl) (by rfl) T.b_len Fv (Za (pv 1) Zb)) Zb)) (λ_ _ _ _=>(Zq (i:=0) (Y5 (by kernel_rfl)) rfl (Ck rfl) (Ef rfl))) (λ_ _ _ _=>Yz) (λ_ _ _ _=>(Yo (Za (Zz (Z8 (K':=K) rfl) (pv 1) (pv 0) (λ_ _=>rfl)) (Za (Zz (Z8 (K':=K) rfl) (pv 2) (pv 0) (λ_ _=>rfl)) Zb)))) (Y3 nofun))
 (Zc (Yn (Zw (Xg (K':=K) rfl hu) (Zt Zf Zg rfl (Za (pv 0) (Za Zd Zb))) Zd (nomark _))
 (Zh (Zx (Zgn (pv 5) (Z6 (Zne Ze4 Zd)) (λ_ _=>⟨_,rfl⟩))))
 Zy)
 (Zh (Zx (pv 5))))))),λ_=>(Z1 (by symm) (Z1 (by symm) (Z1 (by symm) (Z1 (Uq (by symm) (Vl (Zqo (Z5 5) (by symm))) X9) (Vl (Z5 5)))))),λds M Kk hM hD h=>?_⟩
  let⟨k0,ws,ss,rfl,h⟩:=h;let⟨hh,⟨ok,lw,nd,l1,l2⟩,k⟩:=h;let lm:(ws.map wD).length=ws.length:=Ja _;let lss:(ss.map D.int).length=ss.length:=Ja _;exists ·,k0,60,rfl,hh,⟨nofun,nofun⟩,λr r0 r1=>?_;exists ·,?_;refine Vi (xs:=ss.map .int) rfl ?_;exists _,·,_,·,rfl,?_,?_
  .rw[lss]
   split<;>lia
  rw[lss];let⟨a,ea⟩:=Gy (G5 r (b:=if((ss.length:Nat):Int) > 1 then((ss.length:Nat):Int)else 1) (by split<;>lia))
  try dsimp only
  rw[ea];refine⟨_,rfl,_,rfl,_,rfl,?_⟩;refine⟨_,rfl,_,rfl,_,rfl,?_⟩;refine⟨_,rfl,?_⟩;refine Sv (d:=.lst (ss.map D.int)) (xs:=ss.map .int) rfl ?_;rw[W7,X2,<-Fe,<-Bj];refine Pc (xs:=(ss.drop a).map .int) (ys:=(ss.take a).map .int) rfl rfl (by rw[Ja,Ja,Gb,J0];exact Zo ()) ?_;rw[<-Jg];let pm:(ss.drop a++ss.take a).Perm ss:=by
   let:=List.perm_append_comm (l₁:=ss.drop a) (l₂:=ss.take a);rwa [List.take_append_drop]at this
  generalize ss.drop a++ss.take a=tt at pm;let nt:tt.Nodup:=pm.nodup_iff.mpr nd;let lt:tt.length=ss.length:=pm.length_eq;let lz:(tt.zip ws).length=ws.length:=by rw[List.length_zip];lia
  let az:∀j(h1:j<tt.length)(h2:j<ws.length),(tt.zip ws)[j]?=some (tt[j],ws[j]):=λj h1 h2=>by rw[Jb (),List.getElem_zip]
  let fr:Free (tt.zip ws):=ok.free nt;let sn:(tt.zip ws).map (·.2)=ws:=Je5 (l₁:=tt) (l₂:=ws) ();let fi:Fits (tt.zip ws):=⟨(),λp hp=>ok.2 _ (by rw[<-sn];exact Jn.mpr ⟨p,hp,rfl⟩)⟩;generalize tt.zip ws=L at lz az fr sn fi;exists ·,?_;refine Vi (xs:=ws.map wD) rfl ?_;exists ·,⟨(),()⟩,?_,λi ys M'=>M=M'/\ys=(L.take i).map pD,λ_ _ _ _ _=>trivial,⟨rfl,rfl⟩,?_,?_
  .exact Zo (by show((ws.map wD).length:Int).toNat<=_;lia)
  .rintro i x ys _ hi rfl ⟨rfl,rfl⟩;let hi:i<ws.length:=by
    let:i<((ws.map wD).length:Int).toNat:=hi;lia
   exists ·,·,_,_,·,rfl,Ve (as:=tt) (j:=i) () (),·,·,_,_,·,rfl,Ve (f:=wD) (as:=ws) (j:=i) () hi,(show 2<=Cb by decide),rfl,?_;let ea:=az i () hi;rw[Jb ()]at ea;rw[Je (),Jg,Fu ea];rfl
  .rintro ys _ ⟨rfl,rfl⟩;let eL:L.take (Zf7 0 ((ws.map wD).length:Int).toNat).n=L:=by
    show L.take ((ws.map wD).length:Int).toNat=L;rw[Ja,Bd,<-lz,Ge]
   rw[eL];exists ·,k0,2,rfl,hh,⟨nofun,nofun⟩,λz _ _=>.inl ⟨_,rfl,_,rfl,ite2 (λ_=>?_) (λ_=>?_)⟩
   .exists ·,·,·,rfl,·,?_;rw[<-Jcp];exact .inl (k L.reverse fr.rev ⟨by rw[B6];exact fi.1,λp hp=>fi.2 p (List.mem_reverse.mp hp)⟩ (by rw[Jcp,sn];exact Jel _))
   .exists ·,.inl (k L fr fi (by rw[sn]))
def Dj(T:Txt mg)(Zf:Cal P w K mg base "_law_draw" 1 ["_law_hand","_law_many"] Su){f:Addr}(F:Fun K "_law_text" "_law_text" Jai f fd):FnOk P w K mg base CX0 2 f fd ["_law_hand","_law_signs_here","_law_most"] Zku:=by
 refine F.ok Jaj (λvs H Q E h=>?_) (λcdv A outer s H vs Q E hr h=>?_)
 .let⟨p,a,sa,ss,m,rfl,_⟩:=h;rfl
 .let⟨p,a,sa,ss,m,rfl,hh,es,nsp,hm0,hm1,k⟩:=h;let SC:=Jaj;let hu:=hr.units;let Zg:Room 1 _:=hr.mono nofun;refine⟨_,(Zc (Yn (Zw (Zgv hu) (pv 1) (Yh Zb) (nomark _))
 (Zh (Zx (Yh Zb)))
 Zy)
 (Zh (Zx (Y1 (T:=["_law_k"]) (cs:=[1,0]) rfl (CScope.ok (by kernel_rfl)) (Yb rfl T.b_range (Za (Zt Zf Zg rfl (Za (pv 0) (Za (Zv X6 (pv 2) Zd) Zb))) Zb)) (λ_ _ _ _=>(Zq (i:=0) (Y5 (by kernel_rfl)) rfl (Ck rfl) (Ef rfl))) (λ_ _ _ _=>Yz) (λ_ _ _ _=>(Zz (Zlm (K:=K) rfl) (pv 1) (Zv Yr (Zt Zf Zg rfl (Za (pv 2) (Za Zd Zb))) (Zm (Z7 (K:=K) rfl) (by rfl) T.b_len Fv (Za (pv 1) Zb))) (λ_ _=>rfl))) (Y3 nofun))))),?_⟩
  exists ·,by show 0<=Cb;decide,λq0 hq0=>?_;let s1:=Zr (o:=.lst []) hq0;exists _,_,DV.lst (SqL.of (s1 _ _ es)) (Ng ss),DV.lst (SqL.of Zi) .nil,(Sl ss).shaped nofun,(Sl []).shaped nofun,·,?_;let h1:=hh.same s1;generalize upd H q0 (.lst [])=H1 at s1 h1;let en:Ed (.list (ss.map Hj)) (.list [])=decide (ss=[]):=Zoh ss [];rw[en];let⟨_,ep⟩:=Xe hh;refine ite2 (λhz=>?_) (λhz=>?_)
  .exists by show 0<=Cb;decide,λq hq=>?_;let s2:=s1.trans (Zr (o:=.lst []) hq);let nq:q≠p:=Cv (Zp (s1 _ _ ep) hq);exact k q [] _ (s1.free hq) nq Zi (λ_ z=>nomatch z) (by simpa using hm0) (hh.same s2) (Grow.same s2)
  .let hne:ss≠[]:=Fi (Jcq _ ▸ hz);exists ·,·,_,·,rfl,p,a,·,h1,(),(),λn0 H2 n00 n01 h2 g2 u2=>?_;let es2:=g2 _ _ (s1 _ _ es) nsp;exists n0,rfl,(),(),T5 (n:=n0.toNat) (λj ys H'=>∃ts:List Int,ys=ts.map V.int/\ts.length=j/\(∀t∈ts,t∈ss)/\HandAt H' p a/\Grow p H2 H') ⟨[],rfl,rfl,(λ_ z=>nomatch z),h2,Grow.refl _ _⟩ ?_ (Zo ()) ?_ ?_ ?_ ?_
   .rintro j ys H' ⟨ts,rfl,rfl,_⟩;rw[Ja];exact Jd _
   .rintro j ys H' hj _;exact hj
   .rintro ys H' _;exact Jd _
   .rintro j ys H3 hj ⟨ts,rfl,rfl,hm,h3,g3⟩ y H'' ⟨rfl,rfl⟩;exists ·,·,p,a,·,h3,nofun,nofun,λr H4 r0 r1 h4 g4 u4=>?_;let es4:=(g3.trans g4) _ _ es2 nsp;let⟨c,hc,hat⟩:=Zci hne r;exists ·,_,·,.inl ⟨_,SqL.of es4,rfl⟩,_,·,rfl,?_,sa,_,_,·,rfl,SqL.of es4,hat,?_
    .rw[Ja];let:=J9.mpr hne;lia
    exists ts++[c],by rw[Jg];rfl,by rw[Jc];rfl,λt ht=>?_,h4,g3.trans g4;rcases Jt.mp ht with ht|ht
    .exact hm t ht
    .rw[Jj.mp ht];exact hc
   .rintro ys H3 ⟨ts,rfl,lt,hm,h3,g3⟩ q hq;let g:=((Grow.same s1).trans g2).trans g3;let⟨_,ep3⟩:=Xe h3;let nq:q≠p:=Cv (Zp ep3 hq);exact k q ts _ (g.free hq nq) nq Zi hm () (h3.same (Zr hq)) (g.trans (Grow.same (Zr hq)))
def F2(T:Txt mg)(Zf:Cal P w K mg base "_law_draw" 1 ["_law_hand","_law_many"] Su){f:Addr}(F:Fun K "_law_row" "_law_row" F7 f fd):FnOk P w K mg base CX0 2 f fd ["_law_hand","_law_some","_law_words_here","_law_most"] Zkv:=by
 refine F.ok Dx (λvs H Q E h=>?_) (λcdv A outer s H vs Q E hr h=>?_)
 .let⟨p,a,sa,wa,bs,ws,m,rfl,_⟩:=h;rfl
 .let⟨p,a,sa,wa,bs,ws,m,rfl,hh,es,nsp,hne,⟨vs,ew,pw⟩,nwp,hw,lw,m0,m1,k⟩:=h;let SC:=Dx;let hu:=hr.units;let Zg:Room 1 _:=hr.mono nofun;let lv:=Paired.length pw;let lb:0<bs.length:=J9.mpr hne;let⟨_,ep⟩:=Xe hh;let na:∀l,H l=none->l≠a:=λl e z=>by
   let⟨_,_,_,_,x2,_⟩:=hh.ex;rw[z,x2]at e;cases e
  refine⟨_,(Zc (Zs (i:=4) SC.nd rfl (Ck rfl) (Yh Zb))
 (Zc (X5 C1 rfl (Yb rfl T.b_range (Za (Zt Zf Zg rfl (Za (pv 0) (Za (Zv X6 (pv 3) Zd) Zb))) Zb)) (Zq (i:=5) SC.nd rfl (Ck rfl))
 (Zc (Zs (i:=6) SC.nd rfl (Ck rfl) (Zt Zf Zg rfl (Za (pv 0) (Za Zd Zb))))
 (Zh (Yn (Zw Zjy (pv 6) Zd (nomark _))
 (Zh (Wb (Ql C7 C5 C6 Xl (pv 4) (Za (Zt Zf Zg rfl (Za (pv 0) (Za Zd Zb))) Zb))))
 (Zh (Yn (PW.pt (Zjm (Zw Zab (pv 6) Zd (nomark _)) (Zge (Zw (Zgv hu) (pv 2) (Yh Zb) (nomark _)))))
 (Zh (Wb (Ql C7 C5 C6 Xl (pv 4) (Za (Zz Xd (pv 1) (Zv Yr (Zt Zf Zg rfl (Za (pv 0) (Za Zd Zb))) (Zm X7 (by rfl) T.b_len Fv (Za (pv 1) Zb))) (λ_ _=>rfl)) Zb))))
 (Zc (Zs (i:=7) SC.nd rfl (Ck rfl) (Zz Xd (pv 2) (Zv Yr (Zt Zf Zg rfl (Za (pv 0) (Za Zd Zb))) (Zm X7 (by rfl) T.b_len Fv (Za (pv 2) Zb))) (λ_ _=>rfl)))
 (Zh (Zs (i:=4) SC.nd rfl (Ck rfl) (Zv Zad (pv 4) (Z3 Sf (by rfl) T.b_list Cz (Za (Z4 Zfr (pv 7) Yc (Z6 (Zv Zdi (Zm X7 (by rfl) T.b_len Fv (Za (pv 7) Zb)) (Z3 R7 (by rfl) T.b_int Lc (Za (Ws Zjy (pv 6) Zd (nomark _)) Zb))))) Zb))))))))))))
 (Zh (Zx (pv 4))))),?_⟩
  refine⟨by show 0<=Cb;decide,λl0 hl0=>?_⟩;let s1:=Zr (o:=.lst []) hl0;let el0:(upd H l0 (.lst [])) l0=_:=Zi;let h1:=hh.same s1;let nl0:l0≠p:=Cv (Zp ep hl0);generalize upd H l0 (.lst [])=H1 at s1 el0 h1;refine⟨_,rfl,_,rfl,_,_,rfl,rfl,p,a,_,rfl,h1,(),(),λn0 H2 n00 n01 h2 g2 u2=>?_⟩;refine⟨n0,rfl,(),(),Zal (n:=n0.toNat) (λj σ H'=>∃(l:Addr)(ns:List Int)(v5 v6 v7:Option V),σ=[some (.ref p),some (.ref sa),some (.ref wa),some (.int m),some (.ref l),v5,v6,v7]/\H l=none/\l≠p/\H' l=some (.lst (ns.map V.int))/\ns.length<=4*j/\HandAt H' p a/\Grow p H H')
   ⟨l0,[],_,_,_,rfl,hl0,nl0,by rw[u2 _ nl0];exact el0,J8 _,h2,(Grow.same s1).trans g2⟩ ?_ ?_⟩
  .rintro j σ H3 hj ⟨l,ns,v5,v6,v7,rfl,nl,nlp,el,lns,h3,g3⟩;exists ·,p,a,·,h3,nofun,nofun,λwy H4 w0 w1 h4 g4 u4=>?_;let el4:H4 l=some (.lst (ns.map V.int)):=by rw[u4 _ nlp];exact el
   let g40:=g3.trans g4;let put:∀(Hx:Hp)(c:Int),HandAt Hx p a->Grow p H Hx->(∃(l':Addr)(ns':List Int)(u5 u6 u7:Option V),[some (V.ref p),some (.ref sa),some (.ref wa),some (.int m),some (.ref l),some (.int (0+(j:Int))),some (.int wy),v7]=[some (V.ref p),some (.ref sa),some (.ref wa),some (.int m),some (.ref l'),u5,u6,u7]/\H l'=none/\l'≠p/\(upd Hx l (.lst (ns.map V.int++[.int c]))) l'=some (.lst (ns'.map V.int))/\ns'.length<=4*(j+1)/\HandAt (upd Hx l (.lst (ns.map V.int++[.int c]))) p a/\Grow p H (upd Hx l (.lst (ns.map V.int++[.int c])))):=λHx c hx gx=>by
    exists l,ns++[c],_,_,·,nl,nlp,?_,?_,hx.put nlp (na l nl),λb o e n=>?_
    .rw[Zi,Jg];rfl
    .rw[Jc,Gj];lia
    .rw[Zk (Zp e nl)];exact gx b o e n
   let lsz:(ns.map V.int).length<Cb:=by
    rw[Ja];exact Gw (by lia:ns.length<=100) nofun
   exists ·,rfl,·,?_;refine ite2 (λ_=>?_) (λ_=>?_)
   .exists ·,.inl ⟨rfl,_,SqL.of el4⟩,·,p,a,·,h4,nofun,nofun,λc H5 c0 c1 h5 g5 u5=>?_;let el5:H5 l=some (.lst (ns.map V.int)):=by rw[u5 _ nlp];exact el4
    exists l,_,·,rfl,el5,lsz,put H5 c h5 (g40.trans g5)
   .refine Zn3 (λH'=>HandAt H' p a/\Grow p H H'/\H' l=some (.lst (ns.map V.int))) ?_ (λgo=>?_)
    .rintro H5 ⟨h5,g5,el5⟩;exists ·,.inl ⟨rfl,_,SqL.of el5⟩,·,·,p,a,·,h5,nofun,nofun,λr H6 r0 r1 h6 g6 u6=>?_;let el6:H6 l=some (.lst (ns.map V.int)):=by rw[u6 _ nlp];exact el5
     let es6:=(g5.trans g6) _ _ es nsp;let⟨c,ec⟩:=Zss hne r;exists ·,_,·,.inl ⟨_,SqL.of es6,rfl⟩,_,·,rfl,(by show(0:Int)<_;rw[Ja];lia),sa,_,_,·,rfl,SqL.of es6,ec,l,_,·,rfl,el6,lsz,put H6 c h6 (g5.trans g6)
    .exists ·,_,·,rfl,·,?_;refine ite2 (λ_=>?_) (λ_=>?_)
     .exact iteT (go _ ⟨h4,g40,el4⟩)
     .let ew4:=g40 _ _ ew nwp;let pw4:=Xp.tk pw (g40.tk ep);exists ·,J8 _,λq0 hq0=>⟨_,_,DV.lst (SqL.of ((Zr hq0) _ _ ew4)) (Zas (Xp.tk pw4 (Zr hq0).tk)),DV.lst (SqL.of Zi) .nil,(Zft ws).shaped nofun,(Sl []).shaped nofun,_,rfl,?_⟩;rw[Zka];let s5:=Zr (o:=.lst []) hq0;let h5:=h4.same s5;let g5:=g40.trans (Grow.same s5);let el5:=s5 _ _ el4;generalize upd H4 q0 (.lst [])=H5 at s5 h5 g5 el5;refine ite2 (λ_=>?_) (λhw0=>?_)
      .exact go _ ⟨h5,g5,el5⟩
      .let hwn:ws≠[]:=Fi (Jcq _ ▸ hw0);let lwp:0<ws.length:=J9.mpr hwn;exists ·,·,p,a,·,h5,nofun,nofun,λr H6 r0 r1 h6 g6 u6=>?_;let el6:H6 l=some (.lst (ns.map V.int)):=by rw[u6 _ nlp];exact el5
       let g60:=g5.trans g6;let ew6:=g60 _ _ ew nwp;let pw6:=Xp.tk pw (g60.tk ep);let r2:0<=r % (vs.length:Int):=G5 _ ();let r3:r % (vs.length:Int)<vs.length:=G0 _ ();let⟨n,en0⟩:=Gy r2;let hn:n<vs.length:=by lia
       let⟨hn2,t,ev,et⟩:=Xp.take1 pw6 hn;let atn:atI vs (r % (vs.length:Int))=some (.ref t):=by rw[en0,<-ev];exact Wh (Jb hn)
       refine⟨_,rfl,_,_,rfl,.inl ⟨_,SqL.of ew6,rfl⟩,_,_,rfl,rfl,(by show(0:Int)<_;lia),wa,_,_,_,rfl,rfl,SqL.of ew6,atn,?_⟩;let⟨hwn1,hwn2⟩:=hw _ (Jy hn2);let hwp:=J9.mpr hwn1;let lwm:(ws[n].map V.int).length=ws[n].length:=Ja _;refine⟨_,rfl,_,rfl,_,rfl,_,_,rfl,.inr ⟨_,SqT.of et,rfl⟩,_,rfl,rfl,.inr ⟨_,rfl,_,_,rfl,rfl,_,rfl,?_⟩⟩;rw[lwm];obtain⟨dd,edd,hdd⟩:∃dd:Int,dd=(if decide (V.int wy=V.int 4)=true then(1:Int)else 0)/\(dd=0\/dd=1):=⟨_,rfl,by split<;>simp⟩;rw[<-edd];refine Zm3 et () () (λt2 H7 s7 et2=>?_);refine⟨t2,_,rfl,.inr (SqT.of et2),λq1 hq1=>?_⟩;generalize hu2:ws[n].take ((ws[n].length:Int)-dd).toNat=u at et2 hq1
       let lu:u.length<=4:=by
        rw[<-hu2,J0];lia
       let s8:=s7.trans (Zr (o:=.lst (u.map V.int)) hq1);let eq1:(upd H7 q1 (.lst (u.map V.int))) q1=_:=Zi;generalize upd H7 q1 (.lst (u.map V.int))=H8 at s8 eq1;exists l,q1,_,·,rfl,s8 _ _ el6,eq1,?_,λq2 hq2=>?_
       .rw[Ja,Ja];exact Zo ()
       let⟨_,ep6⟩:=Xe h6;let nq2:q2≠p:=Cv (Zp (s8 _ _ ep6) hq2);let s9:=s8.trans (Zr (o:=.lst (ns.map V.int++u.map V.int)) hq2);exists q2,ns++u,_,_,·,g60.free (s8.free hq2) nq2,nq2,?_,?_,h6.same s9,g60.trans (Grow.same s9)
       .rw[Zi,Jg]
       .rw[Jc];lia
  .rintro σ H3 ⟨l,ns,v5,v6,v7,rfl,nl,nlp,el,lns,h3,g3⟩;exists ·,k l ns H3 nl nlp el () h3 g3
open L3
def Dy(T:Txt mg){f:Addr}(F:Fun K "odds_between" "odds_between" Wq f fd):FnOk P w K mg base CX0 1 f fd ["one","other"] (spOf ⟨C,K⟩ dApart):=by
 refine L3.Fun.ok3 F D1 (λds M K3 h=>?_) (λcdv A outer s H E hr=>?_)
 .let⟨p,q,rfl,_⟩:=h;rfl
 .let SC:=D1;let hu:=hr.units;let hu1:=Xh hr;refine⟨_,_,(Zc (Yn (Zw (Xg (K':=K) rfl hu) (Zz (Z8 (K':=K) rfl) (pv 0) Zd (λ_ _=>rfl)) (Zz (Z8 (K':=K) rfl) (pv 1) Zd (λ_ _=>rfl)) (nomark _))
 (Zh (Zx Yx))
 Zy)
 (Zc (Zs (i:=2) SC.nd rfl (Ck rfl) (Zm (Zh2 rfl) (by rfl) T.b_min Jhd (Za (Zm (Z7 (K:=K) rfl) (by rfl) T.b_len Fv (Za (Zz (Z8 (K':=K) rfl) (pv 0) Zd (λ_ _=>rfl)) Zb)) (Za (Zm (Z7 (K:=K) rfl) (by rfl) T.b_len Fv (Za (Zz (Z8 (K':=K) rfl) (pv 1) Zd (λ_ _=>rfl)) Zb)) Zb))))
 (Zc (Yn (Zw (Xg (K':=K) rfl hu) (Z4 (Wi (K':=K) rfl) (Zz (Z8 (K':=K) rfl) (pv 0) Zd (λ_ _=>rfl)) Yc (Z6 (pv 2))) (Z4 (Wi (K':=K) rfl) (Zz (Z8 (K':=K) rfl) (pv 1) Zd (λ_ _=>rfl)) Yc (Z6 (pv 2))) (nomark _))
 (Zh (Zx Yx))
 Zy)
 (Zh (Zx Zgo))))),λ_=>(by symm),λds M Kk hM hD h=>?_⟩
  let⟨p,q,rfl,h⟩:=h;let⟨ap,k⟩:=h;refine⟨_,rfl,_,_,_,rfl,rfl,rfl,_,rfl,_,_,_,rfl,rfl,rfl,Rv We (a:=p.1) (b:=q.1) ⟨_,rfl,ite2 (λh=>Fh (Fg h) ap.1) (λ_=>?_)⟩⟩;refine⟨_,rfl,_,_,_,rfl,rfl,rfl,_,rfl,_,rfl,_,_,_,rfl,rfl,rfl,_,rfl,_,_,rfl,?_⟩;let lp:(p.2.map D.int).length=p.2.length:=Ja _;let lq:(q.2.map D.int).length=q.2.length:=Ja _;rw[lp,lq,show(if(q.2.length:Int)<(p.2.length:Int)then(q.2.length:Int)else(p.2.length:Int))=((min p.2.length q.2.length:Nat):Int)by split<;>lia];refine g_nx ?_
  try dsimp only
  exists ·,_,_,·,rfl,rfl,·,·,Zqm ⟨_,rfl,_,_,_,rfl,rfl,rfl,_,rfl,_,rfl,Zqm (Rv (Rw We) (a:=p.2.take (min p.2.length q.2.length)) (b:=q.2.take (min p.2.length q.2.length)) ⟨_,rfl,ite2 (λh=>Fh (Fg h) (Zet ap)) λ_=>.inl k⟩)⟩
def Jbu(T:Txt mg)(Wx:Cal P w K mg base "odds_between" 1 ["one","other"] (spOf ⟨C,K⟩ dApart)){f:Addr}(F:Fun K "fault" "fault" Zbk f fd):FnOk P w K mg base CX0 2 f fd ["table"] (spOf ⟨C,K⟩ dNoF):=by
 refine L3.Fun.ok3 F D2 (λds M K3 h=>?_) (λcdv A outer s H E hr=>?_)
 .let⟨d,L,rfl,_⟩:=h;rfl
 .let SC:=D2;let hu:=hr.units;let hu1:=Xh hr;let Ri:Room 1 _:=hr.mono nofun;refine⟨_,_,(Zc (X5 C1 rfl (Yb rfl T.b_range (Za (Zm (Z7 (K:=K) rfl) (by rfl) T.b_len Fv (Za (pv 0) Zb)) Zb)) (Zq (i:=1) SC.nd rfl (Ck rfl))
 (Zh (X5 C1 rfl (Yb rfl T.b_range (Za (pv 1) Zb)) (Zq (i:=2) SC.nd rfl (Ck rfl))
 (Zc (Zs (i:=3) SC.nd rfl (Ck rfl) (Zt Wx Ri rfl (Za (Zz (Z8 (K':=K) rfl) (pv 0) (pv 2) (λ_ _=>rfl)) (Za (Zz (Z8 (K':=K) rfl) (pv 0) (pv 1) (λ_ _=>rfl)) Zb))))
 (Zh (Yn (S1 (Zgq (pv 3)))
 (Zh (Zx (Yo (Za (pv 3) (Za (pv 2) (Za (pv 1) Zb))))))
 Zy))))))
 (Zh (Zx Zgo))),λ_=>(by symm),λds M Kk hM hD h=>?_⟩
  let⟨d,L,rfl,h⟩:=h;let⟨e1,⟨fr,l64,_⟩,k⟩:=h;let lm:(L.map pD).length=L.length:=Ja _;exists ·,Vi e1 ⟨_,rfl,⟨(),()⟩,λj ρ M'=>M=M'/\∃v1 v2 v3,ρ=[some d,v1,v2,v3],λ_ _ _ _ _=>trivial,⟨rfl,_,_,_,rfl⟩,?_,?_⟩
  .rintro j x ρ _ hj rfl ⟨rfl,v1,v2,v3,rfl⟩;let hj:j<L.length:=lm ▸ (show j<(L.map pD).length from hj);exists ·,·,⟨(),()⟩,λi ρ M'=>M=M'/\∃v2 v3,ρ=[some d,some (.int (0+(j:Int))),v2,v3],λ_ _ _ _ _=>trivial,⟨rfl,_,_,rfl⟩,?_,?_
   .rintro i x ρ _ hi rfl ⟨rfl,v2,v3,rfl⟩;let hi:i<j:=by
     let hi:i<(0+(j:Int)).toNat:=hi;lia
    exists ·,·,Uj e1 (Ve () ()) ⟨_,rfl,_,rfl,Uj e1 (Ve () hj) ⟨_,_,rfl,fr.get () hj hi,?_⟩⟩;refine g_nx ⟨_,rfl,_,rfl,ite2 (λh=>Fh h nofun) λ_=>.inl ⟨rfl,_,_,rfl⟩⟩
   .rintro ρ _ ⟨rfl,v2,v3,rfl⟩;exact .inl ⟨rfl,_,_,_,rfl⟩
  .rintro ρ _ ⟨rfl,v1,v2,v3,rfl⟩;exact .inl k
def Fy(T:Txt mg)(Zcr:Cal P w K mg base "fault" 2 ["table"] (spOf ⟨C,K⟩ dNoF)){f:Addr}(F:Fun K "refuse_fault" "refuse_fault" Wp f fd):FnOk P w K mg base CX0 3 f fd ["table"] (spOf ⟨C,K⟩ dNoF):=by
 refine L3.Fun.ok3 F Jcl (λds M K3 h=>?_) (λcdv A outer s H E hr=>?_)
 .let⟨d,L,rfl,_⟩:=h;rfl
 .let SC:=Jcl;let hu:=hr.units;let hu1:=Xh hr;let Zj6:Room 2 _:=hr.mono nofun;refine⟨_,_,(Zc (Zs (i:=1) SC.nd rfl (Ck rfl) (Zt Zcr Zj6 rfl (Za (pv 0) Zb)))
 (Zc (Yn (S1 (Zk6 (pv 1)))
 (Zh Zm8)
 Zy)
 (Zc (Yn (Zw (Xg (K':=K) rfl hu) (Zz (Z8 (K':=K) rfl) (pv 1) Zd (λ_ _=>rfl)) Yx (nomark _))
 (Zh Zde)
 Zy)
 (Zh Zde)))),λ_=>(by symm),λds M Kk hM hD h=>?_⟩
  let⟨d,L,rfl,h⟩:=h;let⟨e1,h2,k⟩:=h;exists ·,d,L,rfl,e1,h2,?_;refine g_nx ⟨_,rfl,_,rfl,ite2 (λ_=>.inl k) (λh=>Fh rfl h)⟩
abbrev lamQ:Str:=Co "Code.__init__"++".<locals>."++"<lambda>"
abbrev lamP:Pos:=⟨142,45,142,65⟩
structure CodeT(K:Cs)(C:Addr):Prop where
 cl:Cls K C
 n_pairs:Yu K C "pairs"
 n_words_by_sign:Yu K C "words_by_sign"
 n_signs_by_word:Yu K C "signs_by_word"
 n_begun:Yu K C "begun"
 n_word_sizes:Yu K C "word_sizes"
open L3
def Jae(T:Txt mg){f:Addr}(F:Fun K "beginnings" "beginnings" Vn f fd):FnOk P w K mg base CX0 1 f fd ["words"] (spOf ⟨C,K⟩ dBeg):=by
 refine L3.Fun.ok3 F Jag (λds M K3 h=>?_) (λcdv A outer s H E hr=>?_)
 .let⟨d,ws,rfl,_⟩:=h;rfl
 .let SC:=Jag;let hu:=hr.units;let hu1:=Xh hr;refine⟨_,_,(Zc (Zs (i:=1) SC.nd rfl (Ck rfl) Zju)
 (Zc (X5 C1 rfl (Y0 (pv 0)) (Zq (i:=2) SC.nd rfl (Ck rfl))
 (Zh (X5 C1 rfl (Yb rfl T.b_range (Za (Zm (Z7 (K:=K) rfl) (by rfl) T.b_len Fv (Za (pv 2) Zb)) Zb)) (Zq (i:=3) SC.nd rfl (Ck rfl))
 (Zh (Zbp hu1 (pv 1) (Z4 (Wi (K':=K) rfl) (pv 2) Yc (Z6 (pv 3))) Qm rfl)))))
 (Zh (Zx (pv 1))))),λ_=>(Z1 (Wj Zmx (s_g 1)) (Z1 (N1 (s_il (Z5 0)) (s_g 2) (N1 (by symm) (s_g 3) (Zf1 (Z5 1) (by symm) s_bl))) (Vl (Z5 1)))),λds M Kk hM hD h=>?_⟩
  let⟨d,ws,rfl,h⟩:=h;let⟨hd,⟨hl,hw⟩,k⟩:=h;let lm:(ws.map wD).length=ws.length:=Ja _;exists ·,_,(Xo (S8 hd)).2.1,λi ρ M'=>∃(v2 v3:Option D)(kvs:List (List Key×D)),ρ=[some d,some (.cell M.length),v2,v3]/\M++[.dcT kvs]=M'/\kvs.length<=8*i/\T8 (kvs.map tv) (ws.take i) [] 0,λi ρ M' _ h=>?_,⟨_,_,[],rfl,rfl,Jd _,by rw[Fc];exact T8.nil _⟩,?_,?_
  .let⟨_,_,_,_,rfl,_⟩:=h;exact(Xo (S8 hd)).2.1
  .rintro i x ρ _ hi hx ⟨v2,v3,kvs,rfl,rfl,hk,hb⟩;let⟨hi',rfl⟩:=Y4 hx;let hwl:=hw _ (Jy hi');let lw:(ws[i].map D.int).length=ws[i].length:=Ja _;exists ·,·,((ws[i].length:Nat):Int),by rw[lw],⟨(),()⟩,λn ρ M'=>∃(v3:Option D)(kvs:List (List Key×D)),ρ=[some d,some (.cell M.length),some (wD ws[i]),v3]/\M++[.dcT kvs]=M'/\kvs.length<=8*i+n/\T8 (kvs.map tv) (ws.take i) ws[i] n,λ_ _ _ _ _=>trivial,⟨_,kvs,rfl,rfl,hk,?_⟩,?_,?_
   .intro u;rw[hb u];exact decide_eq_decide.mpr ⟨λz=>z.elim .inl λz=>Fh z.2 (Bb _),λz=>z.elim .inl λz=>Fh z.2 (Bb _)⟩
   .rintro n x ρ _ hn rfl ⟨v3,kvs,rfl,rfl,hk,hb⟩;let hn:n<ws[i].length:=by have:n<((ws[i].length:Nat):Int).toNat:=hn;lia
    exists ·,·,·,·,_,.inr ⟨M.length,kvs,wk (ws[i].take n),rfl,Yg,?_,Gw (by lia:kvs.length<=1000) nofun,rfl⟩,.inl ⟨_,putD kvs (wk (ws[i].take n)) (.bl true),rfl,Uc.symm,?_,?_⟩
    .show Sc (cut (ws[i].map D.int) none (some (0+(n:Int))))=_;rw[B5,X2,<-Bj,Zg2]
    .let:=Zjo (k:=wk (ws[i].take n)) (v:=D.bl true) (kvs:=kvs);lia
    .rw[<-Zp6];exact hb.put (Bp hn)
   .rintro ρ _ ⟨v3,kvs,rfl,rfl,hk,hb⟩;let hk:kvs.length<=8*i+ws[i].length:=hk;exact .inl ⟨_,_,kvs,rfl,rfl,(),by rw[Je hi'];exact hb.next _⟩
  .rintro ρ _ ⟨v2,v3,kvs,rfl,rfl,hk,hb⟩;exists ·,.inl (k kvs ?_);let:=hb.done;rwa [lm,Ge]at this
def Jcd(T:Txt mg){c:Addr}(CT:CodeT K C)(hCd:W.CodeHd base c Pt)(hBm:Bm mg base)(Ww:Cal P w K mg base "refuse_fault" 3 ["table"] (spOf ⟨C,K⟩ dNoF))(V1:Cal P w K mg base "beginnings" 1 ["words"] (spOf ⟨C,K⟩ dBeg)){f:Addr}{oc:Ca}{od an:Option Addr}{osl:Array (Option Ca)}{kW doc pm ct:Ca}(lk:K.lookup f=some ⟨oc,od,.func (L9 "__init__" "Code.__init__" (Xv Z2) (Ys Z2) (Zl Z2) .none kW doc pm an (.ref c) ct),osl⟩)(hcd:Ja4 K (.ref c) "Code.__init__"=true) :
  FnOk P w K mg base CX0 4 f (L9 "__init__" "Code.__init__" (Xv Z2) (Ys Z2) (Zl Z2) .none kW doc pm an (.ref c) ct) ["self","table"] (spOf ⟨C,K⟩ (dInitC C Pt lamP lamQ)):=by
 refine L3.Fun.okC3 lk hcd Jau (λds M K3 h=>?_) (λA outer s H E hr=>?_)
 .let⟨x,k0,d,L,rfl,_⟩:=h;rfl
 .let SC:=Jau;let hu:=hr.units;let hu1:=Xh hr;let hcode:(cxOf CX0 P w K mg base ["self","table"] "Code.__init__" (Zl Z2) f (.ref c) A outer s H E).nox.env.code=.ref c:=rfl;let Zhb:Room 3 _:=hr.mono nofun;let Zb3:Room 3 _:=hr.mono nofun;let Rg:Room 3 _:=hr.mono nofun;let P4:Room 1 _:=hr.mono nofun;refine⟨_,_,(Zc (Wb (Zt Ww Rg rfl (Za (pv 1) Zb)))
 (Zc (S2 (pv 0) (Z3 (R9 (K:=K) rfl) (by rfl) T.b_tuple C8 (Za (Zjs Zhb rfl T.b_sorted (Za (pv 1) Zb) hcode hCd hBm rfl rfl (by rfl') (λ_ _ _ _=>rfl) (λ_ _ _ _ _ _=>(Zz (Zsp (K:=K) rfl) (pv 0) Zd (λ_ _=>rfl)))) Zb)) rfl)
 (Zc (S2 (pv 0) (Z3 (Zcf (K:=K) rfl Zb3 rfl) (by rfl) T.b_dict K2 (Za (Wc (pv 0) rfl) Zb)) rfl)
 (Zc (S2 (pv 0) (Z3 (Zcf (K:=K) rfl Zb3 rfl) (by rfl) T.b_dict K2 (Za (Y1 (T:=["sign","word"]) (cs:=[]) rfl (CScope.ok (by kernel_rfl)) (Zdf (Wc (pv 0) rfl)) (λ_ _ _ _=>(W4 (n:=2) rfl (Z0 (Zq (i:=0) (Y5 (by kernel_rfl)) rfl (Ck rfl) (Ef rfl)) (Z0 (Zq (i:=1) (Y5 (by kernel_rfl)) rfl (Ck rfl) (Ef rfl)) Xs)) (by rfl))) (λ_ _ _ _=>Yz) (λ_ _ _ _=>(Yo (Za (pv 1) (Za (pv 0) Zb)))) (Sd (Yp nofun (Yp nofun Vt)))) Zb)) rfl)
 (Zc (S2 (pv 0) (Zt V1 P4 rfl (Za (Y1 (T:=["sign","word"]) (cs:=[]) rfl (CScope.ok (by kernel_rfl)) (Zdf (Wc (pv 0) rfl)) (λ_ _ _ _=>(W4 (n:=2) rfl (Z0 (Zq (i:=0) (Y5 (by kernel_rfl)) rfl (Ck rfl) (Ef rfl)) (Z0 (Zq (i:=1) (Y5 (by kernel_rfl)) rfl (Ck rfl) (Ef rfl)) Xs)) (by rfl))) (λ_ _ _ _=>Yz) (λ_ _ _ _=>(pv 1)) (Sd (Yp nofun (Yp nofun Vt)))) Zb)) rfl)
 (Zh (S2 (pv 0) (Z3 (R9 (K:=K) rfl) (by rfl) T.b_tuple C8 (Za (Zm (Zep rfl) (by rfl) T.b_sorted Mw (Za (Z3 (Zcf (K:=K) rfl Zb3 rfl) (by rfl) T.b_dict K2 (Za (Y1 (T:=["sign","word"]) (cs:=[]) rfl (CScope.ok (by kernel_rfl)) (Zdf (Wc (pv 0) rfl)) (λ_ _ _ _=>(W4 (n:=2) rfl (Z0 (Zq (i:=0) (Y5 (by kernel_rfl)) rfl (Ck rfl) (Ef rfl)) (Z0 (Zq (i:=1) (Y5 (by kernel_rfl)) rfl (Ck rfl) (Ef rfl)) Xs)) (by rfl))) (λ_ _ _ _=>Yz) (λ_ _ _ _=>(Yo (Za (Zm (Z7 (K:=K) rfl) (by rfl) T.b_len Fv (Za (pv 1) Zb)) (Za Qm Zb)))) (Sd (Yp nofun (Yp nofun Vt)))) Zb)) Zb)) Zb)) rfl))))))),λ_=>(Z1 (by symm) (Z1 (Sx (Z5 0) (s_cb Zbh (Ya (Zi7 (by symm)) Xn))) (Z1 (Sx (Z5 0) (s_cb Zf4 (Ya (W3 (Z5 0)) Xn))) (Z1 (Sx (Z5 0) (s_cb Zf3 (Ya (Sy (s_it (W3 (Z5 0))) (by symm) Qu (by symm)) Xn))) (Z1 (Sx (Z5 0) (Zkz (Ya (Sy (s_it (W3 (Z5 0))) (by symm) Qu (Z5 1)) Xn))) (Sx (Z5 0) (s_cb Zbh (Ya (s_cb Zi8 (Ya (s_cb Zjg (Ya (Sy (s_it (W3 (Z5 0))) (by symm) Qu (by symm)) Xn)) Xn)) Xn)))))))),λds M Kk hM hD h=>?_⟩
  let⟨x,k0,d,L,rfl,h⟩:=h;let⟨⟨hx,hk,hd⟩,⟨fr,fi⟩,k⟩:=h;let lx:=(Jf.mp hx).1;exists ·,d,L,rfl,hd,⟨fr,fi⟩,?_;exists ·,k0,d,L,hk,rfl,hd,⟨fi.1,λp hp=>(fi.2 p hp).1,Gv.mpr (fr.imp λ{a b}z e=>z.2.1 (by rw[e];exact Ji _))⟩,λS pm ri=>?_;let lS:=pm.length_eq;let l64:=fi.1;exists _,·,rfl,·,x,C,[],rfl,hx,CT.cl,CT.n_pairs,nofun,?_;let g:∀{o:MO},(M.set x o)[x]?=some o:=by intro o;exact Jx lx
  exists ·,x,C,_,·,g,CT.cl,CT.n_pairs,rfl,S.map prK,by rw[Gh];rfl,by rw[Ja];lia,·,x,C,·,g,CT.cl,CT.n_words_by_sign,by show 1<1000;decide,?_;rw[Fd];let lm:(S.map pD).length=S.length:=Ja _;let all:∀{f:Pr->D}{i:Nat},i=(S.map pD).length->(S.take i).map f=S.map f:=by intro f i h;rw[h,lm,Ge]
  let sz:(S.map pD).length<=Cb:=by rw[lm];exact Zo ()
  exists ·,x,C,_,·,g,CT.cl,CT.n_pairs,rfl,·,sz,λj ys M'=>M.set x _=M'/\ys=(S.take j).map λp=>.tup [wD p.2,.int p.1],λ_ _ _ _ _=>trivial,⟨rfl,rfl⟩,?_,?_
  .rintro j y ys _ hj hy ⟨rfl,rfl⟩;let⟨hj',rfl⟩:=Y4 hy;exists ·,rfl,_,·,_,·,rfl,·,·,(show 2<=Cb by decide),rfl,?_;rw[Je hj',Jg];rfl
  rintro ys _ ⟨rfl,rfl⟩;rw[all rfl];exists _,S.map λp=>(wk p.2,p.1),rfl,?_,⟨by rw[Ja];lia,?_⟩,·,x,C,·,g,CT.cl,CT.n_signs_by_word,by show 2<1000;decide,?_
  .rw[Gh];refine congrArg some (B7 λp _=>?_);show D.tup [wD p.2,_]=.tup [.tup ((wk p.2).map kD),_];unfold wD wk;rw[Gh];rfl
  .rw[Gh];exact Gv.mpr ((fr.perm pm).imp λ{a b}z e=>z.2.1 (by rw[Nr e];exact Ji _))
  rw[Fd];exists ·,x,C,_,·,g,CT.cl,CT.n_pairs,rfl,·,sz,λj ys M'=>M.set x _=M'/\ys=(S.take j).map λp=>wD p.2,λ_ _ _ _ _=>trivial,⟨rfl,rfl⟩,?_,?_
  .rintro j y ys _ hj hy ⟨rfl,rfl⟩;let⟨hj',rfl⟩:=Y4 hy;exists ·,rfl,_,·,_,·,rfl,·,rfl,?_;rw[Je hj',Jg];rfl
  rintro ys _ ⟨rfl,rfl⟩;rw[all rfl];exists _,S.map (·.2),rfl,congrArg some (by rw[Gh];rfl),⟨by rw[Ja];lia,λw hw=>?_⟩,λkvs bg=>?_
  .let⟨p,hp,rfl⟩:=Jn.mp hw;exact(fi.2 p (pm.mem_iff.mp hp)).2
  let g2:∀{o m:MO},(M.set x o++[m])[x]?=some o:=by intro o m;rw[Js (by rw[Gi];exact lx)];exact g
  let s2:∀{o o' m:MO},(M.set x o++[m]).set x o'=M.set x o'++[m]:=by intro o o' m;rw[List.set_append_left _ _ (by rw[Gi];exact lx),Fd]
  exists ·,x,C,·,g2,CT.cl,CT.n_begun,by show 3<1000;decide,?_;rw[s2,Gi];exists ·,x,C,_,·,g2,CT.cl,CT.n_pairs,rfl,·,sz,λj ys M'=>M.set x _++[.dcT kvs]=M'/\ys=(S.take j).map λp=>.tup [.int (p.2.length:Nat),.bl true],λ_ _ _ _ _=>trivial,⟨rfl,rfl⟩,?_,?_
  .rintro j y ys _ hj hy ⟨rfl,rfl⟩;let⟨hj',rfl⟩:=Y4 hy;exists ·,rfl,_,·,_,·,rfl,·,·,(show 2<=Cb by decide),rfl,?_;rw[Je hj',Jg,Ja];rfl
  rintro ys _ ⟨rfl,rfl⟩;rw[all rfl];let⟨ns,ens,nd,mem⟩:=Zb9 (S.map λp=>((p.2.length:Nat):Int)) [] [] rfl .nil;exists _,(S.map λp=>((p.2.length:Nat):Int)).map λz=>(.inl z,.bl true),rfl,congrArg some (by rw[Gh,Gh];rfl),by rw[Ja,Ja];lia,_,ns,rfl,ens,?_,λns' pN riN=>⟨_,_,rfl,rfl,_,rfl,x,C,_,rfl,g2,CT.cl,CT.n_word_sizes,by show 4<1000;decide,?_⟩
  .let:=Zdr ((S.map λp=>((p.2.length:Nat):Int)).map λz=>((.inl z:Key),D.bl true)) [];rw[Ja,Ja,Bt]at this;lia
  rw[s2];exact .inl (k S kvs ns' pm ri bg (Zfs nd (λn=>by rw[mem];simp only[List.not_mem_nil,false_or]) pN riN))
def Du(T:Txt mg)(CT:CodeT K C){f:Addr}(F:Fun K "sign" "Code.sign" Ur f fd):FnOk P w K mg base CX0 1 f fd ["self","word"] (Zfn C):=by
 refine F.ok Jao (λvs H Q E h=>?_) (λcdv A outer s H vs Q E hr h=>?_)
 .let⟨x,t,S,u,rfl,_⟩:=h;rfl
 .let⟨x,t,S,u,rfl,⟨dx,tp,d1,d2,d3,d4,ex,ci⟩,et,k1,k2⟩:=h;let⟨k3,e3,hb1,hb2⟩:=ci.sb;let SC:=Jao;let hu1:=Xh hr;let et':H t=some (.tup ((wk u).map kV)):=by rw[Zs2];exact et
  exists _,(Zh (Zx (Zjv hu1 (Wc (pv 0) rfl) (pv 1) ⟨rfl,rfl,rfl,rfl⟩))),?_;exists ·,x,C,dx,_,·,ex,CT.cl,CT.n_signs_by_word,rfl,d2,rfl,.inr ⟨_,.inl e3⟩,·,_,DGet.t e3 et',?_
  by_cases hp:∃p∈S,p.2=u
  .let⟨p,hp,e⟩:=hp;let:=hb1 p hp;rw[e]at this;rw[this];exact k1 p hp e
  .rw[hb2 u λp hq e=>hp ⟨p,hq,e⟩];exact k2 λp hq e=>hp ⟨p,hq,e⟩
def F3(T:Txt mg)(CT:CodeT K C)(Pd:Met P w K mg base C "sign" 1 ["self","word"] (Zfn C)){f:Addr}(F:Fun K "word_at" "word_at" Sw f fd):FnOk P w K mg base CX0 2 f fd ["code","row","place"] (Zcy C):=by
 refine F.ok Jcc (λvs H Q E h=>?_) (λcdv A outer s H vs Q E hr h=>?_)
 .let⟨x,r,S,ns,pl,rfl,_⟩:=h;rfl
 .let⟨x,r,S,ns,pl,rfl,ca,fi,er,hpl,k1,k2⟩:=h;let SC:=Jcc;let Zb2:Room 1 _:=hr.mono nofun;let⟨dx,tp,d1,d2,d3,d4,ex,ci⟩:=id ca;let⟨zs,ez,hz⟩:=ci.sz;refine⟨_,(Zc (X5 C1 rfl (Zdf (Wc (pv 0) rfl)) (Zq (i:=3) SC.nd rfl (Ck rfl))
 (Zc (Zs (i:=4) SC.nd rfl (Ck rfl) (Z3 Th (by rfl) T.b_tuple C8 (Za (Z4 Tq (pv 1) (Z6 (pv 2)) (Z6 (Zv X6 (pv 2) (pv 3)))) Zb)))
 (Zh (Yn (S1 (Zgq (N9 (pv 0) Pd Zb2 (Za (pv 4) Zb))))
 (Zh (Zx (pv 4)))
 Zy))))
 (Zh (Zx Zgo))),?_⟩
  exists ·,x,C,dx,_,·,ex,CT.cl,CT.n_word_sizes,rfl,d4,rfl,⟨_,SqT.of ez⟩,Zoc (xs:=zs.map V.int) (λi σ H'=>∃v3 v4,σ=[some (.ref x),some (.ref r),some (.int pl),v3,v4]/\Same H H'/\∀p∈S,∀(j:Nat)(hj:j<zs.length),j<i->(p.2.length:Int)=zs[j]->¬ p.2<+:ns.drop pl) ⟨_,_,rfl,.refl _,λp hp j hj h0=>Fh h0 (Bb _)⟩ ?_ ?_ ?_
  .rintro i σ H1 hi ⟨v3,v4,rfl,s1,no⟩;exact SqT.of (s1 _ _ ez)
  .rintro i y σ H1 hy ⟨v3,v4,rfl,s1,no⟩;let hi:i<zs.length:=by have:=(Jf.mp hy).1;rw[Ja]at this;exact this
   rw[Jr,Jb hi]at hy;obtain rfl:=Fu hy;let⟨p0,hp0,el⟩:=(hz.2 zs[i]).mp (Jy hi);refine⟨_,rfl,_,rfl,_,rfl,_,rfl,_,rfl,_,_,rfl,rfl,_,rfl,r,_,rfl,SqL.of (s1 _ _ er),λq hq=>?_⟩;let ec:cutV (ns.map V.int) (some (pl:Int)) (some ((pl:Int)+zs[i]))=((ns.drop pl).take p0.2.length).map V.int:=by
    rw[<-el];exact Zon ns (m:=p0.2.length) hpl
   rw[ec];let pw:(ns.drop pl).take p0.2.length<+:ns.drop pl:=B4 _ _;let hw:∀p∈S,p.2.length=p0.2.length->p.2<+:ns.drop pl->p.2=(ns.drop pl).take p0.2.length:=λp hp hl hpre=>by
    rw[<-hl];exact List.prefix_iff_eq_take.mp hpre
   generalize (ns.drop pl).take p0.2.length=u at pw hw;exists q,·,.inl ⟨SqL.of Zi,λt ht=>?_⟩;let s2:=(s1.trans (Zr hq)).trans (Zr (o:=.tup (u.map V.int)) ht);let et:(upd (upd H1 q (.lst (u.map V.int))) t (.tup (u.map V.int))) t=_:=Zi;generalize upd (upd H1 q (.lst (u.map V.int))) t (.tup (u.map V.int))=H2 at s2 et;let ca2:=ca.same s2;exists ·,x,dx,·,s2 _ _ ex,rfl,·,x,t,S,u,rfl,ca2,et,λp hp e=>?_,λhno=>?_
   .subst e;exists ·,Zui (λz=>by cases z) ⟨_,rfl,k1 p hp pw t H2 s2 et⟩
   .exists ·,Zuj rfl ?_;exists _,·,s2,λp hp j hj hji hl hpre=>?_
    by_cases e:j=i
    .subst e;exact hno p hp (hw p hp (by rw[<-el]at hl;exact Int.ofNat.inj hl) hpre)
    .exact no p hp j hj () hl hpre
  .rintro σ H1 ⟨v3,v4,rfl,s1,no⟩;refine k2 (λp hp=>?_) H1 s1;let⟨j,hj,ej⟩:=Gf ((hz.2 _).mpr ⟨p,hp,rfl⟩);exact no p hp j hj (by rw[Ja];exact hj) ej.symm
def Dw(T:Txt mg){f:Addr}(xc:XCl K C f)(na:Cu K (.ref C) "at"=some none)(F:Fun K "__init__" "NoReading.__init__" Yq f fd):FnOk P w K mg base CX0 1 f fd ["self","at"] (spX1 C "at"):=by
 refine F.ok Jck (λvs H Q E h=>?_) (λcdv A outer s H vs Q E hr h=>?_)
 .let⟨ea,y,rfl,_⟩:=h;rfl
 .let⟨ea,y,rfl,hea,k⟩:=h;let SC:=Jck;exists _,(Zh (Vp (pv 0) (pv 1) rfl)),?_;exists ·,·,ea,C,f,rfl,xc,na,.inl ⟨hea,λd hd ne=>k d hd ne⟩
def Jas(T:Txt mg){f:Addr}(xc:XCl K C f)(na:Cu K (.ref C) "name"=some none)(F:Fun K "__init__" "NoName.__init__" Xq f fd):FnOk P w K mg base CX0 1 f fd ["self","name"] (spX1 C "name"):=by
 refine F.ok Jbe (λvs H Q E h=>?_) (λcdv A outer s H vs Q E hr h=>?_)
 .let⟨ea,y,rfl,_⟩:=h;rfl
 .let⟨ea,y,rfl,hea,k⟩:=h;let SC:=Jbe;exists _,(Zh (Vp (pv 0) (pv 1) rfl)),?_;exists ·,·,ea,C,f,rfl,xc,na,.inl ⟨hea,λd hd ne=>k d hd ne⟩
def Jbp(T:Txt mg){f:Addr}(xc:XCl K C f)(na:Cu K (.ref C) "name"=some none)(F:Fun K "__init__" "Taken.__init__" X0 f fd):FnOk P w K mg base CX0 1 f fd ["self","name"] (spX1 C "name"):=by
 refine F.ok Jbv (λvs H Q E h=>?_) (λcdv A outer s H vs Q E hr h=>?_)
 .let⟨ea,y,rfl,_⟩:=h;rfl
 .let⟨ea,y,rfl,hea,k⟩:=h;let SC:=Jbv;exists _,(Zh (Vp (pv 0) (pv 1) rfl)),?_;exists ·,·,ea,C,f,rfl,xc,na,.inl ⟨hea,λd hd ne=>k d hd ne⟩
def Jat(T:Txt mg){f:Addr}(xc:XCl K C f)(na:Cu K (.ref C) "first"=some none)(nb:Cu K (.ref C) "second"=some none)(F:Fun K "__init__" "TwoMarks.__init__" Yy f fd):FnOk P w K mg base CX0 1 f fd ["self","first","second"] (spX2 C "first" "second"):=by
 refine F.ok Jci (λvs H Q E h=>?_) (λcdv A outer s H vs Q E hr h=>?_)
 .let⟨ea,y,z,rfl,_⟩:=h;rfl
 .let⟨ea,y,z,rfl,hea,k⟩:=h;let SC:=Jci;refine⟨_,(Zc (Vp (pv 0) (pv 1) rfl)
 (Zh (Vp (pv 0) (pv 2) rfl))),?_⟩
  exists ·,·,ea,C,f,rfl,xc,na,.inl ⟨hea,λd hd ne=>?_⟩;exists ·,·,ea,C,f,rfl,xc,nb,.inr ⟨d,[(Co "first",y)],?_,Zi,by show 1<1000;decide,k d hd ne⟩;rw[Zk (Cv ne),Zi]
def D3(T:Txt mg){Cr:Addr}(Pd:Met P w K mg base C "sign" 1 ["self","word"] (Zfn C))(Qg:Cal P w K mg base "word_at" 2 ["code","row","place"] (Zcy C))(Vz:Rx P w K mg base "NoReading" Cr 1 ["self","at"] (spX1 Cr "at")){f:Addr}(F:Fun K "read" "read" Zfz f fd):FnOk P w K mg base (CXE bctx P w) 3 f fd ["code","row"] (Zfo C Cr):=by
 refine F.okE D6 (λvs H Q E h=>?_) (λcdv A outer s H vs Q E hr h=>?_)
 .let⟨x,r,S,ns,rfl,_⟩:=h;rfl
 .let⟨x,r,S,ns,rfl,ca,fi,er,lns,k,kE⟩:=h;let SC:=D6;let Zb2:Room 1 _:=hr.mono nofun;let Zek:Room 2 _:=hr.mono nofun;let Vs:Room 2 _:=hr.mono nofun;let lm:(ns.map V.int).length=ns.length:=Ja _;refine⟨_,(Zc (Zs (i:=2) SC.nd rfl (Ck rfl) (Yh Zb))
 (Zc (Zs (i:=3) SC.nd rfl (Ck rfl) Zd)
 (Zc (Zdc PassesOwn.leaving (Zw Zab (pv 3) (Zm X7 (by rfl) T.b_len Fv (Za (pv 1) Zb)) (nomark _))
 (Zc (Zs (i:=4) SC.nd rfl (Ck rfl) (Zt Qg Zek rfl (Za (pv 0) (Za (pv 1) (Za (pv 3) Zb)))))
 (Zc (Yn (S1 (Zk6 (pv 4)))
 (Zh (U9 Vz Vs rfl (Za (pv 3) Zb)))
 Zy)
 (Zc (Wb (Ql C7 C5 C6 Xl (pv 2) (Za (N9 (pv 0) Pd Zb2 (Za (pv 4) Zb)) Zb)))
 (Zh (Zre (i:=3) SC.nd rfl (Ck rfl) (Zm X7 (by rfl) T.b_len Fv (Za (pv 4) Zb)) Zld))))))
 (Zh (Zx (pv 2)))))),?_⟩
  refine⟨by show 0<=Cb;decide,λtx htx=>?_⟩;let s1:=Zr (o:=.lst []) htx;let etx:(upd H tx (.lst [])) tx=_:=Zi;generalize upd H tx (.lst [])=H1 at s1 etx;let ntx:∀b o,H b=some o->b≠tx:=λb o e=>Zp e htx;refine Zij (λσ H'=>∃(pl:Nat)(R:List En)(v4:Option V),σ=[some (.ref x),some (.ref r),some (.ref tx),some (.int pl),v4]/\Same H H'/\H' tx=some (.lst (outs R))/\Went S ns R pl/\Zex R)
   (λσ _=>match σ with |[_,_,_,some (.int z),_]=>(ns.length-z).toNat|_=>0) ⟨0,[],_,rfl,s1,etx,.nil,λ_ z=>nomatch z⟩ ?_ ?_
  .rintro σ H2 ⟨pl,R,v4,rfl,s2,e2,we,cln⟩;let er2:=s2 _ _ er;let lR:=we.len;let hle:=we.le;exists ·,·,_,·,.inl ⟨_,SqL.of er2,rfl⟩,_,·,rfl,·,?_;refine ite2 (λhlt=>?_) (λhlt=>?_)
   .let hlt':pl<ns.length:=by
     let:=Fg hlt;rw[lm]at this;lia
    exists ·,·,·,x,r,S,ns,pl,rfl,ca.same s2,fi,er2,hle,λp hp pre t H3 s3 et=>?_,λhno H3 s3=>?_
    .let s23:=s2.trans s3;let ca3:=ca.same s23;let⟨dx,tp,d1,d2,d3,d4,ex,_⟩:=id ca3;let e3:=s3 _ _ e2;exists ·,·,Zul (λz=>by cases z) ?_;exists ·,.inl ⟨rfl,_,SqL.of e3⟩,·,x,dx,·,ex,rfl,·,x,t,S,p.2,rfl,ca3,et,λp' hp' e'=>?_,λhno=>Fh rfl (hno _ hp);exists tx,_,·,rfl,e3,by unfold outs;rw[Ja];exact Nat.lt_of_le_of_lt (by lia:R.length<=1000) nofun,?_;let hne:=(fi.2 _ hp).1;let gL:Grow tx H3 (upd H3 tx (.lst (outs R++[.int p'.1]))):=λb o e n=>by rw[Zk n];exact e
     exists ·,·,_,·,.inr ⟨_,SqT.of (gL _ _ et (Pq et e3 λz=>by cases z)),rfl⟩,_,·,rfl,⟨pl+p.2.length,R++[(pl,some p'.1)],some (.ref t),?_,λb o e=>?_,?_,?_,Zeo cln (λz=>by cases z)⟩,?_
     .rw[Ja,B9];rfl
     .rw[Zk (ntx b o e)];exact s23 b o e
     .rw[Zi];unfold outs;rw[Jg];rfl
     .let hw:=Went.word we hp' (by rw[e'];exact pre) (by rw[e'];exact hne);rw[e']at hw;exact hw
     .show((ns.length:Int)-((pl:Int)+(((p.2.map V.int).length:Nat):Int))).toNat<((ns.length:Int)-(pl:Int)).toNat;rw[Ja];let:=J9.mpr hne;lia
    .let s23:=s2.trans s3;exists ·,·,Zuk rfl ?_;exists ·,by show 1<=10;decide,λea nea=>?_;exists ea,.int pl,rfl,Zi,λd nd ne=>⟨rfl,d,?_,?_⟩
     .rw[Zk (Cv ne),Zi]
     .let nd3:H3 d=none:=by rw[Zk ne]at nd;exact nd
      refine kE R pl d _ ⟨we,cln,.inr ⟨hlt',hno⟩⟩ hlt' (s23.free nd3) (λb o e=>?_) ?_
      .let b1:b≠ea:=Zp (s23 _ _ e) nea;let b2:b≠d:=Zp (s23 _ _ e) nd3;rw[Zk b1,Zk b2,Zk b1,Zk b1];exact s23 _ _ e
      .rw[Zk ne,Zi]
   .let hge:ns.length<=pl:=by
     let:=Fi (Jcq _ ▸ hlt);rw[lm]at this;lia
    exists ·,k R pl tx H2 ⟨we,cln,.inl hge⟩ hge htx s2 e2
  .rintro σ H2 Q1 Q2 hq ⟨a1,a2,a3,a4,a5,a6,a7,a8,a9,a10,a11,a12,a13,a14,z⟩;exists a1,a2,a3,a4,a5,a6,a7,a8,a9,a10,a11,a12,a13,a14,hq _ _ z
def Vk(T:Txt mg){f:Addr}(xc:XCl K C f)(na:Cu K (.ref C) "at"=some none)(F:Fun K "__init__" "NoReading.__init__" Yq f fd):FnH P w K mg base 1 f fd ["self","at"] (spX1 C "at"):=by
 refine F.okH Jck (λvs H Q E h=>?_) (λcdv A outer s H vs Q e h=>?_)
 .let⟨ea,y,rfl,_⟩:=h;rfl
 .let⟨ea,y,rfl,hea,k⟩:=h;let SC:=Jck;exists _,(Zh (Vp (pv 0) (pv 1) rfl)),?_;exists ·,·,ea,C,f,rfl,xc,na,.inl ⟨hea,λd hd ne=>k d hd ne⟩
open L3
def Jbd(T:Txt mg){f:Addr}(F:Fun K "begins_row" "begins_row" Vm f fd):FnOk P w K mg base CX0 1 f fd ["mark","row"] (spOf ⟨C,K⟩ dBegR):=by
 refine L3.Fun.ok3 F Dn (λds M K3 h=>?_) (λcdv A outer s H E hr=>?_)
 .let⟨m,ns,d,rfl,_⟩:=h;rfl
 .let SC:=Dn;let hu:=hr.units;let hu1:=Xh hr;exists _,_,(Zh (Zx (Zk5 (Ws Zac (Zm (Z7 (K:=K) rfl) (by rfl) T.b_len Fv (Za (pv 0) Zb)) Zd (nomark _)) (Zk4 (Ws (Xg (K':=K) rfl hu) (Z3 (R9 (K:=K) rfl) (by rfl) T.b_tuple C8 (Za (Z4 (Wi (K':=K) rfl) (pv 1) Yc (Z6 (Zm (Z7 (K:=K) rfl) (by rfl) T.b_len Fv (Za (pv 0) Zb)))) Zb)) (pv 0) (nomark _)))))),λ_=>(by symm),λds M Kk hM hD h=>?_;let⟨m,ns,d,rfl,h⟩:=h;let⟨hd,k⟩:=h;let lm:(m.map D.int).length=m.length:=Ja _;exists ·,·,_,·,rfl,·,?_;rw[lm]
  by_cases h0:0<m.length
  .rw[Fs (by lia:(0:Int)<((m.length:Nat):Int))];refine iteT ?_;exists ·,·,·,·,?_;refine Sv hd ?_;rw[lm,Wf,X2];exists _,·,rfl,·,Rv (Rw We) (a:=ns.take m.length) (b:=m) (.inl ?_);unfold Sg at k;rw[Fs h0,B8]at k;exact k
  .rw[Ft (by lia:¬ (0:Int)<((m.length:Nat):Int))];refine iteF (.inl ?_);unfold Sg at k;rw[Ft h0,Bz]at k;exact k
open L3
def Jce(T:Txt mg)(cl:Cls K Ze)(n1:Yu K Ze "codes_by_name")(n2:Yu K Ze "marks_by_name"){f:Addr}(F:Fun K "__init__" "Family.__init__" Xr f fd):FnOk P w K mg base CX0 1 f fd ["self"] (spOf ⟨C,K⟩ (dInitF Ze)):=by
 refine L3.Fun.ok3 F Jaf (λds M K3 h=>?_) (λcdv A outer s H E hr=>?_)
 .let⟨f,rfl,_⟩:=h;rfl
 .let SC:=Jaf;let hu:=hr.units;let hu1:=Xh hr;refine⟨_,_,(Zc (S2 (pv 0) Zdh rfl)
 (Zh (S2 (pv 0) Zdh rfl))),λ_=>(Z1 (Sx (Z5 0) Zf2) (Sx (Z5 0) Zf2)),λds M Kk hM hD h=>?_⟩
  let⟨f,rfl,h⟩:=h;let⟨hf,hl,k⟩:=h;let lf:f<M.length:=by lia
  refine⟨_,rfl,f,Ze,[],rfl,Y8 hf,cl,n1,nofun,?_⟩;refine⟨_,rfl,f,Ze,_,rfl,Y8 (Jx (by rw[Jc];lia)),cl,n2,(show 1<1000 by decide),.inl ?_⟩;let e:(((M++[MO.dct []]).set f (.ins Ze (Qk "codes_by_name" (.cell M.length) [])))++[MO.dct []]).set f (.ins Ze (Qk "marks_by_name" (.cell ((M++[MO.dct []]).set f (.ins Ze (Qk "codes_by_name" (.cell M.length) []))).length) (Qk "codes_by_name" (.cell M.length) [])))=M.set f (.ins Ze (famD f))++[.dct [],.dct []]:=by
   rw[List.set_append_left _ _ (by rw[Gi,Jc];lia),Fd,List.set_append_left _ _ lf,Gc];let l2:((M++[MO.dct []]).set f (.ins Ze (Qk "codes_by_name" (.cell M.length) []))).length=f+2:=by rw[Gi,Jc,hl];rfl
   rw[l2,hl];rfl
  exact e ▸ k
def Dg(T:Txt mg){Yt:Addr}(cl:Cls K Ze)(n1:Yu K Ze "codes_by_name")(n2:Yu K Ze "marks_by_name")(Nm:Rx P w K mg base "Taken" Yt 1 ["self","name"] (spX1 Yt "name")){f:Addr}(F:Fun K "add" "Family.add" Vo f fd):FnOk P w K mg base (CXE bctx P w) 3 f fd ["self","name","code","mark"] (Tp ⟨C,K⟩ (dAddX Ze Yt)):=by
 refine L3.Fun.okX3 F Dq (λds M K3 KX h=>?_) (λcdv A outer s H E hr=>?_)
 .let⟨f,n,S,mk,zs,rfl,_⟩:=h;rfl
 .let SC:=Dq;let hu:=hr.units;let hu1:=Xh hr;let Zj7:Room 2 _:=hr.mono nofun;refine⟨_,_,(Zc (Yn (S1 (Zri hu1 (pv 1) (Wc (pv 0) rfl)))
 (Zh (U9 Nm Zj7 rfl (Za (pv 1) Zb)))
 Zy)
 (Zc (Zbp hu1 (Wc (pv 0) rfl) (pv 1) (pv 2) rfl)
 (Zh (Zbp hu1 (Wc (pv 0) rfl) (pv 1) (Z3 (R9 (K:=K) rfl) (by rfl) T.b_tuple C8 (Za (pv 3) Zb)) rfl)))),λ_ _ he hk hx=>(Z1 (Uq (s_b (Zt3 (Z5 1) (W3 (Z5 0)))) (Pl he hk hx (by symm)) X9) (Z1 (Zf1 (W3 (Z5 0)) (Z5 1) (Z5 2)) (Zf1 (W3 (Z5 0)) (Z5 1) (by symm)))),λds M Kk KX hM hD h=>?_⟩
  let⟨f,n,S,mk,zs,rfl,h⟩:=h;let⟨Fa,hl,k,kx⟩:=h;let dc:Sh M (.cell (f+1))=some (Wn zs):=by simp only[Sh,Fa.h1]
  let ll:∀g:Fq->D,(zs.map λz=>((.inr z.1:Key),g z)).length<Cb:=λg=>by rw[Ja];exact Gw hl nofun
  by_cases hn:n∈zs.map (·.1)
  .let⟨z,hz,rfl⟩:=Jn.mp hn;exists ·,·,f,Ze,_,·,Fa.h0,cl,n1,rfl,_,.inl ⟨_,_,dc,rfl,rfl⟩,·,?_;rw[show valD (Wn zs) (.inr z.1)=some (.code z.2.1)from Pf Fa.nd hz];exact iteT ⟨_,rfl,_,rfl,kx hn⟩
  .refine⟨_,rfl,_,rfl,f,Ze,_,_,rfl,Fa.h0,cl,n1,rfl,_,.inl ⟨_,_,dc,rfl,rfl⟩,_,rfl,?_⟩;rw[show valD (Wn zs) (.inr n)=none from Ze2 hn];refine iteF ?_;let l1:=Vu Fa.h1;let new:∀g:Fq->D,∀v:D,putD (zs.map λz=>((.inr z.1:Key),g z)) (.inr n) v=(zs.map λz=>((.inr z.1:Key),g z))++[(.inr n,v)]:=λg v=>Zjn λkv hkv e=>by
    let⟨z,hz,rfl⟩:=Jn.mp hkv;exact hn (Jn.mpr ⟨z,hz,Jdh e⟩)
   refine⟨_,rfl,_,rfl,f,Ze,_,_,rfl,Fa.h0,cl,n1,rfl,_,rfl,_,.inl ⟨f+1,_,_,rfl,Fa.h1,rfl,ll _,rfl⟩,?_⟩;refine⟨_,rfl,_,_,rfl,rfl,_,rfl,f,Ze,_,_,rfl,Ux Fa.h0 (),cl,n2,rfl,_,rfl,_,.inl ⟨f+2,_,_,rfl,Ux Fa.h2 (),rfl,ll _,rfl⟩,.inl ?_⟩;let e1:putD (Wn zs) (.inr n) (.code S)=Wn (zs++[(n,S,mk)]):=by
    unfold Wn;rw[new,Jg];rfl
   let e2:putD (Xb zs) (.inr n) (.tup (mk.map .int))=Xb (zs++[(n,S,mk)]):=by
    unfold Xb;rw[new,Jg];rfl
   rw[e1,e2];exact k hn
def Dz(T:Txt mg)(cl:Cls K Ze)(n1:Yu K Ze "codes_by_name")(n2:Yu K Ze "marks_by_name"){f:Addr}(F:Fun K "names" "Family.names" Wr f fd):FnOk P w K mg base CX0 1 f fd ["self"] (spOf ⟨C,K⟩ (dNamesF Ze)):=by
 refine L3.Fun.ok3 F Jbr (λds M K3 h=>?_) (λcdv A outer s H E hr=>?_)
 .let⟨f,zs,rfl,_⟩:=h;rfl
 .let SC:=Jbr;let hu:=hr.units;let hu1:=Xh hr;exists _,_,(Zh (Zx (Z3 (Zce rfl) (by rfl) T.b_list Cz (Za (Wc (pv 0) rfl) Zb)))),λ_=>(Vl (s_cb Zmq (Ya (W3 (Z5 0)) Xn))),λds M Kk hM hD h=>?_;let⟨f,zs,rfl,h⟩:=h;let⟨Fa,k⟩:=h;let dc:Sh M (.cell (f+1))=some (Wn zs):=by simp only[Sh,Fa.h1]
  refine⟨_,rfl,f,Ze,_,_,rfl,Fa.h0,cl,n1,rfl,_,_,rfl,dc,.inl ?_⟩;let e:(Wn zs).map (λkv=>kD kv.1)=(zs.map (·.1)).map D.str:=by
   unfold Wn;rw[Gh,Gh];rfl
  rw[e];exact k
def Jcj(T:Txt mg)(cl:Cls K Ze)(n1:Yu K Ze "codes_by_name")(n2:Yu K Ze "marks_by_name")(W9:Rx P w K mg base "NoName" Yj 1 ["self","name"] (spX1 Yj "name")){f:Addr}(F:Fun K "code" "Family.code" Vc f fd):FnOk P w K mg base (CXE bctx P w) 3 f fd ["self","name"] (Tp ⟨C,K⟩ (dCodeX Ze Yj)):=by
 refine L3.Fun.okX3 F Dl (λds M K3 KX h=>?_) (λcdv A outer s H E hr=>?_)
 .let⟨f,n,zs,rfl,_⟩:=h;rfl
 .let SC:=Dl;let hu:=hr.units;let hu1:=Xh hr;let Ro:Room 2 _:=hr.mono nofun;refine⟨_,_,(Zc (Yn (S1 (Zaa hu1 (pv 1) (Wc (pv 0) rfl)))
 (Zh (U9 W9 Ro rfl (Za (pv 1) Zb)))
 Zy)
 (Zh (Zx (Zgp hu1 (Wc (pv 0) rfl) (pv 1) (λ_ _=>rfl))))),λ_ _ he hk hx=>(Z1 (Uq (s_b (Zc4 (Z5 1) (W3 (Z5 0)))) (Pl he hk hx (by symm)) X9) (Vl (Zky (W3 (Z5 0)) (Z5 1)))),λds M Kk KX hM hD h=>?_⟩
  let⟨f,n,zs,rfl,h⟩:=h;let⟨Fa,k,kx⟩:=h;let dc:Sh M (.cell (f+1))=some (Wn zs):=by simp only[Sh,Fa.h1]
  by_cases hn:n∈zs.map (·.1)
  .let⟨z,hz,rfl⟩:=Jn.mp hn;let ev:valD (Wn zs) (.inr z.1)=some (.code z.2.1):=Pf Fa.nd hz;exists ·,·,f,Ze,_,·,Fa.h0,cl,n1,rfl,_,.inl ⟨_,_,dc,rfl,rfl⟩,·,?_;rw[ev];refine iteF ?_;exists ·,f,Ze,_,·,Fa.h0,cl,n1,rfl,·,_,.inl ⟨_,_,dc,rfl,ev.symm⟩,.inl (k z hz rfl)
  .exists ·,·,f,Ze,_,·,Fa.h0,cl,n1,rfl,_,.inl ⟨_,_,dc,rfl,rfl⟩,·,?_;rw[show valD (Wn zs) (.inr n)=none from Ze2 hn];exact iteT ⟨_,rfl,_,rfl,kx hn⟩
def Jan(T:Txt mg)(cl:Cls K Ze)(n1:Yu K Ze "codes_by_name")(n2:Yu K Ze "marks_by_name")(W9:Rx P w K mg base "NoName" Yj 1 ["self","name"] (spX1 Yj "name")){f:Addr}(F:Fun K "mark" "Family.mark" Vb f fd):FnOk P w K mg base (CXE bctx P w) 3 f fd ["self","name"] (Tp ⟨C,K⟩ (dMarkX Ze Yj)):=by
 refine L3.Fun.okX3 F Jaq (λds M K3 KX h=>?_) (λcdv A outer s H E hr=>?_)
 .let⟨f,n,zs,rfl,_⟩:=h;rfl
 .let SC:=Jaq;let hu:=hr.units;let hu1:=Xh hr;let Ro:Room 2 _:=hr.mono nofun;refine⟨_,_,(Zc (Yn (S1 (Zaa hu1 (pv 1) (Wc (pv 0) rfl)))
 (Zh (U9 W9 Ro rfl (Za (pv 1) Zb)))
 Zy)
 (Zh (Zx (Zgp hu1 (Wc (pv 0) rfl) (pv 1) (λ_ _=>rfl))))),λ_ _ he hk hx=>(Z1 (Uq (s_b (Zc4 (Z5 1) (W3 (Z5 0)))) (Pl he hk hx (by symm)) X9) (Vl (Zky (W3 (Z5 0)) (Z5 1)))),λds M Kk KX hM hD h=>?_⟩
  let⟨f,n,zs,rfl,h⟩:=h;let⟨Fa,k,kx⟩:=h;let dc:Sh M (.cell (f+2))=some (Xb zs):=by simp only[Sh,Fa.h2]
  by_cases hn:n∈zs.map (·.1)
  .let⟨z,hz,rfl⟩:=Jn.mp hn;let ev:valD (Xb zs) (.inr z.1)=some (wD z.2.2):=Pf Fa.nd hz;exists ·,·,f,Ze,_,·,Fa.h0,cl,n2,rfl,_,.inl ⟨_,_,dc,rfl,rfl⟩,·,?_;rw[ev];refine iteF ?_;exists ·,f,Ze,_,·,Fa.h0,cl,n2,rfl,·,_,.inl ⟨_,_,dc,rfl,ev.symm⟩,.inl (k z hz rfl)
  .exists ·,·,f,Ze,_,·,Fa.h0,cl,n2,rfl,_,.inl ⟨_,_,dc,rfl,rfl⟩,·,?_;rw[show valD (Xb zs) (.inr n)=none from Ze2 hn];exact iteT ⟨_,rfl,_,rfl,kx hn⟩
open L3
def Dm(T:Txt mg)(cl:Cls K Ze)(n1:Yu K Ze "codes_by_name")(n2:Yu K Ze "marks_by_name")(Qe:Met P w K mg base Ze "mark" 3 ["self","name"] (spOf ⟨C,K⟩ (λds M K=>dMarkX Ze Yj ds M K λ_ _ _=>False)))(V0:Cal P w K mg base "begins_row" 1 ["mark","row"] (spOf ⟨C,K⟩ dBegR)){f:Addr}(F:Fun K "by_mark" "Family.by_mark" X1 f fd):FnOk P w K mg base CX0 4 f fd ["self","row"] (spOf ⟨C,K⟩ (dByMark Ze)):=by
 refine L3.Fun.ok3 F Jaa (λds M K3 h=>?_) (λcdv A outer s H E hr=>?_)
 .let⟨f,d,zs,ns,rfl,_⟩:=h;rfl
 .let SC:=Jaa;let hu:=hr.units;let hu1:=Xh hr;let P2:Room 3 _:=hr.mono nofun;let P3:Room 1 _:=hr.mono nofun;refine⟨_,_,(Zc (Zm7 (Uu (i:=2) SC.nd rfl rfl (T:=["name","mark"]) (cs:=[1]) rfl (CScope.ok (by kernel_rfl)) (Zjq (Wc (pv 0) rfl)) (λ_ _ _ _=>(W4 (n:=2) rfl (Z0 (Zq (i:=0) (Y5 (by kernel_rfl)) rfl (Ck rfl) (Ef rfl)) (Z0 (Zq (i:=1) (Y5 (by kernel_rfl)) rfl (Ck rfl) (Ef rfl)) Xs)) (by rfl))) (λ_ _ _ _=>(Ut (Sa (Zt V0 P3 rfl (Za (pv 1) (Za (pv 2) Zb)))))) (λ_ _ _ _=>(pv 0)) (Sd (Yp nofun (Yp nofun Vt)))))
 (Zc (Zs (i:=3) SC.nd rfl (Ef rfl) (Zov (K:=K) rfl rfl rfl T.b_max (Za (Y1 (T:=["name"]) (cs:=[0]) rfl (CScope.ok (by kernel_rfl)) (Y0 (pv 2)) (λ_ _ _ _=>(Zq (i:=0) (Y5 (by kernel_rfl)) rfl (Ck rfl) (Ef rfl))) (λ_ _ _ _=>Yz) (λ_ _ _ _=>(Zm (Z7 (K:=K) rfl) (by rfl) T.b_len Fv (Za (N9 (pv 1) Qe P2 (Za (pv 0) Zb)) Zb))) (Y3 nofun)) Zb) (Znb Zd Zrf)))
 (Zh (Zx (Y1 (T:=["name"]) (cs:=[0,3]) rfl (CScope.ok (by kernel_rfl)) (Y0 (pv 2)) (λ_ _ _ _=>(Zq (i:=0) (Y5 (by kernel_rfl)) rfl (Ck rfl) (Ef rfl))) (λ_ _ _ _=>(Ut (Zw (Xg (K':=K) rfl hu) (Zm (Z7 (K:=K) rfl) (by rfl) T.b_len Fv (Za (N9 (pv 1) Qe P2 (Za (pv 0) Zb)) Zb)) (pv 2) (nomark _)))) (λ_ _ _ _=>(pv 0)) (Y3 nofun)))))),λ_=>(Z1 (Zmm (Wj (Sy (Zms (W3 (Z5 0))) (by symm) (by symm) (Z5 0)) (s_g 2))) (Z1 (Wj (Zqu (Ya (Sy (s_il (Z5 2)) (s_g 0) Qu (s_cb Zjd (Ya (Ts (Z5 1) (by symm)) Xn))) Xn) (Ya Zjf Xn)) (s_g 3)) (Vl (Zmy (s_il (Z5 2)) (s_g 0) (Zkx (s_op s_eq (s_cb Zjd (Ya (Ts (Z5 1) (by symm)) Xn)) (Z5 2))) (Z5 0))))),λds M Kk hM hD h=>?_⟩
  let⟨f,d,zs,ns,rfl,h⟩:=h;let⟨Fa,hd,lz,k⟩:=h;refine⟨f+2,Xb zs,Fa.h2,_,rfl,f,Ze,_,_,rfl,Fa.h0,cl,n2,rfl,f+2,Xb zs,rfl,Fa.h2,λo vs=>?_⟩;let lmk:(Xb zs).length=zs.length:=Ja _;let hset:∀{N:Mem},M.set (f+2) (.dfK o vs (Xb zs))=N->N.set (f+2) (.dct (Xb zs))=M:=λ{N}e=>by
   rw[<-e,Fd];exact Jek λi=>by
    by_cases hi:f+2=i
    .subst hi;rw[Jx (Vu Fa.h2),Fa.h2]
    .rw[Gp hi]
  let nd_:d≠.cell (f+2):=λe=>by
   rw[e]at hd;simp only[lsOf,Fa.h2]at hd;cases hd
  let hd0:lsOf (M.set (f+2) (.dfK o vs (Xb zs))) d=some (ns.map .int):=Zk8 hd nd_;exists ?_,λj ys M'=>M.set (f+2) (.dfK o vs (Xb zs))=M'/\ys=((Y7 (zs.take j) ns).map (·.1)).map .str,?_,⟨rfl,rfl⟩,?_,?_
  .show(Xb zs).length<=Cb;rw[lmk];exact Zo ()
  .rintro i ys _ _ ⟨rfl,_⟩;exact Jx (Vu Fa.h2)
  .rintro j x ys _ hj ⟨kv,ekv,rfl⟩ ⟨rfl,rfl⟩;let hj:j<zs.length:=by
    let:j<(Xb zs).length:=hj;lia
   let ekv':kv=(.inr zs[j].1,wD zs[j].2.2):=by
    unfold Xb at ekv;rw[Jr,Jb hj]at ekv;exact(Fu ekv).symm
   subst ekv';refine⟨_,rfl,rfl,_,_,rfl,_,_,rfl,rfl,?_⟩;refine⟨_,rfl,_,rfl,zs[j].2.2,ns,d,rfl,hd0,_,rfl,?_⟩;let et:Y7 (zs.take (j+1)) ns=Y7 (zs.take j) ns++(if Sg zs[j].2.2 ns then [zs[j]]else []):=by
    unfold Y7;rw[Je hj,Gr,Gd,Bo]
   cases hb:Sg zs[j].2.2 ns with
   |true =>
    rw[hb]at et;refine iteT ⟨_,rfl,rfl,?_⟩;rw[et,Fp rfl,Jg,Jg];rfl
   |false =>
    rw[hb]at et;refine iteF ⟨rfl,?_⟩;rw[et,Fo nofun,Jz]
  rintro ys _ ⟨rfl,rfl⟩;let er:zs.take (iIt (f+2) o vs (Xb zs)).n=zs:=by
   show zs.take (Xb zs).length=zs;rw[lmk,Ge]
  rw[er];exists o,vs,Xb zs,Jx (Vu Fa.h2),?_;rw[hset rfl];let hin:∀z∈Y7 zs ns,z∈zs:=λz hz=>(Gz.mp hz).1;let lh:(Y7 zs ns).length<=100:=Ga (List.length_filter_le _ _) lz;generalize hH:Y7 zs ns=hs at hin lh;let lhm:((hs.map (·.1)).map D.str).length=hs.length:=by rw[Ja,Ja]
  let eh:hs.take ((hs.map (·.1)).map D.str).length=hs:=by rw[lhm,Ge]
  let item:∀{j:Nat}{x:D},((hs.map (·.1)).map D.str)[j]?=some x->∃hj:j<hs.length,x=.str hs[j].1:=λ{j x}e=>by
   rw[Jr,Jr]at e
   by_cases hj:j<hs.length
   .rw[Jb hj]at e;exists hj,(Fu e).symm
   .rw[Bh ()]at e;cases e
  exists ·,·,?_,λj ys M'=>M=M'/\ys=((hs.take j).map λz=>((z.2.2.length:Nat):Int)).map .int,λ_ _ _ _ _=>rfl,⟨rfl,rfl⟩,?_,?_
  .show((hs.map (·.1)).map D.str).length<=Cb;rw[lhm];exact Zo ()
  .rintro j x ys _ hj hx ⟨rfl,rfl⟩;let⟨hj',rfl⟩:=item hx;let hz:=hin _ (Jy hj');exists ·,⟨f,_,rfl,Fa.h0,rfl⟩,·,f,hs[j].1,zs,rfl,Fa,λy hy e=>?_,λhn=>Fh (Jn.mpr ⟨_,hz,rfl⟩) hn;obtain rfl:=S7 Fa.nd hy hz e;exists ·,rfl,?_;rw[Je hj',Jg,Jg,Ja];rfl
  rintro ys _ ⟨rfl,rfl⟩;rw[show Kl _ hs=hs from eh];exists _,_,·,rfl,rfl,?_;rw[Zrs];exists ·,·,?_,λj ys M'=>M=M'/\ys=(((hs.take j).filter λz=>decide (z.2.2.length=topF hs)).map (·.1)).map .str,λ_ _ _ _ _=>rfl,⟨rfl,rfl⟩,?_,?_
  .show((hs.map (·.1)).map D.str).length<=Cb;rw[lhm];exact Zo ()
  .rintro j x ys _ hj hx ⟨rfl,rfl⟩;let⟨hj',rfl⟩:=item hx;let hz:=hin _ (Jy hj');exists ·,⟨f,_,rfl,Fa.h0,rfl⟩,·,f,hs[j].1,zs,rfl,Fa,λy hy e=>?_,λhn=>Fh (Jn.mpr ⟨_,hz,rfl⟩) hn;obtain rfl:=S7 Fa.nd hy hz e;exists ·,·,.inl ⟨_,rfl,_,rfl,ite2 (λh=>?_) (λh=>?_)⟩
   .let h:hs[j].2.2.length=topF hs:=by
     let:=Fg h;rw[Ja]at this;lia
    exists ·,rfl,?_;rw[Je hj',Gr,Gd,Fp (Fs h),Jg,Jg];rfl
   .let h:¬ hs[j].2.2.length=topF hs:=λw=>h (Fs (by rw[Ja,w]));exists rfl,?_;rw[Je hj',Gr,Gd,Fo (λw=>h (Fg w)),Bo,Jz]
  .rintro ys _ ⟨rfl,rfl⟩;rw[show Kl _ hs=hs from eh];refine .inl (k _ _ ⟨_,rfl⟩ ?_ (Jd _));rw[<-hH];exact Yg
open L3
def Dh(T:Txt mg){Zu Zn Zj fJ:Addr}(cl:Cls K Ze)(n1:Yu K Ze "codes_by_name")(n2:Yu K Ze "marks_by_name")(xc_NoMark:XCl K Zu fJ)(xi_NoMark:Wu K Zu=some none)(Vg:mg "NoMark"=some (.ref Zu))(U3:Rx P w K mg base "TwoMarks" Zn 1 ["self","first","second"] (spX2 Zn "first" "second"))(RH_NoReading:RxH P w K mg base "NoReading" Zj 1 ["self","at"] (spX1 Zj "at"))(Xf:Cau K mg "NoReading" Zj)(m22:Eo K Zj (.ref Zj)=some true)(xc_NoReading:XCl K Zj fI)(na_at:Cu K (.ref Zj) "at"=some none)(Qf:Met P w K mg base Ze "by_mark" 4 ["self","row"] (spOf ⟨C,K⟩ (dByMark Ze)))(Qe:Met P w K mg base Ze "mark" 3 ["self","name"] (spOf ⟨C,K⟩ (λds M K=>dMarkX Ze Yj ds M K λ_ _ _=>False)))(Zig:Met P w K mg base Ze "code" 3 ["self","name"] (spOf ⟨C,K⟩ (λds M K=>dCodeX Ze Yj ds M K λ_ _ _=>False)))(Zih:CalE true P w K mg base "read" 3 ["code","row"] (Tp ⟨C,K⟩ (dReadX Zj))){f:Addr}(F:Fun K "opened" "Family.opened" Wa f fd):FnOk P w K mg base (CXE false P w) 5 f fd ["self","row"] (Tp ⟨C,K⟩ (dOpenedX Ze Zu Zn Zj)):=by
 refine L3.Fun.okX3 F Jbh (λds M K3 KX h=>?_) (λcdv A outer s H E hr=>?_)
 .let⟨f,d,zs,ns,rfl,_⟩:=h;rfl
 .let SC:=Jbh;let hu:=hr.units;let hu1:=Xh hr;let Zb6:Room 2 _:=hr.mono nofun;let Vs:Room 2 _:=hr.mono nofun;let Zel:Room 4 _:=hr.mono nofun;let P2:Room 3 _:=hr.mono nofun;let Zn7:Room 3 _:=hr.mono nofun;let Zn6:Room 3 _:=hr.mono nofun;refine⟨_,_,(Zc (Zs (i:=2) SC.nd rfl (Ck rfl) (N9 (pv 0) Qf Zel (Za (pv 1) Zb)))
 (Zc (Yn (Zw (Xg (K':=K) rfl hu) (Zm (Z7 (K:=K) rfl) (by rfl) T.b_len Fv (Za (pv 2) Zb)) Zd (nomark _))
 (Zh (Zgg xc_NoMark xi_NoMark Vg rfl))
 Zy)
 (Zc (Yn (Zw Zac (Zm (Z7 (K:=K) rfl) (by rfl) T.b_len Fv (Za (pv 2) Zb)) Zd (nomark _))
 (Zh (U9 U3 Zb6 rfl (Za (Zz (Z8 (K':=K) rfl) (pv 2) Zd (λ_ _=>rfl)) (Za (Zz (Z8 (K':=K) rfl) (pv 2) Zd (λ_ _=>rfl)) Zb))))
 Zy)
 (Zc (Zs (i:=3) SC.nd rfl (Ck rfl) (Zm (Z7 (K:=K) rfl) (by rfl) T.b_len Fv (Za (N9 (pv 0) Qe P2 (Za (Zz (Z8 (K':=K) rfl) (pv 2) Zd (λ_ _=>rfl)) Zb)) Zb)))
 (Zc (Zdd rfl rfl (λ_ _ _ _ hx=>Pn (Zgf (i:=4) SC.nd rfl (Ck rfl) (Znc Zih Zn6 rfl hx (Za (N9 (pv 0) Zig Zn7 (Za (Zz (Z8 (K':=K) rfl) (pv 2) Zd (λ_ _=>rfl)) Zb)) (Za (Z4 (Wi (K':=K) rfl) (pv 1) (Z6 (pv 3)) Yc) Zb))))) (Zr4 (i:=5) (j:=3) (f:="at") (g:="at") Zun rfl rfl rfl Xf rfl SC.nd rfl rfl rfl (Ck rfl) nofun RH_NoReading Vs.hh rfl Zdo rfl))
 (Zh (Zx (Yo (Za (Zz (Z8 (K':=K) rfl) (pv 2) Zd (λ_ _=>rfl)) (Za (pv 4) Zb)))))))))),λ_ _ he hk hx=>(Z1 (Wj (Ts (Z5 0) (by symm)) (s_g 2)) (Z1 (Uq (by symm) (Zja he hk hx) X9) (Z1 (Uq (by symm) (Zi9 he hk hx (by symm)) X9) (Z1 (Wj (s_cb Zjd (Ya (Ts (Z5 0) (by symm)) Xn)) (s_g 3)) (Z1 (Zi5 (λ_ _ _ he hk hx=>(Wj (Zmz he hk hx (Ya (Ts (Z5 0) (by symm)) (by symm))) (s_g 4))) (Zqz he hk hx Zc3)) (by symm)))))),λds M Kk KX hM hD h=>?_⟩
  let⟨f,d,zs,ns,rfl,h⟩:=h;let⟨Fa,hd,⟨lz,ln,ff⟩,kN,kT,kE,kX⟩:=h;exists ·,⟨f,_,rfl,Fa.h0,rfl⟩,·,f,d,zs,ns,rfl,Fa,hd,lz,λM1 c p1 hc lc=>?_;cases hb:Y9 zs ns with
  |nil =>
   rw[hb]at hc;exists ·,?_;refine Vi (Yd hc) ?_;exact .inl ⟨_,rfl,_,rfl,iteT (kN M1 p1 (.nomark hb))⟩
  |cons a r =>
   cases r with
   |cons b r =>
    rw[hb]at hc;exists ·,?_;refine Vi (Yd hc) ?_;refine .inl ⟨_,rfl,_,rfl,?_⟩;rw[Ft (by rw[Ja,Ju];lia)];refine iteF ?_;exists ·,?_;refine Vi (Yd hc) ?_;exists _,·,rfl,·,?_;rw[Fs (by rw[Ja,Ju,Ju];lia)];refine iteT ?_;exists ·,?_;refine Uj (Yd hc) (Xc (j:=0) rfl rfl) ?_;exists ·,?_;refine Uj (Yd hc) (Xc (j:=1) rfl rfl) ?_;exists _,·,kT a b M1 p1 (.two hb)
   |nil =>
    rw[hb]at hc;exists ·,?_;refine Vi (Yd hc) ?_;refine .inl ⟨_,rfl,_,rfl,iteF ?_⟩;exists ·,?_;refine Vi (Yd hc) ?_;exists _,·,rfl,·,iteF ?_;let⟨z,hz,rfl,_,_⟩:=Zd0 (zs:=zs) (ns:=ns) (n:=a) (by rw[hb];exact List.mem_singleton_self _);let F1:=Fa.pre p1;let lm:(z.2.2.map D.int).length=z.2.2.length:=Ja _;exists ·,⟨f,_,rfl,F1.h0,rfl⟩,·,?_;refine Uj (Yd hc) (Xc (j:=0) rfl rfl) ?_;exists f,z.1,zs,rfl,F1,λy hy e=>?_,λhn=>Fh (Jn.mpr ⟨_,hz,rfl⟩) hn;let ey:=S7 Fa.nd hy hz e;subst ey;exists ·,?_;refine g_nx ?_
    try dsimp only
    exists ·,⟨f,_,rfl,F1.h0,rfl⟩,·,?_;refine Uj (Yd hc) (Xc (j:=0) rfl rfl) ?_;exists f,y.1,zs,rfl,F1,λx hx ex=>?_,λhn=>Fh (Jn.mpr ⟨_,hy,rfl⟩) hn;let ex:=S7 Fa.nd hx hy ex;subst ex;exists ·,·,·,?_;refine Sv (Um p1 hd) ?_;rw[lm,Wf,W7];let f1:=ff _ hy;let lt:(ns.drop x.2.2.length).length=ns.length-x.2.2.length:=Gb;exists x.2.1,_,ns.drop x.2.2.length,rfl,rfl,⟨f1.2,()⟩,λR pl en hl=>?_,λR pl en hl=>?_
    .let⟨ts,hos⟩:=Zdx en.2.1;refine g_nx ?_
     try dsimp only
     exists ·,?_;refine Uj (Yd (Y8 hc)) (Xc (j:=0) rfl rfl) ?_;exists ·,(show 2<=Cb by decide),.inl ?_;rw[Znk hos];exact kX x.1 ts _ M1.length (p1.trans ⟨_,rfl⟩) (.text hy hb en hl hos) Yg (Zna p1)
    .let z:=kE (x.2.2.length+pl) M1 p1 (.ends hy hb en hl);rw[B9]at z;exists true,m22,?_;rw[Fp rfl];exists _,_,fI,rfl,xc_NoReading,na_at,rfl,z
open L3
abbrev Px:Str:=Co "abcdefghijklmnopqrstuvwxyz"
instance mvN(cs:List Nat)(a lg j:Nat):List Nat:=cs.set a ((cs[a]?.getD 0+3*j) % 26)++Cm (lg*j % 2) a
def Znr{a:Nat}(h:∀c∈cs,c<26)(ha:a<26):∀c∈mvN cs a lg j,c<26:=λc hc=>by
 rcases Jt.mp hc with z|z
 .rcases Km z with y|y
  .exact h c y
  .rw[y];lia
 .rw[(List.mem_replicate.mp z).2];exact ha
def Qx{a:Nat}:(mvN cs a lg j).length=cs.length+lg*j % 2:=by
 unfold mvN;rw[Jc,Gi,List.length_replicate]
def Zuf{a:Nat}(ha:a<cs.length)(hij:i<j)(hj:j<9):mvN cs a lg i≠mvN cs a lg j:=λe=>by
 let at_:∀k,(mvN cs a lg k)[a]?=some ((cs[a]?.getD 0+3*k) % 26):=λk=>by
  unfold mvN;rw[Js (by rw[Gi];exact ha),Jx ha]
 let:=at_ i;rw[e,at_ j]at this;let:=Fu this;lia
def Zrt{a n:Nat}(ha:a<cs.length)(hn:n<=9):((Ec n).map λj=>nmS (mvN cs a lg j)).Nodup:=by
 rw[List.nodup_iff_pairwise_ne,Gv];let:(Ec n).Pairwise (· < ·):=List.pairwise_lt_range;refine this.imp_of_mem λ{i j}hi hj hij e=>Zuf ha hij ?_ (Zrn e);let:=List.mem_range.mp hj;lia
def ixN_nat{n:Nat}(h:j<n):ixN n (j:Int)=some j:=by
 unfold ixN;rw[Fp (),Fp (),Bd]
def Zfw{X:Mem} :(M++[m]++X).set M.length m'=M++[m']++X:=by
 rw[Gc,Gc,Jc8 _ _ (Jd _),Nat.sub_self];rfl
def Zb8{X:Mem} :(M++[m]++X)[M.length]?=some m:=by
 rw[Gc,Gk (Jd _),Nat.sub_self];rfl
def Dd(T:Txt mg)(Zf:Cal P w K mg base "_law_draw" 1 ["_law_hand","_law_many"] (spOf ⟨C,K⟩ dDraw)){f:Addr}(F:Fun K "_law_names" "_law_names" Jbi f fd):FnOk P w K mg base CX0 2 f fd ["_law_hand","_law_many"] (spOf ⟨C,K⟩ dNames41):=by
 refine L3.Fun.ok3 F Jbm (λds M K3 h=>?_) (λcdv A outer s H E hr=>?_)
 .let⟨k0,n,rfl,_⟩:=h;rfl
 .let SC:=Jbm;let hu:=hr.units;let hu1:=Xh hr;let Zg:Room 1 _:=hr.mono nofun;refine⟨_,_,(Zc (Zs (i:=2) SC.nd rfl (Ef rfl) Yx)
 (Zc (Uu (i:=3) SC.nd rfl rfl (T:=["_law_k"]) (cs:=[0]) rfl (CScope.ok (by kernel_rfl)) (Yb rfl T.b_range (Za (Zv (Yw (K':=K) rfl) Zd (Zt Zf Zg rfl (Za (pv 0) (Za Zd Zb)))) Zb)) (λ_ _ _ _=>(Zq (i:=0) (Y5 (by kernel_rfl)) rfl (Ck rfl) (Ef rfl))) (λ_ _ _ _=>Yz) (λ_ _ _ _=>(Zt Zf Zg rfl (Za (pv 1) (Za Zd Zb)))) (Y3 nofun))
 (Zc (Zs (i:=4) SC.nd rfl (Ck rfl) (Zv Yr (Zt Zf Zg rfl (Za (pv 0) (Za Zd Zb))) (Zm (Z7 (K:=K) rfl) (by rfl) T.b_len Fv (Za (pv 3) Zb))))
 (Zc (Zs (i:=5) SC.nd rfl (Ck rfl) (Zt Zf Zg rfl (Za (pv 0) (Za Zd Zb))))
 (Zc (Zs (i:=6) SC.nd rfl (Ck rfl) (Yh Zb))
 (Zc (X5 C1 rfl (Yb rfl T.b_range (Za (pv 1) Zb)) (Zq (i:=7) SC.nd rfl (Ck rfl))
 (Zc (Zs (i:=8) SC.nd rfl (Ck rfl) (Z3 (Vy (K:=K) rfl) (by rfl) T.b_list Cz (Za (pv 3) Zb)))
 (Zc (Sb (Zv Yr (Zv (Yw (K':=K) rfl) (Zz (Z8 (K':=K) rfl) (pv 3) (pv 4) (λ_ _=>rfl)) (Zv Qr Zd (pv 7))) Zd) (Zdg (pv 8) (pv 4) U7))
 (Zh (Wb (Ql C7 C5 C6 Xl (pv 6) (Za (Ql PySem.F.plainAttrs_str PySem.F.slot_str_join PySem.F.type_str_join (Zow (K:=K) rfl) Yx (Za (Y1 (T:=["_law_one"]) (cs:=[2]) rfl (CScope.ok (by kernel_rfl)) (Y0 (Zv (Yw (K':=K) rfl) (pv 8) (Zv Qr (Yh (Za (pv 4) Zb)) (Zv Yr (Zv Qr (pv 5) (pv 7)) Zd)))) (λ_ _ _ _=>(Zq (i:=0) (Y5 (by kernel_rfl)) rfl (Ck rfl) (Ef rfl))) (λ_ _ _ _=>Yz) (λ_ _ _ _=>(Zz (Z8 (K':=K) rfl) (pv 1) (pv 0) (λ_ _=>rfl))) (Y3 nofun)) Zb)) Zb)))))))
 (Zc (Yn (PW.pt (N5 (Zw Zac (pv 1) Zd (nomark _)) (N5 (Zw Zac (Zm (Z7 (K:=K) rfl) (by rfl) T.b_len Fv (Za (pv 3) Zb)) Zd (nomark _)) (Pm (Zw (Xg (K':=K) rfl hu) (Zt Zf Zg rfl (Za (pv 0) (Za Zd Zb))) Zd (nomark _))))))
 (Zh (Sb (Z4 (Wi (K':=K) rfl) (Zz (Z8 (K':=K) rfl) (pv 6) Zd (λ_ _=>rfl)) Yc (Z6 (Zv Zdi (Zm (Z7 (K:=K) rfl) (by rfl) T.b_len Fv (Za (pv 3) Zb)) Zd))) (Zdg (pv 6) Zd U7)))
 Zy)
 (Zh (Zx (pv 6)))))))))),λ_=>(Z1 (by symm) (Z1 (by symm) (Z1 (by symm) (Z1 (by symm) (Z1 (Wj (Zc1 Xn) (s_g 6)) (Z1 (N1 (by symm) (s_g 7) (Z1 (Wj (s_cb Zbj (by symm)) (s_g 8)) (Z1 (Wj (by symm) (Zf0 (Z5 8) (Z5 4))) (N2 (Zc5 (Z5 6) (Ya (Zqy Zi6 (by symm)) Xn)))))) (Z1 (Uq (by symm) (Wj (by symm) (Zf0 (Z5 6) Zjf)) X9) (Vl (Z5 6))))))))),λds M Kk hM hD h=>?_⟩
  let⟨k0,n,rfl,h⟩:=h;let⟨hk,hn,k⟩:=h;let kl:=Vu hk;exists ·,k0,7,rfl,hk,⟨nofun,nofun⟩,λr r0 r1=>?_;refine add_int ?_;exists 1+r,rfl,⟨(),()⟩,?_,λj ys M'=>M=M'/\∃cs:List Nat,cs.length=j/\(∀c∈cs,c<26)/\ys=cs.map λc:Nat=>D.int c,λ_ _ _ _ _=>trivial,⟨rfl,[],rfl,(λ_ h=>nomatch h),rfl⟩,?_,?_
  .show((1+r).toNat)<=Cb;exact Zo ()
  .rintro j x ys _ hj rfl ⟨rfl,cs,rfl,hc,rfl⟩;exists ·,k0,26,rfl,hk,⟨nofun,nofun⟩,λq q0 q1=>⟨rfl,cs++[q.toNat],by rw[Jc];rfl,λc hc'=>?_,?_⟩
   .rcases Jt.mp hc' with z|z
    .exact hc c z
    .rw[Jj.mp z];lia
   .rw[Jg,show q=((q.toNat:Nat):Int)by lia];rfl
  rintro ys _ ⟨rfl,cs,lc,hc,rfl⟩;let lc:cs.length=(1+r).toNat:=lc;let lcm:(cs.map λc:Nat=>D.int c).length=cs.length:=Ja _;exists ·,k0,7,rfl,hk,⟨nofun,nofun⟩,λq q0 q1=>?_;let l0:(0:Int)<((cs.map λc:Nat=>D.int c).length:Int):=by rw[lcm];lia
  let⟨a,ea,ha⟩:=Qy q (n:=(cs.map λc:Nat=>D.int c).length) ();rw[lcm]at ha;exists ·,·,_,·,rfl,l0,?_
  try dsimp only
  rw[ea];let ha26:a<26:=by lia
  exists ·,k0,2,rfl,hk,⟨nofun,nofun⟩,λg g0 g1=>?_;obtain⟨lg,rfl⟩:∃lg:Nat,g=lg:=⟨g.toNat,()⟩;let hlg:lg<2:=by lia
  exists J8 _,?_;exists ·,·,⟨(),()⟩,λi ρ M'=>∃(v7 v8:Option D)(X:Mem),ρ=[some (.cell k0),some (.int n),some (.str Px),some (.lst (cs.map λc:Nat=>D.int c)),some (.int a),some (.int lg),some (.cell M.length),v7,v8]/\M++[.lst (((Ec i).map λj=>nmS (mvN cs a lg j)).map .str)]++X=M',λ_ _ _ _ _=>trivial,⟨_,_,[],rfl,by rw[Jz];rfl⟩,?_,?_
  .rintro i x ρ _ hi rfl ⟨v7,v8,X,rfl,rfl⟩;let hi:i<n:=by
    let:i<((n:Int)).toNat:=hi;lia
   let e0:(0:Int)+(i:Int)=(i:Int):=B5 _;rw[e0];generalize hN:M++[MO.lst (((Ec i).map λj=>nmS (mvN cs a lg j)).map .str)]++X=N;refine⟨_,rfl,_,_,rfl,rfl,?_⟩;refine⟨_,rfl,_,rfl,_,_,_,rfl,rfl,Ve (j:=a) rfl ha,_,rfl,.inl ⟨nofun,nofun⟩,?_⟩;refine add_int ?_;refine⟨_,_,rfl,rfl,(show(0:Int)<26 by decide),?_⟩;refine⟨_,rfl,_,rfl,N.length,_,_,a,rfl,rfl,Yg,ixN_nat (by rw[lcm];exact ha),?_⟩;rw[Uc];let ecs:(cs.map λc:Nat=>D.int c).set a (.int (((cs[a]:Nat)+3*(i:Int)) % 26))=(cs.set a ((cs[a]?.getD 0+3*i) % 26)).map λc:Nat=>D.int c:=by
    rw[List.map_set,Jb ha]
    congr 1
   rw[ecs];let hmid:(N++[MO.lst ((cs.set a ((cs[a]?.getD 0+3*i) % 26)).map λc:Nat=>D.int c)])[M.length]?=some (.lst (((Ec i).map λj=>nmS (mvN cs a lg j)).map .str)):=Y8 (by rw[<-hN];exact Zb8);exists ·,Tv (Yd hmid),?_;exists ·,?_;exists ·,·,(show 1<=Cb by decide),·,·,.inl ⟨(),()⟩,_,·,rfl,(show(0:Int)<2 by decide),_,·,rfl,⟨(),(),?_⟩,?_
   .show 1*_<=Cb;exact Zo ()
   let elg:((lg:Int)*(i:Int) % 2).toNat=lg*i % 2:=by lia
   try dsimp only
   rw[elg];let emv:((cs.set a ((cs[a]?.getD 0+3*i) % 26)).map λc:Nat=>D.int c)++(Cm (lg*i % 2) [D.int a]).flatten=(mvN cs a lg i).map λc:Nat=>D.int c:=by
    unfold mvN;rw[Jg,List.map_replicate]
    congr 1
    generalize lg*i % 2=t
    induction t with
    |zero=>rfl
    |succ t ih=>rw[G2,Bl,ih,G2];rfl
   let lmv:(mvN cs a lg i).length<=8:=by rw[Qx];lia
   exists _,_,Zgz,rfl,?_,?_
   .rw[<-Jc,emv,Ja];exact Zo ()
   rw[emv];exists ·,?_,λj ys M'=>N++[MO.lst ((cs.set a ((cs[a]?.getD 0+3*i) % 26)).map λc:Nat=>D.int c)]=M'/\ys=(((mvN cs a lg i).take j).map λc=>(⟨#[97+c]⟩:Str)).map D.str,λ_ _ _ _ _=>rfl,⟨rfl,rfl⟩,?_,?_
   .show((mvN cs a lg i).map λc:Nat=>D.int c).length<=Cb;rw[Ja];exact Zo ()
   .rintro j x ys _ hj hx ⟨rfl,rfl⟩;let⟨hj',rfl⟩:=Y4 hx;let hlt:=Znr (lg:=lg) (j:=i) hc ha26 _ (Jy hj');exists ·,·,_,·,(show Px.length<=Cb by decide),Zue hlt,rfl,?_;rw[Je hj',Jg,Jg];rfl
   rintro ys _ ⟨rfl,rfl⟩;let er:(mvN cs a lg i).take ((mvN cs a lg i).map λc:Nat=>D.int c).length=mvN cs a lg i:=by rw[Ja,Ge]
   rw[show Kl _ (mvN cs a lg i)=mvN cs a lg i from er];exists _,·,rfl,?_,?_
   .rw[Gh,Ja];let:((mvN cs a lg i).map ((λx:Str=>x.length) ∘ λc=>(⟨#[97+c]⟩:Str))).sum=(mvN cs a lg i).length:=by
     generalize mvN cs a lg i=l
     induction l with
     |nil=>rfl
     |cons c l ih=>rw[Jk,List.sum_cons,ih,Ju];show 1+_=_;lia
    rw[this];show _+_*0<=_;lia
   rw[Znp];exists M.length,_,·,rfl,hmid,?_,.inl ⟨_,_,X++[MO.lst ((cs.set a ((cs[a]?.getD 0+3*i) % 26)).map λc:Nat=>D.int c)],rfl,?_⟩
   .rw[Ja,Ja,G9];exact Jw hi (Zo ())
   .rw[<-hN,Gc _ X _,Zfw,Jc9,Jg,Jg];rfl
  .rintro ρ _ ⟨v7,v8,X,rfl,rfl⟩;let eN:(Zf7 0 ((n:Int)).toNat).n=n:=Bd n;rw[eN];let zl:((Ec n).map λj=>nmS (mvN cs a lg j)).length=n:=by rw[Ja,G9]
   let znd:=Zrt (lg:=lg) ha (by lia:n<=9);let zok:∀z∈(Ec n).map λj=>nmS (mvN cs a lg j),z.length<=8/\C0 z=true:=λz hz=>by
    let⟨j,_,rfl⟩:=Jn.mp hz;exists by rw[S6,Qx];lia,Zrm (Znr hc ha26)
   let zge:∀z∈(Ec n).map λj=>nmS (mvN cs a lg j),cs.length<=z.length:=λz hz=>by
    let⟨j,_,rfl⟩:=Jn.mp hz;rw[S6,Qx];lia
   let zal:∀z∈(Ec n).map λj=>nmS (mvN cs a lg j),cs.length<=z.length+1/\z.length<=cs.length+1:=λz hz=>by
    let⟨j,_,rfl⟩:=Jn.mp hz;rw[S6,Qx];lia
   let fin:∀(zs:List Str)(Y:Mem),zs.Nodup->zs.length=n->(∀z∈zs,z.length<=8/\C0 z=true)->(∀z∈zs,cs.length<=z.length+1/\z.length<=cs.length+1)->Dk M.length Kk (.cell M.length) (M++[.lst (zs.map .str)]++Y):=λzs Y h1 h2 h3 h4=>by
    let et:(M++[MO.lst (zs.map .str)]++Y).take (M.length+1)=M++[MO.lst (zs.map .str)]:=by
     rw[Ba (by rw[Jc];exact Jd _),G8 (by rw[Jc];exact Jd _)]
    refine .inr ⟨M.length+1,G1 _,Pb (Bc _),λm hm=>?_,by rw[et];exact k zs h1 h2 h3 (Znq h4)⟩;rw[et]at hm;rcases Jt.mp hm with z|z
    .exact(hM m z).up (G1 _)
    .rw[Jj.mp z];refine Zlk λd hd=>?_;let⟨y,_,rfl⟩:=Jn.mp hd;exact Za4
   generalize hz:(Ec n).map (λj=>nmS (mvN cs a lg j))=zs at zl znd zok zge zal
   try dsimp only
   refine Ss (λρ' M'=>∃(zs:List Str)(Y:Mem),zs.Nodup/\zs.length=n/\(∀z∈zs,z.length<=8/\C0 z=true)/\(∀z∈zs,cs.length<=z.length+1/\z.length<=cs.length+1)/\M++[.lst (zs.map .str)]++Y=M'/\ρ'=[some (.cell k0),some (.int n),some (.str Px),some (.lst (cs.map λc:Nat=>D.int c)),some (.int a),some (.int lg),some (.cell M.length),v7,v8]) (λKn hn'=>?_) ?_
   .exists ·,_,·,rfl,·,ite2 (λh=>?_) (λh=>iteF (hn' _ _ ⟨zs,X,znd,zl,zok,zal,rfl,rfl⟩));let h1:1<n:=by have:=Fg h;lia
    exists ·,·,_,·,rfl,·,ite2 (λh=>?_) (λh=>iteF (hn' _ _ ⟨zs,X,znd,zl,zok,zal,rfl,rfl⟩));let h2:1<cs.length:=by have:=Fg h;rw[lcm]at this;lia
    let hk':∀{Y:Mem},(M++Y)[k0]?=some .hand:=λ{Y}=>by rw[Js kl];exact hk
    refine⟨_,rfl,k0,2,rfl,by rw[Gc];exact hk',⟨nofun,nofun⟩,λy y0 y1=>.inl ⟨_,rfl,_,rfl,ite2 (λh=>?_) (λh=>hn' _ _ ⟨zs,X,znd,zl,zok,zal,rfl,rfl⟩)⟩⟩;let z0:zs[0]?=some (nmS (mvN cs a lg 0)):=by
     rw[<-hz,Jr,List.getElem?_range ()];rfl
    let e0m:(zs.map D.str)[0]?=some (.str (nmS (mvN cs a lg 0))):=by rw[Jr,z0];rfl
    refine⟨_,rfl,_,_,_,(Xo (Yd Zb8)).2.2,rfl,Xc (j:=0) rfl e0m,?_⟩;let l0z:=zok _ (Gq z0);let hcut:Txt.slice (nmS (mvN cs a lg 0)) none (some (((cs.map λc:Nat=>D.int c).length:Int)-1))=nmS ((mvN cs a lg 0).take (cs.length-1)):=by
     rw[lcm,show((cs.length:Int)-1)=((cs.length-1:Nat):Int)by lia];exact Zro (by rw[Qx];lia)
    let lcut:(nmS ((mvN cs a lg 0).take (cs.length-1))).length=cs.length-1:=by rw[S6,J0,Qx];lia
    exists ·,·,_,·,rfl,·,Ga l0z.1 nofun,?_;rw[hcut];exists ·,M.length,_,_,1,rfl,rfl,Zb8,ixN_nat (j:=1) (by rw[Ja,zl];exact h1),?_;rw[Zfw];refine hn' _ _ ⟨zs.set 1 (nmS ((mvN cs a lg 0).take (cs.length-1))),X,Zgx znd (λw=>?_) 1,by rw[Gi];exact zl,λz hz'=>?_,λz hz'=>?_,by rw[List.map_set],rfl⟩
    .let:=zge _ w;lia
    .rcases Km hz' with y|y
     .exact zok z y
     .rw[y];exists by lia,Zrm λc hc'=>Znr hc ha26 c (Bk hc')
    .rcases Km hz' with y|y
     .exact zal z y
     .rw[y];lia
   .rintro _ _ ⟨zs,Y,h1,h2,h3,h4,rfl,rfl⟩;exists ·,fin zs Y h1 h2 h3 h4
open L3
def pick_at{bs:List Int}(h:bs≠[])(y:Int):∃b∈bs,L2.atI (bs.map D.int) (y % ((bs.map D.int).length:Int))=some (.int b):=by
 let h0:0<bs.length:=J9.mpr h;let⟨a,ea,ha⟩:=Qy y (n:=(bs.map D.int).length) (by rw[Ja];exact h0);rw[Ja]at ha;exact⟨bs[a],Jy ha,by rw[ea];exact Ve (j:=a) rfl ha⟩
def Zix{y d:Int}(h1:1<=y)(h2:y<4)(d0:0<=d)(d1:d<3):∃t:Int,L2.atI [D.int 0,D.int 1,D.int (1+d)] (y-1)=some (.int t)/\0<=t/\t<=3:=by
 let:y=1\/y=2\/y=3:=by lia
 rcases this with rfl|rfl|rfl
 .exact⟨0,rfl,(),()⟩
 .exact⟨1,rfl,(),()⟩
 .exact⟨1+d,rfl,(),()⟩
def Jbc(T:Txt mg)(Zf:Cal P w K mg base "_law_draw" 1 ["_law_hand","_law_many"] (spOf ⟨C,K⟩ dDraw)){f:Addr}(F:Fun K "_law_mark" "_law_mark" Jby f fd):FnOk P w K mg base CX0 2 f fd ["_law_hand","_law_some","_law_marks"] (spOf ⟨C,K⟩ dMark41):=by
 refine L3.Fun.ok3 F Do (λds M K3 h=>?_) (λcdv A outer s H E hr=>?_)
 .let⟨k0,bs,ms,rfl,_⟩:=h;rfl
 .let SC:=Do;let hu:=hr.units;let hu1:=Xh hr;let Zg:Room 1 _:=hr.mono nofun;refine⟨_,_,(Zc (Zs (i:=3) SC.nd rfl (Ck rfl) (Zt Zf Zg rfl (Za (pv 0) (Za Zd Zb))))
 (Zc (Yn (Zw (Xg (K':=K) rfl hu) (pv 3) Zd (nomark _))
 (Zh (Zx (Yo Zb)))
 Zy)
 (Zc (Yn (PW.pt (N5 (Zw Zab (pv 3) Zd (nomark _)) (Pm (Zw (Ze3 (K':=K) rfl hu) (pv 2) (Yh Zb) (nomark _)))))
 (Zc (Zs (i:=4) SC.nd rfl (Ck rfl) (Zz (Z8 (K':=K) rfl) (pv 2) (Zv Yr (Zt Zf Zg rfl (Za (pv 0) (Za Zd Zb))) (Zm (Z7 (K:=K) rfl) (by rfl) T.b_len Fv (Za (pv 2) Zb))) (λ_ _=>rfl)))
 (Zc (X5 C1 rfl (Yb rfl T.b_range (Za (Zz (Z8 (K':=K) rfl) (Yh (Za Zd (Za Zd (Za (Zv (Yw (K':=K) rfl) Zd (Zt Zf Zg rfl (Za (pv 0) (Za Zd Zb)))) Zb)))) (Zv Zdi (pv 3) Zd) (λ_ _=>rfl)) Zb)) (Zq (i:=5) SC.nd rfl (Ck rfl))
 (Zh (Yn (Zw Zab (Zm (Z7 (K:=K) rfl) (by rfl) T.b_len Fv (Za (pv 4) Zb)) Zd (nomark _))
 (Zh (Zs (i:=4) SC.nd rfl (Ck rfl) (Zv (Zlp (K':=K) rfl) (pv 4) (Yo (Za (Zz (Z8 (K':=K) rfl) (pv 1) (Zv Yr (Zt Zf Zg rfl (Za (pv 0) (Za Zd Zb))) (Zm (Z7 (K:=K) rfl) (by rfl) T.b_len Fv (Za (pv 1) Zb))) (λ_ _=>rfl)) Zb)))))
 Zy)))
 (Zh (Zx (pv 4)))))
 Zy)
 (Zh (Zx (Z3 (R9 (K:=K) rfl) (by rfl) T.b_tuple C8 (Za (Y1 (T:=["_law_k"]) (cs:=[1,0]) rfl (CScope.ok (by kernel_rfl)) (Yb rfl T.b_range (Za (Zv (Yw (K':=K) rfl) Zd (Zt Zf Zg rfl (Za (pv 0) (Za Zd Zb)))) Zb)) (λ_ _ _ _=>(Zq (i:=0) (Y5 (by kernel_rfl)) rfl (Ck rfl) (Ef rfl))) (λ_ _ _ _=>Yz) (λ_ _ _ _=>(Zz (Z8 (K':=K) rfl) (pv 1) (Zv Yr (Zt Zf Zg rfl (Za (pv 2) (Za Zd Zb))) (Zm (Z7 (K:=K) rfl) (by rfl) T.b_len Fv (Za (pv 1) Zb))) (λ_ _=>rfl))) (Y3 nofun)) Zb))))))),λ_=>(Z1 (by symm) (Z1 (by symm) (Z1 (Uq (by symm) (Z1 (by symm) (Z1 (N1 (by symm) (s_g 5) (Uq (by symm) (Wj (s_op Zq4 (Z5 4) (by symm)) (s_g 4)) X9)) (Vl (Z5 4)))) X9) (by symm)))),λds M Kk hM hD h=>?_⟩
  let⟨k0,bs,ms,rfl,h⟩:=h;let⟨hk,⟨hb,lb,lm,hm⟩,k⟩:=h;let b0:(0:Int)<((bs.map D.int).length:Int):=by rw[Ja];let:=J9.mpr hb;lia
  exists ·,k0,6,rfl,hk,⟨nofun,nofun⟩,λy y0 y1=>?_;exists ·,.inl ⟨_,rfl,_,rfl,ite2 (λh=>?_) (λh=>?_)⟩
  .exists J8 _,.inl (k [] (J8 _) λ_ h=>nomatch h)
  let hy:y≠0:=λe=>h (Fs e);dsimp only[Zpn,Zpl,Zpk,Zpc,Zbc,Ze6,Zl8,Zph,Zpg,Zpf,Zkn];refine Ss (λρ' M'=>ρ'=[some (.cell k0),some (.lst (bs.map .int)),some (.lst (ms.map wD)),some (.int y),none,none]/\M=M') (λKn hn=>?_) ?_
  .exists ·,_,·,rfl,·,ite2 (λh=>?_) (λh=>iteF (hn _ _ ⟨rfl,rfl⟩));let hy4:y<4:=Fg h;exists ·,J8 _,Vw (Rw We) (a:=ms) (b:=[]) rfl rfl ⟨_,rfl,?_⟩
   by_cases e:ms=[]
   .rw[Fs e];exact iteF (hn _ _ ⟨rfl,rfl⟩)
   rw[Ft e];refine iteT ?_;let lmm:(ms.map wD).length=ms.length:=Ja _;let m0:0<ms.length:=J9.mpr e;let m0':(0:Int)<((ms.map wD).length:Int):=by rw[lmm];lia
   exists ·,·,k0,60,rfl,hk,⟨nofun,nofun⟩,λz z0 z1=>?_;let⟨a,ea,ha⟩:=Qy z (n:=(ms.map wD).length) (by rw[lmm];exact m0);rw[lmm]at ha;exists ·,·,_,·,rfl,m0',?_
   try dsimp only
   rw[ea];exists _,_,·,rfl,Ve (j:=a) rfl ha,?_;exists ·,k0,3,rfl,hk,⟨nofun,nofun⟩,λd d0 d1=>?_;let⟨t,et,t0,t3⟩:=Zix (y:=y) () hy4 d0 d1;refine add_int ?_;exists(show 3<=Cb by decide),·,_,·,rfl,_,_,·,rfl,et,t,rfl,⟨(),()⟩,?_;exists λi ρ M'=>∃(mk:List Int)(v5:Option D),ρ=[some (.cell k0),some (.lst (bs.map .int)),some (.lst (ms.map wD)),some (.int y),some (wD mk),v5]/\M=M'/\mk.length<=4/\∀b∈mk,b∈bs,λ_ _ _ _ _=>trivial,⟨ms[a],_,rfl,rfl,(hm _ (Jy ha)).1,(hm _ (Jy ha)).2⟩,?_,?_
   .rintro i x ρ _ hi rfl ⟨mk,v5,rfl,rfl,l4,hmk⟩;let lk:(mk.map D.int).length=mk.length:=Ja _;exists ·,·,_,·,rfl,·,ite2 (λh=>?_) (λh=>.inl ⟨mk,_,rfl,rfl,l4,hmk⟩);let h4:mk.length<4:=by have:=Fg h;rw[lk]at this;lia
    exists ·,·,·,k0,60,rfl,hk,⟨nofun,nofun⟩,λu u0 u1=>?_;let⟨b,hb',eb⟩:=pick_at hb u;exists ·,·,_,·,rfl,b0,_,_,·,rfl,eb,(show 1<=Cb by decide),_,·,rfl,?_,?_
    .rw[lk];exact Zo (by show mk.length+1<=100000;lia)
    let em:D.tup (mk.map .int++[.int b])=wD (mk++[b]):=by
     unfold wD;rw[Jg];rfl
    rw[em];refine .inl ⟨mk++[b],_,rfl,rfl,by rw[Jc];exact h4,λc hc=>?_⟩;rcases Jt.mp hc with w|w
    .exact hmk c w
    .rw[Jj.mp w];exact hb'
   .rintro ρ _ ⟨mk,v5,rfl,rfl,l4,hmk⟩;exists ·,.inl (k mk l4 hmk)
  rintro _ _ ⟨rfl,rfl⟩;exists ·,k0,3,rfl,hk,⟨nofun,nofun⟩,λd d0 d1=>?_;refine add_int ?_;exists 1+d,rfl,⟨(),()⟩,?_,λj ys M'=>M=M'/\∃mk:List Int,mk.length=j/\(∀b∈mk,b∈bs)/\ys=mk.map .int,λ_ _ _ _ _=>trivial,⟨rfl,[],rfl,(λ_ h=>nomatch h),rfl⟩,?_,?_
  .show(1+d).toNat<=Cb;exact Zo ()
  .rintro j x ys _ hj rfl ⟨rfl,mk,rfl,hmk,rfl⟩;exists ·,·,k0,60,rfl,hk,⟨nofun,nofun⟩,λu u0 u1=>?_;let⟨b,hb',eb⟩:=pick_at hb u;refine⟨_,rfl,_,rfl,_,_,rfl,rfl,b0,_,_,_,rfl,rfl,eb,rfl,mk++[b],by rw[Jc];rfl,λc hc=>?_,by rw[Jg];rfl⟩;rcases Jt.mp hc with w|w
   .exact hmk c w
   .rw[Jj.mp w];exact hb'
  .rintro ys _ ⟨rfl,mk,lk,hmk,rfl⟩;let lk:mk.length=(1+d).toNat:=lk;exists _,·,rfl,.inl (k mk () hmk)
open L3
def Jbg(T:Txt mg)(Y6:Cal P w K mg base "_law_open" 1 ["_law_script","_law_place"] (spOf ⟨C,K⟩ dOpen))(Zf:Cal P w K mg base "_law_draw" 1 ["_law_hand","_law_many"] (spOf ⟨C,K⟩ dDraw))(V8:Cal P w K mg base "_law_bytes" 2 ["_law_hand","_law_most"] (spOf ⟨C,K⟩ dBytes))(V2:Cal P w K mg base "_law_words" 2 ["_law_hand","_law_some","_law_most","_law_longest"] (spOf ⟨C,K⟩ dWordsB))(V5:Cal P w K mg base "_law_signs" 2 ["_law_hand","_law_many"] (spOf ⟨C,K⟩ dSigns))(V3:Cal P w K mg base "_law_table" 2 ["_law_hand","_law_words_here","_law_signs_here"] (spOf ⟨C,K⟩ dTable))(V6:Cal P w K mg base "_law_names" 2 ["_law_hand","_law_many"] (spOf ⟨C,K⟩ dNames41))(U5:Cal P w K mg base "_law_mark" 2 ["_law_hand","_law_some","_law_marks"] (spOf ⟨C,K⟩ dMark41)){f:Addr}(F:Fun K "_law_specs" "_law_specs" Jac f fd):FnOk P w K mg base CX0 3 f fd ["_law_script","_law_most"] (spOf ⟨C,K⟩ dSpecs41):=by
 refine L3.Fun.ok3 F Jal (λds M K3 h=>?_) (λcdv A outer s H E hr=>?_)
 .let⟨ns,m0,rfl,_⟩:=h;rfl
 .let SC:=Jal;let hu:=hr.units;let hu1:=Xh hr;let Xz:Room 1 _:=hr.mono nofun;let Zg:Room 1 _:=hr.mono nofun;let Nb:Room 2 _:=hr.mono nofun;let P5:Room 2 _:=hr.mono nofun;let P8:Room 2 _:=hr.mono nofun;let P6:Room 2 _:=hr.mono nofun;let P9:Room 2 _:=hr.mono nofun;let Zaj:Room 2 _:=hr.mono nofun;refine⟨_,_,(Zc (Zs (i:=2) SC.nd rfl (Ck rfl) (Zt Y6 Xz rfl (Za (pv 0) (Za Zd Zb))))
 (Zc (Zs (i:=3) SC.nd rfl (Ck rfl) (Zt V8 Nb rfl (Za (pv 2) (Za Zd Zb))))
 (Zc (Zs (i:=4) SC.nd rfl (Ck rfl) (Zt V5 P8 rfl (Za (pv 2) (Za Zd Zb))))
 (Zc (Zs (i:=5) SC.nd rfl (Ck rfl) (Zt Zf Zg rfl (Za (pv 2) (Za Zd Zb))))
 (Zc (Zs (i:=6) SC.nd rfl (Ck rfl) (Zt V6 P9 rfl (Za (pv 2) (Za (pv 5) Zb))))
 (Zc (Zs (i:=7) SC.nd rfl (Ck rfl) (Yh Zb))
 (Zc (X5 C1 rfl (Yb rfl T.b_range (Za (pv 5) Zb)) (Zq (i:=8) SC.nd rfl (Ck rfl))
 (Zc (Zs (i:=2) SC.nd rfl (Ck rfl) (Zt Y6 Xz rfl (Za (pv 0) (Za (Zv (Yw (K':=K) rfl) Zd (pv 8)) Zb))))
 (Zc (Zs (i:=9) SC.nd rfl (Ck rfl) (Zv (Yw (K':=K) rfl) (pv 1) (Zv Qr Zd (Z3 R7 (by rfl) T.b_int Lc (Za (Zk5 (Ws (Xg (K':=K) rfl hu) (pv 8) Zd (nomark _)) (Zk4 (Ws (Xg (K':=K) rfl hu) (Zt Zf Zg rfl (Za (pv 2) (Za Zd Zb))) Zd (nomark _)))) Zb)))))
 (Zc (Zs (i:=10) SC.nd rfl (Ck rfl) (Zt V2 P5 rfl (Za (pv 2) (Za (pv 3) (Za (pv 9) (Za (Zv (Yw (K':=K) rfl) Zd (Zt Zf Zg rfl (Za (pv 2) (Za Zd Zb)))) Zb))))))
 (Zc (Zs (i:=11) SC.nd rfl (Ck rfl) (Zt V3 P6 rfl (Za (pv 2) (Za (pv 10) (Za (pv 4) Zb)))))
 (Zh (Wb (Ql C7 C5 C6 Xl (pv 7) (Za (Yo (Za (Zz (Z8 (K':=K) rfl) (pv 6) (pv 8) (λ_ _=>rfl)) (Za (pv 11) (Za (Zt U5 Zaj rfl (Za (pv 2) (Za (pv 3) (Za (Y1 (T:=["_law_spec"]) (cs:=[]) rfl (CScope.ok (by kernel_rfl)) (Y0 (pv 7)) (λ_ _ _ _=>(Zq (i:=0) (Y5 (by kernel_rfl)) rfl (Ck rfl) (Ef rfl))) (λ_ _ _ _=>Yz) (λ_ _ _ _=>(Zz (Z8 (K':=K) rfl) (pv 0) Zd (λ_ _=>rfl))) (Y3 nofun)) Zb)))) Zb)))) Zb)))))))))
 (Zh (Zx (Yo (Za (pv 3) (Za (pv 4) (Za (pv 7) Zb))))))))))))),λ_=>(Z1 (by symm) (Z1 (by symm) (Z1 (by symm) (Z1 (by symm) (Z1 (by symm) (Z1 (Wj (Zc1 Xn) (s_g 7)) (Z1 (N1 (by symm) (s_g 8) (Z1 (by symm) (Z1 (Wj (s_op Zjh (Z5 1) (s_op Zqs Zjf (s_cb Zmt (by symm)))) (s_g 9)) (by symm)))) (by symm)))))))),λds M Kk hM hD h=>?_⟩
  let⟨ns,m0,rfl,h⟩:=h;let⟨⟨hl,m1,m3⟩,k⟩:=h;exists ·,ns,0,rfl,⟨hl,nofun,nofun⟩,?_;exists ·,M.length,4,rfl,Yg,⟨nofun,nofun⟩,λbs bnd b2 b4 br=>?_;exists ·,M.length,30,rfl,Yg,⟨nofun,nofun⟩,λss snd sl=>?_;exists ·,M.length,9,rfl,Yg,⟨nofun,nofun⟩,λy y0 y1=>?_;obtain⟨n,rfl⟩:∃n:Nat,y=n:=⟨y.toNat,()⟩;let hn:n<=8:=by lia
  exists ·,·,M.length,n,rfl,Yg,hn,λzs znd zl zok zal=>?_;exists J8 _,?_;let hbs:bs≠[]:=λe=>by rw[e]at b2;simp at b2
  let p0:M<+:M++[MO.hand]++[.lst (zs.map .str)]++[.lst []]:=⟨[MO.hand]++[.lst (zs.map .str)]++[.lst []],by simp⟩;let c0:(M++[MO.hand]++[.lst (zs.map .str)]++[MO.lst []])[(M++[MO.hand]).length]?=some (.lst (zs.map .str)):=Y8 Yg;let d0:(M++[MO.hand]++[.lst (zs.map .str)]++[MO.lst []])[(M++[MO.hand]++[MO.lst (zs.map .str)]).length]?=some (.lst []):=Yg;let hcn:M.length<=(M++[MO.hand]).length:=by rw[Jc];lia
  let hcd:(M++[MO.hand]).length<(M++[MO.hand]++[MO.lst (zs.map .str)]).length:=by rw[Jc (as:=M++[MO.hand])];exact Bc _
  generalize (M++[MO.hand]).length=cn at c0 hcn hcd⊢;generalize (M++[MO.hand]++[MO.lst (zs.map .str)]).length=cq at d0 hcd⊢;generalize M++[MO.hand]++[.lst (zs.map .str)]++[MO.lst []]=M0 at p0 c0 d0⊢;exists ·,·,⟨(),()⟩,λi ρ M'=>∃(qs:List Fq)(v2 v8 v9 v10 v11:Option D),ρ=[some (.frz (ns.map .int)),some (.int m0),v2,some (.lst (bs.map .int)),some (.lst (ss.map .int)),some (.int n),some (.cell cn),some (.cell cq),v8,v9,v10,v11]/\M<+:M'/\M'[cn]?=some (.lst (zs.map .str))/\M'[cq]?=some (.lst (qs.map spD))/\qs.map (·.1)=zs.take i/\(∀q∈qs,Free q.2.1/\Fits q.2.1/\(∀p∈q.2.1,∀b∈p.2,b∈bs)/\q.2.2.length<=4/\(∀b∈q.2.2,b∈bs)/\q.2.1.length<=28),λ_ _ _ _ _=>trivial,⟨[],_,_,_,_,_,rfl,p0,c0,d0,rfl,λ_ h=>nomatch h⟩,?_,?_
  .rintro i x ρ M1 hi rfl ⟨qs,v2,v8,v9,v10,v11,rfl,p1,c1,d1,eq,hq⟩;let hi:i<n:=by
    let:i<((n:Int)).toNat:=hi;lia
   let lq:qs.length=i:=by
    let:=congrArg Ho eq;rw[Ja,J0]at this;lia
   exists ·,·,ns,·,⟨hl,(),()⟩,?_;let p2:M<+:M1++[MO.hand]:=p1.trans ⟨_,rfl⟩;let c2:(M1++[MO.hand])[cn]?=some (.lst (zs.map .str)):=Y8 c1;let d2:(M1++[MO.hand])[cq]?=some (.lst (qs.map spD)):=Y8 d1;let h2:(M1++[MO.hand])[M1.length]?=some .hand:=Yg;generalize M1.length=hh at h2⊢;generalize M1++[MO.hand]=M2 at p2 c2 d2 h2⊢;refine g_nx ?_
   try dsimp only
   refine Ss (λρ' M'=>∃w:Int,0<=w/\w<=6/\M2=M'/\ρ'=[some (.frz (ns.map .int)),some (.int m0),some (.cell hh),some (.lst (bs.map .int)),some (.lst (ss.map .int)),some (.int n),some (.cell cn),some (.cell cq),some (.int (0+(i:Int))),some (.int w),v10,v11]) (λKn hn'=>?_) ?_
   .exists ·,·,.inl ⟨_,rfl,_,rfl,ite2 (λh=>?_) (λh=>?_)⟩
    .refine⟨_,rfl,hh,8,rfl,h2,⟨nofun,nofun⟩,λz z0 z1=>.inl ⟨_,rfl,_,_,rfl,rfl,.inl ⟨nofun,nofun⟩,?_⟩⟩;refine add_int ?_;refine hn' _ _ ⟨_,?_,?_,rfl,rfl⟩<;>(split<;>lia)
    .exists _,·,rfl,.inl ⟨nofun,nofun⟩,?_;refine add_int ?_;exact hn' _ _ ⟨_,(),(),rfl,rfl⟩
   rintro _ _ ⟨w,w0,w6,rfl,rfl⟩;refine⟨_,rfl,_,rfl,_,rfl,_,rfl,hh,4,rfl,h2,⟨nofun,nofun⟩,λg g0 g1=>?_⟩;refine add_int ?_;let wb:w*(bs.length:Int)<=24:=by
    let:(bs.length:Int)<=4:=b4
    calc w*(bs.length:Int)<=6*(bs.length:Int):=Int.mul_le_mul_of_nonneg_right w6 ()
     _<=24:=by lia
   exists hh,bs,w,1+g,rfl,h2,⟨bnd,hbs,(),w0,w6,(),()⟩,λws ok wbs wl=>?_;exists ·,·,·,hh,ws,ss,rfl,h2,⟨ok,(),snd,(),()⟩,λL fr fi pm=>?_;exists ·,Tv (Yd d2),?_;let ez:(zs.map D.str)[i]?=some (.str (zs[i]'())):=by rw[Jr,Jb ()];rfl
   let lqm:(qs.map spD).length=qs.length:=Ja _;exists ·,·,_,_,_,(Xo (Yd c2)).2.2,rfl,Xc (j:=i) () ez,·,·,·,?_;exists ·,_,(Xo (Yd d2)).2.1,?_,λj ys M'=>M2=M'/\ys=((qs.take j).map (·.2.2)).map wD,λ_ _ _ _ h=>(by rw[<-h.1];exact(Xo (Yd d2)).2.1),⟨rfl,rfl⟩,?_,?_
   .show(qs.map spD).length<=Cb;rw[lqm];exact Zo ()
   .rintro j x ys _ hj hx ⟨rfl,rfl⟩;let⟨hj',rfl⟩:=Y4 hx;exists ·,_,_,·,rfl,rfl,rfl,?_;rw[Je hj',Jg,Jg];rfl
   rintro ys _ ⟨rfl,rfl⟩;let er:qs.take (qs.map spD).length=qs:=by rw[lqm,Ge]
   rw[show Kl _ qs=qs from er];exists hh,bs,qs.map (·.2.2),rfl,h2,⟨hbs,(),by rw[Ja];lia,λm hm=>?_⟩,λmk l4 hmb=>?_
   .let⟨q,hq',rfl⟩:=Jn.mp hm;exists(hq q hq').2.2.2.1,(hq q hq').2.2.2.2.1
   exists(show 3<=Cb by decide),cq,_,·,rfl,d2,?_,.inl ⟨qs++[(zs[i]'(),L,mk)],_,_,_,_,_,rfl,Uv p2 (),Ux c2 (),?_,?_,λq hq'=>?_⟩
   .rw[lqm];exact Gw (by lia:qs.length<=8) nofun
   .rw[Jx (Vu d2),Jg];rfl
   .rw[Jg,eq,Je ()];rfl
   .rcases Jt.mp hq' with z|z
    .exact hq q z
    .rw[Jj.mp z];exact⟨fr,fi,λp hp b hb=>wbs p.2 (pm.mem_iff.mp (Jn.mpr ⟨p,hp,rfl⟩)) b hb,l4,hmb,by have:=pm.length_eq;rw[Ja]at this;show L.length<=28;lia⟩
  .rintro ρ M1 ⟨qs,v2,v8,v9,v10,v11,rfl,p1,c1,d1,eq,hq⟩;let eN:(Zf7 0 ((n:Int)).toNat).n=n:=Bd n;rw[eN,show zs.take n=zs by rw[<-zl,Ge]]at eq;exists ·,·,·,(show 3<=Cb by decide),.inl (k bs ss qs cq M1 ⟨bnd,b2,(),br,snd,(),by rw[eq];exact znd,?_,λq hq'=>zok _ ?_,λq h=>(hq q h).1,λq h=>(hq q h).2.1,λq h=>(hq q h).2.2.1,λq h=>(hq q h).2.2.2.1,λq h=>(hq q h).2.2.2.2.1,by rw[eq];exact zal,λq h=>(hq q h).2.2.2.2.2⟩ p1 () d1)
   .let:=congrArg Ho eq;rw[Ja]at this;lia
   .rw[<-eq];exact Jn.mpr ⟨q,hq',rfl⟩
open L3
def F8(T:Txt mg){f:Addr}(F:Fun K "_law_by_mark" "_law_by_mark" Jch f fd):FnOk P w K mg base CX0 1 f fd ["_law_specs_here","_law_row_here"] (spOf ⟨C,K⟩ dByMarkL):=by
 refine L3.Fun.ok3 F Jbo (λds M K3 h=>?_) (λcdv A outer s H E hr=>?_)
 .let⟨d,e,qs,ns,rfl,_⟩:=h;rfl
 .let SC:=Jbo;let hu:=hr.units;let hu1:=Xh hr;refine⟨_,_,(Zc (Zs (i:=2) SC.nd rfl (Ef rfl) Zd)
 (Zc (X5 C1 rfl (Y0 (pv 0)) (W4 (n:=3) rfl (Z0 (Zq (i:=3) SC.nd rfl (Ck rfl)) (Z0 (Zq (i:=4) SC.nd rfl (Ck rfl)) (Z0 (Zq (i:=5) SC.nd rfl (Ck rfl)) Xs))) (by rfl))
 (Zh (Yn (Zw (Xg (K':=K) rfl hu) (Z3 (R9 (K:=K) rfl) (by rfl) T.b_tuple C8 (Za (Z4 (Wi (K':=K) rfl) (pv 1) Yc (Z6 (Zm (Z7 (K:=K) rfl) (by rfl) T.b_len Fv (Za (pv 5) Zb)))) Zb)) (pv 5) (nomark _))
 (Zh (Zs (i:=2) SC.nd rfl (Ef rfl) (Zm (Rz rfl) (by rfl) T.b_max Ka (Za (pv 2) (Za (Zm (Z7 (K:=K) rfl) (by rfl) T.b_len Fv (Za (pv 5) Zb)) Zb)))))
 Zy)))
 (Zc (Yn (Zw (Xg (K':=K) rfl hu) (pv 2) Zd (nomark _))
 (Zh (Zx (Yh Zb)))
 Zy)
 (Zh (Zx (Y1 (T:=["_law_name","_law_table_here","_law_mark_here"]) (cs:=[2,1]) rfl (CScope.ok (by kernel_rfl)) (Y0 (pv 0)) (λ_ _ _ _=>(W4 (n:=3) rfl (Z0 (Zq (i:=0) (Y5 (by kernel_rfl)) rfl (Ck rfl) (Ef rfl)) (Z0 (Zq (i:=1) (Y5 (by kernel_rfl)) rfl (Ck rfl) (Ef rfl)) (Z0 (Zq (i:=2) (Y5 (by kernel_rfl)) rfl (Ck rfl) (Ef rfl)) Xs))) (by rfl))) (λ_ _ _ _=>(Ut (PW.pt (N5 (Zw (Xg (K':=K) rfl hu) (Zm (Z7 (K:=K) rfl) (by rfl) T.b_len Fv (Za (pv 2) Zb)) (pv 3) (nomark _)) (Pm (Zw (Xg (K':=K) rfl hu) (Z3 (R9 (K:=K) rfl) (by rfl) T.b_tuple C8 (Za (Z4 (Wi (K':=K) rfl) (pv 4) Yc (Z6 (pv 3))) Zb)) (pv 2) (nomark _))))))) (λ_ _ _ _=>(pv 0)) (Sd (Yp nofun (Yp nofun (Yp nofun Vt)))))))))),λ_=>(by symm),λds M Kk hM hD h=>?_⟩
  let⟨d,e,qs,ns,rfl,h⟩:=h;let⟨hd,he,l8,k⟩:=h;let lqm:(qs.map spD).length=qs.length:=Ja _;let sm:∀m:List Int,(m.map D.int).length=m.length:=λm=>Ja _;exists ·,_,(Xo hd).2.1,λi ρ M'=>∃v3 v4 v5:Option D,ρ=[some d,some e,some (.int (topF (Y7 (qs.take i) ns))),v3,v4,v5]/\M=M',λ_ _ _ _ h=>(by let⟨_,_,_,_,h⟩:=h;rw[<-h];exact(Xo hd).2.1),⟨_,_,_,rfl,rfl⟩,?_,?_
  .rintro i x ρ _ hi hx ⟨v3,v4,v5,rfl,rfl⟩;let⟨hi',rfl⟩:=Y4 hx;exists ·,rfl,_,·,_,·,_,·,rfl,?_;exists ·,·,·,·,?_;refine Sv he ?_;rw[sm,Wf,X2];let et:=Zhe (zs:=qs.take i) (z:=qs[i]) (ns:=ns);rw[<-Je hi']at et;exists _,·,rfl,·,Rv (Rw We) (a:=ns.take qs[i].2.2.length) (b:=qs[i].2.2) ⟨_,rfl,ite2 (λh=>?_) (λh=>?_)⟩
   .let h:ns.take qs[i].2.2.length=qs[i].2.2:=Fg h;refine⟨_,rfl,_,rfl,_,rfl,_,_,rfl,?_⟩;let ev:(if(((qs[i].2.2.map D.int).length:Nat):Int) > (topF (Y7 (qs.take i) ns):Int)then(((qs[i].2.2.map D.int).length:Nat):Int)else(topF (Y7 (qs.take i) ns):Int))=((topF (Y7 (qs.take (i+1)) ns):Nat):Int):=by
     rw[sm,et];unfold Sg;rw[Fs h,Bool.and_true]
     by_cases h0:0<qs[i].2.2.length
     .rw[Fs h0,Fp rfl,Ziw]
      split<;>lia
     .rw[Ft h0,show(if(false:Bool)=true then [qs[i]]else [])=[]from rfl,Jz,Fo ()]
    try dsimp only
    rw[ev];exact .inl ⟨_,_,_,rfl,rfl⟩
   .let h:¬ ns.take qs[i].2.2.length=qs[i].2.2:=λw=>h (Fs w);let e2:Y7 (qs.take (i+1)) ns=Y7 (qs.take i) ns:=by
     rw[et];unfold Sg;rw[Ft h,Bool.and_false,Fo nofun,Jz]
    refine .inl ⟨some (.str qs[i].1),some (.lst (qs[i].2.1.map pD)),some (wD qs[i].2.2),?_,rfl⟩;rw[e2];rfl
  .rintro ρ _ ⟨v3,v4,v5,rfl,rfl⟩;let er:qs.take (qs.map spD).length=qs:=by rw[lqm,Ge]
   rw[show Kl _ qs=qs from er];exists ·,.inl ⟨_,rfl,_,rfl,ite2 (λh=>?_) (λh=>?_)⟩
   .let h:topF (Y7 qs ns)=0:=by have:=Fg h;lia
    rw[Zot h]at k;exists J8 _,.inl k
   .let h:0<topF (Y7 qs ns):=Nat.pos_of_ne_zero λw=>h (Fs (by rw[w];rfl));let eb:=Zsg h;generalize topF (Y7 qs ns)=t at h eb;exists ·,_,(Xo hd).2.1,?_,λj ys M'=>M=M'/\ys=(((qs.take j).filter λz=>decide (z.2.2.length=t)&&decide (ns.take t=z.2.2)).map (·.1)).map .str,λ_ _ _ _ h=>(by rw[<-h.1];exact(Xo hd).2.1),⟨rfl,rfl⟩,?_,?_
    .show(qs.map spD).length<=Cb;rw[lqm];exact Zo ()
    .rintro j x ys _ hj hx ⟨rfl,rfl⟩;let⟨hj',rfl⟩:=Y4 hx;exists ·,rfl,_,·,_,·,_,·,rfl,?_;exists ·,·,·,.inl ⟨_,rfl,_,rfl,ite2 (λh1=>?_) (λh1=>iteF ⟨rfl,?_⟩)⟩
     .let h1:qs[j].2.2.length=t:=by have:=Fg h1;rw[sm]at this;lia
      exists ·,·,·,?_;refine Sv he ?_;rw[Wf,X2];exists _,·,rfl,·,Rv (Rw We) (a:=ns.take t) (b:=qs[j].2.2) ⟨_,rfl,ite2 (λh2=>?_) (λh2=>?_)⟩
      .exists ·,rfl,?_;rw[Je hj',Gr,Gd,Fp (by rw[Fs h1,h2];rfl),Jg,Jg];rfl
      .exists rfl,?_;rw[Je hj',Gr,Gd,Fo (by rw[Fs h1,B8];exact h2),Bo,Jz]
     .let h1:¬ qs[j].2.2.length=t:=λw=>h1 (Fs (by rw[sm,w]));rw[Je hj',Gr,Gd,Fo (by rw[Ft h1,Bz];exact Jv),Bo,Jz]
    .rintro ys _ ⟨rfl,rfl⟩;rw[show Kl _ qs=qs from er,<-eb];exact .inl k
open L3
def Jav(T:Txt mg){f:Addr}(F:Fun K "_law_written" "_law_written" Ds f fd):FnOk P w K mg base CX0 1 f fd ["_law_table_here","_law_text_here"] (spOf ⟨C,K⟩ dWritten44):=by
 refine L3.Fun.ok3 F Jca (λds M K3 h=>?_) (λcdv A outer s H E hr=>?_)
 .let⟨L,d,ts,rfl,_⟩:=h;rfl
 .let SC:=Jca;let hu:=hr.units;let hu1:=Xh hr;refine⟨_,_,(Zc (Zs (i:=2) SC.nd rfl (Ck rfl) (Yh Zb))
 (Zc (X5 C1 rfl (Yb rfl T.b_range (Za (Zm (Z7 (K:=K) rfl) (by rfl) T.b_len Fv (Za (pv 1) Zb)) Zb)) (Zq (i:=3) SC.nd rfl (Ef rfl))
 (Zc (Uu (i:=4) SC.nd rfl rfl (T:=["_law_sign","_law_word"]) (cs:=[1,3]) rfl (CScope.ok (by kernel_rfl)) (Y0 (pv 0)) (λ_ _ _ _=>(W4 (n:=2) rfl (Z0 (Zq (i:=0) (Y5 (by kernel_rfl)) rfl (Ck rfl) (Ef rfl)) (Z0 (Zq (i:=1) (Y5 (by kernel_rfl)) rfl (Ck rfl) (Ef rfl)) Xs)) (by rfl))) (λ_ _ _ _=>(Ut (Zw (Xg (K':=K) rfl hu) (pv 0) (Zz (Z8 (K':=K) rfl) (pv 2) (pv 3) (λ_ _=>rfl)) (nomark _)))) (λ_ _ _ _=>(pv 1)) (Sd (Yp nofun (Yp nofun Vt))))
 (Zc (Yn (Zw (Xg (K':=K) rfl hu) (pv 4) (Yh Zb) (nomark _))
 (Zh (Zx (Yo (Za Yx (Za (pv 3) Zb)))))
 Zy)
 (Zh (Zs (i:=2) SC.nd rfl (Ck rfl) (Zv (Yw (K':=K) rfl) (pv 2) (Z3 (Vy (K:=K) rfl) (by rfl) T.b_list Cz (Za (Zz (Z8 (K':=K) rfl) (pv 4) Zd (λ_ _=>rfl)) Zb))))))))
 (Zh (Zx (Yo (Za Yx (Za (pv 2) Zb))))))),λ_=>(by symm),λds M Kk hM hD h=>?_⟩
  let⟨L,d,ts,rfl,h⟩:=h;let⟨hd,⟨fi,lt,hs⟩,k⟩:=h;let lm:(ts.map D.int).length=ts.length:=Ja _;let lL:=fi.1;exists J8 _,?_;exists ·,?_;refine Vi hd ?_;exists ·,⟨(),()⟩,λi ρ M'=>∃(U:List Pr)(v3 v4:Option D),ρ=[some (.lst (L.map pD)),some d,some (.lst ((Us U).map .int)),v3,v4]/\M=M'/\Zo3 L U ts i,λ_ _ _ _ _=>trivial,⟨[],_,_,rfl,rfl,(λ_ h=>nomatch h),rfl⟩,?_,?_
  .rintro i x ρ _ hi rfl ⟨U,v3,v4,rfl,rfl,tx⟩;let hi:i<ts.length:=by
    let:i<(((ts.map D.int).length:Int)).toNat:=hi;lia
   let e0:(0:Int)+(i:Int)=(i:Int):=B5 _;rw[e0];let a2:(ts.map D.int)[i]?=some (.int ts[i]):=by rw[Jr,Jb hi];rfl
   exists ·,·,?_,λj ys M'=>M=M'/\ys=(((L.take j).filter λp=>decide (p.1=ts[i])).map (·.2)).map wD,λ_ _ _ _ _=>rfl,⟨rfl,rfl⟩,?_,?_
   .show(L.map pD).length<=Cb;rw[Ja];exact Zo ()
   .rintro j x ys _ hj hx ⟨rfl,rfl⟩;let⟨hj',rfl⟩:=Y4 hx;exists ·,rfl,_,·,_,·,rfl,?_;exists ·,·,·,?_;refine Uj hd (Xc rfl a2) ?_;refine .inl ⟨_,rfl,_,rfl,ite2 (λh=>?_) (λh=>?_)⟩
    .exists ·,rfl,?_;rw[Je hj',Gr,Gd,Fp h,Jg,Jg];rfl
    .exists rfl,?_;rw[Je hj',Gr,Gd,Fo h,Bo,Jz]
   rintro ys _ ⟨rfl,rfl⟩;let er:L.take (L.map pD).length=L:=by rw[Ja,Ge]
   rw[show Kl _ L=L from er];let⟨p,hp,ep⟩:=Jn.mp (hs _ (Jy hi));let hne:L.filter (λp=>decide (p.1=ts[i]))≠[]:=λe=>by
    let:p∈L.filter λp=>decide (p.1=ts[i]):=Gz.mpr ⟨hp,Fs ep⟩;rw[e]at this;cases this
   let hall:∀p∈L.filter (λp=>decide (p.1=ts[i])),p∈L/\p.1=ts[i]:=λp h=>⟨(Gz.mp h).1,Fg (Gz.mp h).2⟩;generalize L.filter (λp=>decide (p.1=ts[i]))=F at hne hall;exists ·,J8 _,Vw (Rw We) (a:=F.map (·.2)) (b:=[]) rfl rfl ⟨_,rfl,?_⟩;rw[Ft (λe=>hne (List.map_eq_nil_iff.mp e))];refine iteF ?_;cases F with
   |nil=>exact Fh rfl hne
   |cons q F =>
    let⟨hq,eq⟩:=hall q Jo;exists ·,·,_,_,wD q.2,rfl,rfl,Xc (j:=0) rfl rfl,_,·,rfl,_,·,rfl,?_,?_
    .let l1:=Zbl fi tx.1;let l2:U.length=min i ts.length:=by
      let:=congrArg Ho tx.2;rw[J0]at this;unfold Tr at this;rw[Ja]at this;exact this
     let l3:=(fi.2 q hq).2;rw[Ja,Ja];exact Zo ()
    let e1:(Us U).map D.int++q.2.map D.int=(Us (U++[q])).map D.int:=by
     rw[Zm1,Jg];unfold Us;simp
    rw[e1];refine .inl ⟨U++[q],_,_,rfl,rfl,λp hp'=>?_,?_⟩
    .rcases Jt.mp hp' with z|z
     .exact tx.1 p z
     .rw[Jj.mp z];exact hq
    .unfold Tr;rw[Jg,Je hi,<-eq];exact congrArg (·++[q.1]) tx.2
  .rintro ρ _ ⟨U,v3,v4,rfl,rfl,tx⟩;let tx:Zo3 L U ts (((ts.map D.int).length:Int)).toNat:=tx;rw[lm,Bd]at tx;exists ·,(show 2<=Cb by decide),.inl (k U tx)
open L3
def Db(T:Txt mg){f:Addr}(F:Fun K "_law_reading" "_law_reading" Jab f fd):FnOk P w K mg base CX0 1 f fd ["_law_table_here","_law_row_here"] (spOf ⟨C,K⟩ dReading43):=by
 refine L3.Fun.ok3 F Jbf (λds M K3 h=>?_) (λcdv A outer s H E hr=>?_)
 .let⟨L,d,ns,rfl,_⟩:=h;rfl
 .let SC:=Jbf;let hu:=hr.units;let hu1:=Xh hr;refine⟨_,_,(Zc (Zs (i:=2) SC.nd rfl (Ck rfl) (Yh Zb))
 (Zc (Zs (i:=3) SC.nd rfl (Ef rfl) Zd)
 (Zc (Zdc C1 (Zw Zab (pv 3) (Zm (Z7 (K:=K) rfl) (by rfl) T.b_len Fv (Za (pv 1) Zb)) (nomark _))
 (Zc (Uu (i:=4) SC.nd rfl rfl (T:=["_law_pair"]) (cs:=[1,3]) rfl (CScope.ok (by kernel_rfl)) (Y0 (pv 0)) (λ_ _ _ _=>(Zq (i:=0) (Y5 (by kernel_rfl)) rfl (Ck rfl) (Ef rfl))) (λ_ _ _ _=>(Ut (Zw (Xg (K':=K) rfl hu) (Z3 (Vy (K:=K) rfl) (by rfl) T.b_list Cz (Za (Zz (Z8 (K':=K) rfl) (pv 0) Zd (λ_ _=>rfl)) Zb)) (Z4 (Wi (K':=K) rfl) (pv 1) (Z6 (pv 2)) (Z6 (Zv (Yw (K':=K) rfl) (pv 2) (Zm (Z7 (K:=K) rfl) (by rfl) T.b_len Fv (Za (Zz (Z8 (K':=K) rfl) (pv 0) Zd (λ_ _=>rfl)) Zb))))) (nomark _)))) (λ_ _ _ _=>(pv 0)) (Y3 nofun))
 (Zc (Yn (Zw (Xg (K':=K) rfl hu) (pv 4) (Yh Zb) (nomark _))
 (Zh (Zx (Yo (Za Yx (Za (pv 3) Zb)))))
 Zy)
 (Zc (Wb (Ql C7 C5 C6 Xl (pv 2) (Za (Zz (Z8 (K':=K) rfl) (Zz (Z8 (K':=K) rfl) (pv 4) Zd (λ_ _=>rfl)) Zd (λ_ _=>rfl)) Zb)))
 (Zh (Zs (i:=3) SC.nd rfl (Ef rfl) (Zv (Yw (K':=K) rfl) (pv 3) (Zm (Z7 (K:=K) rfl) (by rfl) T.b_len Fv (Za (Zz (Z8 (K':=K) rfl) (Zz (Z8 (K':=K) rfl) (pv 4) Zd (λ_ _=>rfl)) Zd (λ_ _=>rfl)) Zb)))))))))
 (Zh (Zx (Yo (Za Yx (Za (pv 2) Zb)))))))),λ_=>(Z1 (Wj (Zc1 Xn) (s_g 2)) (by symm)),λds M Kk hM hD h=>?_⟩
  let⟨L,d,ns,rfl,h⟩:=h;let⟨hd,⟨fr,fi,ln⟩,kt,ke⟩:=h;let lm:(ns.map D.int).length=ns.length:=Ja _;let lL:=fi.1;refine⟨J8 _,?_⟩;refine⟨λm ρ M'=>∃(pl:Nat)(R:List En)(v4:Option D)(ts:List Int),ρ=[some (.lst (L.map pD)),some d,some (.cell M.length),some (.int pl),v4]/\M++[.lst (ts.map .int)]=M'/\osOf R=ts.map some/\Went L ns R pl/\Zex R/\m=ns.length-pl,⟨_,0,[],_,[],rfl,rfl,rfl,.nil,(λ_ h=>nomatch h),rfl⟩,?_⟩;rintro m _ _ ⟨pl,R,v4,ts,rfl,rfl,hos,we,cl,rfl⟩;let lx:(ts.map D.int).length=R.length:=by
   let:=congrArg Ho hos;rw[Ja]at this⊢;rw[<-this];exact Ja _
  exists ·,·,?_;refine Vi (S8 hd) ?_;exists _,·,rfl,·,?_;rw[lm];let lw:=we.le;let lR:=we.len;refine ite2 (λhlt=>?_) (λhlt=>?_)
  .let hlt:pl<ns.length:=by have:=Fg hlt;lia
   exists ·,·,?_,λj ys M'=>M++[.lst (ts.map .int)]=M'/\ys=((L.take j).filter λp=>decide (p.2=(ns.drop pl).take p.2.length)).map pD,λ_ _ _ _ _=>rfl,⟨rfl,rfl⟩,?_,?_
   .show(L.map pD).length<=Cb;rw[Ja];exact Zo ()
   .rintro j x ys _ hj hx ⟨rfl,rfl⟩;let⟨hj',rfl⟩:=Y4 hx;let lp:(L[j].2.map D.int).length=L[j].2.length:=Ja _;exists ·,_,_,·,rfl,rfl,_,·,rfl,?_;exists ·,·,·,·,·,_,_,·,rfl,rfl,·,·,?_;refine Sv (S8 hd) ?_;rw[Wf,lp,Zkd lw];refine Vw We (a:=L[j].2) (b:=(ns.drop pl).take L[j].2.length) rfl rfl ⟨_,rfl,ite2 (λh=>?_) (λh=>?_)⟩
    .exists ·,rfl,?_;rw[Je hj',Gr,Gd,Fp h,Jg];rfl
    .exists rfl,?_;rw[Je hj',Gr,Gd,Fo h,Bo,Jz]
   rintro ys _ ⟨rfl,rfl⟩;let er:L.take (L.map pD).length=L:=by rw[Ja,Ge]
   rw[show Kl _ L=L from er];let hall:∀p:Pr,p∈L.filter (λp=>decide (p.2=(ns.drop pl).take p.2.length))↔p∈L/\p.2<+:ns.drop pl:=λp=>by rw[Gz,List.prefix_iff_eq_take,decide_eq_true_iff]
   generalize L.filter (λp=>decide (p.2=(ns.drop pl).take p.2.length))=F at hall;exists ·,J8 _,Vw Zup (a:=F) (b:=[]) rfl rfl ⟨_,rfl,?_⟩;cases F with
   |nil =>
    rw[Fs rfl];let hn:∀p∈L,¬ p.2<+:ns.drop pl:=λp hp hc=>nomatch (hall p).mpr ⟨hp,hc⟩;exact iteT ⟨_,rfl,(show 2<=Cb by decide),.inl (ke R pl (M++[.lst (ts.map .int)]) ⟨we,cl,.inr ⟨hlt,hn⟩⟩ hlt ⟨_,rfl⟩)⟩
   |cons q F =>
    rw[Ft (λe=>nomatch e)];refine iteF ?_;let⟨hq,pre⟩:=(hall q).mp Jo;let ne:=(fi.2 q hq).1;let l0:=J9.mpr ne;let lp:=(Zgh pre ne).2;exists ·,Tv Zgz,·,_,_,pD q,rfl,rfl,Xc (j:=0) rfl rfl,_,_,.int q.1,rfl,rfl,rfl,M.length,_,·,rfl,Yg,?_,?_
    .rw[lx];exact Gw (by lia:R.length<=1000) nofun
    rw[Uc];exists ·,·,_,_,pD q,rfl,rfl,Xc (j:=0) rfl rfl,_,_,wD q.2,rfl,rfl,rfl,·,ns.length-(pl+q.2.length),(),.inl ⟨pl+q.2.length,R++[(pl,some q.1)],some (.lst ((q::F).map pD)),ts++[q.1],?_,by rw[Jg];rfl,by rw[Jg,<-hos];unfold osOf;rw[Jg];rfl,.word we hq pre ne,λe he=>?_,rfl⟩
    .rw[B9,show((q.2.length:Nat):Int)=((q.2.map D.int).length:Int)by rw[Ja]];rfl
    .rcases Jt.mp he with z|z
     .exact cl e z
     .rw[Jj.mp z];exact λw=>nomatch w
  .let hge:ns.length<=pl:=by
    rcases Nat.lt_or_ge pl ns.length with z|z
    .exact Fh (Fs ()) hlt
    .exact z
   exists ·,(show 2<=Cb by decide),.inl (kt R pl ts ⟨we,cl,.inl hge⟩ hge hos)
open L3
def Dv(T:Txt mg)(W1:Cal P w K mg base "_law_by_mark" 1 ["_law_specs_here","_law_row_here"] (spOf ⟨C,K⟩ dByMarkL))(W0:Cal P w K mg base "_law_reading" 1 ["_law_table_here","_law_row_here"] (spOf ⟨C,K⟩ dReading43)){f:Addr}(F:Fun K "_law_due" "_law_due" Jbl f fd):FnOk P w K mg base CX0 3 f fd ["_law_specs_here","_law_row_here"] (spOf ⟨C,K⟩ dDue43):=by
 refine L3.Fun.ok3 F D4 (λds M K3 h=>?_) (λcdv A outer s H E hr=>?_)
 .let⟨d,e,qs,ns,rfl,_⟩:=h;rfl
 .let SC:=D4;let hu:=hr.units;let hu1:=Xh hr;let Rn:Room 1 _:=hr.mono nofun;let Rm:Room 1 _:=hr.mono nofun;refine⟨_,_,(Zc (Zs (i:=2) SC.nd rfl (Ef rfl) (Zt W1 Rn rfl (Za (pv 0) (Za (pv 1) Zb))))
 (Zc (Yn (Zw (Xg (K':=K) rfl hu) (pv 2) (Yh Zb) (nomark _))
 (Zh (Zx (Yo (Za Yx Zb))))
 Zy)
 (Zc (Yn (Zw Zac (Zm (Z7 (K:=K) rfl) (by rfl) T.b_len Fv (Za (pv 2) Zb)) Zd (nomark _))
 (Zh (Zx (Yo (Za Yx (Za (Zz (Z8 (K':=K) rfl) (pv 2) Zd (λ_ _=>rfl)) (Za (Zz (Z8 (K':=K) rfl) (pv 2) Zd (λ_ _=>rfl)) Zb))))))
 Zy)
 (Zc (Sb (Zz (Z8 (K':=K) rfl) (Y1 (T:=["_law_spec"]) (cs:=[2]) rfl (CScope.ok (by kernel_rfl)) (Y0 (pv 0)) (λ_ _ _ _=>(Zq (i:=0) (Y5 (by kernel_rfl)) rfl (Ck rfl) (Ef rfl))) (λ_ _ _ _=>(Ut (Zw (Xg (K':=K) rfl hu) (Zz (Z8 (K':=K) rfl) (pv 0) Zd (λ_ _=>rfl)) (Zz (Z8 (K':=K) rfl) (pv 1) Zd (λ_ _=>rfl)) (nomark _)))) (λ_ _ _ _=>(pv 0)) (Y3 nofun)) Zd (λ_ _=>rfl)) (W4 (n:=3) rfl (Z0 (Zq (i:=3) SC.nd rfl (Ck rfl)) (Z0 (Zq (i:=4) SC.nd rfl (Ck rfl)) (Z0 (Zq (i:=5) SC.nd rfl (Ck rfl)) Xs))) (by rfl)))
 (Zc (Sb (Zt W0 Rm rfl (Za (pv 4) (Za (Z4 (Wi (K':=K) rfl) (pv 1) (Z6 (Zm (Z7 (K:=K) rfl) (by rfl) T.b_len Fv (Za (pv 5) Zb))) Yc) Zb))) (W4 (n:=2) rfl (Z0 (Zq (i:=6) SC.nd rfl (Ck rfl)) (Z0 (Zq (i:=7) SC.nd rfl (Ck rfl)) Xs)) (by rfl)))
 (Zc (Yn (Zw (Xg (K':=K) rfl hu) (pv 6) Yx (nomark _))
 (Zh (Zx (Yo (Za Yx (Za (Zv (Yw (K':=K) rfl) (Zm (Z7 (K:=K) rfl) (by rfl) T.b_len Fv (Za (pv 5) Zb)) (pv 7)) Zb)))))
 Zy)
 (Zh (Zx (Yo (Za Yx (Za (pv 3) (Za (pv 7) Zb)))))))))))),λ_=>(by symm),λds M Kk hM hD h=>?_⟩
  let⟨d,e,qs,ns,rfl,h⟩:=h;let⟨hd,he,⟨ff,nd,l8,ln⟩,k⟩:=h;let oks:∀n∈Y9 qs ns,C0 n=true:=λn hn=>by
   let⟨z,hz,e,_⟩:=Zd0 hn;rw[<-e];exact(ff z hz).2.2
  exists ·,·,_,_,qs,ns,rfl,hd,he,l8,?_;exists ·,J8 _,Zkb (zs:=Y9 qs ns) (ws:=[]) rfl rfl oks (λ_ h=>nomatch h) ⟨_,rfl,?_⟩;cases hb:Y9 qs ns with
  |nil=>exact iteT ⟨(show 1<=Cb by decide),.inl (k .nomark _ M (Ji _) (.nomark hb) .nomark)⟩
  |cons a r =>
   cases r with
   |cons b r =>
    refine iteF ?_;exists ·,?_;refine Vi rfl ?_;exists _,·,rfl,·,?_;rw[Fs (by rw[Ja,Ju,Ju];lia)];refine iteT ?_;exists ·,?_;refine Uj rfl (Xc (j:=0) rfl rfl) ?_;exists ·,?_;refine Uj rfl (Xc (j:=1) rfl rfl) ?_;exists(show 3<=Cb by decide),.inl (k (.two a b) _ M (Ji _) (.two hb) .two)
   |nil =>
    refine iteF ?_;exists ·,?_;refine Vi rfl ?_;exists _,·,rfl,·,iteF ?_;let⟨z,hz,rfl,_,_⟩:=Zd0 (zs:=qs) (ns:=ns) (n:=a) (by rw[hb];exact List.mem_singleton_self _);let lqm:(qs.map spD).length=qs.length:=Ja _;let lm:(z.2.2.map D.int).length=z.2.2.length:=Ja _;exists ·,_,(Xo hd).2.1,?_,λj ys M'=>M=M'/\ys=((qs.take j).filter λq=>decide (q.1=z.1)).map spD,λ_ _ _ _ h=>(by rw[<-h.1];exact(Xo hd).2.1),⟨rfl,rfl⟩,?_,?_
    .show(qs.map spD).length<=Cb;rw[lqm];exact Zo ()
    .rintro j x ys _ hj hx ⟨rfl,rfl⟩;let⟨hj',rfl⟩:=Y4 hx;exists ·,_,_,·,rfl,rfl,·,?_;refine Uj rfl (Xc (j:=0) rfl rfl) ?_;refine .inl ⟨_,rfl,_,rfl,ite2 (λh=>⟨_,rfl,rfl,?_⟩) (λh=>⟨rfl,?_⟩)⟩
     .rw[Je hj',Gr,Gd,Fp h,Jg];rfl
     .rw[Je hj',Gr,Gd,Fo h,Bo,Jz]
    rintro ys _ ⟨rfl,rfl⟩;let er:qs.take (qs.map spD).length=qs:=by rw[lqm,Ge]
    rw[show Kl _ qs=qs from er];let hall:∀q:Fq,q∈qs.filter (λq=>decide (q.1=z.1))↔q∈qs/\q.1=z.1:=λq=>by rw[Gz,decide_eq_true_iff]
    generalize qs.filter (λq=>decide (q.1=z.1))=F at hall;cases F with
    |nil=>exact Fh ((hall z).mpr ⟨hz,rfl⟩) List.not_mem_nil
    |cons q F =>
     let⟨hq,eq⟩:=(hall q).mp Jo;let eq:=S7 nd hq hz eq;subst eq;refine Uj rfl (Xc (j:=0) rfl rfl) ?_;exists ·,rfl,_,·,_,·,_,·,rfl,?_;exists ·,·,·,·,·,?_;refine Sv he ?_;rw[lm,Wf,W7];let f1:=ff _ hq;let lt:(ns.drop q.2.2.length).length=ns.length-q.2.2.length:=Gb;exists q.2.1,_,ns.drop q.2.2.length,rfl,rfl,⟨f1.1,f1.2.1,()⟩,λR pl ts en hl hos=>?_,λR pl M' en hl p=>?_
     .exists ·,rfl,_,·,_,·,rfl,?_;exists ·,.inl ⟨_,rfl,_,rfl,iteF ?_⟩;exists ·,·,(show 3<=Cb by decide),.inl (k _ _ _ ⟨_,rfl⟩ (.text hq hb en hl hos) (.text Yg (Jd _)))
     .exists ·,rfl,_,·,_,·,rfl,?_;exists ·,.inl ⟨_,rfl,_,rfl,iteT ?_⟩;let ee:((q.2.2.map D.int).length:Int)+(pl:Int)=((q.2.2.length+pl:Nat):Int):=by rw[lm];lia
      let z:=k (.ends (q.2.2.length+pl)) _ M' p (.ends hq hb en hl) .ends;rw[<-ee]at z;exists ·,·,·,(show 2<=Cb by decide),.inl z
open L3
def De(T:Txt mg){Zu Zn Zj f0 f1 f2:Addr}(Qh:Cau K mg "NoMark" Zu)(U6:Cau K mg "TwoMarks" Zn)(Xf:Cau K mg "NoReading" Zj)(xc_NoMark:XCl K Zu f0)(xc_TwoMarks:XCl K Zn f1)(xc_NoReading:XCl K Zj f2)(na1:Cu K (.ref Zn) "first"=some none)(na2:Cu K (.ref Zn) "second"=some none)(na3:Cu K (.ref Zj) "at"=some none)(m00:Eo K Zu (.ref Zu)=some true)(m10:Eo K Zn (.ref Zu)=some false)(m11:Eo K Zn (.ref Zn)=some true)(m20:Eo K Zj (.ref Zu)=some false)(m21:Eo K Zj (.ref Zn)=some false)(m22:Eo K Zj (.ref Zj)=some true)(Uh:MetE bctx P w K mg base Ze "opened" 5 ["self","row"] (Tp ⟨C,K⟩ (dOpenedX Ze Zu Zn Zj))){f:Addr}(F:Fun K "_law_opened" "_law_opened" Jcf f fd):FnOk P w K mg base CX0 6 f fd ["_law_family","_law_row_here"] (spOf ⟨C,K⟩ (dOut43 Ze)):=by
 refine L3.Fun.ok3 F Dt (λds M K3 h=>?_) (λcdv A outer s H E hr=>?_)
 .let⟨f,d,zs,ns,rfl,_⟩:=h;rfl
 .let SC:=Dt;let hu:=hr.units;let hu1:=Xh hr;let Rh:Room 5 _:=hr.mono nofun;refine⟨_,_,(Zc (Zdd rfl rfl (λ_ _ _ _ hx=>Pn (Zgf (i:=2) SC.nd rfl (Ck rfl) (Zgl (pv 0) Uh Rh hx (Za (pv 1) Zb)))) (Zr5 Qh rfl (λ_=>(Zh (Zx (Yo (Za Yx Zb))))) (Zn5 (i:=3) U6 rfl SC.nd rfl rfl (λ_=>(Zh (Zx (Yo (Za Yx (Za (Nj (K:=K) rfl (pv 3) rfl) (Za (Nj (K:=K) rfl (pv 3) rfl) Zb))))))) (Zn5 (i:=3) Xf rfl SC.nd rfl rfl (λ_=>(Zc (Yn (Sa (Zm (Zd1 (K:=K) rfl) (by rfl) T.b_isinstance C2 (Za (Nj (K:=K) rfl (pv 3) rfl) (Za (S3 (v:=.ty "bool") rfl T.b_bool Jcw rfl) Zb))))
 (Zh (Zx (Yo (Za Yx Zb))))
 Zy)
 (Zh (Zx (Yo (Za Yx (Za (Nj (K:=K) rfl (pv 3) rfl) Zb))))))) Zdo))))
 (Zc (Yn (PW.pt (Zjm (N6 (Sa (Zm (Zd1 (K:=K) rfl) (by rfl) T.b_isinstance C2 (Za (pv 2) (Za (S3 (v:=.ty "tuple") rfl T.b_tuple C8 rfl) Zb))))) (Zjm (Zw (Ze3 (K':=K) rfl hu) (Zm (Z7 (K:=K) rfl) (by rfl) T.b_len Fv (Za (pv 2) Zb)) Zd (nomark _)) (Zge (N6 (Sa (Zm (Zd1 (K:=K) rfl) (by rfl) T.b_isinstance C2 (Za (Zz (Z8 (K':=K) rfl) (pv 2) Zd (λ_ _=>rfl)) (Za (S3 (v:=.ty "list") rfl T.b_list Cz rfl) Zb)))))))))
 (Zh (Zx (Yo (Za Yx Zb))))
 Zy)
 (Zc (Yn (Sa (Zm (Zsq (K:=K) rfl rfl) (by rfl) T.b_any PyProof.Rows.boot_any (Za (Y1 (T:=["_law_sign"]) (cs:=[]) rfl (CScope.ok (by kernel_rfl)) (Y0 (Zz (Z8 (K':=K) rfl) (pv 2) Zd (λ_ _=>rfl))) (λ_ _ _ _=>(Zq (i:=0) (Y5 (by kernel_rfl)) rfl (Ck rfl) (Ef rfl))) (λ_ _ _ _=>Yz) (λ_ _ _ _=>(Zm (Zd1 (K:=K) rfl) (by rfl) T.b_isinstance C2 (Za (pv 0) (Za (S3 (v:=.ty "bool") rfl T.b_bool Jcw rfl) Zb)))) (Y3 nofun)) Zb)))
 (Zh (Zx (Yo (Za Yx Zb))))
 Zy)
 (Zh (Zx (Yo (Za Yx (Za (Zz (Z8 (K':=K) rfl) (pv 2) Zd (λ_ _=>rfl)) (Za (Zz (Z8 (K':=K) rfl) (pv 2) Zd (λ_ _=>rfl)) Zb))))))))),λ_=>(Z1 (Zi5 (λ_ _ _ he hk hx=>(Wj (Zbi he hk hx (Z5 0) (by symm)) (s_g 2))) (Zq0 (by symm) (Zmu (Vl (Zml (Ya Zi6 (Ya (Zc0 (Z5 3)) (Ya (Zc0 (Z5 3)) Xn))))) (Zmu (Z1 (Uq (s_b (s_cb (Zje (T:=.bool)) (Ya (Zc0 (Z5 3)) (Ya s_ty Xn)))) (by symm) X9) (Vl (Zml (Ya Zi6 (Ya (Zc0 (Z5 3)) Xn))))) Zc3)))) (Z1 (Uq (s_or (Zmn (s_b (s_cb (Zje (T:=.tuple)) (by symm)))) (s_or (by symm) (Zmn (s_b (s_cb (Zje (T:=.list)) (by symm)))))) (by symm) X9) (Z1 (Uq (s_b (s_cb Zt4 (Ya (Sy (by symm) (s_g 0) Qu (s_cb (Zje (T:=.bool)) (by symm))) Xn))) (by symm) X9) (by symm)))),λds M Kk hM hD h=>?_⟩
  let⟨f,d,zs,ns,rfl,h⟩:=h;let⟨Fa,hd,⟨lz,ln,ff⟩,k⟩:=h;exists ·,⟨f,_,rfl,Fa.h0,rfl⟩,·,f,d,zs,ns,rfl,Fa,hd,⟨lz,ln,ff⟩,λM' p o=>?_,λa b M' p o=>?_,λn M' p o=>?_,λn ts M' c p o hc lc=>?_
  .exists _,m00,?_;rw[Fp rfl];exists(show 1<=Cb by decide),.inl (k .nomark _ M' p o .nomark)
  .exists _,m10,?_;rw[Fo Jv];exists _,m11,?_;rw[Fp rfl];exists ·,_,_,f1,·,xc_TwoMarks,na1,rfl,·,_,_,f1,·,xc_TwoMarks,na2,rfl,(show 3<=Cb by decide),.inl (k (.two a b) _ M' p o .two)
  .exists _,m20,?_;rw[Fo Jv];exists _,m21,?_;rw[Fo Jv];exists _,m22,?_;rw[Fp rfl];exists ·,_,_,f2,·,xc_NoReading,na3,rfl,_,·,rfl,·,iteF ?_;exists ·,_,_,f2,·,xc_NoReading,na3,rfl,(show 2<=Cb by decide),.inl (k (.ends n) _ M' p o .ends)
  .let lts:=o.len;let ltm:(ts.map D.int).length=ts.length:=Ja _;let hl:=Yd hc;refine g_nx ?_
   try dsimp only
   exists ·,_,·,rfl,·,iteF ?_;exists ·,·,.inl ⟨_,rfl,_,rfl,iteF ?_⟩;exists ·,_,_,·,rfl,rfl,_,·,(Xo hl).1,·,iteF ?_;exists ·,_,_,·,rfl,rfl,_,(Xo hl).2.1,?_,λj ys N=>M'=N/\ys=(Cm j false).map .bl,λ_ _ _ _ h=>(by rw[<-h.1];exact(Xo hl).2.1),⟨rfl,rfl⟩,?_,?_
   .show(ts.map D.int).length<=Cb;rw[ltm];exact Zo ()
   .rintro j x ys _ hj hx ⟨rfl,rfl⟩;let⟨hj',rfl⟩:=Y4 hx;exists ·,_,·,rfl,rfl,?_;rw[List.replicate_succ',Jg];rfl
   rintro ys _ ⟨rfl,rfl⟩;refine⟨_,_,rfl,rfl,_,rfl,?_⟩;let ea:∀n:Nat,(Cm n false).any id=false:=λn=>by
    induction n with
    |zero=>rfl
    |succ n ih=>rw[G2,Br,ih];rfl
   rw[ea];refine iteF ?_;exists ·,_,_,·,rfl,rfl,·,_,_,·,rfl,rfl,(show 3<=Cb by decide),.inl (k (.text n ts) _ M' p o (.text hc lc))
open L3
def Jbq(T:Txt mg){Zu Zn Zj Yi f0 f1 f2:Addr}(V9:Cau K mg "SkewError" Yi)(Vg:mg "NoMark"=some (.ref Zu))(Ui:mg "TwoMarks"=some (.ref Zn))(Vf:mg "NoReading"=some (.ref Zj))(xc_NoMark:XCl K Zu f0)(xc_TwoMarks:XCl K Zn f1)(xc_NoReading:XCl K Zj f2)(m0s:Eo K Zu (.ref Yi)=some true)(m1s:Eo K Zn (.ref Yi)=some true)(m2s:Eo K Zj (.ref Yi)=some true)(k00:Eg K (.ref Zu) (.ref Zu)=some true)(k01:Eg K (.ref Zu) (.ref Zn)=some false)(k02:Eg K (.ref Zu) (.ref Zj)=some false)(k10:Eg K (.ref Zn) (.ref Zu)=some false)(k11:Eg K (.ref Zn) (.ref Zn)=some true)(k12:Eg K (.ref Zn) (.ref Zj)=some false)(k20:Eg K (.ref Zj) (.ref Zu)=some false)(k21:Eg K (.ref Zj) (.ref Zn)=some false)(k22:Eg K (.ref Zj) (.ref Zj)=some true)(k0v:Eg K (.ref Zu) (.type "ValueError")=some true)(k1v:Eg K (.ref Zn) (.type "ValueError")=some true)(k2v:Eg K (.ref Zj) (.type "ValueError")=some true)(Uh:MetE bctx P w K mg base Ze "opened" 5 ["self","row"] (Tp ⟨C,K⟩ (dOpenedX Ze Zu Zn Zj))){f:Addr}(F:Fun K "_law_kinds" "_law_kinds" Jaz f fd):FnOk P w K mg base CX0 6 f fd ["_law_family","_law_row_here"] (spOf ⟨C,K⟩ (dKinds43 Ze)):=by
 refine L3.Fun.ok3 F Jar (λds M K3 h=>?_) (λcdv A outer s H E hr=>?_)
 .let⟨f,d,zs,ns,rfl,_⟩:=h;rfl
 .let SC:=Jar;let hu:=hr.units;let hu1:=Xh hr;let Rh:Room 5 _:=hr.mono nofun;refine⟨_,_,(Zc (Zdd rfl rfl (λ_ _ _ _ hx=>Pn (Zdb (Zgl (pv 0) Uh Rh hx (Za (pv 1) Zb)))) (Zn5 (i:=2) V9 rfl SC.nd rfl rfl (λ_=>(Zc (Zs (i:=3) SC.nd rfl (Ck rfl) (Yh (Za (Zm (Ti (K:=K) rfl) (by rfl) T.b_isinstance C2 (Za (pv 2) (Za (Zbr (v:=.ref Zu) rfl Vg rfl) Zb))) (Za (Zm (Ti (K:=K) rfl) (by rfl) T.b_isinstance C2 (Za (pv 2) (Za (Zbr (v:=.ref Zn) rfl Ui rfl) Zb))) (Za (Zm (Ti (K:=K) rfl) (by rfl) T.b_isinstance C2 (Za (pv 2) (Za (Zbr (v:=.ref Zj) rfl Vf rfl) Zb))) Zb)))))
 (Zh (Zx (Zv (Yw (K':=K) rfl) (pv 3) (Yh (Za (Zm (Ti (K:=K) rfl) (by rfl) T.b_isinstance C2 (Za (pv 2) (Za (S3 (v:=.ty "ValueError") rfl T.b_ValueError R8 rfl) Zb))) Zb))))))) Zdo))
 (Zh (Zx (Yh Zb)))),λ_=>(Z1 (Zi5 (λ_ _ _ he hk hx=>(N2 (Zbi he hk hx (Z5 0) (by symm)))) (Zmu (Z1 (Wj (Zmp (Ya (s_cb Zc2 (Ya (Z5 2) (Ya s_at Xn))) (Ya (s_cb Zc2 (Ya (Z5 2) (Ya s_at Xn))) (Ya (s_cb Zc2 (Ya (Z5 2) (Ya s_at Xn))) Xn)))) (s_g 3)) (Vl (s_op Zjh (Z5 3) (Zmp (Ya (s_cb Zc2 (by symm)) Xn))))) Zc3)) (by symm)),λds M Kk hM hD h=>?_⟩
  let⟨f,d,zs,ns,rfl,h⟩:=h;let⟨Fa,hd,⟨lz,ln,ff⟩,k⟩:=h;exists ·,⟨f,_,rfl,Fa.h0,rfl⟩,·,f,d,zs,ns,rfl,Fa,hd,⟨lz,ln,ff⟩,λM' p o=>?_,λa b M' p o=>?_,λn M' p o=>?_,λn ts M' c p o hc lc=>?_
  .exists _,m0s,?_;rw[Fp rfl];exists ·,_,_,_,_,f0,rfl,xc_NoMark,.inr (.inl ⟨_,rfl,k00⟩),·,_,_,_,_,f0,rfl,xc_NoMark,.inr (.inl ⟨_,rfl,k01⟩),·,_,_,_,_,f0,rfl,xc_NoMark,.inr (.inl ⟨_,rfl,k02⟩),(show 3<=Cb by decide),?_;refine g_nx ?_
   try dsimp only
   exists ·,·,_,_,_,_,f0,rfl,xc_NoMark,.inl ⟨_,rfl,k0v⟩,(show 1<=Cb by decide),?_;exact Pc rfl rfl (show 3+1<=Cb by decide) (.inl (k .nomark M' p o))
  .exists _,m1s,?_;rw[Fp rfl];exists ·,_,_,_,_,f1,rfl,xc_TwoMarks,.inr (.inl ⟨_,rfl,k10⟩),·,_,_,_,_,f1,rfl,xc_TwoMarks,.inr (.inl ⟨_,rfl,k11⟩),·,_,_,_,_,f1,rfl,xc_TwoMarks,.inr (.inl ⟨_,rfl,k12⟩),(show 3<=Cb by decide),?_;refine g_nx ?_
   try dsimp only
   exists ·,·,_,_,_,_,f1,rfl,xc_TwoMarks,.inl ⟨_,rfl,k1v⟩,(show 1<=Cb by decide),?_;exact Pc rfl rfl (show 3+1<=Cb by decide) (.inl (k (.two a b) M' p o))
  .exists _,m2s,?_;rw[Fp rfl];exists ·,_,_,_,_,f2,rfl,xc_NoReading,.inr (.inl ⟨_,rfl,k20⟩),·,_,_,_,_,f2,rfl,xc_NoReading,.inr (.inl ⟨_,rfl,k21⟩),·,_,_,_,_,f2,rfl,xc_NoReading,.inr (.inl ⟨_,rfl,k22⟩),(show 3<=Cb by decide),?_;refine g_nx ?_
   try dsimp only
   exists ·,·,_,_,_,_,f2,rfl,xc_NoReading,.inl ⟨_,rfl,k2v⟩,(show 1<=Cb by decide),?_;exact Pc rfl rfl (show 3+1<=Cb by decide) (.inl (k (.ends n) M' p o))
  .exists(show 0<=Cb by decide),.inl (k (.text n ts) M' p o)
open L3
def D8(T:Txt mg){f:Addr}(F:Fun K "_law_due_kinds" "_law_due_kinds" Jbb f fd):FnOk P w K mg base CX0 1 f fd ["_law_word"] (spOf ⟨C,K⟩ dDueK43):=by
 refine L3.Fun.ok3 F Jbt (λds M K3 h=>?_) (λcdv A outer s H E hr=>?_)
 .let⟨o,rfl,_⟩:=h;rfl
 .let SC:=Jbt;let hu:=hr.units;let hu1:=Xh hr;refine⟨_,_,(Zc (Yn (Zw (Xg (K':=K) rfl hu) (pv 0) Yx (nomark _))
 (Zh (Zx (Yh Zb)))
 Zy)
 (Zh (Zx (Yh (Za (Ws (Xg (K':=K) rfl hu) (pv 0) Yx (nomark _)) (Za (Ws (Xg (K':=K) rfl hu) (pv 0) Yx (nomark _)) (Za (Ws (Xg (K':=K) rfl hu) (pv 0) Yx (nomark _)) (Za Qm Zb)))))))),λ_=>(by symm),λds M Kk hM hD h=>?_⟩
  let⟨o,rfl,h⟩:=h;cases o with
  |text n ts=>exact⟨_,rfl,.inl ⟨_,rfl,_,rfl,iteT ⟨(show 0<=Cb by decide),.inl h⟩⟩⟩
  |nomark=>exact⟨_,rfl,.inl ⟨_,rfl,_,rfl,iteF ⟨_,rfl,.inl ⟨_,rfl,_,rfl,.inl ⟨_,rfl,_,rfl,.inl ⟨_,rfl,(show 4<=Cb by decide),.inl h⟩⟩⟩⟩⟩⟩
  |two a b=>exact⟨_,rfl,.inl ⟨_,rfl,_,rfl,iteF ⟨_,rfl,.inl ⟨_,rfl,_,rfl,.inl ⟨_,rfl,_,rfl,.inl ⟨_,rfl,(show 4<=Cb by decide),.inl h⟩⟩⟩⟩⟩⟩
  |ends n=>exact⟨_,rfl,.inl ⟨_,rfl,_,rfl,iteF ⟨_,rfl,.inl ⟨_,rfl,_,rfl,.inl ⟨_,rfl,_,rfl,.inl ⟨_,rfl,(show 4<=Cb by decide),.inl h⟩⟩⟩⟩⟩⟩
open L3
def Jbw(T:Txt mg)(Zf:Cal P w K mg base "_law_draw" 1 ["_law_hand","_law_many"] (spOf ⟨C,K⟩ dDraw))(U4:Cal P w K mg base "_law_text" 2 ["_law_hand","_law_signs_here","_law_most"] (spOf ⟨C,K⟩ dText))(T6:Cal P w K mg base "_law_row" 2 ["_law_hand","_law_some","_law_words_here","_law_most"] (spOf ⟨C,K⟩ dRow4))(Wy:Cal P w K mg base "_law_written" 1 ["_law_table_here","_law_text_here"] (spOf ⟨C,K⟩ dWritten44)){f:Addr}(F:Fun K "_law_rows_of" "_law_rows_of" Jad f fd):FnOk P w K mg base CX0 3 f fd ["_law_spec","_law_some","_law_hand"] (spOf ⟨C,K⟩ dRowsOf43):=by
 refine L3.Fun.ok3 F Jah (λds M K3 h=>?_) (λcdv A outer s H E hr=>?_)
 .let⟨k0,q,bs,rfl,_⟩:=h;rfl
 .let SC:=Jah;let hu:=hr.units;let hu1:=Xh hr;let Zg:Room 1 _:=hr.mono nofun;let Zai:Room 2 _:=hr.mono nofun;let Zb4:Room 2 _:=hr.mono nofun;let Rj:Room 1 _:=hr.mono nofun;refine⟨_,_,(Zc (Sb (pv 0) (W4 (n:=3) rfl (Z0 (Zq (i:=3) SC.nd rfl (Ck rfl)) (Z0 (Zq (i:=4) SC.nd rfl (Ck rfl)) (Z0 (Zq (i:=5) SC.nd rfl (Ck rfl)) Xs))) (by rfl)))
 (Zc (Zs (i:=6) SC.nd rfl (Ck rfl) (Zt U4 Zai rfl (Za (pv 2) (Za (Y1 (T:=["_law_sign","_law_word"]) (cs:=[]) rfl (CScope.ok (by kernel_rfl)) (Y0 (pv 4)) (λ_ _ _ _=>(W4 (n:=2) rfl (Z0 (Zq (i:=0) (Y5 (by kernel_rfl)) rfl (Ck rfl) (Ef rfl)) (Z0 (Zq (i:=1) (Y5 (by kernel_rfl)) rfl (Ck rfl) (Ef rfl)) Xs)) (by rfl))) (λ_ _ _ _=>Yz) (λ_ _ _ _=>(pv 0)) (Sd (Yp nofun (Yp nofun Vt)))) (Za Zd Zb)))))
 (Zc (Zs (i:=7) SC.nd rfl (Ck rfl) (Zv (Yw (K':=K) rfl) (Z3 (Vy (K:=K) rfl) (by rfl) T.b_list Cz (Za (pv 5) Zb)) (Zz (Z8 (K':=K) rfl) (Zt Wy Rj rfl (Za (pv 4) (Za (pv 6) Zb))) Zd (λ_ _=>rfl))))
 (Zc (Zs (i:=8) SC.nd rfl (Ck rfl) (Yh (Za (pv 7) (Za (Z4 (Wi (K':=K) rfl) (pv 7) Yc (Z6 (Zv Yr (Zt Zf Zg rfl (Za (pv 2) (Za Zd Zb))) (Zv (Yw (K':=K) rfl) (Zm (Z7 (K:=K) rfl) (by rfl) T.b_len Fv (Za (pv 7) Zb)) Zd)))) Zb))))
 (Zc (Yn (Zw (Ze3 (K':=K) rfl hu) (pv 7) (Yh Zb) (nomark _))
 (Zc (Zs (i:=9) SC.nd rfl (Ck rfl) (Z3 (Vy (K:=K) rfl) (by rfl) T.b_list Cz (Za (pv 7) Zb)))
 (Zc (Sb (Zz (Z8 (K':=K) rfl) (pv 1) (Zv Yr (Zt Zf Zg rfl (Za (pv 2) (Za Zd Zb))) (Zm (Z7 (K:=K) rfl) (by rfl) T.b_len Fv (Za (pv 1) Zb))) (λ_ _=>rfl)) (Zdg (pv 9) (Zv Yr (Zt Zf Zg rfl (Za (pv 2) (Za Zd Zb))) (Zm (Z7 (K:=K) rfl) (by rfl) T.b_len Fv (Za (pv 7) Zb))) U7))
 (Zh (Wb (Ql C7 C5 C6 Xl (pv 8) (Za (pv 9) Zb))))))
 Zy)
 (Zc (Yn (Zw (Xg (K':=K) rfl hu) (Zt Zf Zg rfl (Za (pv 2) (Za Zd Zb))) Zd (nomark _))
 (Zh (Wb (Ql C7 C5 C6 Xl (pv 8) (Za (Z4 (Wi (K':=K) rfl) (Zv (Yw (K':=K) rfl) (pv 7) (Zv Qr (Z4 (Wi (K':=K) rfl) (pv 7) (Z6 (Zm (Z7 (K:=K) rfl) (by rfl) T.b_len Fv (Za (pv 5) Zb))) Yc) Zd)) Yc (Z6 Zd)) Zb))))
 Zy)
 (Zh (Zx (Zv (Yw (K':=K) rfl) (pv 8) (Yh (Za (Zv (Yw (K':=K) rfl) (Z3 (Vy (K:=K) rfl) (by rfl) T.b_list Cz (Za (pv 5) Zb)) (Zt T6 Zb4 rfl (Za (pv 2) (Za (pv 1) (Za (Y1 (T:=["_law_sign","_law_word"]) (cs:=[]) rfl (CScope.ok (by kernel_rfl)) (Y0 (pv 4)) (λ_ _ _ _=>(W4 (n:=2) rfl (Z0 (Zq (i:=0) (Y5 (by kernel_rfl)) rfl (Ck rfl) (Ef rfl)) (Z0 (Zq (i:=1) (Y5 (by kernel_rfl)) rfl (Ck rfl) (Ef rfl)) Xs)) (by rfl))) (λ_ _ _ _=>Yz) (λ_ _ _ _=>(pv 1)) (Sd (Yp nofun (Yp nofun Vt)))) (Za Zd Zb)))))) Zb))))))))))),λ_=>(Z1 (by symm) (Z1 (by symm) (Z1 (by symm) (Z1 (Wj (Zc1 (by symm)) (s_g 8)) (Z1 (Uq (by symm) (Z1 (Wj (s_cb Zbj (by symm)) (s_g 9)) (Z1 (Wj (by symm) (Zf0 (Z5 9) (by symm))) (by symm))) X9) (by symm)))))),λds M Kk hM hD h=>?_⟩
  let⟨k0,q,bs,rfl,h⟩:=h;let⟨hk,⟨fr,fi,lm,hb,lb⟩,k⟩:=h;exists ·,·,rfl,_,·,_,·,_,·,rfl,?_;let lL:=fi.1;exists ·,·,·,?_,λj ys M'=>M=M'/\ys=((q.2.1.take j).map (·.1)).map .int,λ_ _ _ _ _=>rfl,⟨rfl,rfl⟩,?_,?_
  .show(q.2.1.map pD).length<=Cb;rw[Ja];exact Zo ()
  .rintro j x ys _ hj hx ⟨rfl,rfl⟩;let⟨hj',rfl⟩:=Y4 hx;exists ·,rfl,_,·,_,·,rfl,·,rfl,?_;rw[Je hj',Jg,Jg];rfl
  rintro ys _ ⟨rfl,rfl⟩;let er:q.2.1.take (q.2.1.map pD).length=q.2.1:=by rw[Ja,Ge]
  rw[show Kl _ q.2.1=q.2.1 from er];exists k0,Tr q.2.1,12,rfl,hk,⟨nofun,nofun⟩,λts hts lts=>?_;refine g_nx ?_
  try dsimp only
  refine⟨_,rfl,_,_,rfl,rfl,_,rfl,_,rfl,q.2.1,_,ts,rfl,rfl,⟨fi,(),hts⟩,λU tx=>?_⟩;let lU:U.length<=12:=by
   let:=congrArg Ho tx.2;rw[Ge]at this;unfold Tr at this;rw[Ja]at this;lia
  let lr0:=Zbl fi tx.1;exists _,_,·,rfl,rfl,_,·,rfl,?_,?_
  .rw[Ja,Ja];exact Zo ()
  rw[<-Jg];let lr:(q.2.2++Us U).length<=52:=by rw[Jc];lia
  generalize q.2.2++Us U=row at lr;let lrm:(row.map D.int).length=row.length:=Ja _;refine g_nx ?_
  try dsimp only
  exists ·,·,·,k0,60,rfl,hk,⟨nofun,nofun⟩,λy y0 y1=>?_;let hpos:(0:Int)<((row.map D.int).length:Int)+1:=by lia
  refine⟨_,rfl,_,rfl,_,_,rfl,rfl,hpos,_,rfl,_,rfl,(show 2<=Cb by decide),?_⟩;let ok0:W8 M [D.lst (row.map .int),D.lst (cut (row.map .int) none (some (y % (((row.map D.int).length:Int)+1))))]:=λx hx=>by
   rcases Jp.mp hx with rfl|hx
   .exact⟨row,rfl,()⟩
   rw[Jj.mp hx];exists cut row none (some (y % (((row.map D.int).length:Int)+1))),?_,Ga (Zoo _ _ _) ();rw[<-Wf];rfl
  generalize hxs:[D.lst (row.map .int),D.lst (cut (row.map .int) none (some (y % (((row.map D.int).length:Int)+1))))]=xs0 at ok0⊢;let l0:xs0.length=2:=by rw[<-hxs];rfl
  let nc0:∀x∈xs0,x≠.cell M.length:=λx hx e=>by
   subst e;rw[<-hxs]at hx;rcases Jp.mp hx with z|hx
   .cases z
   .cases Jj.mp hx
  let b0:(0:Int)<((bs.map D.int).length:Int):=by rw[Ja];let:=J9.mpr hb;lia
  refine g_nx ?_
  try dsimp only
  refine Ss (λρ' M'=>∃(v9:Option D)(xs:List D),ρ'=[some (spD q),some (.lst (bs.map .int)),some (.cell k0),some (.str q.1),some (.lst (q.2.1.map pD)),some (wD q.2.2),some (.lst (ts.map .int)),some (.lst (row.map .int)),some (.cell M.length),v9]/\M<+:M'/\M'[M.length]?=some (.lst xs)/\W8 M' xs/\xs.length<=4/\∀x∈xs,x≠.cell M.length) (λKn hn=>?_) ?_
  .exists ·,J8 _,Vw We (a:=row) (b:=[]) rfl rfl ⟨_,rfl,?_⟩
   by_cases e:row=[]
   .rw[Fs e];exact iteF (hn _ _ ⟨_,xs0,rfl,⟨_,rfl⟩,Yg,ok0.pre ⟨_,rfl⟩,(),nc0⟩)
   rw[Ft e];refine iteT ?_;let hN:M<+:M++[MO.lst xs0]:=⟨_,rfl⟩;let r0:0<row.length:=J9.mpr e;let r0':(0:Int)<((row.map D.int).length:Int):=by lia
   exists ·,_,·,rfl,?_;let hk2:(M++[MO.lst xs0]++[MO.lst (row.map .int)])[k0]?=some .hand:=Y8 (Y8 hk);exists ·,·,k0,60,rfl,hk2,⟨nofun,nofun⟩,λu u0 u1=>?_;let⟨b,hb',eb⟩:=pick_at hb u;exists ·,·,_,·,rfl,b0,_,_,·,rfl,eb,?_;exists ·,·,k0,60,rfl,hk2,⟨nofun,nofun⟩,λw w0 w1=>?_;let⟨a,ea,ha⟩:=Qy w (n:=(row.map D.int).length) ();exists ·,·,_,·,rfl,r0',?_
   try dsimp only
   rw[ea];exists(M++[MO.lst xs0]).length,_,_,a,rfl,rfl,Yg,ixN_nat ha,?_;rw[Uc];exists ·,Tv (Yd (Y8 Yg)),·,M.length,_,·,rfl,Y8 Yg,?_,hn _ _ ⟨_,xs0++[.cell (M++[MO.lst xs0]).length],rfl,?_,?_,λx hx=>?_,by rw[Jc,l0];exact(show 2+1<=4 by decide),λx hx e=>?_⟩
   .rw[l0]
    decide
   .exact Uv (hN.trans ⟨_,rfl⟩) (Jd _)
   .rw[Jx (Vu (Y8 Yg))]
   .let lc:(M++[MO.lst xs0]).length≠M.length:=by rw[Jc,Gj];lia
    rcases Jt.mp hx with z|z
    .let⟨ns,en,ln⟩:=ok0 x z;exists ns,Um (Uv (hN.trans ⟨_,rfl⟩) (Jd _)) en,ln
    .rw[Jj.mp z];refine⟨row.set a b,Yd ?_,by rw[Gi];lia⟩;rw[List.map_set];exact Ux Yg lc
   .rcases Jt.mp hx with z|z
    .exact nc0 x z e
    .rw[Jj.mp z]at e;injection e with e
     rw[Jc,Gj]at e;lia
  rintro _ M1 ⟨v9,xs,rfl,p1,hc,ok1,lx,nc⟩;refine Ss (λρ' M'=>∃(v9:Option D)(xs:List D),ρ'=[some (spD q),some (.lst (bs.map .int)),some (.cell k0),some (.str q.1),some (.lst (q.2.1.map pD)),some (wD q.2.2),some (.lst (ts.map .int)),some (.lst (row.map .int)),some (.cell M.length),v9]/\M<+:M'/\M'[M.length]?=some (.lst xs)/\W8 M' xs/\xs.length<=5) (λKn hn=>?_) ?_
  .exists ·,k0,8,rfl,Z9 p1 hk,⟨nofun,nofun⟩,λz z0 z1=>.inl ⟨_,rfl,_,rfl,ite2 (λh=>?_) (λh=>hn _ _ ⟨_,xs,rfl,p1,hc,ok1,()⟩)⟩;exists ·,Tv (Yd hc),?_;let lm2:(q.2.2.map D.int).length=q.2.2.length:=Ja _;exists ·,·,·,·,·,?_;refine Sv rfl ?_;rw[lm2,Wf,W7];let ld:(row.drop q.2.2.length).length<=52:=by rw[Gb];lia
   generalize row.drop q.2.2.length=tl at ld;let e1:(Cm 40 (tl.map D.int)).flatten=((Cm 40 tl).flatten).map D.int:=by rw[List.map_flatten,List.map_replicate]
   let l40:((Cm 40 tl).flatten).length<=2080:=by
    rw[List.length_flatten,List.map_replicate,List.sum_replicate_nat];lia
   exists _,·,rfl,⟨nofun,nofun,?_⟩,?_
   .show(tl.map D.int).length*40<=Cb;rw[Ja];exact Zo ()
   exists _,·,rfl,?_,?_
   .show(row.map D.int).length+((Cm 40 (tl.map D.int)).flatten).length<=Cb;rw[e1,Ja,Ja];exact Zo ()
   exists ·,·,M.length,_,·,rfl,hc,Gw lx nofun,hn _ _ ⟨_,xs++[.lst (cut (row.map D.int++(Cm 40 (tl.map D.int)).flatten) none (some 800))],rfl,Uv p1 (Jd _),?_,λx hx=>?_,by rw[Jc];exact Nat.succ_le_succ lx⟩
   .rw[Jx (Vu hc)];rfl
   .rcases Jt.mp hx with z|z
    .let⟨ns,en,ln⟩:=ok1 x z;exists ns,Zk8 en (nc x z),ln
    .rw[Jj.mp z,e1,<-Jg,Wf];exists ·,?_;rw[show(some (800:Int))=some ((800:Nat):Int)from rfl,X2,J0];lia
  rintro _ M2 ⟨v9,xs,rfl,p2,hc2,ok2,lx2⟩;exists ·,·,_,·,rfl,?_;exists ·,·,·,·,?_,λj ys M'=>M2=M'/\ys=((q.2.1.take j).map (·.2)).map wD,λ_ _ _ _ _=>rfl,⟨rfl,rfl⟩,?_,?_
  .show(q.2.1.map pD).length<=Cb;rw[Ja];exact Zo ()
  .rintro j x ys _ hj hx ⟨rfl,rfl⟩;let⟨hj',rfl⟩:=Y4 hx;exists ·,rfl,_,·,_,·,rfl,·,rfl,?_;rw[Je hj',Jg,Jg];rfl
  rintro ys _ ⟨rfl,rfl⟩;rw[show Kl _ q.2.1=q.2.1 from er];exists k0,bs,q.2.1.map (·.2),6,rfl,Z9 p2 hk,⟨hb,λw hw=>?_,by rw[Ja];lia,nofun,nofun⟩,λr lr6=>?_
  .let⟨p,hp,rfl⟩:=Jn.mp hw;exact fi.2 p hp
  exists _,·,rfl,?_,(show 1<=Cb by decide),?_
  .rw[Ja,Ja];exact Zo ()
  refine Pc (Yd hc2) rfl (Zo (show xs.length+1<=_ by lia)) ?_;refine .inl (k M2 _ p2 (ok2.app λx hx=>?_) (by rw[Jc];show xs.length+1<=10;lia));rw[Jj.mp hx];exact⟨q.2.2++r,by rw[Jg];rfl,by rw[Jc];lia⟩
open L3
def Jap(T:Txt mg)(T7:Cal P w K mg base "_law_due" 3 ["_law_specs_here","_law_row_here"] (spOf ⟨C,K⟩ dDue43))(Vh:Cal P w K mg base "_law_opened" 6 ["_law_family","_law_row_here"] (spOf ⟨C,K⟩ (dOut43 Ze)))(V7:Cal P w K mg base "_law_kinds" 6 ["_law_family","_law_row_here"] (spOf ⟨C,K⟩ (dKinds43 Ze)))(X4:Cal P w K mg base "_law_due_kinds" 1 ["_law_word"] (spOf ⟨C,K⟩ dDueK43)){f:Addr}(F:Fun K "_law_asked" "_law_asked" Fz f fd):FnOk P w K mg base CX0 7 f fd ["_law_family","_law_specs_here","_law_row_here"] (spOf ⟨C,K⟩ (dAsk43 Ze)):=by
 refine L3.Fun.ok3 F D9 (λds M K3 h=>?_) (λcdv A outer s H E hr=>?_)
 .let⟨f,d,e,zs,qs,ns,rfl,_⟩:=h;rfl
 .let SC:=D9;let hu:=hr.units;let hu1:=Xh hr;let Zb5:Room 3 _:=hr.mono nofun;let Qo:Room 6 _:=hr.mono nofun;let Na:Room 6 _:=hr.mono nofun;let Ty:Room 1 _:=hr.mono nofun;refine⟨_,_,(Zc (Zs (i:=3) SC.nd rfl (Ck rfl) (Z3 (Vy (K:=K) rfl) (by rfl) T.b_list Cz (Za (pv 2) Zb)))
 (Zc (Zs (i:=4) SC.nd rfl (Ck rfl) (Zt T7 Zb5 rfl (Za (pv 1) (Za (pv 2) Zb))))
 (Zc (Zs (i:=5) SC.nd rfl (Ck rfl) (Zt Vh Qo rfl (Za (pv 0) (Za (pv 3) Zb))))
 (Zc (Yn (PW.pt (Zjm (Zw (Ze3 (K':=K) rfl hu) (pv 5) (pv 4) (nomark _)) (Zge (Zw (Ze3 (K':=K) rfl hu) (pv 3) (pv 2) (nomark _)))))
 (Zh (Zx Qm))
 Zy)
 (Zc (Yn (Zw (Xg (K':=K) rfl hu) (Zz (Z8 (K':=K) rfl) (pv 5) Zd (λ_ _=>rfl)) Yx (nomark _))
 (Zh (Wb (Ql C7 C5 C6 Xl (Zz (Z8 (K':=K) rfl) (pv 5) Zd (λ_ _=>rfl)) (Za Zd Zb))))
 Zy)
 (Zh (Zx (Ws (Xg (K':=K) rfl hu) (Zt V7 Na rfl (Za (pv 0) (Za (pv 3) Zb))) (Zt X4 Ty rfl (Za (Zz (Z8 (K':=K) rfl) (pv 4) Zd (λ_ _=>rfl)) Zb)) (nomark _))))))))),λ_=>(Z1 (Wj (s_cb Zbj (by symm)) (s_g 3)) (by symm)),λds M Kk hM hD h=>?_⟩
  let⟨f,d,e,zs,qs,ns,rfl,h⟩:=h;let⟨Fa,hd,he,⟨ta,nd,ff,l8,ln⟩,k⟩:=h;let ff2:∀q∈qs,Free q.2.1/\Fits q.2.1:=λq hq=>⟨(ff q hq).1,(ff q hq).2.1⟩;let fz:=ta.free ff2;let lz:zs.length<=8:=by rw[ta.1];exact l8
  exists ·,_,·,(Xo he).2.2,?_;let pa:M<+:M++[MO.lst (ns.map .int)]:=⟨_,rfl⟩;let ha:(M++[MO.lst (ns.map .int)])[M.length]?=some (.lst (ns.map .int)):=Yg;generalize M++[MO.lst (ns.map .int)]=M1 at pa ha⊢;exists ·,·,d,e,qs,ns,rfl,Um pa hd,Um pa he,⟨ff,nd,l8,()⟩,λo x M2 p2 oo ox=>?_;let q2:=pa.trans p2;exists ·,·,f,_,zs,ns,rfl,Fa.pre q2,Um p2 (Yd ha),⟨(),(),fz⟩,λu y M3 p3 ou oy=>?_;obtain rfl:=ou.uniq ta nd (λq hq=>(ff q hq).1) oo;let ok:=oo.ok λq hq=>(ff q hq).2.2;let q3:=q2.trans p3;exists ·,·,Zog ok oy (ox.pre p3) ⟨_,rfl,iteF ?_⟩
  exists ·,·,Vw We (a:=ns) (b:=ns) (Xo (Yd (Z9 (p2.trans p3) ha))).2.1 (Xo (Um q3 he)).2.1 ⟨_,rfl,?_⟩;rw[Fs rfl];refine iteF ?_;refine g_nx ?_
  try dsimp only
  let lns:∀{n:Str}{ts:List Int},u=.text n ts->ts.length<=ns.length:=λ{n ts}ee=>by rw[ee]at oo;exact oo.len
  refine Ss (λρ' M'=>ρ'=[some (.cell f),some d,some e,some (.cell M.length),some x,some y]/\M2<+:M') (λKn hn=>?_) ?_
  .cases oy with
   |nomark=>exact⟨_,rfl,_,_,_,rfl,rfl,rfl,.inl ⟨_,rfl,_,rfl,iteF (hn _ _ ⟨rfl,p3⟩)⟩⟩
   |two=>exact⟨_,rfl,_,_,_,rfl,rfl,rfl,.inl ⟨_,rfl,_,rfl,iteF (hn _ _ ⟨rfl,p3⟩)⟩⟩
   |ends=>exact⟨_,rfl,_,_,_,rfl,rfl,rfl,.inl ⟨_,rfl,_,rfl,iteF (hn _ _ ⟨rfl,p3⟩)⟩⟩
   | @text n ts c hc lc =>
    let lt:=lns rfl;exists ·,_,_,·,rfl,rfl,.inl ⟨_,rfl,_,rfl,iteT ?_⟩;exists ·,_,_,·,rfl,rfl,Tv (Yd hc),c,_,·,rfl,hc,?_,hn _ _ ⟨rfl,Uv p3 lc⟩;rw[Ja];exact Gw (by lia:ts.length<=900) nofun
  rintro _ M4 ⟨rfl,p4⟩;obtain⟨xs,rfl⟩:∃xs,x=.tup (.str (Co (Zo9 u))::xs):=by cases ox<;>exact⟨_,rfl⟩
  exists ·,·,f,_,zs,ns,rfl,Fa.pre (q2.trans p4),Um (p2.trans p4) (Yd ha),⟨(),(),fz⟩,λv M5 p5 ov=>?_;obtain rfl:=ov.uniq ta nd (λq hq=>(ff q hq).1) oo;exists ·,_,_,·,rfl,Xc (j:=0) rfl rfl,v,rfl,Zoi (.inl (k M5 ((q2.trans p4).trans p5)))
open L3
def Jax(T:Txt mg){Yt:Addr}(Pe:Mkr P w K mg base "Code" C 4 ["self","table"] (Zbe K C Pt lamP lamQ))(Nq:Cau K mg "Taken" Yt)(mtt:Eo K Yt (.ref Yt)=some true)(Zev:MetE bctx P w K mg base Ze "add" 3 ["self","name","code","mark"] (Tp ⟨C,K⟩ (dAddX Ze Yt))){f:Addr}(F:Fun K "_law_refused_again" "_law_refused_again" D5 f fd):FnOk P w K mg base CX0 7 f fd ["_law_family","_law_known","_law_some"] (spOf ⟨C,K⟩ (dRef46 Ze Pt lamP lamQ)):=by
 refine L3.Fun.ok3 F Jbk (λds M K3 h=>?_) (λcdv A outer s H E hr=>?_)
 .let⟨k0,f,d,bs,q,qs,zs,rfl,_⟩:=h;rfl
 .let SC:=Jbk;let hu:=hr.units;let hu1:=Xh hr;let Zb7:Room 5 _:=hr.mono nofun;let Zhc:Room 3 _:=hr.mono nofun;refine⟨_,_,(Zc (Zdd rfl rfl (λ_ _ _ _ hx=>Pn (Zdb (Zgl (pv 0) Zev Zhc hx (Za (Zz (Z8 (K':=K) rfl) (Zz (Z8 (K':=K) rfl) (pv 1) Zd (λ_ _=>rfl)) Zd (λ_ _=>rfl)) (Za (Zrh Pe Zb7 rfl (Za (Yh (Za (Yo (Za Zd (Za (Yo (Za (Zz (Z8 (K':=K) rfl) (pv 2) Zd (λ_ _=>rfl)) Zb)) Zb))) Zb)) Zb)) (Za (Yo (Za (Zz (Z8 (K':=K) rfl) (pv 2) Zd (λ_ _=>rfl)) (Za (Zz (Z8 (K':=K) rfl) (pv 2) Zd (λ_ _=>rfl)) (Za (Zz (Z8 (K':=K) rfl) (pv 2) Zd (λ_ _=>rfl)) (Za (Zz (Z8 (K':=K) rfl) (pv 2) Zd (λ_ _=>rfl)) Zb))))) Zb)))))) (Zr5 Nq rfl (λ_=>(Zh (Zx Qm))) Zdo))
 (Zh (Zx Qm))),λ_=>(Z1 (Zi5 (λ_ _ _ he hk hx=>(N2 (Zbi he hk hx (Z5 0) (Ya (by symm) (Ya (N0 (by symm)) (by symm)))))) (Zq0 (Vl s_bl) Zc3)) (Vl s_bl)),λds M Kk hM hD h=>?_⟩
  let⟨k0,f,d,bs,q,qs,zs,rfl,h⟩:=h;let⟨h0,Fa,hd,⟨b2,hn,lz⟩,k⟩:=h
  match bs,b2 with
  |b0::b1::bs,_ =>
  let a0:((q::qs).map spD)[0]?=some (spD q):=rfl;exists ·,⟨f,_,rfl,Fa.h0,rfl⟩,·,?_;refine Uj hd (Xc (j:=0) rfl a0) ?_;exists _,_,·,rfl,rfl,?_;let s1:1<=Cb:=by decide
  let s2:2<=Cb:=by decide
  exists ·,_,_,·,rfl,Wh (j:=0) rfl,s1,s2,s1,k0,_,[(1,[b0])],h0,rfl,rfl,⟨Jb1 _ _,?_⟩,λS pm ri=>?_
  .exact⟨(by decide:1<64),λp hp=>by rw[Jj.mp hp];exact⟨λz=>(nomatch z),(by decide:1<=4)⟩⟩
  exists ·,_,_,·,rfl,Wh (j:=1) rfl,·,_,_,·,rfl,Wh (j:=0) rfl,·,_,_,·,rfl,Wh (j:=1) rfl,·,_,_,·,rfl,Wh (j:=0) rfl,(show 4<=Cb by decide),f,q.1,S,[b1,b0,b1,b0],zs,rfl,Fa,lz,λz=>Fh hn z,λ_=>⟨true,mtt,?_⟩;rw[Fp rfl];exact .inl (k _ (Ji _))
open L3
abbrev spLaw(K:Cs)(Pt:Addr):Sp:=Zkw K Pt lamP lamQ
def Di(T:Txt mg){Yt:Addr}(Pe:Mkr P w K mg base "Code" C 4 ["self","table"] (Zbe K C Pt lamP lamQ))(No:Mkr P w K mg base "Family" Ze 1 ["self"] (spOf ⟨C,K⟩ (dInitF Ze)))(Zev:Met P w K mg base Ze "add" 3 ["self","name","code","mark"] (spOf ⟨C,K⟩ (λds M K=>dAddX Ze Yt ds M K λ_ _ _=>False)))(Y6:Cal P w K mg base "_law_open" 1 ["_law_script","_law_place"] (spOf ⟨C,K⟩ dOpen))(Zf:Cal P w K mg base "_law_draw" 1 ["_law_hand","_law_many"] (spOf ⟨C,K⟩ dDraw))(V4:Cal P w K mg base "_law_specs" 3 ["_law_script","_law_most"] (spOf ⟨C,K⟩ dSpecs41))(Wz:Cal P w K mg base "_law_rows_of" 3 ["_law_spec","_law_some","_law_hand"] (spOf ⟨C,K⟩ dRowsOf43))(Wo:Cal P w K mg base "_law_asked" 7 ["_law_family","_law_specs_here","_law_row_here"] (spOf ⟨C,K⟩ (dAsk43 Ze)))(Xa:Cal P w K mg base "_law_refused_again" 7 ["_law_family","_law_known","_law_some"] (spOf ⟨C,K⟩ (dRef46 Ze Pt lamP lamQ))){f:Addr}(F:Fun K "law" "law" Zmr f fd):FnOk P w K mg base CX0 9 f fd ["_law_script"] (spOf ⟨C,K⟩ (dLawT Pt lamP lamQ)):=by
 refine L3.Fun.ok3 F F9 (λds M K3 h=>?_) (λcdv A outer s H E hr=>?_)
 .let⟨ns,rfl,_⟩:=h;rfl
 .let SC:=F9;let hu:=hr.units;let hu1:=Xh hr;let Zb7:Room 5 _:=hr.mono nofun;let Zhd:Room 2 _:=hr.mono nofun;let Zhc:Room 3 _:=hr.mono nofun;let Xz:Room 1 _:=hr.mono nofun;let Zg:Room 1 _:=hr.mono nofun;let P7:Room 3 _:=hr.mono nofun;let Rl:Room 3 _:=hr.mono nofun;let Td:Room 7 _:=hr.mono nofun;let Vr:Room 7 _:=hr.mono nofun;refine⟨_,_,(Zc (Sb (Zt V4 P7 rfl (Za (pv 0) (Za Zd Zb))) (W4 (n:=3) rfl (Z0 (Zq (i:=1) SC.nd rfl (Ef rfl)) (Z0 (Zq (i:=2) SC.nd rfl (Ck rfl)) (Z0 (Zq (i:=3) SC.nd rfl (Ck rfl)) Xs))) (by rfl)))
 (Zc (Zs (i:=4) SC.nd rfl (Ef rfl) (Zt Y6 Xz rfl (Za (pv 0) (Za Zd Zb))))
 (Zc (Zs (i:=5) SC.nd rfl (Ck rfl) (Yh (Za (Yh Zb) (Za (Y1 (T:=["_law_k"]) (cs:=[1,4]) rfl (CScope.ok (by kernel_rfl)) (Yb rfl T.b_range (Za (Zt Zf Zg rfl (Za (pv 4) (Za Zd Zb))) Zb)) (λ_ _ _ _=>(Zq (i:=0) (Y5 (by kernel_rfl)) rfl (Ck rfl) (Ef rfl))) (λ_ _ _ _=>Yz) (λ_ _ _ _=>(Zz (Z8 (K':=K) rfl) (pv 1) (Zv Yr (Zt Zf Zg rfl (Za (pv 2) (Za Zd Zb))) (Zm (Z7 (K:=K) rfl) (by rfl) T.b_len Fv (Za (pv 1) Zb))) (λ_ _=>rfl))) (Y3 nofun)) Zb))))
 (Zc (X5 C1 rfl (Yb rfl T.b_range (Za (Zm (Z7 (K:=K) rfl) (by rfl) T.b_len Fv (Za (pv 3) Zb)) Zb)) (Zq (i:=6) SC.nd rfl (Ck rfl))
 (Zh (Zs (i:=5) SC.nd rfl (Ck rfl) (Zv (Yw (K':=K) rfl) (pv 5) (Zt Wz Rl rfl (Za (Zz (Z8 (K':=K) rfl) (pv 3) (pv 6) (λ_ _=>rfl)) (Za (pv 1) (Za (Zt Y6 Xz rfl (Za (pv 0) (Za (Zv (Yw (K':=K) rfl) Zd (pv 6)) Zb))) Zb))))))))
 (Zc (Zs (i:=7) SC.nd rfl (Ck rfl) (Zrg No Zhd rfl))
 (Zc (X5 C1 rfl (Yb rfl T.b_range (Za (Zv (Yw (K':=K) rfl) (Zm (Z7 (K:=K) rfl) (by rfl) T.b_len Fv (Za (pv 3) Zb)) Zd) Zb)) (Zq (i:=8) SC.nd rfl (Ck rfl))
 (Zc (Zs (i:=9) SC.nd rfl (Ck rfl) (Zv Yr (Zt Zf Zg rfl (Za (pv 4) (Za Zd Zb))) (Zm (Z7 (K:=K) rfl) (by rfl) T.b_len Fv (Za (pv 5) Zb))))
 (Zc (X5 C1 rfl (Y0 (Z4 (Wi (K':=K) rfl) (Zv (Yw (K':=K) rfl) (Z4 (Wi (K':=K) rfl) (pv 5) (Z6 (pv 9)) Yc) (Z4 (Wi (K':=K) rfl) (pv 5) Yc (Z6 (pv 9)))) Yc (Z6 Zd))) (Zq (i:=10) SC.nd rfl (Ck rfl))
 (Zh (Yn (N6 (Sa (Zt Wo Td rfl (Za (pv 7) (Za (Z4 (Wi (K':=K) rfl) (pv 3) Yc (Z6 (pv 8))) (Za (pv 10) Zb))))))
 (Zh (Zx Qm))
 Zy)))
 (Zh (Yn (Zw Zab (pv 8) (Zm (Z7 (K:=K) rfl) (by rfl) T.b_len Fv (Za (pv 3) Zb)) (nomark _))
 (Zc (Wb (N9 (pv 7) Zev Zhc (Za (Zz (Z8 (K':=K) rfl) (Zz (Z8 (K':=K) rfl) (pv 3) (pv 8) (λ_ _=>rfl)) Zd (λ_ _=>rfl)) (Za (Zrh Pe Zb7 rfl (Za (Z3 (Vy (K:=K) rfl) (by rfl) T.b_list Cz (Za (Zz (Z8 (K':=K) rfl) (Zz (Z8 (K':=K) rfl) (pv 3) (pv 8) (λ_ _=>rfl)) Zd (λ_ _=>rfl)) Zb)) Zb)) (Za (Zz (Z8 (K':=K) rfl) (Zz (Z8 (K':=K) rfl) (pv 3) (pv 8) (λ_ _=>rfl)) Zd (λ_ _=>rfl)) Zb)))))
 (Zh (Yn (N6 (Sa (Zt Xa Vr rfl (Za (pv 7) (Za (pv 3) (Za (pv 1) Zb))))))
 (Zh (Zx Qm))
 Zy)))
 Zy)))))
 (Zc (X5 C1 rfl (Y0 (Zv (Yw (K':=K) rfl) (pv 5) (Zgn (pv 5) (Z6 (Zne Ze4 Zd)) (λ_ _=>⟨_,rfl⟩)))) (Zq (i:=10) SC.nd rfl (Ck rfl))
 (Zh (Yn (N6 (Sa (Zt Wo Td rfl (Za (pv 7) (Za (pv 3) (Za (pv 10) Zb))))))
 (Zh (Zx Qm))
 Zy)))
 (Zh (Zx Qm))))))))),λ_=>(Z1 (by symm) (Z1 (by symm) (Z1 (by symm) (Z1 (by symm) (Z1 (Wj (Ztz Xn) (s_g 7)) (Z1 (N1 (by symm) (s_g 8) (Z1 (by symm) (Z1 (by symm) (Uq (by symm) (Z1 (N2 (Ts (Z5 7) (Ya (by symm) (Ya (N0 (by symm)) (by symm))))) (by symm)) X9)))) (Z1 (N1 (s_il (s_op Zjh (Z5 5) (Zqo (Z5 5) (by symm)))) (s_g 10) (by symm)) (Vl s_bl)))))))),λds M Kk hM hD h=>?_⟩
  let⟨ns,rfl,h⟩:=h;let⟨rfl,hlen,k⟩:=h;exists ·,ns,3,rfl,⟨hlen,nofun,nofun⟩,λbs ss qs c M1 ok p1 lc hc=>?_;exists ·,rfl,_,·,_,·,_,·,rfl,?_;let l8:=ok.ln;let lqm:(qs.map spD).length=qs.length:=Ja _;let h01:M1[0]?=some (.tab Pt lamP lamQ):=Z9 p1 rfl;let hbs:bs≠[]:=λe=>by have:=ok.b2;rw[e]at this;simp at this
  let b4:=ok.b4;let b0:(0:Int)<((bs.map D.int).length:Int):=by rw[Ja];let:=ok.b2;lia
  let ff:∀q∈qs,Free q.2.1/\Fits q.2.1/\C0 q.1=true:=λq h=>⟨ok.fr q h,ok.fi q h,(ok.nl q h).2⟩;exists ·,ns,9,rfl,⟨hlen,nofun,nofun⟩,?_;let hk:(M1++[MO.hand])[M1.length]?=some .hand:=Yg;let p2:M1<+:M1++[MO.hand]:=⟨_,rfl⟩;generalize M1++[MO.hand]=M2 at hk p2⊢;generalize M1.length=hh at hk⊢;refine g_nx ?_
  try dsimp only
  exists J8 _,·,hh,8,rfl,hk,⟨nofun,nofun⟩,λy y0 y1=>?_;exists ·,⟨(),()⟩,?_,λj ys M'=>M2=M'/\∃r:List Int,ys=r.map .int/\r.length=j,λ_ _ _ _ _=>trivial,⟨rfl,[],rfl,rfl⟩,?_,?_
  .show(y).toNat<=Cb;exact Zo ()
  .rintro j x ys _ hj rfl ⟨rfl,r,rfl,lr⟩;exists ·,·,hh,60,rfl,hk,⟨nofun,nofun⟩,λu u0 u1=>?_;let⟨b,hb',eb⟩:=pick_at hbs u;exact⟨_,rfl,_,rfl,_,_,rfl,rfl,b0,_,_,_,rfl,rfl,eb,rfl,r++[b],by rw[Jg];rfl,by rw[Jc,lr];rfl⟩
  rintro ys _ ⟨rfl,r,rfl,lr⟩;let lr:r.length<=8:=by
   let:r.length=y.toNat:=lr;lia
  refine⟨(show 2<=Cb by decide),?_⟩;let ok0:W8 M2 [D.lst [],D.lst (r.map .int)]:=λx hx=>by
   rcases Jp.mp hx with rfl|hx
   .exists [],rfl,J8 _
   .rw[Jj.mp hx];exact⟨r,rfl,()⟩
  let hc2:=Z9 p2 hc;refine g_nx ?_
  try dsimp only
  exists ·,_,(Xo (Yd hc2)).2.2,·,⟨(),()⟩,λi ρ M'=>∃(xs:List D)(v6:Option D),ρ=[some (.frz (ns.map .int)),some (.lst (bs.map .int)),some (.lst (ss.map .int)),some (.cell c),some (.cell hh),some (.lst xs),v6,none,none,none,none]/\M2<+:M'/\W8 M' xs/\1<=xs.length/\xs.length<=2+10*i,λ_ _ _ _ _=>trivial,⟨_,_,rfl,Ji _,ok0,(show 1<=2 by decide),Jd _⟩,?_,?_
  .rintro i x ρ M6 hi rfl ⟨xs,v6,rfl,p6,ok6,lx1,lx⟩;let hi:i<qs.length:=by
    let:i<(((qs.map spD).length:Int)).toNat:=hi;lia
   let e0:(0:Int)+(i:Int)=(i:Int):=B5 _;rw[e0];let a2:(qs.map spD)[i]?=some (spD qs[i]):=by rw[Jr,Jb hi];rfl
   let hm:=Jy hi;exists ·,·,·,_,_,_,(Xo (Yd (Z9 p6 hc2))).2.2,rfl,Xc rfl a2,·,·,·,ns,·,⟨hlen,(),()⟩,?_;exists M6.length,qs[i],bs,rfl,Yg,⟨ok.fr _ hm,ok.fi _ hm,ok.ml _ hm,hbs,()⟩,λM7 xs7 p7 ok7 l7=>?_;refine Pc rfl rfl (Zo ()) ?_;exact .inl ⟨xs++xs7,_,rfl,p6.trans (List.IsPrefix.trans ⟨_,rfl⟩ p7),(ok6.pre (List.IsPrefix.trans ⟨_,rfl⟩ p7)).app ok7,by rw[Jc];lia,by rw[Jc];lia⟩
  rintro ρ M3 ⟨xs,v6,rfl,p3,ok3,lx1,lx⟩;let lx:xs.length<=2+10*(((qs.map spD).length:Int)).toNat:=lx
  try dsimp only
  refine⟨M3.length,rfl,Yg,by rw[Jc];rfl,rfl,?_⟩;rw[Uc];let F0:FamAt Ze (M3++[MO.ins Ze (famD M3.length)]++[MO.dct [],MO.dct []]) M3.length []:=by
   rw[Gc];exists Zhh (k:=0),Zhh (k:=1),Zhh (k:=2),List.nodup_nil
  let p0:M3<+:M3++[MO.ins Ze (famD M3.length)]++[MO.dct [],MO.dct []]:=by rw[Gc];exists ·
  generalize M3++[MO.ins Ze (famD M3.length)]++[MO.dct [],MO.dct []]=M0 at F0 p0;refine g_nx ?_
  try dsimp only
  let hc3:=Z9 p3 hc2;let h03:M3[0]?=some (.tab Pt lamP lamQ):=Z9 (p2.trans p3) h01;let hk3:=Z9 p3 hk;let hd0:=Yd (Z9 p0 hc3);exists ·,_,(Xo hd0).2.2,·,⟨(),()⟩,λi ρ M'=>∃(zs:List Fq)(v8 v9 v10:Option D),ρ=[some (.frz (ns.map .int)),some (.lst (bs.map .int)),some (.lst (ss.map .int)),some (.cell c),some (.cell hh),some (.lst xs),v6,some (.cell M3.length),v8,v9,v10]/\M3<+:M'/\FamAt Ze M' M3.length zs/\zs.length=min i qs.length/\∀(i:Nat)(z q:Fq),zs[i]?=some z->qs[i]?=some q->Nk z q,λ_ _ _ _ _=>trivial,⟨[],_,_,_,rfl,p0,F0,(Nat.zero_min _).symm,λi z q e=>nomatch e⟩,?_,?_
  .rintro i x ρ M4 hi rfl ⟨zs,v8,v9,v10,rfl,p4,F4,lz,tz⟩;let hi:i<=qs.length:=by
    let:i<(((qs.map spD).length:Int)+1).toNat:=hi;lia
   let lz:zs.length=i:=by rw[lz,Bn hi]
   let e0:(0:Int)+(i:Int)=(i:Int):=B5 _;rw[e0];exists ·,hh,60,rfl,Z9 p4 hk3,⟨nofun,nofun⟩,λy y0 y1=>⟨_,rfl,_,rfl,_,_,rfl,rfl,(),?_⟩;let⟨a,ea,ha⟩:=Qy y (n:=xs.length) ()
   try dsimp only
   rw[ea];refine g_nx ?_
   try dsimp only
   let hd4:=Yd (Z9 p4 hc3);exists ·,·,·,?_;refine Sv rfl ?_;rw[W7];exists ·,·,·,?_;refine Sv rfl ?_;rw[X2];exists _,·,rfl,?_,?_
   .rw[Gb,J0];exact Zo ()
   let hmem:∀x∈cut (xs.drop a++xs.take a) none (some 4),x∈xs:=λx hx=>by
    rw[show(some (4:Int))=some ((4:Nat):Int)from rfl,X2]at hx;rcases Jt.mp (Bk hx)with z|z
    .exact Li z
    .exact Bk z
   exists ·,·,?_;generalize cut (xs.drop a++xs.take a) none (some 4)=L at hmem⊢;let T4:Y2 zs (qs.take i):=Y2.take tz lz hi;let lk:(qs.take i).length<=8:=by rw[J0];lia
   let nk:((qs.take i).map (·.1)).Nodup:=by rw[Bj];exact ok.nd.sublist (List.take_sublist _ _)
   let fk:∀q∈qs.take i,Free q.2.1/\Fits q.2.1/\C0 q.1=true:=λq hq=>ff q (Bk hq);exists ·,λj ρ M'=>∃v10:Option D,ρ=[some (.frz (ns.map .int)),some (.lst (bs.map .int)),some (.lst (ss.map .int)),some (.cell c),some (.cell hh),some (.lst xs),v6,some (.cell M3.length),some (.int i),some (.int a),v10]/\M4<+:M',λ_ _ _ _ _=>rfl,⟨_,rfl,Ji _⟩,?_,?_
   .rintro j x ρ M5 hj hx ⟨v10,rfl,p5⟩;let⟨rw_,ex,lw⟩:=ok3 x (hmem x (Gq hx));let q5:=p4.trans p5;exists ·,·,·,·,?_;refine Sv (Yd (Z9 q5 hc3)) ?_;rw[Wf,X2];exists ·,M3.length,_,x,zs,qs.take i,rw_,rfl,F4.pre p5,rfl,Um q5 ex,⟨T4,nk,fk,lk,lw⟩,λM9 p9=>⟨_,rfl,iteF (.inl ⟨_,rfl,p5.trans p9⟩)⟩
   rintro ρ M5 ⟨v10,rfl,p5⟩;let q5:=p4.trans p5;let F5:=F4.pre p5;let hd5:=Yd (Z9 q5 hc3);exists ·,·,_,(Xo hd5).2.2,_,·,rfl,·,ite2 (λhlt=>?_) (λhge=>?_)
   .let hi':i<qs.length:=by have:=Fg hlt;lia
    let a2:(qs.map spD)[i]?=some (spD qs[i]):=by rw[Jr,Jb hi'];rfl
    let hm:=Jy hi';let nw:=Zoe ok.nd tz lz hi';let h05:=Z9 q5 h03;exists ·,⟨M3.length,_,rfl,F5.h0,rfl⟩,·,·,?_;refine Uj hd5 (Xc rfl a2) ?_;exists _,_,·,rfl,rfl,·,·,?_;refine Uj hd5 (Xc rfl a2) ?_;exists _,_,·,rfl,rfl,_,·,rfl,0,_,qs[i].2.1,h05,rfl,rfl,⟨ok.fr _ hm,ok.fi _ hm⟩,λS pm ri=>?_;exists ·,·,?_;refine Uj hd5 (Xc rfl a2) ?_;exists _,_,·,rfl,rfl,M3.length,qs[i].1,S,qs[i].2.2,zs,rfl,F5,(),λ_=>?_,λz=>Fh z nw;let lt1:=Vu F5.h2;let F6:FamAt Ze (Ru M5 M3.length (zs++[(qs[i].1,S,qs[i].2.2)])) M3.length (zs++[(qs[i].1,S,qs[i].2.2)]):=F5.put (Zrr F5.nd nw)
    let p6:M3<+:Ru M5 M3.length (zs++[(qs[i].1,S,qs[i].2.2)]):=by
     unfold Ru;exact Uv (Uv q5 ()) ()
    let tz2:=Zp4 tz lz hi' (z:=(qs[i].1,S,qs[i].2.2)) ⟨rfl,rfl,pm,ri⟩;let lz2:(zs++[(qs[i].1,S,qs[i].2.2)]).length=i+1:=by rw[Jc,lz];rfl
    generalize Ru M5 M3.length (zs++[(qs[i].1,S,qs[i].2.2)])=M6 at F6 p6;generalize zs++[(qs[i].1,S,qs[i].2.2)]=zs2 at F6 tz2 lz2;let hd6:=Yd (Z9 p6 hc3);obtain⟨q0,qs',eq0⟩:∃q0 qs',qs=q0::qs':=by
     cases qs with
     |nil=>exact Fh hi' (Bb _)
     |cons a b=>exact⟨a,b,rfl⟩
    let n0:q0.1∈zs2.map (·.1):=by
     let hz:0<zs2.length:=by lia
     let:=(tz2 0 zs2[0] q0 (Jb hz) (by rw[eq0];rfl)).1;exact Jn.mpr ⟨_,Jy hz,this⟩
    exists ·,·,·,0,M3.length,_,bs,q0,qs',zs2,rfl,Z9 p6 h03,F6,by rw[<-eq0];exact hd6,⟨ok.b2,n0,()⟩,λM7 p7=>⟨_,rfl,iteF ?_⟩;exact .inl ⟨zs2,_,_,_,rfl,p6.trans p7,F6.pre p7,by rw[lz2];lia,tz2⟩
   .let hi':i=qs.length:=by
     rcases Nat.lt_or_ge i qs.length with z|z
     .exact Fh (Fs ()) hge
     .lia
    exact .inl ⟨zs,_,_,_,rfl,q5,F5,by rw[lz];lia,tz⟩
  .rintro ρ M4 ⟨zs,v8,v9,v10,rfl,p4,F4,lz,tz⟩;let lz:zs.length=min (((qs.map spD).length:Int)+1).toNat qs.length:=lz;let lz:zs.length=qs.length:=by rw[lz,lqm];lia
   try dsimp only
   exists ·,·,1,rfl,·,rfl,·,_,·,rfl,?_,?_
   .rw[B6];exact Zo ()
   let T4:Y2 zs qs:=⟨lz,tz⟩;exists ·,λi ρ M'=>∃v10:Option D,ρ=[some (.frz (ns.map .int)),some (.lst (bs.map .int)),some (.lst (ss.map .int)),some (.cell c),some (.cell hh),some (.lst xs),v6,some (.cell M3.length),v8,v9,v10]/\M4<+:M',λ_ _ _ _ _=>rfl,⟨_,rfl,Ji _⟩,?_,?_
   .rintro i x ρ M8 hi hx ⟨v10,rfl,p8⟩;let hx:x∈xs++xs.reverse:=Gq hx;let hx:x∈xs:=(Jt.mp hx).elim id List.mem_reverse.mp;let⟨rw_,ex,lw⟩:=ok3 x hx;let q8:=p4.trans p8;exists ·,·,·,M3.length,_,x,zs,qs,rw_,rfl,F4.pre p8,Yd (Z9 q8 hc3),Um q8 ex,⟨T4,ok.nd,ff,l8,lw⟩,λM9 p9=>⟨_,rfl,iteF (.inl ⟨_,rfl,p8.trans p9⟩)⟩
   .rintro ρ M8 ⟨v10,rfl,p8⟩;exact .inl (k _)
end
def all_mk{l:Jg9}{fa:Addr}(X:K.In h)(G:h.Ns Ct mg)(hfa:mg "law"=some (.ref fa)){C:Addr}(aC:Jex K Ct "Code"=some (some (.ref C)))(gx_NoReading:Jex K Ct "NoReading"=some (some (.ref Zj)))(gx_NoName:Jex K Ct "NoName"=some (some (.ref Yj)))(gx_Taken:Jex K Ct "Taken"=some (some (.ref Yt)))(gx_TwoMarks:Jex K Ct "TwoMarks"=some (some (.ref Zn)))(gx_NoMark:Jex K Ct "NoMark"=some (some (.ref Zu)))(gx_SkewError:Jex K Ct "SkewError"=some (some (.ref Yi)))(gx_Family:Jex K Ct "Family"=some (some (.ref Ze)))(h0:FnG K "_law_draw" Jcg f0 d0)(h1:FnG K "_law_open" Jaw f1 d1)(h2:FnG K "_law_bytes" Jcn f2 d2)(h3:FnG K "_law_words" Jcm f3 d3)(h4:FnG K "_law_signs" Dp f4 d4)(h5:FnG K "_law_table" D0 f5 d5)(h6:FnG K "_law_text" Jai f6 d6)(h7:FnG K "_law_row" F7 f7 d7)(h8:FnG K "odds_between" Wq f8 d8)(h9:FnG K "fault" Zbk f9 d9)(h10:FnG K "refuse_fault" Wp f10 d10)(h11:FnG K "beginnings" Vn f11 d11)(a12:Cu K (.ref C) "__init__"=some (some (.ref f12)))(l12:K.lookup f12=some ⟨oc12,od12,.func (L9 "__init__" "Code.__init__" (Xv Z2) (Ys Z2) (Zl Z2) .none kV12 dc12 pm12 an12 (.ref c) ct12),sl12⟩)(c12:Ja4 K (.ref c) "Code.__init__"=true)(k12:Ja2 K (.ref f12)=true)(n12:W.isFn K (.ref f12)=true)(h13:MtG K C "sign" "Code.sign" Ur f13 d13)(h14:FnG K "word_at" Sw f14 d14)(h15:MtG K Zj "__init__" "NoReading.__init__" Yq f15 d15)(h16:MtG K Yj "__init__" "NoName.__init__" Xq f16 d16)(h17:MtG K Yt "__init__" "Taken.__init__" X0 f17 d17)(h18:MtG K Zn "__init__" "TwoMarks.__init__" Yy f18 d18)(h19:FnG K "read" Zfz f19 d19)(h20:FnG K "begins_row" Vm f20 d20)(h21:MtG K Ze "__init__" "Family.__init__" Xr f21 d21)(h22:MtG K Ze "add" "Family.add" Vo f22 d22)(h23:MtG K Ze "names" "Family.names" Wr f23 d23)(h24:MtG K Ze "code" "Family.code" Vc f24 d24)(h25:MtG K Ze "mark" "Family.mark" Vb f25 d25)(h26:MtG K Ze "by_mark" "Family.by_mark" X1 f26 d26)(h27:MtG K Ze "opened" "Family.opened" Wa f27 d27)(h28:FnG K "_law_names" Jbi f28 d28)(h29:FnG K "_law_mark" Jby f29 d29)(h30:FnG K "_law_specs" Jac f30 d30)(h31:FnG K "_law_by_mark" Jch f31 d31)(h32:FnG K "_law_written" Ds f32 d32)(h33:FnG K "_law_reading" Jab f33 d33)(h34:FnG K "_law_due" Jbl f34 d34)(h35:FnG K "_law_opened" Jcf f35 d35)(h36:FnG K "_law_kinds" Jaz f36 d36)(h37:FnG K "_law_due_kinds" Jbb f37 d37)(h38:FnG K "_law_rows_of" Jad f38 d38)(h39:FnG K "_law_asked" Fz f39 d39)(h40:FnG K "_law_refused_again" D5 f40 d40)(h41:FnG K "law" Zmr f41 d41)(xc_NoReading:XCl K Zj f15)(xin_NoReading:L2.Wu K Zj=some (some (.ref f15)))(xna_at_NoReading:Cu K (.ref Zj) "at"=some none)(xc_NoName:XCl K Yj f16)(xin_NoName:L2.Wu K Yj=some (some (.ref f16)))(xna_name_NoName:Cu K (.ref Yj) "name"=some none)(xc_Taken:XCl K Yt f17)(xin_Taken:L2.Wu K Yt=some (some (.ref f17)))(xna_name_Taken:Cu K (.ref Yt) "name"=some none)(xc_TwoMarks:XCl K Zn f18)(xin_TwoMarks:L2.Wu K Zn=some (some (.ref f18)))(xna_first_TwoMarks:Cu K (.ref Zn) "first"=some none)(xna_second_TwoMarks:Cu K (.ref Zn) "second"=some none)(xc_NoMark:XCl K Zu f41)(xi_NoMark:L2.Wu K Zu=some none)(xca_SkewError:CaG K Yi)(xca_NoMark:CaG K Zu)(xca_TwoMarks:CaG K Zn)(xca_NoReading:CaG K Zj)(xca_Taken:CaG K Yt)(mtt:Eo K Yt (.ref Yt)=some true)(m00:Eo K Zu (.ref Zu)=some true)(m10:Eo K Zn (.ref Zu)=some false)(m11:Eo K Zn (.ref Zn)=some true)(m20:Eo K Zj (.ref Zu)=some false)(m21:Eo K Zj (.ref Zn)=some false)(m22:Eo K Zj (.ref Zj)=some true)(m0s:Eo K Zu (.ref Yi)=some true)(m1s:Eo K Zn (.ref Yi)=some true)(m2s:Eo K Zj (.ref Yi)=some true)(kt00:Eg K (.ref Zu) (.ref Zu)=some true)(kt01:Eg K (.ref Zu) (.ref Zn)=some false)(kt02:Eg K (.ref Zu) (.ref Zj)=some false)(kt10:Eg K (.ref Zn) (.ref Zu)=some false)(kt11:Eg K (.ref Zn) (.ref Zn)=some true)(kt12:Eg K (.ref Zn) (.ref Zj)=some false)(kt20:Eg K (.ref Zj) (.ref Zu)=some false)(kt21:Eg K (.ref Zj) (.ref Zn)=some false)(kt22:Eg K (.ref Zj) (.ref Zj)=some true)(kt0v:Eg K (.ref Zu) (.type "ValueError")=some true)(kt1v:Eg K (.ref Zn) (.type "ValueError")=some true)(kt2v:Eg K (.ref Zj) (.type "ValueError")=some true)(cl_Family:Cls K Ze)(mk_Family:MkG K Ze)(na_codes_by_name_Family:Cu K (.ref Ze) "codes_by_name"=some none)(na_marks_by_name_Family:Cu K (.ref Ze) "marks_by_name"=some none)(hd:Jei K c Pt=true)(cl:Cls K C)(mk:MkG K C)(y_pairs:Cu K (.ref C) "pairs"=some none)(y_words_by_sign:Cu K (.ref C) "words_by_sign"=some none)(y_signs_by_word:Cu K (.ref C) "signs_by_word"=some none)(y_begun:Cu K (.ref C) "begun"=some none)(y_word_sizes:Cu K (.ref C) "word_sizes"=some none)(z:Zk7 K ["len","abs","max","min","isinstance","all","any","range","int","str","bool","tuple","list","dict","sorted","enumerate","ValueError"]=true)
   :∃fd:Lj,(∃c,Jei K c Pt=true)/\(∀(s:Cc)(v:Ca),Jdj s fd ⟨[v],[]⟩ [("_law_script",v)])/\∀base:Heap,K.In base->base.Ns Ct mg->Bm mg base->FnOk l.prog w K mg base CX0 9 fa fd ["_law_script"] (spLaw K Pt):=by
  let e:=hfa.symm.trans (W.mg_of X G h41.g);cases e;let T:Txt mg:=⟨Xy X G z 0 rfl,Xy X G z 1 rfl,Xy X G z 2 rfl,Xy X G z 3 rfl,Xy X G z 4 rfl,Xy X G z 5 rfl,Xy X G z 6 rfl,Xy X G z 7 rfl,Xy X G z 8 rfl,Xy X G z 9 rfl,Xy X G z 10 rfl,Xy X G z 11 rfl,Xy X G z 12 rfl,Xy X G z 13 rfl,Xy X G z 14 rfl,Xy X G z 15 rfl,Xy X G z 16 rfl⟩;let CT:CodeT K C:=⟨cl,y_pairs,y_words_by_sign,y_signs_by_word,y_begun,y_word_sizes⟩;let F12:=Zhi (st:=Z2) l12 c12 k12;let b12:=F12.binds (ps:=["self","table"]) λ_ _ _ _ _ _=>us2 λ_ _=>rfl;let bl:∀(s:Cc)(v:Ca),Jdj s d41 ⟨[v],[]⟩ [("_law_script",v)]:=by
    let⟨_,_,_,_,_,_,_,_,_,rfl,_,_⟩:=h41.F.ex;exact λs v=>.of_eq rfl
  exists d41,⟨c,hd⟩,bl,λbase kb _ hBm=>?_;let Y:Tk l.prog w K mg base:=⟨λe=>W.mg_of X G e⟩;let hCd:=Jgz kb hd;let Vf:=Y.m gx_NoReading;let Zsz:=Y.m gx_NoName;let Zo6:=Y.m gx_Taken;let Ui:=Y.m gx_TwoMarks;let Vg:=Y.m gx_NoMark;let Zcn:=Y.m gx_SkewError;let Zs0:=Y.m gx_Family;let V9:Cau K mg "SkewError" Yi:=⟨Zcn,xca_SkewError.t,xca_SkewError.b⟩;let Qh:Cau K mg "NoMark" Zu:=⟨Vg,xca_NoMark.t,xca_NoMark.b⟩;let U6:Cau K mg "TwoMarks" Zn:=⟨Ui,xca_TwoMarks.t,xca_TwoMarks.b⟩;let Xf:Cau K mg "NoReading" Zj:=⟨Vf,xca_NoReading.t,xca_NoReading.b⟩;let Nq:Cau K mg "Taken" Yt:=⟨Zo6,xca_Taken.t,xca_Taken.b⟩
  let Zf:=Xw Y h0 (Jbj T  h0.F);let Xx:=L3.Cal.imp Zf λ_ _ _ _ h=>L3.Zsw (C:=⟨C,K⟩) h;let Y6:=Xw Y h1 (Jam (C:=C) T  h1.F);let V8:=Xw Y h2 (Jak T Zf h2.F);let Zbb:=L3.Cal.imp V8 λ_ _ _ _ h=>L3.Zo2 (C:=⟨C,K⟩) h;let V2:=Xw Y h3 (Df T Zf h3.F);let Za9:=L3.Cal.imp V2 λ_ _ _ _ h=>L3.Zkl (C:=⟨C,K⟩) h;let V5:=Xw Y h4 (Da T Zf h4.F);let Zba:=L3.Cal.imp V5 λ_ _ _ _ h=>L3.Zo0 (C:=⟨C,K⟩) h;let V3:=Xw Y h5 (Jay (C:=C) T Xx h5.F);let U4:=Xw Y h6 (Dj T Zf h6.F);let Zcq:=L3.Cal.imp U4 λ_ _ _ _ h=>L3.Zsu (C:=⟨C,K⟩) h;let T6:=Xw Y h7 (F2 T Zf h7.F);let Zew:=L3.Cal.imp T6 λ_ _ _ _ h=>L3.Zsv (C:=⟨C,K⟩) h
  let Wx:=Xw Y h8 (Dy (C:=C) T  h8.F);let Zcr:=Xw Y h9 (Jbu (C:=C) T Wx h9.F);let Ww:=Xw Y h10 (Fy (C:=C) T Zcr h10.F);let V1:=Xw Y h11 (Jae (C:=C) T  h11.F);let Pe:Mkr l.prog w K mg base "Code" C 4 _ _:=⟨f12,_,⟨mk.m,a12,n12,mk.k⟩,Jcd T CT hCd hBm Ww V1 l12 c12,Y.m aC,b12⟩;let Pd:=Znt Y cl h13 (Du T CT  h13.F);let Qg:=Xw Y h14 (F3 T CT Pd h14.F);let Vz:=rx_g Y xc_NoReading xin_NoReading h15 (Dw T xc_NoReading xna_at_NoReading h15.F) gx_NoReading;let RH_NoReading:=Zt8 Y xc_NoReading xin_NoReading h15 (Vk T xc_NoReading xna_at_NoReading h15.F) gx_NoReading;let W9:=rx_g Y xc_NoName xin_NoName h16 (Jas T xc_NoName xna_name_NoName h16.F) gx_NoName
  let Nm:=rx_g Y xc_Taken xin_Taken h17 (Jbp T xc_Taken xna_name_Taken h17.F) gx_Taken;let U3:=rx_g Y xc_TwoMarks xin_TwoMarks h18 (Jat T xc_TwoMarks xna_first_TwoMarks xna_second_TwoMarks h18.F) gx_TwoMarks;let Zih:=Zse (bctx:=true) Y h19 (D3 T Pd Qg Vz h19.F);let Zsx:=L3.CalE.imp Zih λ_ _ _ _ h=>L3.Zo1 (Cr:=Zj) (C:=⟨C,K⟩) h;let V0:=Xw Y h20 (Jbd (C:=C) T  h20.F);let No:=Zug Y mk_Family h21 (Jce T (C:=C) cl_Family na_codes_by_name_Family na_marks_by_name_Family  h21.F) gx_Family;let Zev:=Zdl (bctx:=true) Y cl_Family h22 (Dg T (C:=C) cl_Family na_codes_by_name_Family na_marks_by_name_Family Nm h22.F)
  let Zuq:=Znt Y cl_Family h23 (Dz T (C:=C) cl_Family na_codes_by_name_Family na_marks_by_name_Family  h23.F);let Zig:=Zdl (bctx:=true) Y cl_Family h24 (Jcj T (C:=C) cl_Family na_codes_by_name_Family na_marks_by_name_Family W9 h24.F);let Qe:=Zdl (bctx:=true) Y cl_Family h25 (Jan T (C:=C) cl_Family na_codes_by_name_Family na_marks_by_name_Family W9 h25.F);let Qf:=Znt Y cl_Family h26 (Dm T (C:=C) cl_Family na_codes_by_name_Family na_marks_by_name_Family (L3.MetE.calm3 Qe) V0 h26.F);let Uh:=Zdl (bctx:=false) Y cl_Family h27 (Dh T (C:=C) cl_Family na_codes_by_name_Family na_marks_by_name_Family xc_NoMark xi_NoMark Vg U3 RH_NoReading Xf m22 xc_NoReading xna_at_NoReading Qf (L3.MetE.calm3 Qe) (L3.MetE.calm3 Zig) Zsx h27.F)
  let V6:=Xw Y h28 (Dd (C:=C) T Xx h28.F);let U5:=Xw Y h29 (Jbc (C:=C) T Xx h29.F);let V4:=Xw Y h30 (Jbg (C:=C) T Y6 Xx Zbb Za9 Zba V3 V6 U5 h30.F);let W1:=Xw Y h31 (F8 (C:=C) T  h31.F);let Wy:=Xw Y h32 (Jav (C:=C) T  h32.F);let W0:=Xw Y h33 (Db (C:=C) T  h33.F);let T7:=Xw Y h34 (Dv (C:=C) T W1 W0 h34.F);let Vh:=Xw Y h35 (De (C:=C) T Qh U6 Xf xc_NoMark xc_TwoMarks xc_NoReading xna_first_TwoMarks xna_second_TwoMarks xna_at_NoReading m00 m10 m11 m20 m21 m22 Uh h35.F);let V7:=Xw Y h36 (Jbq (C:=C) T V9 Vg Ui Vf xc_NoMark xc_TwoMarks xc_NoReading m0s m1s m2s kt00 kt01 kt02 kt10 kt11 kt12 kt20 kt21 kt22 kt0v kt1v kt2v Uh h36.F)
  let X4:=Xw Y h37 (D8 (C:=C) T  h37.F);let Wz:=Xw Y h38 (Jbw (C:=C) T Xx Zcq Zew Wy h38.F);let Wo:=Xw Y h39 (Jap (C:=C) T T7 Vh V7 X4 h39.F);let Xa:=Xw Y h40 (Jax (C:=C) T Pe Nq mtt Zev h40.F);exact(Di T Pe No (L3.MetE.calm3 Zev) Y6 Xx V4 Wz Wo Xa h41.F).imp λ_ _ _ _ h=>L3.Znw (C:=⟨C,K⟩) h
def walk{l:Jg9}{q:Eu}{loose:List Str}{XP:(Str->Option Ca)->Heap->Prop}{YP:Hm->Heap->Prop}{d:DefRec}{K:Params->Cs}(hn:l.most=some 63)(hdf:d.params.defaults=[])(hY:∀(w:Hm)(h:Heap),YP w h->(K w.params).In h)(hYt:∀(w:Hm)(h:Heap),YP w h->h.get? Pt=some (Jhx #[]))(hPK:∀w:Hm,(K w.params).lookup Pt=none)(F:∀(w:Hm)(mg:Str->Option Ca)(fa:Addr)(h:Heap),(K w.params).In h->h.Ns Ct mg->mg d.name=some (.ref fa) ->
   ∃fd:Lj,(∃c,Jei (K w.params) c Pt=true)/\(∀(s:Cc)(u:Ca),Jdj s fd ⟨[u],[]⟩ [("_law_script",u)])/\∀base:Heap,(K w.params).In base->base.Ns Ct mg->Bm mg base->FnOk l.prog w (K w.params) mg base CX0 9 fa fd ["_law_script"] (spLaw (K w.params) Pt)) :
  W.WalkO q loose XP YP l.row.toRowW d [] (λf vs=>Jgk f vs) :=
 L2.Zik (n:=63) (k:=9) (x:="_law_script") (CX:=λ_=>CX0) (sp:=λw=>spLaw (K w.params) Pt) hn nofun hdf ⟨rfl,nofun,nofun⟩ hY hYt hPK F (λ_ _ a ns hl hO hS=>⟨a,ns,rfl,hS,hl,hO.tab _ _,λ_=>rfl⟩) λ_ _ _ _ _ z=>z
end K43
namespace PySem.W.Fast
local macro_rules|`(#print $s:str)=>return Lean.mkNullNode (<-((s.getString.replace "!" "@").foldl (λ(r,i,n) c=>let n:=n*85+c.toNat-if c<'\\' then 41 else 42;if i<9 then (r,i+1,n) else (r.push (n-0),0,0)) (#[],0,0)).1.mapM λ x=>`(def $(Lean.mkIdent (.mkSimple s!"tw{x}")):ident:=0))
#print "fKjd:GcJeRMM)r_9n0kvFX8.<GP-aK;c9YN/U2.IN0mf6)9nzIto`|b2^nZ7.zJ5ZSDg7{1TWeb)3I3}6Ya:r>`A-vEe_jqI~0QqpY<Mg]91<|dmEP4W:6YHOQzOwT8Bvdw3ETvFt:C[_<yE/?-V]0yV4c|/Nn^lvpJ-O+sZ|]92EhC`S*!N40}UY<;fpmwMN||k,tZ/+t5:-yhG`Jc]2{Js2XknJGA}T:1Ky~=N<AaYDCgz*?:97_nhF0^}ym5]n}yeSElgbZDH+SJ!1YFLQ?PwMqE,eiK7TlaLAF~^A2Dz3J3VEdw<,E,tUbKs^SHXHfr=H,nAUPP29HX|hL6E/AmL_IinPvNY9{O!k9IPepXmMnN:Z_?TX-6Ad9IuC?J{/P!<_=DJu.tnQ1QK3}DN~:M}qrU*yGqq26M:Vs3DsH_~:T?gRQLyu.!^tE/oJ^~za/vtfQm{t3>1]z!*D9Qyy`R[VxL4pUHm[0NRykFI5S,}j:dQVBb!kA+/AR1J0fi<{`VpekpFYYH^+P+oNhKC?td;qmxK07Um.cNlkv<fW-xB[.Jb074HJtIeYG.4jW-K,`|n[Y],6O71Ae7gZ5RjT:MwxN^aYVFXRdk9joB,u1yDB1EDo;1pdQjqEpeev3}jpumBwBw)nQ2r49u?8,-w:fj3IM^K7;L./ykY[6K{KqD*!fJ!^>vrM!oBm/~JE}A;kF7V)hpn~Lt)Fx2n`/D1*==~qif?y[UWP[,8IK]>,awaVPyASFApV78,:gr+)~_DPw*i2E7V`:d)WOhtPsZUUBm;;u<ITG5yOQSnD!6tUPc}8_on[+M+_KU/`]];1IlYm<;Gc>-0=-6b{lI^=Z1?pBS[4R8T^vuCJ5Y;b[X;YExibjoH)eFCLOlvhfCI^Mw3S>71*tM_M2B]>r0J=LYObk[E^:x)A09*DWwSdO*Di^_+Vq!,jf-Ma.2iJTI4c~98H)glI`7,_FDaTXlq0,N29<)_>4sV+Y5S}cte3y<{=fb,VB7q11PPxPGeG],)BE9n~=qrM5q}mTRBOYzMMqny~Sc+[Ij7Hi+s3/}e.YS4?u~N}1kE9fSD+4m2shRUOQq>`DSEviek={d^A`:5m;F=SEDC.8D!unu[jWMtgLRaBAlhs=;ej2mH=JsB0SMUx),kGJp8n9-|;bn<ZF^W}<QOqDFR]VtLmZy.:h0x/sr0q.1QL~gU)7Jj>hkVsarcE]s,UnKdj<)Co1>`yNbU}ph._5>ex,n_Csi4H.0:Uxo5pS5g0Al6DHdL~8IGkETAQ9HFb/R//b!C?vi{6Z>*fft,h!LtDy-tWAfvJ3tC,+I,s/P;y{vd|)8+j/Zfkd1[o=myW4K4p9ZlqCrBf0R,uPe^ry`!XxmgRIfyGHEABl;TJBNzE+9cm-:3>1<*a;=jKAe0w76jKls5o4H=B2>qe|)w`fFl_7B6<t2>3R?AtHlbiX8/rX,2xnr7Y9>lmqjmNIsD..IHgJ=!kw_u45M59Uc0]:9/206~AktY^6Vqti[}=flX?x?GHRgigd^Fr=mCW*XVpro>7N]yJ=P9nUb57~Bci>s6Z[FrsUB)K)F;!kx~!3Z`gvI,oH3a0{0qn|{T[Fi:;*^dV;5;8X!z+[Vjw9W!VA*Mhcv4`!7>S*.=tq6<6pETVFPAU2RqJ.t.!S<x^oI1dIt>Z0boC-{hBPO.YEDvUzDj|i831</9y}V:MC9Bt7<4J[uHF!!|/J}X-0FpC;Dswl`6,RUrPYhBpS`3).FwbdR;!><VG*7]!`:cM9cAil/k:9Bk[[8pn.-z*D9yNMmn*ABoEb]uY~-<9WtQOdoGn?tMQ|9WM0x4y<<U[hw|20PT.!c8>WaJfumjrhHhiwase~q8U=Hxz2.YitPWhFhAb:x~21UBf0R)3FX~C9bUGiS]GtJY4i_M9.PdPJopfmpyoGGW;rqMId0|B+InM<}R=eOBX}QkpIc:O)c]dl]>2u!.8r-I}ym!)_;LvJ08^XA5P95Rt5[dBdeW:J[*0U[C5`;Af5<u=MGkS=.AJ.2LrL+MI<!n[)T^5LmvNA:mZ~>iq-FNX{])Oub2_WoV5}agd8LuAkjn.*r<n!0=+7^F`iaQLDVZ3ZCsgu5lHi!L9H5AHVTO?z`]F=p^Q;WYB1.0MI,C^~|<aAGUCesnr)m!,aRMJ*{eoDw7u7,v|c^Hf7z/4mya1[EWm,p6bT]{:U=T`YIQx*FsNx70[+;JJZ-r<}s}NB1L|.m>upowl.B-C+xlPN8iBrl?+^yVz{E0py2R-Zy6l8.efi*coS0pUUAYh3c13OoFfIqKLq7Zi3}^f+o.Y:Q=6Ds:_tTTI1S>C!Cu90q8NJW2]~rQH?a=vk_oP{!tKgUOHZewX8ch.CzX<1O|_>DbQR<yUba/wsws]9Ph`I/AI6jXBUy-AmB)mH]q;T,5|67<+P5K8lc+^bj~AI02gmf^V5]`_TYsq[3C;Rd6oIl3MY5Xo1o2}I:H8vO<Gyj4HFl?eZC/Zry.rh>2yMy0)LUV7uG?qa8o)~Rf)c:JR?oj3yO{Il}.D:rVkR=P*`BI6z!IvTz:2[n+E8KnK[+oEIBJ9:[5OJ<D`_^!z9]oMm^/l:+na_?oTs:OIb9WP}_.MEYNgp]Ky.RVGT,j05QA7C={8}n0ScCL5=so<b`qd~E{6ms`Urv3QLyqK`!yMCc`)<T|m]Xq!~uhOJFOy!WxEmb5F:uC!<~L:w;z=]?3K[u-8N>Ib>)[2Ff2f:CR*g4Pl==^rgmfU/uIA^WDRSn^jWJf{r}=l/1OkffofeDq=`;J^ieMh*4iT+!jNJJ7>?2>8)r4)W8)T_imlV+TRMWCs_vHn7!EQ)UtvIhKVODp4{8Ne/4J;`0+)K*[7-a-!,k?j.}z~jlKb8:Ej!WQSQ3aN=7=V.g],Qu=lUN.PuRmX>oc4g-BK4Cl,Xfw>y<bSJx^M:BB_kc~+XF3hqLn9x6j,5]MlnJ{98>pawv0eEhqNhaKAa33n2of)D{A6u*r^DXAhY17pz|yxZ^kn6grF_~L+E^;/JI?*LlFh[ly7j*sjKqs5PV,<_8IWu9*:GA|Kw-)jvF`6.SPC45YqQXlo`?m?2vM);tLOesW6CgFDEfS!7ULCuW~X,qVBn*E]*uko+4SuX16,ka7HpcQ)3rREYNOJlz=Ct1/mf11W*-g1/U|ZLVCex~u|=*b`v]=sYVcgF9T4vspM7qAx-jP/,/IcI?bKF~?L>?B*hX3[J8)_,eWkjp5F?S+lqG6|,2rPIJ:-q.jOpf;u~U9V5geKsD=/,-W3Hv3Zc`pI*;iZ`fgRGEcDt1B/MYB9VtJjK`gr<Q,[9J9h6<<v;1R`I~>[Q;?nq~m`VS*XMZ_<hl>sBxBVIiZ;gIl-k:U+wo[D31J[?mg7l^Pt2pRZtqi/E^TSI/60|rC36r3CjDVAEexmVawy67>LYO*7]<*oQw{7~5g!t:aRW<JC]z20,*D+eA7dt;`ea-C{dIT^.=`V~]7X)_O)q4Mz!],]`U,oj.<]/opOZb*JV3O?a)4.LO;rh7Y50,9:8FGV1:-wtbsEvhEE7SS^~H*.ifnnVmnLj`7dZ!=:lwxdc~ryzm9>M`abIjDHr~+6l~/?7iae)Sc|T[XukIYy4*9?2wQbgjkHrcE?y30X2I*ELw>e[weLG+Yp>[C)d6rOH*ch08Ad{a?_1?~mF>1_}>wBaIEal64<|MtV2O.8P-N1O2sklb)a4Mz/h959uW7aZX00/c96M,`?3!)GeX[p97;zt|uS+/8:DwyWl*~Yk2JpLa/<e`LAs]G{<NE<U1yj^^.N7R0KYV+B^`-j.=~8U;PSv8Bdm!Ksg`|Z[:O58adrRx{lY:.-_QnKLDL<;Ga2f9?/;mJW{bBIJhHHp}e<wxpGm>HknTFQ4bx020wWEXa!e<d:^x6;!lkk;YP3?6f)jm}w:GZ~Iss_2Coss)OvQ_GE`p=_l2IkKS>;1i^HDRuldVN)HXX,QBH]BF2w=p]zj{^`h_06]Sm_YS1:WR-*jFm<UUy4u8!/K{.^];ug00-=hJ<1IosVWbPBnUU3u33xY-gck/sd;_]]+WZZO*pQXdzX:q0v-NNAyC)zCraT`]lK~JgrjKpn0?!]5ADxcv4zlsodB9E^nns9h}2HZ.0uE|j!T;IN}28|Lh0.Q]rexZ2Yvj`0SN3H0Qj?G^]lx}nw:Ie[gd~W?5z26i7mKiq11<9MR*cFvNm]jcZ8c`icH^B.a9q2Ji1K.bF}FpI+`~^c_YoZLS^g|GmSm0iw4aquZLilV`nM21<5;O{=-_~sZMLFsYUe1WpmvAum+/,k3r;5.?;Ae<Iww5g52]~C3.YQ+)1U-pWCp2c+}vYu5|}a1_zevyDDZ=;jru3S0r6tjPC1]X3Fb-W`Nfvhyv{Gb,XOjWAa>,_0K.O0DCigSPIJAt+{}0Eeiewh/v]0o_TQ^FV2z-t-^AN-v*~LLMbe)n5`mNRv.:_dOMEi;-]o2wS5FVgUOt`euh+gN_g*=Q[E[wu2Op+8>rLX>FK1B/fnZM_Nb85EX?w!|vgZKJbf:C)?67B<*NldieH,l<i<Jk.Kh=g9L3Itb0yx*g8ciG.{q^e>`]X9<1Jq0l{0VuO;f4~_Qc:y}?|c3P;|LwA.DI)ZtwQ?Nk5TnTX7^`xCA`{gQ^K)Wu6e`UH8w7m.:A:"
end PySem.W.Fast
open PySem PySem.W PyProof.Rows
set_option maxRecDepth 100000 in
set_option maxHeartbeats 0 in
theorem PySem.Challenge.cw_skewread_k43_opened_holds : PySem.Challenge.rw_skewread_k43_opened.Holds := by
  w_on; o_law; k_head; (case hw=>w_witness2)
  k_fill
  refine K43.walk (l:=PySem.Challenge.rw_skewread_k43_opened) rfl rfl (fun w h Y=>PySem.W.km_in_of Y) (fun w h Y=>PySem.W.km_tabs_of Y _ (by k_mem)) ?hpk ?F
  case hpk=>exact fun w=>by kernel_rfl
  case F =>
    intro w mg fa h KX G hmg
    refine' K43.all_mk KX G hmg ?aC ?gx_NoReading ?gx_NoName ?gx_Taken ?gx_TwoMarks ?gx_NoMark ?gx_SkewError ?gx_Family ?h0 ?h1 ?h2 ?h3 ?h4 ?h5 ?h6 ?h7 ?h8 ?h9 ?h10 ?h11 ?a12 ?l12 ?c12 ?k12 ?n12 ?h13 ?h14 ?h15 ?h16 ?h17 ?h18 ?h19 ?h20 ?h21 ?h22 ?h23 ?h24 ?h25 ?h26 ?h27 ?h28 ?h29 ?h30 ?h31 ?h32 ?h33 ?h34 ?h35 ?h36 ?h37 ?h38 ?h39 ?h40 ?h41 ?xc_NoReading ?xin_NoReading ?xna_at_NoReading ?xc_NoName ?xin_NoName ?xna_name_NoName ?xc_Taken ?xin_Taken ?xna_name_Taken ?xc_TwoMarks ?xin_TwoMarks ?xna_first_TwoMarks ?xna_second_TwoMarks ?xc_NoMark ?xi_NoMark ?xca_SkewError ?xca_NoMark ?xca_TwoMarks ?xca_NoReading ?xca_Taken ?mtt ?m00 ?m10 ?m11 ?m20 ?m21 ?m22 ?m0s ?m1s ?m2s ?kt00 ?kt01 ?kt02 ?kt10 ?kt11 ?kt12 ?kt20 ?kt21 ?kt22 ?kt0v ?kt1v ?kt2v ?cl_Family ?mk_Family ?na_codes_by_name_Family ?na_marks_by_name_Family ?hd ?cl ?mk ?y_pairs ?y_words_by_sign ?y_signs_by_word ?y_begun ?y_word_sizes ?z
    any_goals first | (refine' ⟨?g,L2.Zhi ?l ?c ?k⟩; (case g=>k_is); (case l=>k_is); (case c=>k_is); case k=>k_is) | (refine' ⟨?g,?n,L2.Zhi ?l ?c ?k⟩; (case g=>k_is); (case n=>k_is); (case l=>k_is); (case c=>k_is); case k=>k_is) | k_is | kernel_rfl | (first | apply L2.Cls.mk | apply L2.MkG.mk | apply L2.XCl.mk | apply L2.CaG.mk) <;> first | k_is | kernel_rfl
#print axioms PySem.Challenge.cw_skewread_k43_opened_holds