import PyProof.Rows.All
import Wide.All
import OpenK.AllK
import Wide.FinOn
import Lean
import PyProof.EqAt
import PyProof.EqKinds
import PyProof.TupleCall
import PyProof.DictItems
import KE.KPairComp
import KE.KDictList
import PyProof.ListRange
import KE.KUnpack
import KE.KEqDict
import PyProof.DictFindH
import KE.KDictSum
import PyProof.AutoListH
import PyProof.SumAny
import PyProof.Rows.Range3
import KE.KStateDown
import KE.KSortTup
import KE.KLam
import KE.KNestM
import KE.KDictOf
import PyProof.AttrMissHeap
import KE.KRevSl
import PyProof.RaisesMany
import PyProof.ExcInit
import PyProof.ExcClass2
import PyProof.RulesTry
import PyProof.PassesOwn
import OpenK.KOwn
import PyProof.RulesDel
import KE.KIsAll
import PyProof.EnumMake
import PyProof.LayNew
import PyProof.ZipIter
import PyProof.Rows.ZipGen
import KE.KIntText
import KE.KMinKey
import PyProof.SetKind
import PyProof.TupleKey
import PyProof.IsRules
import PyProof.Rows.SetFrom
import PyProof.SetRoads
import PyProof.FactsAll.set
import PySem.Challenge.RW_skewread_k62_refused_legs
set_option Elab.async false
set_option linter.all false
set_option maxRecDepth 100000
def qp:Nat->Lean.TSyntax `term->Lean.MacroM (Lean.TSyntax `rcasesPat)
 |0,_=>Lean.Macro.throwUnsupported
 |n+1,t=>match t with
  |`(_)=>`(rcasesPat|_)
  |`(⟨$ts,*⟩)=>do
   let ps<-ts.getElems.mapM fun t=>do
    let p<-qp n t
    `(Lean.Parser.Tactic.rcasesPatLo|$p:rcasesPat)
   `(rcasesPat|⟨$ps,*⟩)
  |`($i:ident)=>`(rcasesPat|$i:ident)
  |_=>Lean.Macro.throwUnsupported
theorem rd{α:Sort u}{a p:α->Prop}{w:α}(h:a w)(k:p w):∃x,a x/\p x:=⟨w,h,k⟩
theorem rd2{α:Sort u}{β:Sort v}{a:α->Prop}{b p:α->β->Prop}{w:α}{y:β}(h:a w)(i:b w y)(k:p w y):∃x,a x/\∃z,b x z/\p x z:=⟨w,h,y,i,k⟩
theorem rd3{α:Sort u}{β:Sort v}{γ:Sort t}{a:α->Prop}{b:α->β->Prop}{c p:α->β->γ->Prop}{w:α}{y:β}{v:γ}(h:a w)(i:b w y)(j:c w y v)(k:p w y v):∃x,a x/\∃z,b x z/\∃q,c x z q/\p x z q:=⟨w,h,y,i,v,j,k⟩
def rdw(t:Lean.TSyntax `term):Nat->Lean.MacroM (Lean.TSyntax `term)
 |0=>pure t
 |1=>`(rd rfl $t)
 |2=>`(rd2 rfl rfl $t)
 |n+3=>do
  let r<-rdw t n
  `(rd3 rfl rfl rfl $r)
def rdb(r:Array (Lean.TSyntax `term)):Lean.MacroM (Lean.TSyntax `term):=if h:r.size=1 then pure r[0] else `(⟨$r,*⟩)
local macro_rules | `(def $n:declId $s:optDeclSig $v:declVal)=>`(noncomputable def $n:declId $s:optDeclSig $v:declVal)
local macro_rules | `(abbrev $n:declId $s:optDeclSig $v:declVal)=>`(noncomputable abbrev $n:declId $s:optDeclSig $v:declVal)
open List renaming getElem?_eq_getElem->Ja,length_map->Jb,prefix_refl->Jc,length_append->Jd,getElem?_eq_some_iff->Jf,map_append->Jg,mem_cons_of_mem->Jh,length_take->Ji,size_toArray->Jk,mem_append_right->Jl,mem_singleton->Jm,mem_cons_self->Jn,getElem?_append_left->Jo,mem_map->Jp,mem_cons->Jq,getElem_mem->Jr,map_cons->Js,take_succ_eq_append_getElem->Jt,getElem_of_mem->Ju,getElem?_map->Jv,getElem?_append_right->Jw,length_cons->Jx,getElem?_set_self->Jz,length_drop->J8,mem_append->Ga,take_length->Gb,take_of_length_le->Gc,append_assoc->Gd,pairwise_map->Ge,mem_of_getElem?->Gg,getElem?_take_of_lt->Gi,getD_eq_getElem?_getD->Gj,length_pos_iff->Gk,map_map->Gm,length_singleton->Gn,prefix_append->Go,not_mem_nil->Gp,length_set->Gq,getElem?_set_ne->Gr,append_nil->Gs,nodup_cons->Gx,lookup_cons->Gy,mem_append_left->Gz,take_append_of_le_length->G0,find?_cons->G2,flatten_cons->G5,getElem_inj->G7,getElem_map->G9,getElem_zip->Ba,length_zip->Bb,filter_append->Bd,replicate_succ->Bf,pairwise_iff_getElem->Bh,drop_eq_getElem_cons->Bi,getElem?_eq_none->Bj,mem_of_mem_take->Bl,take_zero->Bn,length_range->Bp,any_cons->Br,map_take->Bs,any_eq_true->Bt,mem_filter->Bv,length_nil->Bw,reverse_cons->Bx,nodup_append->By,map_drop->B0,take_append_drop->B5,getElem_take->B6,set_append_left->B7,take_succ->B8,take_prefix->Fb,length_reverse->Fc,nodup_nil->Ff,drop_zero->Fg,take_left->Fh,replicate->Co,range->Ef,zipWith->Em,length->Ey,mem_or_eq_of_mem_set->Kc,lookup->Kt,prefix_or_prefix_of_prefix->Ky,ext_getElem?->Kz,getElem?_reverse->K5,length_filter_le->K8,filterMap_cons->Lj,of_mem_zip->Lm,range_succ->Lw,map_nil->Ma,pairwise_cons->Mc,getElem?_take->Mf,push_toArray->Mu,getElem_append_left->Mw,getElem?_replicate->Ja5,map_reverse->Jcp,mem_of_mem_drop->Jdh,getElem_range->Jeh,reverse_perm->Je2,set_set->Jfb,cons_append->Jfh,countP_cons->Jfj,map_snd_zip->Jfk,flatten_nil->Jfm,mem_nil_iff->Jfn,filter_cons->Jfp,forIn_cons->Jf0,filter_nil->Jga,foldl->Jg7,all_cons->Jhl,take->Jh4
open Nat renaming le_refl->Je,lt_of_lt_of_le->Jy,le_trans->J0,ne_of_lt->J9,zero_le->Gf,lt_irrefl->Gw,not_lt_zero->G6,le_of_eq->G8,lt_of_le_of_lt->Bc,le_of_lt->Be,le_succ->Bg,lt_trichotomy->Bz,min_eq_left->B4,lt_succ_self->B9,ne_of_gt->Fe,mul_le_mul->Fi,not_lt->Fj,lt_succ_of_lt->Kx,zero_add->Jfa,min_le_right->Jff,mul_comm->Jhw,sub_zero->Jhy,add_mul->Jim
open Bool renaming false_ne_true->Jj,false_eq_true->G1,and_eq_true->B2,eq_iff_iff->Fd,not_eq_true'->Jev,not_eq_true->Jfo,false_and->Jgf,and_false->Jgr,false_or->Jhm
open Int renaming eq_ofNat_of_zero_le->Gh,emod_lt_of_pos->Gu,emod_nonneg->G3,toNat_natCast->Bo,mul_le_mul_of_nonneg_left->K9,natCast_add->Lq,zero_add->Mb,le_refl->Jb1,le_trans->Jc4,natCast_nonneg->Jej,mul_sub->Jf7,le_of_lt->Jhz,mul_one->Jia,mul_pos->Jij
open Array renaming getElem?_eq_some_iff->Gv,getElem?_setIfInBounds_self->G4,length_toList->Bq,perm_iff_toList_perm->Bu,getD_eq_getD_getElem?->Lo,find?_toList->L7,getD->Jdc,toList_append->Jdr,forIn_toList->Jed,toList->Je3
open Option renaming map_some->B3,isSome_map->Mt,isNone_none->Jeg,getD_none->Jfg,map->Jis
open PySem renaming wpAny_bind->Fk,wpAny_pure->Fl,boot_len->Fw,wpAny_mono->Fx,Shared->Ca,wpAny->Cc,model->Cd,starEach->Ch,World->Ct,wpAny_holding->Cw,wpAny_loadPart_at->C1,sizeLine_eq->C2,wpAny_Call_Name_kw->Ec,compareOp->Eh,wpAny_field->El,wpAny_newObj_type->Eo,Program->Ep,NameKind->Es,rawInt->Et,ExceptHandler->Eu,sysModules->E1,wpAny_truthy_bool->E2,wpAny_execs_nil->E4,wpAny_passesOwn->E5,wpAny_standAt->Ha,codeAny->Hb,mem_of_lookup->Hd,wpAny_getItem_str_slice->He,wpAny_execs_cons->Hg,binaryOp->Hi,tupleKind_room_in1->Hk,Within->Hl,backTo->Hm,noteFrame->Hq,behindInMarks->Hw,bootBuiltins->Kd,wpAny_call->Ke,codeAny_mono->Kf,wpAny_typeOf->Kg,wpAny_comprehension_free->Kh,letOwnedTupleGo->Kj,attributeBase->Kl,getattributeRaised->Ko,foldedSetIterable->Ks,plainObj_wpAny_Assign_Attribute->Ku,sliceBounds->Kv,call_meets->Kw,setFlight->K2,codeAny_call_builtin->Lb,unbindBehindTheSuite->Lc,wpAny_attempt->Le,getItem->Lk,wpAny_Tuple_spliced->Ll,post_val_or_str->Ln,codeAny_builtin->Lp,getAttrByItsOwn->Lr,wpAny_updateSeq->Lu,wpAny_newFunctionEnv_cells->Ly,Around->L6,FuncData->L8,holding->Mh,wpAny_tryCatch->Mj,tupleKind->Ml,swapsWith->Mm,assignEach->Mn,wpAny_pyIter_list->Mo,wpAny_getItem_list_slice->Ms,wpAny_pyNext_tuple_item->Ja1,keywordEach->Ja4,wpAny_callSpecial?_slot->Ja7,subscripted->Ja9,wpAny_letGo->Jb3,wpAny_newList->Jb4,plainId_quiet->Jb6,wpAny_lookBehind->Jb7,pastItsLine_dict->Jb8,wpAny_call_entry->Jb9,wpAny_pyNext_list_item->Jcq,wpAny_pyNext_tuple_end->Jcr,wpAny_isTrue_Compare1->Jc0,wpAny_pyNext_list_end->Jc1,theTreesLotGoes->Jc2,builtinLookup_eq_fast->Jc6,codeAny_handlers_test->Jc7,builtinsNs->Jc9,typeLookup->Jda,wpAny_rule->Jdd,wpAny_loadName_local->Jde,wpAny_setFlight_none->Jdi,Value->Jdn,wpAny_loadName_cell->Jdo,wpAny_isSubtype_exc->Jdt,wpAny_handleBy_cons->Jdu,Str->Jdv,assign->Jdz,pyNext->Jd0,wpAny_pyIter_tuple->Jd1,getMethod->Jd3,Result->Jd4,wpAny_List_spliced->Jd6,bindArgs->Jd7,IsPart->Jd9,evalPart_none->Jeb,getAttr?->Jee,sub_AttributeError->Jef,Addr->Jek,wpAny_Return_some->Jel,wpAny_assign_Name->Jem,wpAny_Assign_Name->Jen,wpAny_load->Jeo,BindsTo->Jeq,wpAny_sequenceKey->Jer,valueAt->Jes,callerA->Jet,isInstance->Jez,excMatches->Je0,wpAny_pyIter_enum->Je1,wpAny_nsSet1->Je4,seqIndex_neg->Je8,wpAny_eqBool_int->Jfc,noFill_tuple_add->Jfe,wpAny_Dict_empty->Jfi,wpAny_pyIter_zip->Jfl,backToKw->Jfq,standAt->Jfu,seqIndex_of->Jfy,Fin->Jf2,codeAmong->Jf4,typeLookup_type->Jf5,getAttrBy->Jf6,codeAny_of_tree->Jf8,Model->Jge,wpAny_Name->Jgs,typeIs_str->Jg5,typeIs_int->Jg6,call->Jg8,closureFor->Jg9,spliced->Jhg,Operator->Jhh,getAttr->Jhj,leaving->Jhk,relabel->Jhn,storeName->Jht,cellsFrom->Jhv,atKey->Jhx,seqItems?->Jh1,CmpOp->Jh7,setItem->Jh9,setAttr->Jib,bindL->Jid,bindC->Jie,operate->Jif,Keyword->Jig,Stmt->Jio,Expr->Jip,Obj->Jiv
open PySem.Heap renaming get?_push_of_some->Fm,get?_push_size->Fn,lt_size->Fo,get?_update_other->Ck,get?_update_self->C7,size_push->Ew,SameBut->E9,get?_none_of_le->La,get?_push_cases->Jdj,MadeExcOf->Jdm,get?_push_ne->Jew,NewExcOf->Jhp
open Option.some renaming inj->Fv,injEq->Jey
open PySem.Value renaming ref->Cb,int->Ea,builtin->Lf,str->Jcz,bool->Jc8,float->Jfs,isStrOf->Jhf,isInt->Jh5,bytes->Jh6,type->Jiq
open Or renaming inl->Cg,inr->Ed
open PyProof.Rows renaming boot_isinstance->Ci,boot_list->Cv,slot_tuple_getitem->Cz,callWith_type1->C5,boot_tuple->Ee,seqObj->Hs,boot_max->Hv,envOfC->Hy,boot_sorted->Ki,boot_dict->Kq,boot_int->K6,boot_min->K7,IntsAre->Mi,AllBare->Ja0,subscriptTail->Ja8,listUpdate_at->Jb2,subscriptTail_builtinR->Jct,boot_bool->Jcy,get?_update_seq->Jc5,Subscript_->Jdb,entry_tuple_getitem->Jdp,Constant_none->Jdy,args_tuple_getitem->Jea,callWith_builtin1->Je7,entry_list_sort->Jf3,size_push'->Jha,join_ones->Jhs,boot_abs->Jh3,lt_int->Jii,gt_int->Jik
open PySem.Str renaming ofString->Cj,empty->Jd5
open PySem.PassesOwn renaming never->Cm,leaving->K0
open PySem.W renaming Frag->Cp,findIn->Cs,kitOne->Eb,mroIn->Ej,looks_mroIn->Hu,kia_one->Ka,instObj->Li,callWith_K->L9,looks_findIn->Me,keepIn->Ja3,fnOf->Jdk,plainGet_of->Jd2,codeIn->Jd8,plainGet->Jep,codeHdIn->Jex,cellsFrom_some->Jfd,methodObj->Jft,hasDictIn->Jfw,set_plain->Jfx,nsIn->Jgb,isNs_of_in->Jhd,typeIn->Jhe,lookIn->Jhi,codeHd_of_K->Jho,takerIn->Jhu,OpenLaw->Jh0,kas_rev->Jih,tabObj->Jin
open False renaming elim->Cq
open Ne renaming symm->Cu
open PySem.Obj renaming mapSeq->Cy,mapFields->Hf,isFreed_of_fields->Ht,data_mapFields->Md
open Sum renaming inl->C0,inr->Mg
open PySem.NameKind renaming free->C3,cell->Ld
open PySem.PyData renaming eqvAll->C4,eqv->C9,int->Hh,strOk->K4,canLayAll0->Mv,depthAll->Jc3,canLay0->Jdl,depth->Je9,list->Jil
open PySem.F renaming plainAttrs_list->C6,plain_max_loop->Ei,slot_list_append->E7,type_list_append->E8,slot_list_extend->Ho,slot_dict_get->K1,args_tuple_add_2->Mr,type_list_extend->Mz,entry_tuple_add->Ja6,args_dict_get_2->Jb0,slot_tuple_add->Jcs,entry_dict_get->Jcv,entry_max_loop->Jcw,plainAttrs_str->Jcx,args_list_extend_2->Jdg,entry_list_extend->Jdq,slot_int_rmul->Jfz
open PySem.Builtin.List renaming listTooLong->C8
open True renaming intro->Eg
open PySem.SeqAt renaming EqAt->Ek,shaped->Hr
open PySem.Heap.SameBut renaming update->Er
open PySem.Builtin.Slice renaming slicePlaces->Ez,sliceAdjust->Kb,sliceApplied->Lz,slicePartIndex->Jfr,sliceFields->Jgq
open PySem.Builtin.Tuple renaming tupleExact->E6,tupleItemsOf->L5,tupleIsExact->Jgc
open PySem.Calls renaming spliced_cons->Hj,Name_function_global->Lx,spliced_nil->Mq,callWith_builtin->Jcu,evalArgs_plain->Jdf
open PySem.Around renaming under_plainId->Hz,under->Je5
open PySem.W.KasT renaming kasWp_bind->Km
open PySem.Code renaming quiet_builtin->Kp,isFrame->Je6,frames->Jic
open Sum.inl renaming inj->Kr
open Sum.inr renaming inj->Lh
open PySem.Builtin.Builtins renaming bindParams->Lv
open PySem.Within renaming cons->Mp
open PySem.AutoSeq1 renaming sub_tuple_tuple->Mx,wpAny_loadPart'->My
open PySem.Builtin.Range renaming rangeSize->Ja2
open PySem.Builtin.Dict renaming updateFrom->Jb5,addKeywords->Jhb,selfAndRest->Jhc,pairItems->Jhr
open PySem.EntryCells renaming newEntry->Jds
open PySem.SeqAt.EqAt renaming int_str->Jdw,str_int->Jdx
open PySem.Heap.IsSliceOf renaming new->Jec
open ToString renaming toString->Jei
open List.Pairwise renaming nil->Jeu,sublist->Jh2
open PySem.Data renaming fields->Jfv
open ForInStep renaming yield->Jf1
open PySem.Builtin.Str renaming strSliceIndices->Jf9,glued->Jit
open List.IsPrefix renaming eq_of_length->Jgd
open PySem.EqNone renaming eq_none_none->Jgg,eq_none_bool->Jgh,eq_bool_none->Jgi,ne_none_none->Jgl,ne_none_bool->Jgm,ne_bool_none->Jgn,eq_none_int->Jgt,eq_none_str->Jgu,eq_int_none->Jgv,eq_str_none->Jgx,ne_none_int->Jgz,ne_none_str->Jg0,ne_int_none->Jg1,ne_str_none->Jg3
open PySem.EqMixed renaming eq_bool_str->Jgj,eq_str_bool->Jgk,ne_bool_str->Jgo,ne_str_bool->Jgp,eq_int_str->Jgw,eq_str_int->Jgy,ne_int_str->Jg2,ne_str_int->Jg4
open PySem.Shared renaming TypeIs->Jhq
open PySem.CmpOp renaming NotIn->Jh8
open PySem.W.WShape renaming has->Jir
open List.Sublist renaming refl->Jiu
open PySem.Heap.DictOf renaming new->Jiw
open PySem.W.WData renaming int->Jix
theorem Fp:type_of% @if_neg:=@if_neg
theorem Fs:type_of% @if_pos:=@if_pos
theorem Ft:type_of% @decide_eq_true:=@decide_eq_true
theorem Fu:type_of% @decide_eq_false:=@decide_eq_false
local macro_rules | `(tactic| rfl')=>`(tactic| refine ⟨rfl,rfl,rfl,?_,rfl,?_,?_⟩<;>decide +kernel)
local macro_rules | `(nofun)=>`(term| by decide)
local macro_rules | `(tactic| exists $es,*)=>do
 let mut a:Array (Lean.TSyntax `term):=#[]
 for e in es.getElems do
  if e.raw.isOfKind ``Lean.Parser.Term.cdot then a:=a++#[<-`(_),<-`(rfl)] else a:=a.push e
 let mut r:Array (Lean.TSyntax `term):=#[]
 let mut c:=0
 for e in es.getElems.reverse do
  if e.raw.isOfKind ``Lean.Parser.Term.cdot then
   if r.isEmpty then r:=#[<-`(_),<-`(rfl)] else c:=c+1
  else if c=0 then r:=#[e]++r
  else
   r:=#[e,<-rdw (<-rdb r) c]
   c:=0
 let t<-rdw (<-rdb r) c
 `(tactic| first | refine $t | refine ⟨$a,*⟩)
local macro_rules |`(tactic|let $d:letDecl)=>match d with
 |`(Lean.Parser.Term.letDecl|$p:term:=$e:term)=>do
  let q<-qp 9 p
  `(tactic|obtain $q:rcasesPat:=$e:term)
 |_=>`(tactic|have $d:letDecl)
local macro_rules |`(())=>`(by lia)
variable{s:Ca}{C ea b l Pt dx Zm it fI Zq Zu tp Cl:Jek}{α α' fp ch:List Jek}{pos pos' apos:PySem.Pos}{pq:List (Jek×Jiv)}{fd:PySem.FuncData}{A:PySem.Around}{K:PySem.W.Frag}{P prog:PySem.Program}{E:Jdn->Ca->Prop}{h h':PySem.Heap}{mg mA:Jdv->Option Jdn}{ps N T:List Jdv}{ts ns:List Int}{cs:List Nat}{τ κ β:Type}{j t' pl x1 pa pb:Nat}{us its:List Jdn}{st b0:Jio}{es ifs elts:List Jip}{tg iter elt value:Jip}{qual name:Jdv}{oe ox:Jiv}{way:List (Jdv×Jdv)}{ws:List (List Int)}{body:List Jio}{B:Prop}{lo:Int}{cd pm:Jdn}{hi:Option Int}{T0:Option Jek}
namespace L2
open PySem PySem.Spec PyProof.Rows
abbrev Key:=Sum Int Str
def Za9:Key->Value->Bool
 |.inl k,v=>Jh5 k v
 |.inr x,v=>Jhf x v
def keyH(w:Ct):Key->Int
 |.inl k=>hashInt k
 |.inr x=>hashStr w x
theorem Yj:∀{k:Key}{v:Value},Za9 k v=true->(∃i t,k=C0 i/\v=Ea i t)\/(∃x t,k=Mg x/\v=Jcz x t)
 |.inl i,v,h=>by
  let⟨t,e⟩:=Value.isInt_shape (k:=i) (v:=v) h;exact .inl ⟨i,t,rfl,e⟩
 |.inr x,v,h=>by
  let⟨t,e⟩:=Value.isStrOf_shape (x:=x) (v:=v) h;exact .inr ⟨x,t,rfl,e⟩
def Zh9(i:Int)(t:Tok):Za9 (.inl i) (.int i t)=true:=by simp[Za9,Jh5]
def Zh8(x:Str)(t:Tok):Za9 (.inr x) (.str x t)=true:=by simp[Za9,Jhf]
def Zr3(a b:Int):decide ((C0 a:Key)=C0 b)=(a==b):=by
 by_cases e:a=b
 .subst e;simp
 .let h:¬ (C0 a:Key)=C0 b:=λq=>e (Kr q);rw[Fu h];exact(beq_eq_false_iff_ne.mpr e).symm
def Zr0(a b:Str):decide ((Mg a:Key)=Mg b)=decide (a=b):=by
 by_cases e:a=b
 .subst e;simp
 .let h:¬ (Mg a:Key)=Mg b:=λq=>e (Lh q);rw[Fu h,Fu e]
def Zr2(a:Int)(b:Str):decide ((C0 a:Key)=Mg b)=false:=Fu (λq=>nomatch q)
def Zr1(a:Str)(b:Int):decide ((Mg a:Key)=C0 b)=false:=Fu (λq=>nomatch q)
def Yx(prog:Ep)(w:Ct):PySem.KeyKind prog w Key where
 is:=Za9
 hash:=keyH w
 inj:=λv a b ha hb=>by
  rcases Yj ha with⟨i,t,rfl,rfl⟩|⟨x,t,rfl,rfl⟩
  .rcases Yj hb with⟨j,u,rfl,e⟩|⟨y,u,rfl,e⟩
   .injection e with e1 _;rw[e1]
   .exact nomatch e
  .rcases Yj hb with⟨j,u,rfl,e⟩|⟨y,u,rfl,e⟩
   .exact nomatch e
   .injection e with e1 _;rw[e1]
 byValue:=λk v h=>by
  rcases Yj h with⟨i,t,rfl,rfl⟩|⟨x,t,rfl,rfl⟩<;>rfl
 pyHash:=λhv h=>by
  rcases Yj hv with⟨i,t,rfl,rfl⟩|⟨x,t,rfl,rfl⟩
  .exact wpAny_pyHash_int h
  .exact wpAny_pyHash_str h
 eqBool:=λhu hv h=>by
  rcases Yj hu with⟨i,t,rfl,rfl⟩|⟨x,t,rfl,rfl⟩
  .rcases Yj hv with⟨j,u,rfl,rfl⟩|⟨y,u,rfl,rfl⟩
   .rw[Zr3]at h;exact Jfc h
   .rw[Zr2]at h;exact Jdw i t y u _ _ _ _ h
  .rcases Yj hv with⟨j,u,rfl,rfl⟩|⟨y,u,rfl,rfl⟩
   .rw[Zr1]at h;exact Jdx x t j u _ _ _ _ h
   .rw[Zr0]at h;exact wpAny_eqBool_str h
 «strs»:=λk x t v h=>by
  rcases Yj h with⟨i,u,rfl,e⟩|⟨y,u,rfl,e⟩
  .exact nomatch e
  .injection e with e1 _
   subst e1;cases v<;>rfl
def Zcw(prog:Ep)(w:Ct)(i:Int)(t:Tok):(Yx prog w).is (.inl i) (.int i t)=true:=Zh9 i t
def Zcv(prog:Ep)(w:Ct)(x:Str)(t:Tok):(Yx prog w).is (.inr x) (.str x t)=true:=Zh8 x t
inductive V where
 |non|bl (b:Bool)|int (i:Int)|str (x:Str)|byt (b:Array UInt8)|flt (b:UInt64)|ref (a:Addr)|ty (n:String)
 deriving DecidableEq
variable{v:L2.V}{vs xs ys:List L2.V}{kvs:List (List L2.Key×L2.V)}
def RelV:V->Value->Prop
 |.non,u=>u=Value.none
 |.bl b,u=>u=Jc8 b
 |.int i,u=>∃t,u=Ea i t
 |.str x,u=>∃t,u=Jcz x t
 |.byt b,u=>∃t,u=Jh6 b t
 |.flt b,u=>∃t,u=Jfs b t
 |.ref a,u=>u=Cb a
 |.ty n,u=>u=Jiq n
abbrev Vals:List V->List Value->Prop:=Paired RelV
def Vals.length(r:Vals xs us):xs.length=us.length:=Paired.length r
theorem Vals.get:∀{xs:List V}{us:List Value}{i:Nat}{x:V},Vals xs us->xs[i]?=some x->∃u,us[i]?=some u/\RelV x u
 |_,_,_,_,.nil,e=>by simp at e
 |_,_,0,_,.cons r _,e=>by simp at e;subst e;exists ·,r
 |_,_,i+1,x,.cons _ t,e=>by
  let⟨u,h1,h2⟩:=Vals.get (i:=i) (x:=x) t (by simpa using e);exists u,by simpa using h1,h2
theorem Vals.set{x:V}{u:Value}(r:RelV x u):∀{xs:List V}{us:List Value}(i:Nat),Vals xs us->Vals (xs.set i x) (us.set i u)
 |_,_,_,.nil=>.nil
 |_,_,0,.cons _ t=>.cons r t
 |_,_,i+1,.cons q t=>.cons q (Vals.set r i t)
theorem Vals.append:∀{xs ys:List V}{us ws:List Value},Vals xs us->Vals ys ws->Vals (xs++ys) (us++ws):=by
 intro _ _ _ _ hz9 s;cases hz9 with
 |nil=>
  exact s
 |cons r t=>
  exact .cons r (Vals.append t s)
theorem Vals.take:∀{xs:List V}{us:List Value}(n:Nat),Vals xs us->Vals (xs.take n) (us.take n)
 |_,_,0,_=>.nil
 |_,_,_+1,.nil=>.nil
 |_,_,n+1,.cons r t=>.cons r (Vals.take n t)
theorem Vals.drop:∀{xs:List V}{us:List Value}(n:Nat),Vals xs us->Vals (xs.drop n) (us.drop n)
 |_,_,0,r=>r
 |_,_,_+1,.nil=>.nil
 |_,_,n+1,.cons _ t=>Vals.drop n t
def RelO:Option V->Option Value->Prop
 |some v,some u=>RelV v u
 |none,none=>True
 |_,_=>False
def KV :List (κ×V)->List (κ×Value)->Prop:=Paired λ(p:κ×V)(q:κ×Value)=>p.1=q.1/\RelV p.2 q.2
def kV:Key->V
 |.inl i=>.int i
 |.inr x=>.str x
def V5(h:Heap)(a:Addr)(items:Array Value):Prop:=∃o,h.get? a=some o/\o.cls=.type "tuple"/\∃n,o.data=.seq items n/\o.dict=none
def V5.tup{h:Heap}{a:Addr}{items:Array Value}(x:V5 h a items):IsTup h a items:=let⟨o,e,c,n,d,_⟩:=x;⟨o,e,c,n,d⟩
def V5.new(h:Heap)(items:Array Value):V5 (h.push {cls:=.type "tuple",data:=.seq items}) h.objs.size items:=⟨_,Fn _ rfl,rfl,_,rfl,rfl⟩
def V5.lt{a:Addr}{items:Array Value}(x:V5 h a items):a<h.objs.size:=let⟨_,e,_⟩:=x;Fo e
inductive HO where
 |lst (xs:List V)
 |tup (xs:List V)
 |dK (kvs:List (Key×V))|dT (kvs:List (List Key×V))
 |set (S:Int->Bool) (n:Nat)
 |ins (C dx:Addr) (fs:List (Str×V))
 |own (x:Addr)
 |xd (fs:List (Str×V))
 |met (f x:Addr)
 |rng (lo hi:Int)
 |frz (o:Obj) (u:HO)
 |tbl (ps:Array Value)
 |ext (φ:Heap->Prop)
variable{o:L2.HO}
abbrev Hp:=Addr->Option HO
variable{H I H' I' H1 H2:L2.Hp}
def upd(H:Hp)(a:Addr)(o:HO):Hp:=λb=>if b=a then some o else H b
def Zg{a:Addr} :upd H a o a=some o:=by unfold upd;rw[if_pos rfl]
def Zl{a:Addr}(h:b≠a):upd H a o b=H b:=by unfold upd;rw[if_neg h]
def Zf3{a:Addr}{u:HO}:upd (upd H a o) a u=upd H a u:=by
 funext b;unfold upd;split<;>rfl
def X1{a:Addr}{u:HO}(h:H a=some o)(h':H b=some u)(d:o≠u):a≠b:=by
 intro e;subst e;rw[h]at h';exact d (Fv h')
def Zr{a:Addr}(h:H a=some o)(h':H b=none):a≠b:=by
 intro e;subst e;rw[h]at h';cases h'
section
variable(P:Ep)(w:Ct)
def Yt(H:Hp)(h:Heap)(a:Addr):HO->Prop
 |.lst xs=>xs.length<=sizeLine/\∃(its:List Value)(n:Nat),Vals xs its/\h.get? a=some {cls:=.type "list",data:=.seq its.toArray n}
 |.tup xs=>xs.length<=sizeLine/\∃its:List Value,Vals xs its/\V5 h a its.toArray
 |.dK kvs=>kvs.length<=sizeLine/\(a==E1)=false/\∃vs,KV kvs vs/\h.DictOf (Yx P w) a vs
 |.dT kvs=>kvs.length<=sizeLine/\(a==E1)=false/\∃xs:List (List Key×Addr×Value),
   Paired (λ(p:List Key×V)(q:List Key×Addr×Value)=>p.1=q.1/\H q.2.1=some (.tup (p.1.map kV))/\RelV p.2 q.2.2) kvs xs /\
   ∃o es ep,h.get? a=some o/\o.ExactDict/\o.data=.dict es ep/\es.toList=xs.map (entryOfKey (Ml (Yx P w)))/\(xs.map (·.1)).Nodup
 |.set S n=>h.SetOf (intKind P w) a S n
 |.ins C dx fs=>H dx=some (.own a)/\fs.length<=1000/\dx≠a/\h.get? a=some (Li C dx) /\
   ∃mA,h.Ns1 dx mA/\(∀f,RelO (fs.lookup f) (mA f))/\Hl mA (fs.map (·.1))
 |.own _=>∃o,h.get? a=some o
 |.xd fs=>∃mA,h.Ns1 a mA/\∀f,RelO (fs.lookup f) (mA f)
 |.rng lo hi=>∃t u v,h.get? a=some {cls:=.type "range",data:=.fields #[.int lo t,.int hi u,.int 1 v]}
 |.frz o u=>h.get? a=some o/\Yt H h a u
 |.tbl ps=>h.get? a=some {cls:=.none,data:=.fields ps}
 |.met f x=>h.get? a=some (Jft (.ref f) (.ref x))
 |.ext φ=>φ h/\(∃o,h.get? a=some o)/\∀h1 h2:Heap,φ h1->(∀o,h1.get? a=some o->h2.get? a=some o)->φ h2
def HOk(H:Hp)(h:Heap):Prop:=∀a o,H a=some o->Yt P w H h a o
end
section
variable{w:Ct}{a:Addr} 
theorem Yt.lt(x:Yt P w H h a o):a<h.objs.size:=by
 cases o with
 |lst xs=>obtain⟨_,_,_,_,e⟩:=x;exact Fo e
 |tup xs=>obtain⟨_,_,_,p⟩:=x;exact p.lt
 |dK kvs=>obtain⟨_,_,_,_,o,_,_,e,_⟩:=x;exact Fo e
 |dT kvs=>obtain⟨_,_,_,_,o,_,_,e,_⟩:=x;exact Fo e
 |set S n=>obtain⟨o,_,_,_,e,_⟩:=x;exact Fo e
 |ins C dx fs=>obtain⟨_,_,_,e,_⟩:=x;exact Fo e
 |own y=>obtain⟨_,e⟩:=x;exact Fo e
 |xd fs=>obtain⟨_,⟨_,_,_,e,_⟩,_⟩:=x;exact Fo e
 |rng lo hi=>obtain⟨_,_,_,e⟩:=x;exact Fo e
 |frz ob u=>obtain⟨e,_⟩:=x;exact Fo e
 |tbl ps=>exact Fo (show h.get? a=some _ from x)
 |met f y=>exact Fo (show h.get? a=some _ from x)
 |ext φ=>obtain⟨_,⟨_,e⟩,_⟩:=x;exact Fo e
theorem Paired.mapP{α:Type}{F G:α->β->Prop}:∀{l₁:List α}{l₂:List β},Paired F l₁ l₂->(∀a b,F a b->G a b)->Paired G l₁ l₂
 |_,_,.nil,_=>.nil
 |_,_,.cons r t,f=>.cons (f _ _ r) (Paired.mapP t f)
theorem Yt.stay(x:Yt P w H h a o)(k:∀b u,(b=a\/H b=some (.own a))->h.get? b=some u->h'.get? b=some u)(ho:∀b,H b=some (.own a)->H' b=some (.own a))(ht:∀b xs,H b=some (.tup xs)->H' b=some (.tup xs)):Yt P w H' h' a o:=by
 induction o with
 |lst xs=>obtain⟨z,its,n,r,e⟩:=x;exists z,its,n,r,k _ _ (.inl rfl) e
 |tup xs=>obtain⟨z,its,r,ob,e,c⟩:=x;exists z,its,r,ob,k _ _ (.inl rfl) e,c
 |dK kvs=>obtain⟨z,y,vs,r,ob,es,ep,e,c⟩:=x;exists z,y,vs,r,ob,es,ep,k _ _ (.inl rfl) e,c
 |dT kvs =>
  let⟨z,y,xs,r,ob,es,ep,e,c⟩:=x;exists z,y,xs,Paired.mapP r λp q z=>⟨z.1,ht _ _ z.2.1,z.2.2⟩,ob,es,ep,k _ _ (.inl rfl) e,c
 |set S n=>obtain⟨ob,es,ep,t,e,c⟩:=x;exists ob,es,ep,t,k _ _ (.inl rfl) e,c
 |ins C dx fs =>
  let⟨d,z,ne,e,mA,⟨od,es,ep,e2,c⟩,r⟩:=x;exists ho _ d,z,ne,k _ _ (.inl rfl) e,mA,⟨od,es,ep,k _ _ (.inr d) e2,c⟩,r
 |own y=>obtain⟨ob,e⟩:=x;exists ob,k _ _ (.inl rfl) e
 |xd fs=>obtain⟨mA,⟨od,es,ep,e,c⟩,r⟩:=x;exists mA,⟨od,es,ep,k _ _ (.inl rfl) e,c⟩,r
 |rng lo hi=>obtain⟨t,u,v,e⟩:=x;exists t,u,v,k _ _ (.inl rfl) e
 |frz ob u ih=>obtain⟨e,q⟩:=x;exists k _ _ (.inl rfl) e,ih q
 |tbl ps =>
  let e:h.get? a=some {cls:=.none,data:=.fields ps}:=x;show h'.get? a=some {cls:=.none,data:=.fields ps};exact k a _ (.inl rfl) e
 |met f y =>
  let e:h.get? a=some (Jft (.ref f) (.ref y)):=x;show h'.get? a=some (Jft (.ref f) (.ref y));exact k a _ (.inl rfl) e
 |ext φ=>obtain⟨p,⟨o,e⟩,st⟩:=x;exists st _ _ p λo q=>k _ _ (.inl rfl) q,⟨o,k _ _ (.inl rfl) e⟩,st
def HOk.lt(x:HOk P w H h)(e:H a=some o):a<h.objs.size:=(x a o e).lt
theorem HOk.fresh(x:HOk P w H h)(e:h.objs.size<=a):H a=none:=by
 cases q:H a with
 |none=>rfl
 |some u=>exact absurd (Jy (x.lt q) e) (Gw _)
def HOk.kept(x:HOk P w H h)(k:∀b u,h.get? b=some u->h'.get? b=some u):HOk P w H h':=λa o e =>
 (x a o e).stay (λb u _ q=>k b u q) (λ_ q=>q) λ_ _ q=>q
def HOk.laid(x:HOk P w H h)(k:∀b u,h.get? b=some u->h'.get? b=some u)(hp:h.objs.size<=a)(new:Yt P w (upd H a o) h' a o):HOk P w (upd H a o) h':=λb u e=>by
 let hn:=x.fresh hp
 by_cases hb:b=a
 .subst hb;rw[Zg]at e;cases e;exact new
 .rw[Zl hb]at e;exact(x b u e).stay (λc v _ q=>k c v q) (λc q=>by rw[Zl (Zr q hn)];exact q) λc xs q=>by rw[Zl (Zr q hn)];exact q
end
def Rd(H:Hp)(a:Addr)(u:HO):Prop:=H a=some u\/∃o,H a=some (.frz o u)
def Rd.ok{w:Ct}{a:Addr}{u:HO}(r:Rd H a u)(x:HOk P w H h):Yt P w H h a u:=by
 rcases r with r|⟨o,r⟩
 .exact x a u r
 .let⟨_,q⟩:=x a _ r;exact q
def Mut:Option HO->Prop
 |some (.lst _)=>True
 |some (.dK _)=>True
 |some (.dT _)=>True
 |some (.set _ _)=>True
 |some (.ins _ _ _)=>True
 |some (.ext _)=>True
 |_=>False
section
variable{w:Ct}{x e:Addr}{o':HO}
def HOk.write(ok:HOk P w H h)(mu:Mut (H x))(he:e=x\/H e=some (.own x))(k:∀b u,b≠e->h.get? b=some u->h'.get? b=some u)(heo:∃u,h'.get? e=some u)(new:Yt P w (upd H x o') h' x o'):HOk P w (upd H x o') h':=λb u q=>by
 let nown:∀c y,H c=some (.own y)->c≠x:=λc y r z=>by subst z;rw[r]at mu;exact mu
 let ntup:∀c xs,H c=some (.tup xs)->c≠x:=λc xs r z=>by subst z;rw[r]at mu;exact mu
 by_cases hb:b=x
 .subst hb;rw[Zg]at q;cases q;exact new
 .rw[Zl hb]at q
  by_cases hbe:b=e
  .let q':H b=some (.own x):=by
    rcases he with z|z
    .exact absurd (hbe.trans z) hb
    .rw[hbe];exact z
   rw[q]at q';cases q';let⟨v,hv⟩:=heo;exact⟨v,by rw[hbe];exact hv⟩
  .refine(ok b u q).stay (λc v hc r=>k c v ?_ r) (λc r=>by rw[Zl (nown c b r)];exact r) λc xs r=>by rw[Zl (ntup c xs r)];exact r
   rcases hc with rfl|hc
   .exact hbe
   .rintro rfl;rcases he with z|z
    .exact nown c b hc z
    .rw[hc]at z;cases z;exact hb rfl
end
structure Un(fs ex:List Addr)(H H':Hp)(h h':Heap):Prop where
 keep:∀b o,h.get? b=some o->H b=none->b∉fs->b∉ex->h'.get? b=some o
 slot:∀b o,h.get? b=some o->H b=none->b∈fs->b∉ex->∃sl,h'.get? b=some {o with slots:=sl}
 free:∀b o,h.get? b=some o->H b=none->b∉ex->H' b=none
 there:∀b o,h.get? b=some o->b∉ex->∃o',h'.get? b=some o'
 tups:∀b xs,H b=some (.tup xs)->H' b=some (.tup xs)
 frzs:∀b o u,H b=some (.frz o u)->H' b=some (.frz o u)
 tbls:∀b ps,H b=some (.tbl ps)->∃more,H' b=some (.tbl (ps++more))
section
variable{fs ex:List Addr}{h1:Heap}{a x e:Addr} 
def Un.any(u:Un fs ex H H1 h h1){ob:Obj}(q:h.get? b=some ob)(n:H b=none)(hx:b∉ex):∃sl,h1.get? b=some {ob with slots:=sl}:=by
 by_cases hb:b∈fs
 .exact u.slot b ob q n hb hx
 .exists ob.slots,u.keep b ob q n hb hx
def Un.kept(k:∀b u,h.get? b=some u->h'.get? b=some u):Un fs ex H H h h' :=
 ⟨λb ob q _ _ _=>k b ob q,λb ob q _ _ _=>⟨ob.slots,k b ob q⟩,λ_ _ _ n _=>n,λb ob q _=>⟨ob,k b ob q⟩,λ_ _ q=>q,λ_ _ _ q=>q,λ_ ps q=>⟨#[],by rw[q];simp⟩⟩
def Un.refl:Un fs ex H H h h:=Un.kept λ_ _ q=>q
def Un.laid(k:∀b u,h.get? b=some u->h'.get? b=some u)(hp:h.objs.size<=a)(hn:H a=none):Un fs ex H (upd H a o) h h' where
 keep:=λb u q _ _ _=>k b u q
 slot:=λb u q _ _ _=>⟨u.slots,k b u q⟩
 free:=λb u q n _=>by rw[Zl (J9 (Jy (Fo q) hp))];exact n
 there:=λb u q _=>⟨u,k b u q⟩
 tups:=λb xs q=>by rw[Zl (Zr q hn)];exact q
 frzs:=λb u xs q=>by rw[Zl (Zr q hn)];exact q
 tbls:=λb ps q=>⟨#[],by rw[Zl (Zr q hn),q];simp⟩
def Un.write(mu:Mut (H x))(he:e=x\/H e=some (.own x))(k:∀b u,b≠e->h.get? b=some u->h'.get? b=some u)(heo:∃u,h'.get? e=some u):Un fs ex H (upd H x o) h h':=by
 let hx:∀b,H b=none->b≠x:=λb n z=>by subst z;rw[n]at mu;exact mu
 let hb:∀b,H b=none->b≠e:=λb n z=>by
  subst z;rcases he with r|r
  .exact hx b n r
  .rw[n]at r;cases r
 let hm:∀b u,H b=some u->¬ Mut (some u)->b≠x:=λb u q nm z=>by subst z;rw[q]at mu;exact nm mu
 refine⟨λb u q n _ _=>k b u (hb b n) q,λb u q n _ _=>⟨u.slots,k b u (hb b n) q⟩,λb u q n _=>by rw[Zl (hx b n)];exact n,λb u q _=>?_,
  λb xs q=>by rw[Zl (hm b _ q λz=>z)];exact q,λb u xs q=>by rw[Zl (hm b _ q λz=>z)];exact q,λb ps q=>⟨#[],by rw[Zl (hm b _ q λz=>z),q];simp⟩⟩
 by_cases hbe:b=e
 .subst hbe;exact heo
 .exists u,k b u hbe q
end
def trk(h:Heap)(H:Hp):List Addr:=(Ef h.objs.size).filter λa=>(H a).isSome
def hidT(h:Heap)(H:Hp):Heap:=W.hideAll h (trk h H)
def Zin(h:Heap)(H:Hp):(hidT h H).objs.size=h.objs.size:=W.hideAll_size _ _
def Zlf{o:Obj}(e:h.get? b=some o)(n:H b=none):(hidT h H).get? b=some o :=
 W.hideAll_get _ e λhm=>by
  let q:(H b).isSome=true:=(Bv.mp hm).2;rw[n]at q;simp at q
theorem Zoc{o:Obj}(e:(hidT h H).get? b=some o):h.get? b=some o/\H b=none:=by
 let e':h.get? b=some o:=W.of_hideAll (trk h H) e;exists e',?_;cases q:H b with
 |none=>rfl
 |some x =>
  let hm:b∈trk h H:=Bv.mpr ⟨List.mem_range.mpr (Fo e'),by simp[q]⟩;let z:(hidT h H).get? b=none:=W.hideAll_none (trk h H) hm;rw[z]at e;cases e
structure Mod(K:Cp)(mg:Str->Option Value)(base:Heap):Prop where
 kin:K.In base
 glob:base.Ns mainGlobals mg
 blt:∃mb,base.Ns Jc9 mb/\∀x:Str,x≠"__name__"->mb x=Kd x
 nolimit:base.NoLimit
structure Cx where
 prog:Ep
 w:Ct
 K:Cp
 mg:Str->Option Value
 base:Heap
 A:L6
 N:List Str
 s₀:Ca
 H₀:Hp
 env:Env
 outer:List Env
 stack:List Env
 ex:List Addr
 fn:Str->Bool
 calm:Bool
 pn:List (Addr×Obj)
 xe:Value->Ca->Prop
variable{X:L2.Cx}
def frs(l:List Env):List Addr:=l.filterMap (·.frame)
abbrev Cx.fs(X:Cx):List Addr:=frs X.outer
def Vis(sc:Scope)(x:Str):Prop:=sc.names.lookup x=some .local\/sc.names.lookup x=some .cell\/sc.names.lookup x=some .free
def Loc(sc:Scope)(x:Str):Prop:=sc.names.lookup x=some .local\/sc.names.lookup x=some .cell
def Look(env:Env)(h:Heap)(m:Str->Option Value)(x:Str)(u:Value):Prop :=
 (env.kindOf x=some .local/\m x=some u)\/((env.kindOf x=some .cell\/env.kindOf x=some .free)/\∃c,env.cells.lookup x=some c/\h.IsCell c (some u))
structure Cx.Ok(X:Cx):Prop where
 mod:Mod X.K X.mg X.base
 kind:X.env.scope.kind=.function
 glob:X.env.globals=mainGlobals
 blt:X.env.builtins=Jc9
 above:X.s₀.heap.objs.size<=X.env.locals
 inj:∀x y c,X.env.cells.lookup x=some c->X.env.cells.lookup y=some c->x=y
 has:∀x,(X.env.kindOf x=some .cell\/X.env.kindOf x=some .free)->∃c,X.env.cells.lookup x=some c
 cab:∀x c,X.fn x=true->X.env.cells.lookup x=some c->X.s₀.heap.objs.size<=c
 hd:X.calm=true->X.A.handled=none
 frames:X.A.frames=some X.stack
 stk:X.stack=X.outer\/(X.stack=X.env::X.outer/\X.env.frame=some X.env.locals)
 exf:∀b∈X.ex,b≠X.env.locals/\∀x c,X.env.cells.lookup x=some c->c≠b
 bs:∀b o,X.base.get? b=some o->X.s₀.heap.get? b=some o/\X.H₀ b=none
 bsz:X.base.objs.size<=X.s₀.heap.objs.size
 noex:∀b o,X.base.get? b=some o->b∉X.ex
 exfs:∀b∈X.ex,b∉X.fs
 funs:X.s₀.heap.FunFrames X.base X.outer
 frf:∀b∈X.fs,X.H₀ b=none
structure Inv(X:Cx)(pq:List (Addr×Obj))(σ:List (Option V))(H:Hp)(s:Ca):Prop where
 ok:X.Ok
 os:s.os=X.s₀.os
 bare:Ja0 s.gens
 base:Un X.fs X.ex X.H₀ H X.s₀.heap s.heap
 loc:∃m,s.heap.Ns X.env.locals m/\∀(i:Nat)(x:Str)(v:V),X.N[i]?=some x->σ[i]?=some (some v)->Vis X.env.scope x->∃u,RelV v u/\Look X.env s.heap m x u
 cell:∀x c,X.env.cells.lookup x=some c->∃v,s.heap.IsCell c v
 free:H X.env.locals=none
 freeC:∀x c,X.env.cells.lookup x=some c->H c=none
 pin:∀p∈X.pn++pq,s.heap.get? p.1=some p.2/\H p.1=none/\p.1≠X.env.locals/\p.1∉X.fs/\∀v,p.2.data≠.cell v
 hok:HOk X.prog X.w H s.heap
 len:σ.length=X.N.length
section
variable{σ:List (Option V)} 
def Cx.Ok.nofr(ok:X.Ok){o:Obj}(e:X.base.get? b=some o):b∉X.fs:=λhb=>by
 let:=(ok.funs.mem hb).1;rw[e]at this;cases this
def Inv.bs(I:Inv X pq σ H s):∀b o,X.base.get? b=some o->s.heap.get? b=some o/\H b=none:=λb o e =>
 ⟨I.base.keep b o (I.ok.bs b o e).1 (I.ok.bs b o e).2 (I.ok.nofr e) (I.ok.noex b o e),I.base.free b o (I.ok.bs b o e).1 (I.ok.bs b o e).2 (I.ok.noex b o e)⟩
def Inv.bk(I:Inv X pq σ H s):∀b o,X.base.get? b=some o->s.heap.get? b=some o:=λb o e=>(I.bs b o e).1
def Inv.mod(I:Inv X pq σ H s):Mod X.K X.mg X.base:=I.ok.mod
def Inv.kIn(I:Inv X pq σ H s):X.K.In s.heap:=I.ok.mod.kin.keeps I.bk
def Inv.lt(I:Inv X pq σ H s):X.env.locals<s.heap.objs.size:=let⟨_,hn,_⟩:=I.loc;hn.lt
def Inv.sz(I:Inv X pq σ H s):X.s₀.heap.objs.size<=s.heap.objs.size:=J0 I.ok.above (Be I.lt)
def Inv.nofs(I:Inv X pq σ H s){a:Addr}(h:s.heap.objs.size<=a):a∉X.fs:=λhb=>by
 let⟨_,o,ho,_⟩:=I.ok.funs.mem hb;exact absurd (Jy (Fo ho) (J0 I.sz h)) (Gw _)
def Inv.cne(I:Inv X pq σ H s):∀x c,X.env.cells.lookup x=some c->c≠X.env.locals:=λx c e z=>by
 let⟨v,o,ho,hd⟩:=I.cell x c e;let⟨m,⟨o',es,ep,ho',hd',_⟩,_⟩:=I.loc;rw[z,ho']at ho;cases ho;rw[hd']at hd;cases hd
def Inv.funs(I:Inv X pq σ H s):s.heap.FunFrames X.base X.outer:=by
 let all:∀(l:List Env),(∀b∈frs l,b∈X.fs)->X.s₀.heap.FunFrames X.base l->s.heap.FunFrames X.base l:=by
  intro l
  induction l with
  |nil=>intro _ _;trivial
  |cons env r ih =>
   intro hs hl;let⟨hk,⟨L,o,hf,hn,ho,hd⟩,hr⟩:=hl;let hL:L∈X.fs:=hs L (by unfold frs;rw[Lj,hf];exact List.mem_cons_self);let⟨sl,e⟩:=I.base.slot L o ho (I.ok.frf L hL) hL λz=>I.ok.exfs L z hL;exists hk,⟨L,_,hf,hn,e,hd⟩,ih (λb hb=>hs b (by unfold frs;rw[Lj,hf];exact List.mem_cons_of_mem _ hb)) hr
 exact all X.outer (λ_ hb=>hb) I.ok.funs
def Inv.stack(I:Inv X pq σ H s):s.heap.FunFrames X.base X.stack:=by
 rcases I.ok.stk with e|⟨e,hf⟩
 .rw[e];exact I.funs
 .rw[e];let⟨m,hn,_⟩:=I.loc;refine .cons (by rw[I.ok.kind];decide) hf hn ?_ I.funs;exact La (J0 I.ok.bsz I.ok.above)
def Inv.stkSub(I:Inv X pq σ H s):∀b∈frs X.stack,b∈X.env.locals::X.fs:=λb hb=>by
 rcases I.ok.stk with e|⟨e,hf⟩
 .rw[e]at hb;exact Jh _ hb
 .rw[e]at hb;unfold frs at hb;rw[Lj,hf]at hb;exact hb
def Inv.stkFree(I:Inv X pq σ H s):∀b∈frs X.stack,H b=none:=λb hb=>by
 rcases Jq.mp (I.stkSub b hb)with e|hb
 .rw[e];exact I.free
 .let⟨_,o,ho,_⟩:=I.ok.funs.mem hb;exact I.base.free b o ho (I.ok.frf b hb) λz=>I.ok.exfs b z hb
def Inv.step{g':Array GenState}{d':Drawn}(I:Inv X pq σ H s)(hch:∀b∈ch,(b∈X.ex\/X.s₀.heap.objs.size<=b)/\b≠X.env.locals/\(∀x c,X.env.cells.lookup x=some c->c≠b)/\∀p∈X.pn++pq,p.1≠b)(keep:∀b o,b≠X.env.locals->b∉X.fs->b∉ch->s.heap.get? b=some o->H b=none->h'.get? b=some o)(slot:∀b o,b≠X.env.locals->b∈X.fs->b∉ch->s.heap.get? b=some o->H b=none->∃sl,h'.get? b=some {o with slots:=sl})(free:∀b o,b∉ch->s.heap.get? b=some o->H b=none->H' b=none)(there:∀b o,b∉ch->s.heap.get? b=some o->∃o',h'.get? b=some o')(tups:∀b xs,H b=some (.tup xs)->H' b=some (.tup xs))(frzs:∀b o u,H b=some (.frz o u)->H' b=some (.frz o u))(tbls:∀b ps,H b=some (.tbl ps)->∃more,H' b=some (.tbl (ps++more)))(ns:∀m,s.heap.Ns X.env.locals m->h'.Ns X.env.locals m)(hok:HOk X.prog X.w H' h')(hg:Ja0 g') :
  Inv X pq σ H' {s with heap:=h',gens:=g',drawn:=d',toks:=t'}:=by
 let neL:∀b o,X.s₀.heap.get? b=some o->b≠X.env.locals:=λb o e=>J9 (Jy (Fo e) I.ok.above);let neC:∀b o,X.s₀.heap.get? b=some o->b∉X.ex->b∉ch:=λb o e hx hb=>by
  rcases(hch b hb).1 with z|z
  .exact hx z
  .exact absurd (Jy (Fo e) z) (Gw _)
 let cellK:∀x c,X.env.cells.lookup x=some c->∀v,s.heap.IsCell c v->h'.IsCell c v:=λx c e v⟨o,ho,hd⟩=>by
  let nch:c∉ch:=λz=>(hch c z).2.2.1 x c e rfl
  by_cases hc:c∈X.fs
  .let⟨sl,q⟩:=slot c o (I.cne x c e) hc nch ho (I.freeC x c e);exists _,q,hd
  .exists o,keep c o (I.cne x c e) hc nch ho (I.freeC x c e),hd
 exists I.ok,I.os,hg,⟨λb o e n hb hx=>?_,λb o e n hb hx=>?_,λb o e n hx=>?_,λb o e hx=>?_,λb xs e=>tups b xs (I.base.tups b xs e),λb o xs e=>frzs b o xs (I.base.frzs b o xs e),λb ps e=>?_⟩,?_,λx c e=>?_,?_,λx c e=>?_,λp hp=>?_,hok,I.len
 .exact keep b o (neL b o e) hb (neC b o e hx) (I.base.keep b o e n hb hx) (I.base.free b o e n hx)
 .let⟨sl,e1⟩:=I.base.slot b o e n hb hx;let⟨sl',e2⟩:=slot b _ (neL b o e) hb (neC b o e hx) e1 (I.base.free b o e n hx);exists sl',e2
 .let⟨o',e1⟩:=I.base.there b o e hx;exact free b o' (neC b o e hx) e1 (I.base.free b o e n hx)
 .let⟨o',e1⟩:=I.base.there b o e hx;exact there b o' (neC b o e hx) e1
 .let⟨m1,e1⟩:=I.base.tbls b ps e;let⟨m2,e2⟩:=tbls b _ e1;exact⟨m1++m2,by rw[e2,Array.append_assoc]⟩
 .let⟨m,hn,hl⟩:=I.loc;exists m,ns m hn,λi x v e1 e2 e3=>?_;let⟨u,r,l⟩:=hl i x v e1 e2 e3;exists u,r,?_;rcases l with l|⟨k,c,e,z⟩
  .exact .inl l
  .exact .inr ⟨k,c,e,cellK x c e _ z⟩
 .let⟨v,z⟩:=I.cell x c e;exists v,cellK x c e v z
 .let⟨m,⟨o,_,_,ho,_⟩,_⟩:=I.loc;exact free _ o (λz=>(hch _ z).2.1 rfl) ho I.free
 .let⟨v,o,ho,hd⟩:=I.cell x c e;exact free c o (λz=>(hch c z).2.2.1 x c e rfl) ho (I.freeC x c e)
 .let⟨e,n,ne,nf,d⟩:=I.pin p hp;let nch:p.1∉ch:=λz=>(hch p.1 z).2.2.2 p hp rfl;exists keep p.1 p.2 ne nf nch e n,free p.1 p.2 nch e n,ne,nf,d
def Inv.un(I:Inv X pq σ H s)(u:Un X.fs [] H H' s.heap h')(hok:HOk X.prog X.w H' h'):Inv X pq σ H' {s with heap:=h',toks:=t'}:=by
 let⟨m,⟨o,es,ep,ho,r⟩,_⟩:=id I.loc;let⟨sl,hL⟩:=u.any ho I.free (by simp);exact I.step (g':=s.gens) (d':=s.drawn) (ch:=[]) (λ_ z=>nomatch z) (λb o _ hb _ e n=>u.keep b o e n hb (by simp)) (λb o _ hb _ e n=>u.slot b o e n hb (by simp)) (λb o _ e n=>u.free b o e n (by simp)) (λb o _ e=>u.there b o e (by simp)) u.tups u.frzs u.tbls (λm' hm=>by
  let⟨o',es',ep',ho',r'⟩:=hm;rw[ho]at ho';cases ho';exact⟨_,es',ep',hL,r'⟩) hok I.bare
def Inv.call{g':Array GenState}{d':Drawn}(I:Inv X pq σ H s)(u:Un (frs X.stack) ch H H' s.heap h')(hok:HOk X.prog X.w H' h')(hg:Ja0 g')(hch:∀b∈ch,(b∈X.ex\/X.s₀.heap.objs.size<=b)/\b≠X.env.locals/\(∀x c,X.env.cells.lookup x=some c->c≠b)/\∀p∈X.pn++pq,p.1≠b) :
  Inv X pq σ H' {s with heap:=h',gens:=g',drawn:=d',toks:=t'}:=by
 let⟨m,⟨o,es,ep,ho,r⟩,_⟩:=id I.loc;let⟨sl,hL⟩:=u.any ho I.free λz=>(hch _ z).2.1 rfl;exact I.step (ch:=ch) hch (λb o hL hb hc e n=>u.keep b o e n (λz=>(Jq.mp (I.stkSub b z)).elim hL hb) hc) (λb o _ _ hc e n=>u.any e n hc) (λb o hc e n=>u.free b o e n hc) (λb o hc e=>u.there b o e hc) u.tups u.frzs u.tbls (λm' hm=>by
  let⟨o',es',ep',ho',r'⟩:=hm;rw[ho]at ho';cases ho';exact⟨_,es',ep',hL,r'⟩) hok hg
def Inv.turned(I:Inv X pq σ H s)(k:∀b o,b≠it->s.heap.get? b=some o->h'.get? b=some o)(hn:H it=none)(hL:it≠X.env.locals)(h1:it∈X.ex\/X.s₀.heap.objs.size<=it)(h2:∀x c,X.env.cells.lookup x=some c->c≠it)(h3:∀p∈X.pn++pq,p.1≠it):Inv X pq σ H {s with heap:=h',toks:=t'}:=by
 let nit:∀b u,H b=some u->b≠it:=λb u e z=>by rw[z,hn]at e;cases e
 refine I.step (g':=s.gens) (d':=s.drawn) (ch:=[it]) (λb hb=>?_) (λb o _ _ hc e _=>k b o (λz=>hc (by simp[z])) e) (λb o _ _ hc e _=>⟨o.slots,k b o (λz=>hc (by simp[z])) e⟩) (λ_ _ _ _ n=>n)
  (λb o hc e=>⟨o,k b o (λz=>hc (by simp[z])) e⟩) (λ_ _ e=>e) (λ_ _ _ e=>e) (λb ps e=>⟨#[],by rw[e];simp⟩) (λm hm=>?_) (λb u e=>?_) I.bare
 .let e:b=it:=by simpa using hb
  subst e;exists h1,hL,h2,h3
 .let⟨o,es,ep,ho,r⟩:=hm;exists o,es,ep,k _ o (Cu hL) ho,r
 .refine(I.hok b u e).stay (λc v hc q=>k c v ?_ q) (λ_ q=>q) λ_ _ q=>q;rcases hc with z|z
  .rw[z];exact nit b u e
  .exact nit c _ z
def Inv.tok(I:Inv X pq σ H s)(t:Nat):Inv X pq σ H {s with toks:=t}:=I.un (h':=s.heap) (t':=t) Un.refl I.hok
def Inv.kept(I:Inv X pq σ H s)(k:∀b u,s.heap.get? b=some u->h'.get? b=some u):Inv X pq σ H {s with heap:=h',toks:=t'}:=I.un (Un.kept k) (I.hok.kept k)
def Inv.laid{a:Addr}(I:Inv X pq σ H s)(k:∀b u,s.heap.get? b=some u->h'.get? b=some u)(hp:s.heap.objs.size<=a)(new:Yt X.prog X.w (upd H a o) h' a o) :
  Inv X pq σ (upd H a o) {s with heap:=h',toks:=t'}:=I.un (Un.laid k hp (I.hok.fresh hp)) (I.hok.laid k hp new)
def Inv.write{x e:Addr}(I:Inv X pq σ H s)(mu:Mut (H x))(he:e=x\/H e=some (.own x))(k:∀b u,b≠e->s.heap.get? b=some u->h'.get? b=some u)(heo:∃u,h'.get? e=some u)(new:Yt X.prog X.w (upd H x o) h' x o):Inv X pq σ (upd H x o) {s with heap:=h',toks:=t'}:=I.un (Un.write mu he k heo) (I.hok.write mu he k heo new)
def Inv.weak{σ':List (Option V)}(I:Inv X pq σ H s)(hl:σ'.length=σ.length)(w:∀(i:Nat)v,σ'[i]?=some (some v)->σ[i]?=some (some v)):Inv X pq σ' H s :=
 ⟨I.ok,I.os,I.bare,I.base,let⟨m,hn,hl'⟩:=I.loc;⟨m,hn,λi x v e1 e2 e3=>hl' i x v e1 (w i v e2) e3⟩,I.cell,I.free,I.freeC,I.pin,I.hok,hl.trans I.len⟩
def Inv.pins_of{pins':List (Addr×Obj)}(I:Inv X pq σ H s)(h:∀p∈pins',s.heap.get? p.1=some p.2/\H p.1=none/\p.1≠X.env.locals/\p.1∉X.fs/\∀v,p.2.data≠.cell v):Inv X pins' σ H s :=
 ⟨I.ok,I.os,I.bare,I.base,I.loc,I.cell,I.free,I.freeC,λp hp=>(Ga.mp hp).elim (λz=>I.pin p (Gz _ z)) (h p),I.hok,I.len⟩
def Zeb(hN:N.Nodup){i:Nat}{x:Str}(a:N[i]?=some x)(b:N[j]?=some x):i=j:=by
 let⟨h1,e1⟩:=Jf.mp a;let⟨h2,e2⟩:=Jf.mp b;exact(G7 hN).mp (e1.trans e2.symm)
def Zan{M:Jge}{i:Nat}{x:Str}{u:Value}{Q:Unit->Ca->Prop}(I:Inv X pq σ H s)(hN:X.N.Nodup)(hi:X.N[i]?=some x)(hx:Loc X.env.scope x)(r:RelV v u)(h:∀s',Inv X pq (σ.set i (some v)) H s'->(∃a,E9 a s.heap s'.heap/\(a=X.env.locals\/X.env.cells.lookup x=some a))->Q ⟨⟩ s')(hf:X.fn x=true\/X.env.scope.names.lookup x=some .local:=by first|left;rfl|right;rfl|assumption):Cc M A (Jht X.env x u) Q E s:=by
 let⟨m,hn,hl⟩:=id I.loc;let hcls:(X.env.scope.kind == .class ||(X.env.scope.kind == .module&&X.env.locals != X.env.globals))=false:=by rw[I.ok.kind];rfl
 let hiσ:i < σ.length:=by rw[I.len];exact(Jf.mp hi).1
 let cne:=I.cne;let tracked:∀{a:Addr}{h':Heap},(∃o,s.heap.get? a=some o/\H a=none)->E9 a s.heap h'->HOk X.prog X.w H h':=λ{a h'}ha hs b ob e=>by
  let⟨_,_,hfree⟩:=ha;refine(I.hok b ob e).stay (λc w' hc q=>(hs.2 c ?_).trans q) (λ_ q=>q) λ_ _ q=>q;rintro rfl;rcases hc with rfl|hc
  .rw[hfree]at e;cases e
  .rw[hfree]at hc;cases hc
 rcases hx with hk|hk
 .refine wpAny_storeName_local hk hn (λh' hn' hs=>?_) hcls;let⟨oL,_,_,hoL,_⟩:=id hn;refine h _ ⟨I.ok,I.os,I.bare,⟨λb o e n hb hx=>?_,λb o e n hb hx=>?_,I.base.free,λb o e hx=>?_,I.base.tups,I.base.frzs,I.base.tbls⟩,⟨_,hn',λj y v' e1 e2 e3=>?_⟩,λy c e=>?_,I.free,I.freeC,λp hp=>?_,tracked ⟨oL,hoL,I.free⟩ hs,by simpa using I.len⟩ ⟨_,hs,.inl rfl⟩
  .exact(hs.2 b (J9 (Jy (Fo e) I.ok.above))).trans (I.base.keep b o e n hb hx)
  .let⟨sl,e1⟩:=I.base.slot b o e n hb hx;exists sl,(hs.2 b (J9 (Jy (Fo e) I.ok.above))).trans e1
  .let⟨o',e1⟩:=I.base.there b o e hx;exists o',(hs.2 b (J9 (Jy (Fo e) I.ok.above))).trans e1
  .by_cases hj:j=i
   .subst hj;rw[hi]at e1;cases e1;rw[Jz hiσ]at e2;cases e2;exists u,r,.inl ⟨hk,by simp⟩
   .rw[Gr (Cu hj)]at e2;let⟨u',r',q⟩:=hl j y v' e1 e2 e3;exists u',r',?_;rcases q with⟨k,e⟩|⟨k,c,e,z⟩
    .refine .inl ⟨k,?_⟩;let:y≠x:=λe=>hj (Zeb hN e1 (e ▸ hi));simp[this,e]
    .exact .inr ⟨k,c,e,z.sameBut hs (cne y c e)⟩
  .let⟨w',z⟩:=I.cell y c e;exists w',z.sameBut hs (cne y c e)
  .let⟨e,n,ne,nf,d⟩:=I.pin p hp;exists(hs.2 p.1 ne).trans e,n,ne,nf,d
 .let hfn:X.fn x=true:=by
   rcases hf with z|z
   .exact z
   .rw[z]at hk;cases hk
  let⟨c,hc⟩:=I.ok.has x (.inl hk);let⟨w',z⟩:=I.cell x c hc;refine wpAny_storeName_cell I.ok.kind hk hc z (λh' hc' hs=>?_);let⟨oc,hoc,hocd⟩:=id z;refine h {s with heap:=h'} ⟨I.ok,I.os,I.bare,⟨λb o e n hb hx=>?_,λb o e n hb hx=>?_,I.base.free,λb o e hx=>?_,I.base.tups,I.base.frzs,I.base.tbls⟩,⟨m,hn.sameBut hs (Cu (cne x c hc)),λj y v' e1 e2 e3=>?_⟩,λy c' e=>?_,I.free,I.freeC,λp hp=>?_,tracked ⟨oc,hoc,I.freeC x c hc⟩ hs,by simpa using I.len⟩ ⟨c,hs,.inr hc⟩
  .exact(hs.2 b (J9 (Jy (Fo e) (I.ok.cab x c hfn hc)))).trans (I.base.keep b o e n hb hx)
  .let⟨sl,e1⟩:=I.base.slot b o e n hb hx;exists sl,(hs.2 b (J9 (Jy (Fo e) (I.ok.cab x c hfn hc)))).trans e1
  .let⟨o',e1⟩:=I.base.there b o e hx;exists o',(hs.2 b (J9 (Jy (Fo e) (I.ok.cab x c hfn hc)))).trans e1
  .by_cases hj:j=i
   .subst hj;rw[hi]at e1;cases e1;rw[Jz hiσ]at e2;cases e2;exists u,r,.inr ⟨.inl hk,c,hc,hc'⟩
   .rw[Gr (Cu hj)]at e2;let⟨u',r',q⟩:=hl j y v' e1 e2 e3;exists u',r',?_;rcases q with q|⟨k,c',e,z'⟩
    .exact .inl q
    .refine .inr ⟨k,c',e,z'.sameBut hs ?_⟩;rintro rfl;exact hj (Zeb hN e1 (I.ok.inj _ _ _ e hc ▸ hi))
  .by_cases hcc:c'=c
   .subst hcc;exists _,hc'
   .let⟨w2,z2⟩:=I.cell y c' e;exists w2,z2.sameBut hs hcc
  .let⟨e,n,ne,nf,d⟩:=I.pin p hp;exists(hs.2 p.1 ?_).trans e,n,ne,nf,d;intro q;rw[q,hoc]at e;let q':oc=p.2:=Fv e;exact d w' (by rw[<-q'];exact hocd)
def Uh{M:Jge}{i:Nat}{x:Str}{u:Value}{Q:Unit->Ca->Prop}(I:Inv X pq σ H s)(hN:X.N.Nodup)(hi:X.N[i]?=some x)(hx:Loc X.env.scope x)(r:RelV v u)(h:∀s',Inv X pq (σ.set i (some v)) H s'->Q ⟨⟩ s')(hf:X.fn x=true\/X.env.scope.names.lookup x=some .local:=by first|left;rfl|right;rfl|assumption):Cc M A (Jht X.env x u) Q E s :=
 Zan I hN hi hx r (λs' I' _=>h s' I') hf
def Inv.call'{s':Ca}(I:Inv X pq σ H s)(ho:s'.os=s.os)(u:Un (frs X.stack) ch H H' s.heap s'.heap)(hok:HOk X.prog X.w H' s'.heap)(hg:Ja0 s'.gens)(hch:∀b∈ch,(b∈X.ex\/X.s₀.heap.objs.size<=b)/\b≠X.env.locals/\(∀x c,X.env.cells.lookup x=some c->c≠b)/\∀p∈X.pn++pq,p.1≠b):Inv X pq σ H' s':=by
 let⟨h',g',d',t',o'⟩:=s';let e:o'=s.os:=ho;subst e;exact I.call (g':=g') (t':=t') (d':=d') u hok hg hch
end
abbrev XK:=Value->Option Addr->Hp->Prop
abbrev St:=List (Option V)
variable{σ:L2.St}
abbrev VK:=V->Hp->Prop
variable{Q:L2.VK}
abbrev TE:=St->Hp->VK->Prop
variable{ta te tb:L2.TE}
abbrev TT:=St->Hp->(Bool->Hp->Prop)->Prop
variable{tt tc:L2.TT}
abbrev TA:=St->Hp->(List V->Hp->Prop)->Prop
structure Ends where
 nx:St->Hp->Prop
 rt:VK
 bk:St->Hp->Prop:=λ_ _=>False
 ct:St->Hp->Prop:=λ_ _=>False
abbrev TS:=Ends->St->Hp->Prop
variable{t1 t2:L2.XK->L2.TS}
def EP(X:Cx)(pq:List (Addr×Obj))(σ:St)(Q:VK)(u:Value)(s':Ca):Prop:=∃v H',Inv X pq σ H' s'/\RelV v u/\Q v H'
def TP(X:Cx)(pq:List (Addr×Obj))(σ:St)(Q:Bool->Hp->Prop)(b:Bool)(s':Ca):Prop:=∃H',Inv X pq σ H' s'/\Q b H'
def AP(X:Cx)(pq:List (Addr×Obj))(σ:St)(Q:List V->Hp->Prop)(us:List Value)(s':Ca):Prop:=∃vs H',Inv X pq σ H' s'/\Vals vs us/\Q vs H'
def SP(X:Cx)(pq:List (Addr×Obj))(D:Ends)(f:Flow)(s':Ca):Prop :=
 match f with
 |.next=>∃σ' H',Inv X pq σ' H' s'/\D.nx σ' H'
 |.brk=>∃σ' H',Inv X pq σ' H' s'/\D.bk σ' H'
 |.cont=>∃σ' H',Inv X pq σ' H' s'/\D.ct σ' H'
 |.ret u=>∃v σ' H',Inv X pq σ' H' s'/\RelV v u/\D.rt v H'
def PE(X:Cx)(e:Expr)(t:TE):Prop :=
 ∀(pq:List (Addr×Obj))(s:Ca)(σ:St)(H:Hp)(Q:VK),Inv X pq σ H s->t σ H Q->Cc (Cd X.prog X.w) X.A (eval e X.env) (EP X pq σ Q) X.xe s
def PT(X:Cx)(e:Expr)(t:TT):Prop :=
 ∀(pq:List (Addr×Obj))(s:Ca)(σ:St)(H:Hp)(Q:Bool->Hp->Prop),Inv X pq σ H s->t σ H Q->Cc (Cd X.prog X.w) X.A (isTrue e X.env (eval e X.env)) (TP X pq σ Q) X.xe s
def PW(X:Cx)(e:Expr)(t:TT):Prop :=
 ∀(whole:Sem Value)(pq:List (Addr×Obj))(s:Ca)(σ:St)(H:Hp)(Q:Bool->Hp->Prop),Inv X pq σ H s->t σ H Q->Cc (Cd X.prog X.w) X.A (isTrue e X.env whole) (TP X pq σ Q) X.xe s
def PW.pt{e:Expr}{t:TT}(h:PW X e t):PT X e t:=h _
def PA(X:Cx)(es:List Expr)(t:TA):Prop :=
 ∀(pos:Pos)(pq:List (Addr×Obj))(s:Ca)(σ:St)(H:Hp)(Q:List V->Hp->Prop),Inv X pq σ H s->t σ H Q->Cc (Cd X.prog X.w) X.A (Jhg (Hm pos (Ch es X.env))) (AP X pq σ Q) X.xe s
def PS(X:Cx)(st:Stmt)(t:TS):Prop :=
 ∀(pq:List (Addr×Obj))(s:Ca)(σ:St)(H:Hp)(D:Ends),Inv X pq σ H s->t D σ H->Cc (Cd X.prog X.w) X.A (exec st X.env) (SP X pq D) X.xe s
def PSs(X:Cx)(st:List Stmt)(t:TS):Prop :=
 ∀(pq:List (Addr×Obj))(s:Ca)(σ:St)(H:Hp)(D:Ends),Inv X pq σ H s->t D σ H->Cc (Cd X.prog X.w) X.A (execs st X.env) (SP X pq D) X.xe s
def thn{α:Type}{t:Sem α}{Q Q':α->Ca->Prop}{M:Jge}(h:Cc M A t Q E s)(hQ:∀a s,Q a s->Q' a s):Cc M A t Q' E s:=Fx h hQ λ_ _ x=>x
section
def tVar(i:Nat):TE:=λσ H Q=>∃v,σ[i]?=some (some v)/\Q v H
def tC(v:V):TE:=λ_ H Q=>Q v H
def Zrl{i:Nat}{x:Str}(hN:X.N[i]?=some x)(hv:Vis X.env.scope x)(hd:(x==("__debug__":Str))=false:=by decide)(hcd:(x==("__classdict__":Str))=false:=by decide):PE X (.Name x pos) (tVar i):=by
 intro pq s σ H Q I h;let⟨v,e,h⟩:=h;let⟨m,hn,hl⟩:=I.loc;let⟨u,r,l⟩:=hl i x v hN e hv;let fin:EP X pq σ Q u s:=⟨v,H,I,r,h⟩;rcases l with⟨hk,hm⟩|⟨hk,c,hc,hcell⟩
 .exact Jgs (Jde I.ok.kind hk hn hm fin) hd
 .rcases hk with hk|hk
  .exact Jgs (Jdo I.ok.kind hk hc hcell fin) hd
  .exact Jgs (wpAny_loadName_free I.ok.kind hk hc hcell fin hcd) hd
def Zh{i j pos}:PE X (.Constant (.int i) j pos) (tC (.int i)):=λ_ _ _ H _ I h=>wpAny_Constant_int ⟨.int i,H,I.tok _,⟨_,rfl⟩,h⟩
def Sq{b j pos}:PE X (.Constant (.bool b) j pos) (tC (.bl b)):=λ_ _ _ H _ I h=>Constant_bool ⟨.bl b,H,I,rfl,h⟩
def Pf{j pos}:PE X (.Constant .none j pos) (tC .non):=λ_ _ _ H _ I h=>Jdy ⟨.non,H,I,rfl,h⟩
def Yq{x j pos}:PE X (.Constant (.str x) j pos) (tC (.str x)):=λ_ _ _ H _ I h=>Calls.Constant_str ⟨.str x,H,I.tok _,⟨_,rfl⟩,h⟩
def Gl(X:Cx)(x:Str):Prop:=X.env.kindOf x=some .globalImplicit
def Vd{x:Str}{u:Value}{Q:Value->Ca->Prop}(I:Inv X pq σ H s)(hg:Gl X x)(hm:X.mg x=some u)(h:Q u s)(hd:(x==("__debug__":Str))=false:=by decide):Cc (Cd X.prog X.w) X.A (eval (.Name x pos) X.env) Q E s :=
 Lx I.ok.kind hg (Calls.loadGlobal_global (by rw[I.ok.glob];exact I.mod.glob.keeps I.bk) hm h) hd
def Tp{x:Str}{u:Value}{Q:Value->Ca->Prop}(I:Inv X pq σ H s)(hg:Gl X x)(hm:X.mg x=none)(hv:Kd x=some u)(h:Q u s)(hn:x≠"__name__":=by decide)(hd:(x==("__debug__":Str))=false:=by decide):Cc (Cd X.prog X.w) X.A (eval (.Name x pos) X.env) Q E s:=by
 let⟨mb,h1,h2⟩:=I.mod.blt;exact Lx I.ok.kind hg (Calls.loadGlobal_builtin (by rw[I.ok.glob];exact I.mod.glob.keeps I.bk) hm (by rw[I.ok.blt];exact h1.keeps I.bk) ((h2 x hn).trans hv) h) hd
def U4{x:Str}{u:Value}(hg:Gl X x)(hm:X.mg x=some u)(r:RelV v u)(hd:(x==("__debug__":Str))=false:=by decide):PE X (.Name x pos) (tC v) :=
 λ_ _ _ H _ I h=>Vd I hg hm ⟨v,H,I,r,h⟩ hd
def U5{x:Str}{u:Value}(hg:Gl X x)(hm:X.mg x=none)(hv:Kd x=some u)(r:RelV v u)(hn:x≠"__name__":=by decide)(hd:(x==("__debug__":Str))=false:=by decide):PE X (.Name x pos) (tC v) :=
 λ_ _ _ H _ I h=>Tp I hg hm hv ⟨v,H,I,r,h⟩ hn hd
variable{a b:Expr} 
def PC(X:Cx)(op:Jh7)(a b:Expr)(t:TE):Prop :=
 ∀(pq:List (Addr×Obj))(s:Ca)(σ:St)(H:Hp)(Q:VK),Inv X pq σ H s->t σ H Q ->
  Cc (Cd X.prog X.w) X.A (eval a X.env) (λv s₁=>Cc (Cd X.prog X.w) X.A (eval b X.env) (λu s₂=>Cc (Cd X.prog X.w) X.A (Eh op v u) (EP X pq σ Q) X.xe s₂) X.xe s₁) X.xe s
def Zk3(b:Expr){op:Jh7}(h:op≠.In)(h2:op≠.NotIn):Hw op b=false:=by
 let e1:(op==Jh7.In)=false:=by cases op<;>first|rfl|exact absurd rfl h
 let e2:(op==Jh8)=false:=by cases op<;>first|rfl|exact absurd rfl h2
 cases b<;>simp[Hw,e1,e2]
def tIsN(ta:TE):TE:=λσ H Q=>ta σ H λx H1=>Q (.bl (decide (x=.non))) H1
def Zt0(ta:TE):TE:=λσ H Q=>ta σ H λx H1=>Q (.bl (!decide (x=.non))) H1
theorem RelV.none_iff{x:V}{v:Value}(r:RelV x v):(v==Value.none)=decide (x=.non):=by
 cases x with
 |non=>cases r;rfl
 |bl _=>cases r;rfl
 |int _=>obtain⟨t,rfl⟩:=r;rfl
 |str _=>obtain⟨t,rfl⟩:=r;rfl
 |byt _=>obtain⟨t,rfl⟩:=r;rfl
 |flt _=>obtain⟨t,rfl⟩:=r;rfl
 |ref _=>cases r;rfl
 |ty _=>cases r;rfl
def Rt{j pos'}(ha:PE X a ta):PC X .Is a (.Constant .none j pos') (tIsN ta):=by
 intro pq s σ H Q I h;refine thn (ha pq s σ H _ I h) λv s1 hz=>?_;let⟨x,H1,I1,r1,q1⟩:=hz;exact Jdy (is_none_gen ⟨.bl _,H1,I1,by rw[r1.none_iff];rfl,q1⟩)
def Zhl{j pos'}(ha:PE X a ta):PC X .IsNot a (.Constant .none j pos') (Zt0 ta):=by
 intro pq s σ H Q I h;refine thn (ha pq s σ H _ I h) λv s1 hz=>?_;let⟨x,H1,I1,r1,q1⟩:=hz;exact Jdy (isnot_none_gen ⟨.bl _,H1,I1,by rw[r1.none_iff];rfl,q1⟩)
def tB(t:TE):TT:=λσ H Q=>t σ H λx H1=>∃c,x=.bl c/\Q c H1
def W4{op:Jh7}{t:TE}(h:PC X op a b t)(h1:Hw op b=false:=by first|exact Zk3 _ nofun nofun|rfl):PT X (.Compare a [op] [b] pos) (tB t):=by
 intro pq s σ H Q I hw;refine Jc0 (thn (h pq s σ H _ I hw) λv s1 h1=>thn h1 λu s2 h2=>thn h2 λc s3 hz=>?_) h1;let⟨x,H1,I1,r1,q1⟩:=hz;let⟨d,rfl,q⟩:=q1;cases r1;exact E2 ⟨H1,I1,q⟩
def W3{e:Expr}{t:TE}(h:PE X e t)(he:∀whole,isTrue e X.env whole=(do let v <-whole;Jfu e.pos;Mh [v] (truthy v)):=by intro _;rfl):PT X e (tB t):=by
 intro pq s σ H Q I hw;refine isTrue_plain (thn (h pq s σ H _ I hw) λv s1 hz=>?_) (he _);let⟨x,H1,I1,r1,q1⟩:=hz;let⟨d,rfl,q⟩:=q1;cases r1;exact E2 ⟨H1,I1,q⟩
variable{tA tB':TT}{rest:List Expr}
def tAnd(t u:TT):TT:=λσ H Q=>t σ H λc H1=>if c=true then u σ H1 Q else Q false H1
def tOr(t u:TT):TT:=λσ H Q=>t σ H λc H1=>if c=true then Q true H1 else u σ H1 Q
def tNot(t:TT):TT:=λσ H Q=>t σ H λc H1=>Q (!c) H1
theorem T4(ha:PT X a tA):PW X (.BoolOp .And [a] pos) tA:=by
 intro wh pq s σ H Q I h;refine isTrue_and (thn (ha pq s σ H Q I h) λc s1 e=>?_);cases c with
 |true=>exact isTrue_and_nil e
 |false=>exact e
theorem Zg9(ha:PT X a tA):PW X (.BoolOp .Or [a] pos) tA:=by
 intro wh pq s σ H Q I h;refine isTrue_or (thn (ha pq s σ H Q I h) λc s1 e=>?_);cases c with
 |false=>exact isTrue_or_nil e
 |true=>exact e
theorem Rn(ha:PT X a tA)(hb:PW X (.BoolOp .And (b::rest) pos) tB'):PW X (.BoolOp .And (a::b::rest) pos) (tAnd tA tB'):=by
 intro wh pq s σ H Q I h;refine isTrue_and (thn (ha pq s σ H _ I h) λc s1 hz=>?_);let⟨H1,I1,q1⟩:=hz;cases c with
 |true=>exact hb wh pq s1 σ H1 Q I1 q1
 |false=>exact⟨H1,I1,q1⟩
theorem Zkv(ha:PT X a tA)(hb:PW X (.BoolOp .Or (b::rest) pos) tB'):PW X (.BoolOp .Or (a::b::rest) pos) (tOr tA tB'):=by
 intro wh pq s σ H Q I h;refine isTrue_or (thn (ha pq s σ H _ I h) λc s1 hz=>?_);let⟨H1,I1,q1⟩:=hz;cases c with
 |true=>exact⟨H1,I1,q1⟩
 |false=>exact hb wh pq s1 σ H1 Q I1 q1
def Ti(ha:PT X a tA):PT X (.UnaryOp .Not a pos) (tNot tA):=by
 intro pq s σ H Q I h;exact isTrue_not (ha pq s σ H (λc H1=>Q (!c) H1) I h)
def Zqt(ta tb:TE):TE:=λσ H Q=>ta σ H λx H1=>∃c,x=.bl c/\if c=true then tb σ H1 Q else Q (.bl false) H1
def Zqp(ta:TE):TE:=λσ H Q=>ta σ H λx H1=>∃c,x=.bl c/\Q (.bl (!c)) H1
def Zmi{op}{t:TE}(h:PE X a t):PE X (.BoolOp op [a] pos) t:=λpq s σ H Q I hw=>BoolOp_one (h pq s σ H Q I hw)
theorem Zhk(ha:PE X a ta)(hb:PE X (.BoolOp .And (b::rest) pos) tb):PE X (.BoolOp .And (a::b::rest) pos) (Zqt ta tb):=by
 intro pq s σ H Q I h;refine BoolOp_and (thn (ha pq s σ H _ I h) λv s1 hz=>?_);let⟨x,H1,I1,r1,q1⟩:=hz;let⟨c,rfl,q1⟩:=q1;cases r1;refine E2 ?_;cases c with
 |true=>exact hb pq s1 σ H1 Q I1 q1
 |false=>exact⟨.bl false,H1,I1,rfl,q1⟩
def Zrm(ha:PE X a ta):PE X (.UnaryOp .Not a pos) (Zqp ta):=by
 intro pq s σ H Q I h;refine UnaryOp_ (thn (ha pq s σ H _ I h) λv s1 hz=>?_);let⟨x,H1,I1,r1,q1⟩:=hz;let⟨c,rfl,q1⟩:=q1;cases r1;exact not_of (E2 ⟨.bl (!c),H1,I1,rfl,q1⟩)
end
def SqL(K:Cp)(H:Hp)(a:Addr)(xs:List V):Prop :=
 Rd H a (.lst xs) \/
  ∃(o:Obj)(its:Array Value)(n:Nat),K.lookup a=some o/\o.cls=.type "list"/\o.dict=none/\o.data=.seq its n/\its.size<=sizeLine/\Vals xs its.toList
def SqT(K:Cp)(H:Hp)(a:Addr)(xs:List V):Prop :=
 Rd H a (.tup xs) \/
  ∃(o:Obj)(its:Array Value)(n:Nat),K.lookup a=some o/\o.cls=.type "tuple"/\o.data=.seq its n/\its.size<=sizeLine/\Vals xs its.toList
def absV:Value->Option V
 |.none=>some .non
 |.bool b=>some (.bl b)
 |.int i _=>some (.int i)
 |.str x _=>some (.str x)
 |.bytes b _=>some (.byt b)
 |.float b _=>some (.flt b)
 |.ref a=>some (.ref a)
 |.type n=>some (.ty n)
 |_=>none
theorem RelV.abs{x:V}{u:Value}(r:RelV x u):absV u=some x:=by
 cases x with
 |non=>cases r;rfl
 |bl _=>cases r;rfl
 |int _=>obtain⟨t,rfl⟩:=r;rfl
 |str _=>obtain⟨t,rfl⟩:=r;rfl
 |byt _=>obtain⟨t,rfl⟩:=r;rfl
 |flt _=>obtain⟨t,rfl⟩:=r;rfl
 |ref _=>cases r;rfl
 |ty _=>cases r;rfl
def RelV.inj{x y:V}{u:Value}(r:RelV x u)(q:RelV y u):x=y:=Fv (r.abs.symm.trans q.abs)
theorem Vals.inj:∀{xs ys:List V}{us:List Value},Vals xs us->Vals ys us->xs=ys:=by
 intro _ _ _ hz9 hz8;cases hz9 with
 |nil=>
  cases hz8 with
  |nil=>
   exact rfl
 |cons r t=>
  cases hz8 with
  |cons r' t'=>
   exact by rw[r.inj r',Vals.inj t t']
section
variable{a:Addr} 
def SqL.of(h:H a=some (.lst xs)):SqL K H a xs:=.inl (.inl h)
def SqT.of(h:H a=some (.tup xs)):SqT K H a xs:=.inl (.inl h)
theorem Inv.list(I:Inv X pq σ H s)(h:SqL X.K H a xs):∃its:List Value,Vals xs its/\PlainL s.heap a its.toArray/\xs.length<=sizeLine:=by
 rcases h with h|⟨o,its,n,hk,hc,hd,hs,hz,r⟩
 .let⟨z,its,n,r,e⟩:=h.ok I.hok;exists its,r,⟨_,n,e,rfl,rfl,rfl⟩,z
 .exists its.toList,r,⟨o,n,I.kIn a o hk,hc,hd,by simpa using hs⟩,?_;let e:=r.length;simp only[Bq]at e;lia
theorem Inv.tuple(I:Inv X pq σ H s)(h:SqT X.K H a xs):∃its:List Value,Vals xs its/\IsTup s.heap a its.toArray/\xs.length<=sizeLine:=by
 rcases h with h|⟨o,its,n,hk,hc,hs,hz,r⟩
 .let⟨z,its,r,p⟩:=h.ok I.hok;exists its,r,p.tup,z
 .exists its.toList,r,⟨o,I.kIn a o hk,hc,n,by simpa using hs⟩,?_;let e:=r.length;simp only[Bq]at e;lia
def Inv.list_inj(I:Inv X pq σ H s)(h:SqL X.K H a xs)(h':SqL X.K H a ys):xs=ys:=by
 let⟨its,r,⟨o,n,e,_,_,d⟩,_⟩:=I.list h;let⟨its',r',⟨o',n',e',_,_,d'⟩,_⟩:=I.list h';rw[e]at e';cases e';rw[d]at d';injection d' with d1 _
 let:its=its':=by simpa using congrArg Je3 d1
 subst this;exact r.inj r'
def Inv.tuple_inj(I:Inv X pq σ H s)(h:SqT X.K H a xs)(h':SqT X.K H a ys):xs=ys:=by
 let⟨its,r,⟨o,e,_,n,d⟩,_⟩:=I.tuple h;let⟨its',r',⟨o',e',_,n',d'⟩,_⟩:=I.tuple h';rw[e]at e';cases e';rw[d]at d';injection d' with d1 _
 let:its=its':=by simpa using congrArg Je3 d1
 subst this;exact r.inj r'
end
abbrev Cx.wish(X:Cx)(E:Value->Ca->Prop):Cx:={X with xe:=E}
abbrev Cx.nox(X:Cx):Cx:=X.wish λ_ _=>False
def Cx.Ok.wish(ok:X.Ok)(E:Value->Ca->Prop):(X.wish E).Ok :=
 ⟨ok.mod,ok.kind,ok.glob,ok.blt,ok.above,ok.inj,ok.has,ok.cab,ok.hd,ok.frames,ok.stk,ok.exf,ok.bs,ok.bsz,ok.noex,ok.exfs,ok.funs,ok.frf⟩
def Cx.Ok.unwish(ok:(X.wish E).Ok):X.Ok :=
 ⟨ok.mod,ok.kind,ok.glob,ok.blt,ok.above,ok.inj,ok.has,ok.cab,ok.hd,ok.frames,ok.stk,ok.exf,ok.bs,ok.bsz,ok.noex,ok.exfs,ok.funs,ok.frf⟩
section
def Inv.wish(I:Inv X pq σ H s)(E:Value->Ca->Prop):Inv (X.wish E) pq σ H s:=⟨I.ok.wish E,I.os,I.bare,I.base,I.loc,I.cell,I.free,I.freeC,I.pin,I.hok,I.len⟩
def Inv.unwish(I:Inv (X.wish E) pq σ H s):Inv X pq σ H s:=⟨I.ok.unwish,I.os,I.bare,I.base,I.loc,I.cell,I.free,I.freeC,I.pin,I.hok,I.len⟩
theorem SP.unwish{D:Ends}{f:Flow}{s':Ca}(h:SP (X.wish E) pq D f s'):SP X pq D f s':=by
 cases f with
 |next=>obtain⟨σ',H',I,q⟩:=h;exists σ',H',I.unwish,q
 |brk=>obtain⟨σ',H',I,q⟩:=h;exists σ',H',I.unwish,q
 |cont=>obtain⟨σ',H',I,q⟩:=h;exists σ',H',I.unwish,q
 |ret u=>obtain⟨v,σ',H',I,r,q⟩:=h;exists v,σ',H',I.unwish,r,q
def PSs.nox{st:List Stmt}{t:TS}(h:PSs X.nox st t):PSs X st t:=λpq s σ H D I hw =>
 Fx (h pq s σ H D (I.wish _) hw) (λ_ _ q=>q.unwish) λ_ _ z=>Cq z
end
section
variable{rest:List Stmt}{t u:TS}{e:Expr} 
def Zne:TS:=λD σ H=>D.nx σ H
def tSeq(t u:TS):TS:=λD σ H=>t {D with nx:=u D} σ H
def Z1:PSs X [] Zne:=λ_ _ σ H _ I h=>E4 ⟨σ,H,I,h⟩
theorem Ze(h1:PS X st t)(h2:PSs X rest u):PSs X (st::rest) (tSeq t u):=by
 intro pq s σ H D I h;refine Hg (thn (h1 pq s σ H {D with nx:=u D} I h) λf s1 q=>?_);cases f with
 |next =>
  let⟨σ',H',I',q⟩:=q;exact h2 pq s1 σ' H' D I' q
 |ret v=>exact q
 |brk=>exact q
 |cont=>exact q
theorem Zi(h1:PS X st t):PSs X [st] t:=by
 intro pq s σ H D I h;refine Hg (thn (h1 pq s σ H D I h) λf s1 q=>?_);cases f with
 |next=>exact E4 q
 |ret v=>exact q
 |brk=>exact q
 |cont=>exact q
def Inv.quiet(I:Inv X pq σ H s):interactive X.env=false:=by simp[interactive,I.ok.kind]
def Zqq(te:TE):TS:=λD σ H=>te σ H λ_ H1=>D.nx σ H1
def Vc(he:PE X e te)(hs:Mm e none pos.line X.env=pure false:=by rfl):PS X (.Expr e pos) (Zqq te):=by
 intro pq s σ H D I h;exact wpAny_Expr_any (thn (he pq s σ H _ I h) λv s1⟨x,H1,I1,r1,q1⟩=>⟨σ,H1,I1,q1⟩) I.quiet hs
def tRet(te:TE):TS:=λD σ H=>te σ H D.rt
def Z0(he:PE X e te):PS X (.Return (some e) pos) (tRet te):=by
 intro pq s σ H D I h;exact Jel (thn (he pq s σ H _ I h) λv s1⟨x,H1,I1,r1,q1⟩=>⟨x,σ,H1,I1,r1,q1⟩)
def Ztz:TS:=λD _ H=>D.rt .non H
def Zn4:PS X (.Return none pos) Ztz:=λ_ _ σ H _ I h=>wpAny_Return_none ⟨.non,σ,H,I,rfl,h⟩
def tIfS(c:TT)(t u:TS):TS:=λD σ H=>c σ H λb H1=>if b=true then t D σ H1 else u D σ H1
theorem Yn{c:Expr}{a b:List Stmt}(hc:PT X c tc)(ha:PSs X a t)(hb:PSs X b u):PS X (.If c a b pos) (tIfS tc t u):=by
 intro pq s σ H D I h;refine wpAny_If (thn (hc pq s σ H _ I h) λd s1 hz=>?_);let⟨H1,I1,q1⟩:=hz;cases d with
 |true=>exact ha pq s1 σ H1 D I1 q1
 |false=>exact hb pq s1 σ H1 D I1 q1
def Zlx:TS:=λ_ _ _=>False
def Nd:PS X st Zlx:=λ_ _ _ _ _ _ h=>h.elim
end
abbrev TG:=V->St->Hp->(St->Hp->Prop)->Prop
variable{g:L2.TG}
abbrev TGs:=List V->St->Hp->(St->Hp->Prop)->Prop
def PG(X:Cx)(target:Expr)(t:TG):Prop :=
 ∀(pq:List (Addr×Obj))(s:Ca)(σ:St)(H:Hp)(v:V)(u:Value)(Q:St->Hp->Prop),Inv X pq σ H s->RelV v u->t v σ H Q ->
  Cc (Cd X.prog X.w) X.A (Jdz target X.env u) (λ_ s'=>∃σ' H',Inv X pq σ' H' s'/\Q σ' H') X.xe s
def PGs(X:Cx)(ts:List Expr)(t:TGs):Prop :=
 ∀(pq:List (Addr×Obj))(s:Ca)(σ:St)(H:Hp)(vs:List V)(us:List Value)(Q:St->Hp->Prop),Inv X pq σ H s->Vals vs us->t vs σ H Q ->
  Cc (Cd X.prog X.w) X.A (assignInOrder ((Mn ts X.env).map (·.2)) us) (λ_ s'=>∃σ' H',Inv X pq σ' H' s'/\Q σ' H') X.xe s
abbrev TSet:=V->V->V->Hp->(Hp->Prop)->Prop
def PSet(X:Cx)(t:TSet):Prop :=
 ∀(pq:List (Addr×Obj))(s:Ca)(σ:St)(H:Hp)(o i v:V)(ov iv u:Value)(Q:Hp->Prop),Inv X pq σ H s->RelV o ov->RelV i iv->RelV v u->t o i v H Q ->
  Cc (Cd X.prog X.w) X.A (Jh9 ov iv u) (λ_ s'=>∃H',Inv X pq σ H' s'/\Q H') X.xe s
abbrev TIp:=V->V->Hp->VK->Prop
def PIp(X:Cx)(op:Jhh)(t:TIp):Prop :=
 ∀(pq:List (Addr×Obj))(s:Ca)(σ:St)(H:Hp)(x y:V)(v u:Value)(Q:VK),Inv X pq σ H s->RelV x v->RelV y u->t x y H Q ->
  Cc (Cd X.prog X.w) X.A (inplaceOp op v u) (EP X pq σ Q) X.xe s
section
def Zbi(i:Nat):TG:=λv σ H Q=>Q (σ.set i (some v)) H
def Zx{i:Nat}{x:Str}(hN:X.N.Nodup)(hi:X.N[i]?=some x)(hx:Loc X.env.scope x)(hf:X.fn x=true\/X.env.scope.names.lookup x=some .local:=by first|left;rfl|right;rfl|assumption):PG X (.Name x pos) (Zbi i):=by
 intro pq s σ H v u Q I r h;exact Jem (Uh I hN hi hx r (λs' I'=>⟨_,H,I',h⟩) hf)
def gNil:TGs:=λvs σ H Q=>vs=[]/\Q σ H
def Zo2(t:TG)(u:TGs):TGs:=λvs σ H Q=>∃v r,vs=v::r/\t v σ H λσ' H'=>u r σ' H' Q
def Wu:PGs X [] gNil:=by
 intro pq s σ H vs us Q I r h;let⟨e,h⟩:=h;subst e;cases r;exact assignInOrder_nil ⟨σ,H,I,h⟩
theorem Yf{e:Expr}{t:TG}{u:TGs}(h1:PG X e t)(h2:PGs X es u)(hs:(Mn (e::es) X.env).map (·.2)=Jdz e X.env::(Mn es X.env).map (·.2):=by rfl):PGs X (e::es) (Zo2 t u):=by
 intro pq s σ H vs us Q I r h;let⟨v,vr,e1,h⟩:=h;subst e1;cases r with
 |cons r rr =>
  rw[hs];refine assignInOrder_cons (thn (h1 pq s σ H _ _ _ I r h) λ_ s1 hz=>?_);let⟨σ1,H1,I1,q1⟩:=hz;exact h2 pq s1 σ1 H1 _ _ Q I1 rr q1
def gTup(K:Cp)(n:Nat)(t:TGs):TG:=λv σ H Q=>∃a xs,v=.ref a/\SqT K H a xs/\xs.length=n/\t xs σ H Q
def Uv{k:Nat}{t:TGs}{n:Nat}(hc:X.calm=true)(h:PGs X es t)(hn:(Mn es X.env).length=n:=by rfl)(hst:(Mn es X.env).findIdx? (·.1)=none:=by rfl):PG X (.Tuple es k pos) (gTup X.K n t):=by
 intro pq s σ H v u Q I r hw;let⟨a,xs,e1,hq,hl,hw⟩:=hw;subst e1;cases r;let⟨its,rv,ht,hz⟩:=I.tuple hq;refine assign_Tuple_tuple (I.ok.hd hc) ht (by simp[hn,<-hl,rv.length]) hst λh' hx=>?_;let I1:Inv X pq σ H {s with heap:=h'}:=I.kept (t':=s.toks) λb o e=>hx b o (J9 (Fo e)) e;exact h pq _ σ H xs _ Q I1 (by simpa using rv) hw
def gSub(to ti:TE)(t:TSet):TG:=λv σ H Q=>to σ H λo H1=>ti σ H1 λi H2=>t o i v H2 λH3=>Q σ H3
def Pe{o i:Expr}{to ti:TE}{t:TSet}(ho:PE X o to)(hi:PE X i ti)(hs:PSet X t)(ha:∀v,Jdz (.Subscript o i pos) X.env v=(do
   let ov <-Mh [v] (eval o X.env)
   let iv <-Mh [v,ov] (eval i X.env)
   Jfu pos
   Mh [v,ov,iv] (Jh9 ov iv v)
   release [v,ov,iv] []):=by intro _;rfl):PG X (.Subscript o i pos) (gSub to ti t):=by
 intro pq s σ H v u Q I r h;rw[ha];refine Fk (Cw (thn (ho pq s σ H _ I h) λov s1 hz=>?_));let⟨x,H1,I1,r1,q1⟩:=hz;refine Fk (Cw (thn (hi pq s1 σ H1 _ I1 q1) λiv s2 hz=>?_));let⟨y,H2,I2,r2,q2⟩:=hz;refine Fk (Ha (Fk (Cw (thn (hs pq s2 σ H2 x y v ov iv u _ I2 r1 r2 r q2) λ_ s3 hz=>?_))));let⟨H3,I3,q3⟩:=hz;exact wpAny_release ⟨σ,H3,I3,q3⟩
def tAsg(te:TE)(g:TG):TS:=λD σ H=>te σ H λx H1=>g x σ H1 D.nx
def Rp{e:Expr}(he:PE X e te)(hg:PG X tg g)(hs:swapsWithSole [tg] e pos.line X.env=pure false:=by rfl)(hw:swappedStores [tg] e X.env=pure none:=by rfl)(h1:(Mn [tg] X.env).map (·.2)=[Jdz tg X.env]:=by rfl):PS X (.Assign [tg] e pos) (tAsg te g):=by
 intro pq s σ H D I h;refine wpAny_Assign_stores (thn (he pq s σ H _ I h) λv s1 hz=>?_) hs hw;let⟨x,H1,I1,r1,q1⟩:=hz;rw[h1];exact thn (hg pq s1 σ H1 x v _ I1 r1 q1) λ_ s2 q=>q
def Zv{i:Nat}{x:Str}{e:Expr}(hN:X.N.Nodup)(hi:X.N[i]?=some x)(hx:Loc X.env.scope x)(he:PE X e te)(hs:Mm e (some (.Name x pos')) pos.line X.env=pure false:=by rfl)(hf:X.fn x=true\/X.env.scope.names.lookup x=some .local:=by first|left;rfl|right;rfl|assumption) :
  PS X (.Assign [.Name x pos'] e pos) (tAsg te (Zbi i)):=by
 intro pq s σ H D I h;refine Jen (thn (he pq s σ H _ I h) λv s1 hz=>?_) hs;let⟨y,H1,I1,r1,q1⟩:=hz;exact Uh I1 hN hi hx r1 (λs2 I2=>⟨_,H1,I2,q1⟩) hf
def tAug(i:Nat)(te:TE)(ti:TIp):TS:=λD σ H=>∃x,σ[i]?=some (some x)/\te σ H λy H1=>ti x y H1 λz H2=>D.nx (σ.set i (some z)) H2
def Zrj{i:Nat}{x:Str}{e:Expr}{op:Jhh}{ti:TIp}(hN:X.N.Nodup)(hi:X.N[i]?=some x)(hx:Loc X.env.scope x)(he:PE X e te)(ho:PIp X op ti)(hf:X.fn x=true\/X.env.scope.names.lookup x=some .local:=by first|left;rfl|right;rfl|assumption) :
  PS X (.AugAssign (.Name x pos') op e pos) (tAug i te ti):=by
 intro pq s σ H D I h;let⟨v,e1,h⟩:=h;let⟨m,hn,hl⟩:=I.loc;let vis:Vis X.env.scope x:=by rcases hx with k|k;exact .inl k;exact .inr (.inl k)
 let⟨u,r,l⟩:=hl i x v hi e1 vis;refine wpAny_AugAssign_Name ?_;let go:Cc (Cd X.prog X.w) X.A (eval e X.env) (λw s₂=>Cc (Cd X.prog X.w) X.A (inplaceOp op u w) (λr s₃=>Cc (Cd X.prog X.w) X.A (Jht X.env x r) (λ_=>SP X pq D .next) X.xe s₃) X.xe s₂) X.xe s:=by
  refine thn (he pq s σ H _ I h) λw s1 hz=>?_;let⟨y,H1,I1,r1,q1⟩:=hz;refine thn (ho pq s1 σ H1 v y u w _ I1 r r1 q1) λz s2 hz=>?_;let⟨zv,H2,I2,r2,q2⟩:=hz;exact Uh I2 hN hi hx r2 (λs3 I3=>⟨_,H2,I3,q2⟩) hf
 rcases l with⟨hk,hm⟩|⟨hk,c,hc,hcell⟩
 .exact Jde I.ok.kind hk hn hm go
 .rcases hk with hk|hk
  .exact Jdo I.ok.kind hk hc hcell go
  .rcases hx with k|k
   .let:X.env.scope.names.lookup x=some .free:=hk;rw[k]at this;cases this
   .let:X.env.scope.names.lookup x=some .free:=hk;rw[k]at this;cases this
def Zt1(to ti te:TE)(tget:V->V->Hp->VK->Prop)(tip:TIp)(tset:TSet):TS:=λD σ H=>to σ H λo H1=>ti σ H1 λi H2=>tget o i H2 λx H3=>te σ H3 λy H4=>tip x y H4 λz H5=>tset o i z H5 λH6=>D.nx σ H6
def PGet(X:Cx)(t:V->V->Hp->VK->Prop):Prop :=
 ∀(pq:List (Addr×Obj))(s:Ca)(σ:St)(H:Hp)(o i:V)(ov iv:Value)(Q:VK),Inv X pq σ H s->RelV o ov->RelV i iv->t o i H Q ->
  Cc (Cd X.prog X.w) X.A (Lk ov iv) (EP X pq σ Q) X.xe s
def Zn5{o i e:Expr}{to ti:TE}{tget:V->V->Hp->VK->Prop}{tip:TIp}{tset:TSet}{op:Jhh}{tpos:Pos}(ho:PE X o to)(hi:PE X i ti)(hg:PGet X tget)(he:PE X e te)(hp:PIp X op tip)(hs:PSet X tset)(ha:∀ov iv new,augStore i ov iv new=(do Mh [new,ov,iv] (Jh9 ov iv new);release [new,ov,iv] [];pure .next):=by intros;rfl):PS X (.AugAssign (.Subscript o i tpos) op e pos) (Zt1 to ti te tget tip tset):=by
 intro pq s σ H D I h;refine wpAny_AugAssign_SubscriptAny (thn (ho pq s σ H _ I h) λov s1 hz=>?_) ha;let⟨x1,H1,I1,r1,q1⟩:=hz;refine thn (hi pq s1 σ H1 _ I1 q1) λiv s2 hz=>?_;let⟨x2,H2,I2,r2,q2⟩:=hz;refine thn (hg pq s2 σ H2 x1 x2 ov iv _ I2 r1 r2 q2) λold s3 hz=>?_;let⟨x3,H3,I3,r3,q3⟩:=hz;refine thn (he pq s3 σ H3 _ I3 q3) λv s4 hz=>?_;let⟨x4,H4,I4,r4,q4⟩:=hz;refine thn (hp pq s4 σ H4 x3 x4 old v _ I4 r3 r4 q4) λnew s5 hz=>?_;let⟨x5,H5,I5,r5,q5⟩:=hz;exact thn (hs pq s5 σ H5 x1 x2 x5 ov iv new _ I5 r1 r2 r5 q5) λ_ s6⟨H6,I6,q6⟩=>⟨σ,H6,I6,q6⟩
def ipI(f:Int->Int->Int):TIp:=λx y H Q=>∃i j,x=.int i/\y=.int j/\Q (.int (f i j)) H
def Zmo:PIp X .Add (ipI λi j=>i+j):=by
 intro pq s σ H x y v u Q I r1 r2 h;let⟨i,j,e1,e2,q⟩:=h;subst e1;subst e2;let⟨t,rfl⟩:=r1;let⟨t',rfl⟩:=r2;exact iadd_int ⟨.int _,H,I.tok _,⟨_,rfl⟩,q⟩
end
section
def Zga(c:TT)(tb:TS):TS:=λD σ H=>∃W:Nat->St->Hp->Prop,(∃m,W m σ H)/\∀m σ H,W m σ H ->
 c σ H λb H1=>if b=true then ∃N:St->Hp->Prop,(∀σ' H',N σ' H'->∃m',m'<m/\W m' σ' H')/\tb {D with nx:=N,ct:=N,bk:=D.nx} σ H1 else D.nx σ H1
theorem Zd5{c:Expr}{tb:TS}(hp:PassesOwn (Cd X.prog X.w) X.A X.env X.xe)(hc:PT X c tc)(hb:PSs X body tb):PS X (.While c body [] pos) (Zga tc tb):=by
 intro pq s σ H D I h;let⟨W,⟨m0,w0⟩,turn⟩:=h;refine wpAny_While (codeAny_whileLoop (λn s'=>∃σ' H',Inv X pq σ' H' s'/\W n σ' H') ?_ m0 ⟨σ,H,I,w0⟩);rintro n s1 ⟨σ1,H1,I1,w1⟩;refine E5 hp (thn (hc pq s1 σ1 H1 _ I1 (turn n σ1 H1 w1)) λb s2 hz=>?_);let⟨H2,I2,q2⟩:=hz;cases b with
 |true =>
  let⟨N,hN,q2⟩:=q2;rw[Fs rfl];refine E5 hp (thn (hb pq s2 σ1 H2 _ I2 q2) λf s3 q3=>?_);cases f with
  |next =>
   let⟨σ3,H3,I3,n3⟩:=q3;let⟨m',hm,w3⟩:=hN σ3 H3 n3;exists m',hm,σ3,H3,I3,w3
  |cont =>
   let⟨σ3,H3,I3,n3⟩:=q3;let⟨m',hm,w3⟩:=hN σ3 H3 n3;exists m',hm,σ3,H3,I3,w3
  |brk=>exact q3
  |ret v=>exact q3
 |false =>
  rw[Fp Jj];exact E4 ⟨σ1,H2,I2,q2⟩
end
structure It where
 go:Nat->Hp->Prop
 yld:Nat->Hp->V->Hp->Prop
 stop:Nat->Hp->Prop
def FpOk(X:Cx)(pq:List (Addr×Obj))(H:Hp)(b:Addr):Prop :=
 H b=none/\b≠X.env.locals/\b∉X.fs/\(b∈X.ex\/X.s₀.heap.objs.size<=b)/\(∀x c,X.env.cells.lookup x=some c->c≠b)/\∀p∈X.pn++pq,p.1≠b
def Inv.fpOk(I:Inv X pq σ H s)(hb:s.heap.objs.size<=b)(hn:H' b=none):FpOk X pq H' b:=by
 exists hn,Fe (Jy I.lt hb),I.nofs hb,.inr (J0 I.sz hb),λx c e z=>?_,λp hp z=>?_
 .let⟨v,q⟩:=I.cell x c e;exact absurd (Jy q.lt (by rw[z];exact hb)) (Gw _)
 .exact absurd (Jy (Fo (I.pin p hp).1) (by rw[z];exact hb)) (Gw _)
structure Turn(P:Ep)(w:Ct)(K:Cp)(tg:Expr)(J:It)(fp:List Addr)(it:Addr)(tn:Nat->Heap->Prop):Prop where
 mem:it∈fp
 obj:∀i h,tn i h->∀b∈fp,∃o,h.get? b=some o/\∀v,o.data≠.cell v
 keep:∀i h h',tn i h->(∀b∈fp,∀o,h.get? b=some o->h'.get? b=some o)->tn i h'
 item:∀(X:Cx),X.prog=P->X.w=w->X.K=K->X.calm=true->∀(i:Nat)(pq:List (Addr×Obj))(s:Ca)(σ:St)(H:Hp)(E:Value->Ca->Prop),Inv X pq σ H s->(∀b∈fp,FpOk X pq H b)->tn i s.heap->J.go i H ->
  Cc (Cd P w) X.A (Jd0 (.ref it)) (λr s1=>∃u,r=some u /\
   Cc (Cd P w) X.A (Kj tg (.ref it) u) (λ_ s2=>∃x H',Inv X pq σ H' s2/\RelV x u/\J.yld i H x H'/\tn (i+1) s2.heap/\∀b∈fp,H' b=none) E s1) E s
 done:∀(X:Cx),X.prog=P->X.w=w->X.K=K->X.calm=true->∀(i:Nat)(pq:List (Addr×Obj))(s:Ca)(σ:St)(H:Hp)(E:Value->Ca->Prop),Inv X pq σ H s->(∀b∈fp,FpOk X pq H b)->tn i s.heap->J.stop i H ->
  Cc (Cd P w) X.A (Jd0 (.ref it)) (λr s1=>r=none/\Inv X pq σ H s1) E s
 self:∀(A:L6)(i:Nat)(s:Ca)(Q:Value->Ca->Prop)(E:Value->Ca->Prop),tn i s.heap->Q (.ref it) s->Cc (Cd P w) A (pyIter (.ref it)) Q E s
abbrev TI:=St->Hp->(It->Hp->Prop)->Prop
variable{wi:L2.TI}
def PIE(X:Cx)(pq:List (Addr×Obj))(σ:St)(tg:Expr)(R:It->Hp->Prop)(itv:Value)(s2:Ca):Prop :=
 ∃(it:Addr)(fp:List Addr)(tn:Nat->Heap->Prop)(J:It)(H':Hp),itv=.ref it/\Inv X pq σ H' s2/\Turn X.prog X.w X.K tg J fp it tn/\tn 0 s2.heap/\(∀b∈fp,FpOk X pq H' b)/\R J H'
def PI(X:Cx)(tg iter:Expr)(wi:TI):Prop :=
 ∀(pq:List (Addr×Obj))(s:Ca)(σ:St)(H:Hp)(R:It->Hp->Prop),Inv X pq σ H s->wi σ H R ->
  Cc (Cd X.prog X.w) X.A (eval iter X.env) (λv s1=>Cc (Cd X.prog X.w) X.A (pyIter v) (PIE X pq σ tg R) X.xe s1) X.xe s
def Ziq{M:Jge}{u:Value}{o:Obj}{n:String}{vs:Array Value}{Q:Unit->Ca->Prop}(ho:s.heap.get? it=some o)(hc:o.cls=.type n)(hd:o.data=.fields vs)(hn:["enumerate","zip","dict_itemiterator","dict_reverseitemiterator","odict_iterator","itertools.zip_longest","itertools.pairwise"].contains n=false)(hQ:Q ⟨⟩ s):Cc M A (Kj tg (.ref it) u) Q E s:=by
  unfold Kj;cases tg<;>first
    |exact Fl hQ
    | (cases u <;> first
        |exact Fl hQ
        | (refine Fk (Jeo ho ?_)
           rw[hc,hd];show Cc M A (if(["enumerate","zip","dict_itemiterator","dict_reverseitemiterator","odict_iterator","itertools.zip_longest","itertools.pairwise"].contains n&&vs[0]? == some (Et _))=true then _ else _) Q E s;rw[Fp (by intro h;rw[hn,Jgf]at h;cases h)];exact Fl hQ))
def Itl(K:Cp)(a:Addr):It :=
 ⟨λi H=>∃xs x,SqL K H a xs/\xs[i]?=some x,λi H x H'=>H'=H/\∀xs,SqL K H a xs->xs[i]?=some x,λi H=>∃xs,SqL K H a xs/\xs.length<=i⟩
def Itt(K:Cp)(a:Addr):It :=
 ⟨λi H=>∃xs x,SqT K H a xs/\xs[i]?=some x,λi H x H'=>H'=H/\∀xs,SqT K H a xs->xs[i]?=some x,λi H=>∃xs,SqT K H a xs/\xs.length<=i⟩
def Itr(lo:Int)(n:Nat):It:=⟨λi _=>i<n,λi H x H'=>H'=H/\x=.int (lo+i),λi _=>n<=i⟩
theorem Zf5{w:Ct}(a it:Addr):Turn P w K tg (Itl K a) [it] it (λi h=>h.IsListIter it a i) where
 mem:=by simp
 obj:=λi h st b hb=>by
  let e:b=it:=by simpa using hb
  subst e;let⟨o,e,c,d⟩:=st;exact⟨o,e,λv z=>by rw[d]at z;cases z⟩
 keep:=λi h h' st k=>st.at λo e=>k it (by simp) o e
 item:=by
  intro X hP hw hK hc i pq s σ H E I hf st hg;subst hP hw hK;let⟨xs,x,hq,hx⟩:=hg;let⟨its,rv,p,hz⟩:=I.list hq;let⟨u,hu,ru⟩:=rv.get hx;let⟨f0,f1,f2,f3,f4,f5⟩:=hf it (by simp);refine Jcq st p.isList (x:=u) (by simpa using hu) λh' st' sb=>?_;let I1:Inv X pq σ H {s with heap:=h'}:=I.turned (t':=s.toks) (λb o hb e=>(sb.2 b hb).trans e) f0 f1 f3 f4 f5;let⟨o,e,c,d⟩:=id st';exists u,rfl,Ziq (s:={s with heap:=h'}) e c d nofun ⟨x,H,I1,ru,⟨rfl,λys hy=>by rw[I.list_inj hy hq];exact hx⟩,st',λb hb=>(hf b hb).1⟩
 done:=by
  intro X hP hw hK hc i pq s σ H E I hf st hg;subst hP hw hK;let⟨xs,hq,hx⟩:=hg;let⟨its,rv,p,hz⟩:=I.list hq;let⟨f0,f1,f2,f3,f4,f5⟩:=hf it (by simp);let hl:=rv.length;exact Jc1 (I.ok.hd hc) st p.isList (by simp;lia) λh' eb=>⟨rfl,I.turned (t':=s.toks) (λb o hb e=>eb b o hb e) f0 f1 f3 f4 f5⟩
 self:=λ_ _ _ _ _ st h=>wpAny_pyIter_listiter st h
theorem Ze0{w:Ct}(a it:Addr):Turn P w K tg (Itt K a) [it] it (λi h=>h.IsTupleIter it a i) where
 mem:=by simp
 obj:=λi h st b hb=>by
  let e:b=it:=by simpa using hb
  subst e;let⟨o,e,c,d⟩:=st;exact⟨o,e,λv z=>by rw[d]at z;cases z⟩
 keep:=λi h h' st k=>st.at λo e=>k it (by simp) o e
 item:=by
  intro X hP hw hK hc i pq s σ H E I hf st hg;subst hP hw hK;let⟨xs,x,hq,hx⟩:=hg;let⟨its,rv,p,hz⟩:=I.tuple hq;let⟨u,hu,ru⟩:=rv.get hx;let⟨f0,f1,f2,f3,f4,f5⟩:=hf it (by simp);refine Ja1 st (show s.heap.IsTuple a its.toArray from p) (x:=u) (by simpa using hu) λh' st' sb=>?_;let I1:Inv X pq σ H {s with heap:=h'}:=I.turned (t':=s.toks) (λb o hb e=>(sb.2 b hb).trans e) f0 f1 f3 f4 f5;let⟨o,e,c,d⟩:=id st';exists u,rfl,Ziq (s:={s with heap:=h'}) e c d nofun ⟨x,H,I1,ru,⟨rfl,λys hy=>by rw[I.tuple_inj hy hq];exact hx⟩,st',λb hb=>(hf b hb).1⟩
 done:=by
  intro X hP hw hK hc i pq s σ H E I hf st hg;subst hP hw hK;let⟨xs,hq,hx⟩:=hg;let⟨its,rv,p,hz⟩:=I.tuple hq;let⟨f0,f1,f2,f3,f4,f5⟩:=hf it (by simp);let hl:=rv.length;exact Jcr (I.ok.hd hc) st (show s.heap.IsTuple a its.toArray from p) (by simp;lia) λh' eb=>⟨rfl,I.turned (t':=s.toks) (λb o hb e=>eb b o hb e) f0 f1 f3 f4 f5⟩
 self:=λ_ _ _ _ _ st h=>wpAny_pyIter_tupleiter st h
theorem Ze1{w:Ct}(it:Addr)(lo:Int)(n:Nat):Turn P w K tg (Itr lo n) [it] it (λi h=>IsRangeIter h it (lo+(i:Nat)*1) ((n:Int)-(i:Nat)) 1) where
 mem:=by simp
 obj:=λi h st b hb=>by
  let e:b=it:=by simpa using hb
  subst e;exact⟨_,st,λv z=>by
   let z':Jfv _=Data.cell v:=z;cases z'⟩
 keep:=λi h h' st k=>k it (by simp) _ st
 item:=by
  intro X hP hw hK hc i pq s σ H E I hf st hg;subst hP hw hK;let⟨f0,f1,f2,f3,f4,f5⟩:=hf it (by simp);let W:=Walks.range (prog:=X.prog) (w:=X.w) (I.ok.hd hc) it lo 1 n;refine W.item i s _ _ hg st λv h' tk hv st' kk=>?_;let⟨t,rfl⟩:=hv;let I1:Inv X pq σ H {s with heap:=h',toks:=tk}:=I.turned (λb o hb e=>kk b o (by simpa using hb) e) f0 f1 f3 f4 f5;exists ·,Ziq (s:={s with heap:=h',toks:=tk}) (n:="range_iterator") st' rfl rfl nofun ⟨.int (lo+i),H,I1,⟨t,?_⟩,⟨rfl,rfl⟩,st',λb hb=>(hf b hb).1⟩;rw[Jia]
 done:=by
  intro X hP hw hK hc i pq s σ H E I hf st hg;subst hP hw hK;let⟨f0,f1,f2,f3,f4,f5⟩:=hf it (by simp);exact wpAny_pyNext_range_end (I.ok.hd hc) st (by have:n<=i:=hg;lia) λh' eb=>⟨rfl,I.turned (t':=s.toks) (λb o hb e=>eb b o hb e) f0 f1 f3 f4 f5⟩
 self:=λ_ _ _ _ _ st h=>wpAny_pyIter_rangeiter st h
section
def Zse(K:Cp)(tl:TE):TI:=λσ H R=>tl σ H λx H1=>∃a,x=.ref a/\(∃xs,SqL K H1 a xs)/\R (Itl K a) H1
def iTup(K:Cp)(tl:TE):TI:=λσ H R=>tl σ H λx H1=>∃a,x=.ref a/\(∃xs,SqT K H1 a xs)/\R (Itt K a) H1
def X0{l:Expr}{tl:TE}(hl:PE X l tl):PI X tg l (Zse X.K tl):=by
 intro pq s σ H R I h;refine thn (hl pq s σ H _ I h) λv s1 hz=>?_;let⟨x,H1,I1,r1,q1⟩:=hz;let⟨a,e,⟨xs,hq⟩,q⟩:=q1;subst e;cases r1;let⟨its,rv,p,hz⟩:=I1.list hq;refine Mo p.isList ?_;exists s1.heap.objs.size,[s1.heap.objs.size],_,_,H1,rfl,I1.kept (t':=s1.toks) λb o e=>Fm _ e,Zf5 a _,⟨_,Fn _ rfl,rfl,rfl⟩,λb hb=>?_,q;let e:b=s1.heap.objs.size:=by simpa using hb
 subst e;exact I1.fpOk (Je _) (I1.hok.fresh (Je _))
def Pd{l:Expr}{tl:TE}(hl:PE X l tl):PI X tg l (iTup X.K tl):=by
 intro pq s σ H R I h;refine thn (hl pq s σ H _ I h) λv s1 hz=>?_;let⟨x,H1,I1,r1,q1⟩:=hz;let⟨a,e,⟨xs,hq⟩,q⟩:=q1;subst e;cases r1;let⟨its,rv,p,hz⟩:=I1.tuple hq;refine Jd1 (show s1.heap.IsTuple a its.toArray from p) ?_;exists s1.heap.objs.size,[s1.heap.objs.size],_,_,H1,rfl,I1.kept (t':=s1.toks) λb o e=>Fm _ e,Ze0 a _,⟨_,Fn _ rfl,rfl,rfl⟩,λb hb=>?_,q;let e:b=s1.heap.objs.size:=by simpa using hb
 subst e;exact I1.fpOk (Je _) (I1.hok.fresh (Je _))
theorem Zd4{R:It->Hp->Prop}{hi:Int}{t u v:Tok}{tk:Nat}(I:Inv X pq σ H s)(h1:-(2 ^ 62)<=lo)(h2:lo<2 ^ 62)(h3:-(2 ^ 62)<=hi)(h4:hi<2 ^ 62)(q:R (Itr lo (hi-lo).toNat) H):Cc (Cd X.prog X.w) X.A (pyIter (.ref s.heap.objs.size)) (PIE X pq σ tg R) E {s with heap:=s.heap.push {cls:=.type "range",data:=.fields #[.int lo t,.int hi u,.int 1 v]},toks:=tk}:=by
 refine wpAny_pyIter_range (IsRange.new ..) (small_one h1 h2 h3 h4) ?_;let I1:Inv X pq σ H {s with heap:=s.heap.push {cls:=.type "range",data:=.fields #[.int lo t,.int hi u,.int 1 v]},toks:=tk}:=I.kept λb o e=>Fm _ e;refine⟨(s.heap.push {cls:=.type "range",data:=.fields #[.int lo t,.int hi u,.int 1 v]}).objs.size,[(s.heap.push {cls:=.type "range",data:=.fields #[.int lo t,.int hi u,.int 1 v]}).objs.size],_,_,H,rfl,
  I1.kept (t':=tk) λb o e=>Fm _ e,Ze1 _ lo (hi-lo).toNat,?_,λb hb=>?_,q⟩
 .let e1:lo+((0:Nat):Int)*1=lo:=by simp
  let e2:(((hi-lo).toNat:Nat):Int)-((0:Nat):Int)=Ja2 lo hi 1:=by rw[rangeSize_one];split<;>lia
  show IsRangeIter _ _ (lo+((0:Nat):Int)*1) ((((hi-lo).toNat:Nat):Int)-((0:Nat):Int)) 1;rw[e1,e2];exact Fn _ rfl
 .let e:b=(s.heap.push {cls:=.type "range",data:=.fields #[.int lo t,.int hi u,.int 1 v]}).objs.size:=by simpa using hb
  subst e;exact I1.fpOk (Je _) (I1.hok.fresh (Je _))
def Zsd(ta:TA):TI:=λσ H R=>ta σ H λvs H1=>∃j:Int,vs=[.int j]/\-(2 ^ 62)<=j/\j<2 ^ 62/\R (Itr 0 j.toNat) H1
def Zsc(ta:TA):TI:=λσ H R=>ta σ H λvs H1=>∃i j:Int,vs=[.int i,.int j]/\(-(2 ^ 62)<=i/\i<2 ^ 62/\-(2 ^ 62)<=j/\j<2 ^ 62)/\R (Itr i (j-i).toNat) H1
theorem Yi{a:Expr}{ta:TA}{p:Pos}(hg:Gl X "range")(hm:X.mg "range"=none)(ha:PA X [a] ta)(hs:Ch [a] X.env=[(false,eval a X.env)]:=by rfl):PI X tg (.Call (.Name "range" p) [a] [] pos) (Zsd ta):=by
 intro pq s σ H R I h;refine Call_ (Tp I hg hm boot_range (C5 (thn (ha pos pq s σ H _ I h) λus s1 hz=>?_) hs rfl));let⟨vs,H1,I1,r1,q1⟩:=hz;let⟨j,e,q1,q2,q⟩:=q1;subst e;cases r1 with
 |cons r rr =>
  cases rr;let⟨t,rfl⟩:=r;exact call_range_1 (Zd4 I1 () () q1 q2 (by simpa using q))
theorem Za1{a b:Expr}{ta:TA}{p:Pos}(hg:Gl X "range")(hm:X.mg "range"=none)(ha:PA X [a,b] ta)(hs:Ch [a,b] X.env=[(false,eval a X.env),(false,eval b X.env)]:=by rfl)(hs2:Ch [b] X.env=[(false,eval b X.env)]:=by rfl) :
  PI X tg (.Call (.Name "range" p) [a,b] [] pos) (Zsc ta):=by
 intro pq s σ H R I h;refine Call_ (Tp I hg hm boot_range (C5 (thn (ha pos pq s σ H _ I h) λus s1 hz=>?_) (by rw[hs,hs2]) (by rw[hs2];rfl)));let⟨vs,H1,I1,r1,q1⟩:=hz;let⟨i,j,e,⟨q1,q2,q3,q4⟩,q⟩:=q1;subst e;cases r1 with
 |cons r rr =>
  cases rr with
  |cons r' rr =>
   cases rr;let⟨t,rfl⟩:=r;let⟨t',rfl⟩:=r';exact call_range_2 (Zd4 I1 q1 q2 q3 q4 q)
def tFor(wi:TI)(g:TG)(tb:TS):TS:=λD σ H=>wi σ H λJ H1=>∃W:Nat->Nat->St->Hp->Prop,(∃m,W 0 m σ H1)/\∀i m σ H,W i m σ H ->
 (J.stop i H/\D.nx σ H)\/(J.go i H/\∃N:St->Hp->Prop,(∀σ' H',N σ' H'->∃m',m'<m/\W (i+1) m' σ' H')/\∀x H',J.yld i H x H'->g x σ H' λσ2 H2=>tb {D with nx:=N,ct:=N,bk:=D.nx} σ2 H2)
def Pc(fp:List Addr)(h:Heap):List (Addr×Obj):=fp.filterMap λb=>(h.get? b).map λo=>(b,o)
def X8{o:Obj}(hb:b∈fp)(e:h.get? b=some o):(b,o)∈Pc fp h:=List.mem_filterMap.mpr ⟨b,hb,by rw[e];rfl⟩
theorem Zhv{p:Addr×Obj}(hp:p∈Pc fp h):p.1∈fp/\h.get? p.1=some p.2:=by
 let⟨b,hb,e⟩:=List.mem_filterMap.mp hp;cases q:h.get? b with
 |none=>rw[q]at e;cases e
 |some o =>
  rw[q]at e;let e':(b,o)=p:=Fv e;subst e';exists hb,q
def Inv.pinned(I:Inv X pq σ H s)(hf:∀b∈fp,FpOk X pq H b)(ho:∀b∈fp,∃o,s.heap.get? b=some o/\∀v,o.data≠.cell v):Inv X (pq++Pc fp s.heap) σ H s :=
 I.pins_of λp hp=>(Ga.mp hp).elim (λz=>I.pin p (Jl _ z)) λz=>by
  let⟨hb,e⟩:=Zhv z;let⟨f0,f1,f2,_⟩:=hf p.1 hb;let⟨o,e',d⟩:=ho p.1 hb;rw[e]at e';cases e';exists e,f0,f1,f2,d
def Inv.unpinned{pl:List (Addr×Obj)}(I:Inv X (pq++pl) σ H s):Inv X pq σ H s:=I.pins_of λp hp=>I.pin p (Jl _ (Gz _ hp))
def Y2{tb:TS}(hp:PassesOwn (Cd X.prog X.w) X.A X.env X.xe)(hc:X.calm=true)(hi:PI X tg iter wi)(hg:PG X tg g)(hb:PSs X body tb)(hs:∀x,Ks iter X.env x=pure x:=by intro _;rfl):PS X (.For tg iter body [] pos) (tFor wi g tb):=by
 intro pq s σ H D I h;refine wpAny_For (thn (hi pq s σ H _ I h) λv s1 h1=>thn h1 λitv s2 h2=>?_) hs;let⟨it,fp,tn,J,H2,e,I2,T,st2,f2,W,⟨m0,w0⟩,turn⟩:=h2;subst e;let stat:∀{H':Hp},(∀b∈fp,H' b=none)->∀b∈fp,FpOk X pq H' b:=λhn b hb=>⟨hn b hb,(f2 b hb).2⟩;refine codeAny_forLoop_any (λn s'=>∃i σ' H',Inv X pq σ' H' s'/\tn i s'.heap/\(∀b∈fp,H' b=none)/\W i n σ' H') ?_ m0 ⟨0,σ,H2,I2,st2,λb hb=>(f2 b hb).1,w0⟩;rintro n s3 ⟨i,σ3,H3,I3,st3,fr3,w3⟩;rcases turn i n σ3 H3 w3 with⟨stop,qn⟩|⟨go,N,hN,step⟩
 .refine E5 hp (thn (T.done X rfl rfl rfl hc i pq s3 σ3 H3 X.xe I3 (stat fr3) st3 stop) λr s4 hz=>?_);let⟨hr,I4⟩:=hz;subst hr;exact E4 ⟨σ3,H3,I4,qn⟩
 .refine E5 hp (thn (T.item X rfl rfl rfl hc i pq s3 σ3 H3 X.xe I3 (stat fr3) st3 go) λr s4 hz=>?_);let⟨u,hr,h4⟩:=hz;subst hr;refine E5 hp (thn h4 λ_ s5 hz=>?_);let⟨x,H5,I5,r5,y5,st5,fr5⟩:=hz;let I5':=I5.pinned (stat fr5) (T.obj _ _ st5);refine E5 hp (thn (hg _ s5 σ3 H5 x u _ I5' r5 (step x H5 y5)) λ_ s6 hz=>?_);let⟨σ6,H6,I6,q6⟩:=hz;refine E5 hp (thn (hb _ s6 σ6 H6 _ I6 q6) λf s7 q7=>?_);let again:∀{σ7:St}{H7:Hp},Inv X (pq++Pc fp s5.heap) σ7 H7 s7->N σ7 H7->∃m,m<n/\∃i σ' H',Inv X pq σ' H' s7/\tn i s7.heap/\(∀b∈fp,H' b=none)/\W i m σ' H':=λ{σ7 H7}I7 n7=>by
   let⟨m',hm,w7⟩:=hN σ7 H7 n7;exists m',hm,i+1,σ7,H7,I7.unpinned,T.keep _ _ _ st5 λb hb o e=>(I7.pin (b,o) (Jl _ (Jl _ (X8 hb e)))).1,λb hb=>?_,w7;let⟨o,e,d⟩:=T.obj _ _ st5 b hb;exact(I7.pin (b,o) (Jl _ (Jl _ (X8 hb e)))).2.1
  cases f with
  |next=>obtain⟨σ7,H7,I7,n7⟩:=q7;exact again I7 n7
  |cont=>obtain⟨σ7,H7,I7,n7⟩:=q7;exact again I7 n7
  |brk=>obtain⟨σ7,H7,I7,q7⟩:=q7;exists σ7,H7,I7.unpinned,q7
  |ret v=>obtain⟨x7,σ7,H7,I7,r7,q7⟩:=q7;exists x7,σ7,H7,I7.unpinned,r7,q7
end
theorem Zlh{a:Addr}{tb:TS}{D:Ends}(Pv:Nat->St->Hp->Prop)(h0:Pv 0 σ H)(hl:∀i σ H,i<=xs.length->Pv i σ H->SqL K H a xs)(hs:∀i x σ H,xs[i]?=some x->Pv i σ H->g x σ H λσ2 H2=>tb {D with nx:=Pv (i+1),ct:=Pv (i+1),bk:=D.nx} σ2 H2)(hd:∀σ H,Pv xs.length σ H->D.nx σ H) :
  ∃W:Nat->Nat->St->Hp->Prop,(∃m,W 0 m σ H)/\∀i m σ H,W i m σ H ->
   ((Itl K a).stop i H/\D.nx σ H)\/((Itl K a).go i H/\∃N:St->Hp->Prop,(∀σ' H',N σ' H'->∃m',m'<m/\W (i+1) m' σ' H')/\∀x H',(Itl K a).yld i H x H'->g x σ H' λσ2 H2=>tb {D with nx:=N,ct:=N,bk:=D.nx} σ2 H2):=by
 exists λi m σ H=>m=xs.length-i/\i<=xs.length/\Pv i σ H,⟨xs.length,by simp,Gf _,h0⟩,?_;rintro i m σ H ⟨rfl,hi,p⟩;let q:=hl i σ H hi p
 by_cases hlt:i<xs.length
 .refine .inr ⟨⟨xs,xs[i],q,by simp[hlt]⟩,Pv (i+1),λσ' H' p'=>⟨xs.length-(i+1),(),rfl,hlt,p'⟩,λx H' y=>?_⟩;let⟨e,y⟩:=y;subst e;exact hs i x σ _ (y xs q) p
 .let e:i=xs.length:=by lia
  subst e;exact .inl ⟨⟨xs,q,Je _⟩,hd σ H p⟩
theorem Zo3{a:Addr}{tb:TS}{D:Ends}(Pv:Nat->St->Hp->Prop)(h0:Pv 0 σ H)(hl:∀i σ H,i<=xs.length->Pv i σ H->SqT K H a xs)(hs:∀i x σ H,xs[i]?=some x->Pv i σ H->g x σ H λσ2 H2=>tb {D with nx:=Pv (i+1),ct:=Pv (i+1),bk:=D.nx} σ2 H2)(hd:∀σ H,Pv xs.length σ H->D.nx σ H) :
  ∃W:Nat->Nat->St->Hp->Prop,(∃m,W 0 m σ H)/\∀i m σ H,W i m σ H ->
   ((Itt K a).stop i H/\D.nx σ H)\/((Itt K a).go i H/\∃N:St->Hp->Prop,(∀σ' H',N σ' H'->∃m',m'<m/\W (i+1) m' σ' H')/\∀x H',(Itt K a).yld i H x H'->g x σ H' λσ2 H2=>tb {D with nx:=N,ct:=N,bk:=D.nx} σ2 H2):=by
 exists λi m σ H=>m=xs.length-i/\i<=xs.length/\Pv i σ H,⟨xs.length,by simp,Gf _,h0⟩,?_;rintro i m σ H ⟨rfl,hi,p⟩;let q:=hl i σ H hi p
 by_cases hlt:i<xs.length
 .refine .inr ⟨⟨xs,xs[i],q,by simp[hlt]⟩,Pv (i+1),λσ' H' p'=>⟨xs.length-(i+1),(),rfl,hlt,p'⟩,λx H' y=>?_⟩;let⟨e,y⟩:=y;subst e;exact hs i x σ _ (y xs q) p
 .let e:i=xs.length:=by lia
  subst e;exact .inl ⟨⟨xs,q,Je _⟩,hd σ H p⟩
theorem Tt{n:Nat}{tb:TS}{D:Ends}(Pv:Nat->St->Hp->Prop)(h0:Pv 0 σ H)(hs:∀i σ H,i<n->Pv i σ H->g (.int (lo+i)) σ H λσ2 H2=>tb {D with nx:=Pv (i+1),ct:=Pv (i+1),bk:=D.nx} σ2 H2)(hd:∀σ H,Pv n σ H->D.nx σ H) :
  ∃W:Nat->Nat->St->Hp->Prop,(∃m,W 0 m σ H)/\∀i m σ H,W i m σ H ->
   ((Itr lo n).stop i H/\D.nx σ H)\/((Itr lo n).go i H/\∃N:St->Hp->Prop,(∀σ' H',N σ' H'->∃m',m'<m/\W (i+1) m' σ' H')/\∀x H',(Itr lo n).yld i H x H'->g x σ H' λσ2 H2=>tb {D with nx:=N,ct:=N,bk:=D.nx} σ2 H2):=by
 exists λi m σ H=>m=n-i/\i<=n/\Pv i σ H,⟨n,by simp,Gf _,h0⟩,?_;rintro i m σ H ⟨rfl,hi,p⟩
 by_cases hlt:i<n
 .refine .inr ⟨hlt,Pv (i+1),λσ' H' p'=>⟨n-(i+1),(),rfl,hlt,p'⟩,λx H' y=>?_⟩;let⟨e,y⟩:=y;subst e y;exact hs i σ _ hlt p
 .let e:i=n:=by lia
  subst e;exact .inl ⟨Je _,hd σ H p⟩
theorem Zj5{c:TT}{tb:TS}{D:Ends}(Pv:St->Hp->Prop)(μ:St->Hp->Nat)(h0:Pv σ H)(hs:∀σ H,Pv σ H->c σ H λb H1=>if b=true then tb {D with nx:=λσ' H'=>Pv σ' H'/\μ σ' H' < μ σ H,ct:=λσ' H'=>Pv σ' H'/\μ σ' H' < μ σ H,bk:=D.nx} σ H1 else D.nx σ H1)(mono:∀σ H Q Q',(∀b H1,Q b H1->Q' b H1)->c σ H Q->c σ H Q'):Zga c tb D σ H:=by
 exists λm σ H=>m=μ σ H/\Pv σ H,⟨_,rfl,h0⟩,?_;rintro m σ H ⟨rfl,p⟩;refine mono σ H _ _ (λb H1 q=>?_) (hs σ H p);cases b with
 |true=>exact⟨_,λσ' H'⟨p',l⟩=>⟨_,l,rfl,p'⟩,q⟩
 |false=>exact q
abbrev R2:=V->V->Hp->VK->Prop
variable{r:L2.R2}
def OpR(X:Cx)(f:Value->Value->Sem Value)(r:R2):Prop :=
 ∀(pq:List (Addr×Obj))(s:Ca)(σ:St)(H:Hp)(x y:V)(v u:Value)(Q:VK),Inv X pq σ H s->RelV x v->RelV y u->r x y H Q ->
  Cc (Cd X.prog X.w) X.A (f v u) (EP X pq σ Q) X.xe s
def UnR(X:Cx)(f:Value->Sem Value)(r:V->Hp->VK->Prop):Prop :=
 ∀(pq:List (Addr×Obj))(s:Ca)(σ:St)(H:Hp)(x:V)(v:Value)(Q:VK),Inv X pq σ H s->RelV x v->r x H Q ->
  Cc (Cd X.prog X.w) X.A (f v) (EP X pq σ Q) X.xe s
def Vj(X:Cx)(f:Value)(r:List V->Hp->VK->Prop):Prop :=
 ∀(pq:List (Addr×Obj))(s:Ca)(σ:St)(H:Hp)(xs:List V)(us:List Value)(Q:VK),Inv X pq σ H s->Vals xs us->r xs H Q ->
  Cc (Cd X.prog X.w) X.A (call f us) (EP X pq σ Q) X.xe s
def tOp(r:R2)(ta tb:TE):TE:=λσ H Q=>ta σ H λx H1=>tb σ H1 λy H2=>r x y H2 Q
def tUn(r:V->Hp->VK->Prop)(ta:TE):TE:=λσ H Q=>ta σ H λx H1=>r x H1 Q
def rI(C:Int->Int->Prop)(g:Int->Int->V):R2:=λx y H Q=>∃i j,x=.int i/\y=.int j/\C i j/\Q (g i j) H
def rI0(g:Int->Int->V):R2:=λx y H Q=>∃i j,x=.int i/\y=.int j/\Q (g i j) H
def rU(g:Int->V):V->Hp->VK->Prop:=λx H Q=>∃i,x=.int i/\Q (g i) H
section
variable{a b:Expr} 
def binT(ha:PE X a ta)(hb:PE X b tb){R:V->V->Hp->Prop}(I:Inv X pq σ H s)(h:ta σ H λx H1=>tb σ H1 λy H2=>R x y H2){Q:Value->Ca->Prop}{f:Value->Value->Sem Value}(hf:∀v u s2 x y H2,Inv X pq σ H2 s2->RelV x v->RelV y u->R x y H2->Cc (Cd X.prog X.w) X.A (f v u) Q X.xe s2) :
  Cc (Cd X.prog X.w) X.A (eval a X.env) (λv s₁=>Cc (Cd X.prog X.w) X.A (eval b X.env) (λu s₂=>Cc (Cd X.prog X.w) X.A (f v u) Q X.xe s₂) X.xe s₁) X.xe s:=by
 refine thn (ha pq s σ H _ I h) λv s1 hz=>?_;let⟨x,H1,I1,r1,q1⟩:=hz;refine thn (hb pq s1 σ H1 _ I1 q1) λu s2 hz=>?_;let⟨y,H2,I2,r2,q2⟩:=hz;exact hf v u s2 x y H2 I2 r1 r2 q2
def Z3{op:Jhh}(ho:OpR X (Hi op) r)(ha:PE X a ta)(hb:PE X b tb):PE X (.BinOp a op b pos) (tOp r ta tb):=by
 intro pq s σ H Q I h;exact wpAny_BinOp (binT ha hb I h λv u s2 x y H2 I2 rx ry q=>ho pq s2 σ H2 x y v u Q I2 rx ry q)
def T6{op:UnaryOp}{r:V->Hp->VK->Prop}(ho:UnR X (unaryOp op) r)(ha:PE X a ta):PE X (.UnaryOp op a pos) (tUn r ta):=by
 intro pq s σ H Q I h;exact UnaryOp_ (thn (ha pq s σ H _ I h) λv s1⟨x,H1,I1,r1,q1⟩=>ho pq s1 σ H1 x v Q I1 r1 q1)
def opI{f:Value->Value->Sem Value}{C:Int->Int->Prop}{g:Int->Int->Int}(rule:∀(i j:Int)(t u:Tok)(s:Ca)(Q:Value->Ca->Prop)(E:Value->Ca->Prop),C i j->Q (.int (g i j) s.toks) {s with toks:=s.toks+1}->Cc (Cd X.prog X.w) X.A (f (.int i t) (.int j u)) Q E s) :
  OpR X f (rI C λi j=>.int (g i j)):=by
 intro pq s σ H x y v u Q I rx ry h;let⟨i,j,rfl,rfl,hc,q⟩:=h;let⟨t,rfl⟩:=rx;let⟨t',rfl⟩:=ry;exact rule i j t t' s _ _ hc ⟨.int (g i j),H,I.tok _,⟨_,rfl⟩,q⟩
def opI0{f:Value->Value->Sem Value}{g:Int->Int->Int}(rule:∀(i j:Int)(t u:Tok)(s:Ca)(Q:Value->Ca->Prop)(E:Value->Ca->Prop),Q (.int (g i j) s.toks) {s with toks:=s.toks+1}->Cc (Cd X.prog X.w) X.A (f (.int i t) (.int j u)) Q E s) :
  OpR X f (rI0 λi j=>.int (g i j)):=by
 intro pq s σ H x y v u Q I rx ry h;let⟨i,j,rfl,rfl,q⟩:=h;let⟨t,rfl⟩:=rx;let⟨t',rfl⟩:=ry;exact rule i j t t' s _ _ ⟨.int (g i j),H,I.tok _,⟨_,rfl⟩,q⟩
def opB0{f:Value->Value->Sem Value}{g:Int->Int->Bool}(rule:∀(i j:Int)(t u:Tok)(s:Ca)(Q:Value->Ca->Prop)(E:Value->Ca->Prop),Q (.bool (g i j)) s->Cc (Cd X.prog X.w) X.A (f (.int i t) (.int j u)) Q E s) :
  OpR X f (rI0 λi j=>.bl (g i j)):=by
 intro pq s σ H x y v u Q I rx ry h;let⟨i,j,rfl,rfl,q⟩:=h;let⟨t,rfl⟩:=rx;let⟨t',rfl⟩:=ry;exact rule i j t t' s _ _ ⟨.bl (g i j),H,I,rfl,q⟩
def CDiv(i j:Int):Prop:=0<j/\j<1073741824
def CPow(i j:Int):Prop:=0<=j/\j<=1000000/\i.natAbs<2 ^ 64
def CMul(i j:Int):Prop:=(-(2 ^ 64)<i/\i<2 ^ 64)\/(-(2 ^ 64)<j/\j<2 ^ 64)
def CMul.ok{i j:Int}(h:CMul i j):IntMulOk i j:=by
 rcases h with⟨h1,h2⟩|⟨h1,h2⟩
 .exact .of_left (intBits_le_64 h1 h2)
 .exact .of_right (intBits_le_64 h1 h2)
def X4:OpR X (Hi .Add) (rI0 λi j=>.int (i+j)):=opI0 λ_ _ _ _ _ _ _ q=>add_int q
def Zhn:OpR X (Hi .Sub) (rI0 λi j=>.int (i-j)):=opI0 λ_ _ _ _ _ _ _ q=>sub_int q
def Vv:OpR X (Hi .Mult) (rI CMul λi j=>.int (i*j)):=opI λ_ _ _ _ _ _ _ hc q=>mul_int q hc.ok
theorem Zhs:OpR X (Hi .FloorDiv) (rI CDiv λi j=>.int (i / j)):=opI λi j _ _ _ _ _ hc q=>by
 let h1:(0:Int)<j:=hc.1;let h2:j<1073741824:=hc.2;exact floordiv_int () (by rw[Int.fdiv_eq_ediv_of_nonneg i ()];exact q) (.inl (PyProof.noPylong_small ()))
theorem Xf:OpR X (Hi .Mod) (rI (λ_ j=>0<j) λi j=>.int (i % j)):=opI λi j _ _ _ _ _ hc q=>by
 let h1:(0:Int)<j:=hc;exact mod_int' () (by rw[Int.fmod_eq_emod_of_nonneg i ()];exact q)
def Zho:OpR X (Hi .Pow) (rI CPow λi j=>.int (i ^ j.toNat)):=opI λ_ _ _ _ _ _ _ hc q=>pow_int_small hc.1 hc.2.1 hc.2.2 q
def unI{f:Value->Sem Value}{g:Int->Int}(rule:∀(i:Int)(t:Tok)(s:Ca)(Q:Value->Ca->Prop)(E:Value->Ca->Prop),Q (.int (g i) s.toks) {s with toks:=s.toks+1}->Cc (Cd X.prog X.w) X.A (f (.int i t)) Q E s) :
  UnR X f (rU λi=>.int (g i)):=by
 intro pq s σ H x v Q I rx h;let⟨i,rfl,q⟩:=h;let⟨t,rfl⟩:=rx;exact rule i t s _ _ ⟨.int (g i),H,I.tok _,⟨_,rfl⟩,q⟩
def W2:UnR X (unaryOp .USub) (rU λi=>.int (-i)):=unI λ_ _ _ _ _ q=>neg_int q
end
def scal:V->V->Bool
 |.non,.non=>true|.non,.int _=>true|.int _,.non=>true|.non,.bl _=>true|.bl _,.non=>true|.non,.str _=>true|.str _,.non=>true
 |.int _,.int _=>true|.bl _,.bl _=>true|.str _,.str _=>true|.byt _,.byt _=>true
 |.int _,.str _=>true|.str _,.int _=>true|.bl _,.str _=>true|.str _,.bl _=>true
 |_,_=>false
def rEq:R2:=λx y H Q=>scal x y=true/\Q (.bl (decide (x=y))) H
def rNe:R2:=λx y H Q=>scal x y=true/\Q (.bl (!decide (x=y))) H
def Zi3{i j:Int}:decide (V.int i=V.int j)=(i==j):=by
 rw[Fd];simp
def Zmu{i j:Bool}:decide (V.bl i=V.bl j)=(i==j):=by
 rw[Fd];simp
def Zi2{i j:Str}:decide (V.str i=V.str j)=(i==j):=by
 rw[Fd];simp
def Zi4{i j:Array UInt8}:decide (V.byt i=V.byt j)=(i.toList==j.toList):=by
 rw[Fd];cases i;cases j;simp
section
variable{a b c:Expr} 
def Ym{k k':Bool}(I:Inv X pq σ H s)(q:Q (.bl k) H)(e:k=k'):EP X pq σ Q (.bool k') s:=by
 subst e;exists .bl k,H,I,rfl,q
theorem Zht:OpR X (Eh .Eq) rEq:=by
 intro pq s σ H x y v u Q I rx ry h;let⟨hs,q⟩:=h;cases x with
 |non =>
  cases rx;cases y with
  |non=>cases ry;exact Jgg (Ym I q (by simp))
  |bl j=>cases ry;exact Jgh (Ym I q (by simp))
  |int j=>obtain⟨t',rfl⟩:=ry;exact Jgt (Ym I q (by simp))
  |str j=>obtain⟨t',rfl⟩:=ry;exact Jgu (Ym I q (by simp))
  |_=>exact absurd (show false=true from hs) Jj
 |bl i =>
  cases rx;cases y with
  |non=>cases ry;exact Jgi (Ym I q (by simp))
  |bl j=>cases ry;exact eq_bool (Ym I q Zmu)
  |str j=>obtain⟨t',rfl⟩:=ry;exact Jgj (Ym I q (by simp))
  |_=>exact absurd (show false=true from hs) Jj
 |int i =>
  let⟨t,rfl⟩:=rx;cases y with
  |non=>cases ry;exact Jgv (Ym I q (by simp))
  |int j=>obtain⟨t',rfl⟩:=ry;exact eq_int (Ym I q Zi3)
  |str j=>obtain⟨t',rfl⟩:=ry;exact Jgw (Ym I q (by simp))
  |_=>exact absurd (show false=true from hs) Jj
 |str i =>
  let⟨t,rfl⟩:=rx;cases y with
  |non=>cases ry;exact Jgx (Ym I q (by simp))
  |bl j=>cases ry;exact Jgk (Ym I q (by simp))
  |int j=>obtain⟨t',rfl⟩:=ry;exact Jgy (Ym I q (by simp))
  |str j=>obtain⟨t',rfl⟩:=ry;exact eq_str (Ym I q Zi2)
  |_=>exact absurd (show false=true from hs) Jj
 |byt i =>
  let⟨t,rfl⟩:=rx;cases y with
  |byt j=>obtain⟨t',rfl⟩:=ry;exact W.eq_bytes (Ym I q Zi4)
  |_=>exact absurd (show false=true from hs) Jj
 |_=>cases y<;>exact absurd (show false=true from hs) Jj
theorem Zug:OpR X (Eh .NotEq) rNe:=by
 intro pq s σ H x y v u Q I rx ry h;let⟨hs,q⟩:=h;cases x with
 |non =>
  cases rx;cases y with
  |non=>cases ry;exact Jgl (Ym I q (by simp))
  |bl j=>cases ry;exact Jgm (Ym I q (by simp))
  |int j=>obtain⟨t',rfl⟩:=ry;exact Jgz (Ym I q (by simp))
  |str j=>obtain⟨t',rfl⟩:=ry;exact Jg0 (Ym I q (by simp))
  |_=>exact absurd (show false=true from hs) Jj
 |bl i =>
  cases rx;cases y with
  |non=>cases ry;exact Jgn (Ym I q (by simp))
  |bl j=>cases ry;exact ne_bool (Ym I q (congrArg not Zmu))
  |str j=>obtain⟨t',rfl⟩:=ry;exact Jgo (Ym I q (by simp))
  |_=>exact absurd (show false=true from hs) Jj
 |int i =>
  let⟨t,rfl⟩:=rx;cases y with
  |non=>cases ry;exact Jg1 (Ym I q (by simp))
  |int j=>obtain⟨t',rfl⟩:=ry;exact ne_int (Ym I q (congrArg not Zi3))
  |str j=>obtain⟨t',rfl⟩:=ry;exact Jg2 (Ym I q (by simp))
  |_=>exact absurd (show false=true from hs) Jj
 |str i =>
  let⟨t,rfl⟩:=rx;cases y with
  |non=>cases ry;exact Jg3 (Ym I q (by simp))
  |bl j=>cases ry;exact Jgp (Ym I q (by simp))
  |int j=>obtain⟨t',rfl⟩:=ry;exact Jg4 (Ym I q (by simp))
  |str j=>obtain⟨t',rfl⟩:=ry;exact ne_str (Ym I q (congrArg not Zi2))
  |_=>exact absurd (show false=true from hs) Jj
 |byt i =>
  let⟨t,rfl⟩:=rx;cases y with
  |byt j=>obtain⟨t',rfl⟩:=ry;exact W.ne_bytes (Ym I q (congrArg not Zi4))
  |_=>exact absurd (show false=true from hs) Jj
 |_=>cases y<;>exact absurd (show false=true from hs) Jj
def Zhp:OpR X (Eh .Lt) (rI0 λi j=>.bl (decide (i<j))):=opB0 λ_ _ _ _ _ _ _ q=>lt_int q
def Zhr:OpR X (Eh .Gt) (rI0 λi j=>.bl (decide (j<i))):=opB0 λ_ _ _ _ _ _ _ q=>gt_int q
def Zuh:OpR X (Eh .GtE) (rI0 λi j=>.bl (decide (j<=i))):=opB0 λ_ _ _ _ _ _ _ q=>ge_int q
def Ya(b:Expr){op:Jh7}(h:op≠.In:=by decide)(h2:op≠.NotIn:=by decide):Hw op b=false:=by
 let e1:(op==Jh7.In)=false:=by cases op<;>first|rfl|exact absurd rfl h
 let e2:(op==Jh8)=false:=by cases op<;>first|rfl|exact absurd rfl h2
 cases b<;>simp[Hw,e1,e2]
def Zcq{op:Jh7}(ho:OpR X (Eh op) r)(ha:PE X a ta)(hb:PE X b tb)(hm:Hw op b=false):PE X (.Compare a [op] [b] pos) (tOp r ta tb):=by
 intro pq s σ H Q I h;exact wpAny_Compare1 (binT ha hb I h λv u s2 x y H2 I2 rx ry q=>ho pq s2 σ H2 x y v u Q I2 rx ry q) hm
def Zqm(t:TE):TT:=λσ H Q=>t σ H λx H'=>∃k,x=.bl k/\Q k H'
def Z5{op:Jh7}(ho:OpR X (Eh op) r)(ha:PE X a ta)(hb:PE X b tb)(hm:Hw op b=false):PT X (.Compare a [op] [b] pos) (Zqm (tOp r ta tb)):=by
 intro pq s σ H Q I h;refine Jc0 (thn (ha pq s σ H _ I h) λv s1⟨x,H1,I1,r1,q1⟩=>thn (hb pq s1 σ H1 _ I1 q1) λu s2 ⟨y,H2,I2,r2,q2⟩ =>
  thn (ho pq s2 σ H2 x y v u _ I2 r1 r2 q2) λc s3⟨z,H3,I3,r3,k,e,q3⟩=>?_) hm
 subst e;cases r3;exact E2 ⟨H3,I3,q3⟩
def Pk:(sizeLine:Nat)<2 ^ 63:=by rw[C2];decide
def Zfc:OpR X (Hi .Add) (λx y H Q=>∃i j,x=.str i/\y=.str j/\i.length+j.length<=sizeLine/\Q (.str (i++j)) H):=by
 intro pq s σ H x y v u Q I rx ry h;let⟨i,j,rfl,rfl,hz,q⟩:=h;let⟨t,rfl⟩:=rx;let⟨t',rfl⟩:=ry;exact add_str (λt' tk=>⟨.str (i++j),H,I.tok _,⟨_,rfl⟩,q⟩) hz
theorem Re{x:V}(r:Vals [x] us):∃u,us=[u]/\RelV x u:=by
 cases r with
 |cons r1 r2=>cases r2;exists ·,r1
theorem Zj8{x y:V}(r:Vals [x,y] us):∃u w',us=[u,w']/\RelV x u/\RelV y w':=by
 cases r with
 |cons r1 r2 =>
  cases r2 with
  |cons r3 r4=>cases r4;exists _,·,r1,r3
def Zlp:Vj X (.builtin "abs") (λxs H Q=>∃i,xs=[.int i]/\Q (.int (if i<0 then -i else i)) H):=by
 intro pq s σ H xs us Q I r h;let⟨i,rfl,q⟩:=h;let⟨u,rfl,t,rfl⟩:=Re r;exact call_abs_int λu tk=>⟨.int (if i<0 then -i else i),H,I.tok _,⟨_,rfl⟩,q⟩
def Ql(hc:X.calm=true):Vj X (.builtin "max") (λxs H Q=>∃i j,xs=[.int i,.int j]/\Q (.int (if j > i then j else i)) H):=by
 intro pq s σ H xs us Q I r h;let⟨i,j,rfl,q⟩:=h;let⟨u,w',rfl,⟨t,rfl⟩,⟨t',rfl⟩⟩:=Zj8 r;refine max_two_ints (I.ok.hd hc) λh' tk k=>⟨_,H,I.kept k,?_,q⟩
 by_cases hj:j > i
 .rw[Fs hj,Fs hj];exists ·
 .rw[Fp hj,Fp hj];exists ·
def Qk(hc:X.calm=true):Vj X (.builtin "min") (λxs H Q=>∃i j,xs=[.int i,.int j]/\Q (.int (if j<i then j else i)) H):=by
 intro pq s σ H xs us Q I r h;let⟨i,j,rfl,q⟩:=h;let⟨u,w',rfl,⟨t,rfl⟩,⟨t',rfl⟩⟩:=Zj8 r;refine min_two_ints (I.ok.hd hc) λh' tk k=>⟨_,H,I.kept k,?_,q⟩
 by_cases hj:j<i
 .rw[Fs hj,Fs hj];exists ·
 .rw[Fp hj,Fp hj];exists ·
def Zjl:Vj X (.type "int") (λxs H Q=>(∃i,xs=[.int i]/\Q (.int i) H)\/∃k,xs=[.bl k]/\Q (.int (if k then 1 else 0)) H):=by
 intro pq s σ H xs us Q I r h;rcases h with⟨i,rfl,q⟩|⟨k,rfl,q⟩
 .let⟨u,rfl,t,rfl⟩:=Re r;exact call_int_int ⟨.int i,H,I,⟨_,rfl⟩,q⟩
 .let⟨u,rfl,r1⟩:=Re r;cases r1;exact call_int_bool ⟨.int (if k then 1 else 0),H,I.tok _,⟨_,rfl⟩,q⟩
def LenV(K:Cp)(x:V)(H:Hp)(n:Nat):Prop :=
 match x with
 |.str y=>y.length<=sizeLine/\n=y.length
 |.byt y=>y.size<=sizeLine/\n=y.size
 |.ref p=>(∃xs,SqL K H p xs/\n=xs.length)\/∃xs,SqT K H p xs/\n=xs.length
 |_=>False
theorem Y0:Vj X (.builtin "len") (λxs H Q=>∃x n,xs=[x]/\LenV X.K x H n/\Q (.int n) H):=by
 intro pq s σ H xs us Q I r h;let⟨x,n,rfl,e,q⟩:=h;let⟨u,rfl,rx⟩:=Re r;let hl:=Pk;let hs:sizeLine=16777216:=C2;cases x with
 |str y =>
  let⟨t,rfl⟩:=rx;obtain⟨hy,e'⟩:y.length<=sizeLine/\n=y.length:=e;subst e';exact len_str () ⟨.int _,H,I.tok _,⟨_,rfl⟩,q⟩
 |byt y =>
  let⟨t,rfl⟩:=rx;obtain⟨hy,e'⟩:y.size<=sizeLine/\n=y.size:=e;subst e';exact W.len_bytes () ⟨.int _,H,I.tok _,⟨_,rfl⟩,q⟩
 |ref p =>
  cases rx;let e':(∃xs,SqL X.K H p xs/\n=xs.length)\/∃xs,SqT X.K H p xs/\n=xs.length:=e;rcases e' with⟨xs,hx,e'⟩|⟨xs,hx,e'⟩
  .subst e';let⟨its,r',pl,hz⟩:=I.list hx;let hlen:=r'.length;exact Calls.call_len_list pl.isList (by simp only[Jk];lia) ⟨.int xs.length,H,I.tok _,⟨_,by simp only[Jk];rw[hlen]⟩,q⟩
  .subst e';let⟨its,r',pl,hz⟩:=I.tuple hx;let hlen:=r'.length;exact len_tuple pl (by simp only[Jk];lia) ⟨.int xs.length,H,I.tok _,⟨_,by simp only[Jk];rw[hlen]⟩,q⟩
 |_=>exact(show False from e).elim
end
structure ObjM(h:Heap)(x dx C:Addr)(mA:Str->Option Value):Prop where
 obj:h.get? x=some (Li C dx)
 ns:h.Ns1 dx mA
 ne:dx≠x
def Za5(n:h.Ns1 dx mA):∃od,h.get? dx=some od/\∀name,Jhi name od=some (mA name):=by
 let⟨o,es,ep,ho,hd,hk,_,hm⟩:=n;exists o,ho,λname=>?_;let e:=hm name;unfold nsFind findBy at e;rw[<-L7]at e;unfold Jhi;rw[hd];dsimp only
 split
 .rename_i y q
  rw[q]at e;exact congrArg some e
 .rename_i q
  rw[q]at e;let a:es.toList.any (·.refKey)=false:=by
   rw[List.any_eq_false];intro y hy;let⟨z,t,hkey⟩:=hk y (Array.mem_toList_iff.mp hy);simp[DictEntry.refKey,hkey]
  let a':¬ es.toList.any (·.refKey)=true:=by rw[a];exact Jj
  rw[Fp a'];exact congrArg some e
def ObjM.look{x:Addr}(I:ObjM h x dx C mA):∃od,W.InstAt h x (Li C dx) C (some od)/\∀name,Jhi name od=some (mA name) :=
 let⟨od,ho,hl⟩:=Za5 I.ns
 ⟨od,⟨I.obj,rfl,rfl,ho⟩,hl⟩
section
variable{w:Ct}{x f:Addr}{v:Value}
def Zo0{expr:Bool}{Q:Value->Ca->Prop}(X:K.In s.heap)(I:ObjM s.heap x dx C mA)(hg:Jep K C name=true)(hh:Jfw K C=true)(ha:Cs K (.ref C) name=some none)(hv:mA name=some v)(hv':W.handedIn v=true)(h:Q v {s with toks:=s.toks+1}) :
  Cc (Cd prog w) A (Jhj (.ref x) name expr) Q E s:=by
 let⟨od,J,hl⟩:=I.look;exact W.get_value X J (Jd2 hg).1 (W.findObj_own hh ha rfl (by rw[hl,hv])) hv' h
def Zlg{pl:Sem Bool}{Q:Value×List Value->Ca->Prop}(X:K.In s.heap)(I:ObjM s.heap x dx C mA)(hg:Jep K C name=true)(hf:Cs K (.ref C) name=some (some (.ref f)))(ht:W.isFn K (.ref f)=true)(hv:mA name=none)(h:Q (.ref f,[.ref x]) s) :
  Cc (Cd prog w) A (Jd3 (.ref x) name pl) Q E s:=by
 let⟨od,J,hl⟩:=I.look;exact W.method_fn X J (Jd2 hg).1 (Jd2 hg).2 hf (beq_iff_eq.mp ht) (by show(Jhi name od).map (·.isSome)=some false;rw[hl,hv];rfl) h
theorem Zni{ns:List Str}{Q:Unit->Ca->Prop}(X:K.In s.heap)(I:ObjM s.heap x dx C mA)(hs:Cs K (.ref C) "__setattr__"=some (some (.builtin "object.__setattr__")))(hp:W.plainOver K C=true)(ht:Jhu K C name=some none)(hh:Jfw K C=true)(hw:Hl mA ns)(hsz:ns.length<=sizeLine)(h:∀h',ObjM h' x dx C (λy=>if y=name then some v else mA y)->E9 dx s.heap h'->Q ⟨⟩ {s with heap:=h',toks:=s.toks+2}) :
  Cc (Cd prog w) A (Jib (.ref x) name v) Q E s:=by
 let⟨od,J,hl⟩:=I.look;refine Jfx X J hs (W.osa_open (s:={s with toks:=s.toks+1}) (r:=none) X J hp ht λb=>?_);let⟨cd,hc,hd'⟩:=W.any_some hh;let hx:s.heap.get? x=some ⟨.ref C,some dx,.plain,#[]⟩:=I.obj;refine Fk (Fl (Fk (Fk (wpAny_loadPart hx (Fk (W.Looks.here (s:={s with toks:=s.toks+1}) (W.looks_clsIn X hc) ?_))))));rw[hd'];refine Fl (a:=some dx) (Fk (Fl (Fk ?_)));refine Je4 (s:={s with toks:=s.toks+1}) I.ns λh' hn2 hs2=>?_;let⟨oD,esD,epD,hoD,hdD,hcD⟩:=hn2.count (Mp name v hw);refine Fk (Jb7 hoD (by rw[hdD];exact Jb8 (J0 hcD (by rw[Jx];lia))) ?_)
 exact Fl (h _ ⟨(hs2.2 _ (Cu I.ne)).trans I.obj,hn2,I.ne⟩ hs2)
def Zk6{R:Jd4->Ca->Prop}{vs:List Value}{kw:List (Str×Value)}(X:K.In s.heap)(hm:W.makesIn K C=true)(hi:Cs K (.ref C) "__init__"=some (some (.ref f)))(hf:W.typeIn K (.ref f)=some (.type "function"))(h:Hb (Cd prog w) (A.under (.builtin "type.__call__" ⟨.ref C::vs,kw⟩)) (.call (.ref f) ⟨.ref (s.heap.objs.size+1)::vs,kw⟩) (W.InitBack (s.heap.objs.size+1) R)
   {s with heap:=(s.heap.push W.emptyDict).push (Li C s.heap.objs.size)}) :
  Hb (Cd prog w) A (.call (.ref C) ⟨vs,kw⟩) R s:=by
 let⟨hh,g,d,t,os⟩:=s;exact W.make_core (W.makes_of X hm) (W.looks_findIn X hi) (λself=>W.bind_fn X self hf) (.inl rfl) h
end
def putF(f:Str)(v:V):List (Str×V)->List (Str×V)
 |[]=>[(f,v)]
 |(g,x)::r=>if g=f then(g,v)::r else(g,x)::putF f v r
theorem U6(f g:Str)(v:V):∀fs:List (Str×V),(putF f v fs).lookup g=if g=f then some v else fs.lookup g
 |[]=>by
  show Kt g [(f,v)]=_
  by_cases h:g=f
  .let hb:(g==f)=true:=beq_iff_eq.mpr h;simp only[Kt,hb,Fs h]
  .let hb:(g==f)=false:=beq_eq_false_iff_ne.mpr h;simp only[Kt,hb,Fp h]
 |(k,x)::r=>by
  let ih:=U6 f g v r;rw[show putF f v ((k,x)::r)=(if k=f then(k,v)::r else(k,x)::putF f v r)from rfl]
  by_cases hk:k=f
  .rw[Fs hk]
   by_cases h:g=k
   .let hb:(g==k)=true:=beq_iff_eq.mpr h;simp only[Kt,hb,Fs (h.trans hk)]
   .let hb:(g==k)=false:=beq_eq_false_iff_ne.mpr h;simp only[Kt,hb,Fp (λe:g=f=>h (e.trans hk.symm))]
  .rw[Fp hk]
   by_cases h:g=k
   .let hb:(g==k)=true:=beq_iff_eq.mpr h;simp only[Kt,hb,Fp (λe:g=f=>hk (h.symm.trans e))]
   .let hb:(g==k)=false:=beq_eq_false_iff_ne.mpr h;simp only[Kt,hb];exact ih
theorem Vw(f:Str)(v:V):∀fs:List (Str×V),f∈(putF f v fs).map (·.1)/\∀g,g∈fs.map (·.1)->g∈(putF f v fs).map (·.1)
 |[]=>⟨by simp[putF],λg h=>by simp at h⟩
 |(k,x)::r=>by
  let⟨i1,i2⟩:=Vw f v r;rw[show putF f v ((k,x)::r)=(if k=f then(k,v)::r else(k,x)::putF f v r)from rfl]
  by_cases hk:k=f
  .rw[Fs hk];subst hk;exact⟨by simp,λg h=>by simpa using h⟩
  .rw[Fp hk];exists ?_,λg h=>?_
   .rw[Js];exact Jh _ i1
   .rw[Js]at h⊢;rcases Jq.mp h with e|e
    .exact Jq.mpr (.inl e)
    .exact Jh _ (i2 g e)
theorem Rw(f:Str)(v:V):∀fs:List (Str×V),(putF f v fs).length<=fs.length+1
 |[]=>by simp[putF]
 |(k,x)::r=>by
  let ih:=Rw f v r;rw[show putF f v ((k,x)::r)=(if k=f then(k,v)::r else(k,x)::putF f v r)from rfl]
  by_cases hk:k=f
  .rw[Fs hk,Jx,Jx];lia
  .rw[Fp hk,Jx,Jx];lia
theorem RelO.some_of{o:Option Value}(r:RelO (some v) o):∃u,o=some u/\RelV v u:=by
 cases o with
 |none=>exact(show False from r).elim
 |some u=>exact⟨u,rfl,r⟩
theorem RelO.none_of{o:Option Value}(r:RelO none o):o=none:=by
 cases o with
 |none=>rfl
 |some u=>exact(show False from r).elim
theorem Zbg{u:Value}(r:RelV v u):W.handedIn u=true:=by
 cases v with
 |non=>cases(show u=Value.none from r);rfl
 |bl b=>cases(show u=Jc8 b from r);rfl
 |int i=>obtain⟨t,e⟩:=(show ∃t,u=Ea i t from r);cases e;rfl
 |str x=>obtain⟨t,e⟩:=(show ∃t,u=Jcz x t from r);cases e;rfl
 |byt b=>obtain⟨t,e⟩:=(show ∃t,u=Jh6 b t from r);cases e;rfl
 |flt b=>obtain⟨t,e⟩:=(show ∃t,u=Jfs b t from r);cases e;rfl
 |ref a=>cases(show u=Cb a from r);rfl
 |ty n=>cases(show u=Jiq n from r);rfl
section
variable{w:Ct}{a:Addr}{fs:List (Str×V)}
def No(hok:HOk P w H h)(e:H a=some (.ins C dx fs)):∃mA,ObjM h a dx C mA/\(∀f,RelO (fs.lookup f) (mA f))/\Hl mA (fs.map (·.1))/\fs.length<=1000/\H dx=some (.own a):=by
 let⟨d,z,ne,ob,mA,n,r,q⟩:=(show Yt P w H h a (.ins C dx fs)from hok a _ e);exists mA,⟨ob,n,ne⟩,r,q,z,d
end
structure Cls(K:Cp)(C:Addr):Prop where
 pg:Jep K C Jd5=true
 hd:Jfw K C=true
 po:W.plainOver K C=true
 sa:Cs K (.ref C) "__setattr__"=some (some (.builtin "object.__setattr__"))
def Cls.get(c:Cls K C)(f:Str):Jep K C f=true:=c.pg
def Xl(K:Cp)(C:Addr)(f:Str):Prop:=Cs K (.ref C) f=some none
def Xl.taker{f:Str}(n:Xl K C f):Jhu K C f=some none:=by
 unfold Jhu;rw[show Cs K (.ref C) f=some none from n];rfl
structure Meth(K:Cp)(C:Addr)(m:Str)(f:Addr):Prop where
 at_:Cs K (.ref C) m=some (some (.ref f))
 fn:W.isFn K (.ref f)=true
 kp:Ja3 K (.ref f)=true
section
variable{a:Addr}{fs:List (Str×V)}{f:Str} 
def Zfs{b:Bool}{Q:Value->Ca->Prop}(I:Inv X pq σ H s)(e:H a=some (.ins C dx fs))(c:Cls X.K C)(n:Xl X.K C f)(l:fs.lookup f=some v)(h:∀u s',Inv X pq σ H s'->RelV v u->Q u s'):Cc (Cd X.prog X.w) A (Jhj (.ref a) f b) Q E s:=by
 let⟨mA,O,r,_,_,_⟩:=No I.hok e;let⟨u,hu,ru⟩:=RelO.some_of (v:=v) (o:=mA f) (by rw[<-l];exact r f);exact Zo0 I.kIn O (c.get f) c.hd n hu (Zbg ru) (h u _ (I.tok _) ru)
def Zfr{m:Str}{g:Addr}{pl:Sem Bool}{Q:Value×List Value->Ca->Prop}(I:Inv X pq σ H s)(e:H a=some (.ins C dx fs))(c:Cls X.K C)(k:Meth X.K C m g)(l:fs.lookup m=none)(h:Q (.ref g,[.ref a]) s):Cc (Cd X.prog X.w) A (Jd3 (.ref a) m pl) Q E s:=by
 let⟨mA,O,r,_,_,_⟩:=No I.hok e;let hn:mA m=none:=RelO.none_of (by rw[<-l];exact r m);exact Zlg I.kIn O (c.get m) k.at_ k.fn hn h
theorem Ze6{y:V}{u:Value}{Q:Unit->Ca->Prop}(I:Inv X pq σ H s)(e:H a=some (.ins C dx fs))(c:Cls X.K C)(n:Xl X.K C f)(hl:fs.length<1000)(ry:RelV y u)(h:∀s',Inv X pq σ (upd H a (.ins C dx (putF f y fs))) s'->Q ⟨⟩ s'):Cc (Cd X.prog X.w) A (Jib (.ref a) f u) Q E s:=by
 let⟨mA,O,r,wi,_,ho⟩:=No I.hok e;let hz:(fs.map (·.1)).length<=sizeLine:=by rw[Jb,C2];lia
 refine Zni I.kIn O c.sa c.po n.taker c.hd wi hz λh' O' sb=>h _ ?_;let hd:∃o,h'.get? dx=some o:=let⟨o,_,_,e',_⟩:=O'.ns;⟨o,e'⟩
 refine I.write (x:=a) (e:=dx) (by rw[e];exact Eg) (.inr ho) (λb q hb z=>(sb.2 b hb).trans z) hd ?_;exists by rw[Zl O.ne];exact ho,?_,O.ne,O'.obj,_,O'.ns,λg=>?_,λg hg=>?_
 .let:=Rw f y fs;lia
 .show RelO ((putF f y fs).lookup g) (if g=f then some u else mA g);rw[U6]
  by_cases q:g=f
  .rw[Fs q,Fs q];exact ry
  .rw[Fp q,Fp q];exact r g
 .by_cases q:g=f
  .rw[q];exact(Vw f y fs).1
  .refine(Vw f y fs).2 g (wi g λz=>hg ?_);show(if g=f then some u else mA g)=none;rw[Fp q];exact z
def Inv.made(I:Inv X pq σ H s):Inv X pq σ (upd (upd H s.heap.objs.size (.own (s.heap.objs.size+1))) (s.heap.objs.size+1) (.ins C s.heap.objs.size []))
  {s with heap:=(s.heap.push W.emptyDict).push (Li C s.heap.objs.size)}:=by
 let e1:(s.heap.push W.emptyDict).get? s.heap.objs.size=some W.emptyDict:=Fn s.heap rfl;let e2:((s.heap.push W.emptyDict).push (Li C s.heap.objs.size)).get? (s.heap.objs.size+1)=some (Li C s.heap.objs.size):=by
  let:=Fn (s.heap.push W.emptyDict) (o:=Li C s.heap.objs.size) rfl;rwa [Ew]at this
 let e3:(s.heap.push W.emptyDict).Ns s.heap.objs.size (λ_=>none):=⟨W.emptyDict,#[],_,e1,rfl,(λe he=>absurd he (by simp)),λ_=>rfl⟩;let I1:=I.laid (a:=s.heap.objs.size) (o:=.own (s.heap.objs.size+1)) (h':=s.heap.push W.emptyDict) (t':=s.toks) (λb u q=>Fm _ q) (Je _) ⟨_,e1⟩;refine I1.laid (a:=s.heap.objs.size+1) (o:=.ins C s.heap.objs.size []) (t':=s.toks) (λb u q=>Fm _ q) (G8 (Ew _ _)) ?_;let ne:s.heap.objs.size≠s.heap.objs.size+1:=J9 (B9 _);exists by rw[Zl ne,Zg],Gf _,ne,e2,λ_=>none,(Heap.Ns1.of_empty e3).at λo q=>Fm _ q,λ_=>Eg,λy hy=>absurd rfl hy
def Zjy{w:Ct}{env:Env}{e:Expr}{f:Str}{Q:Value->Ca->Prop}(hb:Kl e f env (eval e env)=eval e env)(h:Cc (Cd prog w) A (eval e env) (λo s₁=>Cc (Cd prog w) A (Jhj o f true) Q E s₁) E s):Cc (Cd prog w) A (eval (.Attribute e f pos) env) Q E s :=
 Attribute_any_ h (by rw[arm_eval_Attribute,hb])
end
def tFld(K:Cp)(ta:TE)(f:Str):TE:=λσ H Q=>ta σ H λx H1=>∃a C dx fs v,x=.ref a/\H1 a=some (.ins C dx fs)/\Cls K C/\Xl K C f/\fs.lookup f=some v/\Q v H1
def sFld(K:Cp)(ta tv:TE)(f:Str):TS:=λD σ H=>tv σ H λy H1=>ta σ H1 λx H2=>∃a C dx fs,x=.ref a/\H2 a=some (.ins C dx fs)/\Cls K C/\Xl K C f/\fs.length<1000 /\
 D.nx σ (upd H2 a (.ins C dx (putF f y fs)))
section
variable{o e:Expr}{f:Str}{tv:TE}
def Vo(he:PE X e ta)(hb:Kl e f X.env (eval e X.env)=eval e X.env):PE X (.Attribute e f pos) (tFld X.K ta f):=by
 intro pq s σ H Q I h;refine Zjy hb (thn (he pq s σ H _ I h) λu s1 hz=>?_);let⟨x,H1,I1,rx,a,C,dx,fs,v,ex,ea,c,n,l,q⟩:=hz;subst ex;obtain rfl:u=Cb a:=rx;exact Zfs I1 ea c n l λu' s2 I2 ru=>⟨v,H1,I2,ru,q⟩
def Ro(ha:PE X o ta)(hv:PE X value tv)(hs:Mm value (some (.Attribute o f pos')) pos.line X.env=pure false):PS X (.Assign [.Attribute o f pos'] value pos) (sFld X.K ta tv f):=by
 intro pq s σ H D I h;refine Ku (thn (hv pq s σ H _ I h) λu s1⟨y,H1,I1,ry,q⟩=>thn (ha pq s1 σ H1 _ I1 q) λov s2 hz=>?_) hs;let⟨x,H2,I2,rx,a,C,dx,fs,ex,ea,c,n,l,q2⟩:=hz;subst ex;obtain rfl:ov=Cb a:=rx;exact Ze6 I2 ea c n l ry λs3 I3=>⟨σ,_,I3,q2⟩
end
section
variable{Q:Value->Ca->Prop}{c:Value}{b:Bool}
inductive TyOf(K:Cp)(H:Hp):V->Value->Prop where
 |non:TyOf K H .non (.type "NoneType")
 |bl (x:Bool):TyOf K H (.bl x) (.type "bool")
 |int (i:Int):TyOf K H (.int i) (.type "int")
 |str (x:Str):TyOf K H (.str x) (.type "str")
 |flt (x:UInt64):TyOf K H (.flt x) (.type "float")
 |lst {a:Addr} {xs:List V} (e:H a=some (.lst xs)):TyOf K H (.ref a) (.type "list")
 |frz {a:Addr} {o:Obj} {xs:List V} (e:H a=some (.frz o (.lst xs))):TyOf K H (.ref a) (.type "list")
 |tup {a:Addr} {xs:List V} (e:H a=some (.tup xs)):TyOf K H (.ref a) (.type "tuple")
 |dK {a:Addr} {kvs:List (Key×V)} (e:H a=some (.dK kvs)):TyOf K H (.ref a) (.type "dict")
 |dT {a:Addr} {kvs:List (List Key×V)} (e:H a=some (.dT kvs)):TyOf K H (.ref a) (.type "dict")
 |ins {a C dx:Addr} {fs:List (Str×V)} (e:H a=some (.ins C dx fs)) (cl:Cls K C) (ha:Cs K (.ref C) "__class__"=some (some (.builtin "object.__class__")))
   (hn:W.specialIn K (.builtin "object.__class__") "__get__"=some (some (.builtin "getset_descriptor.__get__"))) (htk:W.takesIn K (.builtin "object.__class__")=some true)
   (hm:Ej K C (.type "object")=some true):TyOf K H (.ref a) (.ref C)
theorem Zic{x:V}{u t:Value}(I:Inv X pq σ H s)(rx:RelV x u)(ty:TyOf X.K H x t)(e:Eb X.K t c=some b)(h:∀tk,Q (.bool b) {s with toks:=tk}) :
  Cc (Cd X.prog X.w) A (call (.builtin "isinstance") [u,c]) Q E s:=by
 cases ty with
 |non=>cases(show u=Value.none from rx);exact Ka W.kitx_none I.kIn Eg e (λz=>nomatch z) h
 |bl y=>cases(show u=Jc8 y from rx);exact Ka W.kitx_bool I.kIn Eg e (λz=>nomatch z) h
 |int i=>obtain⟨t,q⟩:=(show ∃t,u=Ea i t from rx);cases q;exact Ka W.kitx_int I.kIn Eg e (λz=>nomatch z) h
 |str y=>obtain⟨t,q⟩:=(show ∃t,u=Jcz y t from rx);cases q;exact Ka W.kitx_str I.kIn Eg e (λz=>nomatch z) h
 |flt y=>obtain⟨t,q⟩:=(show ∃t,u=Jfs y t from rx);cases q;exact Ka W.kitx_float I.kIn Eg e (λz=>nomatch z) h
 | @lst a xs ea =>
  cases(show u=Cb a from rx);let⟨_,_,n,_,h1⟩:=(show Yt X.prog X.w H s.heap a (.lst xs)from I.hok a _ ea);exact Ka W.kitx_list I.kIn ⟨_,h1,rfl⟩ e (λz=>nomatch z) h
 | @frz a ob xs ea =>
  cases(show u=Cb a from rx);let⟨_,_,_,n,_,h1⟩:=(show Yt X.prog X.w H s.heap a (.frz ob (.lst xs))from I.hok a _ ea);exact Ka W.kitx_list I.kIn ⟨_,h1,rfl⟩ e (λz=>nomatch z) h
 | @tup a xs ea =>
  cases(show u=Cb a from rx);let⟨_,_,_,p⟩:=(show Yt X.prog X.w H s.heap a (.tup xs)from I.hok a _ ea);let⟨o,h1,h2,_⟩:=p;exact Ka W.kitx_tuple I.kIn ⟨o,h1,h2⟩ e (λz=>nomatch z) h
 | @dK a kvs ea =>
  cases(show u=Cb a from rx);let⟨_,_,vs,_,p⟩:=(show Yt X.prog X.w H s.heap a (.dK kvs)from I.hok a _ ea);let⟨o,es,ep,h1,h2,_⟩:=p;exact Ka W.kitx_dict I.kIn ⟨o,h1,h2.1⟩ e (λz=>nomatch z) h
 | @dT a kvs ea =>
  cases(show u=Cb a from rx);let⟨_,_,xs,_,o,es,ep,h1,h2,_⟩:=(show Yt X.prog X.w H s.heap a (.dT kvs)from I.hok a _ ea);exact Ka W.kitx_dict I.kIn ⟨o,h1,h2.1⟩ e (λz=>nomatch z) h
 | @ins a C dx fs ea cl ha hn htk hm =>
  cases(show u=Cb a from rx);let⟨mA,O,_⟩:=No I.hok ea;let⟨od,J,_⟩:=O.look;exact Ka (W.kitx_own (cl.get _) cl.hd ha hn htk hm) I.kIn J e (λz=>nomatch z) h
end
structure Room(k:Nat)(A:L6):Prop where
 hd:A.handled=none
 dp:A.depth+3*k+5<recursionLimit
 un:A.units+16*k+200<cLine
theorem Room.mono{k:Nat}(r:Room k A)(h:j<=k):Room j A:=⟨r.hd,by have:=r.dp;lia,by have:=r.un;lia⟩
theorem Room.deeper{k:Nat}(r:Room (k+1) A)(env:Env):Room k (A.deeper env) :=
 ⟨r.hd,by have:=r.dp;show A.depth+1+3*k+5<_;lia,by have:=r.un;show A.units+3+16*k+200<_;lia⟩
theorem Room.in1{k:Nat}(r:Room (k+1) A):Room k A.in1 :=
 ⟨r.hd,by have:=r.dp;show A.depth+3*k+5<_;lia,by have:=r.un;show A.units+1+16*k+200<_;lia⟩
def Zfk{kw:List (Str×Value)}:(A.under (.builtin "type.__call__" ⟨.ref C::us,kw⟩)).depth=A.depth+1:=by
 first|rfl|simp[Je5,Code.weight,Code.isCreation,Code.isGuard,Code.isCaller,Jic,Je6,guardIds]
def Zfj{kw:List (Str×Value)}:(A.under (.builtin "type.__call__" ⟨.ref C::us,kw⟩)).units=A.units+1:=by
 first|rfl|simp[Je5,Code.cUnits,Jic,Je6]
theorem Room.make{k:Nat}(r:Room (k+1) A)(C:Addr)(us:List Value)(kw:List (Str×Value)):Room k (A.under (.builtin "type.__call__" ⟨.ref C::us,kw⟩)) :=
 ⟨r.hd,by have:=r.dp;rw[Zfk];lia,by have:=r.un;rw[Zfj];lia⟩
theorem Room.depth{k:Nat}(r:Room k A):A.depth<recursionLimit:=by have:=r.dp;lia
theorem Room.units{k:Nat}(r:Room k A):A.units+64<cLine:=by have:=r.un;lia
def tNil:TA:=λ_ H Q=>Q [] H
def Znf(ta:TE)(tr:TA):TA:=λσ H Q=>ta σ H λx H1=>tr σ H1 λxs H2=>Q (x::xs) H2
section
variable{e:Expr}{t:TA} 
def Zd:PA X [] tNil:=λ_ _ _ _ H Q I h=>Mq ⟨[],H,I,.nil,h⟩
def Za(ha:PE X e te)(hr:PA X es t)(hs:Ch (e::es) X.env=(false,eval e X.env)::Ch es X.env:=by rfl):PA X (e::es) (Znf te t):=by
 intro pos pq s σ H Q I h;rw[hs];show Cc _ _ (Jhg ((false,eval e X.env)::Hm pos (Ch es X.env))) _ _ s;refine Hj (thn (ha pq s σ H _ I h) λu s1 hz=>?_);let⟨x,H1,I1,r1,q1⟩:=hz;exact thn (hr pos pq s1 σ H1 _ I1 q1) λus s2⟨xs,H2,I2,r2,q2⟩=>⟨x::xs,H2,I2,.cons r1 r2,q2⟩
def tTup(t:TA):TE:=λσ H Q=>t σ H λxs H1=>xs.length<=sizeLine/\∀p,H1 p=none->Q (.ref p) (upd H1 p (.tup xs))
def tLst(t:TA):TE:=λσ H Q=>t σ H λxs H1=>xs.length<=sizeLine/\∀p,H1 p=none->Q (.ref p) (upd H1 p (.lst xs))
def Yv{x1}(h:PA X es t):PE X (.Tuple es x1 pos) (tTup t):=by
 intro pq s σ H Q I hq;refine Ll (thn (h pos pq s σ H _ I hq) λus s1⟨xs,H1,I1,r,z,q⟩=>⟨by rw[<-r.length];exact z,?_⟩);let hf:H1 s1.heap.objs.size=none:=I1.hok.fresh (Je _);exists .ref s1.heap.objs.size,upd H1 s1.heap.objs.size (.tup xs),I1.laid (t':=s1.toks) (λb u e=>Fm _ e) (Je _) ?_,rfl,q _ hf;exists z,us,r,⟨_,Fn _ rfl,rfl,_,rfl,rfl⟩
def Xk(h:PA X es t):PE X (.List es pos) (tLst t):=by
 intro pq s σ H Q I hq;refine Jd6 (thn (h pos pq s σ H _ I hq) λus s1⟨xs,H1,I1,r,z,q⟩=>⟨by rw[<-r.length];exact z,?_⟩);let hf:H1 s1.heap.objs.size=none:=I1.hok.fresh (Je _);exists .ref s1.heap.objs.size,upd H1 s1.heap.objs.size (.lst xs),I1.laid (t':=s1.toks) (λb u e=>Fm _ e) (Je _) ?_,rfl,q _ hf;exists z,us,0,r,Fn _ rfl
end
abbrev Sp:=List V->Hp->VK->XK->Prop
variable{sp sp':L2.Sp}
abbrev CXT:=List Env->Hp->Ca->XK->Value->Ca->Prop
variable{CX:L2.CXT}
structure Env0(P:Ep)(w:Ct)(K:Cp)(mg:Str->Option Value)(base:Heap)(A:L6)(outer:List Env)(s:Ca)(H:Hp):Prop where
 frames:A.frames=some outer
 mod:Mod K mg base
 bs:∀b o,base.get? b=some o->s.heap.get? b=some o/\H b=none
 bsz:base.objs.size<=s.heap.objs.size
 funs:s.heap.FunFrames base outer
 frf:∀b∈frs outer,H b=none
 hok:HOk P w H s.heap
 bare:Ja0 s.gens
def CE(outer:List Env)(P:Ep)(w:Ct)(H:Hp)(s:Ca)(Q:VK)(u:Value)(s':Ca):Prop :=
 ∃v H',s'.os=s.os/\Ja0 s'.gens/\Un (frs outer) [] H H' s.heap s'.heap/\HOk P w H' s'.heap/\RelV v u/\Q v H'
def CR(CX:CXT)(outer:List Env)(P:Ep)(w:Ct)(H:Hp)(s:Ca)(Q:VK)(E:XK)(r:Jd4)(s':Ca):Prop :=
 match r with
 |.ok (.ret u)=>CE outer P w H s Q u s'
 |.ok _=>False
 |.error e=>CX outer H s E e s'
structure FnOk(P:Ep)(w:Ct)(K:Cp)(mg:Str->Option Value)(base:Heap)(CX:CXT)(k:Nat)(f:Addr)(fd:L8)(ps:List Str)(sp:Sp):Prop where
 len:∀vs H Q E,sp vs H Q E->vs.length=ps.length
 run:∀(A:L6)(outer:List Env)(s:Ca)(H:Hp)(args:Args)(us:List Value)(vs:List V)(Q:VK)(E:XK),Room k A->Env0 P w K mg base A outer s H->Jeq s fd args (ps.zip us)->Vals vs us->sp vs H Q E ->
  Hb (Cd P w) A (.call (.ref f) args) (CR CX outer P w H s Q E) s
def FnOk.imp{w:Ct}{base:Heap}{k:Nat}{f:Addr}(F:FnOk P w K mg base CX k f fd ps sp)(h:∀vs H Q E,sp' vs H Q E->sp vs H Q E):FnOk P w K mg base CX k f fd ps sp' :=
 ⟨λvs H Q E q=>F.len vs H Q E (h _ _ _ _ q),λA outer s H args us vs Q E hr he hb hv hs=>F.run A outer s H args us vs Q E hr he hb hv (h _ _ _ _ hs)⟩
def Env0.make{w:Ct}{base:Heap}{outer:List Env}(e:Env0 P w K mg base A outer s H)(C:Addr)(us:List Value)(kw:List (Str×Value)) :
  Env0 P w K mg base (A.under (.builtin "type.__call__" ⟨.ref C::us,kw⟩)) outer s H:=⟨by first|exact e.frames|(simpa[Je5,Code.envs,Je6,pushEnvs]using e.frames),e.mod,e.bs,e.bsz,e.funs,e.frf,e.hok,e.bare⟩
def Env0.in1{w:Ct}{base:Heap}{outer:List Env}(e:Env0 P w K mg base A outer s H) :
  Env0 P w K mg base A.in1 outer s H:=⟨e.frames,e.mod,e.bs,e.bsz,e.funs,e.frf,e.hok,e.bare⟩
section
variable{s':Ca}
def Inv.env0(I:Inv X pq σ H s):Env0 X.prog X.w X.K X.mg X.base X.A X.stack s H :=
 ⟨I.ok.frames,I.ok.mod,I.bs,J0 I.ok.bsz I.sz,I.stack,I.stkFree,I.hok,I.bare⟩
def Inv.after{u:Value}(I:Inv X pq σ H s)(h:CE X.stack X.prog X.w H s Q u s'):EP X pq σ Q u s':=by
 let⟨v,H',os,bare,un,hok,r,q⟩:=h;let⟨hh,g,d,t,os'⟩:=s';obtain rfl:os'=s.os:=os;exists v,H',I.call (h':=hh) (g':=g) (d':=d) (t':=t) (ch:=[]) un hok bare (λb z=>absurd z (by simp)),r,q
end
def Ze4(sp:Sp)(dvs:List V)(E:XK)(t:TA):TE:=λσ H Q=>t σ H λvs H1=>sp (vs++dvs) H1 Q E
def Zgd(C:Addr)(m:Str)(sp:Sp)(dvs:List V)(E:XK)(ta:TE)(t:TA):TE:=λσ H Q=>ta σ H λx H1=>∃a dx fs,x=.ref a/\H1 a=some (.ins C dx fs)/\fs.lookup m=none /\
 t σ H1 λvs H2=>sp (x::(vs++dvs)) H2 Q E
def Ze2(C:Addr)(sp:Sp)(dvs:List V)(E:XK)(t:TA):TE:=λσ H Q=>t σ H λvs H1=>∀x dx,H1 x=none->H1 dx=none->dx≠x ->
 sp (.ref x::(vs++dvs)) (upd (upd H1 dx (.own x)) x (.ins C dx [])) (λv H2=>v=.non/\Q (.ref x) H2) E
def Vn(K:Cp)(fd:L8)(ps:List Str)(ds:List Value):Prop :=
 ∀(s:Ca)(us:List Value),K.In s.heap->(us++ds).length=ps.length->Jeq s fd ⟨us,[]⟩ (ps.zip (us++ds))
def Vn.all(h:∀us:List Value,us.length=ps.length->Jd7 fd ⟨us,[]⟩=pure (ps.zip us)):Vn K fd ps []:=λs us _ hl=>by
 rw[Gs]at hl⊢;exact .of_eq (h us hl)
def V4(CX:CXT)(X:Cx)(E:XK):Prop:=∀(pq:List (Addr×Obj))(σ:St)(H:Hp)(s:Ca)(e:Value)(s':Ca),Inv X pq σ H s->CX X.stack H s E e s'->X.xe e s'
section
variable{k:Nat}{f:Addr}{dvs:List V}{ds:List Value}{E:XK}{x m:Str}{p:Pos}{e o:Expr}{t:TA}
theorem Zmb(F:FnOk X.prog X.w X.K X.mg X.base CX k f fd ps sp)(hr:Room k X.A)(hb:Vn X.K fd ps ds)(hd:Vals dvs ds)(hx:V4 CX X E)(I:Inv X pq σ H s)(r:Vals vs us)(h:sp (vs++dvs) H Q E):Cc (Cd X.prog X.w) X.A (call (.ref f) us) (EP X pq σ Q) X.xe s:=by
 let r2:Vals (vs++dvs) (us++ds):=r.append hd;let hl:(us++ds).length=ps.length:=by rw[<-r2.length];exact F.len _ _ _ _ h
 refine Ke (Kf (F.run X.A X.stack s H ⟨us,[]⟩ (us++ds) (vs++dvs) Q E hr I.env0 (hb s us I.kIn hl) r2 h) λr s' hq=>?_);cases r with
 |error e=>exact hx pq σ H s e s' I hq
 |ok fl =>
  cases fl with
  |ret u=>exact I.after hq
  |next=>exact Cq hq
  |brk=>exact Cq hq
  |cont=>exact Cq hq
def Zhj(F:FnOk X.prog X.w X.K X.mg X.base CX k f fd ps sp)(hr:Room k X.A)(hg:Gl X x)(hm:X.mg x=some (.ref f))(hk:Ja3 X.K (.ref f)=true)(hb:Vn X.K fd ps ds)(hd:Vals dvs ds)(hx:V4 CX X E)(ha:PA X (e::es) t)(hdb:(x==("__debug__":Str))=false:=by decide)(he:Ch (e::es) X.env=(false,eval e X.env)::Ch es X.env:=by rfl)(hpl:(Hm pos (Ch es X.env)).any (·.1)=false:=by rfl) :
  PE X (.Call (.Name x p) (e::es) [] pos) (Ze4 sp dvs E t):=by
 intro pq s σ H Q I h;refine Ec (Vd I hg hm ?_ hdb);refine L9 (h₀:=X.base) I.ok.mod.kin hk (thn (ha pos pq s σ H _ I h) λus s1⟨vs,H1,I1,r,q⟩=>⟨I1.kIn,?_⟩) he hpl;exact Zmb F hr hb hd hx I1 r q
def Zhi{pl:Sem Bool}(he:PE X o ta)(c:Cls X.K C)(hm:Meth X.K C m f)(F:FnOk X.prog X.w X.K X.mg X.base CX k f fd ps sp)(hr:Room k X.A)(hb:Vn X.K fd ps ds)(hd:Vals dvs ds)(hx:V4 CX X E)(ha:PA X (e::es) t)(hst:Ch (e::es) X.env=(false,eval e X.env)::Ch es X.env:=by rfl)(hpl:(Hm pos (Ch es X.env)).any (·.1)=false:=by rfl)(ht:eval (.Call (.Attribute o m apos) (e::es) [] pos) X.env=(do
   let ov <-eval o X.env
   Jfu apos.atName
   let(f,first) <-Mh [ov] (Jd3 ov m pl)
   callWith pos f first (Hm pos (Ch (e::es) X.env)) (Jfq pos (Ja4 [] X.env))):=by rfl) :
  PE X (.Call (.Attribute o m apos) (e::es) [] pos) (Zgd C m sp dvs E ta t):=by
 intro pq s σ H Q I h;refine W.methodCall_KW (pl:=pl) (thn (he pq s σ H _ I h) λu s1 hz=>?_) ht;let⟨x,H1,I1,rx,a,dx,fs,ex,ea,l,q⟩:=hz;subst ex;obtain rfl:u=Cb a:=rx;refine Zfr I1 ea c hm l ?_;refine L9 (first:=[.ref a]) (h₀:=X.base) I.ok.mod.kin hm.kp (thn (ha pos pq s1 σ H1 _ I1 q) λus s2⟨vs,H2,I2,r,q2⟩=>⟨I2.kIn,?_⟩) hst hpl;exact Zmb (us:=.ref a::us) (vs:=.ref a::vs) F hr hb hd hx I2 (.cons rfl r) q2
structure Mk(K:Cp)(C f:Addr):Prop where
 makes:W.makesIn K C=true
 init:Cs K (.ref C) "__init__"=some (some (.ref f))
 fn:W.isFn K (.ref f)=true
 kp:Ja3 K (.ref C)=true
theorem Zd0(M:Mk X.K C f)(F:FnOk X.prog X.w X.K X.mg X.base CX k f fd ps sp)(hr:Room (k+1) X.A)(hb:Vn X.K fd ps ds)(hd:Vals dvs ds)(hx:V4 CX X E)(I:Inv X pq σ H s)(r:Vals vs us)(h:∀x dx,H x=none->H dx=none->dx≠x->sp (.ref x::(vs++dvs)) (upd (upd H dx (.own x)) x (.ins C dx [])) (λv H2=>v=.non/\Q (.ref x) H2) E) :
  Cc (Cd X.prog X.w) X.A (call (.ref C) us) (EP X pq σ Q) X.xe s:=by
 let hq:=h (s.heap.objs.size+1) s.heap.objs.size (I.hok.fresh (Bg _)) (I.hok.fresh (Je _)) (J9 (B9 _));let I2:=Inv.made (C:=C) I;let r2:Vals (V.ref (s.heap.objs.size+1)::(vs++dvs)) (Cb (s.heap.objs.size+1)::(us++ds)):=.cons rfl (r.append hd);let hl:(Cb (s.heap.objs.size+1)::us++ds).length=ps.length:=by
  let e:=r2.length;rw[F.len _ _ _ _ hq]at e;exact e.symm
 refine Ke (Zk6 (f:=f) I.kIn M.makes M.init (beq_iff_eq.mp M.fn) (Kf (F.run _ X.stack _ _ ⟨Cb (s.heap.objs.size+1)::us,[]⟩ (Cb (s.heap.objs.size+1)::(us++ds)) _ _ E (hr.make C us [])
  (I2.env0.make C us []) (hb _ (Cb (s.heap.objs.size+1)::us) I2.kIn hl) r2 hq) λr s' hq'=>?_))
 cases r with
 |error e=>exact hx pq σ _ _ e s' I2 hq'
 |ok fl =>
  cases fl with
  |ret u =>
   let⟨v,H',I3,rv,ev,q3⟩:=I2.after hq';subst ev;exists rv,⟨V.ref (s.heap.objs.size+1),H',I3,rfl,q3⟩
  |next=>exact Cq hq'
  |brk=>exact Cq hq'
  |cont=>exact Cq hq'
def Zn9(M:Mk X.K C f)(F:FnOk X.prog X.w X.K X.mg X.base CX k f fd ps sp)(hr:Room (k+1) X.A)(hg:Gl X x)(hm:X.mg x=some (.ref C))(hb:Vn X.K fd ps ds)(hd:Vals dvs ds)(hx:V4 CX X E)(ha:PA X (e::es) t)(hdb:(x==("__debug__":Str))=false:=by decide)(he:Ch (e::es) X.env=(false,eval e X.env)::Ch es X.env:=by rfl)(hpl:(Hm pos (Ch es X.env)).any (·.1)=false:=by rfl) :
  PE X (.Call (.Name x p) (e::es) [] pos) (Ze2 C sp dvs E t):=by
 intro pq s σ H Q I h;refine Ec (Vd I hg hm ?_ hdb);refine L9 (h₀:=X.base) I.ok.mod.kin M.kp (thn (ha pos pq s σ H _ I h) λus s1⟨vs,H1,I1,r,q⟩=>⟨I1.kIn,?_⟩) he hpl;exact Zd0 M F hr hb hd hx I1 r q
def Zk0(M:Mk X.K C f)(F:FnOk X.prog X.w X.K X.mg X.base CX k f fd ps sp)(hr:Room (k+1) X.A)(hg:Gl X x)(hm:X.mg x=some (.ref C))(hb:Vn X.K fd ps ds)(hd:Vals dvs ds)(hx:V4 CX X E)(hdb:(x==("__debug__":Str))=false:=by decide):PE X (.Call (.Name x p) [] [] pos) (Ze2 C sp dvs E tNil):=by
 intro pq s σ H Q I h;refine Ec (Vd I hg hm ?_ hdb);exact W.callWith_K0 I.kIn M.kp (Zd0 (us:=[]) M F hr hb hd hx I .nil h)
end
structure FnScope(N P:List Str)(sc:Scope):Prop where
 kind:sc.kind=.function
 co:sc.isCoroutine=false
 gen:sc.isGenerator=false
 nd:N.Nodup
 pre:N.take P.length=P
 par:∀x∈P,sc.names.lookup x=some .local\/sc.names.lookup x=some .cell
 nofree:∀y∈sc.names,y.2≠.free
theorem Zbw{kindOf:Str->Option Es}{x:Str}:∀{binds:List (Str×Value)}{m:Str->Option Value},(∀v,(x,v)∉binds)->Jid kindOf binds m x=m x
 |[],_,_=>rfl
 |(n,v)::r,m,h=>by
  unfold Jid;rw[Zbw λw hw=>h w (Jh _ hw)]
  split
  .let:x≠n:=by rintro rfl;exact h v Jn
   simp[this]
  .rfl
theorem Zby{kindOf:Str->Option Es}{x:Str}:∀{binds:List (Str×Value)}{m:Str->Option Value},(∀v,(x,v)∉binds)->Jie kindOf binds m x=m x
 |[],_,_=>rfl
 |(n,v)::r,m,h=>by
  unfold Jie;rw[Zby λw hw=>h w (Jh _ hw)]
  split
  .rfl
  .let:x≠n:=by rintro rfl;exact h v Jn
   simp[this]
theorem Zbx{kindOf:Str->Option Es}{x:Str}{v:Value}:∀{P:List Str}{vs:List Value}{i:Nat}{m:Str->Option Value},P.Nodup->P[i]?=some x->vs[i]?=some v->kindOf x=some .local ->
  Jid kindOf (P.zip vs) m x=some v
 |[],_,_,_,_,h,_,_=>by simp at h
 |_::_,[],_,_,_,_,h,_=>by simp at h
 |p::P,w::vs,0,m,nd,h1,h2,hk=>by
  simp at h1 h2;subst h1;subst h2;show Jid kindOf ((p,w)::P.zip vs) m p=_;unfold Jid;rw[Zbw λv hv=>(Gx.mp nd).1 (Lm hv).1,Fs hk];simp
 |p::P,w::vs,i+1,m,nd,h1,h2,hk=>by
  show Jid kindOf ((p,w)::P.zip vs) m x=_;unfold Jid;exact Zbx (i:=i) (Gx.mp nd).2 (by simpa using h1) (by simpa using h2) hk
theorem Zbz{kindOf:Str->Option Es}{x:Str}{v:Value}:∀{P:List Str}{vs:List Value}{i:Nat}{m:Str->Option Value},P.Nodup->P[i]?=some x->vs[i]?=some v->kindOf x≠some .local ->
  Jie kindOf (P.zip vs) m x=some v
 |[],_,_,_,_,h,_,_=>by simp at h
 |_::_,[],_,_,_,_,h,_=>by simp at h
 |p::P,w::vs,0,m,nd,h1,h2,hk=>by
  simp at h1 h2;subst h1;subst h2;show Jie kindOf ((p,w)::P.zip vs) m p=_;unfold Jie;rw[Zby λv hv=>(Gx.mp nd).1 (Lm hv).1,Fp hk];simp
 |p::P,w::vs,i+1,m,nd,h1,h2,hk=>by
  show Jie kindOf ((p,w)::P.zip vs) m x=_;unfold Jie;exact Zbz (i:=i) (Gx.mp nd).2 (by simpa using h1) (by simpa using h2) hk
def Uz(N:List Str)(vs:List V):St:=vs.map some++Co (N.length-vs.length) none
def cxOf(CX:CXT)(P:Ep)(w:Ct)(K:Cp)(mg:Str->Option Value)(base:Heap)(N:List Str)(qual:Str)(scope:Scope)(f:Addr)(cd:Value)(A:L6)(outer:List Env)(s:Ca)(H:Hp)(E:XK):Cx where
 prog:=P
 w:=w
 K:=K
 mg:=mg
 base:=base
 A:=A.deeper (Hy qual scope s.heap.objs.size f cd)
 N:=N
 s₀:=s
 H₀:=H
 env:=Hy qual scope s.heap.objs.size f cd
 outer:=outer
 stack:=Hy qual scope s.heap.objs.size f cd::outer
 ex:=[]
 calm:=true
 fn:=λ_=>true
 pn:=[]
 xe:=λe s'=>Cc (Cd P w) (A.deeper (Hy qual scope s.heap.objs.size f cd)) (Jhk (Hy qual scope s.heap.objs.size f cd) e) (λ_ s''=>CX outer H s E e s'') (λe' s''=>CX outer H s E e' s'') s'
def Zeu{sc:Scope}{n:Nat}{x:Str}(h:sc.names.lookup x=some .cell):∃c,(Jhv n sc.names []).lookup x=some c:=by
 let q:=Jfd sc.names n [] (.inl h);exact Option.isSome_iff_exists.mp q
theorem Zbb{w:Ct}{base:Heap}{scope:Scope}{f:Addr}{outer:List Env}{s1:Ca}{E:XK}(S:FnScope N ps scope)(hd:A.handled=none)(e0:Env0 P w K mg base A outer s H)(hl:vs.length=ps.length)(r:Vals vs us)(x:InCallC s s.heap.objs.size (Jid (Hy qual scope s.heap.objs.size f cd).kindOf (ps.zip us) λ_=>none) (Jhv (s.heap.objs.size+1) scope.names []) (Jie (Hy qual scope s.heap.objs.size f cd).kindOf (ps.zip us) λ_=>none) s1) :
  Inv (cxOf CX P w K mg base N qual scope f cd A outer s H E) [] (Uz N vs) H s1:=by
 let hpl:ps.length<=N.length:=by have:=congrArg Ey S.pre;rw[Ji]at this;lia
 let⟨h1,tk,rfl,hk⟩:=x.done;let noA:∀b:Addr,b∉(cxOf CX P w K mg base N qual scope f cd A outer s H E).ex:=λb z=>absurd (show b∈([]:List Addr)from z) (by simp);refine⟨⟨e0.mod,S.kind,rfl,rfl,Je _,λy z c h1 h2=>?_,λy hy=>?_,λy c _ h=>?_,λ_=>hd,L6.frames_deeper e0.frames,.inr ⟨rfl,rfl⟩,λb z=>absurd z (noA b),e0.bs,e0.bsz,λb _ _=>noA b,λb z=>absurd z (noA b),e0.funs,e0.frf⟩,
  rfl,e0.bare,Un.kept hk,⟨_,x.toInCall.ns,λi y v h1 h2 h3=>?_⟩,λy c h=>⟨_,x.cell y c h⟩,e0.hok.fresh (Je _),λy c h=>?_,λp hp=>absurd (show p∈([]:List (Addr×Obj))from hp) (by simp),e0.hok.kept hk,?_⟩
 .exact name_of_addr x.apart (Hd h1) (Hd h2)
 .let hy:scope.names.lookup y=some .cell\/scope.names.lookup y=some .free:=hy;rcases hy with hy|hy
  .exact Zeu hy
  .exact absurd rfl (S.nofree _ (Hd hy))
 .exact Be (x.above y c (Hd h))
 .let hi:i<vs.length:=by
   unfold Uz at h2
   by_cases hi:i<vs.length
   .exact hi
   .rw[Jw (by simpa using hi)]at h2;rw[Ja5]at h2
    split at h2<;>cases h2
  let ha:vs[i]?=some v:=by
   unfold Uz at h2;rw[Jo (by simpa using hi),Jv]at h2;cases e:vs[i]? with
   |none=>rw[e]at h2;cases h2
   |some a=>rw[e]at h2;cases h2;rfl
  let⟨u,hu,rv⟩:=r.get ha;let hp:ps[i]?=some y:=by
   rw[<-S.pre,Gi ()];exact h1
  let ndP:ps.Nodup:=by rw[<-S.pre];exact S.nd.sublist (List.take_sublist _ _)
  exists u,rv,?_;rcases S.par y (Gg hp)with k|k
  .exact .inl ⟨k,Zbx ndP hp hu k⟩
  .let⟨c,e⟩:=Zeu (n:=s.heap.objs.size+1) k;refine .inr ⟨.inl k,c,e,?_⟩;let q:=x.cell y c e;rw[Zbz ndP hp hu (by show scope.names.lookup y≠_;rw[k];decide)]at q;exact q
 .exact e0.hok.fresh (Be (x.above y c (Hd h)))
 .unfold Uz;show _=N.length;rw[Jd,Jb,List.length_replicate];lia
theorem Zo4{w:Ct}{base:Heap}{k:Nat}{f:Addr}{params:Arguments}{scope:Scope}{dV kV doc cdv ct oc:Value}{an od:Option Addr}{osl:Array (Option Value)}{N ps:List Str}{sp:Sp}(lk:K.lookup f=some ⟨oc,od,.func (Jdk name qual params body scope dV kV doc pm an cdv ct),osl⟩)(hcd:Jd8 K cdv qual=true)(S:FnScope N ps scope)(len:∀vs H Q E,sp vs H Q E->vs.length=ps.length)(hbody:∀(A:L6)(outer:List Env)(s:Ca)(H:Hp)(vs:List V)(Q:VK)(E:XK),Room k (A.deeper (Hy qual scope s.heap.objs.size f cdv))->sp vs H Q E ->
   ∃t,PSs (cxOf CX P w K mg base N qual scope f cdv A outer s H E) body t/\t {nx:=λ_ H'=>Q .non H',rt:=Q} (Uz N vs) H) :
  FnOk P w K mg base CX (k+1) f (Jdk name qual params body scope dV kV doc pm an cdv ct) ps sp:=by
 refine⟨len,λA outer s H args us vs Q E hr e0 hb r hsp=>?_⟩;let hl:=len _ _ _ _ hsp;let KX:K.In s.heap:=e0.mod.kin.keeps λb o e=>(e0.bs b o e).1;let lim:s.heap.NoLimit:=e0.mod.nolimit.keeps λb o e=>(e0.bs b o e).1;let hkind:∀y∈ps.zip us,scope.names.lookup y.1=some .local\/(scope.names.lookup y.1=some .cell/\((Jhv (s.heap.objs.size+1) scope.names []).lookup y.1).isSome=true):=λ⟨n,v⟩hy=>by
  rcases S.par n (Lm hy).1 with q|q
  .exact .inl q
  .exact .inr ⟨q,Jfd _ _ _ (.inl q)⟩
 refine codeAny_call_function hr.depth (KX _ _ lk) rfl S.co S.gen rfl (W.codeRec_of KX hcd) (hb _ _ _ _ ?_);refine Ly S.kind hkind λenv he s1 x=>?_;subst he;refine⟨lim.keeps x.toInCall.keep,codeAny_func ?_⟩;let⟨t,ht,hq⟩:=hbody A outer s H vs Q E (hr.deeper _) hsp;let I:Inv (cxOf CX P w K mg base N qual scope f cdv A outer s H E) [] (Uz N vs) H s1:=Zbb S hr.hd e0 hl r x;refine Fx (ht [] s1 (Uz N vs) H _ I hq) (λfl s' hs=>?_) λe s' hs=>hs;let fin:∀{σ':St}{H':Hp}{v:V}{u:Value},Inv (cxOf CX P w K mg base N qual scope f cdv A outer s H E) [] σ' H' s'->RelV v u->Q v H'->CE outer P w H s Q u s' :=
  λ{σ' H' v u}J rv q=>⟨v,H',J.os,J.bare,J.base,J.hok,rv,q⟩
 cases fl with
 |ret u =>
  let⟨v,σ',H',J,rv,q⟩:=hs;exact fin J rv q
 |next =>
  let⟨σ',H',J,q⟩:=hs;exact fin (v:=V.non) (u:=Value.none) J rfl q
 |brk =>
  let⟨_,_,_,q⟩:=hs;exact Cq q
 |cont =>
  let⟨_,_,_,q⟩:=hs;exact Cq q
section
variable{x:Str}{p:Pos}{e:Expr}{t:TA}{id T:String}{r:List V->Hp->VK->Prop}
def tCB(r:List V->Hp->VK->Prop)(t:TA):TE:=λσ H Q=>t σ H λvs H1=>r vs H1 Q
def Zs(hc:Vj X (.builtin id) r)(hg:Gl X x)(hm:X.mg x=none)(hv:Kd x=some (.builtin id))(ha:PA X (e::es) t)(hn:x≠"__name__":=by decide)(hdb:(x==("__debug__":Str))=false:=by decide)(he:Ch (e::es) X.env=(false,eval e X.env)::Ch es X.env:=by rfl)(hpl:(Hm pos (Ch es X.env)).any (·.1)=false:=by rfl):PE X (.Call (.Name x p) (e::es) [] pos) (tCB r t):=by
 intro pq s σ H Q I h;refine Ec (Tp I hg hm hv ?_ hn hdb);exact Je7 (thn (ha pos pq s σ H _ I h) λus s1⟨vs,H1,I1,r1,q1⟩=>hc pq s1 σ H1 vs us Q I1 r1 q1) he hpl
def Z9(hc:Vj X (.type T) r)(hg:Gl X x)(hm:X.mg x=none)(hv:Kd x=some (.type T))(ha:PA X (e::es) t)(hn:x≠"__name__":=by decide)(hdb:(x==("__debug__":Str))=false:=by decide)(he:Ch (e::es) X.env=(false,eval e X.env)::Ch es X.env:=by rfl)(hpl:(Hm pos (Ch es X.env)).any (·.1)=false:=by rfl):PE X (.Call (.Name x p) (e::es) [] pos) (tCB r t):=by
 intro pq s σ H Q I h;refine Ec (Tp I hg hm hv ?_ hn hdb);exact C5 (thn (ha pos pq s σ H _ I h) λus s1⟨vs,H1,I1,r1,q1⟩=>hc pq s1 σ H1 vs us Q I1 r1 q1) he hpl
end
end L2
variable{H I H' I' H1 H2:L2.Hp}{X:L2.Cx}{σ:L2.St}{v:L2.V}{Q:L2.VK}{vs xs ys:List L2.V}{sp sp':L2.Sp}{ta te tb:L2.TE}{o:L2.HO}{g:L2.TG}{kvs:List (List L2.Key×L2.V)}{wi:L2.TI}{r:L2.R2}{CX:L2.CXT}{tt tc:L2.TT}{t1 t2:L2.XK->L2.TS}
namespace HT
open PySem PyProof.Rows
def lexLt:List Int->List Int->Bool
 |[],[]=>false
 |[],_::_=>true
 |_::_,[]=>false
 |x::xs,y::ys=>if x=y then lexLt xs ys else decide (x<y)
def Uk(x y:Int)(xs ys:List Int):lexLt (x::xs) (y::ys)=if x=y then lexLt xs ys else decide (x<y):=rfl
def Nk:lexLt [] []=false:=rfl
def Uw(y:Int)(ys:List Int):lexLt [] (y::ys)=true:=rfl
def Ww(x:Int)(xs:List Int):lexLt (x::xs) []=false:=rfl
section
variable{w:Ct} 
def cat_tup{t:Addr}{vs ws:List Value}{Q:Value->Ca->Prop}(ht:IsTup s.heap t vs.toArray)(hb:IsTup s.heap b ws.toArray)(hv:vs≠[])(h1:ws=[]->Q (.ref t) s)(h2:ws≠[]->Q (.ref s.heap.objs.size) {s with heap:=s.heap.push {cls:=.type "tuple",data:=.seq (vs++ws).toArray} })(hsz:vs.length+ws.length<=sizeLine):Cc (Cd prog w) A (Hi .Add (.ref t) (.ref b)) Q E s:=by
 let⟨⟨cls,dd,data,sl⟩,ho,hc,n,hd⟩:=id ht;let⟨⟨cls2,dd2,data2,sl2⟩,ho2,hc2,n2,hd2⟩:=id hb;simp only at hc hd hc2 hd2;subst hc hd hc2 hd2;let e:vs.toArray++ws.toArray=(vs++ws).toArray:=by simp
 by_cases hw:ws=[]
 .exact concat_meets ⟨_,ho,rfl⟩ ⟨_,ho2,rfl⟩ Jfe seq_tuple_add Jcs Ja6 (Mr _ _)
   (tuple_addW1 t b vs.toArray ws.toArray n n2 dd dd2 sl sl2 (by simpa using hv) (by simp[hw])) ⟨ho,ho2,h1 hw⟩
 .refine concat_meets ⟨_,ho,rfl⟩ ⟨_,ho2,rfl⟩ Jfe seq_tuple_add Jcs Ja6 (Mr _ _)
   (tuple_addW2 t b vs.toArray ws.toArray n n2 dd dd2 sl sl2 (by simpa using hv) (by simpa using hw) (by rw[Jk,Jk];exact hsz)) ⟨ho,ho2,?_⟩
  rw[e];exact h2 hw
def sIx(n d:Nat):Option Int->Nat
 |none=>d
 |some v=>if v<0 then(v+(n:Int)).toNat else min v.toNat n
def sIx_none(n d:Nat):sIx n d none=d:=rfl
theorem sIx_nat(n d k:Nat):sIx n d (some (k:Int))=min k n:=by
 show(if(k:Int)<0 then((k:Int)+(n:Int)).toNat else min (k:Int).toNat n)=min k n;rw[Fp (),Bo]
theorem Zrc(n d:Nat)(hd:d<=n)(o:Option Int):sIx n d o<=n:=by
 cases o with
 |none=>exact hd
 |some v =>
  show(if v<0 then(v+(n:Int)).toNat else min v.toNat n)<=n
  by_cases hv:v<0
  .rw[Fs hv];lia
  .rw[Fp hv];exact Jff _ _
theorem Zjj(v:Int)(n d:Nat):(if v<0 then max (v+(n:Int)) 0 else min v (n:Int))=((sIx n d (some v):Nat):Int):=by
 show(if v<0 then max (v+(n:Int)) 0 else min v (n:Int))=(((if v<0 then(v+(n:Int)).toNat else min v.toNat n):Nat):Int)
 by_cases hv:v<0
 .simp only[Fs hv];lia
 .simp only[Fp hv];lia
theorem Zfx(lo hi:Option Int)(n:Nat):Kb lo hi 1 (n:Int)=(((sIx n 0 lo:Nat):Int),((sIx n n hi:Nat):Int)):=by
 let h1:¬ ((1:Int)<0):=by lia
 unfold Kb;simp only[h1,if_false];refine Prod.ext ?_ ?_
 .cases lo with
  |none=>rfl
  |some v=>exact Zjj v n 0
 .cases hi with
  |none=>rfl
  |some v=>exact Zjj v n n
theorem Zfb(i j:Nat):Ez (i:Int) (j:Int) 1=j-i:=by
 unfold Ez;let h1:(1:Int) > 0:=by lia
 simp only[h1,if_true,Int.ediv_one]
 split<;>lia
theorem Q6{v:Value}{o:Option Int}{Q:Option Int->Ca->Prop}(p:Jd9 v o)(h:Q o s):Cc (Cd prog w) A (Jfr v) Q E s:=by
 cases p with
 |none=>exact slicePart_none h
 |int i t=>exact slicePart_int h
def sliceApplied_gen{sl:Addr}{vl vu:Value}{lo:Option Int}{n:Nat}{Q:Int×Int×Nat->Ca->Prop}(hs:s.heap.IsSliceOf sl vl vu .none)(pl:Jd9 vl lo)(pu:Jd9 vu hi)(h:Q (((sIx n 0 lo:Nat):Int),1,sIx n n hi-sIx n 0 lo) s):Cc (Cd prog w) A (Lz (.ref sl) (pure (n:Int))) Q E s:=by
 let⟨os,hos,hcs,hds⟩:=id hs;unfold Lz Jgq;refine Fk (Fk (El hos hds (x:=vl) rfl (Fk (El hos hds (x:=vu) rfl (Fk (El hos hds (x:=.none) rfl (Fl ?_)))))));refine Fk (slicePart_none ?_);show Cc _ _ (if((1:Int)==0)=true then _ else _) _ _ s;rw[Fp nofun];refine Fk (Q6 pl (Fk (Q6 pu (Fk (Fl ?_)))));show Cc _ _ (match Kb lo hi 1 (n:Int)with|(lo,hi)=>pure (lo,(1:Int),Ez lo hi 1)) _ _ s;rw[Zfx lo hi n];show Cc _ _ (pure (((sIx n 0 lo:Nat):Int),(1:Int),Ez ((sIx n 0 lo:Nat):Int) ((sIx n n hi:Nat):Int) 1)) _ _ s
 rw[Zfb];exact Fl h
theorem Zkw(xs:Array Value)(i k:Nat):((Ef k).filterMap λ(m:Nat)=>xs[((i:Int)+(m:Int)*1).toNat]?).toArray=((xs.toList.drop i).take k).toArray:=by
 let e:(λ(m:Nat)=>xs[((i:Int)+(m:Int)*1).toNat]?)=λm=>xs[i+m]?:=by
  funext m
  let:((i:Int)+(m:Int)*1).toNat=i+m:=by lia
  rw[this]
 rw[e];let:=pick_run xs i k;rw[List.filterMap_map]at this;let e2:((λx=>xs[x]?) ∘ λx=>i+x)=λm=>xs[i+m]?:=rfl;rw[e2]at this;rw[this]
theorem getItem_tuple_cut{t sl:Addr}{items:Array Value}{vl vu:Value}{lo:Option Int}{Q:Value->Ca->Prop}(ht:IsTup s.heap t items)(hs:s.heap.IsSliceOf sl vl vu .none)(pl:Jd9 vl lo)(pu:Jd9 vu hi)(hw:¬ (sIx items.size 0 lo=0/\sIx items.size items.size hi=items.size))(h:Q (.ref s.heap.objs.size) {s with heap:=s.heap.push {cls:=.type "tuple",data:=.seq ((items.toList.drop (sIx items.size 0 lo)).take (sIx items.size items.size hi-sIx items.size 0 lo)).toArray} })(hsz:items.size<=sizeLine):Cc (Cd prog w) A (Lk (.ref t) (.ref sl)) Q E s:=by
 let htake:sizeOk (.seq ((items.toList.drop (sIx items.size 0 lo)).take (sIx items.size items.size hi-sIx items.size 0 lo)).toArray):=by
  show((items.toList.drop (sIx items.size 0 lo)).take (sIx items.size items.size hi-sIx items.size 0 lo)).toArray.size<=sizeLine;rw[Jk,Ji,J8,Bq];lia
 let hj:sIx items.size items.size hi<=items.size:=Zrc _ _ (Je _) hi;let⟨os,hos,hcs,hds⟩:=id hs;let hTs:s.TypeIs (.ref sl) "slice":=⟨os,hos,hcs⟩;unfold Lk
 try with_reducible refine Cw ?_
 first|refine Fk (Fl ?_)|skip
 refine Fk (Jer ht.typeIs nofun ?_);refine Fk (Ja7 (name:=Cj "__getitem__") ht.typeIs Cz
  (Jb9 Cz ht.typeIs Jdp ?_ (Jea _ _)))
 show Cc _ _ (L5 (.ref t) >>= _) _ _ s;refine Fk (tupleItemsOf_ ht ?_);refine Fk (Kg hTs ?_);rw[Fs nofun];refine Fk (sliceApplied_gen hs pl pu ?_);let hno:¬ ((((sIx items.size 0 lo:Nat):Int)==0&&(1:Int)==1&&(sIx items.size items.size hi-sIx items.size 0 lo)==items.size)=true):=by
  intro q;rw[B2,B2]at q;let q1:((sIx items.size 0 lo:Nat):Int)=0:=eq_of_beq q.1.1;let q2:sIx items.size items.size hi-sIx items.size 0 lo=items.size:=eq_of_beq q.2;exact hw ⟨(),()⟩
 show Cc _ _ (if(((sIx items.size 0 lo:Nat):Int)==0&&(1:Int)==1&&(sIx items.size items.size hi-sIx items.size 0 lo)==items.size)=true then _ else _) _ _ s;rw[Fp hno,Zkw]
 first
  |exact Fk (m:=E6 _) (Eo (Fl ⟨_,rfl,Fl h⟩) htake)
  |exact Fk (m:=E6 _) (Eo (Fk (Fl (Fl ⟨_,rfl,Fl h⟩))) htake)
  |exact Fk (Fk (m:=E6 _) (Eo (Fl (Fl ⟨_,rfl,Fl h⟩)) htake))
  |exact Fk (Fk (m:=E6 _) (Eo (Fl ⟨_,rfl,Fl h⟩) htake))
end
end HT
namespace L2
open PySem PySem.Spec PyProof.Rows
abbrev TO:=St->Hp->(Option Int->Hp->Prop)->Prop
def PO(X:Cx)(e:Option Expr)(t:TO):Prop :=
 ∀(pq:List (Addr×Obj))(s:Ca)(σ:St)(H:Hp)(Q:Option Int->Hp->Prop),Inv X pq σ H s->t σ H Q ->
  Cc (Cd X.prog X.w) X.A (evalPart e X.env) (λu s'=>∃o H',Inv X pq σ H' s'/\Jd9 u o/\Q o H') X.xe s
def Zgc:TO:=λ_ H Q=>Q none H
def Zqo(t:TE):TO:=λσ H Q=>t σ H λx H1=>∃i,x=.int i/\Q (some i) H1
section
variable{e:Expr}{lo hi:Option Expr}{tl th:TO}{p2:Pos}
def Yw:PO X none Zgc:=by
 intro pq s σ H Q I h;rw[Jeb];exact Fl ⟨none,H,I,.none,h⟩
def Yc(h:PE X e te):PO X (some e) (Zqo te):=by
 intro pq s σ H Q I hw;rw[evalPart_some];refine thn (h pq s σ H _ I hw) λu s1 hz=>?_;let⟨x,H1,I1,r1,q1⟩:=hz;let⟨i,rfl,q⟩:=q1;let⟨t,rfl⟩:=r1;exists some i,H1,I1,.int i t,q
def SlR(X:Cx)(r:V->Option Int->Option Int->Hp->VK->Prop):Prop :=
 ∀(pq:List (Addr×Obj))(s:Ca)(σ:St)(H:Hp)(x:V)(v vl vu:Value)(lo hi:Option Int)(sl:Addr)(Q:VK),Inv X pq σ H s->RelV x v->s.heap.IsSliceOf sl vl vu .none->Jd9 vl lo->Jd9 vu hi->r x lo hi H Q ->
  ∃T id,Jda (.type T) "__getitem__"=pure (some (.builtin id))/\s.TypeIs v T/\Cc (Cd X.prog X.w) X.A (Lk v (.ref sl)) (EP X pq σ Q) X.xe s
def tSl(r:V->Option Int->Option Int->Hp->VK->Prop)(te:TE)(tl th:TO):TE:=λσ H Q=>te σ H λx H1=>tl σ H1 λl H2=>th σ H2 λu H3=>r x l u H3 Q
def Ye{r:V->Option Int->Option Int->Hp->VK->Prop}(hr:SlR X r)(he:PE X e te)(hl:PO X lo tl)(hu:PO X hi th):PE X (.Subscript e (.Slice lo hi none p2) pos) (tSl r te tl th):=by
 intro pq s σ H Q I h;refine Jdb (thn (he pq s σ H _ I h) λv s1 hz=>?_);let⟨x,H1,I1,r1,q1⟩:=hz;refine wpAny_Slice (thn (hl pq s1 σ H1 _ I1 q1) λvl s2⟨l,H2,I2,pl,q2⟩=>thn (hu pq s2 σ H2 _ I2 q2) λvu s3 hz=>?_);let⟨u,H3,I3,pu,q3⟩:=hz;rw[Jeb];refine Fl ?_;let I4:Inv X pq σ H3 {s3 with heap:=s3.heap.push {cls:=.type "slice",data:=.fields #[vl,vu,.none]} }:=I3.kept (t':=s3.toks) λb ob q=>Fm _ q;let⟨T,id,hT,ht,hg⟩:=hr pq {s3 with heap:=s3.heap.push {cls:=.type "slice",data:=.fields #[vl,vu,.none]} } σ H3 x v vl vu l u s3.heap.objs.size Q I4 r1 (Jec ..) pl pu q3
 show Cc (Cd X.prog X.w) X.A (Ja8 e (.Slice lo hi none p2) v (.ref s3.heap.objs.size)) (EP X pq σ Q) X.xe {s3 with heap:=s3.heap.push {cls:=.type "slice",data:=.fields #[vl,vu,.none]} };exact tail_any (ops:=[.ref s3.heap.objs.size,v]) ht hT hg (by with_unfolding_all rfl)
def cutV(xs:List V)(lo hi:Option Int):List V:=(xs.drop (HT.sIx xs.length 0 lo)).take (HT.sIx xs.length xs.length hi-HT.sIx xs.length 0 lo)
theorem U8(xs:List V)(lo hi:Option Int):(cutV xs lo hi).length<=xs.length:=by
 unfold cutV;rw[Ji,J8];lia
def rSlT(K:Cp):V->Option Int->Option Int->Hp->VK->Prop:=λx lo hi H Q=>∃a xs,x=.ref a/\SqT K H a xs /\
 ¬ (HT.sIx xs.length 0 lo=0/\HT.sIx xs.length xs.length hi=xs.length)/\∀p,H p=none->Q (.ref p) (upd H p (.tup (cutV xs lo hi)))
def Zqx:SlR X (rSlT X.K):=by
 intro pq s σ H x v vl vu lo hi sl Q I rx hs pl pu h;let⟨a,xs,rfl,hx,hw,q⟩:=h;cases rx;let⟨its,r,ht,hz⟩:=I.tuple hx;let hlen:its.toArray.size=xs.length:=by rw[Jk];exact r.length.symm
 exists "tuple",_,Cz.lookup,ht.typeIs,?_;refine HT.getItem_tuple_cut ht hs pl pu (by rw[hlen];exact hw) ?_ (by rw[hlen];exact hz);rw[hlen];exists .ref s.heap.objs.size,_,I.laid (t':=s.toks) (o:=.tup (cutV xs lo hi)) (λb ob q=>Fm _ q) (Je _) ?_,rfl,q _ (I.hok.fresh (Je _));exists J0 (U8 xs lo hi) hz,_,(r.drop (HT.sIx xs.length 0 lo)).take (HT.sIx xs.length xs.length hi-HT.sIx xs.length 0 lo),V5.new _ _
def Zny(K:Cp):R2:=λx y H Q=>∃a b xs ys,x=.ref a/\y=.ref b/\SqT K H a xs/\SqT K H b ys/\xs≠[]/\xs.length+ys.length<=sizeLine /\
 (ys=[]->Q (.ref a) H)/\(ys≠[]->∀p,H p=none->Q (.ref p) (upd H p (.tup (xs++ys))))
theorem Vals.nil_iff(r:Vals xs us):us=[]↔xs=[]:=by
 cases r with
 |nil=>simp
 |cons _ _=>simp
def Zhu:OpR X (Hi .Add) (Zny X.K):=by
 intro pq s σ H x y v u Q I rx ry h;let⟨a,b,xs,ys,rfl,rfl,ha,hb,hx,hz,q1,q2⟩:=h;cases rx;cases ry;let⟨its,r1,p1,_⟩:=I.tuple ha;let⟨its2,r2,p2,_⟩:=I.tuple hb;refine HT.cat_tup p1 p2 (λz=>hx (r1.nil_iff.mp z)) (λz=>⟨.ref a,H,I,rfl,q1 (r2.nil_iff.mp z)⟩) (λz=>?_) (by rw[<-r1.length,<-r2.length];exact hz);exists .ref s.heap.objs.size,_,I.laid (t':=s.toks) (o:=.tup (xs++ys)) (λb ob q=>Fm _ q) (Je _) ?_,rfl,q2 (λw=>z (r2.nil_iff.mpr w)) _ (I.hok.fresh (Je _));exists by rw[Jd];exact hz,_,r1.append r2,V5.new _ _
end
def ixN(n:Nat)(i:Int):Option Nat:=if 0<=i then(if i<n then some i.toNat else none)else if -(n:Int)<=i then some (i+n).toNat else none
def atI{α:Type}(xs:List α)(i:Int):Option α:=(ixN xs.length i).bind λj=>xs[j]?
theorem Zia{n:Nat}{i:Int}(h:ixN n i=some j):seqIndex? i n=some j/\j<n/\-(n:Int)<=i/\i<n:=by
 unfold ixN at h
 by_cases h0:0<=i
 .rw[Fs h0]at h
  by_cases h1:i<n
  .rw[Fs h1]at h;let e:i.toNat=j:=Fv h;exists by rw[Jfy h0 h1,e],(),(),h1
  .rw[Fp h1]at h;cases h
 .rw[Fp h0]at h
  by_cases h1:-(n:Int)<=i
  .rw[Fs h1]at h;let e:(i+n).toNat=j:=Fv h;exact⟨by rw[Je8 () h1,e],(),h1,()⟩
  .rw[Fp h1]at h;cases h
theorem Zdi{α:Type}{xs:List α}{i:Int}{v:α}(h:atI xs i=some v):∃j,seqIndex? i xs.length=some j/\xs[j]?=some v/\j<xs.length/\-(xs.length:Int)<=i/\i<xs.length:=by
 unfold atI at h;cases e:ixN xs.length i with
 |none=>rw[e]at h;cases h
 |some j =>
  rw[e]at h;let⟨h1,h2,h3,h4⟩:=Zia e;exists j,h1,h,h2,h3,h4
theorem Sg{α:Type}{xs:List α}{v:α}(h:xs[j]?=some v):atI xs (j:Int)=some v:=by
 let hj:j<xs.length:=(Jf.mp h).1;let e:ixN xs.length (j:Int)=some j:=by
  unfold ixN;rw[Fs (),Fs ()];simp
 unfold atI;rw[e];exact h
def Zj0(b:Expr):Prop:=∀o i,Ja9 b false o i=Jif [o,i] (Lk o i)
def IxR(X:Cx)(r:R2):Prop :=
 ∀(value slice:Expr)(pq:List (Addr×Obj))(s:Ca)(σ:St)(H:Hp)(x y:V)(v u:Value)(Q:VK),Inv X pq σ H s->RelV x v->RelV y u->r x y H Q ->
  Ja9 slice false v u=Jif [v,u] (Lk v u)->Cc (Cd X.prog X.w) X.A (Ja8 value slice v u) (EP X pq σ Q) X.xe s
def MtR(X:Cx)(id:String)(r:V->List V->Hp->VK->Prop):Prop :=
 ∀(pq:List (Addr×Obj))(s:Ca)(σ:St)(H:Hp)(x:V)(xs:List V)(v:Value)(us:List Value)(Q:VK),Inv X pq σ H s->RelV x v->Vals xs us->r x xs H Q ->
  Cc (Cd X.prog X.w) X.A (call (.builtin id) (v::us)) (EP X pq σ Q) X.xe s
section
variable{a b:Expr} 
def IxR.or{r':R2}(h:IxR X r)(h':IxR X r'):IxR X (λx y H Q=>r x y H Q\/r' x y H Q):=by
 intro value slice pq s σ H x y v u Q I rx ry q hs;rcases q with q|q
 .exact h value slice pq s σ H x y v u Q I rx ry q hs
 .exact h' value slice pq s σ H x y v u Q I rx ry q hs
def Zz(hr:IxR X r)(ha:PE X a ta)(hb:PE X b tb)(hs:Zj0 b):PE X (.Subscript a b pos) (tOp r ta tb):=by
 intro pq s σ H Q I h;exact Jdb (binT ha hb I h λv u s2 x y H2 I2 rx ry q=>hr a b pq s2 σ H2 x y v u Q I2 rx ry q (hs _ _))
def rIxL(K:Cp):R2:=λx y H Q=>∃p xs i v,x=.ref p/\y=.int i/\SqL K H p xs/\atI xs i=some v/\Q v H
def rIxT(K:Cp):R2:=λx y H Q=>∃p xs i v,x=.ref p/\y=.int i/\SqT K H p xs/\atI xs i=some v/\Q v H
def rIxS:R2:=λx y H Q=>∃z i c,x=.str z/\y=.int i/\z.length<=sizeLine/\atI z.cps.toList i=some c/\Q (.str ⟨#[c]⟩) H
theorem Y4:IxR X (rIxL X.K):=by
 intro value slice pq s σ H x y v u Q I rx ry h hs;let⟨p,xs,i,z,rfl,rfl,hq,he,q⟩:=h;cases rx;let⟨t,rfl⟩:=ry;let⟨its,r,pl,hz⟩:=I.list hq;let⟨j,h1,h2,h3,h4,h5⟩:=Zdi he;let⟨w,ew,rw'⟩:=r.get h2;let hl:=r.length;let hn:=Pk;let fin:EP X pq σ Q w s:=⟨z,H,I,rw',q⟩
 by_cases h0:0<=i
 .let hj:i.toNat=j:=by
   rw[Jfy h0 h5]at h1;exact Fv h1
  exact item_listR pl.isList h0 () (by rw[hj];simpa using ew) fin hs
 .let hj:(i+(its.toArray.size:Int)).toNat=j:=by
   rw[Je8 () h4]at h1;rw[Jk,<-hl];exact Fv h1
  exact Jct (x:=w) pl.isList.typeIs slot_list_getitem.lookup
   (wpAny_getItem_list_neg (Q:=λr s'=>r=w/\EP X pq σ Q r s') pl.isList () (by rw[Jk]<;>lia) () (by rw[hj];simpa using ew) ⟨rfl,fin⟩) hs
theorem Tr:IxR X (rIxT X.K):=by
 intro value slice pq s σ H x y v u Q I rx ry h hs;let⟨p,xs,i,z,rfl,rfl,hq,he,q⟩:=h;cases rx;let⟨t,rfl⟩:=ry;let⟨its,r,pl,hz⟩:=I.tuple hq;let⟨j,h1,h2,h3,h4,h5⟩:=Zdi he;let⟨w,ew,rw'⟩:=r.get h2;let hl:=r.length;let hn:=Pk;let fin:EP X pq σ Q w s:=⟨z,H,I,rw',q⟩;exact Jct (x:=w) pl.typeIs slot_tuple_getitem.lookup
  (getItem_tuple (j:=j) (Q:=λr s'=>r=w/\EP X pq σ Q r s') pl () () (by rw[Jk,<-hl];exact h1) (by simpa using ew) ⟨rfl,fin⟩) hs
theorem Zr4:IxR X rIxS:=by
 intro value slice pq s σ H x y v u Q I rx ry h hs;let⟨z,i,c,rfl,rfl,hz,he,q⟩:=h;let⟨t,rfl⟩:=rx;let⟨t',rfl⟩:=ry;let⟨j,h1,h2,h3,h4,h5⟩:=Zdi he;let hl:z.cps.toList.length=z.length:=by simp[Str.length]
 rw[hl]at h1 h4 h5;let hn:=Pk;exact tail_any (Jg5 s z t) slot_str_getitem.lookup (getItem_str (c:=c) (by
  let e1:decide (i < -(2 ^ 63:Int))=false:=Fu ();let e2:decide (i≥2 ^ 63)=false:=Fu ();rw[e1,e2,Bool.or_false]) (by rw[h1];simpa using h2) ⟨.str ⟨#[c]⟩,H,I.tok _,⟨_,rfl⟩,q⟩) hs
def rIx(K:Cp):R2:=λx y H Q=>rIxL K x y H Q\/rIxT K x y H Q\/rIxS x y H Q
def Zr5:IxR X (rIx X.K):=Y4.or (Tr.or Zr4)
def Zfi(its:List Value)(n j:Nat)(u:Value):Cy (·.setIfInBounds j u) {cls:=.type "list",data:=.seq its.toArray n}={cls:=.type "list",data:=.seq (its.set j u).toArray n}:=by
 simp[Cy]
def Inv.lst{pq:List (Addr×Obj)}{σ:St}{H:Hp}{s:Ca}{p:Addr}{xs:List V}(I:Inv X pq σ H s)(h:H p=some (.lst xs)) :
  ∃(its:List Value)(n:Nat),Vals xs its/\s.heap.get? p=some {cls:=.type "list",data:=.seq its.toArray n}/\xs.length<=sizeLine:=by
 let⟨z,its,n,r,e⟩:=I.hok p _ h;exists its,n,r,e,z
def Inv.lstUpd{p:Addr}{its':List Value}{n n':Nat}{f:Obj->Obj}(I:Inv X pq σ H s)(h:H p=some (.lst xs))(ho:s.heap.get? p=some {cls:=.type "list",data:=.seq its.toArray n})(hf:f {cls:=.type "list",data:=.seq its.toArray n}={cls:=.type "list",data:=.seq its'.toArray n'})(r:Vals ys its')(hz:ys.length<=sizeLine)(t:Nat) :
  Inv X pq σ (upd H p (.lst ys)) {s with heap:=s.heap.update p f,toks:=t}:=by
 let e:(s.heap.update p f).get? p=some {cls:=.type "list",data:=.seq its'.toArray n'}:=by
  rw[C7 f ho (by rw[hf]<;>rfl),hf]
 refine I.write (x:=p) (e:=p) (by rw[h];trivial) (.inl rfl) (λb u hb q=>(Ck _ _ (Cu hb)).trans q) ⟨_,e⟩ ?_;exists hz,its',n',r,e
def Zrf:V->V->V->Hp->(Hp->Prop)->Prop:=λo i v H Q=>∃p xs k j,o=.ref p/\i=.int k/\H p=some (.lst xs)/\ixN xs.length k=some j/\Q (upd H p (.lst (xs.set j v)))
theorem Va:PSet X Zrf:=by
 intro pq s σ H o i v ov iv u Q I ro ri rv h;let⟨p,xs,k,j,rfl,rfl,hp,hj,q⟩:=h;cases ro;let⟨t,rfl⟩:=ri;let⟨its,n,r,ho,hz⟩:=I.lst hp;let⟨h1,h2,h3,h4⟩:=Zia hj;let hl:=r.length;let hn:=Pk;let I':Inv X pq σ (upd H p (.lst (xs.set j v))) {s with heap:=s.heap.update p (Cy (·.setIfInBounds j u))} :=
  I.lstUpd hp ho (Zfi its n j u) (r.set rv j) (by rw[Gq];exact hz) s.toks
 by_cases h0:0<=k
 .let hk:k.toNat=j:=by
   rw[Jfy h0 h4]at h1;exact Fv h1
  exact W.ki_setAt ho h0 () (by rw[Jk,<-hl];exact h4) (by rw[hk];exact⟨_,I',q⟩)
 .let hk:(k+(its.toArray.size:Int)).toNat=j:=by
   rw[Je8 () h3]at h1;rw[Jk,<-hl];exact Fv h1
  exact W.ki_setBack ho () (by rw[Jk,<-hl];exact h3) () (by rw[hk];exact⟨_,I',q⟩)
theorem Zaq(lo hi:Option Int)(n:Nat):(Kv lo hi none n).1=((HT.sIx n 0 lo:Nat):Int)/\(Kv lo hi none n).2.1=((HT.sIx n n hi:Nat):Int)/\(Kv lo hi none n).2.2=1:=by
 exists ?_,?_,rfl
 .cases lo with
  |none=>simp[Kv,HT.sIx]
  |some i =>
   simp only[Kv,HT.sIx,Jfg,show(1:Int) > 0 by decide,if_true]
   by_cases h:i<0
   .simp only[h,if_true]<;>lia
   .simp only[h,if_false]<;>lia
 .cases hi with
  |none=>simp[Kv,HT.sIx]
  |some i =>
   simp only[Kv,HT.sIx,Jfg,show(1:Int) > 0 by decide,if_true]
   by_cases h:i<0
   .simp only[h,if_true]<;>lia
   .simp only[h,if_false]<;>lia
def Pz(its:List Value)(lo hi:Option Int):slicePick its.toArray lo hi none=((its.drop (HT.sIx its.length 0 lo)).take (HT.sIx its.length its.length hi-HT.sIx its.length 0 lo)).toArray:=by
 let⟨h1,h2,h3⟩:=Zaq lo hi its.toArray.size;unfold slicePick;rw[h1,h2,h3];simp only[sliceRange_one,pick_run,Jk]<;>rfl
def rSlL(K:Cp):V->Option Int->Option Int->Hp->VK->Prop:=λx lo hi H Q=>∃a xs,x=.ref a/\SqL K H a xs/\∀p,H p=none->Q (.ref p) (upd H p (.lst (cutV xs lo hi)))
theorem X9:SlR X (rSlL X.K):=by
 intro pq s σ H x v vl vu lo hi sl Q I rx hs pl pu h;let⟨a,xs,rfl,hx,q⟩:=h;cases rx;let⟨its,r,ht,hz⟩:=I.list hx;let hlen:=r.length;refine⟨"list",_,slot_list_getitem.lookup,ht.isList.typeIs,?_⟩;refine Ms ht.isList hs pl pu .none (by simp) ?_ (by rw[Jk]<;>lia);rw[Pz,<-hlen];refine⟨.ref s.heap.objs.size,_,I.laid (t':=s.toks) (o:=.lst (cutV xs lo hi)) (λb ob q=>Fm _ q) (Je _) ?_,rfl,q _ (I.hok.fresh (Je _))⟩;exact⟨J0 (U8 xs lo hi) hz,_,0,(r.drop (HT.sIx xs.length 0 lo)).take (HT.sIx xs.length xs.length hi-HT.sIx xs.length 0 lo),Fn _ rfl⟩
def N2:V->Bool
 |.non=>true
 |.bl _=>true
 |.int _=>true
 |.str _=>true
 |_=>false
def eqV:V->V->Bool
 |.non,.non=>true
 |.bl a,.bl b=>a==b
 |.bl a,.int b=>(if a then 1 else 0)==b
 |.int a,.bl b=>a==(if b then 1 else 0)
 |.int a,.int b=>a==b
 |.str a,.str b=>a==b
 |_,_=>false
theorem Zsk{y x:V}{u v:Value}(ry:RelV y u)(rx:RelV x v)(fy:N2 y=true)(fx:N2 x=true):Ek A s u v (eqV y x):=by
 cases y with
 |non =>
  cases ry;cases x with
  |non=>cases rx;exact Ek.same _
  |bl b=>cases rx;exact Ek.none_bool b
  |int b=>obtain⟨t,rfl⟩:=rx;exact Ek.none_int b t
  |str b=>obtain⟨t,rfl⟩:=rx;exact Ek.none_str b t
  |_=>exact absurd (show false=true from fx) Jj
 |bl a =>
  cases ry;cases x with
  |non=>cases rx;exact Ek.bool_none a
  |bl b=>cases rx;exact Ek.bool_bool a b
  |int b=>obtain⟨t,rfl⟩:=rx;exact Ek.bool_int a b t
  |str b=>obtain⟨t,rfl⟩:=rx;exact Ek.bool_str a b t
  |_=>exact absurd (show false=true from fx) Jj
 |int a =>
  let⟨t',rfl⟩:=ry;cases x with
  |non=>cases rx;exact Ek.int_none a t'
  |bl b=>cases rx;exact Ek.int_bool a t' b
  |int b=>obtain⟨t,rfl⟩:=rx;exact Ek.int_int a t' b t
  |str b=>obtain⟨t,rfl⟩:=rx;exact Jdw a t' b t
  |_=>exact absurd (show false=true from fx) Jj
 |str a =>
  let⟨t',rfl⟩:=ry;cases x with
  |non=>cases rx;exact Ek.str_none a t'
  |bl b=>cases rx;exact Ek.str_bool a t' b
  |int b=>obtain⟨t,rfl⟩:=rx;exact Jdx a t' b t
  |str b=>obtain⟨t,rfl⟩:=rx;exact SeqAt.EqAt.str_str a t' b t
  |_=>exact absurd (show false=true from fx) Jj
 |_=>exact absurd (show false=true from fy) Jj
def eqU(x:V)(u:Value):Bool:=match u with
 |.none=>eqV .non x
 |.bool b=>eqV (.bl b) x
 |.int i _=>eqV (.int i) x
 |.str z _=>eqV (.str z) x
 |_=>false
theorem Zmr{x y:V}{u:Value}(r:RelV y u)(f:N2 y=true):eqU x u=eqV y x:=by
 cases y with
 |non=>cases r;rfl
 |bl b=>cases r;rfl
 |int i=>obtain⟨t,rfl⟩:=r;rfl
 |str z=>obtain⟨t,rfl⟩:=r;rfl
 |_=>exact absurd (show false=true from f) Jj
theorem Qn{x:V}:∀{xs:List V}{us:List Value},Vals xs us->xs.all N2=true->us.any (eqU x)=xs.any λy=>eqV y x
 |_,_,.nil,_=>rfl
 |y::xs,u::us,.cons r t,f=>by
  rw[Jhl,B2]at f;rw[Br,Br,Zmr r f.1,Qn t f.2]
theorem Tm{x:V}{v:Value}(rx:RelV x v)(fx:N2 x=true):∀{xs:List V}{us:List Value},Vals xs us->xs.all N2=true->∀u∈us,Ek A s u v (eqU x u)
 |_,_,.nil,_=>λu hu=>by cases hu
 |y::xs,u::us,.cons r t,f=>λu' hu=>by
  rw[Jhl,B2]at f;rcases Jq.mp hu with rfl|hu
  .rw[Zmr r f.1];exact Zsk r rx f.1 fx
  .exact Tm rx fx t f.2 u' hu
def inV(x:V)(xs:List V):Bool:=xs.any λy=>eqV y x
def rIn(K:Cp)(neg:Bool):R2:=λx y H Q=>∃p xs,y=.ref p/\(SqL K H p xs\/SqT K H p xs)/\N2 x=true/\xs.all N2=true/\Q (.bl (if neg then !inV x xs else inV x xs)) H
def Zhq:OpR X (Eh .In) (rIn X.K false):=by
 intro pq s σ H x y v u Q I rx ry h;let⟨p,xs,rfl,hq,fx,fs,q⟩:=h;cases ry;rcases hq with hq|hq
 .let⟨its,r,pl,hz⟩:=I.list hq;refine SeqAt.in_listAt (eqU x) pl.isList (λw hw=>Tm rx fx r fs w (by simpa using hw)) ⟨.bl _,H,I,rfl,?_⟩;rw[show its.toArray.any (eqU x)=its.any (eqU x)by simp,Qn r fs];exact q
 .let⟨its,r,pl,hz⟩:=I.tuple hq;refine SeqAt.in_tupleAt (eqU x) pl (λw hw=>Tm rx fx r fs w (by simpa using hw)) ⟨.bl _,H,I,rfl,?_⟩;rw[show its.toArray.any (eqU x)=its.any (eqU x)by simp,Qn r fs];exact q
def Za3:OpR X (Eh .NotIn) (rIn X.K true):=by
 intro pq s σ H x y v u Q I rx ry h;let⟨p,xs,rfl,hq,fx,fs,q⟩:=h;cases ry;rcases hq with hq|hq
 .let⟨its,r,pl,hz⟩:=I.list hq;refine SeqAt.notIn_listAt (eqU x) pl.isList (λw hw=>Tm rx fx r fs w (by simpa using hw)) ⟨.bl _,H,I,rfl,?_⟩;rw[show its.toArray.any (eqU x)=its.any (eqU x)by simp,Qn r fs];exact q
 .let⟨its,r,pl,hz⟩:=I.tuple hq;refine SeqAt.notIn_tupleAt (eqU x) pl (λw hw=>Tm rx fx r fs w (by simpa using hw)) ⟨.bl _,H,I,rfl,?_⟩;rw[show its.toArray.any (eqU x)=its.any (eqU x)by simp,Qn r fs];exact q
theorem Zbu:Vj X (.type "list") (λxs H Q=>∃p ys,xs=[.ref p]/\(SqL X.K H p ys\/SqT X.K H p ys)/\∀l,H l=none->Q (.ref l) (upd H l (.lst ys))):=by
 intro pq s σ H xs us Q I r h;let⟨p,ys,rfl,hq,q⟩:=h;let⟨u,rfl,rx⟩:=Re r;cases rx;let fin:∀(its:List Value),Vals ys its->ys.length<=sizeLine->∀(h':Heap)(c':Nat),(∀b o',s.heap.get? b=some o'->h'.get? b=some o') ->
   h'.get? s.heap.objs.size=some {cls:=.type "list",dict:=none,data:=.seq its.toArray c',slots:=#[]}->EP X pq σ Q (.ref s.heap.objs.size) {s with heap:=h'}:=λits r' hz h' c' kp e =>
  ⟨.ref s.heap.objs.size,_,I.laid (t':=s.toks) kp (Je _) (show Yt X.prog X.w _ h' _ (.lst ys)from⟨hz,its,c',r',e⟩),rfl,q _ (I.hok.fresh (Je _))⟩
 rcases hq with hq|hq
 .let⟨its,r',pl,hz⟩:=I.list hq;let hlen:=r'.length;let⟨o,ho,hc,n,hd⟩:=pl.isList;exact call_list_seq p (.inl rfl) ho hc hd (λh' c' kp e=>fin its r' hz h' c' kp e) (by simp only[Jk]<;>lia)
 .let⟨its,r',pl,hz⟩:=I.tuple hq;let hlen:=r'.length;let⟨o,ho,hc,n,hd⟩:=pl;exact call_list_seq p (.inr rfl) ho hc hd (λh' c' kp e=>fin its r' hz h' c' kp e) (by simp only[Jk]<;>lia)
theorem X7:Vj X (.type "tuple") (λxs H Q=>∃p ys,xs=[.ref p]/\((SqL X.K H p ys/\∀l,H l=none->Q (.ref l) (upd H l (.tup ys)))\/(SqT X.K H p ys/\Q (.ref p) H))):=by
 intro pq s σ H xs us Q I r h;let⟨p,ys,rfl,h⟩:=h;let⟨u,rfl,rx⟩:=Re r;cases rx;rcases h with⟨hq,q⟩|⟨hq,q⟩
 .let⟨its,r',pl,hz⟩:=I.list hq;let hlen:=r'.length;refine call_tuple_list pl.isList (λh' kp=>?_) (by simp only[Jk]<;>lia);let I1:Inv X pq σ H {s with heap:=h'}:=I.kept (t':=s.toks) kp;let I2:Inv X pq σ (upd H h'.objs.size (.tup ys)) {s with heap:=h'.push {cls:=.type "tuple",data:=.seq its.toArray} } :=
   I1.laid (t':=s.toks) (λb o e=>Fm _ e) (Je _) (show Yt X.prog X.w _ _ _ (.tup ys)from⟨hz,its,r',V5.new _ _⟩)
  exists .ref h'.objs.size,_,I2,rfl,q _ (I1.hok.fresh (Je _))
 .let⟨its,r',pl,hz⟩:=I.tuple hq;exact call_tuple_same pl ⟨.ref p,H,I,rfl,q⟩
def tyV(K:Cp)(T:String)(x:V)(H:Hp):Prop:=match x with
 |.str _=>T="str"
 |.int _=>T="int"
 |.ref p=>(T="list"/\∃xs,SqL K H p xs)\/(T="tuple"/\∃o,K.lookup p=some o/\o.cls=.type "tuple"/\o.dict=none) \/
   (T="dict"/\((∃kvs,H p=some (.dK kvs))\/∃kvs,H p=some (.dT kvs)))\/(T="set"/\∃S n,H p=some (.set S n))
 |_=>False
theorem Zqh{T:String}{x:V}{v:Value}(I:Inv X pq σ H s)(r:RelV x v)(ty:tyV X.K T x H) :
  s.TypeIs v T/\∀a,v=.ref a->∃ob,s.heap.get? a=some ob/\ob.dict=none:=by
 cases x with
 |str z =>
  let⟨t,rfl⟩:=r;cases(show T="str" from ty);exists Jg5 s z t,λ_ e=>nomatch e
 |int i =>
  let⟨t,rfl⟩:=r;cases(show T="int" from ty);exists Jg6 s i t,λ_ e=>nomatch e
 |ref p =>
  cases r;rcases ty with⟨rfl,xs,hq⟩|⟨rfl,o,hk,hc,hd⟩|⟨rfl,hk⟩|⟨rfl,S,n,hk⟩
  .let⟨its,_,pl,_⟩:=I.list hq;exists pl.isList.typeIs,λa e=>?_;cases e;let⟨o,n,e,c,hd,_⟩:=pl;exists o,e,hd
  .exists⟨o,I.kIn p o hk,hc⟩,λa e=>?_;cases e;exists o,I.kIn _ o hk,hd
  .let z:∃o,s.heap.get? p=some o/\o.ExactDict:=by
    rcases hk with⟨kvs,hk⟩|⟨kvs,hk⟩
    .let⟨_,_,_,_,o,_,_,e,ex,_⟩:=I.hok p _ hk;exists o,e,ex
    .let⟨_,_,_,_,o,_,_,e,ex,_⟩:=I.hok p _ hk;exists o,e,ex
   let⟨o,e,ex⟩:=z;exists⟨o,e,ex.1⟩,λa e2=>?_;cases e2;exists o,e,ex.2.1
  .let⟨o,_,_,_,e,ex,_⟩:=I.hok p _ hk;exists⟨o,e,ex.1⟩,λa e2=>?_;cases e2;exists o,e,ex.2.1
 |_=>exact Cq ty
def tBM(K:Cp)(T:String)(r:V->List V->Hp->VK->Prop)(to:TE)(t:TA):TE:=λσ H Q=>to σ H λx H1=>tyV K T x H1/\t σ H1 λxs H2=>r x xs H2 Q
variable{o e:Expr}{to:TE}{t:TA}{cpos:Pos}{T id:String}{r:V->List V->Hp->VK->Prop}
def Nf(pa:PlainAttrs T)(slot:Slot T name id)(hty:typeOf (.builtin id)=pure (.type "method_descriptor"))(hm:MtR X id r)(ho:PE X o to)(ha:PA X (e::es) t)(hbase:Kl o name X.env (eval o X.env)=eval o X.env:=by rfl)(hfew:((Hm cpos (Ch (e::es) X.env)).all (λx=>!x.1)&&(Jfq cpos (Ja4 [] X.env)).all (λx=>x.1.isSome)
   && decide ((e::es).length+([]:List Jig).length+(if([]:List Jig).isEmpty then 0 else 1)<30))=true:=by rfl)(hline:(apos.endLine==cpos.line)=true:=by rfl)(hs:Ch (e::es) X.env=(false,eval e X.env)::Ch es X.env:=by rfl)(hplain:(Hm cpos (Ch es X.env)).any (·.1)=false:=by rfl) :
  PE X (.Call (.Attribute o name apos) (e::es) [] cpos) (tBM X.K T r to t):=by
 intro pq s σ H Q I h;refine wpAny_Call_method_late hbase hfew hline rfl (thn (ho pq s σ H _ I h) λv s1 hz=>?_);let⟨x,H1,I1,r1,ty,q1⟩:=hz;let⟨h1,h2⟩:=Zqh I1 r1 ty;refine⟨T,id,pa,slot,hty,h1,h2,?_⟩;let hA:=ha cpos pq s1 σ H1 _ I1 q1;rw[hs]at hA⊢;refine Jcu (by show(false ||(Hm cpos (Ch es X.env)).any (·.1))=false;rw[hplain]<;>rfl) (Jdf ?_);exact thn hA λus s2⟨vs,H2,I2,r2,q2⟩=>hm pq s2 σ H2 x vs v us Q I2 r1 r2 q2
end
def MtM(X:Cx)(id:String)(r:V->List V->Hp->VK->Prop):Prop :=
 ∀(pq:List (Addr×Obj))(s:Ca)(σ:St)(H:Hp)(x:V)(xs:List V)(v:Value)(us:List Value)(Q:VK),Inv X pq σ H s->RelV x v->Vals xs us->r x xs H Q ->
  Cc (Cd X.prog X.w) X.A (call (.builtin id) (v::us)) (EP X pq σ Q) X.xe s
theorem Vals.one:∀{x:V}{us:List Value},Vals [x] us->∃u,us=[u]/\RelV x u
 |_,_,.cons r .nil=>⟨_,rfl,r⟩
theorem Vals.rep(h:Vals xs us):∀k:Nat,Vals (Co k xs).flatten (Co k us).flatten
 |0=>.nil
 |k+1=>by
  rw[Bf,Bf,G5,G5];exact Vals.append h (Vals.rep h k)
theorem Zbj(its:List Value):∀(k:Nat)(acc:List Value),
  Jg7 (λx1 x2=>x1++x2) acc.toArray (Co k its.toArray)=(acc++(Co k its).flatten).toArray
 |0,acc=>by simp
 |k+1,acc=>by
  let e:acc.toArray++its.toArray=(acc++its).toArray:=by simp
  let e2:(acc++its)++(Co k its).flatten=acc++(Co (k+1) its).flatten:=by
   rw[Bf,G5,Gd]
  rw[<-e2,<-Zbj its k (acc++its),<-e,Bf,List.foldl_cons]
section
def Inv.lset{its':List Value}{n:Nat}{f:Array Value->Array Value}(I:Inv X pq σ H s)(hH:H l=some (.lst xs))(e:s.heap.get? l=some {cls:=.type "list",data:=.seq its.toArray n})(hf:f its.toArray=its'.toArray)(hv:Vals ys its')(hz:ys.length<=sizeLine) :
  Inv X pq σ (upd H l (.lst ys)) {s with heap:=s.heap.update l (Cy f),toks:=t'}:=by
 let q:=PySem.IsL.update e f;rw[hf]at q;refine I.write (x:=l) (e:=l) (by rw[hH];exact trivial) (.inl rfl) (λb' u hb hu=>(Ck s.heap (Cy f) (Cu hb)).trans hu) ⟨_,q⟩ ?_;exists hz,its',_,hv,q
def Inv.lnew(I:Inv X pq σ H s)(hv:Vals ys its)(hz:ys.length<=sizeLine) :
  Inv X pq σ (upd H s.heap.objs.size (.lst ys)) {s with heap:=s.heap.push {cls:=.type "list",data:=.seq its.toArray},toks:=t'} :=
 I.laid (λ_ _ q=>Fm _ q) (Je _) ⟨hz,its,0,hv,Fn _ rfl⟩
def Inv.fresh(I:Inv X pq σ H s):H s.heap.objs.size=none:=I.hok.fresh (Je _)
def Inv.lstM(I:Inv X pq σ H s)(hH:H l=some (.lst xs)):xs.length<=sizeLine/\∃(its:List Value)(n:Nat),Vals xs its/\xs.length=its.length/\s.heap.get? l=some {cls:=.type "list",data:=.seq its.toArray n}:=by
 let⟨z,its,n,r,e⟩:=I.hok l _ hH;exists z,its,n,r,r.length,e
theorem Ng{n:Nat}(h:n<=sizeLine):C8 n=false:=by
 unfold C8;exact Fu ()
end
section
def Zg7:V->List V->Hp->VK->Prop:=λx vs H Q=>∃l xs y,x=.ref l/\vs=[y]/\H l=some (.lst xs)/\xs.length<sizeLine/\Q .non (upd H l (.lst (xs++[y])))
theorem Tl:MtM X "list.append" Zg7:=by
 intro pq s σ H x vs v us Q I rx rv h;let⟨l,xs,y,rfl,rfl,hH,hz,q⟩:=h;cases rx;let⟨u,rfl,ru⟩:=rv.one;let⟨z,its,n,r,hl,e⟩:=I.lstM hH;refine Kw F.slot_list_append ⟨_,e,rfl⟩ F.entry_list_append (F.args_list_append_2 _ _) (PySem.list_append l its.toArray n u (by rw[Jk];lia)) ⟨e,?_⟩;exists .non,_,I.lset (its':=its++[u]) hH e (by simp) (r.append (.cons ru .nil)) ?_,rfl,q;rw[Jd,Gn];lia
def Zg6:V->List V->Hp->VK->Prop:=λx vs H Q=>∃l b xs zs,x=.ref l/\vs=[.ref b]/\H l=some (.lst xs)/\H b=some (.lst zs)/\xs.length+zs.length<=sizeLine/\Q .non (upd H l (.lst (xs++zs)))
theorem Zh2:MtM X "list.extend" Zg6:=by
 intro pq s σ H x vs v us Q I rx rv h;let⟨l,b,xs,zs,rfl,rfl,hH,hB,hz,q⟩:=h;cases rx;let⟨u,rfl,ru⟩:=rv.one;cases ru;let⟨z,its,n,r,hl,e⟩:=I.lstM hH;let⟨z2,its2,n2,r2,hl2,e2⟩:=I.lstM hB;let hsz:its.toArray.size+its2.toArray.size<=sizeLine:=by rw[Jk,Jk];lia
 let hlong:¬ (!its.toArray.isEmpty&&C8 (its.toArray.size+its2.toArray.size))=true:=by
  rw[Ng hsz,Jgr];exact Jj
 refine Kw Ho ⟨_,e,rfl⟩ Jdq (Jdg _ _)
  (AutoSeq1.list_extend_list_list_0 l its.toArray n b its2.toArray n2 hlong (by rw[Jk];lia) ()) ⟨e,e2,?_⟩
 exists .non,_,I.lset (its':=its++its2) hH e (by simp) (r.append r2) ?_,rfl,q;rw[Jd];lia
def rCat:R2:=λx y H Q=>∃l b xs zs,x=.ref l/\y=.ref b/\H l=some (.lst xs)/\H b=some (.lst zs)/\xs.length+zs.length<=sizeLine/\∀p,H p=none->Q (.ref p) (upd H p (.lst (xs++zs)))
theorem Ph:OpR X (Hi .Add) rCat:=by
 intro pq s σ H x y v u Q I rx ry h;let⟨l,b,xs,zs,rfl,rfl,hH,hB,hz,q⟩:=h;cases rx;cases ry;let⟨z,its,n,r,hl,e⟩:=I.lstM hH;let⟨z2,its2,n2,r2,hl2,e2⟩:=I.lstM hB;refine PySem.P.add_list e e2 ?_ (by rw[Jk,Jk];lia);let ea:its.toArray++its2.toArray=(its++its2).toArray:=by simp
 rw[ea];exists .ref _,_,I.lnew (t':=s.toks) (r.append r2) (by rw[Jd];lia),rfl,q _ I.fresh
def rRep:R2:=λx y H Q=>∃l k xs,x=.ref l/\y=.int k/\H l=some (.lst xs)/\-(2 ^ 63)<=k/\k<2 ^ 63/\xs.length*k.toNat<=sizeLine /\
 ∀p,H p=none->Q (.ref p) (upd H p (.lst (Co k.toNat xs).flatten))
theorem Zop{α:Type}(xs:List α)(k:Nat):(Co k xs).flatten.length=k*xs.length:=by
 induction k with
 |zero=>simp
 |succ k ih=>rw[Bf,G5,Jd,ih,Nat.succ_mul,Nat.add_comm]
theorem Zrp:OpR X (Hi .Mult) rRep:=by
 intro pq s σ H x y v u Q I rx ry h;let⟨l,k,xs,rfl,rfl,hH,h1,h2,hz,q⟩:=h;cases rx;let⟨t,rfl⟩:=ry;let⟨z,its,n,r,hl,e⟩:=I.lstM hH;let hlen:its.toArray.size*k.toNat<=sizeLine:=by rw[Jk,<-hl];exact hz
 let hcap:¬ its.toArray.size*k.toNat > (2 ^ 63-1) / 8:=by
  let:(sizeLine:Nat)<=(2 ^ 63-1) / 8:=by decide
  lia
 let hfit:¬ (!Builtin.List.listFitsIndex k)=true:=by
  rw[fitsIndex_both h1 h2];exact Jj
 let hlong:¬ C8 (its.toArray.size*k.toNat)=true:=by
  rw[Ng hlen];exact Jj
 let hnew:Jg7 (λx1 x2=>x1++x2) #[] (Co (if its.toArray.isEmpty=true then 0 else k.toNat) its.toArray)=(Co k.toNat its).flatten.toArray:=by
  let f0:∀m:Nat,Jg7 (λx1 x2=>x1++x2) #[] (Co m its.toArray)=(Co m its).flatten.toArray:=λm=>by
   let:=Zbj its m [];rw[List.nil_append]at this;exact this
  rw[f0];cases its with
  |nil=>simp
  |cons a r'=>rw[Fp (by simp)]
 refine wpAny_binaryOp_repeat_ref (T:="list") (U:="int") nofun ⟨_,e,rfl⟩ (λs'=>Jg6 s' k t) noFill_list_mul F.fills_int_mul Jfz repeat_list F.slot_int_index.lookup
  (Kw Jfz (Jg6 s k t) F.entry_int_rmul (F.args_int_rmul_2 _ _) (int___rmul___int_list k t l its.toArray n)
   ⟨e,rfl,⟨_,e,rfl⟩,Kw F.slot_list_mul ⟨_,e,rfl⟩ F.entry_list_mul (F.args_list_mul_2 _ _) (AutoListH.list___mul___list_int_3 l its.toArray n k t hfit hcap hlong) ⟨e,?_⟩⟩)
 rw[hnew];exists .ref _,_,I.lnew (t':=s.toks) (r.rep k.toNat) (by rw[Zop,Jhw];exact hz),rfl,q _ I.fresh
end
section
variable[DecidableEq κ]
def valV(kvs:List (κ×V))(k:κ):Option V:=(kvs.find? λkv=>decide (kv.1=k)).map (·.2)
def putK(kvs:List (κ×V))(k:κ)(v:V):List (κ×V) :=
 if(kvs.any λkv=>decide (kv.1=k))=true then kvs.map (λkv=>if kv.1=k then(kv.1,v)else kv)else kvs++[(k,v)]
def Zj9{k:κ}:valV ([]:List (κ×V)) k=none:=rfl
def Xh{p:κ×V}{r:List (κ×V)}{k:κ}(e:p.1=k):valV (p::r) k=some p.2:=by simp[valV,G2,e]
def Xi{p:κ×V}{r:List (κ×V)}{k:κ}(e:¬ p.1=k):valV (p::r) k=valV r k:=by simp[valV,G2,e]
theorem Ss(k:κ):∀kvs:List (κ×V),(kvs.any λkv=>decide (kv.1=k))=(valV kvs k).isSome
 |[]=>rfl
 |p::r=>by
  rw[Br]
  by_cases e:p.1=k
  .simp only[Xh e,Ft e,Bool.true_or,Option.isSome_some]
  .rw[Xi e,Fu e,Jhm];exact Ss k r
theorem Zdt(k j:κ)(y:V):∀kvs:List (κ×V),valV (kvs.map λkv=>if kv.1=k then(kv.1,y)else kv) j=(valV kvs j).map λx=>if j=k then y else x
 |[]=>rfl
 |p::r=>by
  let ih:=Zdt k j y r;rw[Js]
  by_cases h:p.1=k
  .rw[Fs h]
   by_cases e:p.1=j
   .rw[Xh (p:=(p.1,y)) e,Xh e,B3,Fs (e.symm.trans h)]
   .rw[Xi (p:=(p.1,y)) e,Xi e,ih]
  .rw[Fp h]
   by_cases e:p.1=j
   .rw[Xh (p:=p) e,Xh e,B3,Fp (λz=>h (e.trans z))]
   .rw[Xi (p:=p) e,Xi e,ih]
theorem Zaj(k j:κ)(y:V):∀kvs:List (κ×V),valV kvs k=none->valV (kvs++[(k,y)]) j=if j=k then some y else valV kvs j
 |[],_=>by
  by_cases e:k=j
  .rw[Fs e.symm];exact Xh (p:=(k,y)) e
  .rw[Fp (λz=>e z.symm)];exact Xi (p:=(k,y)) e
 |p::r,hn=>by
  rw[Jfh];let hk:¬ p.1=k:=λz=>by rw[Xh z]at hn;cases hn
  rw[Xi hk]at hn;let ih:=Zaj k j y r hn
  by_cases e:p.1=j
  .rw[Xh e,Xh e,Fp (λz=>hk (e.trans z))]
  .rw[Xi e,Xi e,ih]
def Pw(kvs:List (κ×V))(k j:κ)(y:V):valV (putK kvs k y) j=if j=k then some y else valV kvs j:=by
 unfold putK
 by_cases a:(kvs.any λkv=>decide (kv.1=k))=true
 .rw[Fs a,Zdt];rw[Ss]at a
  by_cases e:j=k
  .let⟨x,hx⟩:=Option.isSome_iff_exists.mp a;rw[Fs e,e,hx,B3,Fs rfl]
  .rw[Fp e];cases valV kvs j with
   |none=>rfl
   |some x=>rw[B3,Fp e]
 .rw[Fp a];refine Zaj k j y kvs ?_;rw[Ss]at a;cases q:valV kvs k with
  |none=>rfl
  |some x=>rw[q]at a;exact(a rfl).elim
theorem Y3(kvs:List (κ×V))(k:κ)(v:V):(putK kvs k v).length<=kvs.length+1:=by
 unfold putK
 split
 .rw[Jb];lia
 .rw[Jd,Jx,Bw];lia
theorem RelO.isSome_eq{o:Option V}{u:Option Value}(r:RelO o u):o.isSome=u.isSome:=by
 cases o with
 |none=>cases u with
  |none=>rfl
  |some _=>exact(show False from r).elim
 |some _=>cases u with
  |none=>exact(show False from r).elim
  |some _=>rfl
theorem RelO.getD{o:Option V}{u:Option Value}{d:V}{d':Value}(r:RelO o u)(rd:RelV d d'):RelV (o.getD d) (u.getD d'):=by
 cases o with
 |none=>cases u with
  |none=>exact rd
  |some _=>exact(show False from r).elim
 |some _=>cases u with
  |none=>exact(show False from r).elim
  |some _=>exact r
theorem KV.val{kvs:List (κ×V)}{vs:List (κ×Value)}(r:KV kvs vs)(k:κ):RelO (valV kvs k) (Jes vs k):=by
 unfold KV at r
 induction r with
 |nil=>exact Eg
 | @cons p q ps qs h t ih =>
  let⟨h1,h2⟩:=h
  by_cases e:p.1=k
  .let e':q.1=k:=h1.symm.trans e;let b:Jes (q::qs) k=some q.2:=by simp[Jes,G2,e']
   rw[Xh e,b];exact h2
  .let e':¬ q.1=k:=λz=>e (h1.trans z);let b:Jes (q::qs) k=Jes qs k:=by simp[Jes,G2,e']
   rw[Xi e,b];exact ih
theorem KV.any{kvs:List (κ×V)}{vs:List (κ×Value)}(r:KV kvs vs)(k:κ):(kvs.any λkv=>decide (kv.1=k))=vs.any λkv=>decide (kv.1=k):=by
 unfold KV at r
 induction r with
 |nil=>rfl
 |cons h t ih=>rw[Br,Br,ih,h.1]
theorem KV.repl{kvs:List (κ×V)}{vs:List (κ×Value)}(r:KV kvs vs)(k:κ){y:V}{u:Value}(ry:RelV y u) :
  KV (kvs.map λkv=>if kv.1=k then(kv.1,y)else kv) (vs.map λkv=>if kv.1=k then(kv.1,u)else kv):=by
 unfold KV at r⊢
 induction r with
 |nil=>exact .nil
 | @cons p q ps qs h t ih =>
  rw[Js,Js];refine .cons ?_ ih;let⟨h1,h2⟩:=h
  by_cases e:p.1=k
  .rw[Fs e,Fs (h1.symm.trans e)];exists h1,ry
  .rw[Fp e,Fp (λz=>e (h1.trans z))];exists h1,h2
def KV.put{kvs:List (κ×V)}{vs:List (κ×Value)}(r:KV kvs vs)(k:κ){y:V}{u:Value}(ry:RelV y u):KV (putK kvs k y) (stored vs k u):=by
 unfold putK stored;rw[r.any k]
 by_cases e:(vs.any λkv=>decide (kv.1=k))=true
 .rw[Fs e,Fs e];exact r.repl k ry
 .rw[Fp e,Fp e];exact Paired.snoc r ⟨rfl,ry⟩
def KV.length{kvs:List (κ×V)}{vs:List (κ×Value)}(r:KV kvs vs):kvs.length=vs.length:=Paired.length r
end
theorem Zcz{w:Ct}{k:Key}{u:Value}(r:RelV (kV k) u):(Yx P w).is k u=true:=by
 cases k with
 |inl i=>obtain⟨t,e⟩:=(show ∃t,u=Ea i t from r);subst e;exact Zcw P w i t
 |inr x=>obtain⟨t,e⟩:=(show ∃t,u=Jcz x t from r);subst e;exact Zcv P w x t
theorem Zba{w:Ct}:∀{ks:List Key}{us:List Value},Vals (ks.map kV) us->ItemsAre (Yx P w) ks us
 |[],_,r=>by rw[Ma]at r;cases r;exact .nil
 |k::ks,_,r=>by
  rw[Js]at r;cases r with
  |cons h t=>exact .cons (Zcz h) (Zba t)
abbrev KT(H:Hp):List (List Key×V)->List (List Key×Addr×Value)->Prop:=Paired λp q=>p.1=q.1/\H q.2.1=some (.tup (p.1.map kV))/\RelV p.2 q.2.2
theorem KT.val{xs:List (List Key×Addr×Value)}(r:KT H kvs xs)(k:List Key):RelO (valV kvs k) ((Jhx xs k).map (·.2)):=by
 induction r with
 |nil=>exact Eg
 | @cons p q ps qs h t ih =>
  let⟨h1,_,h2⟩:=h
  by_cases e:p.1=k
  .let e':q.1=k:=h1.symm.trans e;let b:Jhx (q::qs) k=some q.2:=by simp[Jhx,G2,e']
   rw[Xh e,b];exact h2
  .let e':¬ q.1=k:=λz=>e (h1.trans z);let b:Jhx (q::qs) k=Jhx qs k:=by simp[Jhx,G2,e']
   rw[Xi e,b];exact ih
theorem KT.repl{xs:List (List Key×Addr×Value)}(r:KT H kvs xs)(k:List Key){y:V}{u:Value}(ry:RelV y u) :
  KT H (kvs.map λkv=>if kv.1=k then(kv.1,y)else kv) (xs.map (putAt k u)):=by
 induction r with
 |nil=>exact .nil
 | @cons p q ps qs h t ih =>
  rw[Js,Js];refine .cons ?_ ih;let⟨h1,h2,h3⟩:=h;unfold putAt
  by_cases e:p.1=k
  .rw[Fs e,Fs (h1.symm.trans e)];exists h1,h2,ry
  .rw[Fp e,Fp (λz=>e (h1.trans z))];exists h1,h2,h3
def KT.put{xs:List (List Key×Addr×Value)}(r:KT H kvs xs)(k:List Key){y:V}{u:Value}(hb:H b=some (.tup (k.map kV)))(ry:RelV y u) :
  KT H (putK kvs k y) (storedH xs k b u):=by
 let e:(kvs.any λkv=>decide (kv.1=k))=(Jhx xs k).isSome:=by
  rw[Ss,(r.val k).isSome_eq,Mt]
 unfold putK storedH;rw[e]
 by_cases q:(Jhx xs k).isSome=true
 .rw[Fs q,Fs q];exact r.repl k ry
 .rw[Fp q,Fp q];exact Paired.snoc r ⟨rfl,hb,ry⟩
def KT.keeps{xs:List (List Key×Addr×Value)}(r:KT H kvs xs)(ht:∀b ys,H b=some (.tup ys)->H' b=some (.tup ys)):KT H' kvs xs :=
 Paired.mapP r λ_ _ z=>⟨z.1,ht _ _ z.2.1,z.2.2⟩
section
variable{w:Ct}{a:Addr}
def Zre{u:HO}(ok:HOk P w H h)(e:Rd H a u):Yt P w H h a u:=e.ok ok
def Zc9{kvs:List (Key×V)}(ok:HOk P w H h)(e:Rd H a (.dK kvs)):kvs.length<=sizeLine/\(a==E1)=false/\∃vs,KV kvs vs/\h.DictOf (Yx P w) a vs :=
 show Yt P w H h a (.dK kvs)from Zre ok e
def Zo9{kvs:List (Key×V)}(ok:HOk P w H h)(e:H a=some (.dK kvs)):kvs.length<=sizeLine/\(a==E1)=false/\∃vs,KV kvs vs/\h.DictOf (Yx P w) a vs:=Zc9 ok (.inl e)
def R9{ks:List Key}(ok:HOk P w H h)(e:H a=some (.tup (ks.map kV))):(Ml (Yx P w)).is h ks a:=by
 let⟨_,its,r,o,h1,h2,n,h3,_⟩:=(show Yt P w H h a (.tup (ks.map kV))from ok a _ e);exact⟨o,its.toArray,n,h1,h2,h3,by simpa using Zba r⟩
def Zc8(ok:HOk P w H h)(e:Rd H a (.dT kvs)):kvs.length<=sizeLine/\(a==E1)=false /\
  ∃xs,KT H kvs xs/\h.DictOfH (Ml (Yx P w)) a xs:=by
 let⟨z,y,xs,r,o,es,ep,h1,h2,h3,h4,h5⟩:=(show Yt P w H h a (.dT kvs)from Zre ok e);refine⟨z,y,xs,r,o,es,ep,h1,h2,h3,h4,λx hx=>?_,h5⟩;let all:∀{l:List (List Key×V)}{m:List (List Key×Addr×Value)},KT H l m->∀x∈m,(Ml (Yx P w)).is h x.1 x.2.1:=by
  intro l m q
  induction q with
  |nil=>intro x hx;exact nomatch hx
  | @cons p q ps qs hq t ih =>
   intro x hx;rcases Jq.mp hx with e|hx
   .subst e;exact R9 ok (by rw[<-hq.1];exact hq.2.1)
   .exact ih x hx
 exact all r x hx
def Zsm(ok:HOk P w H h)(e:H a=some (.dT kvs)):kvs.length<=sizeLine/\(a==E1)=false /\
  ∃xs,KT H kvs xs/\h.DictOfH (Ml (Yx P w)) a xs:=Zc8 ok (.inl e)
end
def DGet(H:Hp)(a:Addr)(y:V)(r:Option V):Prop :=
 (∃kvs k,Rd H a (.dK kvs)/\y=kV k/\r=valV kvs k)\/∃kvs k b,Rd H a (.dT kvs)/\y=.ref b/\H b=some (.tup (k.map kV))/\r=valV kvs k
def DPut(H:Hp)(a:Addr)(y v:V)(H':Hp):Prop :=
 (∃kvs k,H a=some (.dK kvs)/\y=kV k/\kvs.length<sizeLine/\H'=upd H a (.dK (putK kvs k v))) \/
 ∃kvs k b,H a=some (.dT kvs)/\y=.ref b/\H b=some (.tup (k.map kV))/\kvs.length<sizeLine/\H'=upd H a (.dT (putK kvs k v))
theorem DGet.k{a:Addr}{kvs:List (Key×V)}{k:Key}(e:H a=some (.dK kvs)):DGet H a (kV k) (valV kvs k):=.inl ⟨kvs,k,.inl e,rfl,rfl⟩
def DGet.t{a:Addr}{k:List Key}(e:H a=some (.dT kvs))(eb:H b=some (.tup (k.map kV))):DGet H a (.ref b) (valV kvs k):=.inr ⟨kvs,k,b,.inl e,rfl,eb,rfl⟩
theorem DPut.k{a:Addr}{kvs:List (Key×V)}{k:Key}(e:H a=some (.dK kvs))(hl:kvs.length<sizeLine):DPut H a (kV k) v (upd H a (.dK (putK kvs k v))):=.inl ⟨kvs,k,e,rfl,hl,rfl⟩
def DPut.t{a:Addr}{k:List Key}(e:H a=some (.dT kvs))(eb:H b=some (.tup (k.map kV)))(hl:kvs.length<sizeLine) :
  DPut H a (.ref b) v (upd H a (.dT (putK kvs k v))):=.inr ⟨kvs,k,b,e,rfl,eb,hl,rfl⟩
section
variable{a:Addr}{y:V}{u r:Value}{o:Option V} 
def Inv.big(I:Inv X pq σ H s):E1<s.heap.objs.size:=by
 let h:mainGlobals<s.heap.objs.size:=(I.mod.glob.keeps I.bk).lt;exact Nat.lt_trans nofun h
def Zi7{Q:Value->Ca->Prop}(hu:A.units+1<cLine)(I:Inv X pq σ H s)(g:DGet H a y (some v))(ry:RelV y u)(h:∀w' s',Inv X pq σ H s'->RelV v w'->Q w' s') :
  Cc (Cd X.prog X.w) A (Lk (.ref a) u) Q E s:=by
 rcases g with⟨kvs,k,e,ey,l⟩|⟨kvs,k,b,e,ey,eb,l⟩
 .subst ey;let⟨z,hd,vs,rel,dd⟩:=Zc9 I.hok e;let⟨w',hw,rw'⟩:=RelO.some_of (v:=v) (o:=Jes vs k) (by rw[l];exact rel.val k);exact wpAny_getItem_of (Zcz ry) dd.mapOf hw (h w' _ (I.tok _) rw')
 .subst ey;cases(show u=Cb b from ry);let⟨z,hd,xs,rel,dd⟩:=Zc8 I.hok e;let⟨w',hw,rw'⟩:=RelO.some_of (v:=v) (o:=(Jhx xs k).map (·.2)) (by rw[l];exact rel.val k);let⟨p,hp,hp2⟩:=Option.map_eq_some_iff.mp hw;refine wpAny_getItem_heap (Hk hu) (R9 I.hok eb) dd hp ?_;rw[hp2];exact h w' _ (I.tok _) rw'
def d_in{Q:Value->Ca->Prop}(hu:A.units+1<cLine)(I:Inv X pq σ H s)(g:DGet H a y o)(ry:RelV y u)(h:∀s',Inv X pq σ H s'->Q (.bool o.isSome) s') :
  Cc (Cd X.prog X.w) A (Eh .In u (.ref a)) Q E s:=by
 rcases g with⟨kvs,k,e,ey,l⟩|⟨kvs,k,b,e,ey,eb,l⟩
 .subst ey;let⟨z,hd,vs,rel,dd⟩:=Zc9 I.hok e;refine wpAny_in_of (Zcz ry) hd dd.mapOf ?_;rw[<-(rel.val k).isSome_eq,<-l];exact h _ (I.tok _)
 .subst ey;cases(show u=Cb b from ry);let⟨z,hd,xs,rel,dd⟩:=Zc8 I.hok e;refine wpAny_in_heap (Hk hu) (R9 I.hok eb) hd dd ?_;let q:=(rel.val k).isSome_eq;rw[Mt]at q;rw[<-q,<-l];exact h _ (I.tok _)
def Zpa{Q:Value->Ca->Prop}(hu:A.units+1<cLine)(I:Inv X pq σ H s)(g:DGet H a y o)(ry:RelV y u)(h:∀s',Inv X pq σ H s'->Q (.bool (!o.isSome)) s') :
  Cc (Cd X.prog X.w) A (Eh .NotIn u (.ref a)) Q E s:=by
 rcases g with⟨kvs,k,e,ey,l⟩|⟨kvs,k,b,e,ey,eb,l⟩
 .subst ey;let⟨z,hd,vs,rel,dd⟩:=Zc9 I.hok e;refine wpAny_notIn_of (Zcz ry) hd dd.mapOf ?_;rw[<-(rel.val k).isSome_eq,<-l];exact h _ (I.tok _)
 .subst ey;cases(show u=Cb b from ry);let⟨z,hd,xs,rel,dd⟩:=Zc8 I.hok e;refine wpAny_notIn_heap (Hk hu) (R9 I.hok eb) hd dd ?_;let q:=(rel.val k).isSome_eq;rw[Mt]at q;rw[<-q,<-l];exact h _ (I.tok _)
def N4{ob:HO}(I:Inv X pq σ H s)(mu:Mut (H a))(hs:E9 a s.heap h')(he:∃q,h'.get? a=some q)(new:Yt X.prog X.w (upd H a ob) h' a ob) :
  Inv X pq σ (upd H a ob) {s with heap:=h',toks:=t'} :=
 I.write (x:=a) (e:=a) mu (.inl rfl) (λb q hb z=>(hs.2 b hb).trans z) he new
def Zms{w:Ct}{kvs:List (Key×V)}{vs:List (Key×Value)}(z:kvs.length<=sizeLine)(hd:(a==E1)=false)(rel:KV kvs vs)(dd:h'.DictOf (Yx P w) a vs) :
  Yt P w H' h' a (.dK kvs):=⟨z,hd,vs,rel,dd⟩
theorem Zi6{Q:Unit->Ca->Prop}(hu:A.units+1<cLine)(I:Inv X pq σ H s)(g:DPut H a y v H')(ry:RelV y u)(rv:RelV v r)(h:∀s',Inv X pq σ H' s'->Q ⟨⟩ s') :
  Cc (Cd X.prog X.w) A (Jh9 (.ref a) u r) Q E s:=by
 rcases g with⟨kvs,k,e,ey,l,eH⟩|⟨kvs,k,b,e,ey,eb,l,eH⟩
 .subst ey eH;let⟨z,hd,vs,rel,dd⟩:=Zo9 I.hok e;let hz:vs.length<=sizeLine:=by rw[<-rel.length];exact z
  let hl:(putK kvs k v).length<=sizeLine:=by have:=Y3 kvs k v;lia
  refine wpAny_setItem_pairs (hsz:=hz) (Zcz ry) dd λh' dd' hs=>h _ ?_;let he:∃q,h'.get? a=some q:=let⟨q,_,_,hq,_⟩:=dd';⟨q,hq⟩
  exact N4 I (by rw[e];exact Eg) hs he (Zms hl hd (rel.put k rv) dd')
 .subst ey eH;cases(show u=Cb b from ry);let⟨z,hd,xs,rel,dd⟩:=Zsm I.hok e;let hz:xs.length<=sizeLine:=by rw[<-Paired.length rel];exact z
  let hl:(putK kvs k v).length<=sizeLine:=by have:=Y3 kvs k v;lia
  refine wpAny_setItem_heap (hsz:=hz) (Hk hu) (R9 I.hok eb) dd λh' dd' hs=>h _ ?_;let⟨q,es,ep,hq,h2,h3,h4,_,h5⟩:=dd';refine N4 I (by rw[e];exact Eg) hs ⟨q,hq⟩ ⟨hl,hd,_,(rel.put k eb rv).keeps λc ys ec=>?_,q,es,ep,hq,h2,h3,h4,h5⟩;rw[Zl (X1 ec e (λz=>nomatch z))];exact ec
end
def NoSl(i:Expr):Prop:=∀ov iv,Ja9 i false ov iv=Jif [ov,iv] (Lk ov iv)
def Zng{w:Ct}{env:Env}{slice:Expr}{T id:String}{Q:Value->Ca->Prop}(hl:Jda (.type T) "__getitem__"=pure (some (.builtin id)))(hs:NoSl slice)(h:Cc (Cd prog w) A (eval value env) (λo s₁=>Cc (Cd prog w) A (eval slice env) (λi s₂=>s₂.TypeIs o T/\Cc (Cd prog w) A (Lk o i) Q E s₂) E s₁) E s) :
  Cc (Cd prog w) A (eval (.Subscript value slice pos) env) Q E s:=by
 refine Jdb (Fx h (λo s₁ h₁=>Fx h₁ (λi s₂ h₂=>?_) λ_ _ x=>x) λ_ _ x=>x);let⟨hT,h₂⟩:=h₂;unfold Ja8;refine Fk ?_;rw[getitemInPython_of_ne hT.not_modules];refine Fk (wpAny_specialOf hT hl ?_);let fin:Cc (Cd prog w) A (Ja9 slice false o i) (λr s₃=>Cc (Cd prog w) A (letTemporaryGo value o r >>= λ_=>pure r) Q E s₃) E s₂:=by
  rw[hs o i];exact wpAny_operating (Fx h₂ (λr s₃ h₃=>Fk (wpAny_letTemporaryGo (Fl h₃))) λ_ _ x=>x)
 first
  |exact Fl (Fk fin)
  |exact Fk (Fl (Fk fin))
  |exact Fk fin
def Zda{a:Addr}{y:V}{o:Option V}(I:Inv X pq σ H s)(g:DGet H a y o):s.TypeIs (.ref a) "dict":=by
 rcases g with⟨kvs,k,e,_,_⟩|⟨kvs,k,b,e,_,_,_⟩
 .let⟨_,_,vs,_,dd⟩:=Zc9 I.hok e;exact dd.typeIs
 .let⟨_,_,xs,_,dd⟩:=Zc8 I.hok e;exact dd.typeIs
def Zqs(td ty:TE):TE:=λσ H Q=>td σ H λx H1=>ty σ H1 λy H2=>∃a v,x=.ref a/\DGet H2 a y (some v)/\Q v H2
def tDIn(ty td:TE):TE:=λσ H Q=>ty σ H λy H1=>td σ H1 λx H2=>∃a o,x=.ref a/\DGet H2 a y o/\Q (.bl o.isSome) H2
def Zge(ty td:TE):TE:=λσ H Q=>ty σ H λy H1=>td σ H1 λx H2=>∃a o,x=.ref a/\DGet H2 a y o/\Q (.bl (!o.isSome)) H2
def Zrd(td ty tv:TE):TS:=λD σ H=>tv σ H λv H1=>td σ H1 λx H2=>ty σ H2 λy H3=>∃a H4,x=.ref a/\DPut H3 a y v H4/\D.nx σ H4
section
variable{o i:Expr}{td ty tv:TE}
def Wv(hu:X.A.units+1<cLine)(ho:PE X o td)(hi:PE X i ty)(hs:NoSl i):PE X (.Subscript o i pos) (Zqs td ty):=by
 intro pq s σ H Q I h;refine Zng PySem.F.slot_dict_getitem.lookup hs (thn (ho pq s σ H _ I h) λu s1⟨x,H1,I1,rx,q1⟩=>thn (hi pq s1 σ H1 _ I1 q1) λiv s2 hz=>?_);let⟨y,H2,I2,ry,a,v,ex,g,q2⟩:=hz;subst ex;obtain rfl:u=Cb a:=rx;exists Zda I2 g,Zi7 hu I2 g ry λw' s3 I3 rw'=>⟨v,H2,I3,rw',q2⟩
def Zmk(hu:X.A.units+1<cLine)(hi:PE X i ty)(ho:PE X o td):PC X .In i o (tDIn ty td):=by
 intro pq s σ H Q I h;refine thn (hi pq s σ H _ I h) λiv s1⟨y,H1,I1,ry,q1⟩=>thn (ho pq s1 σ H1 _ I1 q1) λu s2 hz=>?_;let⟨x,H2,I2,rx,a,ov,ex,g,q2⟩:=hz;subst ex;obtain rfl:u=Cb a:=rx;exact d_in hu I2 g ry λs3 I3=>⟨.bl ov.isSome,H2,I3,rfl,q2⟩
def Za2(hu:X.A.units+1<cLine)(hi:PE X i ty)(ho:PE X o td):PC X .NotIn i o (Zge ty td):=by
 intro pq s σ H Q I h;refine thn (hi pq s σ H _ I h) λiv s1⟨y,H1,I1,ry,q1⟩=>thn (ho pq s1 σ H1 _ I1 q1) λu s2 hz=>?_;let⟨x,H2,I2,rx,a,ov,ex,g,q2⟩:=hz;subst ex;obtain rfl:u=Cb a:=rx;exact Zpa hu I2 g ry λs3 I3=>⟨.bl (!ov.isSome),H2,I3,rfl,q2⟩
def T5(hu:X.A.units+1<cLine)(ho:PE X o td)(hi:PE X i ty)(hv:PE X value tv)(hs:Mm value (some (.Subscript o i pos')) pos.line X.env=pure false) :
  PS X (.Assign [.Subscript o i pos'] value pos) (Zrd td ty tv):=by
 intro pq s σ H D I h;refine wpAny_Assign_Subscript (thn (hv pq s σ H _ I h) λr s1⟨v,H1,I1,rv,q1⟩=>thn (ho pq s1 σ H1 _ I1 q1) λu s2⟨x,H2,I2,rx,q2⟩=>thn (hi pq s2 σ H2 _ I2 q2) λiv s3 hz=>?_) hs;let⟨y,H3,I3,ry,a,H4,ex,g,q3⟩:=hz;subst ex;obtain rfl:u=Cb a:=rx;exact Zi6 hu I3 g ry rv λs4 I4=>⟨σ,H4,I4,q3⟩
end
def Zem{w:Ct}(h:Heap)(hb:E1<h.objs.size):Yt P w H (h.push {cls:=.type "dict",data:=.dict #[]}) h.objs.size (.dK []) :=
 ⟨Gf _,beq_eq_false_iff_ne.mpr (Cu (J9 hb)),[],.nil,Jiw h⟩
def Zel{w:Ct}(h:Heap)(hb:E1<h.objs.size):Yt P w H (h.push {cls:=.type "dict",data:=.dict #[]}) h.objs.size (.dT []) :=
 ⟨Gf _,beq_eq_false_iff_ne.mpr (Cu (J9 hb)),[],.nil,_,#[],0,Fn _ rfl,⟨rfl,rfl,rfl⟩,rfl,rfl,Ff⟩
def Zlz:TE:=λ_ H Q=>∀p,H p=none->Q (.ref p) (upd H p (.dK []))
def Zly:TE:=λ_ H Q=>∀p,H p=none->Q (.ref p) (upd H p (.dT []))
section
def Sz:PE X (.Dict [] [] pos) Zlz:=λpq s σ H Q I h =>
 Jfi ⟨.ref s.heap.objs.size,_,I.laid (a:=s.heap.objs.size) (o:=.dK []) (t':=s.toks) (λ_ _ q=>Fm _ q) (Je _) (Zem s.heap I.big),rfl,h _ (I.hok.fresh (Je _))⟩
def Zd7:PE X (.Dict [] [] pos) Zly:=λpq s σ H Q I h =>
 Jfi ⟨.ref s.heap.objs.size,_,I.laid (a:=s.heap.objs.size) (o:=.dT []) (t':=s.toks) (λ_ _ q=>Fm _ q) (Je _) (Zel s.heap I.big),rfl,h _ (I.hok.fresh (Je _))⟩
end
structure M1(X:Cx)(o:Expr)(m:Str)(apos:Pos)(e:Expr)(cpos:Pos):Prop where
 base:Kl o m X.env (eval o X.env)=eval o X.env
 few:((Hm cpos (Ch [e] X.env)).all (λx=>!x.1)&&(Jfq cpos (Ja4 [] X.env)).all (λx=>x.1.isSome)
  && decide (([e]:List Expr).length+([]:List Jig).length+(if([]:List Jig).isEmpty then 0 else 1)<30))=true
 line:(apos.endLine==cpos.line)=true
 trees:Hm cpos (Ch [e] X.env)=[(false,eval e X.env)]
def IsD(H:Hp)(a:Addr):Prop:=(∃kvs,Rd H a (.dK kvs))\/∃kvs,Rd H a (.dT kvs)
def Zsa{a:Addr}(I:Inv X pq σ H s)(d:IsD H a) :
  s.TypeIs (.ref a) "dict"/\(∀b,Cb a=.ref b->∃ob,s.heap.get? b=some ob/\ob.dict=none)/\(a==E1)=false:=by
 rcases d with⟨kvs,e⟩|⟨kvs,e⟩
 .let⟨_,hd,vs,_,dd⟩:=Zc9 I.hok e;exists dd.typeIs,λb q=>?_,hd;cases q;let⟨ob,_,_,h1,h2,_⟩:=dd;exists ob,h1,h2.2.1
 .let⟨_,hd,xs,_,dd⟩:=Zc8 I.hok e;exists dd.typeIs,λb q=>?_,hd;cases q;let⟨ob,_,_,h1,h2,_⟩:=dd;exists ob,h1,h2.2.1
section
variable{a:Addr}{y:V}{u:Value}{o:Option V} 
def Zsp{Q:Value->Ca->Prop}(hu:A.units+1<cLine)(I:Inv X pq σ H s)(g:DGet H a y o)(ry:RelV y u)(h:∀w' s',Inv X pq σ H s'->RelV (o.getD .non) w'->Q w' s') :
  Cc (Cd X.prog X.w) A (call (.builtin "dict.get") [.ref a,u]) Q E s:=by
 rcases g with⟨kvs,k,e,ey,l⟩|⟨kvs,k,b,e,ey,eb,l⟩
 .subst ey;let⟨z,hd,vs,rel,dd⟩:=Zc9 I.hok e;refine call_meetsIn K1 dd.typeIs Jcv (Jb0 _ _) (meets_dict_get (Yx X.prog X.w) a (Zcz ry) hd) ⟨_,dd.mapOf,h _ _ (I.tok _) ?_⟩;rw[l];exact(rel.val k).getD rfl
 .subst ey;cases(show u=Cb b from ry);let⟨z,hd,xs,rel,dd⟩:=Zc8 I.hok e;refine call_meetsIn K1 dd.typeIs Jcv (Jb0 _ _) (meetsH_dict_get (Ml (Yx X.prog X.w)) a b hd) ⟨Hk hu,k,xs,R9 I.hok eb,dd,h _ _ (I.tok _) ?_⟩;rw[l];exact(rel.val k).getD rfl
end
def Zqr(td ty:TE):TE:=λσ H Q=>td σ H λx H1=>∃a,x=.ref a/\IsD H1 a/\ty σ H1 λy H2=>∃o,DGet H2 a y o/\Q (o.getD .non) H2
section
variable{o e:Expr}{cpos:Pos}{td ty:TE}
def Zd8(hu:X.A.units+1<cLine)(ho:PE X o td)(he:PE X e ty)(m:M1 X o "get" apos e cpos):PE X (.Call (.Attribute o "get" apos) [e] [] cpos) (Zqr td ty):=by
 intro pq s σ H Q I h;refine wpAny_Call_method m.base m.few m.line PySem.F.plainAttrs_dict K1 PySem.F.type_dict_get (thn (ho pq s σ H _ I h) λu s1 hz=>?_);let⟨x,H1,I1,rx,a,ex,d,q1⟩:=hz;subst ex;obtain rfl:u=Cb a:=rx;let⟨t1,t2,_⟩:=Zsa I1 d;exists t1,t2,?_;rw[m.trees];refine Jcu rfl (Jdf (Hj (thn (he pq s1 σ H1 _ I1 q1) λiv s2⟨y,H2,I2,ry,ov,g,q2⟩=>Mq ?_)));exact Zsp hu I2 g ry λw' s3 I3 rw'=>⟨_,H2,I3,rw',q2⟩
end
end L2
namespace Att
open PySem PySem.W PySem.Calls PyProof.Rows
theorem Qc{P:Params} :∀(ns:List Int)(vs:List Value),WellAll P h vs (ns.map Jix)->Mi vs ns:=by
 intro ns
 induction ns with
 |nil =>
  intro vs w;rw[Ma]at w;cases w;exact .nil
 |cons n ns ih =>
  intro vs w;rw[Js]at w;cases w with
  |cons a b =>
   cases a;exact .cons _ _ (ih _ b)
theorem Zgt{l:OpenLaw}{n:Nat}(hn:l.most=some n){P:Params}{args:List WData}{vals:List Value}(hpre:l.row.toRowW.claim.pre args=true)(hwl:WellAll P h vals args) :
  ∃a vs ns,vals=[Cb a]/\args=[WData.list (ns.map Jix)]/\h.get? a=some {cls:=.type "list",data:=.seq vs.toArray}/\Mi vs ns/\ns.length<=n:=by
 let hsh:WShape.hasAll [] args [.list .int]=true:=(pre_splitW hpre).1;let hc:l.pre.holds [] {args:=args}=true:=(pre_splitW hpre).2;let⟨d,r,rfl,h1,h2⟩:=hasAllW_cons hsh;obtain rfl:=hasAllW_nil h2;let⟨xs,rfl,h3⟩:=hasW_list h1;let⟨ns,rfl⟩:=items_int h3;let hlen:ns.length<=n:=by
  unfold OpenLaw.pre at hc;let h4:(WTm.not (.lt (.lit (.int (n:Int))) (.len (.arg 0)))).holds [] {args:=[.list (ns.map .int)]}=true:=by
   let h4:=(holds_andW hc).1;rw[hn]at h4;exact h4
  let h5:=condW_of h4 (w_not (w_lt w_lit (w_len_list (w_arg rfl))));rw[Jb]at h5;refine Nat.le_of_not_lt λq=>?_;let q':(n:Int)<((ns.length:Nat):Int):=by lia
  first
   |(rw[Ft q']at h5;exact absurd h5 nofun)
   |(simp at h5;lia)
 cases hwl with
 |cons w1 w2 =>
  cases w2;cases w1 with
  |list ho hall=>exact⟨_,_,ns,rfl,rfl,ho,Qc ns _ hall,hlen⟩
def Zhd(l:OpenLaw)(args:List WData):l.row.toRowW.claim.post args (.bool true) args=true :=
 postW_of (r:=l.row.toRowW) (X:=(true==true))
  (show Jir [] (.bool true) .bool=true by first|rfl|decide|simp[Jir,WShape.arms,WShape.armsAll])
  (show(WTm.eq .res (.lit (.bool true))).value [] {args:=args,res:=some (.bool true),after:=args}=some (.bool (true==true))from w_eq_bool (w_res rfl) w_lit) rfl
def attach_call{l:OpenLaw}{n:Nat}{q:Ep}{loose:List Str}{XP:(Str->Option Value)->Heap->Prop}{YP:Ct->Heap->Prop}{d:DefRec}(hn:l.most=some n)(hdf:d.params.defaults=[])(call:∀(w:Ct)(s₀ s₁:Ca)(mg mb:Str->Option Value)(fa:Addr)(o:Obj)(pm cd doc:Value)(a:Addr)(vs:List Value)(ns:List Int),
   Ground q loose [] XP w s₀ mg mb s₁.heap->YP w s₁.heap ->
   s₁.heap.get? fa=some o->o.data=.func (docDef d.name d.params d.body d.scope pm cd doc)->s₁.heap.CodeRec cd d.name->mg d.name=some (.ref fa) ->
   s₁.heap.get? a=some {cls:=.type "list",data:=.seq vs.toArray}->Mi vs ns->ns.length<=n->s₁.gens=#[] ->
   Hb (Cd l.prog w) Jet (.call (.ref fa) ⟨[.ref a],[]⟩) (λr s'=>r=.ok (.ret (.bool true))/\OldK s₁.heap s'.heap/\s'.os=s₁.os/\Ja0 s'.gens) s₁) :
  WalkO q loose XP YP l.row.toRowW d [] (λf vs=>Jg8 f vs):=by
 intro w s₀ s₁ mg mb G Y fa o pm cd doc dV kV ho hd hcd hD hmg hg args vals as hpre hlay hrd hwl hlo;obtain rfl:dV=.none:=Dflts.none hD hdf;obtain rfl:kV=.none:=Dflts.noKw hD;let⟨a,vs,ns,rfl,rfl,hobj,hints,hlen⟩:=Zgt hn hpre hwl;refine enter_call (Kf (call w s₀ s₁ mg mb fa o pm cd doc a vs ns G Y ho (fd_plain hd) hcd hmg hobj hints hlen hg) λr s' hq=>?_);let⟨rfl,h2,h3,h4⟩:=hq;exists .inl ⟨.bool true,.bool true,[],rfl,λ_=>rfl,.bool true,Zhd l _,λ_=>⟨Jeu,λ_ hm=>(nomatch hm)⟩⟩,h2,h3,h4
end Att
namespace L2
open PySem PySem.Spec PyProof.Rows
theorem Zai:∀{vs:List Value}{ns:List Int},Mi vs ns->Vals (ns.map V.int) vs:=by
 intro _ _ hz9;cases hz9 with
 |nil=>
  exact .nil
 |cons n t h=>
  exact .cons ⟨t,rfl⟩ (Zai h)
def Wx(s:Stmt)(j:Nat):Stmt:=match s with
 |.ClassDef _ _ _ body _ _ _ _ _ _ _=>body.getD j (.Pass ⟨0,0,0,0⟩)
 |_=>.Pass ⟨0,0,0,0⟩
def Wf(s:Stmt):Arguments:=match s with
 |.FunctionDef _ a _ _ _ _ _ _ _ _=>a
 |_=>{posonlyargs:=[],args:=[],vararg:=none,kwonlyargs:=[],kw_defaults:=[],kwarg:=none,defaults:=[]}
def Y8(s:Stmt):List Stmt:=match s with
 |.FunctionDef _ _ b _ _ _ _ _ _ _=>b
 |_=>[]
def Zn(s:Stmt):Scope:=match s with
 |.FunctionDef _ _ _ _ _ _ sc _ _ _=>sc
 |_=>{kind:=.function,names:=[],isGenerator:=false,isCoroutine:=false}
abbrev CX0:CXT:=λ_ _ _ _ _ _=>False
abbrev E0:XK:=λ_ _ _=>False
def Zk2 :V4 CX0 X E0:=λ_ _ _ _ _ _ _ h=>h.elim
structure Fun(K:Cp)(x qual:Str)(st:Stmt)(f:Addr)(fd:L8):Prop where
 ex:∃(oc:Value)(od:Option Addr)(kV doc pm:Value)(an:Option Addr)(cdv ct:Value)(osl:Array (Option Value)),
  fd=Jdk x qual (Wf st) (Y8 st) (Zn st) .none kV doc pm an cdv ct/\K.lookup f=some ⟨oc,od,.func fd,osl⟩/\Jd8 K cdv qual=true
 kp:Ja3 K (.ref f)=true
section
variable{w:Ct}{base:Heap}
def Fun.ok{x:Str}{f:Addr}{k:Nat}(F:Fun K x qual st f fd)(S:FnScope N ps (Zn st))(len:∀vs H Q E,sp vs H Q E->vs.length=ps.length)(hbody:∀(cdv:Value)(A:L6)(outer:List Env)(s:Ca)(H:Hp)(vs:List V)(Q:VK)(E:XK),Room k (A.deeper (Hy qual (Zn st) s.heap.objs.size f cdv))->sp vs H Q E ->
   ∃t,PSs (cxOf CX0 P w K mg base N qual (Zn st) f cdv A outer s H E).nox (Y8 st) t/\t {nx:=λ_ H'=>Q .non H',rt:=Q} (Uz N vs) H):FnOk P w K mg base CX0 (k+1) f fd ps sp:=by
 let⟨oc,od,kV,doc,pm,an,cdv,ct,osl,rfl,lk,hcd⟩:=F.ex;refine Zo4 lk hcd S len λA outer s H vs Q E hr hsp=>?_;let⟨t,h,q⟩:=hbody cdv A outer s H vs Q E hr hsp;exists t,h.nox,q
def Fun.binds{x:Str}{f:Addr}(F:Fun K x qual st f fd)(h:∀(kV doc pm:Value)(an:Option Addr)(cdv ct:Value)(us:List Value),us.length=ps.length->Jd7 (Jdk x qual (Wf st) (Y8 st) (Zn st) .none kV doc pm an cdv ct) ⟨us,[]⟩=pure (ps.zip us)):Vn K fd ps []:=by
 let⟨oc,od,kV,doc,pm,an,cdv,ct,osl,rfl,lk,hcd⟩:=F.ex;exact .all (h kV doc pm an cdv ct)
def Zis{x:Str}{f:Addr}{oc:Value}{od an:Option Addr}{osl:Array (Option Value)}{kV doc cdv ct:Value}(l:K.lookup f=some ⟨oc,od,.func (Jdk x qual (Wf st) (Y8 st) (Zn st) .none kV doc pm an cdv ct),osl⟩)(c:Jd8 K cdv qual=true)(k:Ja3 K (.ref f)=true):Fun K x qual st f (Jdk x qual (Wf st) (Y8 st) (Zn st) .none kV doc pm an cdv ct):=⟨⟨oc,od,kV,doc,pm,an,cdv,ct,osl,rfl,l,c⟩,k⟩
end
def X6{k:Nat}(hr:Room k A):A.units+1<cLine:=Bc (Nat.add_le_add_left (by decide:1<=64) _) hr.units
section
def pv(i:Nat){x:Str}(hN:X.N[i]?=some x:=by rfl)(hv:Vis X.env.scope x:=by first|left;rfl|right;left;rfl|right;right;rfl)(hd:(x==("__debug__":Str))=false:=by decide)(hcd:(x==("__classdict__":Str))=false:=by decide):PE X (.Name x pos) (tVar i):=Zrl hN hv hd hcd
end
def iteF{A:Prop}(h:B):if false=true then A else B:=by
 rw[Fp Jj];exact h
def iteT{A:Prop}(h:A):if true=true then A else B:=by
 rw[Fs rfl];exact h
def ite2{c A:Prop}[Decidable c](h1:c->A)(h2:¬ c->B):if c then A else B:=by
 by_cases h:c
 .rw[Fs h];exact h1 h
 .rw[Fp h];exact h2 h
def Zr7{c A:Prop}[Decidable c](hc:c)(h:B):if(!decide c)=true then A else B:=by
 rw[Ft hc];exact iteF h
def Same(H H':Hp):Prop:=∀b o,H b=some o->H' b=some o
def Same.refl(H:Hp):Same H H:=λ_ _ h=>h
def Same.trans(a:Same H H1)(b:Same H1 H2):Same H H2:=λc o h=>b c o (a c o h)
theorem Same.free(e:Same H H')(h:H' l=Option.none):H l=Option.none:=by
 cases q:H l with
 |none=>rfl
 |some o =>
  rw[e l o q]at h;cases h
def Same.seq{a:Addr}(e:Same H H')(h:SqL K H a xs):SqL K H' a xs:=by
 rcases h with(h|⟨o,h⟩)|h
 .exact .inl (.inl (e _ _ h))
 .exact .inl (.inr ⟨o,e _ _ h⟩)
 .exact .inr h
end L2
namespace L2
open PySem
def Xn(cells:List (Str×Addr)):List (Str×Es)->List (Str×Addr)->List (Str×Addr)
 |[],acc=>acc
 |(n,k)::r,acc=>if k == .free then Xn cells r ((n,(cells.lookup n).getD 0)::acc)else Xn cells r acc
def Zji(env:Env)(l:List (Str×Es))(acc:List (Str×Addr)):Sem (List (Str×Addr)):=do
 let mut cs:=acc
 for (name,kind) in l do
  if kind == .free then cs:=(name,<-cellOf env name)::cs
 return cs
theorem Pm{env:Env}:∀(l:List (Str×Es))(acc:List (Str×Addr)),(∀y∈l,y.2=.free->∃c,env.cells.lookup y.1=some c) ->
  Zji env l acc=pure (Xn env.cells l acc)
 |[],acc,_=>rfl
 |(n,k)::r,acc,h=>by
  let ih:=λacc=>Pm r acc λy hy=>h y (Jh _ hy);unfold Zji at ih⊢;rw[Xn];cases hk:(k==C3)with
  |false =>
   simp only[Jf0,hk,G1,if_false,pure_bind]at ih⊢;exact ih acc
  |true =>
   let⟨c,hc⟩:=h (n,k) Jn (by simpa using hk);let hc':env.cells.lookup n=some c:=hc;simp only[Jf0,hk,if_true,cellOf,hc',pure_bind,Option.getD_some]at ih⊢;exact ih _
def Sf{scope:Scope}{env:Env}(h:∀y∈scope.names,y.2=.free->∃c,env.cells.lookup y.1=some c):Jg9 scope env=pure (Xn env.cells scope.names []) :=
 Pm scope.names [] h
theorem U9{cells:List (Str×Addr)}{x:Str}{c:Addr}:∀{l:List (Str×Es)}{acc:List (Str×Addr)},(∀y∈l,y.2=.free->∃c,cells.lookup y.1=some c) ->
  (Xn cells l acc).lookup x=some c->acc.lookup x=some c\/cells.lookup x=some c
 |[],acc,_,h=>.inl h
 |(n,k)::r,acc,hl,h=>by
  rw[Xn]at h
  by_cases hk:(k==C3)=true
  .rw[Fs hk]at h;let⟨c',hc⟩:=hl (n,k) Jn (by simpa using hk);let hc':cells.lookup n=some c':=hc;rcases U9 (λy hy=>hl y (Jh _ hy)) h with z|z
   .rw[Gy,hc']at z;cases hx:(x==n)with
    |true =>
     rw[hx]at z;let e:x=n:=by simpa using hx
     subst e;let z':c'=c:=by simpa using z
     subst z';exact .inr hc'
    |false=>rw[hx]at z;exact .inl z
   .exact .inr z
  .rw[Fp hk]at h;exact U9 (λy hy=>hl y (Jh _ hy)) h
theorem Vz{cells:List (Str×Addr)}{x:Str}:∀{l:List (Str×Es)}{acc:List (Str×Addr)},(∃c,acc.lookup x=some c)->∃c,(Xn cells l acc).lookup x=some c
 |[],acc,h=>h
 |(n,k)::r,acc,h=>by
  rw[Xn]
  by_cases hk:(k==C3)=true
  .rw[Fs hk];refine Vz ?_;rw[Gy];cases hx:(x==n)with
   |true=>exact⟨_,rfl⟩
   |false=>exact h
  .rw[Fp hk];exact Vz h
theorem Ul{cells:List (Str×Addr)}{x:Str}:∀{l:List (Str×Es)}{acc:List (Str×Addr)},(x,C3)∈l->∃c,(Xn cells l acc).lookup x=some c
 |[],acc,h=>nomatch h
 |(n,k)::r,acc,h=>by
  rw[Xn];rcases Jq.mp h with e|h
  .cases e;rw[Fs (by rfl)];refine Vz ?_;rw[Gy,beq_self_eq_true];exists ·
  .by_cases hk:(k==C3)=true
   .rw[Fs hk];exact Ul h
   .rw[Fp hk];exact Ul h
def Vu{scope:Scope}{env:Env}(nc:∀y∈scope.names,y.2≠.cell){x:Str}(h:(Jhn scope env).names.lookup x=some .cell\/(Jhn scope env).names.lookup x=some .free):(x,C3)∈scope.names:=by
  let go:∀(l:List (Str×Es)),(∀y∈l,y.2≠.cell) ->
      ((l.map λ(n,k)=>if(k==C3&&env.scope.kind == .function&&env.kindOf n==some .cell)then(n,Ld)else(n,k)).lookup x=some .cell \/
       (l.map λ(n,k)=>if(k==C3&&env.scope.kind == .function&&env.kindOf n==some .cell)then(n,Ld)else(n,k)).lookup x=some .free)->(x,C3)∈l:=by
    intro l
    induction l with
    |nil=>intro _ h;rcases h with h|h<;>cases h
    |cons a r ih =>
      let⟨n,k⟩:=a;intro nc h;let nck:k≠.cell:=nc (n,k) Jn;simp only[Js]at h
      by_cases hx:(x==n)=true
      · let e:x=n:=by simpa using hx
        subst e
        by_cases hk:k=.free
        · subst hk;exact Jn
        · let hb:(k==C3)=false:=by simpa using hk
          simp only[hb,Jgf,G1,if_false,Gy,beq_self_eq_true]at h;rcases h with h|h
          · exact absurd (Fv h) nck
          · exact absurd (Fv h) hk
      · let hx':(x==n)=false:=by simpa using hx
        refine Jh _ (ih (λy hy=>nc y (Jh _ hy)) ?_);let el:∀(p:Str×Es)(t:List (Str×Es)),p.1=n->(p::t).lookup x=t.lookup x:=by
          intro p t e;let⟨a,b⟩:=p;let e':a=n:=e;subst e';rw[Gy,hx']
        rw[el _ _ (by split<;>rfl)]at h;exact h
  exact go scope.names nc h
def Th{scope:Scope}{env:Env}{x:Str}(h:(Jhn scope env).names.lookup x=some .local):scope.names.lookup x=some .local:=by
 let go:∀(l:List (Str×Es)),
   (l.map λ(n,k)=>if(k==C3&&env.scope.kind == .function&&env.kindOf n==some .cell)then(n,Ld)else(n,k)).lookup x=some .local->l.lookup x=some .local:=by
  intro l
  induction l with
  |nil=>intro h;cases h
  |cons a r ih =>
   let⟨n,k⟩:=a;intro h;simp only[Js]at h
   by_cases hx:(x==n)=true
   .let e:x=n:=by simpa using hx
    subst e
    by_cases hc:(k==C3&&env.scope.kind == .function&&env.kindOf x==some .cell)=true
    .rw[Fs hc,Gy,beq_self_eq_true]at h;cases h
    .rw[Fp hc,Gy,beq_self_eq_true]at h;rw[Gy,beq_self_eq_true];exact h
   .let hx':(x==n)=false:=by simpa using hx
    let el:∀(p:Str×Es)(t:List (Str×Es)),p.1=n->(p::t).lookup x=t.lookup x:=by
     intro p t e;let⟨a,b⟩:=p;let e':a=n:=e;subst e';rw[Gy,hx']
    rw[el _ _ (by split<;>rfl)]at h;rw[el _ _ rfl];exact ih h
 exact go scope.names h
end L2
namespace L2
open PySem PySem.Spec PyProof.Rows
def nbOf(N T:List Str)(cs:List Nat):List Str:=T++cs.map λi=>N.getD i Jd5
def sgOf(σ:St)(T:List Str)(cs:List Nat):St:=T.map (λ_=>none)++cs.map λi=>σ.getD i none
structure CScope(outer scope:Scope)(N T:List Str)(cs:List Nat):Prop where
 kind:scope.kind=.function
 nocell:∀y∈scope.names,y.2≠.cell
 names:∀y∈scope.names,y.2=.local->scope.names.lookup y.1=some .local
 free:∀y∈scope.names,y.2=.free->outer.names.lookup y.1=some .cell\/outer.names.lookup y.1=some .free
 cap:∀i∈cs,scope.names.lookup (N.getD i Jd5)≠some .local
def Zjg(outer scope:Scope)(N:List Str)(cs:List Nat):Bool :=
 decide (scope.kind=.function)&&(scope.names.all (λy=>!decide (y.2=Ld))&&(scope.names.all (λy=>!decide (y.2=Es.local) ||decide (scope.names.lookup y.1=some Es.local)) &&
  (scope.names.all (λy=>!decide (y.2=C3) ||(decide (outer.names.lookup y.1=some Ld) ||decide (outer.names.lookup y.1=some C3)))&&cs.all (λi=>!decide (scope.names.lookup (N.getD i Jd5)=some Es.local)))))
def CScope.ok{outer scope:Scope}(h:Zjg outer scope N cs=true):CScope outer scope N T cs:=by
 unfold Zjg at h;simp only[B2,List.all_eq_true,Bool.or_eq_true,decide_eq_true_eq,Jev,decide_eq_false_iff_not]at h;let⟨h1,h2,h3,h4,h5⟩:=h;exists h1,h2,λy hy e=>(h3 y hy).resolve_left (λq=>q e),λy hy e=>(h4 y hy).resolve_left (λq=>q e),h5
def Wd{l:List Str}(h:decide l.Nodup=true):l.Nodup:=of_decide_eq_true h
def blk(X:Cx)(T:List Str)(cs:List Nat)(scope:Scope)(C:Addr)(s₀:Ca)(H₀:Hp)(ex:List Addr):Cx where
 prog:=X.prog
 w:=X.w
 K:=X.K
 mg:=X.mg
 base:=X.base
 A:=X.A
 N:=nbOf X.N T cs
 s₀:=s₀
 H₀:=H₀
 env:=compEnvC scope (Xn X.env.cells scope.names []) C X.env
 outer:=X.stack
 stack:=X.stack
 ex:=ex
 fn:=λ_=>false
 calm:=X.calm
 pn:=[]
 xe:=λ_ _=>False
section
variable{scope:Scope} 
def Inv.hl(I:Inv X pq σ H s)(S:CScope X.env.scope scope X.N T cs):∀y∈scope.names,y.2=.free->∃c,X.env.cells.lookup y.1=some c :=
 λy hy e=>I.ok.has y.1 (S.free y hy e)
def Inv.clo(I:Inv X pq σ H s)(S:CScope X.env.scope scope X.N T cs){x:Str}{c:Addr}(h:(Xn X.env.cells scope.names []).lookup x=some c):X.env.cells.lookup x=some c :=
 (U9 (I.hl S) h).resolve_left (by simp)
theorem Zid(I:Inv X pq σ H s)(S:CScope X.env.scope scope X.N T cs)(hf:∀b∈fp,FpOk X pq H b)(hfe:∀b∈fp,∃o,s.heap.get? b=some o){h1:Heap}{m:Str->Option Value}{tk:Nat}(hC:s.heap.objs.size<=C)(ns:h1.Ns C m)(k:∀b o,s.heap.get? b=some o->h1.get? b=some o) :
  Inv (blk X T cs scope C s H fp) [] (sgOf σ T cs) H {s with heap:=h1,toks:=tk}:=by
 let fr:H C=none:=I.hok.fresh hC;let cellS:∀{c:Addr}{v:Option Value},s.heap.IsCell c v->h1.IsCell c v:=λ⟨o,e,d⟩=>⟨o,k _ o e,d⟩;refine⟨⟨I.ok.mod,S.kind,I.ok.glob,I.ok.blt,hC,λx y c e1 e2=>I.ok.inj x y c (I.clo S e1) (I.clo S e2),λx hx=>Ul (Vu S.nocell hx),λx c h _=>absurd (show false=true from h) Jj,
  I.ok.hd,I.ok.frames,.inl rfl,λb hb=>⟨?_,λx c e=>(hf b hb).2.2.2.2.1 x c (I.clo S e)⟩,I.bs,J0 I.ok.bsz I.sz,λb o e hb=>?_,λb hb z=>?_,I.stack,I.stkFree⟩,
  rfl,I.bare,Un.kept k,⟨m,ns,λi x v h1' h2' h3'=>?_⟩,λx c e=>?_,fr,λx c e=>I.freeC x c (I.clo S e),λp hp=>absurd (show p∈([]:List (Addr×Obj))from hp) (by simp),I.hok.kept k,?_⟩
 .let⟨o,e⟩:=hfe b hb;exact J9 (Jy (Fo e) hC)
 .rcases(hf b hb).2.2.2.1 with z|z
  .exact I.ok.noex b o e z
  .exact absurd (Jy (Jy (Fo e) I.ok.bsz) z) (Gw _)
 .rcases Jq.mp (I.stkSub b z)with e|e
  .exact(hf b hb).2.1 e
  .exact(hf b hb).2.2.1 e
 .let h2:(sgOf σ T cs)[i]?=some (some v):=h2';let h1'':(nbOf X.N T cs)[i]?=some x:=h1';unfold sgOf at h2;unfold nbOf at h1''
  by_cases hi:i<T.length
  .rw[Jo (by simpa using hi),Jv]at h2;cases e:T[i]? with
   |none=>rw[e]at h2;cases h2
   |some a=>rw[e]at h2;cases h2
  .rw[Jw (by simpa using hi),Jv,Jb]at h2;rw[Jw (),Jv]at h1'';cases e:cs[i-T.length]? with
   |none=>rw[e]at h2;cases h2
   |some c0 =>
    rw[e]at h2 h1'';let ex:X.N.getD c0 Jd5=x:=Fv h1'';let ev:σ.getD c0 none=some v:=Fv h2;let eσ:σ[c0]?=some (some v):=by
     rw[Gj]at ev;cases q:σ[c0]? with
     |none=>rw[q]at ev;cases ev
     |some z=>rw[q]at ev;exact congrArg some ev
    let hlt:c0<X.N.length:=by
     let:=(Jf.mp eσ).1;rw[I.len]at this;exact this
    let eN:X.N[c0]?=some x:=by
     rw[Gj,Ja hlt]at ex;rw[Ja hlt];exact congrArg some ex
    let hfree:(x,C3)∈scope.names:=by
     rcases h3' with z|z|z
     .exact absurd (Th z) (by rw[<-ex];exact S.cap c0 (Gg e))
     .exact Vu S.nocell (.inl z)
     .exact Vu S.nocell (.inr z)
    let ok:=S.free _ hfree rfl;let⟨m',hn',hl'⟩:=I.loc;let⟨u,r,l⟩:=hl' c0 x v eN eσ (.inr ok);exists u,r,?_;rcases l with⟨kd,_⟩|⟨_,c,ec,z⟩
    .let kd':X.env.scope.names.lookup x=some .local:=kd;rcases ok with q|q<;>(rw[show X.env.scope.names.lookup x=_ from q]at kd';cases kd')
    .let⟨c',ec'⟩:=Ul (cells:=X.env.cells) (acc:=[]) hfree;let:c'=c:=by
      let q:=I.clo S ec';rw[ec]at q;exact(Fv q).symm
     subst this;refine .inr ⟨?_,c',ec',cellS z⟩;rcases h3' with q|q|q
     .exact absurd (Th q) (by rw[<-ex];exact S.cap c0 (Gg e))
     .exact .inl q
     .exact .inr q
 .let⟨v,z⟩:=I.cell x c (I.clo S e);exists v,cellS z
 .show(sgOf σ T cs).length=(nbOf X.N T cs).length;simp[sgOf,nbOf]
def Inv.track{D:Addr}{n:Nat}(I:Inv X pq σ H s)(hD:s.heap.get? D=some {cls:=.type "list",data:=.seq its.toArray n})(f:FpOk X pq H D)(rv:Vals ys its)(hz:ys.length<=sizeLine) :
  Inv X pq σ (upd H D (.lst ys)) s:=by
 let⟨f0,f1,f2,f3,f4,f5⟩:=f;let hok:HOk X.prog X.w (upd H D (.lst ys)) s.heap:=λb u e=>by
  by_cases hb:b=D
  .subst hb;rw[Zg]at e;cases e;exists hz,its,n,rv,hD
  .rw[Zl hb]at e;exact(I.hok b u e).stay (λ_ _ _ q=>q) (λc q=>by rw[Zl (Zr q f0)];exact q) λc xs q=>by rw[Zl (Zr q f0)];exact q
 let st:=I.step (H':=upd H D (.lst ys)) (h':=s.heap) (g':=s.gens) (t':=s.toks) (d':=s.drawn) (ch:=[D])
  (λb hb=>by
   let e:b=D:=by simpa using hb
   subst e;exact⟨f3,f1,f4,f5⟩)
  (λb o _ _ _ e _=>e) (λb o _ _ _ e _=>⟨o.slots,e⟩) (λb o hc e n=>by rw[Zl (λz=>hc (by simp[z]))];exact n) (λb o _ e=>⟨o,e⟩)
  (λb xs e=>by rw[Zl (Zr e f0)];exact e) (λb o u e=>by rw[Zl (Zr e f0)];exact e) (λb ps e=>⟨#[],by rw[Zl (Zr e f0),e];simp⟩) (λm h=>h) hok I.bare
 exact st
end
section
variable{w:Ct}{R:Jd4->Ca->Prop} 
abbrev Zb9(ifs:List Expr)(env:Env):Sem Bool:=forIn ifs true λc r=>if r=true then do let ok <-isTrue c env (eval c env);pure (Jf1 ok)else pure (Jf1 r)
theorem Zbt{target:Expr}{scope:Scope}{it acc:Value}{env:Env}(I:Nat->Ca->Prop)(turn:∀n s,I n s->Cc (Cd prog w) A (Jd0 it) (λr s₁=>match r with
   |none=>R (.ok .next) s₁
   |some v=>Cc (Cd prog w) A (Kj target it v) (λ_ s₂=>Cc (Cd prog w) A (Jdz target env v) (λ_ s₃ =>
     Cc (Cd prog w) A (Zb9 ifs env) (λok s₄ =>
      if ok=true then Cc (Cd prog w) A (eval elt env) (λx s₅ =>
       Cc (Cd prog w) A (call (.builtin "list.append") [acc,x]) (λ_ s₆=>∃m,m<n/\I m s₆) (λ_ _=>False) s₅) (λ_ _=>False) s₄
      else ∃m,m<n/\I m s₄) (λ_ _=>False) s₃) (λ_ _=>False) s₂) (λ_ _=>False) s₁) (λ_ _=>False) s)(n:Nat)(h:I n s) :
  Hb (Cd prog w) A (.compLoop (.ListComp elt [⟨target,iter,ifs,0⟩] scope pos) 0 it acc env) R s:=by
 refine codeAny_loop rfl I (λn s hI=>?_) n h;show Cc _ A ((compTurn (.ListComp elt [⟨target,iter,ifs,0⟩] scope pos) 0 it acc env).onRaise (λx=>do Hq x env;Jc2 x)) _ _ s;refine wpAny_noted ?_;rw[compTurn_list];refine Fk (Ha (Fk (Fx (turn n s hI) (λr s₁ h₁=>?_) λ_ _ h'=>Cq h')));cases r with
 |none=>exact Fl h₁
 |some v =>
  refine Fk (Fx h₁ (λ_ s₂ h₂=>?_) λ_ _ h'=>Cq h');refine Fk (Fx h₂ (λ_ s₃ h₃=>Fk (Fx h₃ (λok s₄ h₄=>?_) λ_ _ h'=>Cq h')) λ_ _ h'=>Cq h');cases ok with
  |false=>exact Fl ⟨rfl,h₄⟩
  |true =>
   exact Fk (Fk (Fx h₄ (λx s₅ h₅=>Fk (Fx h₅ (λ_ s₆ h₆=>Fl (Fl ⟨rfl,h₆⟩)) λ_ _ h'=>Cq h')) λ_ _ h'=>Cq h'))
end
def PTs(X:Cx)(ifs:List Expr)(t:TT):Prop :=
 ∀(pq:List (Addr×Obj))(s:Ca)(σ:St)(H:Hp)(Q:Bool->Hp->Prop),Inv X pq σ H s->t σ H Q->Cc (Cd X.prog X.w) X.A (Zb9 ifs X.env) (TP X pq σ Q) X.xe s
def Zql:TT:=λ_ H Q=>Q true H
def Xc :PTs X [] Zql:=λpq s σ H Q I h=>wpAny_tests_nil ⟨H,I,h⟩
def P9{c:Expr}{t:TT}(hc:PT X c t):PTs X [c] t:=λpq s σ H Q I h=>wpAny_tests_one (hc pq s σ H Q I h)
def Ag(n:Nat)(σ σ0:St):Prop:=σ.length=σ0.length/\∀i,n<=i->σ[i]?=σ0[i]?
def Qt(g:TG)(n:Nat):Prop:=∀σ0 x σ H R,Ag n σ σ0->g x σ H R->g x σ H λσ2 H2=>R σ2 H2/\Ag n σ2 σ0
def Zad(g:TGs)(n:Nat):Prop:=∀σ0 xs σ H R,Ag n σ σ0->g xs σ H R->g xs σ H λσ2 H2=>R σ2 H2/\Ag n σ2 σ0
theorem Ag.set{n i:Nat}{σ0:St}(a:Ag n σ σ0)(h:i<n)(v:Option V):Ag n (σ.set i v) σ0 :=
 ⟨by rw[Gq];exact a.1,λj hj=>(Gr ()).trans (a.2 j hj)⟩
def Xe{i n:Nat}(h:i<n):Qt (Zbi i) n:=λσ0 x σ H R a q=>⟨q,a.set h _⟩
def N1{n:Nat}:Zad gNil n:=λσ0 xs σ H R a q=>⟨q.1,q.2,a⟩
def Wn{i n:Nat}{u:TGs}(h:i<n)(h2:Zad u n):Zad (Zo2 (Zbi i) u) n:=λσ0 xs σ H R a q=>by
 let⟨v,r,e,q⟩:=q;exists v,r,e,h2 σ0 r _ _ _ (a.set h _) q
def Zef{m n:Nat}{t:TGs}(h:Zad t n):Qt (gTup K m t) n:=λσ0 x σ H R ag q=>by
 let⟨a,xs,e,hq,hl,q⟩:=q;exists a,xs,e,hq,hl,h σ0 xs σ H R ag q
section
variable{scope:Scope} 
theorem Zbs{RR:Value->Addr->Jd4->Ca->Prop}{Fin:List V->Hp->Prop}{J:It}{tn:Nat->Heap->Prop}(I:Inv X pq σ H s)(hc:X.calm=true)(S:CScope X.env.scope scope X.N T cs)(Tn:Turn X.prog X.w X.K tg J fp it tn)(st:tn 0 s.heap)(hf:∀b∈fp,FpOk X pq H b)(hg:∀C s₀ H₀ ex,PG (blk X T cs scope C s₀ H₀ ex) tg g)(ht:∀C s₀ H₀ ex,PTs (blk X T cs scope C s₀ H₀ ex) ifs tt)(he:∀C s₀ H₀ ex,PE (blk X T cs scope C s₀ H₀ ex) elt te)(hk:Qt g T.length)(W:Nat->Nat->List V->Hp->Prop)(w0:∃m,W 0 m [] H)(turn:∀i m ys H,W i m ys H->(J.stop i H/\ys.length<=sizeLine/\Fin ys H)\/(J.go i H/\ys.length<sizeLine/\∃N:List V->Hp->Prop,(∀ys' H',N ys' H'->∃m',m'<m/\W (i+1) m' ys' H') /\
   ∀x H',J.yld i H x H'->g x (sgOf σ T cs) H' λσ2 H2=>tt σ2 H2 λb H3=>if b=true then te σ2 H3 λy H4=>N (ys++[y]) H4 else N ys H3))(fin:∀(D C:Addr)(s':Ca)(m:Str->Option Value)(ys:List V)(H':Hp),Fin ys H'->H' D=none->s'.heap.Ns C m->FpOk X pq H' C->C≠D->Inv X pq σ (upd H' D (.lst ys)) s'->RR (.ref D) C (.ok .next) s') :
  Cc (Cd X.prog X.w) X.A (newList []) (λacc s₃=>Cc (Cd X.prog X.w) X.A (newFunctionEnv scope X.env.globals (Xn X.env.cells scope.names []) [] X.env.qual none .none (some X.env)) (λcenv s₄ =>
   Hb (Cd X.prog X.w) X.A (.compStart (.ListComp elt [⟨tg,iter,ifs,0⟩] scope pos) 0 (.ref it) acc {cenv with scope:=Jhn scope X.env}) (RR acc cenv.locals) s₄) E s₃) E s:=by
 refine Eo (wpAny_newFunctionEnv S.nocell (by intro y hy;simp at hy) (λh₁ hns₁ hsb₁=>?_) S.kind);dsimp only at hns₁ hsb₁⊢;generalize hH2:s.heap.push {cls:=.type "list",dict:=none,data:=.seq ([]:List Value).toArray}=H2 at hns₁ hsb₁⊢;let hCe:H2.objs.size=s.heap.objs.size+1:=by rw[<-hH2,Ew]
 let hDC:s.heap.objs.size≠H2.objs.size:=by rw[hCe];exact J9 (B9 _)
 let hCle:s.heap.objs.size<=H2.objs.size:=by rw[hCe];exact Bg _
 let old:∀b o,s.heap.get? b=some o->h₁.get? b=some o:=λb o e =>
  hsb₁.extBut b o (by rw[hCe];exact J9 (Kx (Fo e))) (Fm _ (hH2 ▸ Fm _ e))
 let hacc:h₁.get? s.heap.objs.size=some {cls:=.type "list",data:=.seq ([]:List Value).toArray 0}:=hsb₁.extBut _ _ hDC (Fm _ (hH2 ▸ Fn _ rfl));let hfe:∀b∈fp,∃o,s.heap.get? b=some o:=λb hb=>let⟨o,e,_⟩:=Tn.obj _ _ st b hb;⟨o,e⟩
 let hlt:∀b∈fp,b<s.heap.objs.size:=λb hb=>let⟨o,e⟩:=hfe b hb;Fo e
 let st₁:tn 0 h₁:=Tn.keep _ _ _ st λb _ o e=>old b o e;generalize hDD:s.heap.objs.size=D at *
 generalize hCC:H2.objs.size=C at *
 let hnD:H D=none:=I.hok.fresh (G8 hDD);let stat:∀{H':Hp}{its:List Value}{n:Nat},(∀b∈fp,H' b=none)->∀b∈fp,FpOk (blk X T cs scope C s H fp) [(D,({cls:=.type "list",data:=.seq its.toArray n}:Obj))] H' b:=λhn b hb=>by
  let⟨f0,f1,f2,f3,f4,f5⟩:=hf b hb;exists hn b hb,J9 (Jy (hlt b hb) hCle),λz=>?_,.inl hb,λx c e=>f4 x c (I.clo S e),λp hp z=>?_
  .rcases Jq.mp (I.stkSub b z)with e|e
   .exact f1 e
   .exact f2 e
  .let e:p.1=D:=by
    rcases Ga.mp hp with q|q
    .exact absurd (show p∈([]:List (Addr×Obj))from q) (by simp)
    .rw[Jm.mp q]
   exact absurd (hlt b hb) (by rw[<-z,e];exact Gw _)
 let loop:∀tk:Nat,Hb (Cd X.prog X.w) X.A (.compLoop (.ListComp elt [⟨tg,iter,ifs,0⟩] scope pos) 0 (.ref it) (.ref D) (compEnvC scope (Xn X.env.cells scope.names []) C X.env)) (RR (.ref D) C) {s with heap:=h₁,toks:=tk}:=by
  intro tk;let I1:Inv (blk X T cs scope C s H fp) [] (sgOf σ T cs) H {s with heap:=h₁,toks:=tk}:=Zid I S hf hfe (by rw[hDD];exact hCle) hns₁ old;let⟨m0,w0⟩:=w0;let pinD:∀{σ':St}{H':Hp}{s':Ca}{its:List Value}{n:Nat}{pl:List (Addr×Obj)},Inv (blk X T cs scope C s H fp) pl σ' H' s'->s'.heap.get? D=some {cls:=.type "list",data:=.seq its.toArray n}->H' D=none ->
    Inv (blk X T cs scope C s H fp) [(D,({cls:=.type "list",data:=.seq its.toArray n}:Obj))] σ' H' s':=λ{σ' H' s' its n pl}J e hn=>J.pins_of λp hp=>by
   obtain rfl:=Jm.mp hp;refine⟨e,hn,hDC,λz=>?_,λv q=>by cases q⟩;let z':D∈frs X.stack:=z;let⟨_,o,ho,_⟩:=I.stack.mem z';exact absurd (Fo ho) (by rw[hDD];exact Gw _)
  refine Zbt (λn s'=>∃(i:Nat)(ys:List V)(its:List Value)(k:Nat)(H':Hp),Inv (blk X T cs scope C s H fp) [(D,({cls:=.type "list",data:=.seq its.toArray k}:Obj))] (sgOf σ T cs) H' s'/\Vals ys its/\tn i s'.heap/\(∀b∈fp,H' b=none)/\W i n ys H') ?_ m0
   ⟨0,[],[],0,H,pinD I1 hacc hnD,.nil,st₁,λb hb=>(hf b hb).1,w0⟩
  rintro n s1 ⟨i,ys,its,k,H1,J1,rv,st1,fr1,w1⟩;rcases turn i n ys H1 w1 with⟨stop,hz,fq⟩|⟨go,hz,N,hN,step⟩
  .refine Fx (Tn.done (blk X T cs scope C s H fp) rfl rfl rfl hc i _ s1 _ H1 (λ_ _=>False) J1 (stat fr1) st1 stop) (λr s2 hz=>?_) λ_ _ z=>z;let⟨hr,J2⟩:=hz;subst hr;let⟨eD,nD,_⟩:=J2.pin (D,({cls:=.type "list",data:=.seq its.toArray k}:Obj)) (Jl _ (Jm.mpr rfl));let J3:Inv X pq σ H1 s2:=I.call' (ch:=fp) J2.os J2.base J2.hok J2.bare λb hb=>by
    let⟨f0,f1,f2,f3,f4,f5⟩:=hf b hb;exists f3,f1,f4,f5
   let⟨mC,hnC,_⟩:=J2.loc;let fC:FpOk X pq H1 C:=I.fpOk (by rw[hDD];exact hCle) J2.free;let fD:FpOk X pq H1 D:=I.fpOk (G8 hDD) nD;exact fin D C s2 mC ys H1 fq nD hnC fC (Cu hDC) (J3.track eD fD rv hz)
  .refine Fx (Tn.item (blk X T cs scope C s H fp) rfl rfl rfl hc i _ s1 _ H1 (λ_ _=>False) J1 (stat fr1) st1 go) (λr s2 hz=>?_) λ_ _ z=>z;let⟨u,hr,h2⟩:=hz;subst hr;refine Fx h2 (λ_ s3 hz=>?_) λ_ _ z=>z;let⟨x,H3,J3,r3,y3,st3,fr3⟩:=hz;let J3':=J3.pinned (stat fr3) (Tn.obj _ _ st3);refine Fx (hg C s H fp _ s3 _ H3 x u _ J3' r3 (hk (sgOf σ T cs) x _ H3 _ ⟨rfl,λ_ _=>rfl⟩ (step x H3 y3))) (λ_ s4 hz=>?_) λ_ _ z=>z;let⟨σ4,H4,J4,q4,l4,k4⟩:=hz;refine Fx (ht C s H fp _ s4 σ4 H4 _ J4 q4) (λb s5 hz=>?_) λ_ _ z=>z;let⟨H5,J5,q5⟩:=hz;let wk:∀{pl:List (Addr×Obj)}{H':Hp}{s':Ca},Inv (blk X T cs scope C s H fp) pl σ4 H' s'->Inv (blk X T cs scope C s H fp) pl (sgOf σ T cs) H' s':=λJ=>J.weak l4.symm λj v e=>by
    by_cases hj:T.length<=j
    .rw[k4 j hj];exact e
    .exfalso
     unfold sgOf at e;rw[Jo (by simp;lia),Jv]at e;cases q:T[j]? with
     |none=>rw[q]at e;cases e
     |some a=>rw[q]at e;cases e
   let tnk:∀{H':Hp}{s':Ca}{σ':St},Inv (blk X T cs scope C s H fp) ([(D,({cls:=.type "list",data:=.seq its.toArray k}:Obj))]++Pc fp s3.heap) σ' H' s'->tn (i+1) s'.heap/\∀b∈fp,H' b=none:=λ{H' s' σ'}J=>by
    exists Tn.keep _ _ _ st3 λb hb o e=>(J.pin (b,o) (Jl _ (Jl _ (X8 hb e)))).1,λb hb=>?_;let⟨o,e,d⟩:=Tn.obj _ _ st3 b hb;exact(J.pin (b,o) (Jl _ (Jl _ (X8 hb e)))).2.1
   cases b with
   |false =>
    rw[Fp Jj]at q5⊢;let⟨m',hm,w5⟩:=hN _ _ q5;let⟨t5,f5⟩:=tnk J5;exists m',hm,i+1,ys,its,k,H5,wk J5.unpinned,rv,t5,f5,w5
   |true =>
    rw[Fs rfl]at q5⊢;refine Fx (he C s H fp _ s5 σ4 H5 _ J5 q5) (λuy s6 hz=>?_) λ_ _ z=>z;let⟨y,H6,J6,ry,n6⟩:=hz;let⟨m',hm,w6⟩:=hN _ _ n6;let⟨t6,f6⟩:=tnk J6;let⟨eD,nD,_⟩:=J6.pin (D,({cls:=.type "list",data:=.seq its.toArray k}:Obj)) (Jl _ (Gz _ (Jm.mpr rfl)));let hsz:its.toArray.size<=sizeLine:=by rw[Jk,<-rv.length];lia
    refine append_at (hsz:=hsz) eD λh7 sb hD7=>?_;let J6':Inv (blk X T cs scope C s H fp) [] σ4 H6 s6:=J6.pins_of λp hp=>absurd hp (by simp);let J7:Inv (blk X T cs scope C s H fp) [] σ4 H6 {s6 with heap:=h7}:=J6'.turned (t':=s6.toks) (it:=D) (λb o hb e=>(sb.2 b hb).trans e) nD hDC (.inr (G8 hDD))
     (λx c e z=>by
      let⟨v,q⟩:=I.cell x c (I.clo S e);exact absurd q.lt (by rw[z,hDD];exact Gw _))
     (λp hp=>absurd hp (by simp[blk]))
    let hD7':h7.get? D=some {cls:=.type "list",data:=.seq (its++[uy]).toArray (k+1)}:=by
     rw[hD7,Mu]
    exists m',hm,i+1,ys++[y],its++[uy],k+1,H6,wk (pinD J7 hD7' nD),rv.append (.cons ry .nil),Tn.keep _ _ _ t6 λb hb o e=>(sb.2 b (J9 (hlt b hb))).trans e,f6,w6
 exact codeAny_compStart_list (loop _) (Tn.self _ 0 _ _ _ st₁ (loop _))
def Ze3(wi:TI)(g:TG)(tt:TT)(te:TE)(T:List Str)(cs:List Nat):TE:=λσ H Q=>wi σ H λJ H1=>∃W:Nat->Nat->List V->Hp->Prop,(∃m,W 0 m [] H1) /\
 ∀i m ys H,W i m ys H->(J.stop i H/\ys.length<=sizeLine/\∀p,H p=none->Q (.ref p) (upd H p (.lst ys)))\/(J.go i H/\ys.length<sizeLine/\∃N:List V->Hp->Prop,(∀ys' H',N ys' H'->∃m',m'<m/\W (i+1) m' ys' H') /\
  ∀x H',J.yld i H x H'->g x (sgOf σ T cs) H' λσ2 H2=>tt σ2 H2 λb H3=>if b=true then te σ2 H3 λy H4=>N (ys++[y]) H4 else N ys H3)
def Wb(hc:X.calm=true)(S:CScope X.env.scope scope X.N T cs)(hi:PI X tg iter wi)(hg:∀C s₀ H₀ ex,PG (blk X T cs scope C s₀ H₀ ex) tg g)(ht:∀C s₀ H₀ ex,PTs (blk X T cs scope C s₀ H₀ ex) ifs tt)(he:∀C s₀ H₀ ex,PE (blk X T cs scope C s₀ H₀ ex) elt te)(hk:Qt g T.length)(hs:∀x,Ks iter X.env x=pure x:=by intro _;rfl):PE X (.ListComp elt [⟨tg,iter,ifs,0⟩] scope pos) (Ze3 wi g tt te T cs):=by
 intro pq s σ H Q I h;rw[eval_ListComp];refine Kh (use:=none) rfl hs (Sf (I.hl S)) S.kind S.names (thn (hi pq s σ H _ I h) λv s1 h1=>thn h1 λitv s2 h2=>?_);let⟨it,fp,tn,J,H2,e,I2,Tn,st,hf,W,w0,turn⟩:=h2;subst e;refine Zbs (RR:=λacc C=>compPost (Cd X.prog X.w) X.A X.xe none (EP X pq σ Q) acc C) (Fin:=λys H=>∀p,H p=none->Q (.ref p) (upd H p (.lst ys))) I2 hc S Tn st hf hg ht he hk W w0 turn ?_;intro D C s' m ys H' q nD hn fC hCD I';exists m,hn,λh' sb=>⟨.ref D,_,I'.turned (t':=s'.toks) (it:=C) (λb o hb e=>(sb.2 b hb).trans e) ?_ fC.2.1 fC.2.2.2.1 fC.2.2.2.2.1 fC.2.2.2.2.2,rfl,q D nD⟩
 rw[Zl hCD];exact fC.1
def U3{i:Nat}{y:Str}{py spos:Pos}(hN:X.N.Nodup)(hy:X.N[i]?=some y)(hl:X.env.scope.names.lookup y=some .local)(hc:X.calm=true)(S:CScope X.env.scope scope X.N T cs)(hi:PI X tg iter wi)(hg:∀C s₀ H₀ ex,PG (blk X T cs scope C s₀ H₀ ex) tg g)(ht:∀C s₀ H₀ ex,PTs (blk X T cs scope C s₀ H₀ ex) ifs tt)(he:∀C s₀ H₀ ex,PE (blk X T cs scope C s₀ H₀ ex) elt te)(hk:Qt g T.length)(hs:∀x,Ks iter X.env x=pure x:=by intro _;rfl)(hsw:Mm (.ListComp elt [⟨tg,iter,ifs,0⟩] scope pos) (some (.Name y py)) spos.line X.env=pure true:=by rfl):PS X (.Assign [.Name y py] (.ListComp elt [⟨tg,iter,ifs,0⟩] scope pos) spos) (tAsg (Ze3 wi g tt te T cs) (Zbi i)):=by
 intro pq s σ H D I h;rw[exec_Assign_Name_used _ _ _ _ hsw];refine Fk (Ha (Fk ?_));show Cc _ X.A (do let _ <-comprehension (.ListComp elt [⟨tg,iter,ifs,0⟩] scope pos) scope X.env _ (newList []) false (eval iter X.env) (some (Jdz (.Name y py) X.env))) _ _ s;refine Fk (Fx (Kh (use:=some (Jdz (.Name y py) X.env)) (Q:=λ_ s'=>SP X pq D .next s') rfl hs (Sf (I.hl S)) S.kind S.names
  (thn (hi pq s σ H _ I h) λv s1 h1=>thn h1 λitv s2 h2=>?_)) (λ_ s' hq=>Fl (Fl hq)) λ_ _ e=>e)
 let⟨it,fp,tn,J,H2,e,I2,Tn,st,hf,W,w0,turn⟩:=h2;subst e;refine Zbs (RR:=λacc C=>compPost (Cd X.prog X.w) X.A X.xe (some (Jdz (.Name y py) X.env)) (λ_ s'=>SP X pq D .next s') acc C) (Fin:=λys H=>∀p,H p=none->Zbi i (.ref p) σ (upd H p (.lst ys)) D.nx) I2 hc S Tn st hf hg ht he hk W w0 turn ?_;intro B C s' m ys H' q nB hn fC hCB I';show Cc _ X.A (Jdz (.Name y py) X.env (.ref B)) _ _ s';refine Jem (Zan (v:=.ref B) I' hN hy (.inl hl) rfl (λs'' I'' hz=>?_) (.inr hl));let⟨a,sb,ha⟩:=hz;let nC:C≠a:=by
  rcases ha with z|z
  .rw[z];exact fC.2.1
  .exact Cu (fC.2.2.2.2.1 y a z)
 exists m,hn.sameBut sb nC,λh' sb'=>⟨_,_,I''.turned (t':=s''.toks) (it:=C) (λb o hb e=>(sb'.2 b hb).trans e) ?_ fC.2.1 fC.2.2.2.1 fC.2.2.2.2.1 fC.2.2.2.2.2,q B nB⟩;rw[Zl hCB];exact fC.1
end
theorem Wg{J:It}{n:Nat}{σB:St}{F:List V->Hp->Prop}(Pv:Nat->List V->Hp->Prop)(h0:Pv 0 [] H1)(hn:∀i ys H,Pv i ys H->ys.length<=i)(hz:n<=sizeLine)(hgo:∀i ys H,i<n->Pv i ys H->J.go i H)(hstop:∀ys H,Pv n ys H->J.stop n H)(hs:∀i ys H,i<n->Pv i ys H->∀x H',J.yld i H x H'->g x σB H' λσ2 H2=>tt σ2 H2 λb H3=>if b=true then te σ2 H3 λy H4=>Pv (i+1) (ys++[y]) H4 else Pv (i+1) ys H3)(hd:∀ys H,Pv n ys H->F ys H) :
  ∃W:Nat->Nat->List V->Hp->Prop,(∃m,W 0 m [] H1)/\∀i m ys H,W i m ys H->(J.stop i H/\ys.length<=sizeLine/\F ys H)\/(J.go i H/\ys.length<sizeLine/\∃N:List V->Hp->Prop,(∀ys' H',N ys' H'->∃m',m'<m/\W (i+1) m' ys' H') /\
   ∀x H',J.yld i H x H'->g x σB H' λσ2 H2=>tt σ2 H2 λb H3=>if b=true then te σ2 H3 λy H4=>N (ys++[y]) H4 else N ys H3):=by
 exists λi m ys H=>m=n-i/\i<=n/\Pv i ys H,⟨n,rfl,Gf _,h0⟩,?_;rintro i m ys H ⟨rfl,hi,p⟩;let hl:=hn i ys H p
 by_cases hlt:i<n
 .exact .inr ⟨hgo i ys H hlt p,(),Pv (i+1),λys' H' q=>⟨n-(i+1),(),rfl,hlt,q⟩,hs i ys H hlt p⟩
 .let e:i=n:=by lia
  subst e;exact .inl ⟨hstop ys H p,(),hd ys H p⟩
section
def Zuc(K:Cp):V->V->Hp->VK->Prop:=λo i H Q=>∃p xs k v,o=.ref p/\i=.int ((k:Nat):Int)/\SqL K H p xs/\xs[k]?=some v/\Q v H
theorem Zhf:PGet X (Zuc X.K):=by
 intro pq s σ H o i ov iv Q I ro ri h;let⟨p,xs,k,v,rfl,rfl,hq,hx,q⟩:=h;cases ro;let⟨t,rfl⟩:=ri;let⟨its,rv,pl,hz⟩:=I.list hq;let⟨u,hu,ru⟩:=rv.get hx;let hk:k<xs.length:=(Jf.mp hx).1;let hn:=Pk;exact wpAny_getItem_list pl.isList () () (by simpa using hu) ⟨v,H,I,ru,q⟩
theorem Ze5{ys:List Str}:∀{us:List Value},Vals (ys.map V.str) us->StrsAre us ys:=by
 induction ys with
 |nil=>intro us r;rw[Ma]at r;cases r;exact .nil
 |cons n ns ih =>
  intro us r;rw[Js]at r;cases r with
  |cons r1 r2 =>
   let⟨t,e⟩:=r1;subst e;exact .cons n t (ih r2)
def Zol:MtR X "str.join" (λx xs H Q=>∃(z:Str)(p:Addr)(ys:List Str),x=.str z/\xs=[.ref p]/\SqL X.K H p (ys.map V.str)/\(ys.map (·.length)).sum+ys.length*z.length<=16777216/\Q (.str (Txt.join z ys)) H):=by
 intro pq s σ H x xs v us Q I rx r h;let⟨z,p,ys,rfl,rfl,hq,hz,q⟩:=h;let⟨t,rfl⟩:=rx;let⟨u,rfl,ru⟩:=Re r;cases ru;let⟨its,rv,pl,_⟩:=I.list hq;exact join_list pl.isList (by simpa using Ze5 rv) hz λt' k=>⟨.str _,H,I.tok _,⟨_,rfl⟩,q⟩
def Zln:Vj X (.builtin "isinstance") (λxs H Q=>∃x T t b,xs=[x,.ty T]/\TyOf X.K H x t/\Eb X.K t (.type T)=some b/\Q (.bl b) H):=by
 intro pq s σ H xs us Q I r h;let⟨x,T,t,b,rfl,ty,e,q⟩:=h;let⟨u,w',rfl,ru,rw'⟩:=Zj8 r;cases rw';exact Zic I ru ty e λtk=>⟨.bl b,H,I.tok tk,rfl,q⟩
def rSlS:V->Option Int->Option Int->Hp->VK->Prop:=λx lo hi H Q=>∃z,x=.str z/\z.length<=sizeLine/\Q (.str (Txt.slice z lo hi)) H
theorem Zqy:SlR X rSlS:=by
 intro pq s σ H x v vl vu lo hi sl Q I rx hs pl pu h;let⟨z,rfl,hz,q⟩:=h;let⟨t,rfl⟩:=rx;exists "str",_,F.slot_str_getitem.lookup,Jg5 _ _ _,?_;cases pl with
 |none =>
  cases pu with
  |none=>exact He (l:=none) (u:=none) (st:=none) hs rfl (Ln ⟨J0 (Txt.slice_le z _ _) hz,λt' k=>⟨.str _,H,I.tok _,⟨_,rfl⟩,q⟩⟩)
  |int j tj=>exact He (l:=none) (u:=some (j,tj)) (st:=none) hs rfl (Ln ⟨J0 (Txt.slice_le z _ _) hz,λt' k=>⟨.str _,H,I.tok _,⟨_,rfl⟩,q⟩⟩)
 |int i ti =>
  cases pu with
  |none=>exact He (l:=some (i,ti)) (u:=none) (st:=none) hs rfl (Ln ⟨J0 (Txt.slice_le z _ _) hz,λt' k=>⟨.str _,H,I.tok _,⟨_,rfl⟩,q⟩⟩)
  |int j tj=>exact He (l:=some (i,ti)) (u:=some (j,tj)) (st:=none) hs rfl (Ln ⟨J0 (Txt.slice_le z _ _) hz,λt' k=>⟨.str _,H,I.tok _,⟨_,rfl⟩,q⟩⟩)
end
mutual
inductive DV(K:Cp)(H:Hp):V->PyData->Prop
 |non:DV K H .non .none
 |bl (b:Bool):DV K H (.bl b) (.bool b)
 |int (i:Int):DV K H (.int i) (.int i)
 |str (x:Str):DV K H (.str x) (.str x)
 |lst {a:Addr} {xs:List V} {ds:List PyData} (h:SqL K H a xs) (r:DVs K H xs ds):DV K H (.ref a) (.list ds)
 |tup {a:Addr} {xs:List V} {ds:List PyData} (h:SqT K H a xs) (r:DVs K H xs ds):DV K H (.ref a) (.tuple ds)
inductive DVs(K:Cp)(H:Hp):List V->List PyData->Prop
 |nil:DVs K H [] []
 |cons {x:V} {d:PyData} {xs:List V} {ds:List PyData} (h:DV K H x d) (r:DVs K H xs ds):DVs K H (x::xs) (d::ds)
end
section
mutual
theorem Tw(I:Inv X pq σ H s):∀{x:V}{d:PyData}{u:Value},DV X.K H x d->RelV x u->∃as,Reads s.heap u d as
 |_,_,u,.non,r=>by obtain rfl:u=Value.none:=r;exists _,Reads.none
 |_,_,u,.bl b,r=>by obtain rfl:u=Jc8 b:=r;exists _,Reads.bool b
 |_,_,u,.int i,r=>by let⟨t,rfl⟩:=(show ∃t,u=Ea i t from r);exists _,Reads.int i t
 |_,_,u,.str x,r=>by let⟨t,rfl⟩:=(show ∃t,u=Jcz x t from r);exists _,Reads.str x t
 |_,_,u,.lst (a:=a) h q,r=>by
  obtain rfl:u=Cb a:=r;let⟨its,rv,⟨o,n,e,c,d,dt⟩,_⟩:=I.list h;let⟨as,ra⟩:=dvs_reads I q rv;exists _,reads_list_at e c dt (by simpa using ra)
 |_,_,u,.tup (a:=a) h q,r=>by
  obtain rfl:u=Cb a:=r;let⟨its,rv,⟨o,e,c,n,dt⟩,_⟩:=I.tuple h;let⟨as,ra⟩:=dvs_reads I q rv;exists _,reads_tuple_at e c dt (by simpa using ra)
theorem dvs_reads(I:Inv X pq σ H s):∀{xs:List V}{ds:List PyData}{us:List Value},DVs X.K H xs ds->Vals xs us->∃as,ReadsAll s.heap us ds as:=by
 intro _ _ _ hz9 hz8;cases hz9 with
 |nil=>
  cases hz8 with
  |nil=>
   exists _,ReadsAll.nil
 |cons h q=>
  cases hz8 with
  |cons r rr=>
   exact by
     let⟨as,ra⟩:=Tw I h r;let⟨bs,rb⟩:=dvs_reads I q rr;exists _,ReadsAll.cons ra rb
end
def rEqD(K:Cp):R2:=λx y H Q=>∃dx dy,DV K H x dx/\DV K H y dy/\Hr dx=true/\Hr dy=true/\Q (.bl (C9 dx dy)) H
def rNeD(K:Cp):R2:=λx y H Q=>∃dx dy,DV K H x dx/\DV K H y dy/\Hr dx=true/\Hr dy=true/\Q (.bl (!PyData.eqv dx dy)) H
def Zea(hu:X.A.units+64<cLine):OpR X (Eh .Eq) (rEqD X.K):=by
 intro pq s σ H x y v u Q I rx ry h;let⟨dx,dy,hx,hy,sx,sy,q⟩:=h;let⟨as,ra⟩:=Tw I hx rx;let⟨bs,rb⟩:=Tw I hy ry;exact eq_dataH ra rb sx sy hu ⟨.bl _,H,I,rfl,q⟩
def Zrq(hu:X.A.units+64<cLine):OpR X (Eh .NotEq) (rNeD X.K):=by
 intro pq s σ H x y v u Q I rx ry h;let⟨dx,dy,hx,hy,sx,sy,q⟩:=h;let⟨as,ra⟩:=Tw I hx rx;let⟨bs,rb⟩:=Tw I hy ry;exact ne_dataH ra rb sx sy hu ⟨.bl _,H,I,rfl,q⟩
end
theorem Tv :∀ns:List Int,DVs K H (ns.map V.int) (ns.map Hh)
 |[]=>.nil
 |n::r=>.cons (.int n) (Tv r)
def Cal(P:Ep)(w:Ct)(K:Cp)(mg:Str->Option Value)(base:Heap)(x:Str)(k:Nat)(ps:List Str)(sp:Sp):Prop :=
 ∃(f:Addr)(fd:L8),FnOk P w K mg base CX0 k f fd ps sp/\mg x=some (.ref f)/\Ja3 K (.ref f)=true/\Vn K fd ps []
section
variable{x:Str}{k:Nat}{e:Expr}{t:TA}{p:Pos}
def Zw(C:Cal X.prog X.w X.K X.mg X.base x k ps sp)(hr:Room k X.A)(hg:Gl X x)(ha:PA X (e::es) t)(hdb:(x==("__debug__":Str))=false:=by decide)(he:Ch (e::es) X.env=(false,eval e X.env)::Ch es X.env:=by rfl)(hpl:(Hm pos (Ch es X.env)).any (·.1)=false:=by rfl):PE X (.Call (.Name x p) (e::es) [] pos) (Ze4 sp [] E0 t):=by
 let⟨f,fd,F,hm,hk,hb⟩:=C;exact Zhj F hr hg hm hk hb .nil Zk2 ha hdb he hpl
end
def Grow(p:Addr)(H H':Hp):Prop:=∀b o,H b=some o->b≠p->H' b=some o
def Grow.refl(p:Addr)(H:Hp):Grow p H H:=λ_ _ e _=>e
def Grow.trans{p:Addr}(a:Grow p H H1)(b:Grow p H1 H2):Grow p H H2:=λc o e n=>b c o (a c o e n) n
def Grow.same{p:Addr}(s:Same H H'):Grow p H H':=λb o e _=>s b o e
theorem Grow.free{p:Addr}(g:Grow p H H')(h:H' l=none)(n:l≠p):H l=none:=by
 cases q:H l with
 |none=>rfl
 |some o=>rw[g l o q n]at h;cases h
def Zc{p:Addr}(h:H p=none):Same H (upd H p o):=λb u e=>by rw[Zl (Zr e h)];exact e
structure HandAt(H:Hp)(p a:Addr):Prop where
 ex:∃(d k:Int)(cs:List Int),H p=some (.lst [.int d,.int k,.ref a])/\H a=some (.lst (cs.map V.int))/\cs≠[]/\cs.length<=63/\0<=d/\0<=k/\∀c∈cs,0<=c
theorem HandAt.ne{p a:Addr}(h:HandAt H p a):p≠a:=by
 let⟨d,k,cs,e1,e2,_⟩:=h.ex;refine X1 e1 e2 λz=>?_;injection z with z
 cases cs with
 |nil=>cases z
 |cons c r =>
  rw[Js]at z;injection z with _ z
  cases r with
  |nil=>cases z
  |cons c2 r =>
   rw[Js]at z;injection z with _ z
   cases r with
   |nil=>cases z
   |cons c3 r=>rw[Js]at z;injection z with z _;cases z
def HandAt.same{p a:Addr}(h:HandAt H p a)(g:Same H H'):HandAt H' p a:=by
 let⟨d,k,cs,e1,e2,r⟩:=h.ex;exists d,k,cs,g _ _ e1,g _ _ e2,r
def Rf:Sp:=λvs H Q _=>∃(p a:Addr)(n:Int),vs=[.ref p,.int n]/\HandAt H p a/\0<n/\n<1073741824 /\
 ∀(r:Int)(H':Hp),0<=r->r<n->HandAt H' p a->Grow p H H'->(∀b,b≠p->H' b=H b)->Q (.int r) H'
def Zl1(K:Cp):Sp:=λvs H Q _=>∃(s:Addr)(ns:List Int)(i:Int),vs=[.ref s,.int i]/\SqL K H s (ns.map V.int)/\ns.length<=63/\0<=i/\i<2 ^ 60 /\
 ∀(p a:Addr)(H':Hp),H p=none->H a=none->HandAt H' p a->Same H H'->Q (.ref p) H'
theorem N7{cs:List Int}(h:cs≠[])(z:Int):∃c,c∈cs/\atI (cs.map V.int) (z % ((cs.map V.int).length:Nat))=some (.int c):=by
 let hl:0<cs.length:=Gk.mpr h;let h0:0<=z % ((cs.map V.int).length:Nat):=G3 _ (by rw[Jb];lia);let h1:z % ((cs.map V.int).length:Nat)<((cs.map V.int).length:Nat):=Gu _ (by rw[Jb];lia);generalize z % ((cs.map V.int).length:Nat)=m at h0 h1;rw[Jb]at h1;let hm:m.toNat<cs.length:=by lia
 let⟨k,rfl⟩:=Gh h0;let hm:k<cs.length:=hm;exists cs[k],Jr hm,Sg ?_;rw[Jv,Ja hm];rfl
def Shp(n:Nat)(d:PyData):Prop:=d.canLay0=true/\d.depth<=n
def Shp.shaped{n:Nat}{d:PyData}(h:Shp n d)(hn:n<=64):Hr d=true:=by
 unfold Hr;rw[h.1,Bool.true_and];exact Ft (J0 h.2 hn)
theorem Zcd{n:Nat}:∀{ds:List PyData},(∀d∈ds,Shp n d)->Mv ds=true/\Jc3 ds<=n
 |[],_=>⟨by simp only[Mv],by simp only[Jc3];exact Gf _⟩
 |d::r,h=>by
  let⟨h1,h2⟩:=h d Jn;let⟨h3,h4⟩:=Zcd (n:=n) λx hx=>h x (Jh _ hx);exists by simp only[Mv,h1,h3,Bool.and_self],?_;simp only[Jc3];lia
theorem Zdx{n:Nat}{ds:List PyData}(h:∀d∈ds,Shp n d):Shp (n+1) (.list ds):=by
 let⟨h1,h2⟩:=Zcd h;exact⟨by simp only[Jdl,h1],by simp only[Je9];lia⟩
theorem Rg{n:Nat}{ds:List PyData}(h:∀d∈ds,Shp n d):Shp (n+1) (.tuple ds):=by
 let⟨h1,h2⟩:=Zcd h;exact⟨by simp only[Jdl,h1],by simp only[Je9];lia⟩
def Zcc(i:Int):Shp 0 (.int i):=⟨by simp only[Jdl],by simp only[Je9];exact Je _⟩
def Su(ns:List Int):Shp 1 (.list (ns.map Hh)):=Zdx λd hd=>by
 let⟨i,_,rfl⟩:=Jp.mp hd;exact Zcc i
theorem Zo7(ns:List Int):C9 (.list (ns.map Hh)) (.list [])=decide (ns=[]):=by
 cases ns with
 |nil=>simp[C9,C4]
 |cons n r=>simp[C9,C4]
theorem Zlk(ns:List Int)(lo hi:Option Int):∃ms:List Int,cutV (ns.map V.int) lo hi=ms.map V.int/\ms.length<=ns.length/\∀c∈ms,c∈ns:=by
 exists(ns.drop (HT.sIx (ns.map V.int).length 0 lo)).take (HT.sIx (ns.map V.int).length (ns.map V.int).length hi-HT.sIx (ns.map V.int).length 0 lo),?_,?_,?_
 .unfold cutV;rw[Bs,B0]
 .rw[Ji,J8];lia
 .intro c hc;exact Jdh (Bl hc)
def Zp{n:Nat}(h:n<=100000):n<=sizeLine:=J0 h nofun
theorem S0{as:List V}{j:Int}(h0:0<=j)(h1:j<=as.length):cutV as (some j) none=as.drop j.toNat:=by
 let⟨m,rfl⟩:=Gh h0;unfold cutV;rw[HT.sIx_nat,HT.sIx_none,B4 (),Gc (by rw[J8];exact Je _)];rfl
theorem Zbq{as:List V}{j:Int}(h0:0<=j)(h1:j<=as.length):cutV as none (some j)=as.take j.toNat:=by
 let⟨m,rfl⟩:=Gh h0;unfold cutV;rw[HT.sIx_nat,HT.sIx_none,B4 (),Fg,Jhy];rfl
def HC(H H4:Hp)(cl:Addr):Prop:=∃as:List Int,Same H H4/\H cl=none/\H4 cl=some (.lst (as.map V.int))/\as≠[]/\as.length<=63/\∀c∈as,0<=c
theorem spun{as:List Int}(hne:as≠[])(i:Int):∃cs:List Int,cutV (as.map V.int) (some (i % ((as.map V.int).length:Nat))) none++cutV (as.map V.int) none (some (i % ((as.map V.int).length:Nat)))=cs.map V.int/\cs≠[]/\cs.length=as.length/\∀c∈cs,c∈as:=by
 let hl:0<as.length:=Gk.mpr hne;let h0:0<=i % ((as.map V.int).length:Nat):=G3 _ (by rw[Jb];lia);let h1:i % ((as.map V.int).length:Nat)<((as.map V.int).length:Nat):=Gu _ (by rw[Jb];lia);generalize i % ((as.map V.int).length:Nat)=j at h0 h1;rw[S0 h0 (),Zbq h0 ()];rw[Jb]at h1;exists as.drop j.toNat++as.take j.toNat,by rw[Jg,B0,Bs],?_,?_,?_
 .intro e;let:=congrArg Ey e;rw[Jd,J8,Ji]at this;simp at this;lia
 .rw[Jd,J8,Ji];lia
 .intro c hc;rcases Ga.mp hc with z|z
  .exact Jdh z
  .exact Bl z
theorem Zlr{α:Type}{xs:List α}{r:Int}(h0:0<=r)(h1:r<xs.length):∃v,v∈xs/\atI xs r=some v:=by
 let hm:r.toNat<xs.length:=by lia
 let⟨k,rfl⟩:=Gh h0;let hm:k<xs.length:=hm;exists xs[k],Jr hm,Sg (Ja hm)
def Zsu{w:Ct}{base:Heap}{x:Str}{f:Addr}{k:Nat}(F:Fun K x x st f fd)(G:FnOk P w K mg base CX0 k f fd ps sp)(m:mg x=some (.ref f))(b:Vn K fd ps []) :
  Cal P w K mg base x k ps sp:=⟨f,fd,G,m,F.kp,b⟩
end L2
set_option maxHeartbeats 4000000
namespace L2
open PySem PySem.W PyProof.Rows
def Rk(rk:Nat->Int)(p:Array Nat)(i:Nat):Int:=rk (p.getD i 0)
def SrtR(rk:Nat->Int)(p:Array Nat)(k:Nat):Prop:=∀i j,i<=j->j<k->Rk rk p i<=Rk rk p j
structure GoodP(n:Nat)(p:Array Nat):Prop where
 perm:p.Perm (Ef n).toArray
def GoodP.size{n:Nat}{p:Array Nat}(g:GoodP n p):p.size=n:=by have:=g.perm.size_eq;simpa using this
def GoodP.lt{n:Nat}{p:Array Nat}(g:GoodP n p)(i:Nat)(hi:i<n):p.getD i 0<n:=by
 let hi':i<p.size:=by rw[g.size];exact hi
 let e:p.getD i 0=p[i]:=by simp[Jdc,hi']
 rw[e];let hm:p[i]∈p.toList:=by simp
 let:=(Bu.mp g.perm).mem_iff.mp hm;simpa using this
def GoodP.ne{n:Nat}{p:Array Nat}(g:GoodP n p){i:Nat}(hi:i<n)(hj:j<n)(h:i≠j):p.getD i 0≠p.getD j 0:=by
 let nd:p.toList.Nodup:=(Bu.mp g.perm).nodup_iff.mpr (by simpa using List.nodup_range);let hi':i<p.size:=by rw[g.size];exact hi
 let hj':j<p.size:=by rw[g.size];exact hj
 let e:p.getD i 0=p[i]:=by simp[Jdc,hi']
 let e2:p.getD j 0=p[j]:=by simp[Jdc,hj']
 rw[e,e2];intro z;let:=(G7 (h₀:=by simpa using hi') (h₁:=by simpa using hj') nd).mp (by simpa using z);exact h this
def W5{p q:Array Nat}{i:Nat}(h:p[i]?=q[j]?):p.getD i 0=q.getD j 0:=by
 rw[Lo,Lo,h]
def Zb0{rk:Nat->Int}{xs:Array Nat}{src d:Nat}(hs:src<xs.size)(hd:d<=src)(k:Nat) :
  Rk rk (bubble xs src d) k=if k=src-d then Rk rk xs src else if src-d<k/\k<=src then Rk rk xs (k-1)else Rk rk xs k:=by
 let e:=getElem?_bubble hs d hd k;unfold Rk
 by_cases h1:k=src-d
 .rw[Fs h1]at e⊢;rw[W5 e]
 .rw[Fp h1]at e⊢
  by_cases h2:src-d<k/\k<=src
  .rw[Fs h2]at e⊢;rw[W5 e]
  .rw[Fp h2]at e⊢;rw[W5 e]
def Zm5{rk:Nat->Int}{xs:Array Nat}(hj:j<=xs.size)(k:Nat) :
  Rk rk (Jih xs 0 j) k=if k<j then Rk rk xs (j-1-k)else Rk rk xs k:=by
 let e:=getElem?_mirror_all (xs:=xs) (i:=0) hj k;unfold Rk Jih
 by_cases h1:k<j
 .rw[Fs ⟨Gf _,h1⟩]at e;rw[Fs h1,W5 e,Jfa]
 .rw[Fp (λz=>h1 z.2)]at e;rw[Fp h1,W5 e]
section
variable{rk:Nat->Int}{n:Nat}{cmp:Nat->Nat->(Bool->Ca->Prop)->Ca->Prop} 
def CmpR(rk:Nat->Int)(n:Nat)(cmp:Nat->Nat->(Bool->Ca->Prop)->Ca->Prop)(s:Ca):Prop :=
 ∀i j(C:Bool->Ca->Prop),i<n->j<n->C (decide (rk i<rk j)) s->cmp i j C s
theorem Zpm(hc:CmpR rk n cmp s){p:Array Nat}(g:GoodP n p){G:Nat->Ca->Prop}:∀(f m:Nat),1<=m->m+f<=n->SrtR rk p m ->
  (∀m',m<=m'->m'<=m+f->SrtR rk p m'->(m'=m+f\/(m'<n/\Rk rk p m'<Rk rk p (m'-1)))->G m' s)->(kas_asc p f m).kasWp cmp G s
 |0,m,_,_,hs,h=>h m (Je _) (Je _) hs (.inl rfl)
 |f+1,m,h1,h2,hs,h=>by
  show cmp (p.getD m 0) (p.getD (m-1) 0) _ s;refine hc _ _ _ (g.lt _ ()) (g.lt _ ()) ?_
  by_cases q:rk (p.getD m 0)<rk (p.getD (m-1) 0)
  .simp only[q,decide_true,if_true];exact h m (Je _) () hs (.inr ⟨(),q⟩)
  .simp only[q,decide_false,G1,if_false];refine Zpm hc g f (m+1) () () (λi j hij hj=>?_) λm' a b c d=>h m' () () c (by
    rcases d with d|d
    .exact .inl ()
    .exact .inr d)
   by_cases hjm:j=m
   .subst hjm
    by_cases him:i=j
    .subst him;exact Jb1 _
    .exact Jc4 (hs i (j-1) () ()) (Int.not_lt.mp q)
   .exact hs i j hij ()
theorem Zmt(hc:CmpR rk n cmp s)(inj:∀i j,i<n->j<n->rk i=rk j->i=j){p:Array Nat}(g:GoodP n p){G:Array Nat×Nat×Nat->Ca->Prop}:∀(f m:Nat),1<=m->m+f<=n ->
  (∀i j,i<j->j<m->Rk rk p j<Rk rk p i) ->
  (∀m',m<=m'->m'<=m+f->(∀i j,i<j->j<m'->Rk rk p j<Rk rk p i)->G (p,m',0) s)->(kas_desc f p m 0).kasWp cmp G s
 |0,m,_,_,hs,h=>h m (Je _) (Je _) hs
 |f+1,m,h1,h2,hs,h=>by
  show cmp (p.getD m 0) (p.getD (m-1) 0) _ s;refine hc _ _ _ (g.lt _ ()) (g.lt _ ()) ?_
  by_cases q:rk (p.getD m 0)<rk (p.getD (m-1) 0)
  .simp only[q,decide_true,if_true,Gw,if_false,gt_iff_lt];refine Zmt hc inj g f (m+1) () () (λi j hij hj=>?_) λm' a b c=>h m' () () c
   by_cases hjm:j=m
   .subst hjm
    by_cases him:i=j-1
    .subst him;exact q
    .exact Int.lt_trans q (hs i (j-1) () ())
   .exact hs i j hij ()
  .simp only[q,decide_false,G1,if_false];show cmp (p.getD (m-1) 0) (p.getD m 0) _ s;refine hc _ _ _ (g.lt _ ()) (g.lt _ ()) ?_;let lt2:rk (p.getD (m-1) 0)<rk (p.getD m 0):=by
    let ne:rk (p.getD (m-1) 0)≠rk (p.getD m 0):=λz=>g.ne () () (by lia:m-1≠m) (inj _ _ (g.lt _ ()) (g.lt _ ()) z);lia
   simp only[lt2,decide_true,if_true];exact h m (Je _) () hs
def GoodP.rev{p:Array Nat}(g:GoodP n p)(i j:Nat):GoodP n (Jih p i j):=⟨(mirror_perm _ _ _ _).trans g.perm⟩
theorem Zpe(hc:CmpR rk n cmp s)(inj:∀i j,i<n->j<n->rk i=rk j->i=j)(h2:2<=n){p:Array Nat}(g:GoodP n p){G:Nat×Array Nat->Ca->Prop}(h:∀m p',1<=m->m<=n->GoodP n p'->SrtR rk p' m->G (m,p') s):(kas_count n p).kasWp cmp G s:=by
 unfold kas_count;rw[Km];refine Zpm hc g (n-1) 1 (Je _) () (λi j hij hj=>by rw[show i=j by lia];exact Jb1 _) λm a b c d=>?_
 by_cases e:m=n
 .subst e;simp only[beq_self_eq_true,if_true];exact h m p () (Je _) g c
 .let hb:(m==n)=false:=by simpa using e
  simp only[hb,G1,if_false];let hd:m<n/\Rk rk p m<Rk rk p (m-1):=by
   rcases d with d|d
   .lia
   .exact d
  by_cases hm:m > 1
  .rw[Fs hm];show cmp (p.getD 0 0) (p.getD (m-1) 0) _ s;refine hc _ _ _ (g.lt _ ()) (g.lt _ ()) ?_;let lt2:rk (p.getD 0 0)<rk (p.getD (m-1) 0):=by
    let ne:rk (p.getD 0 0)≠rk (p.getD (m-1) 0):=λz=>g.ne () () (by lia:0≠m-1) (inj _ _ (g.lt _ ()) (g.lt _ ()) z);let le:=c 0 (m-1) () ();unfold Rk at le;lia
   simp only[lt2,decide_true,if_true];exact h m p () () g c
  .rw[Fp hm];let hm1:m=1:=by lia
   subst hm1;unfold kas_descPart;rw[Km];refine Zmt hc inj g (n-2) 2 () () (λi j hij hj=>?_) λm' a' b' c'=>?_
   .let:j=1:=by lia
    let:i=0:=by lia
    subst i;subst j;exact hd.2
   .simp only[gt_iff_lt,Gw,if_false];unfold kas_tail3;rw[Km];let hm':m'<=n:=by lia
    refine Zpm hc (g.rev 0 m') (n-m') m' () () (λi j hij hj=>?_) λk a2 b2 c2 _=>?_
    .rw[Zm5 (by rw[g.size];exact hm'),Zm5 (by rw[g.size];exact hm'),Fs (),Fs hj]
     by_cases hij2:i=j
     .subst hij2;exact Jb1 _
     .exact Jhz (c' _ _ () ())
    .show G (k,Jih p 0 m') s;exact h k _ () () (g.rev 0 m') c2
theorem Zco(hc:CmpR rk n cmp s){p:Array Nat}(g:GoodP n p){k:Nat}(hk:k<n)(hs:SrtR rk p k){G:Nat->Ca->Prop}(h:∀l,l<=k->(∀i,i<l->Rk rk p i<=Rk rk p k)->(∀i,l<=i->i<k->Rk rk p k<Rk rk p i)->G l s):∀(f l r:Nat),l<=r->r<=k->r-l<=f ->
  (∀i,i<l->Rk rk p i<=Rk rk p k)->(∀i,r<=i->i<k->Rk rk p k<Rk rk p i)->(kas_place p k f l r).kasWp cmp G s
 |0,l,r,h1,h2,h3,lo,hi=>by
  let:l=r:=by lia
  subst this;exact h l h2 lo hi
 |f+1,l,r,h1,h2,h3,lo,hi=>by
  unfold kas_place
  by_cases hge:l≥r
  .rw[Fs hge];let:l=r:=by lia
   subst this;exact h l h2 lo hi
  .rw[Fp hge];show cmp (p.getD k 0) (p.getD ((l+r) / 2) 0) _ s;refine hc _ _ _ (g.lt _ hk) (g.lt _ ()) ?_
   by_cases q:rk (p.getD k 0)<rk (p.getD ((l+r) / 2) 0)
   .simp only[q,decide_true,if_true];exact Zco hc g hk hs h f l ((l+r) / 2) () () () lo λi a b=>Int.lt_of_lt_of_le q (hs _ _ a b)
   .simp only[q,decide_false,G1,if_false];exact Zco hc g hk hs h f ((l+r) / 2+1) r () () () (λi a=>Jc4 (hs i ((l+r) / 2) () ()) (Int.not_lt.mp q)) hi
theorem Zs5(hc:CmpR rk n cmp s){G:Array Nat->Ca->Prop}(h:∀p,GoodP n p->SrtR rk p n->G p s):∀(f:Nat)(p:Array Nat)(k:Nat),k+f=n->GoodP n p->SrtR rk p k->(kas_bin f p k).kasWp cmp G s
 |0,p,k,e,g,hs=>h p g (by rw[<-e];exact hs)
 |f+1,p,k,e,g,hs=>by
  unfold kas_bin;rw[Km];refine Zco hc g () hs (λl hl lo hi=>?_) k 0 k (Gf _) (Je _) () (λi z=>absurd z (G6 _)) (λi a b=>by lia);refine Zs5 hc h f _ (k+1) () ⟨(bubble_perm _ _ _).trans g.perm⟩ λi j hij hj=>?_;let hks:k<p.size:=by rw[g.size];lia
  rw[Zb0 hks (),Zb0 hks (),show k-(k-l)=l by lia]
  repeat' split
  all_goals first
   |(exfalso;lia)
   |exact Jb1 _
   |exact lo _ ()
   |exact Jhz (hi _ () ())
   |exact hs _ _ () ()
theorem Zqv(hc:CmpR rk n cmp s)(inj:∀i j,i<n->j<n->rk i=rk j->i=j)(h2:2<=n){G:Array Nat->Ca->Prop}(h:∀p,GoodP n p->SrtR rk p n->G p s):(kas_sort n).kasWp cmp G s:=by
 unfold kas_sort;rw[Km];refine Zpe hc inj h2 ⟨Array.Perm.refl _⟩ λm p' a b g hs=>?_
 by_cases hm:m<n
 .rw[Fs hm];let e:max m 1=m:=by lia
  rw[e];exact Zs5 hc h (n-m) p' m () g hs
 .rw[Fp hm];let:m=n:=by lia
  subst this;exact h p' g hs
end
end L2
namespace L2
open PySem PySem.W PyProof.Rows HT
theorem Zh6:∀a:List Int,lexLt a a=false
 |[]=>rfl
 |x::r=>by rw[Uk,Fs rfl];exact Zh6 r
theorem Za7:∀{a b c:List Int},lexLt a b=true->lexLt b c=true->lexLt a c=true
 |[],[],_,h,_=>by rw[Nk]at h;cases h
 |[],_::_,[],_,h=>by rw[Ww]at h;cases h
 |[],_::_,_::_,_,_=>rfl
 |_::_,[],_,h,_=>by rw[Ww]at h;cases h
 |_::_,_::_,[],_,h=>by rw[Ww]at h;cases h
 |x::a,y::b,z::c,h1,h2=>by
  rw[Uk]at h1 h2⊢
  by_cases e1:x=y
  .subst e1;rw[Fs rfl]at h1
   by_cases e2:x=z
   .rw[Fs e2]at h2⊢;exact Za7 h1 h2
   .rw[Fp e2]at h2⊢;exact h2
  .rw[Fp e1]at h1;let l1:x<y:=of_decide_eq_true h1
   by_cases e2:y=z
   .subst e2;rw[Fp e1];exact h1
   .rw[Fp e2]at h2;let l2:y<z:=of_decide_eq_true h2;rw[Fp ()];exact Ft ()
theorem Zcx:∀{a b:List Int},lexLt a b=false->lexLt b a=false->a=b
 |[],[],_,_=>rfl
 |[],_::_,h,_=>by rw[Uw]at h;cases h
 |_::_,[],_,h=>by rw[Uw]at h;cases h
 |x::a,y::b,h1,h2=>by
  rw[Uk]at h1 h2
  by_cases e:x=y
  .subst e;rw[Fs rfl]at h1 h2;rw[Zcx h1 h2]
  .rw[Fp e]at h1;rw[Fp (λz=>e z.symm)]at h2;let:=of_decide_eq_false h1;let:=of_decide_eq_false h2;lia
theorem Zbr{α:Type}{p q:α->Bool}:∀{l:List α},(∀x∈l,p x=true->q x=true)->(∃x∈l,q x=true/\p x=false)->l.countP p<l.countP q
 |[],_,⟨_,h,_⟩=>nomatch h
 |a::l,h1,⟨x,hx,hq,hp⟩=>by
  let le:l.countP p<=l.countP q:=List.countP_mono_left λy hy=>h1 y (Jh _ hy);rw[Jfj,Jfj];rcases Jq.mp hx with e|hx
  .subst e;rw[hq,hp];simp;lia
  .let lt:=Zbr (λy hy=>h1 y (Jh _ hy)) ⟨x,hx,hq,hp⟩;let:=h1 a Jn;cases ha:p a<;>cases hb:q a<;>simp_all<;>lia
def Wl(ks:List (List Int))(i:Nat):Int:=((Ef ks.length).countP λj=>lexLt (ks.getD j []) (ks.getD i []):Nat)
theorem Zg2{ks:List (List Int)}{i:Nat}(hi:i<ks.length)(h:lexLt (ks.getD i []) (ks.getD j [])=true):Wl ks i<Wl ks j:=by
 unfold Wl;let:=Zbr (l:=Ef ks.length) (p:=λx=>lexLt (ks.getD x []) (ks.getD i [])) (q:=λx=>lexLt (ks.getD x []) (ks.getD j [])) (λx _ hx=>Za7 hx h) ⟨i,List.mem_range.mpr hi,h,Zh6 _⟩;lia
theorem Sw{ks:List (List Int)}(nd:ks.Nodup){i:Nat}(hi:i<ks.length)(hj:j<ks.length):decide (Wl ks i<Wl ks j)=lexLt (ks.getD i []) (ks.getD j []):=by
 cases e:lexLt (ks.getD i []) (ks.getD j [])with
 |true=>exact Ft (Zg2 hi e)
 |false =>
  refine Fu λz=>?_;cases e2:lexLt (ks.getD j []) (ks.getD i [])with
  |true=>have:=Zg2 hj e2;lia
  |false =>
   let e3:=Zcx e e2;unfold Wl at z;rw[e3]at z;exact absurd z (Int.lt_irrefl _)
theorem Zd3{ks:List (List Int)}(nd:ks.Nodup){i:Nat}(hi:i<ks.length)(hj:j<ks.length)(h:Wl ks i=Wl ks j):i=j:=by
 let e1:lexLt (ks.getD i []) (ks.getD j [])=false:=by rw[<-Sw nd hi hj];exact Fu ()
 let e2:lexLt (ks.getD j []) (ks.getD i [])=false:=by rw[<-Sw nd hj hi];exact Fu ()
 let e3:=Zcx e1 e2;rw[Gj,Gj,Ja hi,Ja hj]at e3;exact(G7 (h₀:=hi) (h₁:=hj) nd).mp (by simpa using e3)
section
variable{w:Ct} 
theorem Zed{Q:Bool->Ca->Prop}:∀{vs ws:List Value}{ns ms:List Int}{fin:Bool}{i:Nat},Mi vs ns->Mi ws ms->(fin=decide (ns.length<ms.length))->Q (lexLt ns ms) s->KatLex prog w A true fin Q (vs.zip ws) i s
 |_,_,_,_,fin,i,.nil,.nil,e,h=>by
  subst e;exact kat_nil h
 |_,_,_,_,fin,i,.nil,.cons _ _ r,e,h=>by
  subst e;exact kat_nil (by simpa[HT.lexLt]using h)
 |_,_,_,_,fin,i,.cons _ _ r,.nil,e,h=>by
  subst e;exact kat_nil (by simpa[HT.lexLt]using h)
 |_,_,_,_,fin,i,.cons a t r,.cons c u r2,e,h=>by
  rw[List.zip_cons_cons];refine kat_cons (Jfc ?_);rw[Uk]at h
  by_cases z:a=c
  .subst z;rw[Fs rfl]at h;rw[beq_self_eq_true];exact kat_yes (Zed r r2 (by rw[e];simp) h)
  .rw[Fp z]at h;let hb:(a==c)=false:=by simpa using z
   rw[hb];refine kat_no ?_;cases hi:(true&&i==0)with
   |true=>exact oneLt_int h
   |false=>exact kat_one _ _ (Jii (show PySem.W.BoolBack Q (.bool (decide (a<c))) s from h))
end
abbrev KIt:=V×Addr×List Int
section
def Inv.pin1{o:Obj}(I:Inv X pq σ H s)(f:FpOk X pq H b)(e:s.heap.get? b=some o)(hd:∀v,o.data≠.cell v):Inv X (pq++[(b,o)]) σ H s :=
 I.pins_of λp hp=>(Ga.mp hp).elim (λz=>I.pin p (Jl _ z)) λz=>by
  rw[Jm.mp z];exists e,f.1,f.2.1,f.2.2.1,hd
def Inv.turn1(I:Inv X pq σ H s)(f:FpOk X pq H b)(hs:E9 b s.heap h'):Inv X pq σ H {s with heap:=h'} :=
 I.turned (t':=s.toks) (λc o hc e=>(hs.2 c hc).trans e) f.1 f.2.1 f.2.2.2.1 f.2.2.2.2.1 f.2.2.2.2.2
def FpOk.snoc{c:Addr}{o:Obj}(f:FpOk X pq H b)(h:c≠b):FpOk X (pq++[(c,o)]) H b :=
 ⟨f.1,f.2.1,f.2.2.1,f.2.2.2.1,f.2.2.2.2.1,λp hp=>by
  rw[<-Gd]at hp;rcases Ga.mp hp with z|z
  .exact f.2.2.2.2.2 p z
  .rw[Jm.mp z];exact h⟩
def Yg(L:List KIt):List Value:=L.map λq=>Cb q.2.1
def W6{α:Type}{f:α->β}{l:List α}{i:Nat}{d:β}(h:i<l.length):(l.map f).getD i d=f l[i]:=by
 rw[Gj,Jv,Ja h];rfl
theorem Zla{L:List KIt}(I:Inv X pq σ H s)(hk:∀q∈L,SqT X.K H q.2.1 (q.2.2.map V.int)/\q.2.2≠[])(h2:0<L.length){Q:SortKind->Ca->Prop}(h:Q (tuples' true) s) :
  Cc (Cd X.prog X.w) A (keyKind' (Yg L).toArray) Q E s:=by
 let tk:∀L':List KIt,(∀q∈L',q∈L)->∃fs:List Value,KatTups s.heap (Yg L') fs/\fs.length=L'.length/\∀v∈fs,∃n t,v=.int n t:=by
  intro L'
  induction L' with
  |nil=>intro _;exists [],.nil,rfl,λv hv=>nomatch hv
  |cons q r ih =>
   intro hm;let⟨fs,a,b,c⟩:=ih λx hx=>hm x (Jh _ hx);let⟨sq,ne⟩:=hk q (hm q Jn);let⟨its,rv,⟨o,e,hc,n,hd⟩,_⟩:=I.tuple sq
   match hq:q.2.2,ne with
   |z::zs,_ =>
    rw[hq]at rv;cases rv with
    |cons rv1 rv2 =>
     let⟨t,et⟩:=rv1;exists .int z t::fs,KatTups.cons e hc hd ?_ a,by simp[b],λv hv=>?_
     .rw[et];simp
     .rcases Jq.mp hv with e|hv
      .exists z,t,e
      .exact c v hv
 let⟨fs,a,b,c⟩:=tk L λ_ h=>h;exact kat_kind (T:=.type "int") a () (λv hv=>by let⟨n,t,e⟩:=c v hv;subst e;exact .now) nofun h
def Zot{L:List KIt}(I:Inv X pq σ H s)(hk:∀q∈L,SqT X.K H q.2.1 (q.2.2.map V.int)/\q.2.2≠[])(nd:(L.map (·.2.2)).Nodup) :
  CmpR (Wl (L.map (·.2.2))) L.length (kas_ask X.prog X.w A (tuples' true) (Yg L)) s:=by
 intro i j C hi hj h;rw[Sw nd (by simpa using hi) (by simpa using hj),W6 hi,W6 hj]at h;unfold kas_ask;rw[show(Yg L).getD i Value.none=Cb L[i].2.1 from W6 hi,show(Yg L).getD j Value.none=Cb L[j].2.1 from W6 hj];let⟨its,rv,⟨o,e,hc,n,hd⟩,_⟩:=I.tuple (hk _ (Jr hi)).1;let⟨its2,rv2,⟨o2,e2,hc2,n2,hd2⟩,_⟩:=I.tuple (hk _ (Jr hj)).1;let ia:∀{ns:List Int}{vs:List Value},Vals (ns.map V.int) vs->Mi vs ns:=by
  intro ns
  induction ns with
  |nil=>intro vs h;cases h;exact .nil
  |cons a r ih =>
   intro vs h;cases h with
   |cons h1 h2=>obtain⟨t,e⟩:=h1;subst e;exact .cons a t (ih h2)
 refine kat_lt e hd e2 hd2 ?_;let i1:=ia rv;let i2:=ia rv2;exact Zed i1 i2 (by rw[<-i1.length,<-i2.length];simp) h
end
section
abbrev PD(D:Addr)(e1:Nat):Addr×Obj:=(D,Hs "list" #[] e1)
abbrev PKs(kS:Addr)(e:Nat)(L:List KIt):Addr×Obj:=(kS,Hs "list" (Yg L).toArray e)
theorem Vals.perm_get{L:List KIt}(rv:Vals (L.map (·.1)) its){p:List Nat}(hp:∀i∈p,i<L.length):Vals (p.map λi=>(L.getD i (.non,0,[])).1) (p.map λi=>its.getD i Value.none):=by
 let e:=rv.length;simp only[Jb]at e
 induction p with
 |nil=>exact .nil
 |cons i r ih =>
  let hi:=hp i Jn;let hi2:i<its.length:=by lia
  let⟨u,hu,r1⟩:=Vals.get rv (i:=i) (x:=L[i].1) (by rw[Jv,Ja hi];rfl);refine .cons ?_ (ih λj hj=>hp j (Jh _ hj));show RelV (L.getD i (.non,0,[])).1 (its.getD i Value.none);rw[Gj,Gj,hu,Ja hi];exact r1
theorem Zap{D kS:Addr}{e e1:Nat}{L L':List KIt}{st:SortSt}{out:List Value}{P:Jf2->Ca->Prop}(I:Inv X ((pq++[PD D e1])++[PKs kS e L]) σ H s)(h64:L.length<64)(fD:FpOk X pq H D)(fK:FpOk X (pq++[PD D e1]) H kS)(hout:(arrOf st).map (·.2)=out.toArray)(hf:failedOf st=none)(rv:Vals (L'.map (·.1)) out)(hl:L'.length=L.length)(h:∀s',Inv X pq σ (upd H D (.lst (L'.map (·.1)))) s'->P (.done (.ret .none)) s'):Cc (Cd X.prog X.w) A (ksk_tail D false e1 (.ref kS) st) P E s:=by
 let pk:=I.pin (PKs kS e L) (Jl _ (Jl _ (Jm.mpr rfl)));let s1:=Er s.heap kS (Cy λ_=>(#[]:Array Value));let I1:=(I.unpinned (pl:=[PKs kS e L])).turn1 fK s1;let pd:=I1.pin (PD D e1) (Jl _ (Jl _ (Jm.mpr rfl)));let s2:=Er (s.heap.update kS (Cy λ_=>(#[]:Array Value))) D (Cy λ_=>out.toArray);obtain⟨c2,hc2⟩:∃c2,((s.heap.update kS (Cy λ_=>(#[]:Array Value))).update D (Cy λ_=>out.toArray)).get? D=some (Hs "list" out.toArray c2):=⟨_,Jc5 pd.1 λ_=>out.toArray⟩;let lo:out.length=L.length:=by have:=rv.length;simp only[Jb]at this;lia
 let hz:L'.length<=sizeLine:=by rw[C2];lia
 unfold ksk_tail
 try dsimp only
 rw[hout];refine Fk (Jb2 pk.1 rfl ?_ (by simp only[Jk,Yg,Jb,C2];lia) (Gf _));refine Fk (Jb3 ?_);refine Fk (seqEpoch_at pd.1 rfl ?_);refine Fk (Jb2 pd.1 rfl ?_ (Gf _) (by simp only[Jk,C2,G1,if_false];lia));rw[hf];simp only[bne_self_eq_false,G1,if_false];refine Fl (h _ ?_);let I2:=(I1.unpinned (pl:=[PD D e1])).turn1 fD s2;exact I2.track (its:=out) (n:=c2) hc2 fD rv (by rw[Jb];exact hz)
theorem Zki{D kS:Addr}{e e1:Nat}{L:List KIt}{P:Jf2->Ca->Prop}(I:Inv X ((pq++[PD D e1])++[PKs kS e L]) σ H s)(h64:L.length<64)(fD:FpOk X pq H D)(fK:FpOk X (pq++[PD D e1]) H kS)(hk:∀q∈L,SqT X.K H q.2.1 (q.2.2.map V.int)/\q.2.2≠[])(nd:(L.map (·.2.2)).Nodup)(rv:Vals (L.map (·.1)) its)(h:∀(s':Ca)(L':List KIt),L'.Perm L->L'.Pairwise (λa b=>HT.lexLt a.2.2 b.2.2=true)->Inv X pq σ (upd H D (.lst (L'.map (·.1)))) s'->P (.done (.ret .none)) s') :
  Cc (Cd X.prog X.w) A (ksk_end D false its.toArray e1 (.ref kS) (Yg L).toArray) P E s:=by
 let el:its.length=L.length:=by have:=rv.length;simp only[Jb]at this;lia
 let ek:(Yg L).length=its.length:=by rw[el];simp[Yg]
 unfold ksk_end
 try dsimp only
 simp only[G1,if_false]
 by_cases h2:its.toArray.size<2
 .rw[Fs h2];refine Fk (Fl ?_);rw[Fs h2];let h2':its.length<2:=by simpa using h2
  refine Fk (m:=(pure ⟨⟩:StateT SortSt Sem Unit).run _) (Fl ?_);refine Zap (L':=L) (out:=its) I h64 fD fK ?_ rfl rv rfl λs'=>h s' L (List.Perm.refl _) ?_
  .show(((Yg L).toArray.zip its.toArray).map (·.2))=its.toArray
   apply Array.toList_inj.mp
   rw[Array.toList_map,ksk_zip];simp only[Jfk (by lia:its.length<=(Yg L).length)]
  .match L,el with
   |[],_=>exact .nil
   |[q],_=>exact List.pairwise_singleton _ _
   |_::_::_,el=>simp only[Jx]at el;lia
 .rw[Fp h2,Fp h2];let h2':2<=its.length:=by simpa using h2
  refine Fk (Zla (I.unpinned (pl:=[PKs kS e L])) hk () ?_);refine Fk (Fx (kat_run (vs:=its) (ks:=Yg L) (G:=λp s'=>s'=s/\GoodP L.length p/\SrtR (Wl (L.map (·.2.2))) p L.length) (Q:=λst' s'=>∃p:Array Nat,s'=s/\GoodP L.length p/\SrtR (Wl (L.map (·.2.2))) p L.length/\arrOf st'=p.map (kas_item ((Yg L).toArray.zip its.toArray))/\failedOf st'=none) ek h2' ()
   (λp st' s' a1 a2 a3 a4=>⟨p,a4.1,a4.2.1,a4.2.2,a2,a3⟩)
   (by
    rw[el];exact Zqv (Zot (I.unpinned (pl:=[PKs kS e L])) hk nd) (λi j hi hj z=>Zd3 nd (by simpa using hi) (by simpa using hj) z) () (G:=λp s'=>s'=s/\GoodP L.length p/\SrtR (Wl (L.map (·.2.2))) p L.length) λp g hs=>⟨rfl,g,hs⟩)) ?_ λ_ _ x=>x)
  rintro⟨⟨⟩,st'⟩ s' ⟨p,rfl,g,hs,har,hf⟩;let hp:∀i∈p.toList,i<L.length:=λi hi=>by
   let:=(Bu.mp g.perm).mem_iff.mp hi;simpa using this
  let pl:p.toList.Perm (Ef L.length):=by have:=Bu.mp g.perm;simpa using this
  let hmap:∀(F:KIt->V),(p.toList.map λi=>F (L.getD i (.non,0,[])))=(p.toList.map λi=>L.getD i (.non,0,[])).map F:=λF=>by rw[Gm];rfl
  let rangeL:(Ef L.length).map (λi=>L.getD i (.non,0,[]))=L:=by
   apply List.ext_getElem
   .simp
   .intro i h1 h2;simp[Gj,h2]
  refine Zap (L':=p.toList.map λi=>L.getD i (.non,0,[])) (out:=p.toList.map λi=>its.getD i Value.none) I h64 fD fK (kat_snds ek har) hf (by rw[<-hmap (·.1)];exact Vals.perm_get rv hp) (by rw[Jb,Bq,g.size]) λs'=>h s' _ ?_ ?_
  .let:=pl.map λi=>L.getD i (.non,0,[]);rwa [rangeL]at this
  .rw[Bh];intro i j hi hj hij;simp only[Jb,Bq,g.size]at hi hj;let gi:=g.lt i hi;let gj:=g.lt j hj;let hle:=hs i j (Be hij) hj;let hne:=g.ne hi hj (J9 hij);unfold Rk at hle;let hlt:Wl (L.map (·.2.2)) (p.getD i 0)<Wl (L.map (·.2.2)) (p.getD j 0):=by
    rcases Int.lt_or_eq_of_le hle with z|z
    .exact z
    .exact absurd (Zd3 nd (by simpa using gi) (by simpa using gj) z) hne
   let hd:=Sw nd (i:=p.getD i 0) (j:=p.getD j 0) (by simpa using gi) (by simpa using gj);rw[Ft hlt,W6 gi,W6 gj]at hd;let ei:p.getD i 0=p[i]'(by rw[g.size];exact hi):=by simp[Jdc,g.size,hi]
   let ej:p.getD j 0=p[j]'(by rw[g.size];exact hj):=by simp[Jdc,g.size,hj]
   simp only[G9,Array.getElem_toList,Gj];let gi':=gi;let gj':=gj;rw[ei]at gi';rw[ej]at gj';rw[Ja gi',Ja gj'];simp only[ei,ej]at hd;exact hd.symm
end
section
theorem Zgq{D kS f:Addr}{e1:Nat}{L:List KIt}{P:Jf2->Ca->Prop}(I:Inv X ((pq++[PD D e1])++[PKs kS 0 []]) σ H s)(h64:L.length<64)(fD:FpOk X pq H D)(fK:FpOk X (pq++[PD D e1]) H kS)(hk:∀q∈L,SqT X.K H q.2.1 (q.2.2.map V.int)/\q.2.2≠[])(nd:(L.map (·.2.2)).Nodup)(rv:Vals (L.map (·.1)) its)(hcall:∀(pins':List (Addr×Obj))(s':Ca)(q:KIt)(u:Value),(∀p∈pq,p∈pins')->Inv X pins' σ H s'->q∈L->RelV q.1 u->Cc (Cd X.prog X.w) A (call (.ref f) [u]) (EP X pins' σ λv H'=>v=.ref q.2.1/\H'=H) (λ_ _=>False) s')(h:∀(s':Ca)(L':List KIt),L'.Perm L->L'.Pairwise (λa b=>HT.lexLt a.2.2 b.2.2=true)->Inv X pq σ (upd H D (.lst (L'.map (·.1)))) s'->P (.done (.ret .none)) s') :
  Cc (Cd X.prog X.w) A (ksk_rest D (.ref f) false its.toArray e1 (.ref kS)) P E s:=by
 let el:its.length=L.length:=by have:=rv.length;simp only[Jb]at this;lia
 unfold ksk_rest;refine Fk (Jdd ?_)
 first
  |rw[List.forIn_toArray]
  |(rw[<-Jed];simp only[List.toList_toArray])
  |rw[<-Jed]
 refine Fk (ksk_fold (λn s'=>∃e,Inv X ((pq++[PD D e1])++[PKs kS e (L.take n)]) σ H s') its 0 s ⟨0,by simpa using I⟩ (λj x s' hx⟨e,J⟩=>?_) λs'⟨e,J⟩=>?_)
 .simp only[Jfa]at J⊢;let hj:j<its.length:=(Jf.mp hx).1;let hj':j<L.length:=by lia
  let⟨u,hu,r1⟩:=Vals.get rv (i:=j) (x:=L[j].1) (by rw[Jv,Ja hj'];rfl);rw[hx]at hu;cases hu;refine Fk (Le (Fx (hcall _ s' L[j] x (λp hp=>Gz _ (Gz _ hp)) J (Jr hj') r1) (λk s'' hkk=>?_) λ_ _ hF=>hF.elim));let⟨v,H',J',rk,ev,eH⟩:=hkk;subst ev;subst eH;obtain rfl:k=Cb L[j].2.1:=rk;let pk:=J'.pin (PKs kS e (L.take j)) (Jl _ (Jl _ (Jm.mpr rfl)));let s1:=Er s''.heap kS (Cy (·.push (Cb L[j].2.1)));let ea:(Yg (L.take j)).toArray.push (Cb L[j].2.1)=(Yg (L.take (j+1))).toArray:=by
   let e2:Yg (L.take (j+1))=Yg (L.take j)++[Cb L[j].2.1]:=by
    unfold Yg;rw[Jt hj',Jg];rfl
   rw[e2,Mu]
  obtain⟨c2,hc2⟩:∃c2,(s''.heap.update kS (Cy (·.push (Cb L[j].2.1)))).get? kS=some (Hs "list" (Yg (L.take (j+1))).toArray c2):=⟨_,by rw[<-ea];exact Jc5 pk.1 (·.push (Cb L[j].2.1))⟩;let hsz:(Yg (L.take j)).toArray.size<64:=by simp only[Jk,Yg,Jb,Ji];lia
  try dsimp only
  refine Fk (Jb2 pk.1 rfl ?_ (by rw[C2];show(Yg (L.take j)).toArray.size<=_;lia) (J0 (G8 (Array.size_push ..)) (by rw[C2];show(Yg (L.take j)).toArray.size+1<=_;lia)));refine Fl ⟨rfl,c2,?_⟩;let J1:=(J'.unpinned (pl:=[PKs kS e (L.take j)])).turn1 fK s1;exact J1.pin1 fK hc2 (by intro v;simp)
 .simp only[Jfa]at J;rw[el,Gb]at J;let pk:=J.pin (PKs kS e L) (Jl _ (Jl _ (Jm.mpr rfl)))
  try dsimp only
  refine Fk (listItems_at pk.1 rfl ?_);exact Zki J h64 fD fK hk nd rv h
theorem Znh{f:Addr}{L:List KIt}(I:Inv X pq σ H s)(hl:SqL X.K H l (L.map (·.1)))(h64:L.length<64)(hk:∀q∈L,SqT X.K H q.2.1 (q.2.2.map V.int)/\q.2.2≠[])(nd:(L.map (·.2.2)).Nodup)(hcall:∀(pins':List (Addr×Obj))(s':Ca)(q:KIt)(u:Value),(∀p∈pq,p∈pins')->Inv X pins' σ H s'->q∈L->RelV q.1 u->Cc (Cd X.prog X.w) X.A.in1.in1 (call (.ref f) [u]) (EP X pins' σ λv H'=>v=.ref q.2.1/\H'=H) (λ_ _=>False) s')(h:∀(D:Addr)(L':List KIt),H D=none->L'.Perm L->L'.Pairwise (λa b=>HT.lexLt a.2.2 b.2.2=true)->Q (.ref D) (upd H D (.lst (L'.map (·.1))))) :
  Cc (Cd X.prog X.w) X.A (call (.builtin "sorted") [.ref l] [(Cj "key",.ref f)]) (EP X pq σ Q) E s:=by
 let⟨its,rv,pl,_⟩:=I.list hl;let el:its.length=L.length:=by have:=rv.length;simp only[Jb]at this;lia
 refine call_function_entry_kw kind_sorted plain_sorted entry_sorted (ksk_s1 _ _) ?_;unfold Builtin.«sorted»;refine Fk (m:=checkCount "sorted" 1 1 _) (Fl ?_);refine Fk (collect_list pl.isList ?_ (by rw[C2];lia));refine Fk (Jb4 ?_ (by rw[C2];lia));let hsz:((s.heap.push (Hs "list" #[] 0)).update s.heap.objs.size (Cy (·++its.toArray))).objs.size=s.heap.objs.size+1:=by
  rw[Heap.size_update,Jha]
 let hoL:(((s.heap.push (Hs "list" #[] 0)).update s.heap.objs.size (Cy (·++its.toArray))).push (Hs "list" its.toArray 0)).get? (s.heap.objs.size+1)=some (Hs "list" its.toArray 0):=by
  rw[<-hsz];exact Fn _ rfl
 let keep:∀b o,s.heap.get? b=some o->(((s.heap.push (Hs "list" #[] 0)).update s.heap.objs.size (Cy (·++its.toArray))).push (Hs "list" its.toArray 0)).get? b=some o:=λb o q=>by
  let hlt:b<s.heap.objs.size:=Fo q;rw[Jew _ _ _ (by rw[hsz];exact J9 (Kx hlt)),Heap.get?_update_ne _ _ _ _ (J9 hlt),Jew _ _ _ (J9 hlt)];exact q
 let fD:FpOk X pq H (s.heap.objs.size+1):=I.fpOk (Bg _) (I.hok.fresh (Bg _));let I1:Inv X pq σ H {s with heap:=((s.heap.push (Hs "list" #[] 0)).update s.heap.objs.size (Cy (·++its.toArray))).push (Hs "list" its.toArray 0)}:=I.kept (t':=s.toks) keep;show Cc _ _ _ _ _ {s with heap:=((s.heap.push (Hs "list" #[] 0)).update s.heap.objs.size (Cy (·++its.toArray))).push (Hs "list" its.toArray 0)};rw[hsz];generalize hD:s.heap.objs.size+1=D at *
 generalize hh:((s.heap.push (Hs "list" #[] 0)).update s.heap.objs.size (Cy (·++its.toArray))).push (Hs "list" its.toArray 0)=hp at *
 refine Fk (Cw (wpAny_call_entry_kw slot_list_sort ⟨_,hoL,rfl⟩ Jf3 ?body (ksk_l1 _ _)))
 case body =>
  show Cc (Cd X.prog X.w) X.A.in1.in1 (Builtin.«list.sort» ⟨[.ref D],[(Cj "key",.ref f)]⟩) _ _ _;rw[ksk_t1];let s1:=Er hp D (Cy λ_=>(#[]:Array Value));obtain⟨e1,ho1⟩:∃e1,(hp.update D (Cy λ_=>(#[]:Array Value))).get? D=some (Hs "list" #[] e1):=⟨_,Jc5 hoL λ_=>#[]⟩;let I2:=(I1.turn1 fD s1).pin1 fD ho1 (by intro v;simp);let I3:Inv X (pq++[PD D e1]) σ H {s with heap:=((hp.update D (Cy λ_=>(#[]:Array Value))).push (Hs "tuple" its.toArray 0)).push (Hs "list" #[] 0)} :=
   I2.kept (t':=s.toks) λb o e=>Fm _ (Fm _ e)
  let hKz:(hp.update D (Cy λ_=>(#[]:Array Value))).objs.size<=((hp.update D (Cy λ_=>(#[]:Array Value))).push (Hs "tuple" its.toArray 0)).objs.size:=by rw[Jha];exact Bg _
  let fK:FpOk X (pq++[PD D e1]) H ((hp.update D (Cy λ_=>(#[]:Array Value))).push (Hs "tuple" its.toArray 0)).objs.size:=I2.fpOk hKz (I2.hok.fresh hKz);unfold ksk_tree;refine Fk (listItems_at hoL rfl ?_);refine Fk (Jb2 hoL rfl ?_ (by rw[Jk,C2];lia) (Gf _));refine Fk (seqEpoch_at ho1 rfl ?_);refine Fk (wpAny_newTuple ?_ (by show its.length<=_;rw[C2];lia));refine Fk (Jb4 ?_ (Gf _));refine Cw ?_;refine Zgq (L:=L) (I3.pin1 fK (Fn _ rfl) (by intro v;simp)) h64 fD fK hk nd rv hcall λs' L' p w I'=>?_;exists ·,Fl ⟨_,rfl,.ref D,_,I',rfl,h D L' fD.1 p w⟩
end
def codeφ(c:Addr)(q:Str):HO:=.ext λh=>h.CodeRec (.ref c) q
def V2(P:Addr)(pos:Pos)(q:Str)(H:Hp):Prop :=
 ∃ps,H P=some (.tbl ps)/\TriplesOk ps.toList/\(Jf4 pos ps.toList=none\/∃c,Jf4 pos ps.toList=some (.ref c)/\H c=some (codeφ c q))
def Qp(P:Addr)(H H':Hp):Prop:=∀b o,b≠P->H b=some o->H' b=some o
def Qp.refl(P:Addr)(H:Hp):Qp P H H:=λ_ _ _ h=>h
def V2.same{P:Addr}{q:Str}(t:V2 P pos q H)(s:Same H H'):V2 P pos q H':=by
 let⟨ps,a,b,c⟩:=t;exists ps,s _ _ a,b,?_;rcases c with c|⟨c',d,e⟩
 .exact .inl c
 .exact .inr ⟨c',d,s _ _ e⟩
def Bm(mg:Str->Option Value)(h:Heap):Prop:=∃bm ob,mg "__builtins__"=some (.ref bm)/\bm≠Jc9/\h.get? bm=some ob/\ob.cls=.type "module"/\ob.dict=some Jc9/\ob.data=.plain
abbrev Tq(q:Str)(params:Arguments)(body:Expr)(scope:Scope)(pm cv ctv:Value):Obj :=
 {cls:=.type "function",data:=.func (kla_fn "<lambda>" q params body scope [] pm cv ctv)}
section
def Zll{c:Addr}{q:Str}(x:h.CodeRec (.ref c) q){w:Ct}:Yt P w H h c (codeφ c q) :=
 ⟨x,let⟨c',o,_,_,e,ho,_⟩:=x;⟨o,by cases e;exact ho⟩,λ_ _ a b=>a.at λo e=>b o e⟩
def Zk8{params:Arguments}{body:Expr}{scope:Scope}{c P:Addr}{R:Value->Ca->Prop}(I:Inv X pq σ H s)(hcode:X.env.code=.ref c)(C:CodeHd X.base c P)(B:Bm X.mg X.base)(T:V2 P pos (X.env.qual++"<lambda>") H)(hcl:Jg9 scope X.env=pure [])(hdef:defaultsOf params X.env=([],[]))(h:∀(f c':Addr)(pm ctv:Value)(H2:Hp)(s2:Ca),Qp P H H2->V2 P pos (X.env.qual++"<lambda>") H2->H2 c'=some (codeφ c' (X.env.qual++"<lambda>")) ->
   Inv X (pq++[(f,Tq (X.env.qual++"<lambda>") params body scope pm (.ref c') ctv)]) σ H2 s2->R (.ref f) s2) :
  Cc (Cd X.prog X.w) X.A (eval (.Lambda params body scope pos) X.env) R E s:=by
 let⟨ps,hP,ht,hc⟩:=T;let oP:s.heap.get? P=some (tabObj ps):=I.hok P _ hP;let⟨bm,ob,b1,b2,b3,b4,b5,b6⟩:=B;let gl:s.heap.Ns mainGlobals X.mg:=I.mod.glob.keeps I.bk;let hgP:mainGlobals≠P:=λz=>by
  let⟨o,es,ep,e,hd,_⟩:=gl;rw[z,oP]at e;cases e;cases hd
 let hbP:bm≠P:=λz=>by
  let e:=I.bk _ _ b3;rw[z,oP]at e;cases e;cases b4
 let hbG:bm≠mainGlobals:=λz=>by
  let⟨o,es,ep,e,hd,_⟩:=gl;let e3:=I.bk _ _ b3;rw[z,e]at e3;cases e3;rw[hd]at b6;cases b6
 let BA:s.heap.BuiltinsAt X.mg P:=⟨bm,ob,b1,b2,hbG,hbP,I.bk _ _ b3,b4,b5,b6⟩;refine kla_eval hdef ?_;rcases hc with hc|⟨c',hc,hx⟩
 .refine kla_makeFunction (mg:=X.mg) hcl I.ok.glob gl hcode (C.keeps I.bk) oP ht hc hgP BA λc' ctv h' tk hx hge hlt hrec htb=>?_;let hn:H c'=none:=I.hok.fresh hge;let cP:c'≠P:=λz=>by rw[z,hP]at hn;cases hn
  let cR:(h'.push (Tq (X.env.qual++"<lambda>") params body scope ((X.mg "__name__").getD .none) (.ref c') ctv)).CodeRec (.ref c') (X.env.qual++"<lambda>"):=hrec.at λo e=>Fm _ e;let keep:∀b o,b≠P->s.heap.get? b=some o->(h'.push (Tq (X.env.qual++"<lambda>") params body scope ((X.mg "__name__").getD .none) (.ref c') ctv)).get? b=some o:=λb o n e=>Fm _ (hx b o n e);let tb:=Fm (Tq (X.env.qual++"<lambda>") params body scope ((X.mg "__name__").getD .none) (.ref c') ctv) htb;let H2e:∀b o,b≠P->H b=some o->upd (upd H P (.tbl (ps++#[Et pos.line,Et pos.col,.ref c']))) c' (codeφ c' (X.env.qual++"<lambda>")) b=some o:=λb o n e=>by
   rw[Zl (Zr e hn),Zl n];exact e
  let hok:HOk X.prog X.w (upd (upd H P (.tbl (ps++#[Et pos.line,Et pos.col,.ref c']))) c' (codeφ c' (X.env.qual++"<lambda>"))) (h'.push (Tq (X.env.qual++"<lambda>") params body scope ((X.mg "__name__").getD .none) (.ref c') ctv)):=λb u e=>by
   by_cases hb:b=c'
   .subst hb;rw[Zg]at e;cases e;exact Zll cR
   .rw[Zl hb]at e
    by_cases hb2:b=P
    .subst hb2;rw[Zg]at e;cases e;exact tb
    .rw[Zl hb2]at e;refine(I.hok b u e).stay (λd v hd q=>keep d v ?_ q) (λd q=>H2e d _ (λz=>by rw[z,hP]at q;cases q) q) λd xs q=>H2e d _ (λz=>by rw[z,hP]at q;cases q) q;rcases hd with z|z
     .rw[z];exact hb2
     .intro w;rw[w,hP]at z;cases z
  let un:Un X.fs [] H (upd (upd H P (.tbl (ps++#[Et pos.line,Et pos.col,.ref c']))) c' (codeφ c' (X.env.qual++"<lambda>"))) s.heap (h'.push (Tq (X.env.qual++"<lambda>") params body scope ((X.mg "__name__").getD .none) (.ref c') ctv)):=by
   let nP:∀b,H b=none->b≠P:=λb n z=>by rw[z,hP]at n;cases n
   exists λb o e n _ _=>keep b o (nP b n) e,λb o e n _ _=>⟨o.slots,keep b o (nP b n) e⟩,λb o e n _=>?_,λb o e _=>?_,λb xs q=>H2e b _ (λz=>by rw[z,hP]at q;cases q) q,λb o u q=>H2e b _ (λz=>by rw[z,hP]at q;cases q) q,λb qs q=>?_
   .let:b≠c':=J9 (Jy (Fo e) hge);rw[Zl this,Zl (nP b n)];exact n
   .by_cases hb:b=P
    .exists _,hb ▸ tb
    .exists o,keep b o hb e
   .by_cases hb:b=P
    .subst hb;rw[hP]at q;cases q;exact⟨#[Et pos.line,Et pos.col,.ref c'],by rw[Zl cP.symm,Zg]⟩
    .exact⟨#[],by rw[H2e b _ hb q];simp⟩
  let I2:=I.un (t':=tk) un hok;let fz:s.heap.objs.size<=h'.objs.size:=J0 hge (Be hlt);let fn:upd (upd H P (.tbl (ps++#[Et pos.line,Et pos.col,.ref c']))) c' (codeφ c' (X.env.qual++"<lambda>")) h'.objs.size=none:=by
   rw[Zl (Fe hlt),Zl (λz=>absurd (Fo oP) (by rw[<-z];exact Fj.mpr fz))];exact I.hok.fresh fz
  let fF:=I.fpOk (H':=upd (upd H P (.tbl (ps++#[Et pos.line,Et pos.col,.ref c']))) c' (codeφ c' (X.env.qual++"<lambda>"))) fz fn;refine h h'.objs.size c' _ ctv _ _ H2e ⟨_,by rw[Zl cP.symm,Zg],?_,.inr ⟨c',?_,Zg⟩⟩ Zg (I2.pin1 fF (Fn _ rfl) (by intro v;simp))
  .rw[Jdr];exact TriplesOk_snoc _ _ _ _ ht
  .rw[Jdr];exact codeAmong_snoc _ ht hc
 .refine kla_makeFunctionHit (mg:=X.mg) hcl I.ok.glob gl hcode (C.keeps I.bk) oP ht hc BA λctv h' tk hk hsz=>?_;let I2:Inv X pq σ H {s with heap:=h'.push (Tq (X.env.qual++"<lambda>") params body scope ((X.mg "__name__").getD .none) (.ref c') ctv),toks:=tk}:=I.kept (t':=tk) λb o e=>Fm _ (hk b o e);let fF:=I.fpOk (H':=H) hsz (I.hok.fresh hsz);exact h h'.objs.size c' _ ctv H _ (.refl _ _) ⟨ps,hP,ht,.inr ⟨c',hc,hx⟩⟩ hx (I2.pin1 fF (Fn _ rfl) (by intro v;simp))
def Zor{Pg:Ep}{w:Ct}{K:Frag}{base:Heap}{outer:List Env}{f c':Addr}{q x:Str}{params:Arguments}{body:Expr}{scope:Scope}{ctv:Value}{u:Value}{t:TE}(e0:Env0 Pg w K mg base A outer s H)(hr:Room 1 A)(ho:s.heap.get? f=some (Tq q params body scope pm (.ref c') ctv))(hcd:s.heap.CodeRec (.ref c') q)(S:FnScope [x] [x] scope)(hbind:Jd7 (kla_fn "<lambda>" q params body scope [] pm (.ref c') ctv) ⟨[u],[]⟩=pure [(x,u)])(rv:RelV v u)(hb:PE (cxOf CX0 Pg w K mg base [x] q scope f (.ref c') A outer s H E0) body t)(ht:t [some v] H Q) :
  Hb (Cd Pg w) A (.call (.ref f) ⟨[u],[]⟩) (CR CX0 outer Pg w H s Q E0) s:=by
 let KX:K.In s.heap:=e0.mod.kin.keeps λb o e=>(e0.bs b o e).1;let lim:s.heap.NoLimit:=e0.mod.nolimit.keeps λb o e=>(e0.bs b o e).1;refine kla_callFunE hr.depth ho rfl S.co S.gen rfl hcd ?_;rw[hbind];refine Fl ?_;refine Ly S.kind (λy hy=>?_) λenv he s1 x1=>?_
 .let ey:y=(x,u):=Jm.mp hy;subst ey;rcases S.par x (Jm.mpr rfl)with z|z
  .exact .inl z
  .exact .inr ⟨z,PySem.W.cellsFrom_some _ _ _ (.inl z)⟩
 .subst he;exists lim.keeps x1.toInCall.keep,kla_codeExpr ?_;let I:Inv (cxOf CX0 Pg w K mg base [x] q scope f (.ref c') A outer s H E0) [] (Uz [x] [v]) H s1:=Zbb (us:=[u]) S hr.hd e0 rfl (.cons rv .nil) x1;refine Fx (hb [] s1 (Uz [x] [v]) H Q I ht) (λr s' hs=>?_) λe s' hs=>hs;let⟨v',H',J,rv',q'⟩:=hs;exists v',H',J.os,J.bare,J.base,J.hok,rv',q'
end
def Qp.sqL{K:Frag}{P:Addr}{ps:Array Value}(e:Qp P H H')(hP:H P=some (.tbl ps)){a:Addr}(h:SqL K H a xs):SqL K H' a xs:=by
 rcases h with(h|⟨o,h⟩)|h
 .exact .inl (.inl (e _ _ (λz=>by rw[z,hP]at h;cases h) h))
 .exact .inl (.inr ⟨o,e _ _ (λz=>by rw[z,hP]at h;cases h) h⟩)
 .exact .inr h
def Qp.sqT{K:Frag}{P:Addr}{ps:Array Value}(e:Qp P H H')(hP:H P=some (.tbl ps)){a:Addr}(h:SqT K H a xs):SqT K H' a xs:=by
 rcases h with(h|⟨o,h⟩)|h
 .exact .inl (.inl (e _ _ (λz=>by rw[z,hP]at h;cases h) h))
 .exact .inl (.inr ⟨o,e _ _ (λz=>by rw[z,hP]at h;cases h) h⟩)
 .exact .inr h
def Zqn(K:Frag)(P:Addr)(lpos:Pos)(qual:Str)(tb:TE)(ta:TA):TE:=λσ H Q=>ta σ H λvs H1=>∃(l:Addr)(L:List KIt),vs=[.ref l]/\SqL K H1 l (L.map (·.1))/\L.length<64 /\
 (∀q∈L,SqT K H1 q.2.1 (q.2.2.map V.int)/\q.2.2≠[])/\(L.map (·.2.2)).Nodup/\V2 P lpos qual H1/\(∀H2 q,Qp P H1 H2->q∈L->tb [some q.1] H2 λv H'=>v=.ref q.2.1/\H'=H2) /\
 ∀(H2:Hp)(D:Addr)(L':List KIt),Qp P H1 H2->V2 P lpos qual H2->H2 D=none->L'.Perm L->L'.Pairwise (λa b=>HT.lexLt a.2.2 b.2.2=true)->Q (.ref D) (upd H2 D (.lst (L'.map (·.1))))
section
theorem Zky{e:Expr}{ta:TA}{c P:Addr}{x:Str}{params:Arguments}{body:Expr}{scope:Scope}{p lpos kpos:Pos}(hr:Room 3 X.A)(hg:Gl X "sorted")(hm:X.mg "sorted"=none)(ha:PA X [e] ta)(hcode:X.env.code=.ref c)(C:CodeHd X.base c P)(B:Bm X.mg X.base)(hcl:Jg9 scope X.env=pure [])(hdef:defaultsOf params X.env=([],[]))(S:FnScope [x] [x] scope)(hbind:∀(pm cv ctv u:Value),Jd7 (kla_fn "<lambda>" (X.env.qual++"<lambda>") params body scope [] pm cv ctv) ⟨[u],[]⟩=pure [(x,u)])(hb:∀(f c':Addr)(A:L6)(outer:List Env)(s:Ca)(H:Hp),PE (cxOf CX0 X.prog X.w X.K X.mg X.base [x] (X.env.qual++"<lambda>") scope f (.ref c') A outer s H E0) body tb)(he:Ch [e] X.env=[(false,eval e X.env)]:=by rfl) :
  PE X (.Call (.Name "sorted" p) [e] [⟨some "key",.Lambda params body scope lpos,kpos⟩] pos) (Zqn X.K P lpos (X.env.qual++"<lambda>") tb ta):=by
 intro pq s σ H Q I h;refine Ec (Tp I hg hm Ki ?_);refine callWith_kw (thn (ha pos pq s σ H _ I h) λus s1 hz=>?_) (by rw[he];rfl) (by rw[he];rfl);let⟨vs,H1,I1,r1,l,L,ev,hl,h64,hk,nd,T,hbo,q1⟩:=hz;subst ev;let⟨u,rfl,ru⟩:=Vals.one r1;obtain rfl:u=Cb l:=ru;let⟨ps,hP,_,_⟩:=id T;show Cc _ _ (evalAll [do let v <-eval (.Lambda params body scope lpos) X.env;Jfu pos;pure v]) _ _ s1;refine wpAny_evalAll_cons (Fk (Zk8 I1 hcode C B T hcl hdef λf c' pm ctv H2 s2 sT T2 hx I2=>Fk (Ha (Fl (wpAny_evalAll_nil ?_)))));show Cc _ _ (call (.builtin "sorted") [.ref l] [(Cj "key",.ref f)]) _ _ s2
 refine Fx (Znh (Q:=Q) (E:=X.xe) I2 (sT.sqL hP hl) h64 (λq hq=>⟨sT.sqT hP (hk q hq).1,(hk q hq).2⟩) nd (λpins' s' q u hp I' hq rv=>?_) λD L' n p w=>q1 H2 D L' sT T2 n p w) (λv s'⟨v',H',J,rv,qq⟩=>⟨v',H',J.unpinned,rv,qq⟩) λ_ _ z=>z;let hpin:=I'.pin (f,Tq (X.env.qual++"<lambda>") params body scope pm (.ref c') ctv) (Jl _ (hp _ (Jl _ (Jm.mpr rfl))));refine Ke (Kf (Zor (I'.env0.in1.in1) hr.in1.in1 hpin.1 (I'.hok c' _ hx).1 S (hbind pm (.ref c') ctv u) rv (hb f c' _ _ _ _) (hbo H2 q sT hq)) λr s'' hq'=>?_);cases r with
 |error e=>exact Cq hq'
 |ok fl =>
  cases fl with
  |ret u=>exact I'.after hq'
  |next=>exact Cq hq'
  |brk=>exact Cq hq'
  |cont=>exact Cq hq'
end
end L2
namespace L2
open PySem PySem.Spec PyProof.Rows
def Zj2(P:Addr)(H:Hp):Prop:=H P=some (.tbl #[])/\∀b,b≠P->H b=none\/∃o xs,H b=some (.frz o (.lst xs))
def Zj2.tab{P:Addr}(o:Zj2 P H)(pos:Pos)(q:Str):V2 P pos q H:=⟨#[],o.1,trivial,.inl rfl⟩
theorem Zh7{w:Ct}{mb:Str->Option Value}{k:Nat}{fa a c:Addr}{x:Str}{s₁:Ca}{vs:List Value}(KX:K.In s₁.heap)(hns:s₁.heap.Ns mainGlobals mg)(hb:s₁.heap.Ns Jc9 mb)(hbb:∀x:Str,x≠"__name__"->mb x=Kd x)(hlim:s₁.heap.NoLimit)(hbm:Bm mg s₁.heap)(hg:s₁.gens=#[])(ha:s₁.heap.get? a=some {cls:=.type "list",data:=.seq vs.toArray})(hi:Mi vs ns)(hl:ns.length<=sizeLine)(hr:Room k Jet)(hP:s₁.heap.get? Pt=some (Jin #[]))(hPK:K.lookup Pt=none)(hC:W.CodeHd s₁.heap c Pt)(F:∀base:Heap,K.In base->base.Ns mainGlobals mg->Bm mg base->FnOk P w K mg base CX k fa fd [x] sp)(hbind:∀(s:Ca)(u:Value),Jeq s fd ⟨[u],[]⟩ [(x,u)])(hsp:∀H:Hp,Zj2 Pt H->SqL K H a (ns.map V.int)->sp [.ref a] H (λv _=>v=.bl true) λ_ _ _=>False)(hCX:∀H e s',CX [] H s₁ (λ_ _ _=>False) e s'->False) :
  Hb (Cd P w) Jet (.call (.ref fa) ⟨[.ref a],[]⟩) (λr s'=>r=.ok (.ret (.bool true))/\OldK s₁.heap s'.heap/\s'.os=s₁.os/\Ja0 s'.gens) s₁:=by
 let rv:=Zai hi;let lenV:=hi.length;let aP:a≠Pt:=λz=>by rw[z,hP]at ha;cases ha
 let core:∀H:Hp,Zj2 Pt H->SqL K H a (ns.map V.int)->HOk P w H s₁.heap->(∀b,H b≠none->b=a\/b=Pt)->(∀b,H b≠none->K.lookup b=none) ->
   Hb (Cd P w) Jet (.call (.ref fa) ⟨[.ref a],[]⟩) (λr s'=>r=.ok (.ret (.bool true))/\OldK s₁.heap s'.heap/\s'.os=s₁.os/\Ja0 s'.gens) s₁:=by
  intro H hO hS hok hA hK;let base_of:∀{b:Addr}{o:Obj},s₁.heap.get? b=some o->H b=none->(hidT s₁.heap H).get? b=some o:=λe n=>Zlf e n;let noA:∀{b:Addr}{o:Obj},s₁.heap.get? b=some o->(∀its n,o.data≠.seq its n)->(∀ps,o.data≠.fields ps)->H b=none:=λ{b o}e d d2=>by
   cases q:H b with
   |none=>rfl
   |some u =>
    rcases hA b (by rw[q];simp)with e'|e'
    .subst e';rw[ha]at e;cases e;exact absurd rfl (d _ _)
    .subst e';rw[hP]at e;cases e;exact absurd rfl (d2 _)
  let nsK:∀{b:Addr}{m:Str->Option Value},s₁.heap.Ns b m->(hidT s₁.heap H).Ns b m:=λ{b m}⟨o,es,ep,e,d,r⟩=>⟨o,es,ep,base_of e (noA e (by rw[d];intro _ _ z;cases z) (by rw[d];intro _ z;cases z)),d,r⟩;let hKb:K.In (hidT s₁.heap H):=λb o e=>base_of (KX b o e) (by
   cases q:H b with
   |none=>rfl
   |some u=>rw[hK b (by rw[q];simp)]at e;cases e)
  let hBm:Bm mg (hidT s₁.heap H):=by
   let⟨bm,ob,b1,b2,b3,b4,b5,b6⟩:=hbm;exists bm,ob,b1,b2,base_of b3 (noA b3 (by rw[b6];intro _ _ z;cases z) (by rw[b6];intro _ z;cases z)),b4,b5,b6
  let hM:Mod K mg (hidT s₁.heap H):=⟨hKb,nsK hns,⟨mb,nsK hb,hbb⟩,let⟨mc,h1,h2⟩:=hlim;⟨mc,nsK h1,h2⟩⟩;let e0:Env0 P w K mg (hidT s₁.heap H) Jet [] s₁ H:=⟨rfl,hM,λb o e=>Zoc e,G8 (Zin _ _),trivial,λb hb=>absurd (show b∈([]:List Addr)from hb) (by simp),hok,.of_eq hg⟩;refine Kf ((F _ hKb (nsK hns) hBm).run Jet [] s₁ H ⟨[.ref a],[]⟩ [.ref a] [.ref a] _ _ hr e0 (hbind s₁ (.ref a)) (.cons rfl .nil) (hsp H hO hS)) λr s' h=>?_;cases r with
  |error e=>exact(hCX H e s' h).elim
  |ok fl =>
   cases fl with
   |next=>exact Cq h
   |brk=>exact Cq h
   |cont=>exact Cq h
   |ret u =>
    let⟨v,H',os,bare,un,hok',r',q⟩:=h;let q':v=.bl true:=q;subst q';obtain rfl:u=Jc8 true:=r';let kp:∀b o,b≠Pt->s₁.heap.get? b=some o->s'.heap.get? b=some o:=λb o nP e=>by
     cases q:H b with
     |none=>exact un.keep b o e q (by intro z;exact absurd (show b∈([]:List Addr)from z) (by simp)) (by simp)
     |some u =>
      rcases hO.2 b nP with z|⟨ob,xs,z⟩
      .rw[q]at z;cases z
      .let z2:=un.frzs b ob _ z;let⟨e1,_⟩:=hok b _ z;let⟨e2,_⟩:=hok' b _ z2;rw[e]at e1;cases e1;exact e2
    let⟨more,hm⟩:=un.tbls Pt #[] hO.1;let hPt:s'.heap.get? Pt=some {cls:=.none,data:=.fields (#[]++more)}:=hok' Pt _ hm;exists rfl,⟨λb o e=>?_,λb o e=>?_⟩,os,bare
    .by_cases hbP:b=Pt
     .subst hbP;rw[hP]at e;cases e;exact .inr (.inl ⟨(hC.tab hP).isCodeTable,rfl,#[],more,rfl,hPt⟩)
     .exact .inl (kp b o hbP e)
    .by_cases hbP:b=Pt
     .subst hbP;exists _,hPt
     .exists o,kp b o hbP e
 let okP:∀(H:Hp),Yt P w H s₁.heap Pt (.tbl #[]):=λH=>hP;cases hk:K.lookup a with
 |some o =>
  let e:=KX a o hk;rw[ha]at e;cases e;refine core (λb=>if b=Pt then some (.tbl #[])else none) ⟨Fs rfl,λb hb=>.inl (Fp hb)⟩ (.inr ⟨_,vs.toArray,_,hk,rfl,rfl,rfl,by rw[Jk,lenV];exact hl,by simpa using rv⟩) (λb u z=>?_) (λb z=>?_) λb z=>?_
  .by_cases hb:b=Pt
   .let z':=(Fs hb).symm.trans z;cases z';rw[hb];exact okP _
   .let z':=(Fp hb).symm.trans z;cases z'
  .by_cases hb:b=Pt
   .exact .inr hb
   .exact absurd (Fp hb) z
  .by_cases hb:b=Pt
   .rw[hb];exact hPK
   .exact absurd (Fp hb) z
 |none =>
  refine core (λb=>if b=Pt then some (.tbl #[])else if b=a then some (.frz {cls:=.type "list",data:=.seq vs.toArray} (.lst (ns.map V.int)))else none) ⟨Fs rfl,λb hb=>?_⟩
   (.inl (.inr ⟨{cls:=.type "list",data:=.seq vs.toArray},(Fp aP).trans (Fs rfl)⟩)) (λb u z=>?_) (λb z=>?_) λb z=>?_
  .by_cases hba:b=a
   .exact .inr ⟨_,_,(Fp hb).trans (Fs hba)⟩
   .exact .inl ((Fp hb).trans (Fp hba))
  .by_cases hb:b=Pt
   .let z':=(Fs hb).symm.trans z;cases z';rw[hb];exact okP _
   .let z1:=(Fp hb).symm.trans z
    by_cases hba:b=a
    .let z':=(Fs hba).symm.trans z1;cases z';subst hba;exists ha,by rw[Jb];exact hl,vs,_,rv,ha
    .let z':=(Fp hba).symm.trans z1;cases z'
  .by_cases hb:b=Pt
   .exact .inr hb
   .by_cases hba:b=a
    .exact .inl hba
    .exact absurd ((Fp hb).trans (Fp hba)) z
  .by_cases hb:b=Pt
   .rw[hb];exact hPK
   .by_cases hba:b=a
    .rw[hba];exact hk
    .exact absurd ((Fp hb).trans (Fp hba)) z
def Zj6{l:Jh0}{n k:Nat}{q:Ep}{loose:List Str}{XP:(Str->Option Value)->Heap->Prop}{YP:Ct->Heap->Prop}{d:DefRec}{K:Params->Cp}{CX:Ct->CXT}{sp:Ct->Sp}{x:Str}(hn:l.most=some n)(hn2:n<=sizeLine)(hdf:d.params.defaults=[])(hr:Room k Jet)(hY:∀(w:Ct)(h:Heap),YP w h->(K w.params).In h)(hYt:∀(w:Ct)(h:Heap),YP w h->h.get? Pt=some (Jin #[]))(hPK:∀w:Ct,(K w.params).lookup Pt=none)(F:∀(w:Ct)(mg:Str->Option Value)(fa:Addr)(h:Heap),(K w.params).In h->h.Ns mainGlobals mg->mg d.name=some (.ref fa) ->
   ∃fd:L8,(∃c,Jex (K w.params) c Pt=true)/\(∀(s:Ca)(u:Value),Jeq s fd ⟨[u],[]⟩ [(x,u)]) /\
    ∀base:Heap,(K w.params).In base->base.Ns mainGlobals mg->Bm mg base->FnOk l.prog w (K w.params) mg base (CX w) k fa fd [x] (sp w))(hsp:∀(w:Ct)(H:Hp)(a:Addr)(ns:List Int),ns.length<=n->Zj2 Pt H->SqL (K w.params) H a (ns.map V.int)->sp w [.ref a] H (λv _=>v=.bl true) λ_ _ _=>False)(hCX:∀(w:Ct)(H:Hp)(s:Ca)(e:Value)(s':Ca),CX w [] H s (λ_ _ _=>False) e s'->False) :
  W.WalkO q loose XP YP l.row.toRowW d [] (λf vs=>Jg8 f vs):=by
 refine Att.attach_call hn hdf λw s₀ s₁ mg mb fa o pm cd doc a vs ns G Y ho hd hcd hmg hobj hints hlen hg=>?_;let KX:=hY w _ Y;let⟨fd,⟨c,hC⟩,hb,hF⟩:=F w mg fa _ KX G.T.g hmg;exact Zh7 KX G.T.g G.T.b G.T.builtins G.T.nolimit G.T.bmain hg hobj hints (J0 hlen hn2) hr (hYt w _ Y) (hPK w) (Jho KX hC) hF hb (λH hO hS=>hsp w H a ns hlen hO hS) λH e s'=>hCX w H s₁ e s'
section
variable{w:Ct}{a:Addr}{o:Obj}{xs:Array Value}{k:Nat}
def Qy{Q:Option Value->Ca->Prop}(hx:s.heap.get? a=some o)(hc:o.cls=.type "list")(hdat:o.data=.seq xs k)(hd:o.dict=none)(hA:A.handled=none)(h:∀h' tk e,Jhp s.heap h' e "AttributeError"->Q none {s with heap:=h',toks:=tk}):Cc (Cd prog w) A (Jee (.ref a) "keys") Q E s:=by
 let⟨c,dct,dat,sl⟩:=o;simp only at hc hdat hd;subst hc hdat hd;let⟨hp,g,d,tk,os⟩:=s;let hT:∀tk',(⟨hp,g,d,tk',os⟩:Ca).TypeIs (.ref a) "list":=λ_=>⟨_,hx,rfl⟩;let f1:=Jef;let f3:=F.slot_list_getattribute.lookup;let f4:=F.slot_list_getattribute.bind (.ref a);let f5:=am_list_getattr_none;let hmiss:Jda (.type "list") "keys"=pure none:=by rw[Jf5,Jc6];kernel_rfl
 unfold Jee getAttrBy? Jf6
 repeat (any_goals (first|assumption|exact hT _|((with_reducible show Cc _ _ (call (Lf "list.__getattribute__") _ _) _ _ _);refine Kw F.slot_list_getattribute (hT _) am_entry_list_getattribute (F.args_list_getattribute_2 _ _) (meets_getattribute_miss_list a xs k sl "keys" _ hmiss (by decide +kernel)) ⟨hx,hA,λh' tk' e hx'=>?_⟩)|wp_step))
 let⟨t',u',he⟩:=hx'.there;let hTe:∀tk'',(⟨h',g,d,tk'',os⟩:Ca).TypeIs (.ref e) "AttributeError":=λ_=>⟨_,he,rfl⟩;show Cc _ _ (Ko _ _ _ _ _ _ _) _ _ _;unfold Ko
 repeat (any_goals (first|assumption|exact hTe _|wp_step))
 all_goals exact h _ _ _ hx'.of
def R7{Q:Option Value->Ca->Prop}(hx:s.heap.get? a=some o)(hc:o.cls=.type "tuple")(hdat:o.data=.seq xs k)(hd:o.dict=none)(hA:A.handled=none)(h:∀h' tk e,Jhp s.heap h' e "AttributeError"->Q none {s with heap:=h',toks:=tk}):Cc (Cd prog w) A (Jee (.ref a) "keys") Q E s:=by
 let⟨c,dct,dat,sl⟩:=o;simp only at hc hdat hd;subst hc hdat hd;let⟨hp,g,d,tk,os⟩:=s;let hT:∀tk',(⟨hp,g,d,tk',os⟩:Ca).TypeIs (.ref a) "tuple":=λ_=>⟨_,hx,rfl⟩;let f1:=Jef;let f3:=F.slot_tuple_getattribute.lookup;let f4:=F.slot_tuple_getattribute.bind (.ref a);let f5:=am_tuple_getattr_none;let hmiss:Jda (.type "tuple") "keys"=pure none:=by rw[Jf5,Jc6];kernel_rfl
 unfold Jee getAttrBy? Jf6
 repeat (any_goals (first|assumption|exact hT _|((with_reducible show Cc _ _ (call (Lf "tuple.__getattribute__") _ _) _ _ _);refine Kw F.slot_tuple_getattribute (hT _) am_entry_tuple_getattribute (F.args_tuple_getattribute_2 _ _) (meets_getattribute_miss_tuple a xs k sl "keys" _ hmiss (by decide +kernel)) ⟨hx,hA,λh' tk' e hx'=>?_⟩)|wp_step))
 let⟨t',u',he⟩:=hx'.there;let hTe:∀tk'',(⟨h',g,d,tk'',os⟩:Ca).TypeIs (.ref e) "AttributeError":=λ_=>⟨_,he,rfl⟩;show Cc _ _ (Ko _ _ _ _ _ _ _) _ _ _;unfold Ko
 repeat (any_goals (first|assumption|exact hTe _|wp_step))
 all_goals exact h _ _ _ hx'.of
end
end L2
namespace L2
open PySem PySem.Spec PyProof.Rows PySem.W
def Zbm:entryFor table "dict.update.loop"=some Builtin.«dict.update.loop»:=entryFor_of_tree (by kernel_rfl)
def Zaz:plainId "dict.update.loop"=true:=by decide +kernel
inductive DFill(H:Hp)(D:Addr):HO->List (V×V)->HO->Prop
 |nil {o:HO}:DFill H D o [] o
 |cons {o o' o'':HO} {k v:V} {r:List (V×V)} (h:DPut (upd H D o) D k v (upd H D o')) (t:DFill H D o' r o''):DFill H D o ((k,v)::r) o''
def Zj1(K:Cp)(H:Hp)(ys:List V)(zs:List (V×V)):Prop:=Paired (λy z=>∃t,y=.ref t/\SqT K H t [z.1,z.2]) ys zs
def SqT.upd'{a D:Addr}(h:SqT K H a xs)(n:H D=none):SqT K (upd H D o) a xs:=by
 rcases h with(h|⟨o,h⟩)|h
 .exact .inl (.inl (by rw[Zl (Zr h n)];exact h))
 .exact .inl (.inr ⟨o,by rw[Zl (Zr h n)];exact h⟩)
 .exact .inr h
section
def Q3(K:Cp)(H:Hp)(h:Heap)(p it:Addr)(ys:List V)(i:Nat):Prop:=(SqL K H p ys/\h.IsListIter it p i)\/(SqT K H p ys/\h.IsTupleIter it p i)
def Q3.at{p:Addr}{i:Nat}(x:Q3 K H h p it ys i)(k:∀o,h.get? it=some o->h'.get? it=some o)(hl:SqL K H p ys->SqL K H' p ys)(ht:SqT K H p ys->SqT K H' p ys):Q3 K H' h' p it ys i:=by
 rcases x with⟨a,b⟩|⟨a,b⟩
 .exact .inl ⟨hl a,b.at k⟩
 .exact .inr ⟨ht a,b.at k⟩
def Zdu{p:Addr}{i:Nat}{x:V}{Q:Option Value->Ca->Prop}(I:Inv X pq σ H s)(f:FpOk X pq H it)(src:Q3 X.K H s.heap p it ys i)(hx:ys[i]?=some x)(h:∀u s',RelV x u->Inv X pq σ H s'->Q3 X.K H s'.heap p it ys (i+1)->Q (some u) s'):Cc (Cd X.prog X.w) A (Jd0 (.ref it)) Q E s:=by
 let⟨f0,f1,f2,f3,f4,f5⟩:=f;rcases src with⟨hq,st⟩|⟨hq,st⟩
 .let⟨its,rv,p',hz⟩:=I.list hq;let⟨u,hu,ru⟩:=rv.get hx;exact Jcq st p'.isList (x:=u) (by simpa using hu) λh' st' sb=>h u _ ru (I.turned (t':=s.toks) (λb o hb e=>(sb.2 b hb).trans e) f0 f1 f3 f4 f5) (.inl ⟨hq,st'⟩)
 .let⟨its,rv,p',hz⟩:=I.tuple hq;let⟨u,hu,ru⟩:=rv.get hx;exact Ja1 st (show s.heap.IsTuple p its.toArray from p') (x:=u) (by simpa using hu) λh' st' sb=>h u _ ru (I.turned (t':=s.toks) (λb o hb e=>(sb.2 b hb).trans e) f0 f1 f3 f4 f5) (.inr ⟨hq,st'⟩)
theorem Zgh{p:Addr}{i:Nat}{Q:Option Value->Ca->Prop}(I:Inv X pq σ H s)(f:FpOk X pq H it)(hA:A.handled=none)(src:Q3 X.K H s.heap p it ys i)(hx:ys.length<=i)(h:∀s',Inv X pq σ H s'->Q none s'):Cc (Cd X.prog X.w) A (Jd0 (.ref it)) Q E s:=by
 let⟨f0,f1,f2,f3,f4,f5⟩:=f;rcases src with⟨hq,st⟩|⟨hq,st⟩
 .let⟨its,rv,p',hz⟩:=I.list hq;let hl:=rv.length;exact Jc1 hA st p'.isList (by simp;lia) λh' eb=>h _ (I.turned (t':=s.toks) (λb o hb e=>eb b o hb e) f0 f1 f3 f4 f5)
 .let⟨its,rv,p',hz⟩:=I.tuple hq;let hl:=rv.length;exact Jcr hA st (show s.heap.IsTuple p its.toArray from p') (by simp;lia) λh' eb=>h _ (I.turned (t':=s.toks) (λb o hb e=>eb b o hb e) f0 f1 f3 f4 f5)
theorem Zi8{a:Addr}{y:V}{u r:Value}{Q:Unit->Ca->Prop}(hu:A.units<cLine)(I:Inv X pq σ H s)(g:DPut H a y v H')(ry:RelV y u)(rv:RelV v r)(h:∀s',Inv X pq σ H' s'->E9 a s.heap s'.heap->Q ⟨⟩ s') :
  Cc (Cd X.prog X.w) A (dictSet a u r) Q E s:=by
 rcases g with⟨kvs,k,e,ey,l,eH⟩|⟨kvs,k,b,e,ey,eb,l,eH⟩
 .subst ey eH;let⟨z,hd,vs,rel,dd⟩:=Zo9 I.hok e;let hz:vs.length<=sizeLine:=by rw[<-rel.length];exact z
  let hl:(putK kvs k v).length<=sizeLine:=by have:=Y3 kvs k v;lia
  refine wpAny_dictSet_pairs (hsz:=hz) (Zcz ry) dd λh' dd' hs=>h _ ?_ hs;let he:∃q,h'.get? a=some q:=let⟨q,_,_,hq,_⟩:=dd';⟨q,hq⟩
  exact N4 I (by rw[e];exact Eg) hs he (Zms hl hd (rel.put k rv) dd')
 .subst ey eH;cases(show u=Cb b from ry);let⟨z,hd,xs,rel,dd⟩:=Zsm I.hok e;let hz:xs.length<=sizeLine:=by rw[<-Paired.length rel];exact z
  let hl:(putK kvs k v).length<=sizeLine:=by have:=Y3 kvs k v;lia
  refine wpAny_dictSet_heap (hsz:=hz) (show(Ml (Yx X.prog X.w)).room A from hu) (R9 I.hok eb) dd λh' dd' hs=>h _ ?_ hs;let⟨q,es,ep,hq,h2,h3,h4,_,h5⟩:=dd';refine N4 I (by rw[e];exact Eg) hs ⟨q,hq⟩ ⟨hl,hd,_,(rel.put k eb rv).keeps λc ys ec=>?_,q,es,ep,hq,h2,h3,h4,h5⟩;rw[Zl (X1 ec e (λz=>nomatch z))];exact ec
theorem Zbo{p D:Addr}{R:Jd4->Ca->Prop}(hu:A.units+8<cLine)(hA:A.handled=none)(hn:H D=none)(hit:it≠D)(fit:FpOk X pq H it) :
  ∀(zs:List (V×V))(i:Nat)(o o':HO)(s:Ca)(t:Tok),Inv X pq σ (upd H D o) s->Q3 X.K (upd H D o) s.heap p it ys i->Zj1 X.K H (ys.drop i) zs->DFill H D o zs o' ->
   (∀s',Inv X pq σ (upd H D o') s'->R (.ok (.ret .none)) s')->Hb (Cd X.prog X.w) A (.builtin "dict.update.loop" ⟨[.ref D,.ref it,.int i t,.none],[]⟩) R s
 |[],i,o,o',s,t,I,src,pa,df,h=>by
  cases df;let hl:ys.length<=i:=by
   let e:=Paired.length pa;simp only[J8,Bw]at e;lia
  refine Lp Zbm ?_;rw[Hz Zaz _];show Cc _ A.in1 (Jd0 (.ref it) >>= _) _ _ s;refine Fk (Zgh I (show FpOk X pq (upd H D o) it from⟨by rw[Zl hit];exact fit.1,fit.2⟩) hA src hl λs' I'=>?_);show Cc _ A.in1 (Jhb D [] >>= _) _ _ s';exact Fk (Fl (Fl (h s' I')))
 |z::zs,i,o,o'',s,t,I,src,pa,df,h=>by
  let hil:i<ys.length:=by
   let e:=Paired.length pa;simp only[J8,Jx]at e;lia
  rw[Bi hil]at pa;cases pa with
  |cons p1 p2 =>
   let⟨tp,ep,sq⟩:=p1;cases df with
   | @cons _ o1 _ k v _ d1 d2 =>
    refine Lp Zbm ?_;rw[Hz Zaz _];show Cc _ A.in1 (Jd0 (.ref it) >>= _) _ _ s;let fit':∀o,FpOk X pq (upd H D o) it:=λo=>⟨by rw[Zl hit];exact fit.1,fit.2⟩;refine Fk (Zdu I (fit' o) src (Ja hil) λu s1 ru I1 src1=>?_);rw[ep]at ru;obtain rfl:u=Cb tp:=ru;let⟨its,rv,⟨ob,eo,hc,n,hd⟩,_⟩:=I1.tuple (sq.upd' (o:=o) hn);cases rv with
    |cons r1 rv =>
     cases rv with
     |cons r2 rv =>
      cases rv with
      |nil =>
       rename_i uk uv
       show Cc _ A.in1 (Mh [Cb tp] _ >>= _) _ _ s1;refine Fk (Cw ?_);refine Fk (Mj ?_);unfold Jhr;refine Fk (Looks.here (show Looks (Cd X.prog X.w) s1.heap (typeOf (.ref tp)) ob.cls from(Looks.ld eo).andThen .now) ?_);rw[hc,Fs nofun];unfold Jh1;refine Fk (Fk (Jeo eo ?_));rw[hd];refine Fl (Fl ?_);show Cc _ A.in1 (Mh [uk,uv] (dictSet D uk uv)) _ _ s1;refine Cw (Zi8 (by show A.units+1<cLine;lia) I1 d1 r1 r2 λs2 I2 sb=>?_);refine Fl ⟨Kp _ (by decide +kernel),?_⟩;refine Zbo hu hA hn hit fit zs (i+1) o1 o'' s2 _ I2 (src1.at (λob' e=>(sb.2 it hit).trans e) (λq=>?_) λq=>?_) p2 d2 h
       .rcases q with(q|⟨oo,q⟩)|q
        .by_cases hpD:p=D
         .subst hpD;exact absurd d1 (λz=>by
           rw[Zg]at q;cases q;rcases z with⟨_,_,e,_⟩|⟨_,_,_,e,_⟩<;>rw[Zg]at e<;>cases e)
         .rw[Zl hpD]at q;exact .inl (.inl (by rw[Zl hpD];exact q))
        .by_cases hpD:p=D
         .subst hpD;exact absurd d1 (λz=>by
           rw[Zg]at q;cases q;rcases z with⟨_,_,e,_⟩|⟨_,_,_,e,_⟩<;>rw[Zg]at e<;>cases e)
         .rw[Zl hpD]at q;exact .inl (.inr ⟨oo,by rw[Zl hpD];exact q⟩)
        .exact .inr q
       .rcases q with(q|⟨oo,q⟩)|q
        .by_cases hpD:p=D
         .subst hpD;exact absurd d1 (λz=>by
           rw[Zg]at q;cases q;rcases z with⟨_,_,e,_⟩|⟨_,_,_,e,_⟩<;>rw[Zg]at e<;>cases e)
         .rw[Zl hpD]at q;exact .inl (.inl (by rw[Zl hpD];exact q))
        .by_cases hpD:p=D
         .subst hpD;exact absurd d1 (λz=>by
           rw[Zg]at q;cases q;rcases z with⟨_,_,e,_⟩|⟨_,_,_,e,_⟩<;>rw[Zg]at e<;>cases e)
         .rw[Zl hpD]at q;exact .inl (.inr ⟨oo,by rw[Zl hpD];exact q⟩)
        .exact .inr q
end
section
def Znx(K:Cp):List V->Hp->VK->Prop:=λxs H Q=>∃(p:Addr)(ys:List V)(zs:List (V×V))(o:HO),xs=[.ref p]/\(H p=some (.lst ys)\/H p=some (.tup ys))/\Zj1 K H ys zs/\(o=.dK []\/o=.dT []) /\
 ∀D,H D=none->∃o',DFill H D o zs o'/\Q (.ref D) (upd H D o')
theorem V0(hr:Room 3 X.A)(hc:X.calm=true):Vj X (.type "dict") (Znx X.K):=by
 intro pq s σ H xs us Q I r h;let⟨p,ys,zs,o,rfl,hp,pa,ho,q⟩:=h;let⟨u,rfl,rx⟩:=Re r;cases rx;let hA:X.A.handled=none:=I.ok.hd hc;let hD:H s.heap.objs.size=none:=I.hok.fresh (Je _);let⟨o',df,q'⟩:=q _ hD;let pD:p≠s.heap.objs.size:=λz=>by
  rcases hp with e|e<;>rw[z,hD]at e<;>cases e
 refine callType_codes (Q₁:=λobj s₁=>obj=.ref s.heap.objs.size/\s₁={s with heap:=s.heap.push {cls:=.type "dict",data:=.dict #[]} }) PySem.F.kt_called_dict (PySem.F.kt_typeCall_dict_1 _) PySem.F.entry_dict_init (kt_code_dict_new _ ⟨rfl,rfl⟩) ?_;rintro obj s₁ ⟨rfl,rfl⟩;let I1:Inv X pq σ (upd H s.heap.objs.size o) {s with heap:=s.heap.push {cls:=.type "dict",data:=.dict #[]} }:=by
  rcases ho with e|e
  .subst e;exact I.laid (a:=s.heap.objs.size) (o:=.dK []) (t':=s.toks) (λ_ _ q=>Fm _ q) (Je _) (Zem s.heap I.big)
  .subst e;exact I.laid (a:=s.heap.objs.size) (o:=.dT []) (t':=s.toks) (λ_ _ q=>Fm _ q) (Je _) (Zel s.heap I.big)
 let hT:(⟨s.heap.push {cls:=.type "dict",data:=.dict #[]},s.gens,s.drawn,s.toks,s.os⟩:Ca).TypeIs (.ref s.heap.objs.size) "dict":=⟨_,Fn _ rfl,rfl⟩;refine⟨hT,PySem.F.args_dict_init_2 _ _,?_⟩;unfold Builtin.«dict.__init__»;refine Fk ?_;unfold Jhc;refine Fk (wpAny_notOrdered_dict hT ?_);show Cc _ _ (pure (s.heap.objs.size,[Cb p])) _ _ _;refine Fl ?_;show Cc _ _ (Jb5 "dict.__init__" s.heap.objs.size (.ref p) [] .none) _ _ _;unfold Jb5;let hA2:X.A.in1.in1.handled=none:=hA;let fin:∀(s2:Ca)(it:Addr),it≠s.heap.objs.size->FpOk X pq H it->Inv X pq σ (upd H s.heap.objs.size o) s2->Q3 X.K (upd H s.heap.objs.size o) s2.heap p it ys 0 ->
   Hb (Cd X.prog X.w) X.A.in1 (.builtin "dict.update.loop" ⟨[.ref s.heap.objs.size,.ref it,Et 0,.none],[]⟩) (wants (λr s₂=>r=.none/\EP X pq σ Q (.ref s.heap.objs.size) s₂) X.xe) s2:=λs2 it nit fit I2 src =>
  Zbo (A:=X.A.in1) (by have:=hr.units;show X.A.units+1+8<cLine;lia) (show X.A.in1.handled=none from hA) hD nit fit zs 0 o o' s2 _ I2 src (by simpa using pa) df λs' I'=>⟨rfl,.ref s.heap.objs.size,_,I',rfl,q'⟩
 let nq:∀it:Addr,Code.quiet (.builtin "dict.update.loop" ⟨[.ref s.heap.objs.size,.ref it,Et 0,.none],[]⟩)=true:=λit=>Kp _ (by decide +kernel);rcases hp with hp|hp
 .let⟨hz,its,n,rv,eo⟩:=I1.hok p _ (show upd H s.heap.objs.size o p=some (.lst ys)by rw[Zl pD];exact hp);refine Fk (Kg (show Jhq _ (.ref p) "list" from⟨_,eo,rfl⟩) ?_);rw[Fs nofun];refine Fk (Qy eo rfl rfl rfl hA2 λh' tk e ne=>?_);let I2:Inv X pq σ (upd H s.heap.objs.size o) {s with heap:=h',toks:=tk}:=I1.kept ne.keeps;simp only[Jeg,if_true];refine Fk (Jdd (Fk (Mo (s:={s with heap:=h',toks:=tk}) ⟨_,ne.keeps _ _ eo,rfl,n,rfl⟩ (Fl ⟨nq _,?_⟩))));let hsz:s.heap.objs.size<h'.objs.size:=Fo (ne.keeps _ _ (Fn (o:={cls:=.type "dict",data:=.dict #[]}) s.heap rfl))
  let hle:({s with heap:=h',toks:=tk}:Ca).heap.objs.size<=h'.objs.size:=Je _;let fI:=I2.fpOk (H':=H) hle (I.hok.fresh (Be hsz));refine fin _ _ (Fe hsz) fI (I2.kept (t':=tk) λb o e=>Fm _ e) (.inl ⟨.inl (.inl (by rw[Zl pD];exact hp)),⟨_,Fn _ rfl,rfl,rfl⟩⟩)
 .let⟨hz,its,rv,ob,eo,hcl,n,hda,hdi⟩:=I1.hok p _ (show upd H s.heap.objs.size o p=some (.tup ys)by rw[Zl pD];exact hp);refine Fk (Kg (show Jhq _ (.ref p) "tuple" from⟨_,eo,hcl⟩) ?_);rw[Fs nofun];refine Fk (R7 eo hcl hda hdi hA2 λh' tk e ne=>?_);let I2:Inv X pq σ (upd H s.heap.objs.size o) {s with heap:=h',toks:=tk}:=I1.kept ne.keeps;simp only[Jeg,if_true];refine Fk (Jdd (Fk (Jd1 (s:={s with heap:=h',toks:=tk}) (show Heap.IsTuple h' p its.toArray from⟨_,ne.keeps _ _ eo,hcl,n,hda⟩) (Fl ⟨nq _,?_⟩))));let hsz:s.heap.objs.size<h'.objs.size:=Fo (ne.keeps _ _ (Fn (o:={cls:=.type "dict",data:=.dict #[]}) s.heap rfl))
  let hle:({s with heap:=h',toks:=tk}:Ca).heap.objs.size<=h'.objs.size:=Je _;let fI:=I2.fpOk (H':=H) hle (I.hok.fresh (Be hsz));refine fin _ _ (Fe hsz) fI (I2.kept (t':=tk) λb o e=>Fm _ e) (.inr ⟨.inl (.inl (by rw[Zl pD];exact hp)),⟨_,Fn _ rfl,rfl,rfl⟩⟩)
end
end L2
namespace L2
open PySem PySem.Spec PyProof.Rows
section
variable{e:Expr}{st:Option Expr}{ts:TO}{p2:Pos}
def tRev(K:Cp)(te:TE)(ts:TO):TE:=λσ H Q=>te σ H λx H1=>ts σ H1 λk H2=>k=some (-1)/\∃a xs,x=.ref a/\SqL K H2 a xs/\∀p,H2 p=none->Q (.ref p) (upd H2 p (.lst xs.reverse))
theorem Zhh(he:PE X e te)(hs:PO X st ts)(hsub:∀o i,∃ops,Ja9 (.Slice none none st p2) false o i=Jif ops (Lk o i)):PE X (.Subscript e (.Slice none none st p2) pos) (tRev X.K te ts):=by
 intro pq s σ H Q I h;refine Jdb (thn (he pq s σ H _ I h) λv s1 hz=>?_);let⟨x,H1,I1,r1,q1⟩:=hz;refine wpAny_Slice ?_;rw[Jeb];refine Fl ?_;refine Fl ?_;refine thn (hs pq s1 σ H1 _ I1 q1) λvk s3 hz=>?_;let⟨k,H3,I3,pk,ek,a,xs,ex,hx,q⟩:=hz;subst ek;subst ex;cases r1;let I4:Inv X pq σ H3 {s3 with heap:=s3.heap.push {cls:=.type "slice",data:=.fields #[.none,.none,vk]} }:=I3.kept (t':=s3.toks) λb ob q=>Fm _ q;let⟨its,r,ht,hz⟩:=I4.list hx;let hlen:=r.length;show Cc (Cd X.prog X.w) X.A (Ja8 e (.Slice none none st p2) (.ref a) (.ref s3.heap.objs.size)) (EP X pq σ Q) X.xe {s3 with heap:=s3.heap.push {cls:=.type "slice",data:=.fields #[.none,.none,vk]} }
 let⟨ops,hop⟩:=hsub (.ref a) (.ref s3.heap.objs.size);refine tail_any (ops:=ops) ht.isList.typeIs slot_list_getitem.lookup ?_ hop;refine Ms ht.isList (Jec ..) .none .none pk nofun ?_ (by rw[Jk]<;>lia);rw[W.krv_pick];refine⟨.ref _,_,I4.laid (t':=s3.toks) (o:=.lst xs.reverse) (λb ob q=>Fm _ q) (Je _) ?_,rfl,q _ (I4.hok.fresh (Je _))⟩;refine⟨by rw[Fc];exact hz,its.reverse,0,?_,?_⟩
 .let rev:∀{a:List V}{b:List Value},Vals a b->Vals a.reverse b.reverse:=by
   intro a b h
   induction h with
   |nil=>exact .nil
   |cons h1 h2 ih=>rw[Bx,Bx];exact ih.append (.cons h1 .nil)
  exact rev r
 .exact Fn _ rfl
end
def mxOf:Option Int->List Int->Option Int
 |c,[]=>c
 |none,n::r=>mxOf (some n) r
 |some c,n::r=>mxOf (some (if c<n then n else c)) r
def Ta:Option Value->Array Value
 |none=>#[]
 |some v=>#[v,v]
section
def Zdh(c:Option Value):(Ta c).size<=sizeLine:=by rw[C2];cases c<;>simp[Ta]
abbrev lst0(vs:Array Value)(c:Nat):Obj:={cls:=.type "list",data:=.seq vs c}
end
section
variable{w:Ct} 
def U7{t sl:Addr}{items:Array Value}{vl vu:Value}{lo:Option Int}{Q:Value->Ca->Prop}(ht:IsTup s.heap t items)(hs:s.heap.IsSliceOf sl vl vu .none)(pl:Jd9 vl lo)(pu:Jd9 vu hi)(hw:HT.sIx items.size 0 lo=0/\HT.sIx items.size items.size hi=items.size)(h:Q (.ref t) s):Cc (Cd prog w) A (Lk (.ref t) (.ref sl)) Q E s:=by
 let⟨os,hos,hcs,hds⟩:=id hs;let hTs:s.TypeIs (.ref sl) "slice":=⟨os,hos,hcs⟩;unfold Lk
 try with_reducible refine Cw ?_
 first|refine Fk (Fl ?_)|skip
 refine Fk (Jer ht.typeIs nofun ?_);refine Fk (Ja7 (name:=Cj "__getitem__") ht.typeIs Cz
  (Jb9 Cz ht.typeIs Jdp ?_ (Jea _ _)))
 show Cc _ _ (L5 (.ref t) >>= _) _ _ s;refine Fk (tupleItemsOf_ ht ?_);refine Fk (Kg hTs ?_);rw[Fs nofun];refine Fk (HT.sliceApplied_gen hs pl pu ?_);show Cc _ _ (if(((HT.sIx items.size 0 lo:Nat):Int)==0&&(1:Int)==1&&(HT.sIx items.size items.size hi-HT.sIx items.size 0 lo)==items.size)=true then _ else _) _ _ s;let hyes:((((HT.sIx items.size 0 lo:Nat):Int)==0&&(1:Int)==1&&(HT.sIx items.size items.size hi-HT.sIx items.size 0 lo)==items.size)=true):=by
  rw[hw.1,hw.2];simp
 rw[Fs hyes];unfold Jgc;refine Fk ?_
 first
  |exact Fk (Kg ht.typeIs (Fl (by rw[Fs nofun];exact Fk (Jdd (Fl ⟨_,rfl,Fl h⟩)))))
  |exact Fk (Kg ht.typeIs (Fl (by simp;exact Fk (Jdd (Fl ⟨_,rfl,Fl h⟩)))))
end
section
def rSlW(K:Cp):V->Option Int->Option Int->Hp->VK->Prop:=λx lo hi H Q=>∃a xs,x=.ref a/\SqT K H a xs /\
 ((cutV xs lo hi=xs->Q (.ref a) H)/\∀p,H p=none->Q (.ref p) (upd H p (.tup (cutV xs lo hi))))
def Zcb:SlR X (rSlW X.K):=by
 intro pq s σ H x v vl vu lo hi sl Q I rx hs pl pu h;let⟨a,xs,rfl,hx,q0,q⟩:=h;cases rx;let⟨its,r,ht,hz⟩:=I.tuple hx;let hlen:its.toArray.size=xs.length:=by rw[Jk];exact r.length.symm
 exists "tuple",_,Cz.lookup,ht.typeIs,?_
 by_cases hw:HT.sIx xs.length 0 lo=0/\HT.sIx xs.length xs.length hi=xs.length
 .refine U7 ht hs pl pu (by rw[hlen];exact hw) ⟨.ref a,H,I,rfl,q0 ?_⟩;unfold cutV;rw[hw.1,hw.2];simp
 .refine HT.getItem_tuple_cut ht hs pl pu (by rw[hlen];exact hw) ?_ (by rw[hlen];exact hz);rw[hlen];exists .ref s.heap.objs.size,_,I.laid (t':=s.toks) (o:=.tup (cutV xs lo hi)) (λb ob q=>Fm _ q) (Je _) ?_,rfl,q _ (I.hok.fresh (Je _));exists J0 (U8 xs lo hi) hz,_,(r.drop (HT.sIx xs.length 0 lo)).take (HT.sIx xs.length xs.length hi-HT.sIx xs.length 0 lo),V5.new _ _
end
def Met(P:Ep)(w:Ct)(K:Cp)(mg:Str->Option Value)(base:Heap)(C:Addr)(m:Str)(k:Nat)(ps:List Str)(sp:Sp):Prop :=
 ∃f fd,Cls K C/\Meth K C m f/\FnOk P w K mg base CX0 k f fd ps sp/\Vn K fd ps []
def Mkr(P:Ep)(w:Ct)(K:Cp)(mg:Str->Option Value)(base:Heap)(x:Str)(C:Addr)(k:Nat)(ps:List Str)(sp:Sp):Prop :=
 ∃f fd,Mk K C f/\FnOk P w K mg base CX0 k f fd ps sp/\mg x=some (.ref C)/\Vn K fd ps []
section
variable{k:Nat}{x m:Str}{p:Pos}{e o:Expr}{t:TA}
def Zkz{pl:Sem Bool}(he:PE X o ta)(M:Met X.prog X.w X.K X.mg X.base C m k ps sp)(hr:Room k X.A)(ha:PA X (e::es) t)(hst:Ch (e::es) X.env=(false,eval e X.env)::Ch es X.env:=by rfl)(hpl:(Hm pos (Ch es X.env)).any (·.1)=false:=by rfl)(ht:eval (.Call (.Attribute o m apos) (e::es) [] pos) X.env=(do
   let ov <-eval o X.env
   Jfu apos.atName
   let(f,first) <-Mh [ov] (Jd3 ov m pl)
   callWith pos f first (Hm pos (Ch (e::es) X.env)) (Jfq pos (Ja4 [] X.env))):=by rfl) :
  PE X (.Call (.Attribute o m apos) (e::es) [] pos) (Zgd C m sp [] E0 ta t):=by
 let⟨f,fd,c,hm,F,hb⟩:=M;exact Zhi he c hm F hr hb .nil Zk2 ha hst hpl ht
def Zud(M:Mkr X.prog X.w X.K X.mg X.base x C k ps sp)(hr:Room (k+1) X.A)(hg:Gl X x)(ha:PA X (e::es) t)(hdb:(x==("__debug__":Str))=false:=by decide)(he:Ch (e::es) X.env=(false,eval e X.env)::Ch es X.env:=by rfl)(hpl:(Hm pos (Ch es X.env)).any (·.1)=false:=by rfl):PE X (.Call (.Name x p) (e::es) [] pos) (Ze2 C sp [] E0 t):=by
 let⟨f,fd,hm,F,g,hb⟩:=M;exact Zn9 hm F hr hg g hb .nil Zk2 ha hdb he hpl
end
def Fun.okC{w:Ct}{base:Heap}{x:Str}{f:Addr}{oc:Value}{od an:Option Addr}{osl:Array (Option Value)}{kV doc cdv ct:Value}{k:Nat}(lk:K.lookup f=some ⟨oc,od,.func (Jdk x qual (Wf st) (Y8 st) (Zn st) .none kV doc pm an cdv ct),osl⟩)(hcd:Jd8 K cdv qual=true)(S:FnScope N ps (Zn st))(len:∀vs H Q E,sp vs H Q E->vs.length=ps.length)(hbody:∀(A:L6)(outer:List Env)(s:Ca)(H:Hp)(vs:List V)(Q:VK)(E:XK),Room k (A.deeper (Hy qual (Zn st) s.heap.objs.size f cdv))->sp vs H Q E ->
   ∃t,PSs (cxOf CX0 P w K mg base N qual (Zn st) f cdv A outer s H E).nox (Y8 st) t/\t {nx:=λ_ H'=>Q .non H',rt:=Q} (Uz N vs) H) :
  FnOk P w K mg base CX0 (k+1) f (Jdk x qual (Wf st) (Y8 st) (Zn st) .none kV doc pm an cdv ct) ps sp :=
 Zo4 lk hcd S len λA outer s H vs Q E hr hsp=>by
  let⟨t,h,q⟩:=hbody A outer s H vs Q E hr hsp;exists t,h.nox,q
abbrev Pr:=Int×List Int
variable{S L S1 S2 U:List L2.Pr}
def TupK(H H':Hp):Prop:=∀b xs,H b=some (.tup xs)->H' b=some (.tup xs)
def TupK.trans(a:TupK H H1)(b:TupK H1 H2):TupK H H2:=λc xs h=>b c xs (a c xs h)
def Same.tk(s:Same H H'):TupK H H':=λb xs h=>s b _ h
def Grow.tk{p:Addr}(g:Grow p H H')(e:H p=some (.lst xs)):TupK H H':=λb ys h=>g b _ h (X1 h e λz=>by cases z)
def Qp.tk{P:Addr}(s:Qp P H H'){ps:Array Value}(e:H P=some (.tbl ps)):TupK H H':=λb xs h=>s b _ (X1 h e λz=>by cases z) h
def Zdj(H:Hp)(v:V)(w:List Int):Prop:=∃t,v=.ref t/\H t=some (.tup (w.map V.int))
def Zab(H:Hp)(v:V)(p:Pr):Prop:=∃t tw,v=.ref t/\H t=some (.tup [.int p.1,.ref tw])/\H tw=some (.tup (p.2.map V.int))
def Zdj.tk{w:List Int}(h:Zdj H v w)(s:TupK H H'):Zdj H' v w:=by
 let⟨t,e,a⟩:=h;exists t,e,s _ _ a
def Zab.tk{p:Pr}(h:Zab H v p)(s:TupK H H'):Zab H' v p:=by
 let⟨t,tw,e,a,b⟩:=h;exists t,tw,e,s _ _ a,s _ _ b
abbrev Xt(H:Hp):List V->List (List Int)->Prop:=Paired (Zdj H)
abbrev Prs(H:Hp):List V->List Pr->Prop:=Paired (Zab H)
def Xt.tk(h:Xt H vs ws)(s:TupK H H'):Xt H' vs ws:=Paired.mapP h λ_ _ z=>z.tk s
def Prs.tk(h:Prs H vs L)(s:TupK H H'):Prs H' vs L:=Paired.mapP h λ_ _ z=>z.tk s
theorem Paired.at{α:Type}{F:α->β->Prop}:∀{l:List α}{m:List β},Paired F l m->∀{i:Nat}(h1:i<l.length)(h2:i<m.length),F l[i] m[i]
 |_,_,.nil,_,h,_=>absurd h (G6 _)
 |_,_,.cons a r,0,_,_=>a
 |_,_,.cons a r,i+1,h1,h2=>Paired.at r (i:=i) (by simpa using h1) (by simpa using h2)
theorem Paired.snoc{α:Type}{F:α->β->Prop}{x:α}{y:β}(h:F x y):∀{l:List α}{m:List β},Paired F l m->Paired F (l++[x]) (m++[y]):=by
 intro _ _ hz9;cases hz9 with
 |nil=>
  exact .cons h .nil
 |cons a r=>
  exact .cons a (Paired.snoc h r)
theorem Paired.app{α:Type}{F:α->β->Prop}{l':List α}{m':List β}(h:Paired F l' m'):∀{l:List α}{m:List β},Paired F l m->Paired F (l++l') (m++m'):=by
 intro _ _ hz9;cases hz9 with
 |nil=>
  exact h
 |cons a r=>
  exact .cons a (Paired.app h r)
theorem Paired.tak{α:Type}{F:α->β->Prop}:∀{l:List α}{m:List β}(n:Nat),Paired F l m->Paired F (l.take n) (m.take n)
 |_,_,0,_=>by rw[Bn,Bn];exact .nil
 |_,_,n+1,.nil=>.nil
 |_,_,n+1,.cons a r=>.cons a (Paired.tak n r)
theorem Paired.drp{α:Type}{F:α->β->Prop}:∀{l:List α}{m:List β}(n:Nat),Paired F l m->Paired F (l.drop n) (m.drop n)
 |_,_,0,h=>h
 |_,_,n+1,.nil=>.nil
 |_,_,n+1,.cons a r=>Paired.drp n r
theorem Paired.rev{α:Type}{F:α->β->Prop}:∀{l:List α}{m:List β},Paired F l m->Paired F l.reverse m.reverse:=by
 intro _ _ hz9;cases hz9 with
 |nil=>
  exact .nil
 |cons a r=>
  exact by rw[Bx,Bx];exact Paired.snoc a (Paired.rev r)
def Zpy(a b:Pr):Prop:=a.1≠b.1/\¬ a.2<+:b.2/\¬ b.2<+:a.2
def Free(L:List Pr):Prop:=L.Pairwise Zpy
def Free.get(h:Free L){i:Nat}(hi:i<L.length)(hj:j<L.length)(hij:i<j):Zpy L[i] L[j]:=Bh.mp h i j hi hj hij
def Zhw(p q:Pr):V:=if p.1=q.1 then .str (Cj "twice")else if p.2.take (min p.2.length q.2.length)=q.2.take (min p.2.length q.2.length)then .str (Cj "begins")else .non
def Zfd{p q:Pr}(h:Zpy p q):Zhw p q=.non:=by
 unfold Zhw;rw[Fp h.1,Fp];intro e;rcases Nat.le_total p.2.length q.2.length with l|l
 .rw[B4 l,Gb]at e;exact h.2.1 (e ▸ Fb _ _)
 .rw[Nat.min_eq_right l,Gb]at e;exact h.2.2 (e ▸ Fb _ _)
theorem N3:∀(a b:List Int),C4 (a.map Hh) (b.map Hh)=decide (a=b)
 |[],[]=>by simp[C4]
 |[],_::_=>by simp[C4]
 |_::_,[]=>by simp[C4]
 |x::a,y::b=>by
  simp only[Js,C4,C9,N3 a b]
  by_cases h:x=y
  .subst h;simp
  .simp[h]
def Zo6(a b:List Int):C9 (.tuple (a.map Hh)) (.tuple (b.map Hh))=decide (a=b):=by
 simp only[C9,N3]
def Zo8(a b:List Int):C9 (.list (a.map Hh)) (.list (b.map Hh))=decide (a=b):=by
 simp only[C9,N3]
def Zar(ns:List Int):Shp 1 (.tuple (ns.map Hh)):=Rg λd hd=>by
 let⟨i,_,rfl⟩:=Jp.mp hd;exact Zcc i
def Zdg(w:List Int){j:Int}(h0:0<=j)(h1:j<=w.length):cutV (w.map V.int) none (some j)=(w.take j.toNat).map V.int:=by
 rw[Zbq h0 (by rw[Jb];exact h1),Bs]
def Zl2:Sp:=λvs H Q _=>∃v1 v2 p q,vs=[v1,v2]/\Zab H v1 p/\Zab H v2 q/\p.2.length<=1000/\q.2.length<=1000/\∀H',Same H H'->Q (Zhw p q) H'
def Tb(H:Hp)(a:Addr)(L:List Pr):Prop:=∃vs,H a=some (.lst vs)/\Prs H vs L
def Tb.same{a:Addr}(h:Tb H a L)(s:Same H H'):Tb H' a L:=by
 let⟨vs,e,p⟩:=h;exists vs,s _ _ e,p.tk s.tk
def Fits(L:List Pr):Prop:=L.length<64/\∀p∈L,p.2≠[]/\p.2.length<=4
def Tg:Sp:=λvs H Q _=>∃a L,vs=[.ref a]/\Tb H a L/\Free L/\Fits L/\∀H',Same H H'->Q .non H'
abbrev wk(w:List Int):List Key:=w.map C0
def Zm7(w:List Int):(wk w).map kV=w.map V.int:=by rw[Gm];rfl
def Zds(kvs:List (List Key×V))(ws:List (List Int)):Prop:=∀u:List Int,(valV kvs (wk u)).isSome=decide (∃w∈ws,u<+:w/\u.length<w.length)
def Zgp:Sp:=λvs H Q _=>∃a vws ws,vs=[.ref a]/\H a=some (.lst vws)/\Xt H vws ws/\ws.length<64/\(∀w∈ws,w.length<=4) /\
 ∀(d:Addr)(kvs:List (List Key×V))(H':Hp),Same H H'->H d=none->H' d=some (.dT kvs)->Zds kvs ws->Q (.ref d) H'
def Zg4{a:Addr}{w:List Int}{j:Int}(e:H a=some (.tup (w.map V.int)))(h0:0<=j)(h1:j<=w.length)(h:∀t H',Same H H'->H' t=some (.tup ((w.take j.toNat).map V.int))->Q (.ref t) H'):rSlW K (.ref a) none (some j) H Q:=by
 exists a,·,SqT.of e,λhw=>h a H (.refl _) ?_,λp hp=>h p _ (Zc hp) ?_
 .rw[Zdg w h0 h1]at hw;rw[hw];exact e
 .rw[Zg,Zdg w h0 h1]
theorem Zon(a b:Nat):(if(b:Int)<(a:Int)then(b:Int)else(a:Int))=((min a b:Nat):Int):=by split<;>lia
def Zfn[DecidableEq κ](kvs:List (κ×V))(k k':κ)(v:V):(valV (putK kvs k v) k').isSome=(decide (k'=k) ||(valV kvs k').isSome):=by
 rw[Pw]
 by_cases h:k'=k
 .rw[Fs h,Ft h];rfl
 .rw[Fp h,Fu h,Jhm]
theorem Rc:∀{u v:List Int},wk u=wk v->u=v
 |[],[],_=>rfl
 |[],_::_,h=>nomatch h
 |_::_,[],h=>nomatch h
 |x::u,y::v,h=>by
  let h':(C0 x:Key)::wk u=C0 y::wk v:=h;injection h' with a b
  rw[Kr a,Rc b]
def N9{α:Type}{xs:List α}{v:α}(h:xs[j]?=some v):atI xs (0+(j:Int))=some v:=by rw[Mb];exact Sg h
def Sj(kvs:List (List Key×V))(ws:List (List Int))(w:List Int)(n:Nat):Prop :=
 ∀u:List Int,(valV kvs (wk u)).isSome=decide ((∃x∈ws,u<+:x/\u.length<x.length)\/(u<+:w/\u.length<n))
theorem Sj.put{w:List Int}{n:Nat}(h:Sj kvs ws w n)(hn:n<=w.length) :Sj (putK kvs (wk (w.take n)) v) ws w (n+1):=by
 intro u;rw[Zfn,h u];let e:(wk u=wk (w.take n))↔(u=w.take n):=⟨Rc,λz=>by rw[z]⟩;rw[decide_eq_decide.mpr e,<-Bool.decide_or];refine decide_eq_decide.mpr ⟨λz=>?_,λz=>?_⟩
 .rcases z with z|z|⟨z1,z2⟩
  .subst z;exact .inr ⟨Fb _ _,by rw[Ji];lia⟩
  .exact .inl z
  .exact .inr ⟨z1,()⟩
 .rcases z with z|⟨z1,z2⟩
  .exact .inr (.inl z)
  .by_cases l:u.length<n
   .exact .inr (.inr ⟨z1,l⟩)
   .refine .inl ?_;let:u.length=n:=by lia
    rw[<-this];exact List.prefix_iff_eq_take.mp z1
def Sj.next{w:List Int}(h:Sj kvs ws w w.length)(w':List Int):Sj kvs (ws++[w]) w' 0:=by
 intro u;rw[h u];refine decide_eq_decide.mpr ⟨λz=>?_,λz=>?_⟩
 .rcases z with⟨x,hx,z⟩|z
  .exact .inl ⟨x,Gz _ hx,z⟩
  .exact .inl ⟨w,Jl _ (Jm.mpr rfl),z⟩
 .rcases z with⟨x,hx,z⟩|⟨_,z⟩
  .rcases Ga.mp hx with hx|hx
   .exact .inl ⟨x,hx,z⟩
   .rw[Jm.mp hx]at z;exact .inr z
  .exact absurd z (G6 _)
def Sj.nil(w:List Int):Sj [] [] w 0:=by
 intro u;rw[Zj9];refine(Fu ?_).symm;rintro(⟨x,hx,_⟩|⟨_,z⟩)
 .exact nomatch hx
 .exact absurd z (G6 _)
def Sj.done{w:List Int}(h:Sj kvs ws w 0):Zds kvs ws:=by
 intro u;rw[h u];refine decide_eq_decide.mpr ⟨λz=>?_,λz=>.inl z⟩;rcases z with z|⟨_,z⟩
 .exact z
 .exact absurd z (G6 _)
theorem Zhg{α:Type}{f:α->β}{m n:List β}(h:m.Perm n):∀{l:List α},l.map f=n->∃l':List α,l'.Perm l/\l'.map f=m:=by
 induction h with
 |nil=>intro l e;exists l,.refl _,e
 |cons x _ ih =>
  intro l e;cases l with
  |nil=>cases e
  |cons a l =>
   rw[Js]at e;injection e with e1 e2
   let⟨l',p,q⟩:=ih e2;exact⟨a::l',p.cons a,by rw[Js,e1,q]⟩
 |swap x y l0 =>
  intro l e
  match l,e with
  |a::b::r,e =>
   rw[Js,Js]at e;injection e with e1 e2
   injection e2 with e2 e3
   exact⟨b::a::r,.swap _ _ _,by rw[Js,Js,e1,e2,e3]⟩
 |trans _ _ ih1 ih2 =>
  intro l e;let⟨l2,p2,q2⟩:=ih2 e;let⟨l1,p1,q1⟩:=ih1 q2;exists l1,p1.trans p2,q1
structure PK3 where
 v:V
 tw:Addr
 p:Pr
def PK3.At(H:Hp)(e:PK3):Prop:=∃t,e.v=.ref t/\H t=some (.tup [.int e.p.1,.ref e.tw])/\H e.tw=some (.tup (e.p.2.map V.int))
def PK3.At.tk{e:PK3}(h:e.At H)(s:TupK H H'):e.At H':=by
 let⟨t,a,b,c⟩:=h;exists t,a,s _ _ b,s _ _ c
theorem Zmf :∀{vs:List V}{L:List Pr},Prs H vs L->∃M:List PK3,M.map (·.v)=vs/\M.map (·.p)=L/\∀e∈M,e.At H
 |_,_,.nil=>⟨[],rfl,rfl,λ_ h=>nomatch h⟩
 |_,_,.cons ⟨t,tw,a,b,c⟩ r=>by
  let⟨M,e1,e2,e3⟩:=Zmf r;exists⟨_,tw,_⟩::M,by rw[Js,e1],by rw[Js,e2],λe he=>?_;rcases Jq.mp he with z|z
  .rw[z];exists t,a,b,c
  .exact e3 e z
theorem Zmg :∀{M:List PK3},(∀e∈M,e.At H)->Prs H (M.map (·.v)) (M.map (·.p))
 |[],_=>.nil
 |e::M,h=>by
  let⟨t,a,b,c⟩:=h e Jn;exact .cons ⟨t,e.tw,a,b,c⟩ (Zmg λx hx=>h x (Jh _ hx))
def PK3.k(e:PK3):KIt:=(e.v,e.tw,e.p.2)
def Xs[DecidableEq κ](kvs:List (κ×V))(zs:List (κ×V)):List (κ×V):=zs.foldl (λa z=>putK a z.1 z.2) kvs
theorem Zej[DecidableEq κ]:∀(zs kvs:List (κ×V)),(Xs kvs zs).length<=kvs.length+zs.length
 |[],kvs=>by simp[Xs]
 |z::r,kvs=>by
  let:=Zej r (putK kvs z.1 z.2);let l:=Y3 kvs z.1 z.2;show(Xs (putK kvs z.1 z.2) r).length<=_;rw[Jx];lia
theorem Tu[DecidableEq κ]{k:κ}:∀(zs kvs:List (κ×V)),(∀z∈zs,z.1≠k)->valV (Xs kvs zs) k=valV kvs k
 |[],kvs,_=>rfl
 |z::r,kvs,h=>by
  show valV (Xs (putK kvs z.1 z.2) r) k=_;rw[Tu r _ λy hy=>h y (Jh _ hy),Pw,Fp (λe=>h z Jn e.symm)]
theorem Qh[DecidableEq κ]{k:κ} :∀(zs kvs:List (κ×V)),(zs.map (·.1)).Nodup->(k,v)∈zs->valV (Xs kvs zs) k=some v
 |[],kvs,_,h=>nomatch h
 |z::r,kvs,nd,h=>by
  show valV (Xs (putK kvs z.1 z.2) r) k=_;rw[Js,Gx]at nd;rcases Jq.mp h with e|h
  .subst e;rw[Tu r _ λy hy e=>nd.1 (by
    let hm:y.1∈r.map (·.1):=Jp.mpr ⟨y,hy,rfl⟩;rw[e]at hm;exact hm),Pw,Fs rfl]
  .exact Qh r _ nd.2 h
theorem Zdb{D:Addr}:∀(zs kvs:List (Key×V)),kvs.length+zs.length<sizeLine->DFill H D (.dK kvs) (zs.map λz=>(kV z.1,z.2)) (.dK (Xs kvs zs))
 |[],kvs,_=>.nil
 |z::r,kvs,h=>by
  rw[Jx]at h;let l:=Y3 kvs z.1 z.2;let d:=DPut.k (H:=upd H D (.dK kvs)) (a:=D) (k:=z.1) (v:=z.2) Zg ();rw[Zf3]at d;exact .cons d (Zdb r (putK kvs z.1 z.2) ())
theorem Zi1{D:Addr}(hD:H D=none):∀(zs:List (Addr×List Key×V))(kvs:List (List Key×V)),kvs.length+zs.length<sizeLine->(∀z∈zs,H z.1=some (.tup (z.2.1.map kV))) ->
  DFill H D (.dT kvs) (zs.map λz=>(.ref z.1,z.2.2)) (.dT (Xs kvs (zs.map λz=>(z.2.1,z.2.2))))
 |[],kvs,_,_=>.nil
 |z::r,kvs,h,ht=>by
  rw[Jx]at h;let l:=Y3 kvs z.2.1 z.2.2;let e:=ht z Jn;let d:=DPut.t (H:=upd H D (.dT kvs)) (a:=D) (b:=z.1) (k:=z.2.1) (v:=z.2.2) Zg (by rw[Zl (Zr e hD)];exact e) ();rw[Zf3]at d;exact .cons d (Zi1 hD r (putK kvs z.2.1 z.2.2) () λy hy=>ht y (Jh _ hy))
def Zf0(H:Hp)(k1:List (Key×V))(S:List Pr):Prop:=(∀p∈S,∃t,valV k1 (C0 p.1)=some (.ref t)/\H t=some (.tup (p.2.map V.int)))/\∀s:Int,(∀p∈S,p.1≠s)->valV k1 (C0 s)=none
def Zgs(k2:List (List Key×V))(S:List Pr):Prop:=(∀p∈S,valV k2 (wk p.2)=some (.int p.1))/\∀u:List Int,(∀p∈S,p.2≠u)->valV k2 (wk u)=none
def Zex(ns:List Int)(S:List Pr):Prop:=ns.Pairwise (· < ·)/\∀n:Int,n∈ns↔∃p∈S,(p.2.length:Int)=n
structure CodeIn(H:Hp)(tp d1 d2 d3 d4:Addr)(S:List Pr):Prop where
 pr:∃vs,H tp=some (.tup vs)/\Prs H vs S
 wb:∃k1,H d1=some (.dK k1)/\Zf0 H k1 S
 sb:∃k2,H d2=some (.dT k2)/\Zgs k2 S
 bg:∃k3,H d3=some (.dT k3)/\Zds k3 (S.map (·.2))
 sz:∃ns:List Int,H d4=some (.tup (ns.map V.int))/\Zex ns S
def Uy(C:Addr)(H:Hp)(x:Addr)(S:List Pr):Prop:=∃dx tp d1 d2 d3 d4,H x=some (.ins C dx [("pairs",.ref tp),("words_by_sign",.ref d1),("signs_by_word",.ref d2),("begun",.ref d3),("word_sizes",.ref d4)])/\CodeIn H tp d1 d2 d3 d4 S
def Zdk(S:List Pr):Prop:=S.Pairwise λa b=>HT.lexLt a.2 b.2=true
def V2.grow{x:Addr}{q:Str}(t:V2 Pt pos q H){fs:List (Str×V)}(e:H x=some (.ins C dx fs))(g:Grow x H H'):V2 Pt pos q H':=by
 let⟨ps,a,b,c⟩:=t;exists ps,g _ _ a (X1 a e λz=>by cases z),b,?_;rcases c with c|⟨c',d,f⟩
 .exact .inl c
 .exact .inr ⟨c',d,g _ _ f (X1 f e λz=>by cases z)⟩
def Grow.tkI{x:Addr}(g:Grow x H H'){fs:List (Str×V)}(e:H x=some (.ins C dx fs)):TupK H H':=λb ys h=>g b _ h (X1 h e λz=>by cases z)
section
def rLen(K:Cp):List V->Hp->VK->Prop:=λxs H Q=>∃x n,xs=[x]/\LenV K x H n/\Q (.int n) H
def Xo(h:X.K=K):Vj X (.builtin "len") (rLen K):=by subst h;exact Y0
def Zew(h:X.K=K):IxR X (rIxL K):=by subst h;exact Y4
def Zs4(h:X.K=K):IxR X (rIxT K):=by subst h;exact Tr
def Zpl(h:X.K=K):OpR X (Hi .Add) (Zny K):=by subst h;exact Zhu
end
end L2
variable{S L S1 S2 U:List L2.Pr}
namespace L2
open PySem PySem.W PyProof.Rows HT
theorem Zee:∀{us:List Value}{ns:List Int},Mi us ns->Vals (ns.map V.int) us:=by
 intro _ _ hz9;cases hz9 with
 |nil=>
  exact .nil
 |cons n t h=>
  exact .cons ⟨t,rfl⟩ (Zee h)
theorem Zie:∀{us:List Value}{ns:List Int},us.length=ns.length->(∀(j:Nat)(v:Value),us[j]?=some v->∃n t,ns[j]?=some n/\v=Ea n t)->Mi us ns
 |[],[],_,_=>.nil
 |u::us,n::ns,hl,h=>by
  let⟨m,t,e,rfl⟩:=h 0 u rfl;cases e;exact .cons _ t (Zie (by simpa using hl) λj v e=>h (j+1) v e)
section
def Zmd:List V->Hp->VK->Prop:=λxs H Q=>∃(d:Addr)(kvs:List (Key×V))(ns:List Int),xs=[.ref d]/\H d=some (.dK kvs)/\kvs.map (·.1)=ns.map C0/\kvs.length<64 /\
 ∀(D:Addr)(ns':List Int),H D=none->ns'.Perm ns->ns'.Pairwise (·<=·)->Q (.ref D) (upd H D (.lst (ns'.map V.int)))
theorem Po(hc:X.calm=true):Vj X (.builtin "sorted") Zmd:=by
 intro pq s σ H xs us Q I r h;let⟨d,kvs,ns,rfl,ed,ek,hl,q⟩:=h;let⟨u,rfl,rx⟩:=Re r;cases rx;let⟨hz,lo,vs,rel,dof⟩:=Zo9 I.hok ed;let⟨ep,da⟩:=dof.dictAt;let hv:=Paired.length rel;refine Calls.call_function_entry kind_sorted plain_sorted entry_sorted (args_sorted1 _) ?_;unfold Builtin.«sorted»;refine Fk (m:=checkCount "sorted" 1 1 _) (Fl ?_);refine Fk (kdu_collect (A:=X.A.in1) (kdl_dict (knd:=Yx X.prog X.w) (kvs:=vs) (ep:=ep) lo) (I.ok.hd hc) da (by rw[C2];lia) λh' tk acc hk hacc=>?_);let hal:acc.toList.length=vs.length:=by rw[Bq];exact hacc.1
 let hkl:kvs.length=ns.length:=by have:=congrArg Ey ek;simpa using this
 refine Fk (Jb4 ?_ (by rw[hal,C2];lia));let hI:Mi acc.toList ns:=Zie () λj v e=>by
  let⟨k,x,e1,e2⟩:=hacc.2 j v (by rw[<-Array.getElem?_toList];exact e);let hj:j<vs.length:=(Jf.mp e1).1;let hr:=L2.Paired.at rel (by lia:j<kvs.length) hj;let e3:=congrArg (·[j]?) ek;simp only[Jv,Ja (by lia:j<kvs.length),Ja (by lia:j<ns.length),B3,Jey]at e3;rw[Ja hj]at e1;let e4:=Fv e1;rw[hr.1,e4]at e3;subst e3;rcases Yj (show Za9 (C0 ns[j]) v=true from e2)with⟨i,t,e5,rfl⟩|⟨y,t,e5,rfl⟩
  .cases e5;exists _,t,Ja (by lia:j<ns.length),rfl
  .cases e5
 let hoL:(h'.push (Hs "list" acc.toList.toArray 0)).get? h'.objs.size=some (Hs "list" acc.toList.toArray 0):=Fn _ rfl;refine Fk (Cw (Jb9 (s:={s with heap:=h'.push (Hs "list" acc.toList.toArray 0),toks:=tk}) slot_list_sort ⟨_,hoL,rfl⟩ Jf3 (list_sort_tree hoL hI () λout ns' a1 a2 a3=>⟨_,rfl,?_⟩) (args_list_sort _)));let⟨e,he⟩:=sortedHeap_at (vs:=acc.toList) (out:=out) hoL;let I1:Inv X pq σ H {s with heap:=h',toks:=tk}:=I.kept hk;refine Fl ⟨_,rfl,.ref h'.objs.size,_,I1.laid (t':=tk) (λb o eb=>?_) (Je _) (show Yt X.prog X.w _ _ _ (.lst (ns'.map V.int))from⟨?_,out.toList,e,Zee a1,he⟩),rfl,q _ ns' (I1.hok.fresh (Je _)) a2 a3⟩
 .let hb:h'.get? b=some o:=eb;let hlt:=Fo hb;rw[sortedHeap_old (J9 hlt) (by rw[Jha];exact Kx hlt)];exact Fm _ hb
 .rw[Jb,a2.length_eq,C2];lia
end
end L2
namespace L2
open PySem PySem.Spec PyProof.Rows
def Zk9[DecidableEq κ](kvs:List (κ×V))(k:κ)(v:V):(putK kvs k v).map (·.1)=if k∈kvs.map (·.1)then kvs.map (·.1)else kvs.map (·.1)++[k]:=by
 unfold putK;let hiff:(kvs.any λkv=>decide (kv.1=k))=true↔k∈kvs.map (·.1):=by
  rw[Bt,Jp]
  constructor
  .rintro⟨x,h1,h2⟩;exists x,h1,of_decide_eq_true h2
  .rintro⟨x,h1,h2⟩;exists x,h1,Ft h2
 by_cases h:k∈kvs.map (·.1)
 .rw[Fs h,Fs (hiff.mpr h),Gm];refine List.map_congr_left λkv _=>?_;show(if kv.1=k then(kv.1,v)else kv).1=kv.1
  split<;>rfl
 .rw[Fp h,Fp (λz=>h (hiff.mp z)),Jg];rfl
theorem Qi:∀(zs:List Int)(kvs:List (Key×V))(ns:List Int),kvs.map (·.1)=ns.map C0->ns.Nodup ->
  ∃ns':List Int,(Xs kvs (zs.map λz=>((C0 z:Key),V.bl true))).map (·.1)=ns'.map C0/\ns'.Nodup/\∀n,n∈ns'↔n∈ns\/n∈zs
 |[],kvs,ns,e,nd=>⟨ns,e,nd,λn=>by simp⟩
 |z::r,kvs,ns,e,nd=>by
  let hm:(C0 z:Key)∈kvs.map (·.1)↔z∈ns:=by
   rw[e,Jp]
   constructor
   .rintro⟨x,h,h2⟩;cases h2;exact h
   .exact λh=>⟨z,h,rfl⟩
  let hp:=Zk9 kvs (C0 z) (V.bl true);show ∃ns':List Int,(Xs (putK kvs (C0 z) (V.bl true)) (r.map _)).map (·.1)=_/\_
  by_cases h:z∈ns
  .rw[Fs (hm.mpr h),e]at hp;let⟨ns',a,b,c⟩:=Qi r _ ns hp nd;exists ns',a,b,λn=>?_;rw[c,Jq]
   constructor
   .rintro(q|q)
    .exact .inl q
    .exact .inr (.inr q)
   .rintro(q|rfl|q)
    .exact .inl q
    .exact .inl h
    .exact .inr q
  .rw[Fp (λq=>h (hm.mp q)),e]at hp;let⟨ns',a,b,c⟩:=Qi r _ (ns++[z]) (by rw[hp,Jg];rfl) (By.mpr ⟨nd,by simp,λx hx y hy=>by
    rw[Jm.mp hy];exact λq=>h (q ▸ hx)⟩)
   exists ns',a,b,λn=>?_;rw[c,Jq,Ga,Jm]
   constructor
   .rintro((q|q)|q)
    .exact .inl q
    .exact .inr (.inl q)
    .exact .inr (.inr q)
   .rintro(q|q|q)
    .exact .inl (.inl q)
    .exact .inl (.inr q)
    .exact .inr q
theorem Zgr{ns':List Int}(nd:ns.Nodup)(h:∀n,n∈ns↔n∈S.map λp=>(p.2.length:Int))(p:ns'.Perm ns)(ri:ns'.Pairwise (·<=·)):Zex ns' S:=by
 exists ?_,λn=>?_
 .let nd':ns'.Nodup:=p.nodup_iff.mpr nd;exact(List.pairwise_and_iff.mpr ⟨ri,nd'⟩).imp λ{a b}z=>by
   let:=z.1;let:=z.2;lia
 .rw[p.mem_iff,h,Jp]
def Zgo:Sp:=λvs H Q _=>∃(p a:Addr)(m:Int),vs=[.ref p,.int m]/\HandAt H p a/\2<=m/\m<=4 /\
 ∀(l:Addr)(bs:List Int)(H':Hp),H l=none->l≠p->H' l=some (.lst (bs.map V.int))->bs.Nodup->2<=bs.length->(bs.length:Int)<=m->(∀b∈bs,0<=b/\b<256)->HandAt H' p a->Grow p H H'->Q (.ref l) H'
theorem Zca{b s:Int}(hs:1<=s){n:Nat}(hn:s*n<=255+s):((Ef n).map λk:Nat=>(b+s*(k:Int)) % 256).Nodup:=by
 refine Ge.mpr ?_;refine Bh.mpr λi j hi hj hij=>?_;simp only[Bp]at hi hj;simp only[Jeh];intro e;let h2:s*((j:Int)-(i:Int))=s*(j:Int)-s*(i:Int):=Jf7 _ _ _;let h3:0<s*((j:Int)-(i:Int)):=Jij () ();let h4:s*((j:Int)-(i:Int))<=s*((n:Int)-1):=K9 () ();let h5:s*((n:Int)-1)<=255:=by rw[Jf7,Jia];lia
 rw[h2]at h3 h4;generalize s*(j:Int)=X at *
 generalize s*(i:Int)=Y at *
 lia
def PF(ws:List (List Int)):Prop:=ws.Pairwise λa b=>¬ a<+:b/\¬ b<+:a
def WOk(ws:List (List Int)):Prop:=PF ws/\∀w∈ws,w≠[]/\w.length<=4
def PF.sub{a b:List (List Int)}(h:PF b)(s:a.Sublist b):PF a:=Jh2 s h
def WOk.sub{a b:List (List Int)}(h:WOk b)(s:a.Sublist b):WOk a:=⟨h.1.sub s,λw hw=>h.2 w (s.subset hw)⟩
def Ui{w:List Int}{a b:Int}(h:a≠b):¬ (w++[a])<+:(w++[b]):=λe=>by
 let:=Jgd e (by simp);simp at this;exact h this
def Zob{bs:List Int}(nd:bs.Nodup):WOk (bs.map λb=>[b]):=by
 exists Ge.mpr (nd.imp λz=>⟨Ui (w:=[]) z,Ui (w:=[]) z.symm⟩),λw hw=>?_;let⟨b,_,rfl⟩:=Jp.mp hw;exact⟨by simp,by simp⟩
theorem Zkx{a c:List (List Int)}{w:List Int}{bs:List Int}(nd:bs.Nodup)(h:WOk (a++w::c))(hw:w.length<4):WOk (a++(bs.map λb=>w++[b])++c):=by
 let⟨h1,h2⟩:=h;let hk:∀x,(¬ x<+:w/\¬ w<+:x)->∀b,¬ x<+:w++[b]/\¬ (w++[b])<+:x:=λx hx b=>by
  exists λz=>?_,λz=>hx.2 ((Go _ _).trans z);rcases List.prefix_concat_iff.mp z with e|e
  .exact hx.2 (e ▸ Go _ _)
  .exact hx.1 e
 unfold PF at h1;rw[List.pairwise_append]at h1;let⟨pa,pwc,pac⟩:=h1;rw[Mc]at pwc;let⟨pw,pc⟩:=pwc;exists ?_,λx hx=>?_
 .unfold PF;rw[Gd,List.pairwise_append];exists pa,?_,λx hx y hy=>?_
  .rw[List.pairwise_append];exists Ge.mpr (nd.imp λz=>⟨Ui z,Ui z.symm⟩),pc,λx hx y hy=>?_;let⟨b,_,rfl⟩:=Jp.mp hx;let:=hk y ⟨(pw y hy).2,(pw y hy).1⟩ b;exists this.2,this.1
  .rcases Ga.mp hy with hy|hy
   .let⟨b,_,rfl⟩:=Jp.mp hy;exact hk x (pac x hx w Jn) b
   .exact pac x hx y (Jh _ hy)
 .rcases Ga.mp hx with hx|hx
  .rcases Ga.mp hx with hx|hx
   .exact h2 x (Gz _ hx)
   .let⟨b,_,rfl⟩:=Jp.mp hx;exact⟨by simp,by rw[Jd,Gn];lia⟩
  .exact h2 x (Jl _ (Jh _ hx))
theorem Zfz:∀(ss:List Int)(ws:List (List Int)),((ss.zip ws).map (·.1)).Sublist ss
 |[],_=>by simp
 |_::_,[]=>by simp
 |a::r,b::t=>by rw[List.zip_cons_cons,Js];exact(Zfz r t).cons₂ a
theorem Zfy:∀(ss:List Int)(ws:List (List Int)),((ss.zip ws).map (·.2)).Sublist ws
 |[],_=>by simp
 |_::_,[]=>by simp
 |a::r,b::t=>by rw[List.zip_cons_cons,Js];exact(Zfy r t).cons₂ b
def WOk.free(h:WOk ws){ss:List Int}(nd:ss.Nodup):Free (ss.zip ws):=by
 let h1:((ss.zip ws).map (·.1)).Nodup:=nd.sublist (Zfz ss ws);let h2:PF ((ss.zip ws).map (·.2)):=h.1.sub (Zfy ss ws);exact(Ge.mp h1).and (Ge.mp h2) |>.imp λz=>⟨z.1,z.2.1,z.2.2⟩
def Qo(H:Hp)(a:Addr)(ws:List (List Int)):Prop:=∃vs,H a=some (.lst vs)/\Xt H vs ws
def Zgi:Sp:=λvs H Q _=>∃(p a sa:Addr)(m lg:Int)(bs:List Int),vs=[.ref p,.ref sa,.int m,.int lg]/\HandAt H p a/\H sa=some (.lst (bs.map V.int))/\sa≠p/\bs.Nodup/\bs≠[]/\bs.length<=24/\0<=m/\m<=6/\1<=lg/\lg<=4 /\
 ∀(l:Addr)(ws:List (List Int))(H':Hp),H l=none->l≠p->Qo H' l ws->WOk ws->(ws.length:Int)<=bs.length+m*bs.length->HandAt H' p a->Grow p H H'->Q (.ref l) H'
section
variable{a:Addr}{i:Nat}{y:V}
def Zib(e:H a=some (.lst xs))(hi:i<xs.length):(Itl K a).go i H:=⟨_,_,SqL.of e,Ja hi⟩
def Nn(e:H a=some (.lst xs))(hi:xs.length<=i):(Itl K a).stop i H:=⟨_,SqL.of e,hi⟩
def Zc0(e:H a=some (.lst xs))(hi:i<xs.length)(z:(Itl K a).yld i H y H'):H'=H/\y=xs[i]:=by
 exists z.1,?_;let:=z.2 _ (SqL.of e);rw[Ja hi]at this;exact(Fv this).symm
end
def Y5{p a:Addr}(h:HandAt H p a):∃xs,H p=some (.lst xs):=let⟨_,_,_,e,_⟩:=h.ex;⟨_,e⟩
def Xt.take1(h:Xt H vs ws){i:Nat}(hi:i<vs.length):∃(hj:i<ws.length)(t:Addr),vs[i]=.ref t/\H t=some (.tup (ws[i].map V.int)):=by
 let hj:i<ws.length:=by rw[<-Paired.length h];exact hi
 let⟨t,e,z⟩:=L2.Paired.at h hi hj;exists hj,t,e,z
def Zgl:Sp:=λvs H Q _=>∃(p a:Addr)(m:Int),vs=[.ref p,.int m]/\HandAt H p a/\0<=m/\m<=100 /\
 ∀(l:Addr)(ss:List Int)(H':Hp),H l=none->l≠p->H' l=some (.lst (ss.map V.int))->ss.Nodup->(ss.length:Int)=m->HandAt H' p a->Grow p H H'->Q (.ref l) H'
def Zgk:Sp:=λvs H Q _=>∃(p a wa sa:Addr)(ws:List (List Int))(ss:List Int),vs=[.ref p,.ref wa,.ref sa]/\HandAt H p a/\Qo H wa ws/\wa≠p/\WOk ws/\ws.length<=28/\H sa=some (.lst (ss.map V.int))/\sa≠p/\ss.Nodup/\ws.length<=ss.length/\ss.length<=100 /\
 ∀(l:Addr)(L:List Pr)(H':Hp),H l=none->l≠p->Tb H' l L->Free L->Fits L->(L.map (·.2)).Perm ws->HandAt H' p a->Grow p H H'->Q (.ref l) H'
def Free.rev(h:Free L):Free L.reverse:=List.pairwise_reverse.mpr (h.imp λz=>⟨z.1.symm,z.2.2,z.2.1⟩)
theorem Zgf{b s:Int}(hs:1<=s)(n:Nat):((Ef n).map λk:Nat=>b+s*(k:Int)).Nodup:=by
 refine Ge.mpr (Bh.mpr λi j hi hj hij=>?_);simp only[Jeh];intro e;let h3:0<s*((j:Int)-(i:Int)):=Jij () ();rw[Jf7]at h3;lia
def Q5{ss:List Int}(h:ss.Nodup)(n:Nat):(ss.drop n++ss.take n).Nodup:=by
 let:(ss.take n++ss.drop n).Nodup:=by rw[B5];exact h
 exact(List.perm_append_comm.nodup_iff).mp this
def Uy.same{x:Addr}(h:Uy C H x S)(s:Same H H'):Uy C H' x S:=by
 let⟨dx,tp,d1,d2,d3,d4,ex,⟨⟨vs,a1,a2⟩,⟨k1,b1,b2⟩,⟨k2,c1,c2⟩,⟨k3,f1,f2⟩,⟨k4,g1,g2⟩⟩⟩:=h;exists dx,tp,d1,d2,d3,d4,s _ _ ex,⟨vs,s _ _ a1,Prs.tk a2 s.tk⟩,⟨k1,s _ _ b1,λp hp=>?_,b2.2⟩,⟨k2,s _ _ c1,c2⟩,⟨k3,s _ _ f1,f2⟩,⟨k4,s _ _ g1,g2⟩;let⟨t,u,v⟩:=b2.1 p hp;exists t,u,s _ _ v
theorem Zoj:∀(ns:List Int)(c:Option Int),(∀n∈ns,n<=(mxOf c ns).getD 0)/\∀z,c=some z->z<=(mxOf c ns).getD 0
 |[],c=>⟨λn h=>(nomatch h),λz e=>by subst e;exact Jb1 _⟩
 |n::r,none=>by
  let⟨h1,h2⟩:=Zoj r (some n);exists λm hm=>?_,λz e=>nomatch e;rcases Jq.mp hm with e|hm
  .rw[e];exact h2 n rfl
  .exact h1 m hm
 |n::r,some c=>by
  let⟨h1,h2⟩:=Zoj r (some (if c<n then n else c));let h3:=h2 _ rfl;exists λm hm=>?_,λz e=>?_
  .rcases Jq.mp hm with e|hm
   .rw[e];refine Jc4 ?_ h3
    split<;>lia
   .exact h1 m hm
  .injection e with e
   rw[<-e];refine Jc4 ?_ h3
   split<;>lia
theorem Zoi{b:Int}:∀(ns:List Int)(c:Option Int),0<=b->(∀n∈ns,n<=b)->(∀z,c=some z->z<=b)->(mxOf c ns).getD 0<=b
 |[],none,h0,_,_=>h0
 |[],some c,_,_,h=>h c rfl
 |n::r,none,h0,h1,_=>Zoi r (some n) h0 (λm hm=>h1 m (Jh _ hm)) λz e=>by injection e with e;rw[<-e];exact h1 n Jn
 |n::r,some c,h0,h1,h2=>Zoi r _ h0 (λm hm=>h1 m (Jh _ hm)) λz e=>by
  injection e with e
  rw[<-e];let a:=h1 n Jn;let b:=h2 c rfl
  split<;>lia
def Zgm(C:Addr):Sp:=λvs H Q _=>∃(x t:Addr)(S:List Pr)(u:List Int),vs=[.ref x,.ref t]/\Uy C H x S/\H t=some (.tup (u.map V.int))/\(∀p∈S,p.2=u->Q (.int p.1) H)/\((∀p∈S,p.2≠u)->Q .non H)
def Zit(h:Free S){p q:Pr}(hp:p∈S)(hq:q∈S){l:List Int}(p1:p.2<+:l)(q1:q.2<+:l):p=q:=by
 let⟨i,hi,rfl⟩:=Ju hp;let⟨j,hj,rfl⟩:=Ju hq;let z:=Ky p1 q1;rcases Bz i j with l|l|l
 .let a:=h.get hi hj l;rcases z with z|z
  .exact absurd z a.2.1
  .exact absurd z a.2.2
 .subst l;rfl
 .let a:=h.get hj hi l;rcases z with z|z
  .exact absurd z a.2.2
  .exact absurd z a.2.1
def Free.perm(h:Free L)(p:S.Perm L):Free S:=(p.pairwise_iff (λ{a b}z=>⟨z.1.symm,z.2.2,z.2.1⟩)).mpr h
def Fits.perm(h:Fits L)(p:S.Perm L):Fits S:=⟨by rw[p.length_eq];exact h.1,λx hx=>h.2 x (p.mem_iff.mp hx)⟩
def Zdw(C:Addr):Sp:=λvs H Q _=>∃(x r:Addr)(S:List Pr)(ns:List Int)(pl:Nat),vs=[.ref x,.ref r,.int pl]/\Uy C H x S/\Fits S/\H r=some (.lst (ns.map V.int))/\pl<=ns.length /\
 (∀p∈S,p.2<+:ns.drop pl->∀(t:Addr)(H':Hp),Same H H'->H' t=some (.tup (p.2.map V.int))->Q (.ref t) H')/\((∀p∈S,¬ p.2<+:ns.drop pl)->∀H',Same H H'->Q .non H')
def Yd(T:List Pr):List Int:=(T.map λq:Pr=>q.2).flatten
def Yo(T:List Pr):List Int:=T.map λq:Pr=>q.1
def Sv(p:Pr)(T:List Pr):Yd (p::T)=p.2++Yd T:=rfl
def Rl(A B:List Pr):Yd (A++B)=Yd A++Yd B:=by unfold Yd;rw[Jg,List.flatten_append]
theorem T3(h:Fits S):∀{T:List Pr},(∀p∈T,p∈S)->(Yd T).length<=4*T.length
 |[],_=>by simp[Yd]
 |p::T,m=>by
  let a:=T3 h (T:=T) λq hq=>m q (Jh _ hq);let b:=(h.2 p (m p Jn)).2;rw[Sv,Jd,Jx];lia
def Zkr(T:List Pr){i:Nat}(hi:i<T.length):(Yd T).drop (Yd (T.take i)).length=T[i].2++Yd (T.drop (i+1)):=by
 let e:Yd T=Yd (T.take i)++(T[i].2++Yd (T.drop (i+1))):=by
  rw[<-Sv,<-Bi hi,<-Rl,B5]
 rw[e,List.drop_left]
def Zkq{T:List Pr}{i:Nat}(hi:i<T.length):Yd (T.take (i+1))=Yd (T.take i)++T[i].2:=by
 rw[Jt hi,Rl,Sv];simp[Yd]
def Zl0:Sp:=λvs H Q _=>∃(p a sa:Addr)(ss:List Int)(m:Int),vs=[.ref p,.ref sa,.int m]/\HandAt H p a/\H sa=some (.lst (ss.map V.int))/\sa≠p/\0<=m/\m<=200 /\
 ∀(l:Addr)(ts:List Int)(H':Hp),H l=none->l≠p->H' l=some (.lst (ts.map V.int))->(∀t∈ts,t∈ss)->(ts.length:Int)<=m->HandAt H' p a->Grow p H H'->Q (.ref l) H'
theorem Zpd(w:List Int){k m:Nat}(h:k<=w.length):cutV (w.map V.int) (some (k:Int)) (some ((k:Int)+(m:Int)))=((w.drop k).take m).map V.int:=by
 unfold cutV;rw[<-Lq,HT.sIx_nat,HT.sIx_nat,Jb,B4 h,Bs,B0];refine List.take_eq_take_iff.mpr ?_;rw[J8,Jb];lia
def Zum{c A:Prop}[Decidable c](hc:¬ c)(h:A):if(!decide c)=true then A else B:=by
 rw[Fu hc];exact iteT h
def Zr8{c A:Prop}[Decidable c](hc:c)(h:A):if decide c=true then A else B:=by
 rw[Ft hc];exact iteT h
def Zr9{c A:Prop}[Decidable c](hc:¬ c)(h:B):if decide c=true then A else B:=by
 rw[Fu hc];exact iteF h
section
def Zcm(K:Cp):List V->Hp->VK->Prop:=λxs H Q=>∃p ys,xs=[.ref p]/\(SqL K H p ys\/SqT K H p ys)/\∀l,H l=none->Q (.ref l) (upd H l (.lst ys))
def Vf(h:X.K=K):Vj X (.type "list") (Zcm K):=by subst h;exact Zbu
def Zmc(K:Cp):List V->Hp->VK->Prop:=λxs H Q=>∃p ys,xs=[.ref p]/\((SqL K H p ys/\∀l,H l=none->Q (.ref l) (upd H l (.tup ys)))\/(SqT K H p ys/\Q (.ref p) H))
def Zjo(h:X.K=K):Vj X (.type "tuple") (Zmc K):=by subst h;exact X7
def rIsi(K:Cp):List V->Hp->VK->Prop:=λxs H Q=>∃x T t b,xs=[x,.ty T]/\TyOf K H x t/\Eb K t (.type T)=some b/\Q (.bl b) H
def Pq(h:X.K=K):Vj X (.builtin "isinstance") (rIsi K):=by subst h;exact Zln
end
abbrev En:=Nat×Option Int
variable{R:List L2.En}
inductive Went(S:List Pr)(ns:List Int):List En->Nat->Prop where
 |nil:Went S ns [] 0
 |lost {R:List En} {pl:Nat}:Went S ns R pl->pl<ns.length->(∀p∈S,¬ p.2<+:ns.drop pl)->Went S ns (R++[(pl,none)]) (pl+1)
 |word {R:List En} {pl:Nat} {p:Pr}:Went S ns R pl->p∈S->p.2<+:ns.drop pl->p.2≠[]->Went S ns (R++[(pl,some p.1)]) (pl+p.2.length)
theorem Zhc{w:List Int}(h:w<+:ns.drop pl)(hw:w≠[]):pl<ns.length/\pl+w.length<=ns.length:=by
 let a:=h.length_le;let b:=Gk.mpr hw;rw[J8]at a;lia
theorem Went.le(h:Went S ns R pl):pl<=ns.length:=by
 cases h with
 |nil=>exact Gf _
 |lost _ h _=>exact h
 |word _ _ h1 h2=>exact(Zhc h1 h2).2
theorem Went.len(h:Went S ns R pl):R.length<=pl:=by
 induction h with
 |nil=>exact Je _
 |lost _ _ _ ih=>rw[Jd,Gn];lia
 |word _ _ _ h2 ih =>
  let:=Gk.mpr h2;rw[Jd,Gn];lia
theorem Went.one(fr:Free S){A:List En}(h:Went S ns A pa):∀{B:List En}{pb:Nat},Went S ns B pb->A.length=B.length->A=B/\pa=pb:=by
 induction h with
 |nil =>
  intro B pb hb e;cases hb with
  |nil=>exact⟨rfl,rfl⟩
  |lost=>simp at e
  |word=>simp at e
 |lost _ h1 h2 ih =>
  intro B pb hb e;cases hb with
  |nil=>simp at e
  |lost b1 b2 b3 =>
   let⟨rfl,rfl⟩:=ih b1 (by simpa using e);exists rfl,rfl
  |word b1 b2 b3 b4 =>
   let⟨rfl,rfl⟩:=ih b1 (by simpa using e);exact absurd b3 (h2 _ b2)
 |word _ h1 h2 h3 ih =>
  intro B pb hb e;cases hb with
  |nil=>simp at e
  |lost b1 b2 b3 =>
   let⟨rfl,rfl⟩:=ih b1 (by simpa using e);exact absurd h2 (b3 _ h1)
  |word b1 b2 b3 b4 =>
   let⟨rfl,rfl⟩:=ih b1 (by simpa using e);obtain rfl:=Zit fr h1 b2 h2 b3;exists rfl,rfl
theorem Went.cut{B:List En}(h:Went S ns B pb):∀n,n<B.length->∃p',Went S ns (B.take n) p'/\p'<ns.length:=by
 induction h with
 |nil=>intro n hn;exact absurd hn (G6 _)
 | @lost R pl g h1 h2 ih =>
  intro n hn;rw[Jd,Gn]at hn
  by_cases z:n<R.length
  .let⟨p',a,b⟩:=ih n z;exists p',by rw[G0 ()];exact a,b
  .let:n=R.length:=by lia
   subst this;exists pl,by rw[Fh];exact g,h1
 | @word R pl p g h1 h2 h3 ih =>
  intro n hn;rw[Jd,Gn]at hn
  by_cases z:n<R.length
  .let⟨p',a,b⟩:=ih n z;exists p',by rw[G0 ()];exact a,b
  .let:n=R.length:=by lia
   subst this;exists pl,by rw[Fh];exact g,(Zhc h2 h3).1
theorem Went.uniq(fr:Free S){A B:List En}(ha:Went S ns A pa)(ea:ns.length<=pa)(hb:Went S ns B pb)(eb:ns.length<=pb):A=B:=by
 rcases Bz A.length B.length with l|l|l
 .let⟨p',a,b⟩:=hb.cut _ l;let⟨_,e⟩:=ha.one fr a (by rw[Ji];lia);lia
 .exact(ha.one fr hb l).1
 .let⟨p',a,b⟩:=ha.cut _ l;let⟨_,e⟩:=hb.one fr a (by rw[Ji];lia);lia
def oV:Option Int->V
 |some z=>.int z
 |none=>.non
def Told(S:List Pr)(ns:List Int)(R:List En):Prop:=∃pl,Went S ns R pl/\ns.length<=pl
def Told.uniq(fr:Free S){A B:List En}(a:Told S ns A)(b:Told S ns B):A=B:=by
 let⟨pa,a1,a2⟩:=a;let⟨pb,b1,b2⟩:=b;exact a1.uniq fr a2 b1 b2
def Zh5(R:List En):List Int:=(R.filter λe=>e.2.isNone).map λe=>((e.1:Nat):Int)
def Itd(d:Addr)(o:Obj)(kvs:List (Key×V)):It:=⟨λi H=>H d=some (.frz o (.dK kvs))/\i<kvs.length,λi H x H'=>H'=H/\∃kv,kvs[i]?=some kv/\x=kV kv.1,λi H=>H d=some (.frz o (.dK kvs))/\kvs.length<=i⟩
def Zos{k:Key}{v:Value}(h:Za9 k v=true):RelV (kV k) v:=by
 rcases Yj h with⟨i,t,rfl,rfl⟩|⟨x,t,rfl,rfl⟩
 .exists t,rfl
 .exists t,rfl
def Zeg{w:Ct}{d:Addr}{o:Obj}{kvs:List (Key×V)}{es0:Array DictEntry}{ep:Nat}(ok:HOk P w H h)(e:H d=some (.frz o (.dK kvs)))(hep:o.data=.dict es0 ep) :
  kvs.length<=sizeLine/\(d==E1)=false/\∃vs,KV kvs vs/\h.DictAt (Yx P w) d vs ep:=by
 let⟨e1,z,hd,vs,r,ob,es,ep',e2,c,dd,rest⟩:=(show Yt P w H h d (.frz o (.dK kvs))from ok d _ e);let eo:ob=o:=Fv (e2.symm.trans e1);subst eo;rw[hep]at dd;injection dd with d1 d2
 subst d1 d2;exists z,hd,vs,r,ob,es0,e1,c,hep,rest
theorem Zf8{w:Ct}(d:Addr)(o:Obj)(kvs:List (Key×V)){es0:Array DictEntry}{ep:Nat}(hep:o.data=.dict es0 ep)(it:Addr):Turn P w K tg (Itd d o kvs) [it] it (λi h=>h.IsKeyIter it d i kvs.length ep) where
 mem:=by simp
 obj:=λi h st b hb=>by
  obtain rfl:b=it:=by simpa using hb
  let⟨o,e,c,d⟩:=st;exact⟨o,e,λv z=>by rw[d]at z;cases z⟩
 keep:=λi h h' st k=>let⟨o,e,r⟩:=st;⟨o,k it (by simp) o e,r⟩
 item:=by
  intro X hP hw hK hc i pq s σ H E I hf st hg;subst hP hw hK;let⟨f0,f1,f2,f3,f4,f5⟩:=hf it (by simp);let⟨hd,hi⟩:=hg;let⟨_,_,vs,r,da⟩:=Zeg I.hok hd hep;let hl:=Paired.length r;let hi2:i<vs.length:=by lia
  let hr:=L2.Paired.at r hi hi2;rw[hl]at st;refine wpAny_pyNext_dict_item (k:=vs[i].1) (v:=vs[i].2) st da (by rw[Ja hi2]) λkey h' hk st' sb=>?_;let I1:Inv X pq σ H {s with heap:=h',toks:=s.toks}:=I.turned (λb o hb e=>(sb.2 b hb).trans e) f0 f1 f3 f4 f5;rw[<-hl]at st';let⟨o',e',c',d'⟩:=id st';exists key,rfl,Ziq (s:={s with heap:=h',toks:=s.toks}) e' c' d' nofun ⟨kV kvs[i].1,H,I1,by rw[hr.1];exact Zos hk,⟨rfl,kvs[i],Ja hi,rfl⟩,st',λb hb=>(hf b hb).1⟩
 done:=by
  intro X hP hw hK hc i pq s σ H E I hf st hg;subst hP hw hK;let⟨f0,f1,f2,f3,f4,f5⟩:=hf it (by simp);let⟨hd,hi⟩:=hg;let⟨_,_,vs,r,da⟩:=Zeg I.hok hd hep;let hl:=Paired.length r;rw[hl]at st;exact wpAny_pyNext_dict_end (I.ok.hd hc) st da (by simp;lia) λh' eb=>⟨rfl,I.turned (t':=s.toks) (λb o hb e=>eb b o hb e) f0 f1 f3 f4 f5⟩
 self:=λ_ _ _ _ _ st h=>wpAny_pyIter_keyiter st h
section
def dAlt(R:It->Hp->Prop)(d:Addr)(kvs:List (Key×V))(H1:Hp):Prop:=(H1 d=some (.dK kvs)/\∀o,R (Itd d o kvs) (upd H1 d (.frz o (.dK kvs))))\/∃o,H1 d=some (.frz o (.dK kvs))/\R (Itd d o kvs) H1
def Zsg(tl:TE):TI:=λσ H R=>tl σ H λx H1=>∃d kvs,x=.ref d/\dAlt R d kvs H1
def Zn6{l:Expr}{tl:TE}(hl:PE X l tl):PI X tg l (Zsg tl):=by
 intro pq s σ H R I h;refine thn (hl pq s σ H _ I h) λv s1 hz=>?_;let⟨x,H1,I1,r1,q1⟩:=hz;let⟨d,kvs,e,q⟩:=q1;subst e;cases r1;let go:∀(o:Obj)(H2:Hp),Inv X pq σ H2 s1->H2 d=some (.frz o (.dK kvs))->R (Itd d o kvs) H2->Cc (Cd X.prog X.w) X.A (pyIter (.ref d)) (PIE X pq σ tg R) X.xe s1:=λo H2 I2 e2 q2=>by
  let⟨e1,z,hd,vs,r,ob,es,ep,e3,c,dd,rest⟩:=(show Yt X.prog X.w H2 s1.heap d (.frz o (.dK kvs))from I2.hok d _ e2);let eo:ob=o:=Fv (e3.symm.trans e1);subst eo;let hl:=Paired.length r;refine wpAny_pyIter_dict hd ⟨ob,es,e3,c,dd,rest⟩ ?_;exists s1.heap.objs.size,[s1.heap.objs.size],_,_,H2,rfl,I2.kept (t':=s1.toks) λb o e=>Fm _ e,Zf8 d ob kvs dd _,?_,λb hb=>?_,q2
  .rw[hl];exists _,Fn _ rfl,rfl,rfl
  .let e:b=s1.heap.objs.size:=by simpa using hb
   subst e;exact I2.fpOk (Je _) (I2.hok.fresh (Je _))
 rcases q with⟨e1,q⟩|⟨o,e1,q⟩
 .let⟨z,hd,vs,r,ob,es,ep,e3,c,dd,rest⟩:=I1.hok d _ e1;let I2:Inv X pq σ (upd H1 d (.frz ob (.dK kvs))) {s1 with heap:=s1.heap,toks:=s1.toks}:=I1.write (x:=d) (e:=d) (by rw[e1];exact trivial) (.inl rfl) (λb u _ h=>h) ⟨_,e3⟩ ⟨e3,z,hd,vs,r,ob,es,ep,e3,c,dd,rest⟩;exact go ob _ I2 Zg (q ob)
 .exact go o H1 I1 e1 q
end
theorem Went.step(h:Went S ns R pl):∀i(hi:i<R.length),∃p',Went S ns (R.take i) p'/\R[i].1=p'/\p'<ns.length /\
  ((R[i].2=none/\(∀p∈S,¬ p.2<+:ns.drop p')/\Went S ns (R.take (i+1)) (p'+1))\/∃p∈S,R[i].2=some p.1/\p.2<+:ns.drop p'/\p.2≠[]/\Went S ns (R.take (i+1)) (p'+p.2.length)):=by
 induction h with
 |nil=>intro i hi;exact absurd hi (G6 _)
 | @lost R pl g h1 h2 ih =>
  intro i hi
  by_cases z:i<R.length
  .let⟨p',a1,a2,a3,a4⟩:=ih i z;exists p',?_;rw[G0 (),G0 (),Mw z];exists a1,a2,a3,a4
  .let e:i=R.length:=by rw[Jd,Gn]at hi;lia
   subst e;exists pl,by rw[Fh];exact g,by simp,h1,.inl ⟨by simp,h2,?_⟩;rw[Gc (by simp)];exact .lost g h1 h2
 | @word R pl p g h1 h2 h3 ih =>
  intro i hi
  by_cases z:i<R.length
  .let⟨p',a1,a2,a3,a4⟩:=ih i z;exists p',?_;rw[G0 (),G0 (),Mw z];exists a1,a2,a3,a4
  .let e:i=R.length:=by rw[Jd,Gn]at hi;lia
   subst e;exists pl,by rw[Fh];exact g,by simp,(Zhc h2 h3).1,.inr ⟨p,h1,by simp,h2,h3,?_⟩;rw[Gc (by simp)];exact .word g h1 h2 h3
section
variable{M:Jge}{Ex:Value->Ca->Prop} 
structure Noted(fs:List Addr)(ea T:Addr)(oe:Obj)(fl:Value)(h h':Heap):Prop where
 keep:∀b o,b∉fs->b≠ea->h.get? b=some o->h'.get? b=some o
 slot:∀b o,b≠ea->h.get? b=some o->∃sl,h'.get? b=some {o with slots:=sl}
 new:h.objs.size<=T
 exc:h'.get? ea=some (oe.mapFields (·.setIfInBounds 1 (.ref T)))
 tb:∃ob ts,h'.get? T=some ob/\ob.data=.fields ts/\ts[3]?=some fl
 ne:T≠ea
def Ru{base:Heap}{l:List Env}{vs:Array Value}(ff:h.FunFrames base l)(eo:h.get? ea=some oe)(od:oe.data=.fields vs):ea∉frs l:=λz=>by
 let⟨_,o,ho,hnf⟩:=ff.mem z;rw[eo]at ho;cases ho;exact hnf vs od
def Px{base:Heap}{env:Env}{outer:List Env}{L:Addr}{vs:Array Value}{head:Value}{flag:Bool}{Q:Unit->Ca->Prop}(fr:A.frames=some (env::outer))(ff:s.heap.FunFrames base (env::outer))(ef:env.frame=some L)(eo:s.heap.get? ea=some oe)(od:oe.data=.fields vs)(sz:1<vs.size)(k:∀h' T,Noted (frs (env::outer)) ea T oe (Et L) s.heap h'->Q ⟨⟩ {s with heap:=h'}) :
  Cc M A (do let a <-frameOf env;let pl <-entryPlaceOf L flag;let b <-Jds head a .none (Et L) .none pl;setField (.ref ea) 1 b) Q Ex s:=by
 let nf:ea∉frs (env::outer):=Ru ff eo od;refine Fk (wpAny_frameOf_fun fr ff ef λg1 sl1=>?_);refine Fk (wpAny_entryPlaceOf λpl hpl=>?_);unfold Jds newFields;refine Fk (Eo ?_ (hpl.sizeOk5 _ _ _ _ _));let e1:g1.get? ea=some oe:=(sl1.2.1 ea nf).trans eo;generalize hO:({cls:=.type "traceback",dict:=none,data:=.fields ([head,.ref L,.none,Et L,.none]++(if pl.isEmpty then Co 6 Value.none else pl)).toArray}:Obj)=tbo;let e2:(g1.push tbo).get? ea=some oe:=Fm _ e1;let lt:ea<g1.objs.size:=Fo e1;let nT:g1.objs.size≠ea:=Fe lt;refine wpAny_setField e2 od sz (k _ g1.objs.size ?_)
 let td:tbo.data=.fields ([head,.ref L,.none,Et L,.none]++(if pl.isEmpty then Co 6 Value.none else pl)).toArray:=by rw[<-hO]
 let gT:(g1.push tbo).get? g1.objs.size=some tbo:=Fn g1 (Ht td);let ed:=Md od (·.setIfInBounds 1 (Cb g1.objs.size));exists λb o hb hne q=>?_,λb o hne q=>?_,G8 sl1.1.symm,C7 _ e2 (Ht ed),⟨tbo,_,?_,td,?_⟩,nT
 .rw[Ck _ _ (Cu hne)];exact Fm _ ((sl1.2.1 b hb).trans q)
 .let⟨sl,e⟩:=sl1.2.2 b o q;exact⟨sl,by rw[Ck _ _ (Cu hne)];exact Fm _ e⟩
 .rw[Ck _ _ (Cu nT)];exact gT
 .simp
structure Gone(fs:List Addr)(ea:Addr)(T0:Option Addr)(oe:Obj)(vs:Array Value)(h h':Heap):Prop where
 keep:∀b o,b∉fs->b≠ea->some b≠T0->h.get? b=some o->h'.get? b=some o
 slot:∀b o,b≠ea->some b≠T0->h.get? b=some o->∃sl,h'.get? b=some {o with slots:=sl}
 flow:∃T vs' ob ts,h.objs.size<=T/\h'.get? ea=some {oe with data:=.fields vs'}/\vs'.size=vs.size/\vs'[1]?=some (.ref T)/\h'.get? T=some ob/\ob.data=.fields ts/\ts[3]?=some .none/\T≠ea
def mapF{vs:Array Value}(od:oe.data=.fields vs)(f:Array Value->Array Value):oe.mapFields f={oe with data:=.fields (f vs)}:=by
 let⟨c,d,dt,sl⟩:=oe;cases od;rfl
def Pl{fs:List Addr}{T:Addr}{vs:Array Value}{L:Addr}{h0:Heap}{Q:Unit->Ca->Prop}(od:oe.data=.fields vs)(sz:1<vs.size)(nt:Noted fs ea T oe (Et L) h0 s.heap)(k:∀h',Gone fs ea none oe vs h0 h'->Q ⟨⟩ {s with heap:=h'}):Cc M A (K2 (.ref ea) none) Q Ex s:=by
 let ex:=nt.exc;rw[mapF od]at ex;let⟨ob,ts,eT,dT,h3⟩:=nt.tb;let s3:3<ts.size:=(Gv.mp h3).1;refine Jdi ex rfl (by rw[G4,Fs sz]) eT dT s3 (k _ ?_);let dd:=Md dT (·.setIfInBounds 3 Value.none);let lt0:∀b o,h0.get? b=some o->T≠b:=λb o q z=>absurd (Fo q) (Fj.mpr (by rw[<-z];exact nt.new));exists λb o hb hne _ q=>?_,λb o hne _ q=>?_,T,vs.setIfInBounds 1 (.ref T),_,_,nt.new,?_,?_,?_,C7 _ eT (Ht dd),dd,?_,nt.ne
 .rw[Ck _ _ (lt0 b o q)];exact nt.keep b o hb hne q
 .let⟨sl,e⟩:=nt.slot b o hne q;exact⟨sl,by rw[Ck _ _ (lt0 b o q)];exact e⟩
 .rw[Ck _ _ nt.ne];exact ex
 .simp
 .rw[G4,Fs sz]
 .rw[G4,Fs s3]
def Zcu{base:Heap}{env:Env}{outer:List Env}{L:Addr}{vs:Array Value}{Q:Unit->Ca->Prop}(fr:A.frames=some (env::outer))(ff:s.heap.FunFrames base (env::outer))(ef:env.frame=some L)(eo:s.heap.get? ea=some oe)(od:oe.data=.fields vs)(v1:vs[1]?=some .none)(k:∀h',Gone (frs (env::outer)) ea none oe vs s.heap h'->Q ⟨⟩ {s with heap:=h'}) :
  Cc M A (Hq (.ref ea) env) (λ_ s2=>Cc M A (K2 (.ref ea) none) Q Ex s2) Ex s:=by
 let sz:1<vs.size:=(Gv.mp v1).1;unfold Hq;simp only[ef];refine Fk (El eo od v1 ?_);rw[Fp nofun];exact Px fr ff ef eo od sz λh' T nt=>Pl (s:={s with heap:=h'}) od sz nt λh2 g=>k h2 g
def Pi{base:Heap}{env:Env}{outer:List Env}{L T0:Addr}{oT:Obj}{vs ts:Array Value}{Q:Unit->Ca->Prop}(fr:A.frames=some (env::outer))(ff:s.heap.FunFrames base (env::outer))(ef:env.frame=some L)(eo:s.heap.get? ea=some oe)(od:oe.data=.fields vs)(v1:vs[1]?=some (.ref T0))(eT:s.heap.get? T0=some oT)(dT:oT.data=.fields ts)(t3:ts[3]?=some .none)(ne:T0≠ea)(k:∀h',Gone (frs (env::outer)) ea (some T0) oe vs s.heap h'->Q ⟨⟩ {s with heap:=h'}) :
  Cc M A (Hq (.ref ea) env) (λ_ s2=>Cc M A (K2 (.ref ea) none) Q Ex s2) Ex s:=by
 let sz:1<vs.size:=(Gv.mp v1).1;unfold Hq;simp only[ef];refine Fk (El eo od v1 ?_);rw[Fs (show(Cb T0 != Value.none)=true by simp)];refine Fk (El eT dT t3 ?_);rw[Fp (show ¬ ((Value.none==Et L)=true)by simp[Et])];refine Fk (wpAny_setField eT dT (Gv.mp t3).1 ?_);let oth:∀b,b≠T0->(s.heap.update T0 (Hf (·.setIfInBounds 3 Value.none))).get? b=s.heap.get? b:=λb hb=>Ck _ _ (Cu hb);let nfT:T0∉frs (env::outer):=Ru ff eT dT;let ff2:(s.heap.update T0 (Hf (·.setIfInBounds 3 Value.none))).FunFrames base (env::outer):=ff.of_keeps λb o hb hnf=>⟨o,(oth b λz=>by
  rw[z,eT]at hb;cases hb;exact hnf ts dT).trans hb,rfl⟩
 refine Px (s:={s with heap:=s.heap.update T0 (Hf (·.setIfInBounds 3 Value.none))}) fr ff2 ef ((oth ea (Cu ne)).trans eo) od sz λh' T nt=>Pl (s:={s with heap:=h'}) od sz nt λh2 g=>k h2 ?_;let szU:(s.heap.update T0 (Hf (·.setIfInBounds 3 Value.none))).objs.size=s.heap.objs.size:=Heap.size_after_update ..;let⟨T1,vs1,ob1,ts1,z1,zr⟩:=g.flow;exists λb o hb hne hT q=>g.keep b o hb hne (by simp) ((oth b λz=>hT (by rw[z])).trans q),λb o hne hT q=>g.slot b o hne (by simp) ((oth b λz=>hT (by rw[z])).trans q),T1,vs1,ob1,ts1,by rw[<-szU];exact z1,zr
def T9{env:Env}{e:Value}{Q:Unit->Ca->Prop}(h:Cc M A (Hq e env) (λ_ s2=>Cc M A (K2 e none) Q Ex s2) Ex s):Cc M A (Jhk env e) Q Ex s:=by
 unfold Jhk;exact Fk h
end
def excP(ea C:Addr)(d:Option Addr)(h:Heap):Prop:=∃oe vs,h.get? ea=some oe/\oe.cls=.ref C/\oe.dict=d/\oe.data=.fields vs/\vs.size=6
def excP.ok{w:Ct}{d:Option Addr}(x:excP ea C d h):Yt P w H h ea (.ext (excP ea C d)):=by
 let⟨oe,vs,e,r⟩:=id x;exists x,⟨oe,e⟩,λh1 h2⟨o1,v1,e1,r1⟩k=>⟨o1,v1,k _ e1,r1⟩
def Zdn(ea T:Addr)(h:Heap):Prop:=∃oe vs oT ts,h.get? ea=some oe/\oe.data=.fields vs/\vs[1]?=some (.ref T)/\h.get? T=some oT/\oT.data=.fields ts/\ts[3]?=some .none/\T≠ea
def CXE(P:Ep)(w:Ct):CXT:=λouter H s E e s'=>∃(ea C T:Addr)(d:Option Addr)(H':Hp),e=.ref ea/\s'.os=s.os/\Ja0 s'.gens/\Un (frs outer) [] H H' s.heap s'.heap/\HOk P w H' s'.heap /\
 H' ea=some (.ext (excP ea C d))/\s.heap.objs.size<=ea/\H' T=none/\s.heap.objs.size<=T/\Zdn ea T s'.heap/\E (.ref C) d H'
section
def Inv.gone{d:Option Addr}{vs:Array Value}(I:Inv X pq σ H s)(hx:X.ex=[])(hst:∀b∈frs X.stack,b∈X.fs\/X.s₀.heap.objs.size<=b)(hea:H ea=some (.ext (excP ea C d)))(eo:s.heap.get? ea=some oe)(od:oe.data=.fields vs)(hT:∀T,T0=some T->H T=none/\X.s₀.heap.objs.size<=T)(g:Gone (frs X.stack) ea T0 oe vs s.heap h'):Un X.fs [] X.H₀ H X.s₀.heap h'/\HOk X.prog X.w H h':=by
 let u:=I.base;rw[hx]at u;let ub:∀b o,X.s₀.heap.get? b=some o->some b≠T0:=λb o q z=>by
  let:=(hT b z.symm).2;exact absurd (Fo q) (Fj.mpr this)
 exists⟨λb o q n hb _=>?_,λb o q n hb _=>?_,λb o q n _=>u.free b o q n (by simp),λb o q _=>?_,u.tups,u.frzs,u.tbls⟩,λb o q=>?_
 .let n2:=u.free b o q n (by simp);let ne:b≠ea:=λz=>by rw[z,hea]at n2;cases n2
  refine g.keep b o (λz=>?_) ne (ub b o q) (u.keep b o q n hb (by simp));rcases hst b z with z|z
  .exact hb z
  .exact absurd (Fo q) (Fj.mpr z)
 .let n2:=u.free b o q n (by simp);let ne:b≠ea:=λz=>by rw[z,hea]at n2;cases n2
  let⟨sl,e⟩:=u.slot b o q n hb (by simp);let⟨sl2,e2⟩:=g.slot b _ ne (ub b o q) e;exists sl2,e2
 .let⟨o',e⟩:=u.there b o q (by simp)
  by_cases ne:b=ea
  .subst ne;let⟨_,_,_,_,_,e3,_⟩:=g.flow;exists _,e3
  .let⟨sl,e2⟩:=g.slot b o' ne (ub b o q) e;exists _,e2
 .let nfr:∀c y,H c=some y->c∉frs X.stack:=λc y r z=>by rw[I.stkFree c z]at r;cases r
  let nT:∀c y,H c=some y->some c≠T0:=λc y r z=>by rw[(hT c z.symm).1]at r;cases r
  by_cases ne:b=ea
  .subst ne;rw[hea]at q;cases q;let⟨⟨o1,v1,a1,a2,a3,a4,a5⟩,_,_⟩:=I.hok b _ hea;let⟨T,vs',ob,ts,_,e3,e4,_⟩:=g.flow;rw[eo]at a1;cases a1;rw[od]at a4;cases a4;exact excP.ok ⟨_,vs',e3,a2,a3,rfl,by rw[e4];exact a5⟩
  .refine(I.hok b o q).stay (λc v hc r=>?_) (λ_ z=>z) λ_ _ z=>z;rcases hc with hc|hc
   .rw[hc]at r⊢;exact g.keep b v (nfr b o q) ne (nT b o q) r
   .let ne2:c≠ea:=λz=>by rw[z,hea]at hc;cases hc
    exact g.keep c v (nfr c _ hc) ne2 (nT c _ hc) r
end
section
variable{w:Ct}{base:Heap}{scope:Scope}{f:Addr}{outer:List Env}{E:XK}
abbrev cxE(P:Ep)(w:Ct)(K:Cp)(mg:Str->Option Value)(base:Heap)(N:List Str)(qual:Str)(scope:Scope)(f:Addr)(cd:Value)(A:L6)(outer:List Env)(s:Ca)(H:Hp)(E:XK):Cx:=cxOf (CXE P w) P w K mg base N qual scope f cd A outer s H E
def Zje:∀b∈frs (cxE P w K mg base N qual scope f cd A outer s H E).stack,b∈(cxE P w K mg base N qual scope f cd A outer s H E).fs\/(cxE P w K mg base N qual scope f cd A outer s H E).s₀.heap.objs.size<=b:=λb hb=>by
 rcases Jq.mp (show b∈s.heap.objs.size::frs outer from hb)with z|z
 .exact .inr (G8 z.symm)
 .exact .inl z
def Lies(ea:Addr)(T0:Option Addr)(h:Heap):Prop:=match T0 with
 |none=>∃oe vs,h.get? ea=some oe/\oe.data=.fields vs/\vs[1]?=some .none
 |some T=>Zdn ea T h
theorem Zpz{s2:Ca}{d:Option Addr}(I:Inv (cxE P w K mg base N qual scope f cd A outer s H E) pq σ H2 s2)(hea:H2 ea=some (.ext (excP ea C d)))(lea:s.heap.objs.size<=ea)(hT:∀T,T0=some T->H2 T=none/\s.heap.objs.size<=T)(fl:Lies ea T0 s2.heap)(q:E (.ref C) d H2):(cxE P w K mg base N qual scope f cd A outer s H E).xe (.ref ea) s2:=by
 let fin:∀(oe:Obj)(vs:Array Value)(h':Heap),s2.heap.get? ea=some oe->oe.data=.fields vs->Gone (frs (cxE P w K mg base N qual scope f cd A outer s H E).stack) ea T0 oe vs s2.heap h'->CXE P w outer H s E (.ref ea) {s2 with heap:=h'}:=λoe vs h' eo od g=>by
  let⟨un,hok⟩:=I.gone rfl Zje hea eo od hT g;let⟨T,vs',ob,ts,z1,z2,z3,z4,z5,z6,z7,z8⟩:=g.flow;exists ea,C,T,d,H2,rfl,I.os,I.bare,un,hok,hea,lea,I.hok.fresh z1,J0 I.sz z1,⟨_,vs',ob,ts,z2,rfl,z4,z5,z6,z7,z8⟩,q
 show Cc (Cd P w) _ (Jhk _ _) _ _ _;cases T0 with
 |none =>
  let⟨oe,vs,eo,od,v1⟩:=fl;exact T9 (Zcu (base:=base) I.ok.frames I.stack rfl eo od v1 λh' g=>fin oe vs h' eo od g)
 |some T =>
  let⟨oe,vs,oT,ts,eo,od,v1,eT,dT,t3,ne⟩:=fl;exact T9 (Pi (base:=base) I.ok.frames I.stack rfl eo od v1 eT dT t3 ne λh' g=>fin oe vs h' eo od g)
def Zoa:V4 (CXE P w) (cxE P w K mg base N qual scope f cd A outer s H E) E:=by
 intro pq σ H1 s1 e s2 I hx;let⟨ea,C,T,d,H2,rfl,os,bare,un,hok,hea,lea,nT,lT,fl,q⟩:=hx;let I2:Inv (cxE P w K mg base N qual scope f cd A outer s H E) pq σ H2 s2:=I.call' os un hok bare (ch:=[]) λb z=>absurd z (by simp);exact Zpz (T0:=some T) I2 hea (J0 I.sz lea) (λT' z=>by cases z;exact⟨nT,J0 I.sz lT⟩) fl q
end
def CalE(P:Ep)(w:Ct)(K:Cp)(mg:Str->Option Value)(base:Heap)(x:Str)(k:Nat)(ps:List Str)(sp:Sp):Prop :=
 ∃f fd,FnOk P w K mg base (CXE P w) k f fd ps sp/\mg x=some (.ref f)/\Ja3 K (.ref f)=true/\Vn K fd ps []
section
variable{E:XK}{k:Nat}{x:Str}{p:Pos}{e:Expr}{t:TA}
def Zcr(C:CalE X.prog X.w X.K X.mg X.base x k ps sp)(hr:Room k X.A)(hg:Gl X x)(hx:V4 (CXE X.prog X.w) X E)(ha:PA X (e::es) t)(hdb:(x==("__debug__":Str))=false:=by decide)(he:Ch (e::es) X.env=(false,eval e X.env)::Ch es X.env:=by rfl)(hpl:(Hm pos (Ch es X.env)).any (·.1)=false:=by rfl):PE X (.Call (.Name x p) (e::es) [] pos) (Ze4 sp [] E t):=by
 let⟨f,fd,F,hm,hk,hb⟩:=C;exact Zhj F hr hg hm hk hb .nil hx ha hdb he hpl
end
section
variable{w:Ct}{base:Heap}
def Fun.okE{x:Str}{f:Addr}{k:Nat}(F:Fun K x qual st f fd)(S:FnScope N ps (Zn st))(len:∀vs H Q E,sp vs H Q E->vs.length=ps.length)(hbody:∀(cdv:Value)(A:L6)(outer:List Env)(s:Ca)(H:Hp)(vs:List V)(Q:VK)(E:XK),Room k (A.deeper (Hy qual (Zn st) s.heap.objs.size f cdv))->sp vs H Q E ->
   ∃t,PSs (cxE P w K mg base N qual (Zn st) f cdv A outer s H E) (Y8 st) t/\t {nx:=λ_ H'=>Q .non H',rt:=Q} (Uz N vs) H):FnOk P w K mg base (CXE P w) (k+1) f fd ps sp:=by
 let⟨oc,od,kV,doc,pm,an,cdv,ct,osl,rfl,lk,hcd⟩:=F.ex;exact Zo4 lk hcd S len λA outer s H vs Q E hr hsp=>hbody cdv A outer s H vs Q E hr hsp
end
end L2
variable{R:List L2.En}
namespace L2
open PySem PySem.Spec PyProof.Rows PySem.W
abbrev veB:List Value:=[.type "ValueError",.type "Exception",.type "BaseException",.type "object"]
def excI(K:Frag)(C fI:Addr):Bool:=match K.lookup C with
 |some o=>(match o.cls with|.type t=>t == "type" |_=>false)&&(match o.data with
  |.cls cd=>(match cd.mro,o.slots.toList with
   |.ref C'::bm,[_,_,_,_,some (.builtin n),_]=>C'==C&&(n == "ValueError.__new__" && (!cd.hasDel&&(tailIn K veB bm&&(nsOkIn K cd.ns&&cd.hasDict))))
   |_,_=>false)
  |_=>false)
 |none=>false
def Sr(K:Frag)(C:Addr):Option (Option Value):=match K.lookup C with
 |some ⟨_,_,.cls cd,_⟩=>nsIn K cd.ns "__init__"
 |_=>none
def ExcA(h:Heap)(C:Addr)(o:Option (Option Value)):Prop:=∃bm N nm q bs sn sub ab col dd k0 k1 k2 k3 k5 mN,h.get? C=some (excClassObj nm q C N bs bm true sn sub ab col dd k0 k1 k2 k3 k5 "ValueError.__new__")/\h.Ns N mN/\(∀z,o=some z->mN "__init__"=z)/\OwnTail h veB bm
def ExcI(h:Heap)(C fI:Addr):Prop:=∃bm N nm q bs sn sub ab col dd k0 k1 k2 k3 k5 mN,h.get? C=some (excClassObj nm q C N bs bm true sn sub ab col dd k0 k1 k2 k3 k5 "ValueError.__new__")/\h.Ns N mN/\mN "__init__"=some (.ref fI)/\OwnTail h veB bm
def Zfe{K:Frag}{N:Addr}{n:Str}{v:Value}(X:K.In h)(G:h.Ns N mg)(e:nsIn K N n=some (some v)):mg n=some v:=by
 let⟨o,es,ep,ho,hd,_,hf⟩:=G;unfold nsIn at e
 split at e
 .rename_i c d es' n' sl q
  let z:=X _ _ q;rw[ho]at z;cases z;cases hd
  split at e
  .rename_i y he
   injection e with e
   rw[<-hf];unfold nsFind findBy;rw[<-L7,he];exact e
  .rename_i he
   split at e<;>cases e
 .cases e
def Zff{K:Frag}{N:Addr}{n:Str}(X:K.In h)(G:h.Ns N mg)(e:nsIn K N n=some none):mg n=none:=by
 let⟨o,es,ep,ho,hd,_,hf⟩:=G;unfold nsIn at e
 split at e
 .rename_i c d es' n' sl q
  let z:=X _ _ q;rw[ho]at z;cases z;cases hd
  split at e
  .cases e
  .rename_i he
   rw[<-hf];unfold nsFind findBy;rw[<-L7,he];rfl
 .cases e
theorem Qj{K:Frag}(X:K.In h)(q:excI K C fI=true):ExcA h C (Sr K C):=by
 unfold excI at q;cases ho:K.lookup C with
 |none=>rw[ho]at q;cases q
 |some o =>
  rw[ho]at q;let⟨cl,dd,dt,sl⟩:=o;let⟨q0,q⟩:=Bool.and_eq_true_iff.mp q;dsimp only at q0 q;let ec:cl=.type "type":=by
   cases cl with
   |type t=>rw[beq_iff_eq.mp q0]
   |_=>cases q0
  subst ec;clear q0;cases dt with
  |cls cd=>?_
  |_=>cases q
  dsimp only at q
  split at q
  .rename_i C' bm k0 k1 k2 k3 n k5 hm hs
   let hin:Sr K C=nsIn K cd.ns "__init__":=by unfold Sr;rw[ho]
   simp only[B2,beq_iff_eq,Jev]at q;let⟨_,rfl,rfl,hdel,ht,hok,hdi⟩:=q;let⟨nm,bs,mro,ns,qn,hd,sn,sub,ab,col,del⟩:=cd;dsimp only at hm hdel hok hdi hin;subst hm hdel hdi;let hsl:sl=#[k0,k1,k2,k3,some (.builtin "ValueError.__new__"),k5]:=by
    let⟨l⟩:=sl;simp only at hs;rw[hs]
   subst hsl;exists bm,ns,nm,qn,bs,sn,sub,ab,col,dd,k0,k1,k2,k3,k5,_,X _ _ ho,.of_isNs (Jhd X hok),λz hz=>?_,tail_of_in X ht;rw[hin]at hz;cases z with
   |none=>exact Zff X (.of_isNs (Jhd X hok)) hz
   |some v=>exact Zfe X (.of_isNs (Jhd X hok)) hz
  .cases q
def Zo5{K:Frag}(X:K.In h)(q:excI K C fI=true)(hi:Sr K C=some (some (.ref fI))):ExcI h C fI:=by
 let⟨bm,N,nm,q,bs,sn,sub,ab,col,dd,k0,k1,k2,k3,k5,mN,cO,cN,cI,T⟩:=Qj X q;exists bm,N,nm,q,bs,sn,sub,ab,col,dd,k0,k1,k2,k3,k5,mN,cO,cN,cI _ hi,T
section
variable{w:Ct}{g:Array GenState}{d:Drawn}{t:Nat}{os:OsState}
def Zf9{oI:Obj}{rest:List Value}{Q:Jf2->Ca->Prop}(x:ExcI h C fI)(fo:h.get? fI=some oI)(fc:oI.cls=.type "function")(sz:rest.length<=sizeLine)(k:∀h',Jdm h h' (h.objs.size+1) (.ref C) rest->Cc (Cd prog w) A (call (.ref fI) (.ref (h.objs.size+1)::rest)) (λr s'=>r=.none/\Q (.done (.ret (.ref (h.objs.size+1)))) s') E ⟨h',g,d,t,os⟩) :
  Cc (Cd prog w) A (Builtin.«type.__call__» ⟨.ref C::rest,[]⟩) Q E ⟨h,g,d,t,os⟩:=by
 let⟨bm,N,nm,q,bs,sn,sub,ab,col,dd,k0,k1,k2,k3,k5,mN,cO,cN,cI,T⟩:=x;let F:=PySem.F.excBase_ValueError
 repeat (first|wp_step|with_reducible refine C1 cO ?_|with_reducible refine wpAny_madeBy_exc cO ?_)
 refine codeAny_call_builtin_code (Kp _ F.quiet) (wpAny_check_new_subT F T cO ?_);refine codeAny_exc_new_subT F T cO ?_ sz;show Cc _ _ _ _ _ _;generalize hO1:({cls:=.type "tuple",data:=.seq rest.toArray}:Obj)=o1;generalize hO2:({cls:=.ref C,data:=.fields #[.ref h.objs.size,.none,.none,.none,.bool false,.none]}:Obj)=o2;let kp:∀b o,h.get? b=some o->((h.push o1).push o2).get? b=some o:=λb o e=>Fm _ (Fm _ e);let f1:o1.isFreed=false:=by rw[<-hO1];rfl
 let f2:o2.isFreed=false:=by rw[<-hO2];rfl
 let at2:((h.push o1).push o2).get? (h.objs.size+1)=some o2:=by
  let:=Fn (h.push o1) f2;rwa [Ew]at this
 let c2:o2.cls=.ref C:=by rw[<-hO2]
 let self:(Cb C::bm).contains (.ref C)=true:=by simp
 let cO1:=kp _ _ cO;let cN1:=cN.keeps kp;let T1:=T.keeps kp;unfold Jez
 repeat (first|(with_reducible refine C1 at2 ?_;rw[c2])|(with_reducible refine Jdt cO1 ?_;rw[self])|wp_step)
 show Cc _ _ (Jda (.ref C) _) _ _ _;refine wpAny_typeLookup_tail cO1 cN1 T1 F.mroIs F.init.lookup ?_;rw[cI];refine Cw (Fk ?_);unfold bindSpecial;refine Fk (Kg (T:="function") ⟨_,kp _ _ fo,fc⟩ ?_);rw[Fs nofun];let made:Jdm h ((h.push o1).push o2) (h.objs.size+1) (.ref C) rest:=⟨kp,La (Bg _),h.objs.size,by rw[at2,<-hO2],La (Je _),by rw[hO1];exact Fm _ (Fn h f1)⟩;refine Fl (Fk (Fx (k _ made) (λr s' hr=>?_) λ_ _ z=>z));let⟨rfl,hQ⟩:=hr
 wp_walk
 exact hQ
def Zlo{oI:Obj}{rest:List Value}{Q:Value->Ca->Prop}(x:ExcI h C fI)(fo:h.get? fI=some oI)(fc:oI.cls=.type "function")(sz:rest.length<=sizeLine)(k:∀h',Jdm h h' (h.objs.size+1) (.ref C) rest->Cc (Cd prog w) (A.under (.builtin "type.__call__" ⟨.ref C::rest,[]⟩)) (call (.ref fI) (.ref (h.objs.size+1)::rest)) (λr s'=>r=.none/\Q (.ref (h.objs.size+1)) s') E ⟨h',g,d,t,os⟩) :
  Cc (Cd prog w) A (call (.ref C) rest) Q E ⟨h,g,d,t,os⟩:=by
 let⟨bm,N,nm,q,bs,sn,sub,ab,col,dd,k0,k1,k2,k3,k5,mN,cO,cN,cI,T⟩:=id x;let z1:=tc_lookup;let z2:=tc_bind (.ref C);let ty:(⟨h,g,d,t,os⟩:Ca).TypeIs (.ref C) "type":=⟨_,cO,rfl⟩;refine Ke (Jf8 ?_);show Cc _ _ (callAny (.ref C) _) _ _ _
 repeat (any_goals (first|assumption|wp_step|with_reducible refine C1 cO ?_))
 exists rfl,?_;exact codeAny_call_builtin_at (Kp _ (by decide +kernel)) entry_typeCall (wpAny_check_type_call_sub cO (Zf9 x fo fc sz k))
end
end L2
namespace L2
open PySem PySem.Spec PyProof.Rows PySem.W PySem.Builtin PySem.Builtin.ObjectAttr
def Zg0(self:Value):refuseLoop self "__setattr__" veB=pure ⟨⟩:=by kernel_rfl
theorem Zcl(self:Value){bm:List Value}(T:OwnTail h veB bm):refuseLoop self "__setattr__" bm=pure ⟨⟩:=by
 induction T with
 |base=>exact Zg0 self
 |own _ _ _ _ ih=>rw[refuseLoop_ref];exact ih
section
variable{w:Ct}{K:Frag}{a:Addr}
def Zhm{od:Option Obj}{tk:Tok}{v:Value}{R:Jd4->Ca->Prop}(X:K.In s.heap)(q:excI K C fI=true)(I:InstAt s.heap a ox C od)(ho:Ej K C (.type "object")=some true)(ht:Cs K (.ref C) name=some none)(k:Cc (Cd prog w) A.in1 (storeInOwnDict (.ref a) (.ref C) (.str name tk) name v false) (λfin s'=>match fin with|.done f=>R (.ok f) s'|.again c'=>c'.quiet=true/\Hb (Cd prog w) A c' R s') (λe s'=>R (.error e) s') s) :
  Hb (Cd prog w) A (.call (.builtin "object.__setattr__") ⟨[.ref a,.str name tk,v],[]⟩) R s:=by
 let SF:=PySem.F.store_object;let sub:Looks (Cd prog w) s.heap (Jez (.ref a) (.type "object")) true:=I.type.andThen (Hu X ho);refine Lb SF.slot.plain SF.entry (@check_slot (Cd prog w) _ _ s "object.__setattr__" "object" "__setattr__" (.ref a) [.str name tk,v] [] _ SF.kind SF.split sub (SF.args (.ref a) (.str name tk) v) ?_);let⟨bm,N,nm,qn,bs,sn,sub',ab,col,dd,k0,k1,k2,k3,k5,mN,cO,cN,cI,T⟩:=Qj X q;rw[osa_eq,refuse_eq];refine Fk (Fk (I.type.here (Fk ?_)));let⟨hh,g,d,t,os⟩:=s;refine wpAny_mroOf_exc cO ?_;rw[refuseLoop_ref,Zcl _ T];refine Fl (Fk (I.type.here (Fk ((Me X ht).here (Fk ?_)))))
 show Cc _ _ (pure none) _ _ _;refine Fl ?_;exact k
theorem Zkk{vs:Array Value}{v:Value}{Q:Unit->Ca->Prop}(X:K.In s.heap)(q:excI K C fI=true)(ho:Ej K C (.type "object")=some true)(ht:Cs K (.ref C) name=some none)(hs:Cs K (.ref C) "__setattr__"=some (some (.builtin "object.__setattr__")))(ao:s.heap.get? a=some ox)(cl:ox.cls=.ref C)(dn:ox.dict=none)(od:ox.data=.fields vs)(k:∀h',h'.Ns1 s.heap.objs.size (λy=>if y=name then some v else none)->h'.get? a=some {ox with dict:=some s.heap.objs.size}->(∀b o,b≠a->s.heap.get? b=some o->h'.get? b=some o)->Q ⟨⟩ {s with heap:=h',toks:=s.toks+2}) :
  Cc (Cd prog w) A (Jib (.ref a) name v) Q E s:=by
 let I:InstAt s.heap a ox C none:=⟨ao,cl,by let⟨c,dd,dt,sl⟩:=ox;cases od;rfl,by rw[dn];trivial⟩;refine Jfx X I hs (Zhm (s:={s with toks:=s.toks+1}) X q I ho ht ?_);let⟨bm,N,nm,qn,bs,sn,sub',ab,col,dd,k0,k1,k2,k3,k5,mN,cO,cN,cI,T⟩:=Qj X q;let⟨c,di,dt,sl⟩:=ox;dsimp only at cl dn od;subst cl dn od;refine Fk (Fl (Fk (Fk (wpAny_loadPart ao (Fk ?_)))));unfold classData;refine Fk (Jeo cO (Fl ?_));show Cc _ _ (alloc {cls:=.type "dict",data:=.dict #[]} >>= λd=>update a (λo=>{o with dict:=some d}) >>= λ_=>dictMade (.ref C) a d) _ _ _;refine Fk (wpAny_alloc ?_)
 let ao2:(s.heap.push {cls:=.type "dict",data:=.dict #[]}).get? a=some _:=Fm _ ao;refine Fk (wpAny_update ao2 ?_);refine Fl ?_;refine Fk (Fl (Fk ?_));let fz:(s.heap.push {cls:=.type "dict",data:=.dict #[]}).objs.size=s.heap.objs.size+1:=Ew ..;let ne:a≠s.heap.objs.size:=J9 (Fo ao);generalize hU:(s.heap.push {cls:=.type "dict",data:=.dict #[]}).update a (λo=>{o with dict:=some s.heap.objs.size})=hp;let aU:hp.get? a=some {cls:=.ref C,dict:=some s.heap.objs.size,data:=.fields vs,slots:=sl}:=by
  rw[<-hU];exact C7 _ ao2 rfl
 let oU:∀b o,b≠a->(s.heap.push {cls:=.type "dict",data:=.dict #[]}).get? b=some o->hp.get? b=some o:=λb o hb e=>by
  rw[<-hU,Ck _ _ (Cu hb)];exact e
 let dU:hp.get? s.heap.objs.size=some {cls:=.type "dict",data:=.dict #[]}:=oU _ _ (Cu ne) (Fn s.heap rfl);let hn0:hp.Ns1 s.heap.objs.size (λ_=>none):=⟨_,#[],_,dU,rfl,(λe he=>absurd he (by simp)),by first|trivial|exact Jeu|(intro x;simp),λ_=>rfl⟩;let w0:Hl (λ_:Str=>(none:Option Value)) []:=λn hn=>absurd rfl hn;refine Je4 (s:={s with heap:=hp,toks:=s.toks+1}) hn0 λh' hn2 hs2=>?_;let⟨oD,esD,epD,hoD,hdD,hcD⟩:=hn2.count (Mp name v w0);refine Fk (Jb7 hoD (by rw[hdD];exact Jb8 (J0 hcD (by show 1<=sizeLine+1;lia))) ?_)
 exact Fl (k h' hn2 ((hs2.2 _ ne).trans aU) λb o hb e=>(hs2.2 b (λz=>by
  rw[z]at e;exact absurd (Fo e) (Gw _))).trans (oU b o hb (Fm _ e)))
theorem Zkj{vs:Array Value}{v:Value}{ns:List Str}{Q:Unit->Ca->Prop}(X:K.In s.heap)(q:excI K C fI=true)(ho:Ej K C (.type "object")=some true)(ht:Cs K (.ref C) name=some none)(hs:Cs K (.ref C) "__setattr__"=some (some (.builtin "object.__setattr__")))(ao:s.heap.get? a=some ox)(cl:ox.cls=.ref C)(dn:ox.dict=some dx)(od:ox.data=.fields vs)(hn:s.heap.Ns1 dx mA)(ne:dx≠a)(hw:Hl mA ns)(sz:ns.length<=1000)(k:∀h',h'.Ns1 dx (λy=>if y=name then some v else mA y)->E9 dx s.heap h'->Q ⟨⟩ {s with heap:=h',toks:=s.toks+2}) :
  Cc (Cd prog w) A (Jib (.ref a) name v) Q E s:=by
 let⟨odx,_,_,edx,_⟩:=id hn;let I:InstAt s.heap a ox C (some odx):=⟨ao,cl,by let⟨c,dd,dt,sl⟩:=ox;cases od;rfl,by rw[dn];exact edx⟩;refine Jfx X I hs (Zhm (s:={s with toks:=s.toks+1}) X q I ho ht ?_);let⟨bm,N,nm,qn,bs,sn,sub',ab,col,dd,k0,k1,k2,k3,k5,mN,cO,cN,cI,T⟩:=Qj X q;let⟨c,di,dt,sl⟩:=ox;dsimp only at cl dn od;subst cl dn od;refine Fk (Fl (Fk (Fk (wpAny_loadPart ao (Fk ?_)))));unfold classData;refine Fk (Jeo cO (Fl ?_));refine Fl (a:=some dx) (Fk (Fl (Fk ?_)));refine Je4 (s:={s with toks:=s.toks+1}) hn λh' hn2 hs2=>?_;let⟨oD,esD,epD,hoD,hdD,hcD⟩:=hn2.count (Mp name v hw)
 refine Fk (Jb7 hoD (by rw[hdD];exact Jb8 (J0 hcD (by rw[Jx,C2];lia))) ?_);exact Fl (k h' hn2 hs2)
end
section
variable{w:Ct}{K:Frag}{a:Addr}
def Zo1{expr:Bool}{vs:Array Value}{v:Value}{Q:Value->Ca->Prop}(X:K.In s.heap)(hh:hasDictIn K C=true)(hb:Ej K C (.type "BaseException")=some true)(g1:Cs K (.ref C) "__getattribute__"=some (some (.builtin "BaseException.__getattribute__")))(g2:Cs K (.ref C) "__getattr__"=some none)(ht:Cs K (.ref C) name=some none)(ao:s.heap.get? a=some ox)(cl:ox.cls=.ref C)(dn:ox.dict=some dx)(od:ox.data=.fields vs)(hn:s.heap.Ns1 dx mA)(hv:mA name=some v)(hv':handedIn v=true)(k:Q v {s with toks:=s.toks+1}) :
  Cc (Cd prog w) A (Jhj (.ref a) name expr) Q E s:=by
 let⟨odx,eo,hl⟩:=Za5 hn;let I:InstAt s.heap a ox C (some odx):=⟨ao,cl,by let⟨c,dd,dt,sl⟩:=ox;cases od;rfl,by rw[dn];exact eo⟩;let L0:=I.type (M:=Cd prog w);let L1:=Me (M:=Cd prog w) X g1;let L2:=Me (M:=Cd prog w) X g2;let L3:=looks_find (M:=Cd prog w) X I (findObj_own hh ht rfl (by rw[hl,hv]));let L4:Looks (Cd prog w) s.heap (Jez (.ref a) (.type "BaseException")) true:=I.type.andThen (Hu X hb);let⟨hp,g,d,t,os⟩:=s;unfold Jhj Jf6;refine Fk (wpAny_mkText (Cw (Fk (L0.at (Fk (L1.at ?_))))));show Cc _ _ (Lr (.ref a) (.str name t) (.ref C) (.builtin "BaseException.__getattribute__") true expr) _ _ _
 unfold Lr hookBefore;rw[Fs (show onTheHeap (Cb C)=true from rfl)];refine Fk (L2.at (Fk (Le (Cw ?_))));unfold callGetattribute;rw[Fp (show ¬ ((expr&&onTheHeap (Lf "BaseException.__getattribute__"))=true)by cases expr<;>exact Jj)];unfold boundAndCalled;let ga:=PySem.F.attrBase_ValueError.ga;rw[ga.bind];refine Fk (Fl ?_);show Cc _ _ (call (Lf "BaseException.__getattribute__") [.ref a,.str name t]) _ _ _;refine Ke (Lb ga.plain F.entry_bexc_ga ?_);let hk:builtinKind "BaseException.__getattribute__"=some .slot:=by decide +kernel
 let hsp:splitId "BaseException.__getattribute__"=some ("BaseException","__getattribute__"):=by decide +kernel
 refine @check_slot (Cd prog w) _ _ _ "BaseException.__getattribute__" "BaseException" "__getattribute__" (.ref a) [.str name t] [] _ hk hsp L4 (F.args_bexc_ga (.ref a) (.str name t)) ?_;unfold Builtin.«object.__getattribute__»;refine Fk (Fl (Fk (Fl (Fk (L0.at (Fk (L3.at ?_)))))));refine Fl ?_;show Cc _ _ (handedOut v) _ _ _;rw[handedOut_of hv'];exact Fl k
end
end L2
namespace L2
open PySem PySem.Spec PyProof.Rows PySem.W
structure XCl(K:Frag)(C fI:Addr):Prop where
 ei:excI K C fI=true
 ob:Ej K C (.type "object")=some true
 bx:Ej K C (.type "BaseException")=some true
 sa:Cs K (.ref C) "__setattr__"=some (some (.builtin "object.__setattr__"))
 ga:Cs K (.ref C) "__getattribute__"=some (some (.builtin "BaseException.__getattribute__"))
 gt:Cs K (.ref C) "__getattr__"=some none
 hd:hasDictIn K C=true
 kp:keepIn K (.ref C)=true
 fn:Jhe K (.ref fI)=some (.type "function")
 cc:Cs K (.ref C) "__class__"=some (some (.builtin "object.__class__"))
 cg:specialIn K (.builtin "object.__class__") "__get__"=some (some (.builtin "getset_descriptor.__get__"))
 ct:takesIn K (.builtin "object.__class__")=some true
def excN(ea C:Addr)(d:Option Addr)(h:Heap):Prop:=∃oe vs,h.get? ea=some oe/\oe.cls=.ref C/\oe.dict=d/\oe.data=.fields vs/\vs.size=6/\vs[1]?=some .none
def excN.ok{w:Ct}{d:Option Addr}(x:excN ea C d h):Yt P w H h ea (.ext (excN ea C d)):=by
 let⟨oe,vs,e,r⟩:=id x;exists x,⟨oe,e⟩,λh1 h2⟨o1,v1,e1,r1⟩k=>⟨o1,v1,k _ e1,r1⟩
def xdP(d:Addr)(fs:List (Str×V))(h:Heap):Prop:=∃mA,h.Ns1 d mA/\(∀f,RelO (fs.lookup f) (mA f))/\Hl mA (fs.map (·.1))
def xdP.ok{w:Ct}{d:Addr}{fs:List (Str×V)}(x:xdP d fs h):Yt P w H h d (.ext (xdP d fs)):=by
 let⟨mA,⟨o,es,ep,e,r⟩,q⟩:=id x;exists x,⟨o,e⟩,λh1 h2⟨m1,n1,q1⟩k=>⟨m1,n1.at k,q1⟩
section
def Inv.two{d:Addr}{φ ψ o1:HO}(I:Inv X pq σ H s)(hea:H ea=some φ)(mu:Mut (some φ))(hd:s.heap.objs.size<=d)(k:∀b o,b≠ea->s.heap.get? b=some o->h'.get? b=some o)(te:∃o,h'.get? ea=some o)(n1:∀H2,Yt X.prog X.w H2 h' ea o1)(n2:∀H2,Yt X.prog X.w H2 h' d ψ):Inv X pq σ (upd (upd H ea o1) d ψ) {s with heap:=h',toks:=t'}:=by
 let nd:H d=none:=I.hok.fresh hd;let ed:d≠ea:=λz=>by rw[z,hea]at nd;cases nd
 let ld:∀b o,s.heap.get? b=some o->b≠d:=λb o q z=>by rw[z]at q;exact absurd (Fo q) (Fj.mpr hd)
 let at':∀b u,b≠ea->H b=some u->upd (upd H ea o1) d ψ b=some u:=λb u h1 e=>by rw[Zl (λz=>by rw[z,nd]at e;cases e),Zl h1];exact e
 let own:∀c y,H c=some (.own y)->c≠ea:=λc y e z=>by rw[z,hea]at e;cases e;exact mu
 let tup:∀c y,H c=some (.tup y)->c≠ea:=λc y e z=>by rw[z,hea]at e;cases e;exact mu
 let frz:∀c y u,H c=some (.frz y u)->c≠ea:=λc y u e z=>by rw[z,hea]at e;cases e;exact mu
 let tbl:∀c y,H c=some (.tbl y)->c≠ea:=λc y e z=>by rw[z,hea]at e;cases e;exact mu
 refine I.un ⟨λb o q n _ _=>?_,λb o q n _ _=>?_,λb o q n _=>?_,λb o q _=>?_,λb xs e=>at' _ _ (tup _ _ e) e,λb o u e=>at' _ _ (frz _ _ _ e) e,λb ps e=>⟨#[],by rw[at' _ _ (tbl _ _ e) e];simp⟩⟩ (λb o q=>?_)
 .exact k b o (λz=>by rw[z,hea]at n;cases n) q
 .exists o.slots,k b o (λz=>by rw[z,hea]at n;cases n) q
 .rw[Zl (ld b o q),Zl (λz=>by rw[z,hea]at n;cases n)];exact n
 .by_cases z:b=ea
  .rw[z];exact te
  .exists o,k b o z q
 .by_cases z:b=d
  .subst z;rw[Zg]at q;cases q;exact n2 _
  .rw[Zl z]at q
   by_cases z2:b=ea
   .subst z2;rw[Zg]at q;cases q;exact n1 _
   .rw[Zl z2]at q;refine(I.hok b o q).stay (λc v hc r=>?_) (λc e=>at' _ _ (own _ _ e) e) λc xs e=>at' _ _ (tup _ _ e) e;rcases hc with hc|hc
    .rw[hc]at r⊢;exact k b v z2 r
    .exact k c v (own _ _ hc) r
end
def Zt9(K:Frag)(ta tv:TE)(f:Str):TS:=λD σ H=>tv σ H λy H1=>ta σ H1 λx H2=>∃ea C fI,x=.ref ea/\XCl K C fI/\Cs K (.ref C) f=some none /\
  ((H2 ea=some (.ext (excN ea C none))/\∀d,H2 d=none->d≠ea->D.nx σ (upd (upd H2 ea (.ext (excN ea C (some d)))) d (.ext (xdP d [(f,y)])))) \/
   ∃d fs,H2 ea=some (.ext (excN ea C (some d)))/\H2 d=some (.ext (xdP d fs))/\fs.length<1000/\D.nx σ (upd H2 d (.ext (xdP d (putF f y fs)))))
def Znd(K:Frag)(ta:TE)(f:Str):TE:=λσ H Q=>ta σ H λx H1=>∃ea C fI d fs v,x=.ref ea/\XCl K C fI/\Cs K (.ref C) f=some none/\H1 ea=some (.ext (excP ea C (some d)))/\H1 d=some (.ext (xdP d fs))/\fs.lookup f=some v/\Q v H1
section
variable{o:Expr}{f:Str}{tv:TE}
def Zd2{fs:List (Str×V)}{f:Str}{y:V}{u:Value}(r:∀g,RelO (fs.lookup g) (mA g))(ry:RelV y u)(g:Str):RelO ((putF f y fs).lookup g) (if g=f then some u else mA g):=by
 rw[U6]
 by_cases q:g=f
 .rw[Fs q,Fs q];exact ry
 .rw[Fp q,Fp q];exact r g
def Q4{fs:List (Str×V)}{f:Str}{y:V}{u:Value}(wi:Hl mA (fs.map (·.1))):Hl (λg=>if g=f then some u else mA g) ((putF f y fs).map (·.1)):=λg hg=>by
 by_cases q:g=f
 .rw[q];exact(Vw f y fs).1
 .refine(Vw f y fs).2 g (wi g λz=>hg ?_);show(if g=f then some u else mA g)=none;rw[Fp q];exact z
theorem Nc(ha:PE X o ta)(hv:PE X value tv)(hs:Mm value (some (.Attribute o f pos')) pos.line X.env=pure false):PS X (.Assign [.Attribute o f pos'] value pos) (Zt9 X.K ta tv f):=by
 intro pq s σ H D I h;refine Ku (thn (hv pq s σ H _ I h) λu s1⟨y,H1,I1,ry,q⟩=>thn (ha pq s1 σ H1 _ I1 q) λov s2 hz=>?_) hs;let⟨x,H2,I2,rx,ea,C,fI,ex,xc,hf,q2⟩:=hz;subst ex;obtain rfl:ov=Cb ea:=rx;rcases q2 with⟨hea,q2⟩|⟨d,fs,hea,hd,hl,q2⟩
 .let⟨⟨oe,vs,e1,e2,e3,e4,e5,e6⟩,_,_⟩:=I2.hok ea _ hea;refine Zkk I2.kIn xc.ei xc.ob hf xc.sa e1 e2 e3 e4 λh' hn ha' hk=>?_;let nd:=I2.hok.fresh (Je s2.heap.objs.size);refine⟨σ,_,I2.two (d:=s2.heap.objs.size) (ψ:=.ext (xdP s2.heap.objs.size [(f,y)])) (o1:=.ext (excN ea C (some s2.heap.objs.size))) hea Eg (Je _) hk ⟨_,ha'⟩ (λ_=>excN.ok ⟨_,vs,ha',e2,rfl,e4,e5,e6⟩) (λ_=>xdP.ok ⟨_,hn,Zd2 (fs:=[]) (λ_=>Eg) ry,Q4 (fs:=[]) (y:=y) λg hg=>absurd rfl hg⟩),q2 _ nd λz=>by rw[z,hea]at nd;cases nd⟩
 .let⟨⟨oe,vs,e1,e2,e3,e4,e5,e6⟩,_,_⟩:=I2.hok ea _ hea;let⟨⟨mA,n1,r1,w1⟩,_,_⟩:=I2.hok d _ hd;let ne:d≠ea:=λz=>by
   rw[z]at n1;let⟨o',_,_,a1,a2,_⟩:=n1;rw[e1]at a1;cases a1;rw[e4]at a2;cases a2
  refine Zkj I2.kIn xc.ei xc.ob hf xc.sa e1 e2 e3 e4 n1 ne w1 (by rw[Jb];lia) λh' hn sb=>?_;let⟨od',_,_,ed',_⟩:=id hn;exists σ,_,I2.write (x:=d) (e:=d) (by rw[hd];exact Eg) (.inl rfl) (λb u hb e=>(sb.2 b hb).trans e) ⟨od',ed'⟩ (xdP.ok ⟨_,hn,Zd2 r1 ry,Q4 w1⟩),q2
def Zn8(ha:PE X o ta)(hb:Kl o f X.env (eval o X.env)=eval o X.env):PE X (.Attribute o f pos) (Znd X.K ta f):=by
 intro pq s σ H Q I h;refine Zjy hb (thn (ha pq s σ H _ I h) λu s1 hz=>?_);let⟨x,H1,I1,rx,ea,C,fI,d,fs,v,ex,xc,hf,hea,hd,l,q⟩:=hz;subst ex;obtain rfl:u=Cb ea:=rx;let⟨⟨oe,vs,e1,e2,e3,e4,e5⟩,_,_⟩:=I1.hok ea _ hea;let⟨⟨mA,n1,r1,w1⟩,_,_⟩:=I1.hok d _ hd;let⟨u',hu,ru⟩:=RelO.some_of (v:=v) (o:=mA f) (by rw[<-l];exact r1 f);exact Zo1 I1.kIn xc.hd xc.bx xc.ga xc.gt hf e1 e2 e3 e4 n1 hu (Zbg ru) ⟨v,H1,I1.tok _,ru,q⟩
end
def Rx(P:Ep)(w:Ct)(K:Frag)(mg:Str->Option Value)(base:Heap)(x:Str)(C:Addr)(k:Nat)(ps:List Str)(sp:Sp):Prop :=
 ∃fI fd,XCl K C fI/\Sr K C=some (some (.ref fI))/\FnOk P w K mg base CX0 k fI fd ps sp/\mg x=some (.ref C)/\Vn K fd ps []
section
variable{k:Nat} 
theorem Znu{R:Addr->Hp->Prop}(xc:XCl X.K C fI)(xi:Sr X.K C=some (some (.ref fI)))(F:FnOk X.prog X.w X.K X.mg X.base CX0 k fI fd ps sp)(hr:Room (k+1) X.A)(hb:Vn X.K fd ps [])(I:Inv X pq σ H s)(r:Vals vs us)(sz:us.length<=sizeLine)(h:∀ea,H ea=none->sp (.ref ea::vs) (upd H ea (.ext (excN ea C none))) (λv H2=>v=.non/\R ea H2) E0) :
  Cc (Cd X.prog X.w) X.A (call (.ref C) us) (λu s'=>∃ea H2,u=.ref ea/\Inv X pq σ H2 s'/\s.heap.objs.size<=ea/\R ea H2) X.xe s:=by
 let hq:=h (s.heap.objs.size+1) (I.hok.fresh (Bg _));obtain⟨oI,lI,tI⟩:∃o,X.K.lookup fI=some o/\o.cls=.type "function":=by
  let z:Jis (λx=>x.cls) (X.K.lookup fI)=some (.type "function"):=xc.fn;let⟨o,e,c⟩:=Option.map_eq_some_iff.mp z;exists o,e,c
 let fo:=I.kIn _ _ lI;let⟨hp,g,d,t,os⟩:=s;refine Zlo (Zo5 I.kIn xc.ei xi) fo tI sz λh' hm=>?_;let⟨tt,h1,h2,h3⟩:=hm.there;let I2:Inv X pq σ (upd H (hp.objs.size+1) (.ext (excN (hp.objs.size+1) C none))) ⟨h',g,d,t,os⟩:=I.laid (a:=hp.objs.size+1) (h':=h') (t':=t) hm.keeps (Bg _) (excN.ok ⟨_,_,h1,rfl,rfl,rfl,rfl,rfl⟩);let r2:Vals (V.ref (hp.objs.size+1)::vs) (Cb (hp.objs.size+1)::us):=.cons rfl r;let hl:(Cb (hp.objs.size+1)::us++[]).length=ps.length:=by
  let e:=r2.length;rw[F.len _ _ _ _ hq]at e;rw[Gs];exact e.symm
 let bb:=hb ⟨h',g,d,t,os⟩ (Cb (hp.objs.size+1)::us) I2.kIn hl;rw[Gs]at bb;refine Ke (Kf (F.run _ X.stack _ _ ⟨Cb (hp.objs.size+1)::us,[]⟩ (Cb (hp.objs.size+1)::us) _ _ E0 (hr.make C us []) (I2.env0.make C us []) bb r2 hq) λr s' hq'=>?_);cases r with
 |error e=>exact Cq hq'
 |ok fl =>
  cases fl with
  |ret u =>
   let⟨v,H',I3,rv,hv,q⟩:=I2.after hq';subst hv;obtain rfl:u=Value.none:=rv;exists rfl,_,H',rfl,I3,Bg _,q
  |next=>exact Cq hq'
  |brk=>exact Cq hq'
  |cont=>exact Cq hq'
end
section
variable{M:Jge}{Ex:Value->Ca->Prop}{env:Env}
def Zfa{x:Sem Value}{Q:Flow->Ca->Prop}{oi:Option (Option Value)}(hh:A.handled=none)(h:Cc M A x (λv s1=>∃e oe vs,v=.ref e/\ExcA s1.heap C oi/\s1.heap.get? e=some oe/\oe.cls=.ref C/\oe.data=.fields vs/\vs[1]?=some .none/\Ex (.ref e) s1) Ex s) :
  Cc M A (raiseStmt env (some x) none) Q Ex s:=by
 unfold raiseStmt;refine Fk (Fx h (λv s1 h1=>?_) λ_ _ z=>z);let⟨e,oe,vs,rfl,⟨bm,N,nm,q,bs,sn,sub,ab,col,dd,k0,k1,k2,k3,k5,mN,cO,cN,cI,T⟩,he,hc,hd,v1,hE⟩:=h1;let hB:(Cb C::bm).contains (.type "BaseException")=true:=by rw[List.contains_cons,T.hasType PySem.F.excBase_ValueError.hasBase,Bool.or_true]
 let⟨hp,g,d,tk,os⟩:=s1
 repeat (first|(with_reducible refine C1 he ?_;rw[hc])|with_reducible refine El he hd v1 ?_|with_reducible refine C1 cO ?_|(with_reducible refine Jdt cO ?_;rw[hB])|wp_step)
 exact wpAny_raiseNew_none hh hE
end
def Zlw(C:Addr)(sp:Sp)(E:XK)(t:TA):TS:=λ_ σ H=>t σ H λvs H1=>vs.length<=10/\∀ea,H1 ea=none->sp (.ref ea::vs) (upd H1 ea (.ext (excN ea C none))) (λv H2=>v=.non/\∃d,H2 ea=some (.ext (excN ea C (some d)))/\E (.ref C) (some d) (upd H2 ea (.ext (excP ea C (some d))))) E0
section
variable{w:Ct}{K:Frag}{base:Heap}{scope:Scope}{f:Addr}{outer:List Env}{E:XK}
def Tj{k:Nat}{x:Str}{np cpos:Pos}{e:Expr}{t:TA}(R:Rx P w K mg base x C k ps sp)(hr:Room (k+1) (cxE P w K mg base N qual scope f cd A outer s H E).A)(hg:Gl (cxE P w K mg base N qual scope f cd A outer s H E) x)(ha:PA (cxE P w K mg base N qual scope f cd A outer s H E) (e::es) t)(hdb:(x==("__debug__":Str))=false:=by decide)(he:Ch (e::es) (cxE P w K mg base N qual scope f cd A outer s H E).env=(false,eval e (cxE P w K mg base N qual scope f cd A outer s H E).env)::Ch es (cxE P w K mg base N qual scope f cd A outer s H E).env:=by rfl)(hpl:(Hm cpos (Ch es (cxE P w K mg base N qual scope f cd A outer s H E).env)).any (·.1)=false:=by rfl) :
  PS (cxE P w K mg base N qual scope f cd A outer s H E) (.Raise (some (.Call (.Name x np) (e::es) [] cpos)) none pos) (Zlw C sp E t):=by
 intro pq s1 σ H1 D I h;let⟨fI,fd,xc,xi,F,hm,hb⟩:=R;rw[arm_exec_Raise];refine Fk (Ha (Zfa (C:=C) (oi:=Sr K C) (I.ok.hd rfl) ?_));refine Fk (Fx ?_ (λv s3 h3=>Fk (Ha (Fl h3))) λ_ _ z=>z);refine Ec (Vd I hg hm ?_ hdb);refine L9 (h₀:=base) I.ok.mod.kin xc.kp (thn (ha cpos pq s1 σ H1 _ I h) λus s2⟨vs,H2,I2,r,l10,q⟩=>⟨I2.kIn,?_⟩) he hpl;refine Fx (Znu (R:=λea H2=>∃d,H2 ea=some (.ext (excN ea C (some d)))/\E (.ref C) (some d) (upd H2 ea (.ext (excP ea C (some d))))) xc xi F hr hb I2 r (by show us.length<=sizeLine;rw[<-r.length];exact J0 l10 nofun) q) (λu s3 hu=>?_) λ_ _ z=>z
 let⟨ea,H3,rfl,I3,lea,d,hea,qE⟩:=hu;let⟨⟨oe,ws,e1,e2,e3,e4,e5,e6⟩,_,_⟩:=I3.hok ea _ hea;exists ea,oe,ws,rfl,Qj I3.kIn xc.ei,e1,e2,e4,e6,?_;let I4:Inv (cxE P w K mg base N qual scope f cd A outer s H E) pq σ (upd H3 ea (.ext (excP ea C (some d)))) {s3 with heap:=s3.heap,toks:=s3.toks}:=I3.write (x:=ea) (e:=ea) (by rw[hea];exact Eg) (.inl rfl) (λb u _ z=>z) ⟨_,e1⟩ (excP.ok ⟨oe,ws,e1,e2,e3,e4,e5⟩);exact Zpz (T0:=none) I4 Zg (J0 I2.sz lea) (λT z=>by cases z) ⟨oe,ws,e1,e4,e6⟩ qE
end
section
def Zta(X:Cx)(pq:List (Addr×Obj))(σ:St)(Ex:XK)(e:Value)(s':Ca):Prop:=∃(ea C T:Addr)(d:Option Addr)(H':Hp),e=.ref ea/\Inv X pq σ H' s'/\H' ea=some (.ext (excP ea C d))/\Zdn ea T s'.heap/\FpOk X pq H' T/\Ex (.ref C) d H'
def Vg(CX:CXT)(X:Cx)(pq:List (Addr×Obj))(σ:St)(E:XK):Prop:=∀(H:Hp)(s:Ca)(e:Value)(s':Ca),Inv X pq σ H s->CX X.stack H s E e s'->X.xe e s'
def Inv.noted{d:Option Addr}{vs:Array Value}(I:Inv X pq σ H s)(hea:H ea=some (.ext (excP ea C d)))(eo:s.heap.get? ea=some oe)(od:oe.data=.fields vs)(hT:∀T,T0=some T->FpOk X pq H T)(g:Gone (frs X.stack) ea T0 oe vs s.heap h'):Inv X pq σ H {s with heap:=h'}:=by
 let nfr:∀c y,H c=some y->c∉frs X.stack:=λc y r z=>by rw[I.stkFree c z]at r;cases r
 let nT:∀c y,H c=some y->some c≠T0:=λc y r z=>by rw[(hT c z.symm).1]at r;cases r
 let hok:HOk X.prog X.w H h':=λb o q=>by
  by_cases ne:b=ea
  .subst ne;rw[hea]at q;cases q;let⟨⟨o1,v1,a1,a2,a3,a4,a5⟩,_,_⟩:=I.hok b _ hea;let⟨T,vs',ob,ts,_,e3,e4,_⟩:=g.flow;rw[eo]at a1;cases a1;rw[od]at a4;cases a4;exact excP.ok ⟨_,vs',e3,a2,a3,rfl,by rw[e4];exact a5⟩
  .refine(I.hok b o q).stay (λc v hc r=>?_) (λ_ z=>z) λ_ _ z=>z;rcases hc with hc|hc
   .rw[hc]at r⊢;exact g.keep b v (nfr b o q) ne (nT b o q) r
   .let ne2:c≠ea:=λz=>by rw[z,hea]at hc;cases hc
    exact g.keep c v (nfr c _ hc) ne2 (nT c _ hc) r
 let un:Un (frs X.stack) T0.toList H H s.heap h':=by
  let tl:∀b,b∉T0.toList->some b≠T0:=λb hb z=>hb (by rw[<-z];simp);exists λb o q n hb hx=>?_,λb o q n hb hx=>?_,λb o q n _=>n,λb o q hx=>?_,λ_ _ e=>e,λ_ _ _ e=>e,λb ps e=>⟨#[],by rw[e];simp⟩
  .exact g.keep b o hb (λz=>by rw[z,hea]at n;cases n) (tl b hx) q
  .exact g.slot b o (λz=>by rw[z,hea]at n;cases n) (tl b hx) q
  .by_cases ne:b=ea
   .let⟨_,_,_,_,_,e3,_⟩:=g.flow;exact⟨_,by rw[ne];exact e3⟩
   .let⟨sl,e2⟩:=g.slot b o ne (tl b hx) q;exists _,e2
 let:=I.call (g':=s.gens) (d':=s.drawn) (t':=s.toks) un hok I.bare λb hb=>by
  let z:T0=some b:=by
   cases T0 with
   |none=>simp at hb
   |some T=>simp at hb;rw[hb]
  let⟨_,f1,f2,f3,f4,f5⟩:=hT b z;exists f3,f1,f4,f5
 exact this
def Gone.flies{fs:List Addr}{vs:Array Value}(g:Gone fs ea T0 oe vs h h'):∃T,h.objs.size<=T/\Zdn ea T h':=by
 let⟨T,vs',ob,ts,z1,z2,z3,z4,z5,z6,z7,z8⟩:=g.flow;exists T,z1,_,vs',ob,ts,z2,rfl,z4,z5,z6,z7,z8
def Zkc{M:Jge}{i:Nat}{x:Str}{Q:Unit->Ca->Prop}(I:Inv X pq (σ.set i (some v)) H s)(hiσ:i < σ.length)(hi:X.N[i]?=some x)(hN:X.N.Nodup)(hk:X.env.scope.names.lookup x=some .local)(h:∀s',Inv X pq (σ.set i none) H s'->Q ⟨⟩ s'):Cc M A (unbindName X.env x) Q E s:=by
 let⟨m,hn,hl⟩:=id I.loc;let hcls:(X.env.scope.kind == .class ||(X.env.scope.kind == .module&&X.env.locals != X.env.globals))=false:=by rw[I.ok.kind];rfl
 let⟨u0,_,lk⟩:=hl i x v hi (by rw[Jz hiσ]) (.inl hk);let hv:m x=some u0:=by
  rcases lk with⟨_,z⟩|⟨z,_⟩
  .exact z
  .let hk':X.env.kindOf x=some .local:=hk;rw[hk']at z;rcases z with z|z<;>cases z
 refine wpAny_unbindName_local hk hn hv hcls λh' u hn' hs=>h _ ?_;let⟨oL,_,_,hoL,_⟩:=id hn;let ab:∀b o,X.s₀.heap.get? b=some o->b≠X.env.locals:=λb o e=>J9 (Jy (Fo e) I.ok.above);exists I.ok,I.os,I.bare,⟨λb o e n hb hx=>(hs.2 b (ab b o e)).trans (I.base.keep b o e n hb hx),λb o e n hb hx=>?_,I.base.free,λb o e hx=>?_,I.base.tups,I.base.frzs,I.base.tbls⟩,⟨_,hn',λj y v' e1 e2 e3=>?_⟩,λy c e=>?_,I.free,I.freeC,λp hp=>?_,λb ob e=>?_,?_
 .let⟨sl,e1⟩:=I.base.slot b o e n hb hx;exists sl,(hs.2 b (ab b o e)).trans e1
 .let⟨o',e1⟩:=I.base.there b o e hx;exists o',(hs.2 b (ab b o e)).trans e1
 .by_cases hj:j=i
  .subst hj;rw[Jz hiσ]at e2;cases e2
  .rw[Gr (Cu hj)]at e2;let⟨u',r',q⟩:=hl j y v' e1 (by rw[Gr (Cu hj)];exact e2) e3;let yx:y≠x:=λz=>by
    subst z;exact hj ((List.getElem?_inj (Jf.mp e1).1 hN).mp (e1.trans hi.symm))
   exists u',r',?_;rcases q with⟨q1,q2⟩|⟨q1,c,q2,q3⟩
   .exact .inl ⟨q1,by show(if y=x then u else m y)=some u';rw[Fp yx];exact q2⟩
   .refine .inr ⟨q1,c,q2,?_⟩;let⟨o3,e3',d3⟩:=q3;exists o3,(hs.2 c (I.cne y c q2)).trans e3',d3
 .let⟨v3,o3,e3',d3⟩:=I.cell y c e;exists v3,o3,(hs.2 c (I.cne y c e)).trans e3',d3
 .let⟨p1,p2,p3,p4,p5⟩:=I.pin p hp;exists(hs.2 _ p3).trans p1,p2,p3,p4,p5
 .refine(I.hok b ob e).stay (λc w' hc q=>(hs.2 c ?_).trans q) (λ_ q=>q) λ_ _ q=>q;rintro rfl;rcases hc with hc|hc
  .rw[<-hc,I.free]at e;cases e
  .rw[I.free]at hc;cases hc
 .let:=I.len;rw[Gq]at this⊢;exact this
end
abbrev Cx.mrk(X:Cx)(e:Value):Cx:={X with A:=X.A.mark (some e),calm:=false,xe:=λ_ _=>False}
section
variable{e:Value}
def Inv.mrk(I:Inv X pq σ H s)(e:Value):Inv (X.mrk e) pq σ H s :=
 ⟨⟨I.ok.mod,I.ok.kind,I.ok.glob,I.ok.blt,I.ok.above,I.ok.inj,I.ok.has,I.ok.cab,(λz=>by cases z),I.ok.frames,I.ok.stk,I.ok.exf,I.ok.bs,I.ok.bsz,I.ok.noex,I.ok.exfs,I.ok.funs,I.ok.frf⟩,I.os,I.bare,I.base,I.loc,I.cell,I.free,I.freeC,I.pin,I.hok,I.len⟩
def Inv.unmrk(ok:X.Ok)(I:Inv (X.mrk e) pq σ H s):Inv X pq σ H s:=⟨ok,I.os,I.bare,I.base,I.loc,I.cell,I.free,I.freeC,I.pin,I.hok,I.len⟩
theorem SP.unmrk{D:Ends}{f:Flow}(ok:X.Ok)(h:SP (X.mrk e) pq D f s):SP X pq D f s:=by
 cases f with
 |next=>obtain⟨σ',H',I,q⟩:=h;exists σ',H',I.unmrk ok,q
 |brk=>obtain⟨σ',H',I,q⟩:=h;exists σ',H',I.unmrk ok,q
 |cont=>obtain⟨σ',H',I,q⟩:=h;exists σ',H',I.unmrk ok,q
 |ret u=>obtain⟨v,σ',H',I,r,q⟩:=h;exists v,σ',H',I.unmrk ok,r,q
end
section
variable{M:Jge}{K:Frag}{D:Addr}
def Zb7{K:Frag}{D:Addr}(X:K.In s.heap)(ht:Jhe K (.ref D)=some (.type "type")):s.TypeIs (.ref D) "type":=by
 let z:Jis (λx=>x.cls) (K.lookup D)=some (.type "type"):=ht;let⟨o,e,c⟩:=Option.map_eq_some_iff.mp z;exists o,X _ _ e,c
def Zc6{b:Bool}{Q:Bool->Ca->Prop}(X:K.In s.heap)(ht:Jhe K (.ref D)=some (.type "type"))(hb:Ej K D (.type "BaseException")=some true)(he:s.heap.get? ea=some oe)(hc:oe.cls=.ref C)(hm:Ej K C (.ref D)=some b)(k:Q b s) :
  Cc M A (Je0 (.ref ea) (.ref D)) Q E s:=by
 let hT:=Zb7 X ht;let L1:=Hu (M:=M) X hb;let L2:=Hu (M:=M) X hm;let n1:=tc_notTuple;let n2:=tc_sub;obtain⟨oD,cd,lD,dD⟩:∃(oD:Obj)(cd:ClassData),K.lookup D=some oD/\oD.data=.cls cd:=by
  let z:=hb;unfold Ej at z;let⟨cd,z,_⟩:=Option.bind_eq_some_iff.mp z;unfold clsIn at z
  split at z
  .rename_i e
   exists _,_,e,rfl
  .cases z
 let dO:=X _ _ lD;let⟨c0,dd0,dt0,sl0⟩:=oD;dsimp only at dD;subst dD;let⟨hp,g,d,t,os⟩:=s;unfold Je0
 repeat (first|(with_reducible refine C1 he ?_;rw[hc])|with_reducible refine C1 dO ?_|with_reducible refine L1.at ?_|with_reducible refine L2.at ?_|wp_step)
 cases b<;>(wp_walk;exact k)
end
section
variable{w:Ct}{env:Env}{R:Jd4->Ca->Prop}
def Zkh{e:Value}{n:Str}(h:Cc (Cd prog w) A (K2 e none) (λ_ s1=>Cc (Cd prog w) A (bindName env n e) (λ_ s2=>Cc (Cd prog w) A (execs (b0::body) env) (λf s3=>R (.ok f) s3) (λ_ _=>False) s2) (λ_ _=>False) s1) (λ_ _=>False) s) :
  Hb (Cd prog w) A (.handlers e [.ExceptHandler none (some n) (b0::body) pos] env) R s:=by
 refine Jf8 ?_;show Cc _ A (do return Fin.done (<-(handleWith e env [.ExceptHandler none (some n) (b0::body) pos]).onRaise (λx=>do Hq x env;Jc2 x))) _ _ s;refine Fk (wpAny_noted ?_);unfold handleWith;refine Fk (Ha (Fk (Fx h (λ_ s1 h1=>?_) λ_ _ z=>z.elim)));refine Fk (Fx h1 (λ_ s2 h2=>?_) λ_ _ z=>z.elim);exact Fk (Le (Fx h2 (λf s3 h3=>Fl (Fl h3)) λ_ _ z=>z.elim))
def Zkg{e:Value}(h:Cc (Cd prog w) A (K2 e none) (λ_ s2=>Cc (Cd prog w) A (execs (b0::body) env) (λf s3=>R (.ok f) s3) (λ_ _=>False) s2) (λ_ _=>False) s) :
  Hb (Cd prog w) A (.handlers e [.ExceptHandler none none (b0::body) pos] env) R s :=
 codeAny_handlers_suite (Fx h (λ_ _ h1=>Fx h1 (λ_ _ q=>q) λ_ _ z=>z.elim) λ_ _ z=>z.elim)
end
abbrev TH:=Addr->Option Addr->Addr->TS
variable{th thr:L2.TH}
def HS(X:Cx)(hs:List Eu)(th:TH):Prop:=∀(pq:List (Addr×Obj))(s:Ca)(σ:St)(H:Hp)(ea C T:Addr)(d:Option Addr)(D:Ends),Inv X pq σ H s->H ea=some (.ext (excP ea C d))->Zdn ea T s.heap->FpOk X pq H T->th C d ea D σ H ->
 Cc (Cd X.prog X.w) X.A (handleBy (.ref ea) X.env hs) (SP X pq D) X.xe s
def Zqk:TH:=λ_ _ _ _ _ _=>False
def Zmp :HS X [] Zqk:=λ_ _ _ _ _ _ _ _ _ _ _ _ _ h=>h.elim
def offD(i:Nat)(D:Ends):Ends:={nx:=λσ H=>D.nx (σ.set i none) H,rt:=D.rt,bk:=λσ H=>D.bk (σ.set i none) H,ct:=λσ H=>D.ct (σ.set i none) H}
def thAs(K:Frag)(Dc:Addr)(i:Nat)(ts:TS)(thr:TH):TH:=λC d ea D σ H=>∃b,Ej K C (.ref Dc)=some b/\if b=true then ts (offD i D) (σ.set i (some (.ref ea))) H else thr C d ea D σ H
structure Cau(K:Frag)(mg:Str->Option Value)(x:Str)(Dc:Addr):Prop where
 mg:mg x=some (.ref Dc)
 ty:Jhe K (.ref Dc)=some (.type "type")
 bx:Ej K Dc (.type "BaseException")=some true
section
variable{c n:Str}{Dc:Addr}{i:Nat}{rest:List Eu}{np:Pos}{ts:TS} 
def Sn{T:Addr}{M:Jge}{Q:Unit->Ca->Prop}(I:Inv X pq σ H s)(fl:Zdn ea T s.heap)(fp:FpOk X pq H T)(k:∀s',Inv X pq σ H s'->Q ⟨⟩ s'):Cc M A (K2 (.ref ea) none) Q E s:=by
 let⟨oe,vs,oT,ts,e1,d1,v1,e2,d2,t3,ne⟩:=fl;let⟨f0,f1,f2,f3,f4,f5⟩:=fp;refine Jdi e1 d1 v1 e2 d2 (Gv.mp t3).1 (k _ ?_);exact I.turned (t':=s.toks) (λb o hb e=>by rw[Ck _ _ (Cu hb)];exact e) f0 f1 f3 f4 f5
theorem Zqu{D:Ends}{f:Flow}{Q:Flow->Ca->Prop}(hN:X.N.Nodup)(hi:X.N[i]?=some n)(hk:X.env.scope.names.lookup n=some .local)(h:SP X pq (offD i D) f s) :
  Cc (Cd X.prog X.w) X.A (do bindName X.env n .none;Lc X.env n pos) (λ_ s'=>SP X pq D f s') E s:=by
 let go:∀(σ:St)(H:Hp),Inv X pq σ H s->(∀s',Inv X pq (σ.set i none) H s'->SP X pq D f s')->Cc (Cd X.prog X.w) X.A (do bindName X.env n .none;Lc X.env n pos) (λ_ s'=>SP X pq D f s') E s:=λσ H I k=>by
  let hiσ:i < σ.length:=by rw[I.len];exact(Jf.mp hi).1
  refine Fk (wpAny_bindName (Uh (v:=.non) I hN hi (.inl hk) rfl (λs1 I1=>?_) (.inr hk)));unfold Lc;exact wpAny_onRaise (Zkc I1 hiσ hi hN hk k)
 cases f with
 |next=>obtain⟨σ',H',I,q⟩:=h;exact go σ' H' I λs' I'=>⟨_,H',I',q⟩
 |brk=>obtain⟨σ',H',I,q⟩:=h;exact go σ' H' I λs' I'=>⟨_,H',I',q⟩
 |cont=>obtain⟨σ',H',I,q⟩:=h;exact go σ' H' I λs' I'=>⟨_,H',I',q⟩
 |ret u=>obtain⟨v,σ',H',I,r,q⟩:=h;exact go σ' H' I λs' I'=>⟨v,_,H',I',r,q⟩
theorem Zun(ca:Cau X.K X.mg c Dc)(hg:Gl X c)(hN:X.N.Nodup)(hi:X.N[i]?=some n)(hk:X.env.scope.names.lookup n=some .local)(hs:∀e,PSs (X.mrk e) (b0::body) ts)(hr:HS X rest thr)(hd:(c==("__debug__":Str))=false:=by decide) :
  HS X (.ExceptHandler (some (.Name c np)) (some n) (b0::body) pos::rest) (thAs X.K Dc i ts thr):=by
 intro pq s σ H ea C T d D I hea fl fp h;let⟨b,hb,h⟩:=h;refine Jdu (Jc7 ?_) (by intro q;cases q);let J:=I.mrk (.ref ea);refine Vd (X:=X.mrk (.ref ea)) J hg ca.mg ?_ hd;let⟨⟨oe,vs,e1,e2,e3,e4,e5⟩,_,_⟩:=I.hok ea _ hea;refine Zc6 I.kIn ca.ty ca.bx e1 e2 hb ?_;cases b with
 |false=>exact hr pq s σ H ea C T d D I hea fl fp h
 |true =>
  refine Zkh (Sn J fl fp λs1 J1=>?_);refine wpAny_bindName (Uh (X:=X.mrk (.ref ea)) (v:=.ref ea) J1 hN hi (.inl hk) rfl (λs2 J2=>?_) (.inr hk));refine Fx (hs (.ref ea) pq s2 _ H _ J2 h) (λf s3 h3=>?_) λ_ _ z=>z;exact Zqu (Q:=λ_ _=>True) hN hi hk (h3.unmrk I.ok)
def PSF(X:Cx)(pq:List (Addr×Obj))(σ:St)(st:List Stmt)(t:TS):Prop:=∀(s:Ca)(H:Hp)(D:Ends),Inv X pq σ H s->t D σ H->Cc (Cd X.prog X.w) X.A (execs st X.env) (SP X pq D) X.xe s
end
end L2
variable{th thr:L2.TH}
namespace L2
open PySem PySem.Spec PyProof.Rows PySem.W PySem.Builtin PySem.Builtin.ObjectAttr
section
variable{w:Ct}{K:Frag}{a:Addr}
theorem Ziu{od:Option Obj}{n:Str}{va vg:Value}(h0:(clsIn K C).isSome=true)(h1:Cs K (.ref C) n=some (some va))(h2:specialIn K va "__get__"=some (some vg))(h3:takesIn K va=some true):findObj K C od n=some (.bind vg va):=by
 cases e:clsIn K C with
 |none=>rw[e]at h0;cases h0
 |some cd =>
  simp only[findObj,e,Option.bind_some,h1,h2,h3]
def Zix{od:Option Obj}{Q:Option Value->Ca->Prop}(X:K.In s.heap)(xc:XCl K C fI)(I:InstAt s.heap a ox C od)(k:Q (some (.ref C)) {s with toks:=s.toks+1}) :
  Cc (Cd prog w) A (Jee (.ref a) "__class__") Q E s:=by
 let L0:=I.type (M:=Cd prog w);let L1:=Me (M:=Cd prog w) X xc.ga;let L2:=Me (M:=Cd prog w) X xc.gt;let hf:findObj K C od "__class__"=some (.bind (.builtin "getset_descriptor.__get__") (.builtin "object.__class__")):=Ziu (by let⟨cd,hc,_⟩:=any_some xc.hd;rw[hc];rfl) xc.cc xc.cg xc.ct;let L3:=looks_find (M:=Cd prog w) X I hf;let L4:Looks (Cd prog w) s.heap (Jez (.ref a) (.type "BaseException")) true:=I.type.andThen (Hu X xc.bx);let⟨hp,g,d,t,os⟩:=s;unfold Jee getAttrBy?;refine Fk (wpAny_mkText (Fk (Le ?_)));unfold Jf6
 refine Cw (Fk (L0.at (Fk (L1.at ?_))));show Cc _ _ (Lr (.ref a) (.str "__class__" t) (.ref C) (.builtin "BaseException.__getattribute__") false false) _ _ _;unfold Lr hookBefore;rw[Fs (show onTheHeap (Cb C)=true from rfl)];refine Fk (L2.at (Fk (Le (Cw ?_))));unfold callGetattribute;rw[Fp (by exact Jj)];unfold boundAndCalled;let ga:=PySem.F.attrBase_ValueError.ga;rw[ga.bind];refine Fk (Fl ?_);show Cc _ _ (call (Lf "BaseException.__getattribute__") [.ref a,.str "__class__" t]) _ _ _;refine Ke (Lb ga.plain F.entry_bexc_ga ?_)
 let hk:builtinKind "BaseException.__getattribute__"=some .slot:=by decide +kernel
 let hsp:splitId "BaseException.__getattribute__"=some ("BaseException","__getattribute__"):=by decide +kernel
 refine @check_slot (Cd prog w) _ _ _ "BaseException.__getattribute__" "BaseException" "__getattribute__" (.ref a) [.str "__class__" t] [] _ hk hsp L4 (F.args_bexc_ga (.ref a) (.str "__class__" t)) ?_;unfold Builtin.«object.__getattribute__»;refine Fk (Fl (Fk (Fl (Fk (L0.at (Fk (L3.at ?_)))))));show Cc _ _ (bindTo (.builtin "getset_descriptor.__get__") (.builtin "object.__class__") (.ref a) (.ref C)) _ _ _;unfold bindTo;refine Fk (Cw (Ke (class_get (ox:=ox) (od:=od) X I xc.ob ?_)));refine Fl ?_;show Cc _ _ (handedOut (.ref C)) _ _ _;rw[handedOut_of rfl];exact Fl (Fl k)
def Nl{x:Addr}(xc:XCl K C fI):KitX K (.ref x) (.ref C) (λh=>∃ox od,InstAt h x ox C od) where
 ty:=λ_ _ _⟨_,_,I⟩=>I.type
 it:=λ_ _ X _=>by
  let⟨cdD,hcD,_⟩:=any_some xc.hd;unfold clsIn at hcD
  split at hcD
  .rename_i ho
   intro A' Q' E' s' k q;unfold isType loadHead;exact Fk (wpAny_loadPart (k _ _ (X _ _ ho)) (Fl q))
  .cases hcD
 ne:=λh tp dd its n sl X htp=>by
  let⟨cdD,hcD,_⟩:=any_some xc.hd;refine Bool.eq_false_iff.mpr λq=>?_;obtain rfl:C=tp:=Cb.inj (beq_iff_eq.mp q);unfold clsIn at hcD
  split at hcD
  .rename_i ho
   let z:=(X _ _ ho).symm.trans htp;cases z
  .cases hcD
 ca:=λX⟨_,_,I⟩k=>Zix X xc I k
end
section
def XD(H:Hp):Option Addr->List (Str×V)->Prop
 |some d,fs=>H d=some (.ext (xdP d fs))
 |none,fs=>fs=[]
theorem XD.mono(s:Same H H'):∀{o:Option Addr}{fs:List (Str×V)},XD H o fs->XD H' o fs
 |some _,_,h=>s _ _ h
 |none,_,h=>h
def ExcV(H:Hp)(x:V)(C:Addr)(fs:List (Str×V)):Prop:=∃ea d,x=.ref ea/\H ea=some (.ext (excP ea C d))/\XD H d fs
theorem Zox{d:Option Addr}{fs:List (Str×V)}(I:Inv X pq σ H s)(hea:H ea=some (.ext (excP ea C d)))(hd:XD H d fs):∃ox od,InstAt s.heap ea ox C od:=by
 let⟨⟨oe,vs,e1,e2,e3,e4,e5⟩,_,_⟩:=I.hok ea _ hea;cases d with
 |some d =>
  let⟨⟨mA,⟨o,es,ep,e,r⟩,_⟩,_,_⟩:=I.hok d _ hd;exact⟨oe,some o,e1,e2,by let⟨c,dd,dt,sl⟩:=oe;cases e4;rfl,by rw[e3];exact e⟩
 |none=>exact⟨oe,none,e1,e2,by let⟨c,dd,dt,sl⟩:=oe;cases e4;rfl,by rw[e3];trivial⟩
def Zrh(K:Frag):List V->Hp->VK->Prop:=λxs H Q=>∃x C fI fs c b,xs=[x,c]/\XCl K C fI/\ExcV H x C fs/\((∃T,c=.ty T/\kitOne K (.ref C) (.type T)=some b)\/(∃D,c=.ref D/\kitOne K (.ref C) (.ref D)=some b)\/∃(tp:Addr)(cs:List Addr),c=.ref tp/\H tp=some (.tup (cs.map V.ref))/\kitAny K (.ref C) (cs.map Cb)=some b)/\Q (.bl b) H
theorem Zah:∀{cs:List Addr}{us:List Value},Vals (cs.map V.ref) us->us=cs.map Cb
 |[],_,.nil=>rfl
 |_::_,_,.cons h r=>by rw[show _=Cb _ from h,Zah r];rfl
def W7{K:Frag}(hK:X.K=K):Vj X (.builtin "isinstance") (Zrh K):=by
 subst hK;intro pq s σ H xs us Q I r h;let⟨x,C,fI,fs,c,b,rfl,xc,⟨ea,d,rfl,hea,hd⟩,hc,q⟩:=h;let⟨u,w',rfl,ru,rw'⟩:=Zj8 r;obtain rfl:u=Cb ea:=ru;let J:=Zox I hea hd;rcases hc with⟨T,rfl,e⟩|⟨D,rfl,e⟩|⟨tp,cs,rfl,ht,e⟩
 .cases rw';exact kia_one (Nl xc) I.kIn J e (λz=>nomatch z) λtk=>⟨.bl b,H,I.tok tk,rfl,q⟩
 .cases rw';exact kia_one (Nl xc) I.kIn J e (λz=>nomatch z) λtk=>⟨.bl b,H,I.tok tk,rfl,q⟩
 .cases rw';let⟨_,its,rv,o,h1,h2,n,h3,h4⟩:=I.hok tp _ ht;let hi:=Zah rv;subst hi;let⟨oc,od,oda,osl⟩:=o;dsimp only at h2 h3 h4;subst h2 h3 h4;exact kia_tup (Nl xc) I.kIn J h1 e (λz=>nomatch z) λtk=>⟨.bl b,H,I.tok tk,rfl,q⟩
end
section
variable{e:Expr}{t:TA}{ts us:TS} 
def PEF(X:Cx)(pq:List (Addr×Obj))(σ:St)(e:Expr)(t:TE):Prop:=∀(s:Ca)(H:Hp)(Q:VK),Inv X pq σ H s->t σ H Q->Cc (Cd X.prog X.w) X.A (eval e X.env) (EP X pq σ Q) X.xe s
def PAF(X:Cx)(pq:List (Addr×Obj))(σ:St)(es:List Expr)(t:TA):Prop:=∀(pos:Pos)(s:Ca)(H:Hp)(Q:List V->Hp->Prop),Inv X pq σ H s->t σ H Q->Cc (Cd X.prog X.w) X.A (Jhg (Hm pos (Ch es X.env))) (AP X pq σ Q) X.xe s
def Zd6(h:PE X e te):PEF X pq σ e te:=λs H Q I q=>h pq s σ H Q I q
def Zd9(h:PA X es t):PAF X pq σ es t:=λpos s H Q I q=>h pos pq s σ H Q I q
def Wm(ha:PEF X pq σ e te)(hr:PAF X pq σ es t)(hs:Ch (e::es) X.env=(false,eval e X.env)::Ch es X.env:=by rfl):PAF X pq σ (e::es) (Znf te t):=by
 intro pos s H Q I h;rw[hs];show Cc _ _ (Jhg ((false,eval e X.env)::Hm pos (Ch es X.env))) _ _ s;exact Hj (thn (ha s H _ I h) λu s1⟨x,H1,I1,r1,q1⟩=>thn (hr pos s1 H1 _ I1 q1) λus s2⟨xs,H2,I2,r2,q2⟩=>⟨x::xs,H2,I2,.cons r1 r2,q2⟩)
def Zcp{x1}(h:PAF X pq σ es t):PEF X pq σ (.Tuple es x1 pos) (tTup t):=by
 intro s H Q I hq;refine Ll (thn (h pos s H _ I hq) λus s1⟨xs,H1,I1,r,z,q⟩=>⟨by rw[<-r.length];exact z,?_⟩);let hf:H1 s1.heap.objs.size=none:=I1.hok.fresh (Je _);exists .ref s1.heap.objs.size,upd H1 s1.heap.objs.size (.tup xs),I1.laid (t':=s1.toks) (λb u e=>Fm _ e) (Je _) ⟨z,us,r,⟨_,Fn _ rfl,rfl,_,rfl,rfl⟩⟩,rfl,q _ hf
theorem Znt{k:Nat}{f:Addr}{E:XK}{us:List Value}(F:FnOk X.prog X.w X.K X.mg X.base CX k f fd ps sp)(hr:Room k X.A)(hb:Vn X.K fd ps [])(hx:Vg CX X pq σ E)(I:Inv X pq σ H s)(r:Vals vs us)(h:sp vs H Q E):Cc (Cd X.prog X.w) X.A (call (.ref f) us) (EP X pq σ Q) X.xe s:=by
 let hl:(us++[]).length=ps.length:=by rw[Gs,<-r.length];exact F.len _ _ _ _ h
 let bb:=hb s us I.kIn hl;rw[Gs]at bb;refine Ke (Kf (F.run X.A X.stack s H ⟨us,[]⟩ us vs Q E hr I.env0 bb r h) λr s' hq=>?_);cases r with
 |error e=>exact hx H s e s' I hq
 |ok fl =>
  cases fl with
  |ret u=>exact I.after hq
  |next=>exact Cq hq
  |brk=>exact Cq hq
  |cont=>exact Cq hq
def Rs{k:Nat}{x:Str}{p:Pos}{E:XK}(C:CalE X.prog X.w X.K X.mg X.base x k ps sp)(hr:Room k X.A)(hg:Gl X x)(hx:Vg (CXE X.prog X.w) X pq σ E)(ha:PA X (e::es) t)(hdb:(x==("__debug__":Str))=false:=by decide)(he:Ch (e::es) X.env=(false,eval e X.env)::Ch es X.env:=by rfl)(hpl:(Hm pos (Ch es X.env)).any (·.1)=false:=by rfl):PEF X pq σ (.Call (.Name x p) (e::es) [] pos) (Ze4 sp [] E t):=by
 intro s H Q I h;let⟨f,fd,F,hm,hk,hb⟩:=C;refine Ec (Vd I hg hm ?_ hdb);refine L9 (h₀:=X.base) I.ok.mod.kin hk (thn (ha pos pq s σ H _ I h) λus s1⟨vs,H1,I1,r,q⟩=>⟨I1.kIn,?_⟩) he hpl;exact Znt F hr hb hx I1 r (by have q':sp (vs++[]) H1 Q E:=q;rw[Gs]at q';exact q')
def PSF1(X:Cx)(pq:List (Addr×Obj))(σ:St)(st:Stmt)(t:TS):Prop:=∀(s:Ca)(H:Hp)(D:Ends),Inv X pq σ H s->t D σ H->Cc (Cd X.prog X.w) X.A (exec st X.env) (SP X pq D) X.xe s
theorem Nb(h:PSF1 X pq σ st ts):PSF X pq σ [st] ts:=by
 intro s H D I q;refine Hg (Fx (h s H D I q) (λf s1 h1=>?_) λ_ _ z=>z);cases f with
 |next=>exact E4 h1
 |brk=>exact h1
 |cont=>exact h1
 |ret u=>exact h1
def Zn0{i:Nat}{x:Str}(hN:X.N.Nodup)(hi:X.N[i]?=some x)(hx:Loc X.env.scope x)(he:PEF X pq σ e te)(hs:Mm e (some (.Name x pos')) pos.line X.env=pure false:=by rfl)(hf:X.fn x=true\/X.env.scope.names.lookup x=some .local:=by first|left;rfl|right;rfl|assumption) :
  PSF1 X pq σ (.Assign [.Name x pos'] e pos) (tAsg te (Zbi i)):=by
 intro s H D I h;refine Jen (thn (he s H _ I h) λv s1 hz=>?_) hs;let⟨y,H1,I1,r1,q1⟩:=hz;exact Uh I1 hN hi hx r1 (λs2 I2=>⟨_,H1,I2,q1⟩) hf
def Na(he:PEF X pq σ e te):PSF1 X pq σ (.Return (some e) pos) (tRet te):=by
 intro s H D I h;exact Jel (thn (he s H _ I h) λv s1⟨y,H1,I1,r1,q1⟩=>⟨y,σ,H1,I1,r1,q1⟩)
end
end L2
namespace L2
open PySem PySem.Spec PyProof.Rows PySem.W
def spX1(C:Addr)(f:Str):Sp:=λvs H Q _=>∃(ea:Addr)(y:V),vs=[.ref ea,y]/\H ea=some (.ext (excN ea C none))/\∀d,H d=none->d≠ea->Q .non (upd (upd H ea (.ext (excN ea C (some d)))) d (.ext (xdP d [(f,y)])))
def Zb6(R:List En):Prop:=∀e∈R,e.2≠none
def Us(S:List Pr)(ns:List Int)(R:List En)(pl:Nat):Prop:=Went S ns R pl/\Zb6 R/\(ns.length<=pl\/(pl<ns.length/\∀p∈S,¬ p.2<+:ns.drop pl))
theorem Us.lt(fr:Free S){A B:List En}(ha:Us S ns A pa)(hb:Us S ns B pb)(h:A.length<B.length):False:=by
 let⟨p',w1,w2,w3,w4⟩:=hb.1.step A.length h;let⟨_,e⟩:=ha.1.one fr w1 (by rw[Ji];lia);rcases w4 with⟨o1,_,_⟩|⟨p,hp,_,o2,_,_⟩
 .exact hb.2.1 _ (Jr h) o1
 .rcases ha.2.2 with z|⟨_,z⟩
  .lia
  .rw[e]at z;exact z p hp o2
def Us.uniq(fr:Free S){A B:List En}(ha:Us S ns A pa)(hb:Us S ns B pb):A=B/\pa=pb:=by
 rcases Bz A.length B.length with l|l|l
 .exact(ha.lt fr hb l).elim
 .exact ha.1.one fr hb.1 l
 .exact(hb.lt fr ha l).elim
def Pn(h:Zb6 R){e:En}(he:e.2≠none):Zb6 (R++[e]):=λx hx=>by
 rcases Ga.mp hx with hx|hx
 .exact h x hx
 .rw[Jm.mp hx];exact he
def outs(R:List En):List V:=R.map λe=>oV e.2
def Zpf{w:Ct}{K:Frag}{base:Heap}{x:Str}{f:Addr}{k:Nat}(F:Fun K x x st f fd)(G:FnOk P w K mg base (CXE P w) k f fd ps sp)(m:mg x=some (.ref f))(b:Vn K fd ps []) :
  CalE P w K mg base x k ps sp:=⟨f,fd,G,m,F.kp,b⟩
def Qm:Kd "ValueError"=some (.type "ValueError"):=by kernel_rfl
def Zjn{K:Frag}{o:Expr}{f:Str}(h:X.K=K)(ha:PE X o ta)(hb:Kl o f X.env (eval o X.env)=eval o X.env):PE X (.Attribute o f pos) (Znd K ta f):=by subst h;exact Zn8 ha hb
end L2
namespace L2
open PySem PySem.Spec PyProof.Rows
section
def Inv.turned2{e:Addr}(I:Inv X pq σ H s)(k:∀b o,b≠e->b≠it->s.heap.get? b=some o->h'.get? b=some o)(f:FpOk X pq H e)(g:FpOk X pq H it):Inv X pq σ H {s with heap:=h',toks:=t'}:=by
 let⟨f0,f1,f2,f3,f4,f5⟩:=f;let⟨g0,g1,g2,g3,g4,g5⟩:=g;let ne:∀b u,H b=some u->b≠e:=λb u q z=>by rw[z,f0]at q;cases q
 let nit:∀b u,H b=some u->b≠it:=λb u q z=>by rw[z,g0]at q;cases q
 refine I.step (g':=s.gens) (d':=s.drawn) (ch:=[e,it]) (λb hb=>?_) (λb o _ _ hc q _=>k b o (λz=>hc (by simp[z])) (λz=>hc (by simp[z])) q) (λb o _ _ hc q _=>⟨o.slots,k b o (λz=>hc (by simp[z])) (λz=>hc (by simp[z])) q⟩) (λ_ _ _ _ n=>n)
  (λb o hc q=>⟨o,k b o (λz=>hc (by simp[z])) (λz=>hc (by simp[z])) q⟩) (λ_ _ q=>q) (λ_ _ _ q=>q) (λb ps q=>⟨#[],by rw[q];simp⟩) (λm hm=>?_) (λb u q=>?_) I.bare
 .rcases Jq.mp hb with z|hb
  .subst z;exists f3,f1,f4,f5
  .let z:b=it:=by simpa using hb
   subst z;exists g3,g1,g4,g5
 .let⟨o,es,ep,ho,r⟩:=hm;exists o,es,ep,k _ o (Cu f1) (Cu g1) ho,r
 .refine(I.hok b u q).stay (λc v hc q'=>k c v ?_ ?_ q') (λ_ q=>q) λ_ _ q=>q
  .rcases hc with z|z
   .rw[z];exact ne b u q
   .exact ne c _ z
  .rcases hc with z|z
   .rw[z];exact nit b u q
   .exact nit c _ z
end
def Ite(K:Cp)(a:Addr):It :=
 ⟨λi H=>∃xs x,SqL K H a xs/\xs[i]?=some x,λi H x H'=>∃(t:Addr)(y:V),x=.ref t/\H t=none/\H'=upd H t (.tup [.int i,y])/\∀xs,SqL K H a xs->xs[i]?=some y,λi H=>∃xs,SqL K H a xs/\xs.length<=i⟩
theorem Zf6{w:Ct}(a e it:Addr)(hne:e≠it):Turn P w K (.Tuple elts x1 pos) (Ite K a) [e,it] e (λi h=>(∃old,IsEnum h e it i old)/\h.IsListIter it a i) where
 mem:=by simp
 obj:=λi h st b hb=>by
  let⟨⟨old,st1⟩,o,e2,c2,d2⟩:=st;rcases Jq.mp hb with z|hb
  .subst z;exact⟨_,st1,λv z=>by
    let z':Jfv _=Data.cell v:=z;cases z'⟩
  .let z:b=it:=by simpa using hb
   subst z;exact⟨o,e2,λv z=>by rw[d2]at z;cases z⟩
 keep:=λi h h' st k=>by
  let⟨⟨old,st1⟩,st2⟩:=st;exists⟨old,k e (by simp) _ st1⟩,st2.at λo q=>k it (by simp) o q
 item:=by
  intro X hP hw hK hc i pq s σ H E I hf st hg;subst hP hw hK;let⟨⟨old,st1⟩,st2⟩:=st;let⟨xs,x,hq,hx⟩:=hg;let⟨its,rv,p,hz⟩:=I.list hq;let⟨u,hu,ru⟩:=rv.get hx;refine wpAny_pyNext_enum_item st1 st2 p.isList (x:=u) (by simpa using hu) hne λh1 eo st2' et hsz hk=>?_;let he:e<s.heap.objs.size:=Fo st1;let hi:it<s.heap.objs.size:=by let⟨_,q,_⟩:=st2;exact Fo q
  exists ·,wpAny_letOwnedTupleGo_enum eo λh2 en2 sb=>?_
  replace sb:E9 e h1 h2:=sb
  let fr:H s.heap.objs.size=none:=I.fresh;let Il:Inv X pq σ (upd H s.heap.objs.size (.tup [.int i,x])) {s with heap:=s.heap.push {cls:=.type "tuple",data:=.seq #[.int i s.toks,u]},toks:=s.toks}:=I.laid (λb o q=>Fm _ q) (Je _)
   ⟨by show 2<=sizeLine;decide,[.int i s.toks,u],.cons ⟨_,rfl⟩ (.cons ru .nil),⟨_,Fn _ rfl,rfl,_,rfl,rfl⟩⟩
  let up:∀b,b∈[e,it]->FpOk X pq (upd H s.heap.objs.size (.tup [.int i,x])) b:=λb hb=>by
   let⟨f0,f⟩:=hf b hb;refine⟨?_,f⟩;let hlt:b<s.heap.objs.size:=by
    rcases Jq.mp hb with z|hb
    .rw[z];exact he
    .let z:b=it:=by simpa using hb
     rw[z];exact hi
   rw[Zl (J9 hlt)];exact f0
  let I2:Inv X pq σ (upd H s.heap.objs.size (.tup [.int i,x])) {s with heap:=h2,toks:=s.toks+1}:=by
   refine Inv.turned2 (s:={s with heap:=s.heap.push {cls:=.type "tuple",data:=.seq #[.int i s.toks,u]},toks:=s.toks}) (h':=h2) (t':=s.toks+1) (e:=e) (it:=it) Il (λb o be bi q=>?_) (up e (by simp)) (up it (by simp));rcases Jdj q with⟨z1,z2⟩|q
   .subst z1 z2;exact(sb.2 _ (Fe he)).trans et
   .exact(sb.2 _ be).trans (hk b o be bi q)
  exists .ref s.heap.objs.size,_,I2,rfl,⟨_,x,rfl,fr,rfl,λys hy=>by rw[I.list_inj hy hq];exact hx⟩,⟨⟨u,?_⟩,st2'.at λo q=>(sb.2 it hne.symm).trans q⟩,λb hb=>(up b hb).1
  .let z:((i+1:Nat):Int)=(i:Int)+1:=by push_cast;rfl
   rw[z];exact en2
 done:=by
  intro X hP hw hK hc i pq s σ H E I hf st hg;subst hP hw hK;let⟨⟨old,st1⟩,st2⟩:=st;let⟨xs,hq,hx⟩:=hg;let⟨its,rv,p,hz⟩:=I.list hq;let⟨f0,f1,f2,f3,f4,f5⟩:=hf it (by simp);let hl:=rv.length;exact wpAny_pyNext_enum_end (I.ok.hd hc) st1 st2 p.isList (by simp;lia) λh' eb=>⟨rfl,I.turned (t':=s.toks) (λb o hb e=>eb b o hb e) f0 f1 f3 f4 f5⟩
 self:=λ_ _ _ _ _ st h=>let⟨⟨_,q⟩,_⟩:=st;Je1 q h
section
def Zsf(K:Cp)(tl:TA):TI:=λσ H R=>tl σ H λvs H1=>∃a,vs=[.ref a]/\(∃xs,SqL K H1 a xs)/\R (Ite K a) H1
theorem Zhe{pt:Pos}{l:Expr}{tl:TA}{p:Pos}(hg:Gl X "enumerate")(hm:X.mg "enumerate"=none)(ha:PA X [l] tl)(hs:Ch [l] X.env=[(false,eval l X.env)]:=by rfl):PI X (.Tuple elts x1 pt) (.Call (.Name "enumerate" p) [l] [] pos) (Zsf X.K tl):=by
 intro pq s σ H R I h;refine Call_ (Tp I hg hm boot_enumerate (C5 (thn (ha pos pq s σ H _ I h) λus s1 hz=>?_) hs rfl));let⟨vs,H1,I1,r1,q1⟩:=hz;let⟨a,e,⟨xs,hq⟩,q⟩:=q1;subst e;cases r1 with
 |cons r rr =>
  cases rr;cases r;let⟨its,rv,pl,hz⟩:=I1.list hq;refine call_enumerate_list pl.isList λh' he hit hsz hk=>?_;let I2:Inv X pq σ H1 {s1 with heap:=h',toks:=s1.toks}:=I1.kept hk;refine Je1 he ?_;exists s1.heap.objs.size+1,[s1.heap.objs.size+1,s1.heap.objs.size],_,_,H1,rfl,I2,Zf6 a _ _ (Nat.succ_ne_self _),⟨⟨_,he⟩,hit⟩,λb hb=>?_,q;rcases Jq.mp hb with z|hb
  .subst z;exact I1.fpOk (Bg _) (I1.hok.fresh (Bg _))
  .let z:b=s1.heap.objs.size:=by simpa using hb
   subst z;exact I1.fpOk (Je _) (I1.hok.fresh (Je _))
end
def Za6(l:Addr)(items:Array Value)(n:Nat)(b:Addr)(items2:Array Value)(n2:Nat)(sl:Array (Option Value))(hs0:¬(!items.isEmpty&&C8 (items.size+items2.size))=true)(hs1:items.size<=sizeLine)(hs2:items.size+items2.size<=sizeLine+1) :
  Meets (Builtin.«list.extend» ⟨[.ref l,.ref b],[]⟩) (λ_ R s=>s.heap.get? l=some {cls:=.type "list",dict:=none,data:=.seq items n,slots:=#[]}/\s.heap.get? b=some {cls:=.type "tuple",dict:=none,data:=.seq items2 n2,slots:=sl}/\R (.ok (.ret Value.none)) {s with heap:=s.heap.update l (Cy λx=>x++items2),toks:=s.toks}) :=
 .of_wp λprog w A R s h=>by
  let⟨hp,g,d,tk,os⟩:=s;let⟨hl,hb,h⟩:=h;let f1:=AutoSeq1.idx_int;let f2:=Mx;let f3:=AutoSeq1.sub_list_list;let f4:=AutoSeq1.sub_tuple_list;let f5:=AutoSeq1.sub_list_tuple;
  let hz':(items++items2).size<=sizeLine+1:=by rw[Array.size_append];exact hs2
  wp_walk using(Lu hl rfl (hz:=hs1) (_hz':=hz')),My hl,My hb;exists ·,h
def Zku:V->List V->Hp->VK->Prop:=λx vs H Q=>∃l b xs zs,x=.ref l/\vs=[.ref b]/\H l=some (.lst xs)/\H b=some (.tup zs)/\xs.length+zs.length<=sizeLine/\Q .non (upd H l (.lst (xs++zs)))
theorem Zfh :MtM X "list.extend" Zku:=by
 intro pq s σ H x vs v us Q I rx rv h;let⟨l,b,xs,zs,rfl,rfl,hH,hB,hz,q⟩:=h;cases rx;let⟨u,rfl,ru⟩:=rv.one;cases ru;let⟨z,its,n,r,hl,e⟩:=I.lstM hH;let⟨z2,its2,r2,⟨⟨c,dct,dt,sl⟩,e2,c2,n2,d2,dd2⟩⟩:=I.hok b _ hB
 replace c2:c=.type "tuple":=c2
 replace d2:dt=.seq its2.toArray n2:=d2
 replace dd2:dct=none:=dd2
 subst c2 d2 dd2;let hl2:=r2.length;let hsz:its.toArray.size+its2.toArray.size<=sizeLine:=by rw[Jk,Jk];lia
 let hlong:¬ (!its.toArray.isEmpty&&C8 (its.toArray.size+its2.toArray.size))=true:=by
  rw[Ng hsz,Jgr];exact Jj
 refine Kw Ho ⟨_,e,rfl⟩ Jdq (Jdg _ _)
  (Za6 l its.toArray n b its2.toArray n2 sl hlong (by rw[Jk];lia) ()) ⟨e,e2,?_⟩
 exists .non,_,I.lset (its':=its++its2) hH e (by simp) (r.append r2) ?_,rfl,q;rw[Jd];lia
end L2
namespace L2
open PySem PySem.Spec PyProof.Rows PySem.W
theorem Zli{a:Addr}{tb:TS}{D:Ends}(Pv:Nat->St->Hp->Prop)(h0:Pv 0 σ H)(hl:∀i σ H,i<=xs.length->Pv i σ H->SqL K H a xs)(hs:∀i(hi:i<xs.length)t σ H,Pv i σ H->H t=none->g (.ref t) σ (upd H t (.tup [.int i,xs[i]])) λσ2 H2=>tb {D with nx:=Pv (i+1),ct:=Pv (i+1),bk:=D.nx} σ2 H2)(hd:∀σ H,Pv xs.length σ H->D.nx σ H) :
  ∃W:Nat->Nat->St->Hp->Prop,(∃m,W 0 m σ H)/\∀i m σ H,W i m σ H ->
   ((Ite K a).stop i H/\D.nx σ H)\/((Ite K a).go i H/\∃N:St->Hp->Prop,(∀σ' H',N σ' H'->∃m',m'<m/\W (i+1) m' σ' H')/\∀x H',(Ite K a).yld i H x H'->g x σ H' λσ2 H2=>tb {D with nx:=N,ct:=N,bk:=D.nx} σ2 H2):=by
 exists λi m σ H=>m=xs.length-i/\i<=xs.length/\Pv i σ H,⟨xs.length,by simp,Gf _,h0⟩,?_;rintro i m σ H ⟨rfl,hi,p⟩;let q:=hl i σ H hi p
 by_cases hlt:i<xs.length
 .refine .inr ⟨⟨xs,xs[i],q,by simp[hlt]⟩,Pv (i+1),λσ' H' p'=>⟨xs.length-(i+1),(),rfl,hlt,p'⟩,λx H' y=>?_⟩;let⟨t,z,rfl,ht,rfl,y⟩:=y;let y2:=y xs q;rw[Ja hlt]at y2;cases y2;exact hs i hlt t σ H p ht
 .let e:i=xs.length:=by lia
  subst e;exact .inl ⟨⟨xs,q,Je _⟩,hd σ H p⟩
def Zgj(C:Addr):Sp:=λvs H Q _=>∃(x:Addr)(S:List Pr)(s:Int),vs=[.ref x,.int s]/\Uy C H x S/\(∀p∈S,p.1=s->∀t,H t=some (.tup (p.2.map V.int))->Q (.ref t) H)/\((∀p∈S,p.1≠s)->Q .non H)
def Rz(S:List Pr)(ts:List Int)(i:Nat):Bool:=match ts[i]? with|some s=>S.all λp=>decide (p.1≠s)|none=>false
def Ry{i:Nat}(hi:i<ts.length):Rz S ts i=true↔∀p∈S,p.1≠ts[i]:=by
 unfold Rz;rw[Ja hi];simp[List.all_eq_true]
def Vp(S T:List Pr)(ts:List Int)(i:Nat):Prop:=(∀p∈T,p∈S)/\Yo T=ts.take i
def Vp.snoc{T:List Pr}{i:Nat}(h:Vp S T ts i)(hi:i<ts.length){p:Pr}(hp:p∈S)(e:p.1=ts[i]):Vp S (T++[p]) ts (i+1):=by
 exists λq hq=>?_,?_
 .rcases Ga.mp hq with hq|hq
  .exact h.1 q hq
  .rw[Jm.mp hq];exact hp
 .let z:Yo (T++[p])=Yo T++[p.1]:=by unfold Yo;rw[Jg];rfl
  rw[z,h.2,e,Jt hi]
theorem Vp.len{T:List Pr}{i:Nat}(h:Vp S T ts i)(hi:i<=ts.length):T.length=i:=by
 let:=congrArg Ey h.2;unfold Yo at this;rw[Jb,Ji]at this;lia
end L2
namespace L2
open PySem PySem.Spec PyProof.Rows
def Itw(lo:Int)(n:Nat):It:=⟨λi _=>i<n,λi H x H'=>H'=H/\x=.int (lo-i),λi _=>n<=i⟩
theorem Zf7{w:Ct}(it:Addr)(lo:Int)(n:Nat):Turn P w K tg (Itw lo n) [it] it (λi h=>IsRangeIter h it (lo+(i:Nat)*(-1)) ((n:Int)-(i:Nat)) (-1)) where
 mem:=by simp
 obj:=λi h st b hb=>by
  let e:b=it:=by simpa using hb
  subst e;exact⟨_,st,λv z=>by
   let z':Jfv _=Data.cell v:=z;cases z'⟩
 keep:=λi h h' st k=>k it (by simp) _ st
 item:=by
  intro X hP hw hK hc i pq s σ H E I hf st hg;subst hP hw hK;let⟨f0,f1,f2,f3,f4,f5⟩:=hf it (by simp);let W:=Walks.range (prog:=X.prog) (w:=X.w) (I.ok.hd hc) it lo (-1) n;refine W.item i s _ _ hg st λv h' tk hv st' kk=>?_;let⟨t,rfl⟩:=hv;let I1:Inv X pq σ H {s with heap:=h',toks:=tk}:=I.turned (λb o hb e=>kk b o (by simpa using hb) e) f0 f1 f3 f4 f5;exists ·,Ziq (s:={s with heap:=h',toks:=tk}) (n:="range_iterator") st' rfl rfl nofun ⟨.int (lo-i),H,I1,⟨t,?_⟩,⟨rfl,rfl⟩,st',λb hb=>(hf b hb).1⟩;rw[show lo-(i:Int)=lo+(i:Int)*(-1)by lia]
 done:=by
  intro X hP hw hK hc i pq s σ H E I hf st hg;subst hP hw hK;let⟨f0,f1,f2,f3,f4,f5⟩:=hf it (by simp);exact wpAny_pyNext_range_end (I.ok.hd hc) st (by have:n<=i:=hg;lia) λh' eb=>⟨rfl,I.turned (t':=s.toks) (λb o hb e=>eb b o hb e) f0 f1 f3 f4 f5⟩
 self:=λ_ _ _ _ _ st h=>wpAny_pyIter_rangeiter st h
section
def Zg3{R:It->Hp->Prop}{hi:Int}{t u v:Tok}{tk:Nat}(I:Inv X pq σ H s)(h1:-(2 ^ 62)<=lo)(h2:lo<2 ^ 62)(h3:-(2 ^ 62)<=hi)(h4:hi<2 ^ 62)(q:R (Itw lo (lo-hi).toNat) H):Cc (Cd X.prog X.w) X.A (pyIter (.ref s.heap.objs.size)) (PIE X pq σ tg R) E {s with heap:=s.heap.push {cls:=.type "range",data:=.fields #[.int lo t,.int hi u,.int (-1) v]},toks:=tk}:=by
 refine wpAny_pyIter_range (IsRange.new ..) (W.small_down h1 h2 h3 h4) ?_;let I1:Inv X pq σ H {s with heap:=s.heap.push {cls:=.type "range",data:=.fields #[.int lo t,.int hi u,.int (-1) v]},toks:=tk}:=I.kept λb o e=>Fm _ e;refine⟨(s.heap.push {cls:=.type "range",data:=.fields #[.int lo t,.int hi u,.int (-1) v]}).objs.size,[(s.heap.push {cls:=.type "range",data:=.fields #[.int lo t,.int hi u,.int (-1) v]}).objs.size],_,_,H,rfl,
  I1.kept (t':=tk) λb o e=>Fm _ e,Zf7 _ lo (lo-hi).toNat,?_,λb hb=>?_,q⟩
 .let e1:lo+((0:Nat):Int)*(-1)=lo:=by simp
  let e2:(((lo-hi).toNat:Nat):Int)-((0:Nat):Int)=Ja2 lo hi (-1):=by rw[W.rangeSize_downNat];simp
  show IsRangeIter _ _ (lo+((0:Nat):Int)*(-1)) ((((lo-hi).toNat:Nat):Int)-((0:Nat):Int)) (-1);rw[e1,e2];exact Fn _ rfl
 .let e:b=(s.heap.push {cls:=.type "range",data:=.fields #[.int lo t,.int hi u,.int (-1) v]}).objs.size:=by simpa using hb
  subst e;exact I1.fpOk (Je _) (I1.hok.fresh (Je _))
def Zsb(ta:TA):TI:=λσ H R=>ta σ H λvs H1=>∃i j:Int,vs=[.int i,.int j,.int (-1)]/\(-(2 ^ 62)<=i/\i<2 ^ 62/\-(2 ^ 62)<=j/\j<2 ^ 62)/\R (Itw i (i-j).toNat) H1
theorem Za0{a b c:Expr}{ta:TA}{p:Pos}(hg:Gl X "range")(hm:X.mg "range"=none)(ha:PA X [a,b,c] ta)(hs:Ch [a,b,c] X.env=[(false,eval a X.env),(false,eval b X.env),(false,eval c X.env)]:=by rfl)(hs2:Ch [b,c] X.env=[(false,eval b X.env),(false,eval c X.env)]:=by rfl) :
  PI X tg (.Call (.Name "range" p) [a,b,c] [] pos) (Zsb ta):=by
 intro pq s σ H R I h;refine Call_ (Tp I hg hm boot_range (C5 (thn (ha pos pq s σ H _ I h) λus s1 hz=>?_) (by rw[hs,hs2]) (by rw[hs2];rfl)));let⟨vs,H1,I1,r1,q1⟩:=hz;let⟨i,j,e,⟨q1,q2,q3,q4⟩,q⟩:=q1;subst e;cases r1 with
 |cons r rr =>
  cases rr with
  |cons r' rr =>
   cases rr with
   |cons r'' rr =>
    cases rr;let⟨t,rfl⟩:=r;let⟨t',rfl⟩:=r';let⟨t'',rfl⟩:=r'';exact call_range_3 nofun (Zg3 I1 q1 q2 q3 q4 q) (.inl (PyProof.noPylong_small ()))
end
end L2
namespace L2
open PySem PySem.W PySem.Spec PyProof.Rows
def MetE(P:Ep)(w:Ct)(K:Cp)(mg:Str->Option Value)(base:Heap)(C:Addr)(m:Str)(k:Nat)(ps:List Str)(sp:Sp):Prop :=
 ∃f fd,Cls K C/\Meth K C m f/\FnOk P w K mg base (CXE P w) k f fd ps sp/\Vn K fd ps []
section
variable{k:Nat}{x m:Str}{p:Pos}{e o:Expr}{t:TA}{E:XK}
def Zmj{pl:Sem Bool}(he:PE X o ta)(M:MetE X.prog X.w X.K X.mg X.base C m k ps sp)(hr:Room k X.A)(hx:V4 (CXE X.prog X.w) X E)(ha:PA X (e::es) t)(hst:Ch (e::es) X.env=(false,eval e X.env)::Ch es X.env:=by rfl)(hpl:(Hm pos (Ch es X.env)).any (·.1)=false:=by rfl)(ht:eval (.Call (.Attribute o m apos) (e::es) [] pos) X.env=(do
   let ov <-eval o X.env
   Jfu apos.atName
   let(f,first) <-Mh [ov] (Jd3 ov m pl)
   callWith pos f first (Hm pos (Ch (e::es) X.env)) (Jfq pos (Ja4 [] X.env))):=by rfl) :
  PE X (.Call (.Attribute o m apos) (e::es) [] pos) (Zgd C m sp [] E ta t):=by
 let⟨f,fd,c,hm,F,hb⟩:=M;exact Zhi he c hm F hr hb .nil hx ha hst hpl ht
def Zrn(M:Mkr X.prog X.w X.K X.mg X.base x C k ps sp)(hr:Room (k+1) X.A)(hg:Gl X x)(hdb:(x==("__debug__":Str))=false:=by decide):PE X (.Call (.Name x p) [] [] pos) (Ze2 C sp [] E0 tNil):=by
 let⟨f,fd,hm,F,g,hb⟩:=M;exact Zk0 hm F hr hg g hb .nil Zk2 hdb
end
end L2
namespace L2
open PySem PySem.Spec PyProof.Rows
section
def Inv.thaw{σ0:St}{s1:Ca}{d:Addr}{kvs kvs0:List (Key×V)}{o:Obj}(I0:Inv X pq σ0 H s)(e0:H d=some (.dK kvs0))(I:Inv X pq σ H1 s1)(e1:H1 d=some (.frz o (.dK kvs))):Inv X pq σ (upd H1 d (.dK kvs)) s1:=by
 let nf:∀o u,X.H₀ d≠some (.frz o u):=λo u z=>by
  let:=I0.base.frzs d o u z;rw[e0]at this;cases this
 let ne:∀b,H1 b=none->b≠d:=λb n z=>by rw[z,e1]at n;cases n
 let⟨e2,z,hd,vs,r,ob,es,ep,e3,rest⟩:=(show Yt X.prog X.w H1 s1.heap d (.frz o (.dK kvs))from I.hok d _ e1);exists I.ok,I.os,I.bare,⟨I.base.keep,I.base.slot,λb o q n hx=>?_,I.base.there,λb xs q=>?_,λb o u q=>?_,λb ps q=>?_⟩,I.loc,I.cell,?_,λx c q=>?_,λp hp=>?_,λb u q=>?_,I.len
 .let:=I.base.free b o q n hx;rw[Zl (ne b this)];exact this
 .let:=I.base.tups b xs q;rw[Zl (λw=>by rw[w,e1]at this;cases this)];exact this
 .let:=I.base.frzs b o u q;rw[Zl (λw=>nf o u (by rw[<-w];exact q))];exact this
 .let⟨more,this⟩:=I.base.tbls b ps q;exists more,?_;rw[Zl (λw=>by rw[w,e1]at this;cases this)];exact this
 .rw[Zl (ne _ I.free)];exact I.free
 .let:=I.freeC x c q;rw[Zl (ne _ this)];exact this
 .let⟨p1,p2,p3⟩:=I.pin p hp;exists p1,by rw[Zl (ne _ p2)];exact p2,p3
 .by_cases w:b=d
  .subst w;rw[Zg]at q;cases q;exists z,hd,vs,r,ob,es,ep,e3,rest
  .rw[Zl w]at q;refine(I.hok b u q).stay (λc v hc q'=>q') (λy q'=>?_) λc xs q'=>?_
   .rw[Zl (λw'=>by rw[w',e1]at q';cases q')];exact q'
   .rw[Zl (λw'=>by rw[w',e1]at q';cases q')];exact q'
def Zrb(t:TS):TS:=λD σ H=>∃d kvs0,H d=some (.dK kvs0)/\t {D with nx:=λσ' H1=>∃o kvs,H1 d=some (.frz o (.dK kvs))/\D.nx σ' (upd H1 d (.dK kvs))} σ H
theorem Zn3{t:TS}(h:PS X st t):PS X st (Zrb t):=by
 intro pq s σ H D I hq;let⟨d,kvs0,e0,hq⟩:=hq;refine Fx (h pq s σ H _ I hq) (λf s1 h1=>?_) λ_ _ z=>z;cases f with
 |next =>
  let⟨σ',H1,I1,o,kvs,e1,q⟩:=h1;exists σ',_,I.thaw e0 I1 e1,q
 |brk=>exact h1
 |cont=>exact h1
 |ret u=>exact h1
end
section
variable{c:Expr}{a b:List Stmt}{t u:TS} 
theorem Zme(hc:PT X c tc)(ha:PSF X pq σ a t)(hb:PSF X pq σ b u):PSF1 X pq σ (.If c a b pos) (tIfS tc t u):=by
 intro s H D I h;refine wpAny_If (thn (hc pq s σ H _ I h) λd s1 hz=>?_);let⟨H1,I1,q1⟩:=hz;cases d with
 |true=>exact ha s1 H1 D I1 q1
 |false=>exact hb s1 H1 D I1 q1
end
section
def Inv.turnedL(I:Inv X pq σ H s)(k:∀b o,b∉ch->s.heap.get? b=some o->h'.get? b=some o)(f:∀b∈ch,FpOk X pq H b):Inv X pq σ H {s with heap:=h',toks:=t'}:=by
 let ne:∀b u,H b=some u->b∉ch:=λb u q z=>by rw[(f b z).1]at q;cases q
 refine I.step (g':=s.gens) (d':=s.drawn) (ch:=ch) (λb hb=>?_) (λb o _ _ hc q _=>k b o hc q) (λb o _ _ hc q _=>⟨o.slots,k b o hc q⟩) (λ_ _ _ _ n=>n)
  (λb o hc q=>⟨o,k b o hc q⟩) (λ_ _ q=>q) (λ_ _ _ q=>q) (λb ps q=>⟨#[],by rw[q];simp⟩) (λm hm=>?_) (λb u q=>?_) I.bare
 .let⟨f0,f1,f2,f3,f4,f5⟩:=f b hb;exists f3,f1,f4,f5
 .let⟨o,es,ep,ho,r⟩:=hm;exists o,es,ep,k _ o (λz=>(f _ z).2.1 rfl) ho,r
 .refine(I.hok b u q).stay (λc v hc q'=>k c v ?_ q') (λ_ q=>q) λ_ _ q=>q;rcases hc with z|z
  .rw[z];exact ne b u q
  .exact ne c _ z
end
def Itz(K:Cp)(a b:Addr):It :=
  ⟨λi H=>∃xs ys x y,SqL K H a xs/\SqL K H b ys/\xs[i]?=some x/\ys[i]?=some y,
   λi H v H'=>∃(t:Addr)(x y:V),v=.ref t/\H t=none/\H'=upd H t (.tup [x,y])/\(∀xs,SqL K H a xs->xs[i]?=some x)/\∀ys,SqL K H b ys->ys[i]?=some y,
   λi H=>∃xs ys,SqL K H a xs/\SqL K H b ys/\(xs.length<=i\/ys.length<=i)⟩
theorem Zke{w:Ct}(a b z TI TO i1 i2:Addr)(D:ZipApart z TI TO i1 i2 a b):Turn P w K (.Tuple elts x1 pos) (Itz K a b) [z,TI,TO,i1,i2] z
  (λi h=>IsZip h z TI TO .none/\IsPair h TI (.ref i1) (.ref i2)/\(∃u v,IsPair h TO u v)/\h.IsListIter i1 a i/\h.IsListIter i2 b i) where
 mem:=by simp
 obj:=λi h st c hc=>by
  let⟨hz,hTI,⟨u,v,hTO⟩,⟨o1,e1,c1,d1⟩,⟨o2,e2,c2,d2⟩⟩:=st;simp only[Jq,Gp,or_false]at hc;rcases hc with rfl|rfl|rfl|rfl|rfl
  .exact⟨_,hz,λv z=>by cases z⟩
  .exact⟨_,hTI,λv z=>by cases z⟩
  .exact⟨_,hTO,λv z=>by cases z⟩
  .exact⟨o1,e1,λv z=>by rw[d1]at z;cases z⟩
  .exact⟨o2,e2,λv z=>by rw[d2]at z;cases z⟩
 keep:=λi h h' st k=>by
  let⟨hz,hTI,⟨u,v,hTO⟩,h1,h2⟩:=st;exists k z (by simp) _ hz,k TI (by simp) _ hTI,⟨u,v,k TO (by simp) _ hTO⟩,h1.at λo q=>k i1 (by simp) o q,h2.at λo q=>k i2 (by simp) o q
 item:=by
  intro X hP hw hK hc i pq s σ H E I hf st hg;subst hP hw hK;let⟨hz,hTI,⟨u,v,hTO⟩,h1,h2⟩:=st;let⟨xs,ys,x,y,hq,hr,hx,hy⟩:=hg;let⟨its,rv,p,_⟩:=I.list hq;let⟨its2,rv2,p2,_⟩:=I.list hr;let⟨ux,hu,ru⟩:=rv.get hx;let⟨uy,hu2,ru2⟩:=rv2.get hy;refine wpAny_pyNext_zip_item D hz hTI hTO h1 h2 p.isList p2.isList (x:=ux) (y:=uy) (by simpa using hu) (by simpa using hu2) λhp1 a1 a2 a3 a4 a5 a6 a7=>?_;exists ·,wpAny_letOwnedTupleGo_zip a1 λhp2 b1 sb=>?_
  replace sb:E9 z hp1 hp2:=sb
  let lt:∀c∈[z,TI,TO,i1,i2],c<s.heap.objs.size:=λc hc=>by
   simp only[Jq,Gp,or_false]at hc;rcases hc with rfl|rfl|rfl|rfl|rfl
   .exact Fo hz
   .exact Fo hTI
   .exact Fo hTO
   .let⟨_,q,_⟩:=h1;exact Fo q
   .let⟨_,q,_⟩:=h2;exact Fo q
  let fr:H s.heap.objs.size=none:=I.fresh;let Il:Inv X pq σ (upd H s.heap.objs.size (.tup [x,y])) {s with heap:=s.heap.push {cls:=.type "tuple",data:=.seq #[ux,uy]},toks:=s.toks}:=I.laid (λb o q=>Fm _ q) (Je _)
   ⟨by show 2<=sizeLine;decide,[ux,uy],.cons ru (.cons ru2 .nil),⟨_,Fn _ rfl,rfl,_,rfl,rfl⟩⟩
  let up:∀c∈[z,TI,TO,i1,i2],FpOk X pq (upd H s.heap.objs.size (.tup [x,y])) c:=λc hc=>by
   let⟨f0,f⟩:=hf c hc;exists ?_,f;rw[Zl (J9 (lt c hc))];exact f0
  let I2:Inv X pq σ (upd H s.heap.objs.size (.tup [x,y])) {s with heap:=hp2,toks:=s.toks}:=by
   refine Inv.turnedL (s:={s with heap:=s.heap.push {cls:=.type "tuple",data:=.seq #[ux,uy]},toks:=s.toks}) (h':=hp2) (t':=s.toks) (ch:=[z,TI,TO,i1,i2]) Il (λc o hc q=>?_) up;simp only[Jq,Gp,or_false,not_or]at hc;rcases Jdj q with⟨z1,z2⟩|q
   .subst z1 z2;exact(sb.2 _ hc.1).trans a5
   .exact(sb.2 _ hc.1).trans (a7 c o hc.1 hc.2.2.1 hc.2.2.2.1 hc.2.2.2.2 q)
  refine⟨.ref s.heap.objs.size,_,I2,rfl,⟨_,x,y,rfl,fr,rfl,λzs hz'=>by rw[I.list_inj hz' hq];exact hx,λzs hz'=>by rw[I.list_inj hz' hr];exact hy⟩,
   ⟨b1,(sb.2 TI D.TIz).trans (a7 _ _ D.TIz D.TITO D.TIi1 D.TIi2 hTI),⟨_,_,(sb.2 TO D.TOz).trans a2⟩,a3.at λo q=>(sb.2 i1 D.i1z).trans q,a4.at λo q=>(sb.2 i2 D.i2z).trans q⟩,λc hc=>(up c hc).1⟩
 done:=by
  intro X hP hw hK hc i pq s σ H E I hf st hg;subst hP hw hK;let⟨hz,hTI,⟨u,v,hTO⟩,h1,h2⟩:=st;let⟨xs,ys,hq,hr,hx⟩:=hg;let⟨its,rv,p,_⟩:=I.list hq;let⟨its2,rv2,p2,_⟩:=I.list hr;let l1:=rv.length;let l2:=rv2.length;refine wpAny_pyNext_zip_end (I.ok.hd hc) D hz hTI hTO h1 h2 p.isList p2.isList (by simp;lia) λhp1 kp=>⟨rfl,?_⟩;refine I.turnedL (t':=s.toks) (ch:=[z,TI,TO,i1,i2]) (λc o hc q=>?_) hf;simp only[Jq,Gp,or_false,not_or]at hc;exact kp c o hc.1 hc.2.2.1 hc.2.2.2.1 hc.2.2.2.2 q
 self:=λ_ _ _ _ _ st h=>Jfl st.1 h
section
def iZip(K:Cp)(tl:TA):TI:=λσ H R=>tl σ H λvs H1=>∃a b,vs=[.ref a,.ref b]/\(∃xs,SqL K H1 a xs)/\(∃ys,SqL K H1 b ys)/\R (Itz K a b) H1
theorem Zmh{pt:Pos}{l r:Expr}{tl:TA}{p:Pos}(hg:Gl X "zip")(hm:X.mg "zip"=none)(ha:PA X [l,r] tl)(hs:Ch [l,r] X.env=[(false,eval l X.env),(false,eval r X.env)]:=by rfl)(hs2:Ch [r] X.env=[(false,eval r X.env)]:=by rfl):PI X (.Tuple elts x1 pt) (.Call (.Name "zip" p) [l,r] [] pos) (iZip X.K tl):=by
 intro pq s σ H R I h;refine Call_ (Tp I hg hm boot_zip (C5 (thn (ha pos pq s σ H _ I h) λus s1 hz=>?_) (by rw[hs,hs2]) (by rw[hs2];rfl)));let⟨vs,H1,I1,r1,q1⟩:=hz;let⟨a,b,e,⟨xs,hq⟩,⟨ys,hr⟩,q⟩:=q1;subst e;cases r1 with
 |cons r rr =>
  cases rr with
  |cons r' rr =>
   cases rr;cases r;cases r';let⟨its,rv,pl,_⟩:=I1.list hq;let⟨its2,rv2,pl2,_⟩:=I1.list hr;refine call_zip_2 pl.isList pl2.isList λhp1 c1 c2 c3 c4 c5 c6 c7=>?_;let I2:Inv X pq σ H1 {s1 with heap:=hp1,toks:=s1.toks}:=I1.kept c7;refine Jfl c1 ?_;let la:a<s1.heap.objs.size:=by let⟨o,e,_⟩:=pl.isList;exact Fo e
   let lb:b<s1.heap.objs.size:=by let⟨o,e,_⟩:=pl2.isList;exact Fo e
   refine⟨s1.heap.objs.size+4,[s1.heap.objs.size+4,s1.heap.objs.size+2,s1.heap.objs.size+3,s1.heap.objs.size,s1.heap.objs.size+1],_,_,H1,rfl,I2,Zke a b _ _ _ _ _ (zipApart_new la lb),⟨c1,c2,⟨_,_,c3⟩,c4,c5⟩,λc hc=>?_,q⟩;let hle:s1.heap.objs.size<=c:=by
    simp only[Jq,Gp,or_false]at hc;rcases hc with rfl|rfl|rfl|rfl|rfl<;>lia
   exact I1.fpOk hle (I1.hok.fresh hle)
end
end L2
namespace L2
open PySem PySem.Spec PyProof.Rows PySem.W
section
variable{M:Jge}{K:Frag}{D1 D2:Addr}
def Zet{D:Addr}(hb:Ej K D (.type "BaseException")=some true):∃(oD:Obj)(cd:ClassData),K.lookup D=some oD/\oD.data=.cls cd:=by
 unfold Ej at hb;let⟨cd,z,_⟩:=Option.bind_eq_some_iff.mp hb;unfold clsIn at z
 split at z
 .rename_i e
  exists _,_,e,rfl
 .cases z
theorem Zbl{b1 b2:Bool}{tdd:Option Addr}{tn:Nat}{tsl:Array (Option Value)}{Q:Bool->Ca->Prop}(X:K.In s.heap)(t1:Jhe K (.ref D1)=some (.type "type"))(q1:Ej K D1 (.type "BaseException")=some true)(t2:Jhe K (.ref D2)=some (.type "type"))(q2:Ej K D2 (.type "BaseException")=some true)(hp:s.heap.get? tp=some {cls:=.type "tuple",dict:=tdd,data:=.seq #[.ref D1,.ref D2] tn,slots:=tsl})(he:s.heap.get? ea=some oe)(hc:oe.cls=.ref C)(m1:Ej K C (.ref D1)=some b1)(m2:Ej K C (.ref D2)=some b2)(k:Q (b1 ||b2) s):Cc M A (Je0 (.ref ea) (.ref tp)) Q E s:=by
 let h1:=Zb7 X t1;let h2:=Zb7 X t2;let L1:=Hu (M:=M) X q1;let L2:=Hu (M:=M) X q2;let L3:=Hu (M:=M) X m1;let L4:=Hu (M:=M) X m2;let n1:=tc_notTuple;let n2:=tc_sub;let⟨o1,cd1,l1,e1⟩:=Zet q1;let⟨o2,cd2,l2,e2⟩:=Zet q2;let x1:=X _ _ l1;let x2:=X _ _ l2;let⟨c0,dd0,dt0,sl0⟩:=o1;let⟨c9,dd9,dt9,sl9⟩:=o2;dsimp only at e1 e2;subst e1 e2;let⟨hh,g,d,t,os⟩:=s;unfold Je0;let tt:=Mx
 repeat (first|(with_reducible refine C1 hp ?_)|(with_reducible refine C1 he ?_;rw[hc])|with_reducible refine C1 x1 ?_|with_reducible refine C1 x2 ?_|with_reducible refine L1.at ?_|with_reducible refine L2.at ?_|with_reducible refine L3.at ?_|with_reducible refine L4.at ?_|wp_step)
 cases b1 with
 |true=>wp_walk;exact k
 |false =>
  repeat (first|with_reducible refine L4.at ?_|wp_step)
  cases b2<;>(wp_walk;exact k)
end
def Zqj(K:Frag)(D1 D2:Addr)(ts:TS)(thr:TH):TH:=λC d ea D σ H=>∃b1 b2,Ej K C (.ref D1)=some b1/\Ej K C (.ref D2)=some b2/\∀p,H p=none->if(b1 ||b2)=true then ts D σ (upd H p (.tup [.ref D1,.ref D2]))else thr C d ea D σ (upd H p (.tup [.ref D1,.ref D2]))
section
variable{c1 c2:Str}{D1 D2:Addr}{rest:List Eu}{n1 n2 tpos:Pos}{ts:TS} 
theorem Zsh(ca1:Cau X.K X.mg c1 D1)(hg1:Gl X c1)(ca2:Cau X.K X.mg c2 D2)(hg2:Gl X c2)(hs:∀e,PSs (X.mrk e) (b0::body) ts)(hr:HS X rest thr)(hd1:(c1==("__debug__":Str))=false:=by decide)(hd2:(c2==("__debug__":Str))=false:=by decide) :
  HS X (.ExceptHandler (some (.Tuple [.Name c1 n1,.Name c2 n2] x1 tpos)) none (b0::body) pos::rest) (Zqj X.K D1 D2 ts thr):=by
 intro pq s σ H ea C T d D I hea fl fp h;let⟨b1,b2,m1,m2,h⟩:=h;refine Jdu (Jc7 ?_) (by intro q;cases q);let J:=I.mrk (.ref ea);refine Ll ?_;show Cc _ _ (Jhg ((false,eval (.Name c1 n1) X.env)::(false,eval (.Name c2 n2) X.env)::[])) _ _ s;refine Hj (Vd (X:=X.mrk (.ref ea)) J hg1 ca1.mg ?_ hd1);refine Hj (Vd (X:=X.mrk (.ref ea)) J hg2 ca2.mg ?_ hd2);refine Mq ?_;exists by show 2<=sizeLine;decide,?_;let fr:H s.heap.objs.size=none:=I.fresh;let kp:∀b o,s.heap.get? b=some o->(s.heap.push {cls:=.type "tuple",data:=.seq #[.ref D1,.ref D2]}).get? b=some o:=λb o e=>Fm _ e
 let atp:(s.heap.push {cls:=.type "tuple",data:=.seq #[.ref D1,.ref D2]}).get? s.heap.objs.size=some {cls:=.type "tuple",data:=.seq #[.ref D1,.ref D2]}:=Fn _ rfl;let I1:Inv X pq σ (upd H s.heap.objs.size (.tup [.ref D1,.ref D2])) {s with heap:=s.heap.push {cls:=.type "tuple",data:=.seq #[.ref D1,.ref D2]},toks:=s.toks}:=I.laid kp (Je _)
  ⟨by show 2<=sizeLine;decide,[.ref D1,.ref D2],.cons rfl (.cons rfl .nil),⟨_,atp,rfl,_,rfl,rfl⟩⟩
 let pe:s.heap.objs.size≠ea:=λz=>by rw[z,hea]at fr;cases fr
 let hea1:upd H s.heap.objs.size (.tup [.ref D1,.ref D2]) ea=some (.ext (excP ea C d)):=by rw[Zl (Cu pe)];exact hea
 let⟨⟨oe,vs,e1,e2,e3,e4,e5⟩,_,_⟩:=I1.hok ea _ hea1;let fl1:Zdn ea T (s.heap.push {cls:=.type "tuple",data:=.seq #[.ref D1,.ref D2]}):=by
  let⟨oe,vs,oT,ts,f1,f2,f3,f4,f5⟩:=fl;exists oe,vs,oT,ts,kp _ _ f1,f2,f3,kp _ _ f4,f5
 let lT:T<s.heap.objs.size:=by
  let⟨oe,vs,oT,ts,f1,f2,f3,f4,f5⟩:=fl;exact Fo f4
 let fp1:FpOk X pq (upd H s.heap.objs.size (.tup [.ref D1,.ref D2])) T:=⟨by rw[Zl (J9 lT)];exact fp.1,fp.2⟩;let h:=h _ fr;refine Zbl I1.kIn ca1.ty ca1.bx ca2.ty ca2.bx atp e1 e2 m1 m2 ?_;generalize (b1 ||b2)=b at h;cases b with
 |false=>exact hr pq _ σ _ ea C T d D I1 hea1 fl1 fp1 h
 |true =>
  refine Zkg (Sn (I1.mrk (.ref ea)) fl1 fp1 λs1 J1=>?_);exact Fx (hs (.ref ea) pq s1 _ _ _ J1 h) (λf s3 h3=>h3.unmrk I.ok) λ_ _ z=>z
end
section
def Zpx(X:Cx)(pq:List (Addr×Obj))(Ex:St->XK)(e:Value)(s':Ca):Prop:=∃σ,Zta X pq σ (Ex σ) e s'
def Zue{Ex:St->XK}(σ:St):Vg (CXE X.prog X.w) (X.wish (Zpx X pq Ex)) pq σ (Ex σ):=by
 intro H s e s' I hx;let⟨ea,C,T,d,H2,rfl,os,bare,un,hok,hea,lea,nT,lT,fl,q⟩:=hx;let I':=I.unwish;let I2:Inv X pq σ H2 s':=I'.call' os un hok bare (ch:=[]) λb z=>absurd z (by simp);exists σ,ea,C,T,d,H2,rfl,I2,hea,fl,I'.fpOk lT nT,q
def Zgb(tb:(St->XK)->TS)(th:TH):TS:=λD σ H=>tb (λσ' cls d H'=>∃C,cls=.ref C/\∀ea,H' ea=some (.ext (excP ea C d))->th C d ea D σ' H') D σ H
def Zhb{bd:List Stmt}{h0:Eu}{hs:List Eu}{tb:(St->XK)->TS}{L:Addr}(hst:X.stack=X.env::X.outer)(hf:X.env.frame=some L)(hb:∀(pq:List (Addr×Obj))(σ:St)(xe:Value->Ca->Prop)(Ex:St->XK),(∀σ,Vg (CXE X.prog X.w) (X.wish xe) pq σ (Ex σ))->PSF (X.wish xe) pq σ bd (tb Ex))(hh:HS X (h0::hs) th) :
  PS X (.Try bd (h0::hs) [] [] pos) (Zgb tb th):=by
 intro pq s σ H D I h;refine wpAny_Try_except (Fx (hb pq σ _ _ Zue s H D (I.wish _) h) (λf s1 h1=>?_) λe s1 h1=>?_)
 .let h2:=h1.unwish;cases f with
  |next=>exact E4 h2
  |brk=>exact h2
  |cont=>exact h2
  |ret u=>exact h2
 .let⟨σ1,ea,C,T,d,H1,rfl,I1,hea,fl,fp,C',hC,k⟩:=h1;cases hC;let⟨oe,vs,oT,ts,e1,d1,v1,e2,d2,t3,ne⟩:=fl;refine Pi (base:=X.base) (by rw[I1.ok.frames,hst]) (by have:=I1.stack;rw[hst]at this;exact this) hf e1 d1 v1 e2 d2 t3 ne λh' g=>?_;rw[<-hst]at g;let I2:=I1.noted hea e1 d1 (λT' z=>by cases z;exact fp) g;let⟨T',lT,fl'⟩:=g.flies;exact hh pq _ σ1 H1 ea C T' d D I2 hea fl' (I1.fpOk lT (I1.hok.fresh lT)) (k ea hea)
end
end L2
namespace L2
open PySem PySem.Spec PyProof.Rows
def Zri:V->List V->Hp->VK->Prop:=λx xs H Q=>∃z y:Str,x=.str z/\xs=[.str y]/\Q (.int (Txt.find z y)) H
def Zom :MtR X "str.find" Zri:=by
 intro pq s σ H x xs v us Q I rx r h;let⟨z,y,rfl,rfl,q⟩:=h;let⟨t,rfl⟩:=rx;let⟨u,rfl,ru⟩:=Re r;let⟨t2,rfl⟩:=ru;exact SC.find ⟨.int _,H,I.tok _,⟨_,rfl⟩,q⟩
theorem Zn2{s1 s2:Stmt}{h0:Eu}{hs:List Eu}{L:Addr}(hst:X.stack=X.env::X.outer)(hf:X.env.frame=some L)(h1:∀(pq:List (Addr×Obj))(σ:St)(xe:Value->Ca->Prop)(Ex:XK),Vg (CXE X.prog X.w) (X.wish xe) pq σ Ex->PSF1 (X.wish xe) pq σ s1 (t1 Ex))(h2:∀(pq:List (Addr×Obj))(σ:St)(xe:Value->Ca->Prop)(Ex:XK),Vg (CXE X.prog X.w) (X.wish xe) pq σ Ex->PSF1 (X.wish xe) pq σ s2 (t2 Ex))(hh:HS X (h0::hs) th) :
  PS X (.Try [s1,s2] (h0::hs) [] [] pos) (Zgb (λEx D σ H=>t1 (Ex σ) {D with nx:=λσ' H'=>t2 (Ex σ') D σ' H'} σ H) th):=by
 refine Zhb hst hf (λpq σ xe Ex hp=>?_) hh;intro s H D I q;refine Hg (Fx (h1 pq σ xe (Ex σ) (hp σ) s H _ I q) (λf s3 h3=>?_) λ_ _ z=>z);cases f with
 |next=>obtain⟨σ',H',I',q'⟩:=h3;exact Nb (h2 pq σ' xe (Ex σ') (hp σ')) s3 H' D I' q'
 |brk=>exact h3
 |cont=>exact h3
 |ret u=>exact h3
section
theorem To{p B:Addr}{R:Jd4->Ca->Prop}(hA:A.handled=none)(hBi:it≠B)(fit:FpOk X pq H it)(fB:FpOk X pq H B) :
  ∀(k:Nat)(i:Nat)(cur:Option Int)(cv:Option Value)(s:Ca)(c:Nat),ns.length=i+k->(cur=none->i<ns.length)->Inv X pq σ H s->Q3 X.K H s.heap p it (ns.map V.int) i->s.heap.get? B=some (lst0 (Ta cv) c) ->
   (match cur,cv with|none,none=>True|some n,some v=>∃t,v=Ea n t|_,_=>False) ->
   (∀s' u,Inv X pq σ H s'->(match mxOf cur (ns.drop i)with|none=>False|some n=>∃t,u=Ea n t)->R (.ok (.ret u)) s') ->
   Hb (Cd X.prog X.w) A (.builtin "max.loop" ⟨[.ref it,.none,.ref B],[]⟩) R s
 |0,i,cur,cv,s,c,hk,hn,I,src,hB,hc,h=>by
  let hname:(Jei "max"++Jei ".loop":String)="max.loop":=by decide
  refine Lp Jcw ?_;rw[Hz Ei _];show Cc _ A.in1 (Jh1 (.ref B) >>= _) _ _ s;refine Fk (wpAny_seqItems hB rfl ?_);show Cc _ A.in1 (tryCatch (Jd0 (.ref it)) _ >>= _) _ _ s;refine Fk (Mj (Fx (Zgh (Q:=λr s'=>r=none/\Inv X pq σ H s'/\s'.heap.get? B=some (lst0 (Ta cv) c)) (I.pin1 fB hB (by intro v;simp)) (fit.snoc hBi.symm) hA src (by simp;lia) λs' I'=>⟨rfl,I'.unpinned,(I'.pin (B,lst0 (Ta cv) c) (by simp)).1⟩) (λr s' hz=>?_) λ_ _ z=>z));let⟨er,I',hB'⟩:=hz;subst er;let hd:ns.drop i=[]:=List.drop_eq_nil_of_le ()
  rw[hd]at h;cases cur with
  |none =>
   cases cv with
   |some v=>exact hc.elim
   |none =>
    exact absurd (hn rfl) ()
  |some n =>
   cases cv with
   |none=>exact hc.elim
   |some v =>
    show Cc _ A.in1 (updateSeq B (λ_=>#[]) >>= _) _ _ _;refine Fk (Lu hB' rfl (Fk (Jb3 (Fl ?_))) (Zdh _));exact h _ v (I'.turn1 fB (Er _ _ _)) hc
 |k+1,i,cur,cv,s,c,hk,hn,I,src,hB,hc,h=>by
  let hname:(Jei "max"++Jei ".loop":String)="max.loop":=by decide
  let hil:i<ns.length:=by lia
  refine Lp Jcw ?_;rw[Hz Ei _];show Cc _ A.in1 (Jh1 (.ref B) >>= _) _ _ s;refine Fk (wpAny_seqItems hB rfl ?_);show Cc _ A.in1 (tryCatch (Jd0 (.ref it)) _ >>= _) _ _ s;refine Fk (Mj (Fx (Zdu (x:=V.int ns[i]) (Q:=λr s'=>∃u,r=some u/\RelV (V.int ns[i]) u/\Inv X pq σ H s'/\s'.heap.get? B=some (lst0 (Ta cv) c)/\Q3 X.K H s'.heap p it (ns.map V.int) (i+1)) (I.pin1 fB hB (by intro v;simp)) (fit.snoc hBi.symm) src (by rw[Jv,Ja hil];rfl)
   λu s' ru I' src'=>⟨u,rfl,ru,I'.unpinned,(I'.pin (B,lst0 (Ta cv) c) (by simp)).1,src'⟩) (λr s'⟨u,er,ru,I',hB',src'⟩=>?_) λ_ _ z=>z))
  subst er;let⟨t,eu⟩:=ru;subst eu;rw[Bi hil]at h;let st:=λ(f:Obj->Obj)=>Er s'.heap B f;cases cur with
  |none =>
   cases cv with
   |some v=>exact hc.elim
   |none =>
    show Cc _ A.in1 (updateSeq B (λ_=>#[Ea ns[i] t,Ea ns[i] t]) >>= _) _ _ _;refine Fk (Lu hB' rfl ?_ (Zdh _));rw[hname];refine Fl ⟨Jb6 Ei _,To hA hBi fit fB k (i+1) (some ns[i]) (some (Ea ns[i] t)) _ _ () (λz=>nomatch z) (I'.turn1 fB (st _)) (src'.at (λob e=>((st _).2 it hBi).trans e) id id) (C7 _ hB' rfl) ⟨t,rfl⟩ ?_⟩;simpa only[mxOf]using h
  |some n =>
   cases cv with
   |none=>exact hc.elim
   |some v =>
    let⟨t',hv⟩:=hc;subst hv;show Cc _ A.in1 (tryCatch (Mh [Ea ns[i] t,Ea ns[i] t] (richCompare .Gt (Ea ns[i] t) (Ea n t') >>= _)) _ >>= _) _ _ _;refine Fk (Mj (Cw (Fk (show Cc (Cd X.prog X.w) A.in1 (Eh .Gt (Ea ns[i] t) (Ea n t')) _ _ _ from Jik ?_))));refine Fk (Cw (E2 ?_));refine Fk (Jb3 (Fl ?_))
    by_cases hlt:n<ns[i]
    .simp only[hlt,decide_true,if_true];refine Fk (Lu hB' rfl (Fk (Jb3 ?_)) (Zdh _));rw[hname];refine Fl ⟨Jb6 Ei _,To hA hBi fit fB k (i+1) (some ns[i]) (some (Ea ns[i] t)) _ _ () (λz=>nomatch z) (I'.turn1 fB (st _)) (src'.at (λob e=>((st _).2 it hBi).trans e) id id) (C7 _ hB' rfl) ⟨t,rfl⟩ ?_⟩;simpa only[mxOf,hlt,if_true]using h
    .simp only[hlt,decide_false,G1,if_false];refine Fk (Jb3 ?_);rw[hname];refine Fl ⟨Jb6 Ei _,To hA hBi fit fB k (i+1) (some n) (some (Ea n t')) _ _ () (λz=>nomatch z) I' src' hB' ⟨t',rfl⟩ ?_⟩;simpa only[mxOf,hlt,if_false]using h
theorem Zjk(hc:X.calm=true):Vj X (.builtin "max") (λxs H Q=>∃(a:Addr)(ns:List Int)(n:Int),xs=[.ref a]/\SqL X.K H a (ns.map V.int)/\mxOf none ns=some n/\Q (.int n) H):=by
 intro pq s2 σ H2 xs us Q I2 r h;let⟨a,ns,n,rfl,hl,en,q⟩:=h;let⟨u,rfl,ru⟩:=Re r;cases ru;let hname:(Jei "max"++Jei ".loop":String)="max.loop":=by decide
 refine call_function_tree PySem.F.kind_max PySem.F.plain_max PySem.F.entry_max (PySem.F.args_max1 _) ?_;show Cc _ X.A.in1 (Lv "max" ["key","default"] 0 ⟨[],[]⟩ >>= _) _ _ s2;refine Fk (wpAny_of_eq (show Lv "max" ["key","default"] 0 ⟨[],[]⟩=pure [none,none]from rfl) ?_);refine Fk (Fl ?_);let⟨its,rv,pl,hz⟩:=I2.list hl;refine Fk (Mo pl.isList ?_);refine Fk (Jb4 ?_ (Gf _));rw[hname];let I3:Inv X pq σ H2 {s2 with heap:=(s2.heap.push {cls:=.type "list_iterator",data:=.fields #[.ref a,.int 0 0]}).push (lst0 #[] 0)}:=I2.kept (t':=s2.toks) λb o e=>Fm _ (Fm _ e)
 let hit:FpOk X pq H2 s2.heap.objs.size:=I2.fpOk (Je _) (I2.hok.fresh (Je _));let hle:s2.heap.objs.size<=(s2.heap.push {cls:=.type "list_iterator",data:=.fields #[.ref a,.int 0 0]}).objs.size:=by rw[Ew];exact Bg _
 let hB:=I2.fpOk (H':=H2) hle (I2.hok.fresh hle);let nB:s2.heap.objs.size≠(s2.heap.push {cls:=.type "list_iterator",data:=.fields #[.ref a,.int 0 0]}).objs.size:=by rw[Ew];exact J9 (B9 _)
 refine Fl ⟨Jb6 Ei _,To (A:=X.A) (I2.ok.hd hc) nB hit hB ns.length 0 none none _ 0 () (λ_=>?_) I3 (.inl ⟨hl,⟨_,Fm _ (Fn _ rfl),rfl,rfl⟩⟩) (Fn _ rfl) trivial λs' u I' hu=>?_⟩
 .cases ns with
  |nil=>cases en
  |cons _ _=>exact Nat.succ_pos _
 .rw[Fg,en]at hu;exists .int n,H2,I',hu,q
end
def Zha :PSF X pq σ [] Zne:=λs H D I h=>E4 ⟨σ,H,I,h⟩
theorem Zn1{s1 s2 s3:Stmt}{h0:Eu}{hs:List Eu}{t3:XK->TS}{L:Addr}(hst:X.stack=X.env::X.outer)(hf:X.env.frame=some L)(h1:∀(pq:List (Addr×Obj))(σ:St)(xe:Value->Ca->Prop)(Ex:XK),Vg (CXE X.prog X.w) (X.wish xe) pq σ Ex->PSF1 (X.wish xe) pq σ s1 (t1 Ex))(h2:∀(pq:List (Addr×Obj))(σ:St)(xe:Value->Ca->Prop)(Ex:XK),Vg (CXE X.prog X.w) (X.wish xe) pq σ Ex->PSF1 (X.wish xe) pq σ s2 (t2 Ex))(h3:∀(pq:List (Addr×Obj))(σ:St)(xe:Value->Ca->Prop)(Ex:XK),Vg (CXE X.prog X.w) (X.wish xe) pq σ Ex->PSF1 (X.wish xe) pq σ s3 (t3 Ex))(hh:HS X (h0::hs) th) :
  PS X (.Try [s1,s2,s3] (h0::hs) [] [] pos) (Zgb (λEx D σ H=>t1 (Ex σ) {D with nx:=λσ' H'=>t2 (Ex σ') {D with nx:=λσ2 H2=>t3 (Ex σ2) D σ2 H2} σ' H'} σ H) th):=by
 refine Zhb hst hf (λpq σ xe Ex hp=>?_) hh;intro s H D I q;refine Hg (Fx (h1 pq σ xe (Ex σ) (hp σ) s H _ I q) (λf s3 h3'=>?_) λ_ _ z=>z);cases f with
 |next =>
  let⟨σ',H',I',q'⟩:=h3';refine Hg (Fx (h2 pq σ' xe (Ex σ') (hp σ') s3 H' _ I' q') (λf s4 h4=>?_) λ_ _ z=>z);cases f with
  |next=>obtain⟨σ2,H2,I2,q2⟩:=h4;exact Nb (h3 pq σ2 xe (Ex σ2) (hp σ2)) s4 H2 D I2 q2
  |brk=>exact h4
  |cont=>exact h4
  |ret u=>exact h4
 |brk=>exact h3'
 |cont=>exact h3'
 |ret u=>exact h3'
def FlyV(ea T:Addr)(v:Value)(h:Heap):Prop:=∃oe vs oT ts,h.get? ea=some oe/\oe.data=.fields vs/\vs[1]?=some (.ref T)/\h.get? T=some oT/\oT.data=.fields ts/\ts[3]?=some v/\T≠ea
structure GoneV(fs:List Addr)(ea:Addr)(T0:Option Addr)(oe:Obj)(vs:Array Value)(v:Value)(h h':Heap):Prop where
 keep:∀b o,b∉fs->b≠ea->some b≠T0->h.get? b=some o->h'.get? b=some o
 slot:∀b o,b≠ea->some b≠T0->h.get? b=some o->∃sl,h'.get? b=some {o with slots:=sl}
 flow:∃T vs' ob ts,h.objs.size<=T/\h'.get? ea=some {oe with data:=.fields vs'}/\vs'.size=vs.size/\vs'[1]?=some (.ref T)/\h'.get? T=some ob/\ob.data=.fields ts/\ts[3]?=some v/\T≠ea
section
variable{M:Jge}{Ex:Value->Ca->Prop} 
def Zhx{base:Heap}{env cenv:Env}{outer:List Env}{L T0:Addr}{oT:Obj}{vs ts:Array Value}{v:Value}{Q:Unit->Ca->Prop}(fr:A.frames=some (env::outer))(ff:s.heap.FunFrames base (env::outer))(ef:env.frame=some L)(ec:cenv.frame=env.frame)(eo:s.heap.get? ea=some oe)(od:oe.data=.fields vs)(v1:vs[1]?=some (.ref T0))(eT:s.heap.get? T0=some oT)(dT:oT.data=.fields ts)(t3:ts[3]?=some v)(hv:(v==Et L)=false)(ne:T0≠ea)(k:∀h',GoneV (frs (env::outer)) ea (some T0) oe vs (Et L) s.heap h'->Q ⟨⟩ {s with heap:=h'}) :
  Cc M A (Hq (.ref ea) cenv) Q Ex s:=by
 let sz:1<vs.size:=(Gv.mp v1).1;let efr:PySem.frameOf cenv=PySem.frameOf env:=by unfold PySem.frameOf;rw[ec]
 unfold Hq;simp only[ec,ef];rw[efr];refine Fk (El eo od v1 ?_);rw[Fs (show(Cb T0 != Value.none)=true by simp)];refine Fk (El eT dT t3 ?_);rw[Fp (by rw[hv];exact Jj)];refine Fk (wpAny_setField eT dT (Gv.mp t3).1 ?_);let oth:∀b,b≠T0->(s.heap.update T0 (Hf (·.setIfInBounds 3 Value.none))).get? b=s.heap.get? b:=λb hb=>Ck _ _ (Cu hb);let nfT:T0∉frs (env::outer):=Ru ff eT dT;let ff2:(s.heap.update T0 (Hf (·.setIfInBounds 3 Value.none))).FunFrames base (env::outer):=ff.of_keeps λb o hb hnf=>⟨o,(oth b λz=>by
  rw[z,eT]at hb;cases hb;exact hnf ts dT).trans hb,rfl⟩
 refine Px (s:={s with heap:=s.heap.update T0 (Hf (·.setIfInBounds 3 Value.none))}) fr ff2 ef ((oth ea (Cu ne)).trans eo) od sz λh' T nt=>k h' ?_;let szU:(s.heap.update T0 (Hf (·.setIfInBounds 3 Value.none))).objs.size=s.heap.objs.size:=Heap.size_after_update ..;let⟨ob,tt,eT',dT',h3⟩:=nt.tb;let ex:=nt.exc;rw[mapF od]at ex;exists λb o hb hne hT q=>nt.keep b o hb hne ((oth b λz=>hT (by rw[z])).trans q),λb o hne hT q=>nt.slot b o hne ((oth b λz=>hT (by rw[z])).trans q),T,_,ob,tt,by rw[<-szU];exact nt.new,ex,by simp,by rw[G4,Fs sz],eT',dT',h3,nt.ne
def Sd{T:Addr}{v:Value}{f:Option Addr}{Q:Unit->Ca->Prop}(fl:FlyV ea T v s.heap)(k:∀h' v',(∀b o,b≠T->s.heap.get? b=some o->h'.get? b=some o)->FlyV ea T v' h'->(f=none->v'=.none)->Q ⟨⟩ {s with heap:=h'}):Cc M A (K2 (.ref ea) f) Q Ex s:=by
 let⟨oe,vs,oT,ts,e1,d1,v1,e2,d2,t3,ne⟩:=fl;let sz:3<ts.size:=(Gv.mp t3).1;unfold K2;refine Fk (El e1 d1 v1 ?_);rw[Fs (show(Cb T != Value.none)=true by simp)];refine wpAny_setField e2 d2 sz (k _ (f.elim .none λf=>Et f) (λb o hb e=>by rw[Ck _ _ (Cu hb)];exact e) ?_ λz=>by rw[z];rfl);let dd:=Md d2 (·.setIfInBounds 3 (f.elim Value.none λf=>Et f));exact⟨oe,vs,_,_,by rw[Ck _ _ ne];exact e1,d1,v1,C7 _ e2 (Ht dd),dd,by rw[G4,Fs sz],ne⟩
end
section
def Inv.notedV{d:Option Addr}{vs:Array Value}{v:Value}(I:Inv X pq σ H s)(hea:H ea=some (.ext (excP ea C d)))(eo:s.heap.get? ea=some oe)(od:oe.data=.fields vs)(hT:∀T,T0=some T->FpOk X pq H T)(g:GoneV (frs X.stack) ea T0 oe vs v s.heap h'):Inv X pq σ H {s with heap:=h'}:=by
 let nfr:∀c y,H c=some y->c∉frs X.stack:=λc y r z=>by rw[I.stkFree c z]at r;cases r
 let nT:∀c y,H c=some y->some c≠T0:=λc y r z=>by rw[(hT c z.symm).1]at r;cases r
 let hok:HOk X.prog X.w H h':=λb o q=>by
  by_cases ne:b=ea
  .subst ne;rw[hea]at q;cases q;let⟨⟨o1,v1,a1,a2,a3,a4,a5⟩,_,_⟩:=I.hok b _ hea;let⟨T,vs',ob,ts,_,e3,e4,_⟩:=g.flow;rw[eo]at a1;cases a1;rw[od]at a4;cases a4;exact excP.ok ⟨_,vs',e3,a2,a3,rfl,by rw[e4];exact a5⟩
  .refine(I.hok b o q).stay (λc v hc r=>?_) (λ_ z=>z) λ_ _ z=>z;rcases hc with hc|hc
   .rw[hc]at r⊢;exact g.keep b v (nfr b o q) ne (nT b o q) r
   .let ne2:c≠ea:=λz=>by rw[z,hea]at hc;cases hc
    exact g.keep c v (nfr c _ hc) ne2 (nT c _ hc) r
 let un:Un (frs X.stack) T0.toList H H s.heap h':=by
  let tl:∀b,b∉T0.toList->some b≠T0:=λb hb z=>hb (by rw[<-z];simp);exists λb o q n hb hx=>?_,λb o q n hb hx=>?_,λb o q n _=>n,λb o q hx=>?_,λ_ _ e=>e,λ_ _ _ e=>e,λb ps e=>⟨#[],by rw[e];simp⟩
  .exact g.keep b o hb (λz=>by rw[z,hea]at n;cases n) (tl b hx) q
  .exact g.slot b o (λz=>by rw[z,hea]at n;cases n) (tl b hx) q
  .by_cases ne:b=ea
   .let⟨_,_,_,_,_,e3,_⟩:=g.flow;exact⟨_,by rw[ne];exact e3⟩
   .let⟨sl,e2⟩:=g.slot b o ne (tl b hx) q;exists _,e2
 let:=I.call (g':=s.gens) (d':=s.drawn) (t':=s.toks) un hok I.bare λb hb=>by
  let z:T0=some b:=by
   cases T0 with
   |none=>simp at hb
   |some T=>simp at hb;rw[hb]
  let⟨_,f1,f2,f3,f4,f5⟩:=hT b z;exists f3,f1,f4,f5
 exact this
end
section
variable{w:Ct}{base:Heap}{scope:Scope}{f:Addr}{outer:List Env}{E:XK}
def Zm4{s2:Ca}{T:Addr}{d:Option Addr}(I:Inv (cxE P w K mg base N qual scope f cd A outer s H E) pq σ H2 s2)(hea:H2 ea=some (.ext (excP ea C d)))(lea:s.heap.objs.size<=ea)(nT:H2 T=none)(lT:s.heap.objs.size<=T)(fl:FlyV ea T .none s2.heap)(q:E (.ref C) d H2):CXE P w outer H s E (.ref ea) s2 :=
 ⟨ea,C,T,d,H2,rfl,I.os,I.bare,I.base,I.hok,hea,lea,nT,lT,fl,q⟩
def Ztd{s2:Ca}{T:Addr}{d:Option Addr}{v:Value}(I:Inv (cxE P w K mg base N qual scope f cd A outer s H E) pq σ H2 s2)(hea:H2 ea=some (.ext (excP ea C d)))(lea:s.heap.objs.size<=ea)(fp:FpOk (cxE P w K mg base N qual scope f cd A outer s H E) pq H2 T)(fl:FlyV ea T v s2.heap)(q:E (.ref C) d H2):(cxE P w K mg base N qual scope f cd A outer s H E).xe (.ref ea) s2:=by
 let lT:s.heap.objs.size<=T:=by
  rcases fp.2.2.2.1 with z|z
  .exact absurd (show T∈([]:List Addr)from z) (by simp)
  .exact z
 show Cc (Cd P w) _ (Jhk _ _) _ _ _;let⟨oe,vs,oT,ts,e1,d1,v1,e2,d2,t3,ne⟩:=id fl;refine T9 ?_
 by_cases hv:(v==Et s.heap.objs.size)=true
 .unfold Hq;simp only[Hy];refine Fk (El e1 d1 v1 ?_);rw[Fs (show(Cb T != Value.none)=true by simp)];refine Fk (El e2 d2 t3 ?_);rw[Fs hv];refine Fl (Sd fl λh' v' k fl' hn=>?_);cases hn rfl;let⟨f0,f1,f2,f3,f4,f5⟩:=fp;exact Zm4 (I.turned (t':=s2.toks) k f0 f1 f3 f4 f5) hea lea f0 lT fl' q
 .let hv':(v==Et s.heap.objs.size)=false:=by simpa using hv
  refine Zhx (base:=base) I.ok.frames I.stack rfl rfl e1 d1 v1 e2 d2 t3 hv' ne λh' g=>?_;let I2:=I.notedV hea e1 d1 (λT' z=>by cases z;exact fp) g;let⟨T',vs',ob,ts',z1,z2,z3,z4,z5,z6,z7,z8⟩:=g.flow;let fp2:=I.fpOk z1 (I.hok.fresh z1);refine Sd (v:=Et s.heap.objs.size) ⟨_,vs',ob,ts',z2,rfl,z4,z5,z6,z7,z8⟩ λh2 v' k fl' hn=>?_;cases hn rfl;let⟨f0,f1,f2,f3,f4,f5⟩:=fp2;exact Zm4 (I2.turned (t':=s2.toks) k f0 f1 f3 f4 f5) hea lea f0 (J0 I.sz z1) fl' q
end
def CauB(X:Cx)(Ex:XK)(e:Value)(s':Ca):Prop:=∃(pq:List (Addr×Obj))(σ:St)(ea C T:Addr)(d:Option Addr)(H':Hp),e=.ref ea/\Inv X pq σ H' s'/\H' ea=some (.ext (excP ea C d))/\X.s₀.heap.objs.size<=ea/\FlyV ea T .none s'.heap/\X.s₀.heap.objs.size<=T/\H' T=none/\T≠X.env.locals/\Ex (.ref C) d H'
def blkE(X:Cx)(T:List Str)(cs:List Nat)(scope:Scope)(Ex:XK)(C:Addr)(s₀:Ca)(H₀:Hp)(ex:List Addr):Cx:={blk X T cs scope C s₀ H₀ ex with xe:=CauB (blk X T cs scope C s₀ H₀ ex) Ex}
def Zro{scope:Scope}{Ex:XK}{s₀:Ca}{H₀:Hp}{ex:List Addr}:V4 (CXE X.prog X.w) (blkE X T cs scope Ex C s₀ H₀ ex) Ex:=by
 intro pq σ H s e s' I hx;let⟨ea,C',T',d,H2,rfl,os,bare,un,hok,hea,lea,nT,lT,fl,q⟩:=hx;let I':Inv (blk X T cs scope C s₀ H₀ ex) pq σ H s:=I.unwish;let I2:Inv (blk X T cs scope C s₀ H₀ ex) pq σ H2 s':=I'.call' os un hok bare (ch:=[]) λb z=>absurd z (by simp);exists pq,σ,ea,C',T',d,H2,rfl,I2,hea,J0 I'.sz lea,fl,J0 I'.sz lT,nT,(I'.fpOk lT nT).2.1,q
section
variable{w:Ct}{R:Jd4->Ca->Prop} 
theorem N6{target:Expr}{scope:Scope}{it acc:Value}{env:Env}(I:Nat->Ca->Prop)(E:Value->Ca->Prop)(hE:∀e s,E e s->notedBy (Cd prog w) A env (λx s'=>R (.error x) s') e s)(turn:∀n s,I n s->Cc (Cd prog w) A (Jd0 it) (λr s₁=>match r with
   |none=>R (.ok .next) s₁
   |some v=>Cc (Cd prog w) A (Kj target it v) (λ_ s₂=>Cc (Cd prog w) A (Jdz target env v) (λ_ s₃ =>
     Cc (Cd prog w) A (Zb9 ifs env) (λok s₄ =>
      if ok=true then Cc (Cd prog w) A (eval elt env) (λx s₅ =>
       Cc (Cd prog w) A (call (.builtin "list.append") [acc,x]) (λ_ s₆=>∃m,m<n/\I m s₆) E s₅) E s₄
      else ∃m,m<n/\I m s₄) E s₃) E s₂) E s₁) E s)(n:Nat)(h:I n s) :
  Hb (Cd prog w) A (.compLoop (.ListComp elt [⟨target,iter,ifs,0⟩] scope pos) 0 it acc env) R s:=by
 refine codeAny_loop rfl I (λn s hI=>?_) n h;show Cc _ A ((compTurn (.ListComp elt [⟨target,iter,ifs,0⟩] scope pos) 0 it acc env).onRaise (λx=>do Hq x env;Jc2 x)) _ _ s;refine wpAny_noted ?_;rw[compTurn_list];refine Fk (Ha (Fk (Fx (turn n s hI) (λr s₁ h₁=>?_) hE)));cases r with
 |none=>exact Fl h₁
 |some v =>
  refine Fk (Fx h₁ (λ_ s₂ h₂=>?_) hE);refine Fk (Fx h₂ (λ_ s₃ h₃=>Fk (Fx h₃ (λok s₄ h₄=>?_) hE)) hE);cases ok with
  |false=>exact Fl ⟨rfl,h₄⟩
  |true =>
   exact Fk (Fk (Fx h₄ (λx s₅ h₅=>Fk (Fx h₅ (λ_ s₆ h₆=>Fl (Fl ⟨rfl,h₆⟩)) hE)) hE))
end
section
variable{scope:Scope} 
theorem Zft{Ex:XK}{RR:Value->Addr->Jd4->Ca->Prop}{Fin:List V->Hp->Prop}{J:It}{tn:Nat->Heap->Prop}(I:Inv X pq σ H s)(hc:X.calm=true)(S:CScope X.env.scope scope X.N T cs)(Tn:Turn X.prog X.w X.K tg J fp it tn)(st:tn 0 s.heap)(hf:∀b∈fp,FpOk X pq H b)(hg:∀C s₀ H₀ ex,PG (blkE X T cs scope Ex C s₀ H₀ ex) tg g)(ht:∀C s₀ H₀ ex,PTs (blkE X T cs scope Ex C s₀ H₀ ex) ifs tt)(he:∀C s₀ H₀ ex,PE (blkE X T cs scope Ex C s₀ H₀ ex) elt te)(hk:Qt g T.length)(W:Nat->Nat->List V->Hp->Prop)(w0:∃m,W 0 m [] H)(turn:∀i m ys H,W i m ys H->(J.stop i H/\ys.length<=sizeLine/\Fin ys H)\/(J.go i H/\ys.length<sizeLine/\∃N:List V->Hp->Prop,(∀ys' H',N ys' H'->∃m',m'<m/\W (i+1) m' ys' H') /\
   ∀x H',J.yld i H x H'->g x (sgOf σ T cs) H' λσ2 H2=>tt σ2 H2 λb H3=>if b=true then te σ2 H3 λy H4=>N (ys++[y]) H4 else N ys H3))(fin:∀(D C:Addr)(s':Ca)(m:Str->Option Value)(ys:List V)(H':Hp),Fin ys H'->H' D=none->s'.heap.Ns C m->FpOk X pq H' C->C≠D->Inv X pq σ (upd H' D (.lst ys)) s'->RR (.ref D) C (.ok .next) s')(errs:∀(D C:Addr)(e:Value)(s':Ca),s.heap.objs.size<=C->CauB (blk X T cs scope C s H fp) Ex e s'->notedBy (Cd X.prog X.w) X.A (compEnvC scope (Xn X.env.cells scope.names []) C X.env) (λx s''=>RR (.ref D) C (.error x) s'') e s') :
  Cc (Cd X.prog X.w) X.A (newList []) (λacc s₃=>Cc (Cd X.prog X.w) X.A (newFunctionEnv scope X.env.globals (Xn X.env.cells scope.names []) [] X.env.qual none .none (some X.env)) (λcenv s₄ =>
   Hb (Cd X.prog X.w) X.A (.compStart (.ListComp elt [⟨tg,iter,ifs,0⟩] scope pos) 0 (.ref it) acc {cenv with scope:=Jhn scope X.env}) (RR acc cenv.locals) s₄) E s₃) E s:=by
 refine Eo (wpAny_newFunctionEnv S.nocell (by intro y hy;simp at hy) (λh₁ hns₁ hsb₁=>?_) S.kind);dsimp only at hns₁ hsb₁⊢;generalize hH2:s.heap.push {cls:=.type "list",dict:=none,data:=.seq ([]:List Value).toArray}=H2 at hns₁ hsb₁⊢;let hCe:H2.objs.size=s.heap.objs.size+1:=by rw[<-hH2,Ew]
 let hDC:s.heap.objs.size≠H2.objs.size:=by rw[hCe];exact J9 (B9 _)
 let hCle:s.heap.objs.size<=H2.objs.size:=by rw[hCe];exact Bg _
 let old:∀b o,s.heap.get? b=some o->h₁.get? b=some o:=λb o e =>
  hsb₁.extBut b o (by rw[hCe];exact J9 (Kx (Fo e))) (Fm _ (hH2 ▸ Fm _ e))
 let hacc:h₁.get? s.heap.objs.size=some {cls:=.type "list",data:=.seq ([]:List Value).toArray 0}:=hsb₁.extBut _ _ hDC (Fm _ (hH2 ▸ Fn _ rfl));let hfe:∀b∈fp,∃o,s.heap.get? b=some o:=λb hb=>let⟨o,e,_⟩:=Tn.obj _ _ st b hb;⟨o,e⟩
 let hlt:∀b∈fp,b<s.heap.objs.size:=λb hb=>let⟨o,e⟩:=hfe b hb;Fo e
 let st₁:tn 0 h₁:=Tn.keep _ _ _ st λb _ o e=>old b o e;generalize hDD:s.heap.objs.size=D at *
 generalize hCC:H2.objs.size=C at *
 let hnD:H D=none:=I.hok.fresh (G8 hDD);let stat:∀{H':Hp}{its:List Value}{n:Nat},(∀b∈fp,H' b=none)->∀b∈fp,FpOk (blkE X T cs scope Ex C s H fp) [(D,({cls:=.type "list",data:=.seq its.toArray n}:Obj))] H' b:=λhn b hb=>by
  let⟨f0,f1,f2,f3,f4,f5⟩:=hf b hb;exists hn b hb,J9 (Jy (hlt b hb) hCle),λz=>?_,.inl hb,λx c e=>f4 x c (I.clo S e),λp hp z=>?_
  .rcases Jq.mp (I.stkSub b z)with e|e
   .exact f1 e
   .exact f2 e
  .let e:p.1=D:=by
    rcases Ga.mp hp with q|q
    .exact absurd (show p∈([]:List (Addr×Obj))from q) (by simp)
    .rw[Jm.mp q]
   exact absurd (hlt b hb) (by rw[<-z,e];exact Gw _)
 let loop:∀tk:Nat,Hb (Cd X.prog X.w) X.A (.compLoop (.ListComp elt [⟨tg,iter,ifs,0⟩] scope pos) 0 (.ref it) (.ref D) (compEnvC scope (Xn X.env.cells scope.names []) C X.env)) (RR (.ref D) C) {s with heap:=h₁,toks:=tk}:=by
  intro tk;let I1:Inv (blkE X T cs scope Ex C s H fp) [] (sgOf σ T cs) H {s with heap:=h₁,toks:=tk}:=(Zid I S hf hfe (by rw[hDD];exact hCle) hns₁ old).wish _;let⟨m0,w0⟩:=w0;let pinD:∀{σ':St}{H':Hp}{s':Ca}{its:List Value}{n:Nat}{pl:List (Addr×Obj)},Inv (blkE X T cs scope Ex C s H fp) pl σ' H' s'->s'.heap.get? D=some {cls:=.type "list",data:=.seq its.toArray n}->H' D=none ->
    Inv (blkE X T cs scope Ex C s H fp) [(D,({cls:=.type "list",data:=.seq its.toArray n}:Obj))] σ' H' s':=λ{σ' H' s' its n pl}J e hn=>J.pins_of λp hp=>by
   obtain rfl:=Jm.mp hp;refine⟨e,hn,hDC,λz=>?_,λv q=>by cases q⟩;let z':D∈frs X.stack:=z;let⟨_,o,ho,_⟩:=I.stack.mem z';exact absurd (Fo ho) (by rw[hDD];exact Gw _)
  refine N6 (E:=(blkE X T cs scope Ex C s H fp).xe) (hE:=λe s' z=>errs D C e s' hCle z) (I:=λn s'=>∃(i:Nat)(ys:List V)(its:List Value)(k:Nat)(H':Hp),Inv (blkE X T cs scope Ex C s H fp) [(D,({cls:=.type "list",data:=.seq its.toArray k}:Obj))] (sgOf σ T cs) H' s'/\Vals ys its/\tn i s'.heap/\(∀b∈fp,H' b=none)/\W i n ys H') (turn:=?_) (n:=m0) (h:=⟨0,[],[],0,H,pinD I1 hacc hnD,.nil,st₁,λb hb=>(hf b hb).1,w0⟩);rintro n s1 ⟨i,ys,its,k,H1,J1,rv,st1,fr1,w1⟩;rcases turn i n ys H1 w1 with⟨stop,hz,fq⟩|⟨go,hz,N,hN,step⟩
  .refine Fx (Tn.done (blkE X T cs scope Ex C s H fp) rfl rfl rfl hc i _ s1 _ H1 (λ_ _=>False) J1 (stat fr1) st1 stop) (λr s2 hz=>?_) λ_ _ z=>z.elim;let⟨hr,J2⟩:=hz;subst hr;let⟨eD,nD,_⟩:=J2.pin (D,({cls:=.type "list",data:=.seq its.toArray k}:Obj)) (Jl _ (Jm.mpr rfl));let J3:Inv X pq σ H1 s2:=I.call' (ch:=fp) J2.os J2.base J2.hok J2.bare λb hb=>by
    let⟨f0,f1,f2,f3,f4,f5⟩:=hf b hb;exists f3,f1,f4,f5
   let⟨mC,hnC,_⟩:=J2.loc;let fC:FpOk X pq H1 C:=I.fpOk (by rw[hDD];exact hCle) J2.free;let fD:FpOk X pq H1 D:=I.fpOk (G8 hDD) nD;exact fin D C s2 mC ys H1 fq nD hnC fC (Cu hDC) (J3.track eD fD rv hz)
  .refine Fx (Tn.item (blkE X T cs scope Ex C s H fp) rfl rfl rfl hc i _ s1 _ H1 (λ_ _=>False) J1 (stat fr1) st1 go) (λr s2 hz=>?_) λ_ _ z=>z.elim;let⟨u,hr,h2⟩:=hz;subst hr;refine Fx h2 (λ_ s3 hz=>?_) λ_ _ z=>z.elim;let⟨x,H3,J3,r3,y3,st3,fr3⟩:=hz;let J3':=J3.pinned (stat fr3) (Tn.obj _ _ st3);refine Fx (hg C s H fp _ s3 _ H3 x u _ J3' r3 (hk (sgOf σ T cs) x _ H3 _ ⟨rfl,λ_ _=>rfl⟩ (step x H3 y3))) (λ_ s4 hz=>?_) λ_ _ z=>z;let⟨σ4,H4,J4,q4,l4,k4⟩:=hz;refine Fx (ht C s H fp _ s4 σ4 H4 _ J4 q4) (λb s5 hz=>?_) λ_ _ z=>z;let⟨H5,J5,q5⟩:=hz;let wk:∀{pl:List (Addr×Obj)}{H':Hp}{s':Ca},Inv (blkE X T cs scope Ex C s H fp) pl σ4 H' s'->Inv (blkE X T cs scope Ex C s H fp) pl (sgOf σ T cs) H' s':=λJ=>J.weak l4.symm λj v e=>by
    by_cases hj:T.length<=j
    .rw[k4 j hj];exact e
    .exfalso
     unfold sgOf at e;rw[Jo (by simp;lia),Jv]at e;cases q:T[j]? with
     |none=>rw[q]at e;cases e
     |some a=>rw[q]at e;cases e
   let tnk:∀{H':Hp}{s':Ca}{σ':St},Inv (blkE X T cs scope Ex C s H fp) ([(D,({cls:=.type "list",data:=.seq its.toArray k}:Obj))]++Pc fp s3.heap) σ' H' s'->tn (i+1) s'.heap/\∀b∈fp,H' b=none:=λ{H' s' σ'}J=>by
    exists Tn.keep _ _ _ st3 λb hb o e=>(J.pin (b,o) (Jl _ (Jl _ (X8 hb e)))).1,λb hb=>?_;let⟨o,e,d⟩:=Tn.obj _ _ st3 b hb;exact(J.pin (b,o) (Jl _ (Jl _ (X8 hb e)))).2.1
   cases b with
   |false =>
    rw[Fp Jj]at q5⊢;let⟨m',hm,w5⟩:=hN _ _ q5;let⟨t5,f5⟩:=tnk J5;exists m',hm,i+1,ys,its,k,H5,wk J5.unpinned,rv,t5,f5,w5
   |true =>
    rw[Fs rfl]at q5⊢;refine Fx (he C s H fp _ s5 σ4 H5 _ J5 q5) (λuy s6 hz=>?_) λ_ _ z=>z;let⟨y,H6,J6,ry,n6⟩:=hz;let⟨m',hm,w6⟩:=hN _ _ n6;let⟨t6,f6⟩:=tnk J6;let⟨eD,nD,_⟩:=J6.pin (D,({cls:=.type "list",data:=.seq its.toArray k}:Obj)) (Jl _ (Gz _ (Jm.mpr rfl)));let hsz:its.toArray.size<=sizeLine:=by rw[Jk,<-rv.length];lia
    refine append_at (hsz:=hsz) eD λh7 sb hD7=>?_;let J6':Inv (blkE X T cs scope Ex C s H fp) [] σ4 H6 s6:=J6.pins_of λp hp=>absurd hp (by simp);let J7:Inv (blkE X T cs scope Ex C s H fp) [] σ4 H6 {s6 with heap:=h7}:=J6'.turned (t':=s6.toks) (it:=D) (λb o hb e=>(sb.2 b hb).trans e) nD hDC (.inr (G8 hDD))
     (λx c e z=>by
      let⟨v,q⟩:=I.cell x c (I.clo S e);exact absurd q.lt (by rw[z,hDD];exact Gw _))
     (λp hp=>absurd hp (by simp[blkE,blk]))
    let hD7':h7.get? D=some {cls:=.type "list",data:=.seq (its++[uy]).toArray (k+1)}:=by
     rw[hD7,Mu]
    exists m',hm,i+1,ys++[y],its++[uy],k+1,H6,wk (pinD J7 hD7' nD),rv.append (.cons ry .nil),Tn.keep _ _ _ t6 λb hb o e=>(sb.2 b (J9 (hlt b hb))).trans e,f6,w6
 exact codeAny_compStart_list (loop _) (Tn.self _ 0 _ _ _ st₁ (loop _))
end
section
variable{w:Ct}{base:Heap}{sc:Scope}{f:Addr}{outer:List Env}{E:XK}
variable{scope:Scope} 
def Zk1(hc:(cxE P w K mg base N qual sc f cd A outer s H E).calm=true)(S:CScope (cxE P w K mg base N qual sc f cd A outer s H E).env.scope scope (cxE P w K mg base N qual sc f cd A outer s H E).N T cs)(hi:PI (cxE P w K mg base N qual sc f cd A outer s H E) tg iter wi)(hg:∀C s₀ H₀ ex,PG (blkE (cxE P w K mg base N qual sc f cd A outer s H E) T cs scope E C s₀ H₀ ex) tg g)(ht:∀C s₀ H₀ ex,PTs (blkE (cxE P w K mg base N qual sc f cd A outer s H E) T cs scope E C s₀ H₀ ex) ifs tt)(he:∀C s₀ H₀ ex,PE (blkE (cxE P w K mg base N qual sc f cd A outer s H E) T cs scope E C s₀ H₀ ex) elt te)(hk:Qt g T.length)(hs:∀x,Ks iter (cxE P w K mg base N qual sc f cd A outer s H E).env x=pure x:=by intro _;rfl):PE (cxE P w K mg base N qual sc f cd A outer s H E) (.ListComp elt [⟨tg,iter,ifs,0⟩] scope pos) (Ze3 wi g tt te T cs):=by
 intro pq s1 σ H1 Q I h;rw[eval_ListComp];refine Kh (use:=none) rfl hs (Sf (I.hl S)) S.kind S.names (thn (hi pq s1 σ H1 _ I h) λv s2 h1=>thn h1 λitv s3 h2=>?_);let⟨it,fp,tn,J,H2,e,I2,Tn,st,hf,W,w0,turn⟩:=h2;subst e;refine Zft (RR:=λacc C=>compPost (Cd P w) (cxE P w K mg base N qual sc f cd A outer s H E).A (cxE P w K mg base N qual sc f cd A outer s H E).xe none (EP (cxE P w K mg base N qual sc f cd A outer s H E) pq σ Q) acc C) (Fin:=λys H=>∀p,H p=none->Q (.ref p) (upd H p (.lst ys))) I2 hc S Tn st hf hg ht he hk W w0 turn ?_ ?_
 .intro D C s' m ys H' q nD hn fC hCD I';exists m,hn,λh' sb=>⟨.ref D,_,I'.turned (t':=s'.toks) (it:=C) (λb o hb e=>(sb.2 b hb).trans e) ?_ fC.2.1 fC.2.2.2.1 fC.2.2.2.2.1 fC.2.2.2.2.2,rfl,q D nD⟩;rw[Zl hCD];exact fC.1
 .rintro D C e s' hC ⟨pb,σb,ea,C',T',d,H',rfl,J,hea,lea,fl,lT,nT,nC,q⟩;let J3:Inv (cxE P w K mg base N qual sc f cd A outer s H E) pq σ H' s':=I2.call' (ch:=fp) J.os J.base J.hok J.bare λb hb=>by
   let⟨f0,f1,f2,f3,f4,f5⟩:=hf b hb;exists f3,f1,f4,f5
  let⟨mC,hnC,_⟩:=J.loc;let fC:FpOk (cxE P w K mg base N qual sc f cd A outer s H E) pq H' C:=I2.fpOk hC J.free;let fT:FpOk (cxE P w K mg base N qual sc f cd A outer s H E) pq H' T':=I2.fpOk lT nT;let⟨oe,vs,oT,ts,e1,d1,v1,e2,d2,t3,ne⟩:=fl;show Cc _ _ (Hq (.ref ea) _) _ _ s';refine Zhx (base:=base) J3.ok.frames J3.stack rfl rfl e1 d1 v1 e2 d2 t3 (by simp[Et]) ne λh' gv=>?_;let J4:=J3.notedV hea e1 d1 (λT z=>by cases z;exact fT) gv;let⟨T2,vs',ob,ts',z1,z2,z3,z4,z5,z6,z7,z8⟩:=gv.flow;let fT2:=J3.fpOk z1 (J3.hok.fresh z1);let cea:ea≠C:=λz=>by rw[z,fC.1]at hea;cases hea
  let lC:C<s'.heap.objs.size:=by
   let⟨oC,_,_,eC,_⟩:=hnC;exact Fo eC
  let cT2:T2≠C:=λz=>by rw[z]at z1;exact absurd lC (Fj.mpr z1)
  let nsC:h'.Ns C mC:=by
   let⟨oC,es,ep,eC,r⟩:=hnC;refine⟨oC,es,ep,gv.keep C oC ?_ (Cu cea) (λz=>nC (Fv z).symm) eC,r⟩;exact λz=>by
    rcases Jq.mp (I2.stkSub C z)with y|y
    .exact fC.2.1 y
    .exact fC.2.2.1 y
  exists mC,nsC,λh2 sb cenv _=>?_;let J5:Inv (cxE P w K mg base N qual sc f cd A outer s H E) pq σ H' {s' with heap:=h2}:=Inv.turned (s:={s' with heap:=h'}) (h':=h2) (t':=s'.toks) (it:=C) J4 (λb o hb e=>(sb.2 b hb).trans e) fC.1 fC.2.1 fC.2.2.2.1 fC.2.2.2.2.1 fC.2.2.2.2.2;let fl2:FlyV ea T2 (Et s.heap.objs.size) h2:=⟨_,vs',ob,ts',(sb.2 _ cea).trans z2,rfl,z4,(sb.2 _ cT2).trans z5,z6,z7,z8⟩;unfold PySem.passOn;let⟨oe',vs2,oT',ts2,y1,y2,y3,y4,y5,y6,y7⟩:=id fl2;refine Fk (El (s:={s' with heap:=h2}) y1 y2 y3 ?_);rw[Fp (show ¬ ((Cb T2==Value.none)=true)by simp)]
  refine Fk (Sd (s:={s' with heap:=h2}) fl2 λh3 v' k fl3 _=>wpAny_throw ?_);let⟨f0,f1,f2,f3,f4,f5⟩:=id fT2;exact Ztd (J5.turned (t':=s'.toks) k f0 f1 f3 f4 f5) hea (J0 I2.sz lea) fT2 fl3 q
end
def Zrk{a b:Expr}(hr:IxR X r)(ha:PEF X pq σ a ta)(hb:PE X b tb)(hs:Zj0 b):PEF X pq σ (.Subscript a b pos) (tOp r ta tb):=by
 intro s H Q I h;exact Jdb (thn (ha s H _ I h) λv s1⟨x,H1,I1,rx,q1⟩=>thn (hb pq s1 σ H1 _ I1 q1) λu s2⟨y,H2,I2,ry,q2⟩=>hr a b pq s2 σ H2 x y v u Q I2 rx ry q2 (hs _ _))
end L2
namespace L3
open PySem L2
structure Cf where
 c:Addr
 k:Cp
inductive D where
 |non|bl (b:Bool)|int (i:Int)|str (x:Str)|ty (n:String)|at(a:Addr)
 |tup (xs:List D)|lst (xs:List D)|frz (xs:List D)|dct (kvs:List (Key×D))|dcT (kvs:List (List Key×D))
 |code (S:List Pr)|cell (k:Nat)|exc (C:Addr) (fs:List (Str×D))
variable{ds:List L3.D}
inductive MO where
 |lst (xs:List D)|dct (kvs:List (Key×D))|dcT (kvs:List (List Key×D))|drK (kvs:List (Key×D))|drT (kvs:List (List Key×D))|dfT (o:Obj) (vs:List (List Key×V)) (kvs:List (List Key×D))|dfK (o:Obj) (vs:List (Key×V)) (kvs:List (Key×D))|ins (C:Addr) (fs:List (Str×D))|hand|tab (P:Addr) (pos:Pos) (q:Str)
variable{m:L3.MO}
abbrev Mem:=List MO
mutual
inductive Rep(C:Cf)(I:Hp)(α:List Addr):V->D->Prop where
 |non:Rep C I α .non .non
 |bl (b:Bool):Rep C I α (.bl b) (.bl b)
 |int (i:Int):Rep C I α (.int i) (.int i)
 |str (x:Str):Rep C I α (.str x) (.str x)
 |ty (n:String):Rep C I α (.ty n) (.ty n)
 |at(a:Addr):Rep C I α (.ref a) (.at a)
 |tup {a:Addr} {vs:List V} {ds:List D}:I a=some (.tup vs)->Reps C I α vs ds->Rep C I α (.ref a) (.tup ds)
 |lst {a:Addr} {vs:List V} {ds:List D}:I a=some (.lst vs)->Reps C I α vs ds->Rep C I α (.ref a) (.lst ds)
 |frz {a:Addr} {vs:List V} {ds:List D}:SqL C.k I a vs->Reps C I α vs ds->Rep C I α (.ref a) (.frz ds)
 |dct {a:Addr} {vs:List (Key×V)} {ds:List (Key×D)}:I a=some (.dK vs)->RepK C I α vs ds->Rep C I α (.ref a) (.dct ds)
 |dcT {a:Addr} {vs:List (List Key×V)} {ds:List (List Key×D)}:I a=some (.dT vs)->RepT C I α vs ds->Rep C I α (.ref a) (.dcT ds)
 |code {x:Addr} {S:List Pr}:Uy C.c I x S->Rep C I α (.ref x) (.code S)
 |cell {a:Addr} {k:Nat}:α[k]?=some a->Rep C I α (.ref a) (.cell k)
 |exc {ea Ce:Addr} {d:Option Addr} {vs:List (Str×V)} {fs:List (Str×D)}:I ea=some (.ext (excP ea Ce d))->XD I d vs->RepF C I α vs fs->Rep C I α (.ref ea) (.exc Ce fs)
inductive Reps(C:Cf)(I:Hp)(α:List Addr):List V->List D->Prop where
 |nil:Reps C I α [] []
 |cons {v:V} {d:D} {vs:List V} {ds:List D}:Rep C I α v d->Reps C I α vs ds->Reps C I α (v::vs) (d::ds)
inductive RepK(C:Cf)(I:Hp)(α:List Addr):List (Key×V)->List (Key×D)->Prop where
 |nil:RepK C I α [] []
 |cons {k:Key} {v:V} {d:D} {vs:List (Key×V)} {ds:List (Key×D)}:Rep C I α v d->RepK C I α vs ds->RepK C I α ((k,v)::vs) ((k,d)::ds)
inductive RepF(C:Cf)(I:Hp)(α:List Addr):List (Str×V)->List (Str×D)->Prop where
 |nil:RepF C I α [] []
 |cons {k:Str} {v:V} {d:D} {vs:List (Str×V)} {ds:List (Str×D)}:Rep C I α v d->RepF C I α vs ds->RepF C I α ((k,v)::vs) ((k,d)::ds)
inductive RepT(C:Cf)(I:Hp)(α:List Addr):List (List Key×V)->List (List Key×D)->Prop where
 |nil:RepT C I α [] []
 |cons {k:List Key} {v:V} {d:D} {vs:List (List Key×V)} {ds:List (List Key×D)}:Rep C I α v d->RepT C I α vs ds->RepT C I α ((k,v)::vs) ((k,d)::ds)
end
section
variable{C:Cf} 
def Zcn{k:Nat}{a:Addr}(p:α<+:α')(h:α[k]?=some a):α'[k]?=some a:=by
 let⟨t,rfl⟩:=p;let⟨hk,_⟩:=Jf.mp h;rw[Jo hk];exact h
mutual
theorem Rep.mono(s:Same I I')(p:α<+:α'):∀{v:V}{d:D},Rep C I α v d->Rep C I' α' v d:=by
 intro _ _ h;cases h with
 |non=>exact .non
 |bl b=>exact .bl b
 |int i=>exact .int i
 |str x=>exact .str x
 |ty n=>exact .ty n
 |«at» a=>exact .at a
 |tup e r=>exact .tup (s _ _ e) (Reps.mono s p r)
 |lst e r=>exact .lst (s _ _ e) (Reps.mono s p r)
 |frz e r=>exact .frz (s.seq e) (Reps.mono s p r)
 |dct e r=>exact .dct (s _ _ e) (RepK.mono s p r)
 |dcT e r=>exact .dcT (s _ _ e) (RepT.mono s p r)
 |code h=>exact .code (h.same s)
 |cell e=>exact .cell (Zcn p e)
 |exc e f r=>exact .exc (s _ _ e) (f.mono s) (RepF.mono s p r)
theorem Reps.mono(s:Same I I')(p:α<+:α'):∀{vs:List V}{ds:List D},Reps C I α vs ds->Reps C I' α' vs ds:=by
 intro _ _ h;cases h with
 |nil=>exact .nil
 |cons h r=>exact .cons (Rep.mono s p h) (Reps.mono s p r)
theorem RepK.mono(s:Same I I')(p:α<+:α'):∀{vs:List (Key×V)}{ds:List (Key×D)},RepK C I α vs ds->RepK C I' α' vs ds:=by
 intro _ _ h;cases h with
 |nil=>exact .nil
 |cons h r=>exact .cons (Rep.mono s p h) (RepK.mono s p r)
theorem RepF.mono(s:Same I I')(p:α<+:α'):∀{vs:List (Str×V)}{ds:List (Str×D)},RepF C I α vs ds->RepF C I' α' vs ds:=by
 intro _ _ h;cases h with
 |nil=>exact .nil
 |cons h r=>exact .cons (Rep.mono s p h) (RepF.mono s p r)
theorem RepT.mono(s:Same I I')(p:α<+:α'):∀{vs:List (List Key×V)}{ds:List (List Key×D)},RepT C I α vs ds->RepT C I' α' vs ds:=by
 intro _ _ h;cases h with
 |nil=>exact .nil
 |cons h r=>exact .cons (Rep.mono s p h) (RepT.mono s p r)
end
theorem Reps.length:∀{vs:List V}{ds:List D},Reps C I α vs ds->vs.length=ds.length:=by
 intro _ _ hz9;cases hz9 with
 |nil=>
  exact rfl
 |cons _ r=>
  exact by rw[Jx,Jx,Reps.length r]
theorem Reps.get:∀{vs:List V}{ds:List D}{i:Nat}{d:D},Reps C I α vs ds->ds[i]?=some d->∃v,vs[i]?=some v/\Rep C I α v d
 |_,_,_,_,.nil,e=>by simp at e
 |_,_,0,_,.cons r _,e=>by simp at e;subst e;exists ·,r
 |_,_,i+1,d,.cons _ t,e=>by
  let⟨u,h1,h2⟩:=Reps.get (i:=i) (d:=d) t (by simpa using e);exists u,by simpa using h1,h2
theorem Reps.at:∀{vs:List V}{ds:List D}{i:Nat},Reps C I α vs ds->(h1:i<vs.length)->(h2:i<ds.length)->Rep C I α vs[i] ds[i]:=λ{vs ds i}r h1 h2=>by
 let⟨v,e,z⟩:=r.get (Ja h2);rw[Ja h1]at e;cases e;exact z
theorem Reps.app:∀{vs ws:List V}{ds es:List D},Reps C I α vs ds->Reps C I α ws es->Reps C I α (vs++ws) (ds++es):=by
 intro _ _ _ _ hz9 s;cases hz9 with
 |nil=>
  exact s
 |cons r t=>
  exact .cons r (Reps.app t s)
def Reps.one{d:D}(h:Rep C I α v d):Reps C I α [v] [d]:=.cons h .nil
theorem Reps.take:∀{vs:List V}{ds:List D}(n:Nat),Reps C I α vs ds->Reps C I α (vs.take n) (ds.take n)
 |_,_,0,_=>.nil
 |_,_,_+1,.nil=>.nil
 |_,_,n+1,.cons r t=>.cons r (Reps.take n t)
theorem Reps.drop:∀{vs:List V}{ds:List D}(n:Nat),Reps C I α vs ds->Reps C I α (vs.drop n) (ds.drop n)
 |_,_,0,r=>r
 |_,_,_+1,.nil=>.nil
 |_,_,n+1,.cons _ t=>Reps.drop n t
theorem Reps.set{d:D}(r:Rep C I α v d):∀{vs:List V}{ds:List D}(i:Nat),Reps C I α vs ds->Reps C I α (vs.set i v) (ds.set i d)
 |_,_,_,.nil=>.nil
 |_,_,0,.cons _ t=>.cons r t
 |_,_,i+1,.cons q t=>.cons q (Reps.set r i t)
def Reps.rev(h:Reps C I α vs ds):Reps C I α vs.reverse ds.reverse:=by
 let go:∀{vs ws:List V}{ds es:List D},Reps C I α vs ds->Reps C I α ws es->Reps C I α (vs.reverse++ws) (ds.reverse++es):=by
  intro vs
  induction vs with
  |nil=>intro ws ds es h1 h2;cases h1;exact h2
  |cons v vs ih =>
   intro ws ds es h1 h2;cases h1 with
   |cons a b =>
    rw[Bx,Gd,Bx,Gd];exact ih b (.cons a h2)
 let:=go h .nil;rwa [Gs,Gs]at this
theorem Reps.ints:∀(ns:List Int),Reps C I α (ns.map V.int) (ns.map D.int)
 |[]=>.nil
 |n::r=>.cons (.int n) (Reps.ints r)
theorem Reps.of_ints:∀{vs:List V}(ns:List Int),Reps C I α vs (ns.map D.int)->vs=ns.map V.int
 |_,[],h=>by cases h;rfl
 |_,n::r,h=>by
  cases h with
  |cons a b =>
   cases a;rw[Reps.of_ints r b];rfl
end
variable{M:L3.Mem}
def MoAt(C:Cf)(I:Hp)(α:List Addr)(H:Hp)(a:Addr):MO->Prop
 |.lst ds=>∃vs,H a=some (.lst vs)/\Reps C I α vs ds
 |.dct ds=>∃vs,H a=some (.dK vs)/\RepK C I α vs ds
 |.dcT ds=>∃vs,H a=some (.dT vs)/\RepT C I α vs ds
 |.drK ds=>∃vs,Rd H a (.dK vs)/\RepK C I α vs ds
 |.drT ds=>∃vs,Rd H a (.dT vs)/\RepT C I α vs ds
 |.dfT o vs ds=>H a=some (.frz o (.dT vs))/\RepT C I α vs ds
 |.dfK o vs ds=>H a=some (.frz o (.dK vs))/\RepK C I α vs ds
 |.ins Cl fs=>∃dx vs,H a=some (.ins Cl dx vs)/\Paired (λ(p:Str×V)(q:Str×D)=>p.1=q.1/\Rep C I α p.2 q.2) vs fs
 |.hand=>∃(d k:Int)(c:Addr)(cs:List Int),H a=some (.lst [.int d,.int k,.ref c])/\I c=some (.lst (cs.map V.int))/\cs≠[]/\cs.length<=63/\0<=d/\0<=k/\∀c∈cs,0<=c
 |.tab P pos q=>a=P/\∃ps,H a=some (.tbl ps)/\TriplesOk ps.toList/\(Jf4 pos ps.toList=none\/∃c,Jf4 pos ps.toList=some (.ref c)/\I c=some (codeφ c q))
theorem MoAt.some{C:Cf}{a:Addr}(h:MoAt C I α H a m):∃o,H a=some o:=by
 cases m with
 |lst ds=>obtain⟨vs,e,_⟩:=h;exists _,e
 |dct ds=>obtain⟨vs,e,_⟩:=h;exists _,e
 |dcT ds=>obtain⟨vs,e,_⟩:=h;exists _,e
 |drK ds=>obtain⟨vs,e,_⟩:=h;rcases e with e|⟨o,e⟩<;>exact⟨_,e⟩
 |drT ds=>obtain⟨vs,e,_⟩:=h;rcases e with e|⟨o,e⟩<;>exact⟨_,e⟩
 |dfT o vs ds=>exact⟨_,h.1⟩
 |dfK o vs ds=>exact⟨_,h.1⟩
 |ins Cl fs=>obtain⟨dx,vs,e,_⟩:=h;exists _,e
 |hand=>obtain⟨d,k,c,cs,e,_⟩:=h;exists _,e
 |tab P pos q=>obtain⟨_,ps,e,_⟩:=h;exists _,e
theorem MoAt.mono{C:Cf}{a:Addr}(h:MoAt C I α H a m)(s:Same I I')(p:α<+:α')(e:H' a=H a):MoAt C I' α' H' a m:=by
 cases m with
 |lst ds=>obtain⟨vs,e1,r⟩:=h;exists vs,e.trans e1,r.mono s p
 |dct ds=>obtain⟨vs,e1,r⟩:=h;exists vs,e.trans e1,r.mono s p
 |dcT ds=>obtain⟨vs,e1,r⟩:=h;exists vs,e.trans e1,r.mono s p
 |drK ds=>obtain⟨vs,e1,r⟩:=h;exists vs,e1.imp (λz=>e.trans z) (λ⟨o,z⟩=>⟨o,e.trans z⟩),r.mono s p
 |drT ds=>obtain⟨vs,e1,r⟩:=h;exists vs,e1.imp (λz=>e.trans z) (λ⟨o,z⟩=>⟨o,e.trans z⟩),r.mono s p
 |dfT o vs ds=>exact⟨e.trans h.1,h.2.mono s p⟩
 |dfK o vs ds=>exact⟨e.trans h.1,h.2.mono s p⟩
 |ins Cl fs=>obtain⟨dx,vs,e1,r⟩:=h;exists dx,vs,e.trans e1,Paired.mapP r λ_ _ z=>⟨z.1,z.2.mono s p⟩
 |hand=>obtain⟨d,k,c,cs,e1,e2,r⟩:=h;exists d,k,c,cs,e.trans e1,s _ _ e2,r
 |tab P pos q =>
  let⟨eP,ps,e1,t,r⟩:=h;exists eP,ps,e.trans e1,t,?_;rcases r with r|⟨c,r1,r2⟩
  .exact .inl r
  .exact .inr ⟨c,r1,s _ _ r2⟩
abbrev X3:=Addr->List (Str×D)->Mem->Prop
structure Anc where
 i:Hp
 a:List Addr
 xe:XK
 kx:X3
variable{Z Z':L3.Anc}
structure Rel(C:Cf)(Z:Anc)(I:Hp)(α:List Addr)(H:Hp)(M:Mem):Prop where
 ai:Same Z.i I
 aa:Z.a<+:α
 sub:Same I H
 len:α.length=M.length
 nd:α.Nodup
 cel:∀(k:Nat)(a:Addr)(m:MO),α[k]?=some a->M[k]?=some m->MoAt C I α H a m/\I a=none
section
variable{C:Cf} 
def Rel.get(R:Rel C Z I α H M){k:Nat}(h:M[k]?=some m):∃a,α[k]?=some a/\MoAt C I α H a m/\I a=none:=by
 let⟨hk,_⟩:=Jf.mp h;let hk':k < α.length:=by rw[R.len];exact hk
 exists α[k],Ja hk',R.cel k _ m (Ja hk') h
def Rel.cellNe(R:Rel C Z I α H M){k:Nat}{a p:Addr}(h:α[k]?=some a)(hp:H p=none):a≠p:=by
 let⟨hk,_⟩:=Jf.mp h;let hk':k<M.length:=by rw[<-R.len];exact hk
 let⟨o,e⟩:=(R.cel k a _ h (Ja hk')).1.some;exact Zr e hp
def Rel.new(R:Rel C Z I α H M){p:Addr}(hp:H p=none):Rel C Z (upd I p o) α (upd H p o) M/\Same I (upd I p o)/\(upd I p o) p=some o:=by
 let ip:I p=none:=R.sub.free hp;let s:Same I (upd I p o):=Zc ip;exists⟨R.ai.trans s,R.aa,λb u h=>?_,R.len,R.nd,λk a m h1 h2=>?_⟩,s,Zg
 .by_cases e:b=p
  .subst e;rw[Zg]at h⊢;exact h
  .rw[Zl e]at h⊢;exact R.sub b u h
 .let⟨a1,a2⟩:=R.cel k a m h1 h2;let ne:=R.cellNe h1 hp;exact⟨a1.mono s (Jc _) (Zl ne),by rw[Zl ne];exact a2⟩
theorem Rel.cell(R:Rel C Z I α H M){p:Addr}{o:HO}{m:MO}(hp:H p=none)(hm:∀H',H' p=some o->MoAt C I α H' p m):Rel C Z I (α++[p]) (upd H p o) (M++[m])/\α<+:(α++[p])/\(α++[p])[M.length]?=some p:=by
 let ip:I p=none:=R.sub.free hp;refine⟨⟨R.ai,R.aa.trans (Go _ _),λb u h=>?_,by rw[Jd,Jd,R.len];rfl,?_,λk a x h1 h2=>?_⟩,Go _ _,by rw[<-R.len];simp⟩
 .let ne:b≠p:=λe=>by rw[e,ip]at h;cases h
  rw[Zl ne];exact R.sub b u h
 .rw[By];exists R.nd,by simp,λa ha b hb=>?_;let⟨k,hk,rfl⟩:=Ju ha;rw[Jm.mp hb];exact R.cellNe (Ja hk) hp
 .by_cases hk:k < α.length
  .rw[Jo hk]at h1;rw[Jo (by rw[<-R.len];exact hk)]at h2;let⟨a1,a2⟩:=R.cel k a x h1 h2;exists a1.mono (.refl _) (Go _ _) (Zl (R.cellNe h1 hp)),a2
  .let⟨hk2,_⟩:=Jf.mp h1;rw[Jd,Gn]at hk2;let e:k=α.length:=by lia
   subst e;let e1:(α++[p])[α.length]?=some p:=by simp
   let e2:(M++[m])[α.length]?=some m:=by rw[R.len];simp
   rw[e1]at h1;rw[e2]at h2;cases h1;cases h2;exists(hm _ Zg).mono (.refl _) (Go _ _) rfl,ip
def Rel.put(R:Rel C Z I α H M){k:Nat}{a:Addr}(ha:α[k]?=some a)(hm:∀H',H' a=some o->MoAt C I α H' a m):Rel C Z I α (upd H a o) (M.set k m):=by
 let⟨hk,ea⟩:=Jf.mp ha;let hkM:k<M.length:=by rw[<-R.len];exact hk
 let ia:I a=none:=(R.cel k a _ ha (Ja hkM)).2;exists R.ai,R.aa,λb u h=>?_,by rw[Gq];exact R.len,R.nd,λj b x h1 h2=>?_
 .let ne:b≠a:=λe=>by rw[e,ia]at h;cases h
  rw[Zl ne];exact R.sub b u h
 .by_cases e:k=j
  .subst e;rw[ha]at h1;cases h1;rw[Jz hkM]at h2;cases h2;exists hm _ Zg,ia
  .rw[Gr e]at h2;let⟨a1,a2⟩:=R.cel j b x h1 h2;let⟨hj,eb⟩:=Jf.mp h1;let ne:b≠a:=λz=>e (by
    rw[<-ea,<-eb]at z;exact((G7 R.nd).mp z).symm)
   exists a1.mono (.refl _) (Jc _) (Zl ne),a2
end
abbrev Ev:=List (Option D)
variable{ρ:L3.Ev}
abbrev K3:=D->Mem->Prop
abbrev TE3:=Ev->Mem->K3->Prop
variable{ua uo:L3.TE3}
abbrev TT3:=Ev->Mem->(Bool->Mem->Prop)->Prop
abbrev TA3:=Ev->Mem->(List D->Mem->Prop)->Prop
abbrev TO3:=Ev->Mem->(Option Int->Mem->Prop)->Prop
abbrev R3:=D->D->Mem->K3->Prop
structure Ends3 where
 nx:Ev->Mem->Prop
 rt:K3
 bk:Ev->Mem->Prop:=λ_ _=>False
 ct:Ev->Mem->Prop:=λ_ _=>False
abbrev TS3:=Ends3->Ev->Mem->Prop
abbrev TG3:=D->Ev->Mem->(Ev->Mem->Prop)->Prop
abbrev TGs3:=List D->Ev->Mem->(Ev->Mem->Prop)->Prop
def RepE(C:Cf)(I:Hp)(α:List Addr)(σ:St)(ρ:Ev):Prop:=σ.length=ρ.length/\∀(i:Nat)(d:D),ρ[i]?=some (some d)->∃v,σ[i]?=some (some v)/\Rep C I α v d
def RepE.mono{C:Cf}(h:RepE C I α σ ρ)(s:Same I I')(p:α<+:α'):RepE C I' α' σ ρ :=
 ⟨h.1,λi d e=>let⟨v,a,b⟩:=h.2 i d e;⟨v,a,b.mono s p⟩⟩
theorem RepE.set{C:Cf}(h:RepE C I α σ ρ){d:D}(r:Rep C I α v d)(i:Nat):RepE C I α (σ.set i (some v)) (ρ.set i (some d)):=by
 exists by rw[Gq,Gq];exact h.1,λj e q=>?_
 by_cases z:i=j
 .subst z
  by_cases hl:i < ρ.length
  .rw[Jz hl]at q;cases q;exists v,Jz (by rw[h.1];exact hl),r
  .rw[Bj (by rw[Gq];lia)]at q;cases q
 .rw[Gr z]at q⊢;exact h.2 j e q
def Fin(C:Cf)(Z:Anc)(I:Hp)(α:List Addr)(K:K3)(Q:VK):Prop:=∀v d I' α' H' M',Same I I'->α<+:α'->Rel C Z I' α' H' M'->Rep C I' α' v d->K d M'->Q v H'
def Fin.mono{C:Cf}{K:K3}(h:Fin C Z I α K Q)(s:Same I I')(p:α<+:α'):Fin C Z I' α' K Q:=λv d I2 α2 H2 M2 s2 p2=>h v d I2 α2 H2 M2 (s.trans s2) (p.trans p2)
def SimE(C:Cf)(Z:Anc)(t:TE)(u:TE3):Prop:=∀I α σ H ρ M(K:K3)(Q:VK),Rel C Z I α H M->RepE C I α σ ρ->u ρ M K->Fin C Z I α K Q->t σ H Q
def SimT(C:Cf)(Z:Anc)(t:TT)(u:TT3):Prop:=∀I α σ H ρ M(K:Bool->Mem->Prop)(Q:Bool->Hp->Prop),Rel C Z I α H M->RepE C I α σ ρ->u ρ M K ->
 (∀b I' α' H' M',Same I I'->α<+:α'->Rel C Z I' α' H' M'->K b M'->Q b H')->t σ H Q
def SimA(C:Cf)(Z:Anc)(t:TA)(u:TA3):Prop:=∀I α σ H ρ M(K:List D->Mem->Prop)(Q:List V->Hp->Prop),Rel C Z I α H M->RepE C I α σ ρ->u ρ M K ->
 (∀vs ds I' α' H' M',Same I I'->α<+:α'->Rel C Z I' α' H' M'->Reps C I' α' vs ds->K ds M'->Q vs H')->t σ H Q
def SimO(C:Cf)(Z:Anc)(t:TO)(u:TO3):Prop:=∀I α σ H ρ M(K:Option Int->Mem->Prop)(Q:Option Int->Hp->Prop),Rel C Z I α H M->RepE C I α σ ρ->u ρ M K ->
 (∀b I' α' H' M',Same I I'->α<+:α'->Rel C Z I' α' H' M'->K b M'->Q b H')->t σ H Q
def SimR(C:Cf)(Z:Anc)(r:R2)(u:R3):Prop:=∀I α H M x y d e(K:K3)(Q:VK),Rel C Z I α H M->Rep C I α x d->Rep C I α y e->u d e M K->Fin C Z I α K Q->r x y H Q
def SimU(C:Cf)(Z:Anc)(r:V->Hp->VK->Prop)(u:D->Mem->K3->Prop):Prop:=∀I α H M x d(K:K3)(Q:VK),Rel C Z I α H M->Rep C I α x d->u d M K->Fin C Z I α K Q->r x H Q
def SimC(C:Cf)(Z:Anc)(r:List V->Hp->VK->Prop)(u:List D->Mem->K3->Prop):Prop:=∀I α H M xs ds(K:K3)(Q:VK),Rel C Z I α H M->Reps C I α xs ds->u ds M K->Fin C Z I α K Q->r xs H Q
def SimL(C:Cf)(Z:Anc)(r:V->Option Int->Option Int->Hp->VK->Prop)(u:D->Option Int->Option Int->Mem->K3->Prop):Prop:=∀I α H M x d lo hi(K:K3)(Q:VK),Rel C Z I α H M->Rep C I α x d->u d lo hi M K->Fin C Z I α K Q->r x lo hi H Q
def FinS(C:Cf)(Z:Anc)(I:Hp)(α:List Addr)(K:Ev->Mem->Prop)(Q:St->Hp->Prop):Prop:=∀I' α' σ' H' ρ' M',Same I I'->α<+:α'->Rel C Z I' α' H' M'->RepE C I' α' σ' ρ'->K ρ' M'->Q σ' H'
def FinS.mono{C:Cf}{K:Ev->Mem->Prop}{Q:St->Hp->Prop}(h:FinS C Z I α K Q)(s:Same I I')(p:α<+:α'):FinS C Z I' α' K Q:=λI2 α2 σ2 H2 ρ2 M2 s2 p2=>h I2 α2 σ2 H2 ρ2 M2 (s.trans s2) (p.trans p2)
structure FinD(C:Cf)(Z:Anc)(I:Hp)(α:List Addr)(E:Ends3)(D':Ends):Prop where
 nx:FinS C Z I α E.nx D'.nx
 rt:Fin C Z I α E.rt D'.rt
 bk:FinS C Z I α E.bk D'.bk
 ct:FinS C Z I α E.ct D'.ct
def FinD.mono{C:Cf}{E:Ends3}{D':Ends}(h:FinD C Z I α E D')(s:Same I I')(p:α<+:α'):FinD C Z I' α' E D':=⟨h.nx.mono s p,h.rt.mono s p,h.bk.mono s p,h.ct.mono s p⟩
def SimS(C:Cf)(Z:Anc)(t:TS)(u:TS3):Prop:=∀I α σ H ρ M(E:Ends3)(D':Ends),Rel C Z I α H M->RepE C I α σ ρ->u E ρ M->FinD C Z I α E D'->t D' σ H
def SimG(C:Cf)(Z:Anc)(t:TG)(u:TG3):Prop:=∀I α σ H ρ M v d(K:Ev->Mem->Prop)(Q:St->Hp->Prop),Rel C Z I α H M->RepE C I α σ ρ->Rep C I α v d->u d ρ M K->FinS C Z I α K Q->t v σ H Q
def Zlu(C:Cf)(Z:Anc)(t:TGs)(u:TGs3):Prop:=∀I α σ H ρ M vs ds(K:Ev->Mem->Prop)(Q:St->Hp->Prop),Rel C Z I α H M->RepE C I α σ ρ->Reps C I α vs ds->u ds ρ M K->FinS C Z I α K Q->t vs σ H Q
section
variable{C:Cf}{ub:TE3}{tA tB':TT}{uA uB:TT3}{t:TA}{u:TA3}
def uVar(i:Nat):TE3:=λρ M K=>∃d,ρ[i]?=some (some d)/\K d M
def Zf(i:Nat):SimE C Z (tVar i) (uVar i):=λI α σ H ρ M K Q R E h k=>by
 let⟨d,e,h⟩:=h;let⟨v,e2,r⟩:=E.2 i d e;exists v,e2,k v d I α H M (.refl _) (Jc _) R r h
def uC(d:D):TE3:=λ_ M K=>K d M
def Jch{d:D}(r:∀I α,Rep C I α v d):SimE C Z (tC v) (uC d):=λI α σ H ρ M K Q R E h k=>k v d I α H M (.refl _) (Jc _) R (r I α) h
def Zt{i:Int}:SimE C Z (tC (.int i)) (uC (.int i)):=Jch λ_ _=>.int i
def s_bl{i:Bool}:SimE C Z (tC (.bl i)) (uC (.bl i)):=Jch λ_ _=>.bl i
def Znn:SimE C Z (tC .non) (uC .non):=Jch λ_ _=>.non
def Wa{i:Str}:SimE C Z (tC (.str i)) (uC (.str i)):=Jch λ_ _=>.str i
def s_ty{i:String}:SimE C Z (tC (.ty i)) (uC (.ty i)):=Jch λ_ _=>.ty i
def s_at{a:Addr}:SimE C Z (tC (.ref a)) (uC (.at a)):=Jch λ_ _=>.at a
def uOp(u:R3)(ua ub:TE3):TE3:=λρ M K=>ua ρ M λd M1=>ub ρ M1 λe M2=>u d e M2 K
def s_op{u:R3}(hr:SimR C Z r u)(ha:SimE C Z ta ua)(hb:SimE C Z tb ub):SimE C Z (tOp r ta tb) (uOp u ua ub):=λI α σ H ρ M K Q R E h k =>
 ha I α σ H ρ M _ _ R E h λv d I1 α1 H1 M1 s1 p1 R1 r1 h1 =>
  hb I1 α1 σ H1 ρ M1 _ _ R1 (E.mono s1 p1) h1 λw e I2 α2 H2 M2 s2 p2 R2 r2 h2 =>
   hr I2 α2 H2 M2 v w d e K Q R2 (r1.mono s2 p2) r2 h2 (k.mono (s1.trans s2) (p1.trans p2))
def uUn(u:D->Mem->K3->Prop)(ua:TE3):TE3:=λρ M K=>ua ρ M λd M1=>u d M1 K
def s_un{r:V->Hp->VK->Prop}{u:D->Mem->K3->Prop}(hr:SimU C Z r u)(ha:SimE C Z ta ua):SimE C Z (tUn r ta) (uUn u ua):=λI α σ H ρ M K Q R E h k =>
 ha I α σ H ρ M _ _ R E h λv d I1 α1 H1 M1 s1 p1 R1 r1 h1=>hr I1 α1 H1 M1 v d K Q R1 r1 h1 (k.mono s1 p1)
def D.isN:D->Bool|.non=>true|_=>false
def Zow{d:D}(h:Rep C I α v d):decide (v=.non)=d.isN:=by cases h<;>simp[D.isN]
def uIsN(ua:TE3):TE3:=λρ M K=>ua ρ M λd M1=>K (.bl d.isN) M1
def Zkn(ha:SimE C Z ta ua):SimE C Z (tIsN ta) (uIsN ua):=λI α σ H ρ M K Q R E h k =>
 ha I α σ H ρ M _ _ R E h λv d I1 α1 H1 M1 s1 p1 R1 r1 h1=>by
  rw[Zow r1];exact k _ _ I1 α1 H1 M1 s1 p1 R1 (.bl _) h1
def uB3(ua:TE3):TT3:=λρ M K=>ua ρ M λd M1=>∃c,d=.bl c/\K c M1
def s_b(ha:SimE C Z ta ua):SimT C Z (tB ta) (uB3 ua):=λI α σ H ρ M K Q R E h k =>
 ha I α σ H ρ M _ _ R E h λv d I1 α1 H1 M1 s1 p1 R1 r1 h1=>by
  let⟨c,e,h1⟩:=h1;subst e;cases r1;exists c,rfl,k c I1 α1 H1 M1 s1 p1 R1 h1
def Yz(ha:SimE C Z ta ua):SimT C Z (Zqm ta) (uB3 ua):=s_b ha
def uAnd(uA uB:TT3):TT3:=λρ M K=>uA ρ M λc M1=>if c=true then uB ρ M1 K else K false M1
def uOr(uA uB:TT3):TT3:=λρ M K=>uA ρ M λc M1=>if c=true then K true M1 else uB ρ M1 K
def uNot(uA:TT3):TT3:=λρ M K=>uA ρ M λc M1=>K (!c) M1
def Ze9(ha:SimT C Z tA uA)(hb:SimT C Z tB' uB):SimT C Z (tAnd tA tB') (uAnd uA uB):=λI α σ H ρ M K Q R E h k =>
 ha I α σ H ρ M _ _ R E h λc I1 α1 H1 M1 s1 p1 R1 h1=>by
  cases c with
  |true =>
   rw[Fs rfl]at h1⊢;exact hb I1 α1 σ H1 ρ M1 _ _ R1 (E.mono s1 p1) h1 λb I2 α2 H2 M2 s2 p2 R2 h2=>k b I2 α2 H2 M2 (s1.trans s2) (p1.trans p2) R2 h2
  |false =>
   rw[Fp Jj]at h1⊢;exact k false I1 α1 H1 M1 s1 p1 R1 h1
def s_or(ha:SimT C Z tA uA)(hb:SimT C Z tB' uB):SimT C Z (tOr tA tB') (uOr uA uB):=λI α σ H ρ M K Q R E h k =>
 ha I α σ H ρ M _ _ R E h λc I1 α1 H1 M1 s1 p1 R1 h1=>by
  cases c with
  |false =>
   rw[Fp Jj]at h1⊢;exact hb I1 α1 σ H1 ρ M1 _ _ R1 (E.mono s1 p1) h1 λb I2 α2 H2 M2 s2 p2 R2 h2=>k b I2 α2 H2 M2 (s1.trans s2) (p1.trans p2) R2 h2
  |true =>
   rw[Fs rfl]at h1⊢;exact k true I1 α1 H1 M1 s1 p1 R1 h1
def P2(ha:SimT C Z tA uA):SimT C Z (tNot tA) (uNot uA):=λI α σ H ρ M K Q R E h k =>
 ha I α σ H ρ M _ _ R E h λc I1 α1 H1 M1 s1 p1 R1 h1=>k _ I1 α1 H1 M1 s1 p1 R1 h1
def Zty(ua ub:TE3):TE3:=λρ M K=>ua ρ M λd M1=>∃c,d=.bl c/\if c=true then ub ρ M1 K else K (.bl false) M1
def Ztl(ua:TE3):TE3:=λρ M K=>ua ρ M λd M1=>∃c,d=.bl c/\K (.bl (!c)) M1
def Zgx(ha:SimE C Z ta ua)(hb:SimE C Z tb ub):SimE C Z (Zqt ta tb) (Zty ua ub):=λI α σ H ρ M K Q R E h k =>
 ha I α σ H ρ M _ _ R E h λv d I1 α1 H1 M1 s1 p1 R1 r1 h1=>by
  let⟨c,e,h1⟩:=h1;subst e;cases r1;exists c,rfl,?_;cases c with
  |true =>
   rw[Fs rfl]at h1⊢;exact hb I1 α1 σ H1 ρ M1 _ _ R1 (E.mono s1 p1) h1 (k.mono s1 p1)
  |false =>
   rw[Fp Jj]at h1⊢;exact k _ _ I1 α1 H1 M1 s1 p1 R1 (.bl _) h1
def Zq2(ha:SimE C Z ta ua):SimE C Z (Zqp ta) (Ztl ua):=λI α σ H ρ M K Q R E h k =>
 ha I α σ H ρ M _ _ R E h λv d I1 α1 H1 M1 s1 p1 R1 r1 h1=>by
  let⟨c,e,h1⟩:=h1;subst e;cases r1;exists c,rfl,k _ _ I1 α1 H1 M1 s1 p1 R1 (.bl _) h1
def uNil:TA3:=λ_ M K=>K [] M
def X5(ua:TE3)(u:TA3):TA3:=λρ M K=>ua ρ M λd M1=>u ρ M1 λds M2=>K (d::ds) M2
def Zo:SimA C Z tNil uNil:=λI α σ H ρ M K Q R E h k=>k [] [] I α H M (.refl _) (Jc _) R .nil h
def Zb(ha:SimE C Z ta ua)(hr:SimA C Z t u):SimA C Z (Znf ta t) (X5 ua u):=λI α σ H ρ M K Q R E h k =>
 ha I α σ H ρ M _ _ R E h λv d I1 α1 H1 M1 s1 p1 R1 r1 h1 =>
  hr I1 α1 σ H1 ρ M1 _ _ R1 (E.mono s1 p1) h1 λvs ds I2 α2 H2 M2 s2 p2 R2 r2 h2 =>
   k (v::vs) (d::ds) I2 α2 H2 M2 (s1.trans s2) (p1.trans p2) R2 (.cons (r1.mono s2 p2) r2) h2
def uTup(u:TA3):TE3:=λρ M K=>u ρ M λds M1=>ds.length<=sizeLine/\K (.tup ds) M1
def Wk(ha:SimA C Z t u):SimE C Z (tTup t) (uTup u):=λI α σ H ρ M K Q R E h k =>
 ha I α σ H ρ M _ _ R E h λvs ds I1 α1 H1 M1 s1 p1 R1 r1 h1=>by
  exists by rw[r1.length];exact h1.1,λp hp=>?_;let⟨R2,s2,e2⟩:=R1.new (o:=.tup vs) hp;exact k _ _ _ α1 _ M1 (s1.trans s2) p1 R2 (.tup e2 (r1.mono s2 (Jc _))) h1.2
def uLst(u:TA3):TE3:=λρ M K=>u ρ M λds M1=>ds.length<=sizeLine/\K (.lst ds) M1
def Zch(ha:SimA C Z t u):SimE C Z (tLst t) (uLst u):=λI α σ H ρ M K Q R E h k =>
 ha I α σ H ρ M _ _ R E h λvs ds I1 α1 H1 M1 s1 p1 R1 r1 h1=>by
  exists by rw[r1.length];exact h1.1,λp hp=>?_;let⟨R2,s2,e2⟩:=R1.new (o:=.lst vs) hp;exact k _ _ _ α1 _ M1 (s1.trans s2) p1 R2 (.lst e2 (r1.mono s2 (Jc _))) h1.2
def Ztm(u:TA3):TE3:=λρ M K=>u ρ M λds M1=>ds.length<=sizeLine/\K (.cell M1.length) (M1++[.lst ds])
def Zau(ha:SimA C Z t u):SimE C Z (tLst t) (Ztm u):=λI α σ H ρ M K Q R E h k =>
 ha I α σ H ρ M _ _ R E h λvs ds I1 α1 H1 M1 s1 p1 R1 r1 h1=>by
  exists by rw[r1.length];exact h1.1,λp hp=>?_;let⟨R2,p2,e2⟩:=R1.cell (o:=.lst vs) (m:=.lst ds) hp λH' e=>⟨vs,e,r1⟩;exact k _ _ I1 _ _ _ s1 (p1.trans p2) R2 (.cell e2) h1.2
def uCB(r:List D->Mem->K3->Prop)(u:TA3):TE3:=λρ M K=>u ρ M λds M1=>r ds M1 K
def s_cb{r:List V->Hp->VK->Prop}{r3:List D->Mem->K3->Prop}(hr:SimC C Z r r3)(ha:SimA C Z t u):SimE C Z (tCB r t) (uCB r3 u):=λI α σ H ρ M K Q R E h k =>
 ha I α σ H ρ M _ _ R E h λvs ds I1 α1 H1 M1 s1 p1 R1 r1 h1=>hr I1 α1 H1 M1 vs ds K Q R1 r1 h1 (k.mono s1 p1)
def Zf4:TO3:=λ_ M K=>K none M
def Ztk(ua:TE3):TO3:=λρ M K=>ua ρ M λd M1=>∃i,d=.int i/\K (some i) M1
def Uj:SimO C Z Zgc Zf4:=λI α σ H ρ M K Q R E h k=>k none I α H M (.refl _) (Jc _) R h
def Vq(ha:SimE C Z ta ua):SimO C Z (Zqo ta) (Ztk ua):=λI α σ H ρ M K Q R E h k =>
 ha I α σ H ρ M _ _ R E h λv d I1 α1 H1 M1 s1 p1 R1 r1 h1=>by
  let⟨i,e,h1⟩:=h1;subst e;cases r1;exists i,rfl,k (some i) I1 α1 H1 M1 s1 p1 R1 h1
def uSl(r:D->Option Int->Option Int->Mem->K3->Prop)(ua:TE3)(ul uh:TO3):TE3:=λρ M K=>ua ρ M λd M1=>ul ρ M1 λl M2=>uh ρ M2 λg M3=>r d l g M3 K
def s_sl{r:V->Option Int->Option Int->Hp->VK->Prop}{r3:D->Option Int->Option Int->Mem->K3->Prop}{tl th:TO}{ul uh:TO3}(hr:SimL C Z r r3)(ha:SimE C Z ta ua)(hl:SimO C Z tl ul)(hh:SimO C Z th uh):SimE C Z (tSl r ta tl th) (uSl r3 ua ul uh):=λI α σ H ρ M K Q R E h k =>
 ha I α σ H ρ M _ _ R E h λv d I1 α1 H1 M1 s1 p1 R1 r1 h1 =>
  hl I1 α1 σ H1 ρ M1 _ _ R1 (E.mono s1 p1) h1 λlo I2 α2 H2 M2 s2 p2 R2 h2 =>
   hh I2 α2 σ H2 ρ M2 _ _ R2 (E.mono (s1.trans s2) (p1.trans p2)) h2 λhi I3 α3 H3 M3 s3 p3 R3 h3 =>
    hr I3 α3 H3 M3 v d lo hi K Q R3 (r1.mono (s2.trans s3) (p2.trans p3)) h3 (k.mono (s1.trans (s2.trans s3)) (p1.trans (p2.trans p3)))
end
def Xx(M:Mem):D->Option (List D)
 |.lst ds=>some ds
 |.frz ds=>some ds
 |.cell k=>match M[k]? with|some (.lst ds)=>some ds|_=>none
 |_=>none
def lsOf(M:Mem):D->Option (List D)
 |.lst ds=>some ds
 |.cell k=>match M[k]? with|some (.lst ds)=>some ds|_=>none
 |_=>none
def Znc:D->Option (List D)
 |.tup ds=>some ds
 |_=>none
def Qw(M:Mem):D->Option (List D)
 |.tup ds=>some ds
 |d=>Xx M d
section
variable{C:Cf}{d:D} 
def Um(R:Rel C Z I α H M){k:Nat}{a:Addr}(e:α[k]?=some a)(h:M[k]?=some (.lst ds)):∃vs,H a=some (.lst vs)/\Reps C I α vs ds:=(R.cel k a _ e h).1
theorem Xw(R:Rel C Z I α H M)(r:Rep C I α v d)(h:Xx M d=some ds):∃a vs,v=.ref a/\SqL C.k H a vs/\Reps C I α vs ds:=by
 cases r with
 |lst e r=>cases h;exists _,·,SqL.of (R.sub _ _ e),r
 |frz e r=>cases h;exists _,·,R.sub.seq e,r
 | @cell a k e =>
  unfold Xx at h;cases hm:M[k]? with
  |none=>simp only[hm]at h;cases h
  |some m =>
   cases m with
   |lst es =>
    simp only[hm]at h;cases h;let⟨vs,e1,r⟩:=Um R e hm;exists _,·,SqL.of e1,r
   |_=>simp only[hm]at h;cases h
 |_=>cases h
theorem Nj(R:Rel C Z I α H M)(r:Rep C I α v d)(h:lsOf M d=some ds):∃a vs,v=.ref a/\H a=some (.lst vs)/\Reps C I α vs ds:=by
 cases r with
 |lst e r=>cases h;exists _,·,R.sub _ _ e,r
 | @cell a k e =>
  unfold lsOf at h;cases hm:M[k]? with
  |none=>simp only[hm]at h;cases h
  |some m =>
   cases m with
   |lst es =>
    simp only[hm]at h;cases h;let⟨vs,e1,r⟩:=Um R e hm;exists _,·,e1,r
   |_=>simp only[hm]at h;cases h
 |_=>cases h
theorem Ut(R:Rel C Z I α H M)(r:Rep C I α v d)(h:Znc d=some ds):∃a vs,v=.ref a/\H a=some (.tup vs)/\I a=some (.tup vs)/\Reps C I α vs ds:=by
 cases r with
 |tup e r=>cases h;exists _,·,R.sub _ _ e,e,r
 |_=>cases h
end
def cut(xs:List τ)(lo hi:Option Int):List τ:=(xs.drop (HT.sIx xs.length 0 lo)).take (HT.sIx xs.length xs.length hi-HT.sIx xs.length 0 lo)
theorem Reps.cut{C:Cf}(r:Reps C I α vs ds)(lo hi:Option Int):Reps C I α (cutV vs lo hi) (cut ds lo hi):=by
 unfold cutV L3.cut;rw[r.length];exact(r.drop _).take _
def Zdf{υ:Type}(f:τ->υ)(xs:List τ)(lo hi:Option Int):cut (xs.map f) lo hi=(cut xs lo hi).map f:=by
 unfold cut;rw[Jb,Bs,B0]
theorem Reps.atI{C:Cf}{i:Int}{d:D}(r:Reps C I α vs ds)(h:atI ds i=some d):∃v,L2.atI vs i=some v/\Rep C I α v d:=by
 unfold L2.atI at h⊢;rw[r.length];cases e:ixN ds.length i with
 |none=>rw[e]at h;cases h
 |some j =>
  rw[e]at h;exact r.get (i:=j) h
section
variable{C:Cf}{K':Cp} 
def OpR.or{f:Value->Value->Sem Value}{r':R2}(h:OpR X f r)(h':OpR X f r'):OpR X f (λx y H Q=>r x y H Q\/r' x y H Q):=by
 intro pq s σ H x y v u Q I rx ry q;rcases q with q|q
 .exact h pq s σ H x y v u Q I rx ry q
 .exact h' pq s σ H x y v u Q I rx ry q
def SlR.or{r r':V->Option Int->Option Int->Hp->VK->Prop}(h:SlR X r)(h':SlR X r'):SlR X (λx l u H Q=>r x l u H Q\/r' x l u H Q):=by
 intro pq s σ H x v vl vu lo hi sl Q I rx hs pl pu q;rcases q with q|q
 .exact h pq s σ H x v vl vu lo hi sl Q I rx hs pl pu q
 .exact h' pq s σ H x v vl vu lo hi sl Q I rx hs pl pu q
def Znv:R2:=λx y H Q=>∃i j,x=.str i/\y=.str j/\i.length+j.length<=sizeLine/\Q (.str (i++j)) H
def Znz(K:Cp):R2:=λx y H Q=>rI0 (λi j=>.int (i+j)) x y H Q\/Znv x y H Q\/rCat x y H Q\/Zny K x y H Q
def Y9(h:X.K=K'):OpR X (Hi .Add) (Znz K'):=by
 subst h;exact OpR.or X4 (OpR.or Zfc (OpR.or Ph Zhu))
def add3:R3:=λd e M K=>match d,e with
 |.int i,.int j=>K (.int (i+j)) M
 |.str a,.str b=>a.length+b.length<=sizeLine/\K (.str (a++b)) M
 |.tup xs,.tup ys=>(xs≠[]/\xs.length+ys.length<=sizeLine)/\K (.tup (xs++ys)) M
 |d,e=>∃xs ys,lsOf M d=some xs/\lsOf M e=some ys/\xs.length+ys.length<=sizeLine/\K (.lst (xs++ys)) M
def Zpn{x y:V}{d e:D}{K:K3}(R:Rel C Z I α H M)(r1:Rep C I α x d)(r2:Rep C I α y e)(h:∃xs ys,lsOf M d=some xs/\lsOf M e=some ys/\xs.length+ys.length<=sizeLine/\K (.lst (xs++ys)) M)(k:Fin C Z I α K Q):Znz C.k x y H Q:=by
 let⟨xs,ys,e1,e2,hl,h⟩:=h;let⟨a,vs,rfl,ea,ra⟩:=Nj R r1 e1;let⟨b,ws,rfl,eb,rb⟩:=Nj R r2 e2;refine .inr (.inr (.inl ⟨a,b,vs,ws,rfl,rfl,ea,eb,by rw[ra.length,rb.length];exact hl,λp hp=>?_⟩));let⟨R2,s2,e2⟩:=R.new (o:=.lst (vs++ws)) hp;exact k _ _ _ α _ M s2 (Jc _) R2 (.lst e2 ((ra.app rb).mono s2 (Jc _))) h
theorem Wt:SimR C Z (Znz C.k) add3:=λI α H M x y d e K Q R r1 r2 h k=>by
 let go:=λh=>Zpn R r1 r2 h k;cases d with
 |int i =>
  cases e with
  |int j=>cases r1;cases r2;exact .inl ⟨i,j,rfl,rfl,k _ _ I α H M (.refl _) (Jc _) R (.int _) h⟩
  |_=>exact go h
 |str a =>
  cases e with
  |str b=>cases r1;cases r2;exact .inr (.inl ⟨a,b,rfl,rfl,h.1,k _ _ I α H M (.refl _) (Jc _) R (.str _) h.2⟩)
  |_=>exact go h
 |tup xs =>
  cases e with
  |tup ys =>
   let⟨⟨h1,h2⟩,h⟩:=h;let⟨a,vs,rfl,ea,ia,ra⟩:=Ut R r1 rfl;let⟨b,ws,rfl,eb,ib,rb⟩:=Ut R r2 rfl;refine .inr (.inr (.inr ⟨a,b,vs,ws,rfl,rfl,SqT.of ea,SqT.of eb,λz=>?_,by rw[ra.length,rb.length];exact h2,λz=>?_,λ_ p hp=>?_⟩))
   .subst z;cases ra;exact h1 rfl
   .subst z;cases rb;rw[Gs]at h;exact k _ _ I α H M (.refl _) (Jc _) R r1 h
   .let⟨R2,s2,e2⟩:=R.new (o:=.tup (vs++ws)) hp;exact k _ _ _ α _ M s2 (Jc _) R2 (.tup e2 ((ra.app rb).mono s2 (Jc _))) h
  |_=>exact go h
 |_=>exact go h
def int3(c:Int->Int->Prop)(g:Int->Int->D):R3:=λd e M K=>∃i j,d=.int i/\e=.int j/\c i j/\K (g i j) M
def Zlb(g:Int->Int->D):R3:=λd e M K=>∃i j,d=.int i/\e=.int j/\K (g i j) M
def Jcg{c:Int->Int->Prop}{g:Int->Int->V}{g3:Int->Int->D}(hg:∀I α i j,Rep C I α (g i j) (g3 i j)):SimR C Z (rI c g) (int3 c g3):=λI α H M x y d e K Q R r1 r2 h k=>by
 let⟨i,j,rfl,rfl,hc,h⟩:=h;cases r1;cases r2;exists i,j,rfl,rfl,hc,k _ _ I α H M (.refl _) (Jc _) R (hg _ _ _ _) h
def Znm{g:Int->Int->V}{g3:Int->Int->D}(hg:∀I α i j,Rep C I α (g i j) (g3 i j)):SimR C Z (rI0 g) (Zlb g3):=λI α H M x y d e K Q R r1 r2 h k=>by
 let⟨i,j,rfl,rfl,h⟩:=h;cases r1;cases r2;exists i,j,rfl,rfl,k _ _ I α H M (.refl _) (Jc _) R (hg _ _ _ _) h
def Zq1:SimR C Z (rI0 λi j=>.int (i-j)) (Zlb λi j=>.int (i-j)):=Znm λ_ _ _ _=>.int _
def Ze7:SimR C Z (rI (λ_ j=>0<j) λi j=>.int (i % j)) (int3 (λ_ j=>0<j) λi j=>.int (i % j)):=Jcg λ_ _ _ _=>.int _
def s_lt:SimR C Z (rI0 λi j=>.bl (decide (i<j))) (Zlb λi j=>.bl (decide (i<j))):=Znm λ_ _ _ _=>.bl _
def s_gt:SimR C Z (rI0 λi j=>.bl (decide (j<i))) (Zlb λi j=>.bl (decide (j<i))):=Znm λ_ _ _ _=>.bl _
def neg3:D->Mem->K3->Prop:=λd M K=>∃i,d=.int i/\K (.int (-i)) M
def Ri:SimU C Z (rU λi=>.int (-i)) neg3:=λI α H M x d K Q R r h k=>by
 let⟨i,rfl,h⟩:=h;cases r;exists i,rfl,k _ _ I α H M (.refl _) (Jc _) R (.int _) h
def Znw:R2:=λx y H Q=>rI CMul (λi j=>.int (i*j)) x y H Q\/rRep x y H Q
def Zp5:OpR X (Hi .Mult) Znw:=OpR.or Vv Zrp
def mul3:R3:=λd e M K=>match d,e with
 |.int i,.int j=>CMul i j/\K (.int (i*j)) M
 |d,e=>∃xs k,lsOf M d=some xs/\e=.int k/\(-(2 ^ 63)<=k/\k<2 ^ 63/\xs.length*k.toNat<=sizeLine)/\K (.lst (Co k.toNat xs).flatten) M
theorem Reps.rep(r:Reps C I α vs ds):∀n,Reps C I α (Co n vs).flatten (Co n ds).flatten
 |0=>.nil
 |n+1=>by
  rw[Bf,Bf,G5,G5];exact r.app (Reps.rep r n)
theorem Zt4:SimR C Z Znw mul3:=λI α H M x y d e K Q R r1 r2 h k=>by
 let go:(∃xs k,lsOf M d=some xs/\e=.int k/\(-(2 ^ 63)<=k/\k<2 ^ 63/\xs.length*k.toNat<=sizeLine)/\K (.lst (Co k.toNat xs).flatten) M)->Znw x y H Q:=λh=>by
  let⟨xs,j,e1,rfl,⟨h1,h2,h3⟩,h⟩:=h;cases r2;let⟨a,vs,rfl,ea,ra⟩:=Nj R r1 e1;refine .inr ⟨a,j,vs,rfl,rfl,ea,h1,h2,by rw[ra.length];exact h3,λp hp=>?_⟩;let⟨R2,s2,e2⟩:=R.new (o:=.lst (Co j.toNat vs).flatten) hp;exact k _ _ _ α _ M s2 (Jc _) R2 (.lst e2 ((ra.rep _).mono s2 (Jc _))) h
 cases d with
 |int i =>
  cases e with
  |int j=>cases r1;cases r2;exact .inl ⟨i,j,rfl,rfl,h.1,k _ _ I α H M (.refl _) (Jc _) R (.int _) h.2⟩
  |_=>exact go h
 |_=>exact go h
def Z8(h:X.K=K'):IxR X (rIx K'):=by subst h;exact Zr5
def ix3:R3:=λd e M K=>match d with
 |.str z=>∃i c,e=.int i/\z.length<=sizeLine/\L2.atI z.cps.toList i=some c/\K (.str ⟨#[c]⟩) M
 |d=>∃xs i v,Qw M d=some xs/\e=.int i/\L2.atI xs i=some v/\K v M
theorem s_ix:SimR C Z (rIx C.k) ix3:=λI α H M x y d e K Q R r1 r2 h k=>by
 let go:(∃xs i v,Qw M d=some xs/\e=.int i/\L2.atI xs i=some v/\K v M)->rIx C.k x y H Q:=λh=>by
  let⟨xs,i,w,e1,rfl,e3,hk⟩:=h;cases r2
  by_cases ht:∃ys,d=.tup ys
  .let⟨ys,rfl⟩:=ht;cases e1;let⟨a,vs,rfl,ea,_,ra⟩:=Ut R r1 rfl;let⟨v,e4,rv⟩:=ra.atI e3;exact .inr (.inl ⟨a,vs,i,v,rfl,rfl,SqT.of ea,e4,k _ _ I α H M (.refl _) (Jc _) R rv hk⟩)
  .let e1':Xx M d=some xs:=by
    cases d with
    |tup ys=>exact absurd ⟨ys,rfl⟩ ht
    |_=>exact e1
   let⟨a,vs,rfl,ea,ra⟩:=Xw R r1 e1';let⟨v,e4,rv⟩:=ra.atI e3;exact .inl ⟨a,vs,i,v,rfl,rfl,ea,e4,k _ _ I α H M (.refl _) (Jc _) R rv hk⟩
 cases d with
 |str z =>
  let⟨i,c,rfl,h1,h2,h⟩:=h;cases r1;cases r2;exact .inr (.inr ⟨z,i,c,rfl,rfl,h1,h2,k _ _ I α H M (.refl _) (Jc _) R (.str _) h⟩)
 |_=>exact go h
def rSlU(K:Cp):V->Option Int->Option Int->Hp->VK->Prop:=λx l u H Q=>rSlL K x l u H Q\/rSlW K x l u H Q\/rSlS x l u H Q
def Zal(h:X.K=K'):SlR X (rSlU K'):=by subst h;exact SlR.or X9 (SlR.or Zcb Zqy)
def sl3:D->Option Int->Option Int->Mem->K3->Prop:=λd lo hi M K=>match d with
 |.str z=>z.length<=sizeLine/\K (.str (Txt.slice z lo hi)) M
 |.tup xs=>K (.tup (cut xs lo hi)) M
 |d=>∃xs,Xx M d=some xs/\K (.lst (cut xs lo hi)) M
theorem Reps.inj_cut(r:Reps C I α vs ds){lo:Option Int}(h:cutV vs lo hi=vs):L3.cut ds lo hi=ds:=by
 let hl:(cutV vs lo hi).length=vs.length:=by rw[h]
 unfold cutV at hl;rw[Ji,J8]at hl;unfold L3.cut;rw[r.length]at hl;generalize HT.sIx ds.length 0 lo=a at *
 generalize HT.sIx ds.length ds.length hi=b at *
 by_cases hd:ds.length=0
 .rw[List.length_eq_zero_iff.mp hd];simp
 .let:a=0:=by lia
  subst this;rw[Fg,Gc];lia
theorem Zat:SimL C Z (rSlU C.k) sl3:=λI α H M x d lo hi K Q R r1 h k=>by
 let go:(∃xs,Xx M d=some xs/\K (.lst (cut xs lo hi)) M)->rSlU C.k x lo hi H Q:=λh=>by
  let⟨xs,e1,h⟩:=h;let⟨a,vs,rfl,ea,ra⟩:=Xw R r1 e1;refine .inl ⟨a,vs,rfl,ea,λp hp=>?_⟩;let⟨R2,s2,e2⟩:=R.new (o:=.lst (cutV vs lo hi)) hp;exact k _ _ _ α _ M s2 (Jc _) R2 (.lst e2 ((ra.cut lo hi).mono s2 (Jc _))) h
 cases d with
 |str z=>cases r1;exact .inr (.inr ⟨z,rfl,h.1,k _ _ I α H M (.refl _) (Jc _) R (.str _) h.2⟩)
 |tup xs =>
  let⟨a,vs,rfl,ea,ia,ra⟩:=Ut R r1 rfl;refine .inr (.inl ⟨a,vs,rfl,SqT.of ea,λz=>?_,λp hp=>?_⟩)
  .let h2:K (.tup (cut xs lo hi)) M:=h;rw[ra.inj_cut z]at h2;exact k _ _ I α H M (.refl _) (Jc _) R r1 h2
  .let⟨R2,s2,e2⟩:=R.new (o:=.tup (cutV vs lo hi)) hp;exact k _ _ _ α _ M s2 (Jc _) R2 (.tup e2 ((ra.cut lo hi).mono s2 (Jc _))) h
 |_=>exact go h
end
mutual
inductive PyR(M:Mem):D->PyData->Prop where
 |non:PyR M .non .none
 |bl (b:Bool):PyR M (.bl b) (.bool b)
 |int (i:Int):PyR M (.int i) (.int i)
 |str (x:Str):PyR M (.str x) (.str x)
 |seq {d:D} {ds:List D} {ps:List PyData}:Xx M d=some ds->PyRs M ds ps->PyR M d (.list ps)
 |tup {ds:List D} {ps:List PyData}:PyRs M ds ps->PyR M (.tup ds) (.tuple ps)
inductive PyRs(M:Mem):List D->List PyData->Prop where
 |nil:PyRs M [] []
 |cons {d:D} {p:PyData} {ds:List D} {ps:List PyData}:PyR M d p->PyRs M ds ps->PyRs M (d::ds) (p::ps)
end
section
variable{C:Cf} 
mutual
theorem Zg8(R:Rel C Z I α H M):∀{v:V}{d:D}{p:PyData},PyR M d p->Rep C I α v d->DV C.k H v p:=by
 intro _ _ _ hz9 r;cases hz9 with
 |non=>
  exact by cases r;exact .non
 |bl b=>
  exact by cases r;exact .bl b
 |int b=>
  exact by cases r;exact .int b
 |str b=>
  exact by cases r;exact .str b
 |seq e q=>
  exact by
    let⟨a,vs,rfl,ea,ra⟩:=Xw R r e;exact .lst ea (pys_dv R q ra)
 |tup q=>
  exact by
    let⟨a,vs,rfl,ea,_,ra⟩:=Ut R r rfl;exact .tup (SqT.of ea) (pys_dv R q ra)
theorem pys_dv(R:Rel C Z I α H M):∀{vs:List V}{ds:List D}{ps:List PyData},PyRs M ds ps->Reps C I α vs ds->DVs C.k H vs ps:=by
 intro _ _ _ hz9 r;cases hz9 with
 |nil=>
  exact by cases r;exact .nil
 |cons a b=>
  exact by
    cases r with
    |cons r1 r2=>exact .cons (Zg8 R a r1) (pys_dv R b r2)
end
end
def eqS:D->D->Option Bool
 |.non,.non=>some true|.non,.int _=>some false|.int _,.non=>some false|.non,.bl _=>some false|.bl _,.non=>some false|.non,.str _=>some false|.str _,.non=>some false
 |.int i,.int j=>some (decide (i=j))|.bl i,.bl j=>some (decide (i=j))|.str i,.str j=>some (decide (i=j))
 |.int _,.str _=>some false|.str _,.int _=>some false|.bl _,.str _=>some false|.str _,.bl _=>some false
 |_,_=>none
def eqV(d e:D)(M:Mem)(K:Bool->Prop):Prop:=(∃b,eqS d e=some b/\K b)\/∃p q,PyR M d p/\PyR M e q/\Hr p=true/\Hr q=true/\K (C9 p q)
def eq3:R3:=λd e M K=>eqV d e M λb=>K (.bl b) M
def ne3:R3:=λd e M K=>eqV d e M λb=>K (.bl (!b)) M
section
variable{C:Cf}{K':Cp} 
def rEqU(K:Cp):R2:=λx y H Q=>rEq x y H Q\/rEqD K x y H Q
def rNeU(K:Cp):R2:=λx y H Q=>rNe x y H Q\/rNeD K x y H Q
def Up(h:X.K=K')(hu:X.A.units+64<cLine):OpR X (Eh .Eq) (rEqU K'):=by subst h;exact OpR.or Zht (Zea hu)
def Zkb(h:X.K=K')(hu:X.A.units+64<cLine):OpR X (Eh .NotEq) (rNeU K'):=by subst h;exact OpR.or Zug (Zrq hu)
def Ziz{x y:V}{d e:D}{b:Bool}(r1:Rep C I α x d)(r2:Rep C I α y e)(h:eqS d e=some b):scal x y=true/\decide (x=y)=b:=by
 cases r1<;>first|(cases h;done)|(cases r2<;>first|(cases h;done)|(injection h with h;subst h;refine⟨rfl,?_⟩;simp))
def s_eq:SimR C Z (rEqU C.k) eq3:=λI α H M x y d e K Q R r1 r2 h k=>by
 rcases h with⟨b,eb,h⟩|⟨p,q,h1,h2,h3,h4,h⟩
 .let⟨z1,z2⟩:=Ziz r1 r2 eb;exact .inl ⟨z1,by rw[z2];exact k _ _ I α H M (.refl _) (Jc _) R (.bl _) h⟩
 .exact .inr ⟨p,q,Zg8 R h1 r1,Zg8 R h2 r2,h3,h4,k _ _ I α H M (.refl _) (Jc _) R (.bl _) h⟩
def s_ne:SimR C Z (rNeU C.k) ne3:=λI α H M x y d e K Q R r1 r2 h k=>by
 rcases h with⟨b,eb,h⟩|⟨p,q,h1,h2,h3,h4,h⟩
 .let⟨z1,z2⟩:=Ziz r1 r2 eb;exact .inl ⟨z1,by rw[z2];exact k _ _ I α H M (.refl _) (Jc _) R (.bl _) h⟩
 .exact .inr ⟨p,q,Zg8 R h1 r1,Zg8 R h2 r2,h3,h4,k _ _ I α H M (.refl _) (Jc _) R (.bl _) h⟩
end
structure Enc(τ:Type)[DecidableEq τ] where
 e:τ->D
 py:τ->PyData
 n:Nat
 ok:∀M a,PyR M (e a) (py a)
 shp:∀a,Shp n (py a)
 eq:∀a b,C9 (py a) (py b)=decide (a=b)
 hn:n<=60
theorem Zc7[DecidableEq τ]{f:τ->PyData}(h:∀a b,C9 (f a) (f b)=decide (a=b)):∀(a b:List τ),C4 (a.map f) (b.map f)=decide (a=b)
 |[],[]=>by simp[C4]
 |[],_::_=>by simp[C4]
 |_::_,[]=>by simp[C4]
 |a::r,b::t=>by
  rw[Js,Js,C4,h,Zc7 h r t];simp
theorem Rm{e:τ->D}{py:τ->PyData}(h:∀a,PyR M (e a) (py a)):∀as:List τ,PyRs M (as.map e) (as.map py)
 |[]=>.nil
 |a::r=>.cons (h a) (Rm h r)
def Zi0:Enc Int:=⟨.int,.int,0,λ_=>.int,Zcc,λa b=>by rw[C9,Bool.beq_eq_decide_eq],nofun⟩
def Zbn[DecidableEq τ](E:Enc τ)(h:E.n<=50:=by decide):Enc (List τ) where
 e as:=.lst (as.map E.e)
 py as:=.list (as.map E.py)
 n:=E.n+1
 ok:=λM as=>.seq rfl (Rm (E.ok M) as)
 shp:=λas=>Zdx λd hd=>by
  let⟨a,_,rfl⟩:=Jp.mp hd;exact E.shp a
 eq:=λa b=>by rw[C9,Zc7 E.eq]
 hn:=by lia
def Zsl[DecidableEq τ](E:Enc τ)(h:E.n<=50:=by decide):Enc (List τ) where
 e as:=.tup (as.map E.e)
 py as:=.tuple (as.map E.py)
 n:=E.n+1
 ok:=λM as=>.tup (Rm (E.ok M) as)
 shp:=λas=>Rg λd hd=>by
  let⟨a,_,rfl⟩:=Jp.mp hd;exact E.shp a
 eq:=λa b=>by rw[C9,Zc7 E.eq]
 hn:=by lia
def Zl4{n m:Nat}{d:PyData}(h:Shp n d)(l:n<=m):Shp m d:=⟨h.1,J0 h.2 l⟩
def Zuo{υ:Type}[DecidableEq τ][DecidableEq υ](E:Enc τ)(F:Enc υ)(h:E.n<=50:=by decide)(h':F.n<=50:=by decide):Enc (τ×υ) where
 e p:=.tup [E.e p.1,F.e p.2]
 py p:=.tuple [E.py p.1,F.py p.2]
 n:=max E.n F.n+1
 ok:=λM p=>.tup (.cons (E.ok M _) (.cons (F.ok M _) .nil))
 shp:=λp=>Rg λd hd=>by
  rcases Jq.mp hd with z|hd
  .rw[z];exact Zl4 (E.shp _) (Nat.le_max_left _ _)
  .rw[Jm.mp hd];exact Zl4 (F.shp _) (Nat.le_max_right _ _)
 eq:=λa b=>by
  let⟨a1,a2⟩:=a;let⟨b1,b2⟩:=b;rw[C9,C4,C4,C4,E.eq,F.eq];simp
 hn:=by lia
theorem Ziy[DecidableEq τ](E:Enc τ){d d':D}{a b:List τ}{K:Bool->Prop}(h1:Xx M d=some (a.map E.e))(h2:Xx M d'=some (b.map E.e))(h:K (decide (a=b)))(hn:E.n<=50:=by decide):eqV d d' M K :=
 .inr ⟨_,_,.seq h1 (Rm (E.ok M) a),.seq h2 (Rm (E.ok M) b),((Zbn E hn).shp a).shaped (by have:=(Zbn E hn).hn;lia),((Zbn E hn).shp b).shaped (by have:=(Zbn E hn).hn;lia),by
  let:=(Zbn E hn).eq a b;rw[show C9 (Jil (a.map E.py)) (Jil (b.map E.py))=decide (a=b)from this];exact h⟩
inductive Ty3 where
 |non|bool|int|str|list|tuple|dict
 deriving DecidableEq
def tyN:Ty3->String
 |.non=>"NoneType" |.bool=>"bool" |.int=>"int" |.str=>"str" |.list=>"list" |.tuple=>"tuple" |.dict=>"dict"
def tyOf(M:Mem):D->Option Ty3
 |.non=>some .non|.bl _=>some .bool|.int _=>some .int|.str _=>some .str|.lst _=>some .list|.tup _=>some .tuple|.dct _=>some .dict|.dcT _=>some .dict
 |.cell k=>match M[k]? with|some (.lst _)=>some .list|some (.dct _)=>some .dict|some (.dcT _)=>some .dict|_=>none
 |_=>none
def isS:Ty3->Ty3->Bool
 |.bool,.int=>true
 |a,b=>decide (a=b)
section
variable{C:Cf} 
theorem Zov(s t:Ty3)(ht:t≠.non):Eb C.k (.type (tyN s)) (.type (tyN t))=some (isS s t):=by
 cases t with
 |non=>exact absurd rfl ht
 |_=>cases s<;>rfl
theorem Zqg{d:D}{s:Ty3}(R:Rel C Z I α H M)(r:Rep C I α v d)(h:tyOf M d=some s):TyOf C.k H v (.type (tyN s)):=by
 cases r with
 |non=>cases h;exact .non
 |bl b=>cases h;exact .bl b
 |int b=>cases h;exact .int b
 |str b=>cases h;exact .str b
 |lst e r=>cases h;exact .lst (R.sub _ _ e)
 |frz e r=>cases h
 |tup e r=>cases h;exact .tup (R.sub _ _ e)
 |dct e r=>cases h;exact .dK (R.sub _ _ e)
 |dcT e r=>cases h;exact .dT (R.sub _ _ e)
 | @cell a k e =>
  unfold tyOf at h;cases hm:M[k]? with
  |none=>simp only[hm]at h;cases h
  |some m =>
   cases m with
   |lst es=>simp only[hm]at h;cases h;let⟨vs,e1,r⟩:=(R.cel k a _ e hm).1;exact .lst e1
   |dct es=>simp only[hm]at h;cases h;let⟨vs,e1,r⟩:=(R.cel k a _ e hm).1;exact .dK e1
   |dcT es=>simp only[hm]at h;cases h;let⟨vs,e1,r⟩:=(R.cel k a _ e hm).1;exact .dT e1
   |_=>simp only[hm]at h;cases h
 |_=>cases h
def isi3(T:Ty3):List D->Mem->K3->Prop:=λds M K=>∃d s,ds=[d,.ty (tyN T)]/\tyOf M d=some s/\K (.bl (isS s T)) M
theorem Ze8{T:Ty3}(hT:T≠.non:=by decide):SimC C Z (rIsi C.k) (isi3 T):=λI α H M xs ds K Q R r h k=>by
 let⟨d,s,rfl,e,h⟩:=h;cases r with
 |cons r1 r2 =>
  cases r2 with
  |cons r2 r3 =>
   cases r3;cases r2;exists _,_,_,·,Zqg R r1 e,Zov s T hT,k _ _ I α H M (.refl _) (Jc _) R (.bl _) h
def len3:List D->Mem->K3->Prop:=λds M K=>match ds with
 |[.str z]=>z.length<=sizeLine/\K (.int z.length) M
 |[d]=>∃xs,Qw M d=some xs/\K (.int xs.length) M
 |_=>False
theorem Uq:SimC C Z (rLen C.k) len3:=λI α H M xs ds K Q R r h k=>by
 let go:∀d v,Rep C I α v d->(∃xs,Qw M d=some xs/\K (.int xs.length) M)->rLen C.k [v] H Q:=λd v r h=>by
  let⟨ys,e1,h⟩:=h
  by_cases ht:∃zs,d=.tup zs
  .let⟨zs,rfl⟩:=ht;cases e1;let⟨a,vs,rfl,ea,_,ra⟩:=Ut R r rfl;exact⟨_,_,rfl,.inr ⟨_,SqT.of ea,rfl⟩,by rw[ra.length];exact k _ _ I α H M (.refl _) (Jc _) R (.int _) h⟩
  .let e1':Xx M d=some ys:=by
    cases d with
    |tup ys=>exact absurd ⟨ys,rfl⟩ ht
    |_=>exact e1
   let⟨a,vs,rfl,ea,ra⟩:=Xw R r e1';exact⟨_,_,rfl,.inl ⟨_,ea,rfl⟩,by rw[ra.length];exact k _ _ I α H M (.refl _) (Jc _) R (.int _) h⟩
 cases r with
 |nil=>exact h.elim
 |cons r1 r2 =>
  cases r2 with
  |nil =>
   rename_i v d
   cases d with
   |str z=>cases r1;exists _,·,⟨h.1,rfl⟩,k _ _ I α H M (.refl _) (Jc _) R (.int _) h.2
   |_=>exact go _ _ r1 h
  |cons _ _ =>
   rename_i v d _ _ _ _ _ _
   cases d<;>exact h.elim
def Zuk:List D->Mem->K3->Prop:=λds M K=>∃d xs,ds=[d]/\Qw M d=some xs/\K (.lst xs) M
def Zrz:List D->Mem->K3->Prop:=λds M K=>∃d xs,ds=[d]/\Qw M d=some xs/\K (.cell M.length) (M++[.lst xs])
def Zl5{d:D}{xs:List D}(R:Rel C Z I α H M)(r:Rep C I α v d)(h:Qw M d=some xs):∃a vs,v=.ref a/\(SqL C.k H a vs\/SqT C.k H a vs)/\Reps C I α vs xs:=by
 by_cases ht:∃zs,d=.tup zs
 .let⟨zs,rfl⟩:=ht;cases h;let⟨a,vs,rfl,ea,_,ra⟩:=Ut R r rfl;exists a,vs,rfl,.inr (SqT.of ea),ra
 .let e1':Xx M d=some xs:=by
   cases d with
   |tup ys=>exact absurd ⟨ys,rfl⟩ ht
   |_=>exact h
  let⟨a,vs,rfl,ea,ra⟩:=Xw R r e1';exists a,vs,rfl,.inl ea,ra
theorem Q7:SimC C Z (Zcm C.k) Zuk:=λI α H M xs ds K Q R r h k=>by
 let⟨d,ys,rfl,e,h⟩:=h;cases r with
 |cons r1 r2 =>
  cases r2;let⟨a,vs,rfl,ea,ra⟩:=Zl5 R r1 e;exists a,vs,rfl,ea,λp hp=>?_;let⟨R2,s2,e2⟩:=R.new (o:=.lst vs) hp;exact k _ _ _ α _ M s2 (Jc _) R2 (.lst e2 (ra.mono s2 (Jc _))) h
theorem Zci:SimC C Z (Zcm C.k) Zrz:=λI α H M xs ds K Q R r h k=>by
 let⟨d,ys,rfl,e,h⟩:=h;cases r with
 |cons r1 r2 =>
  cases r2;let⟨a,vs,rfl,ea,ra⟩:=Zl5 R r1 e;exists a,vs,rfl,ea,λp hp=>?_;let⟨R2,p2,e2⟩:=R.cell (o:=.lst vs) (m:=.lst ys) hp λH' e=>⟨vs,e,ra⟩;exact k _ _ I _ _ _ (.refl _) p2 R2 (.cell e2) h
def Zqi:List D->Mem->K3->Prop:=λds M K=>∃d xs,ds=[d]/\Qw M d=some xs/\K (.tup xs) M
theorem Zcf:SimC C Z (Zmc C.k) Zqi:=λI α H M xs ds K Q R r h k=>by
 let⟨d,ys,rfl,e,h⟩:=h;cases r with
 |cons r1 r2 =>
  cases r2
  by_cases ht:∃zs,d=.tup zs
  .let⟨zs,rfl⟩:=ht;cases e;let⟨a,vs,rfl,ea,_,ra⟩:=Ut R r1 rfl;exists a,vs,rfl,.inr ⟨SqT.of ea,k _ _ I α H M (.refl _) (Jc _) R r1 h⟩
  .let e1':Xx M d=some ys:=by
    cases d with
    |tup ys=>exact absurd ⟨ys,rfl⟩ ht
    |_=>exact e
   let⟨a,vs,rfl,ea,ra⟩:=Xw R r1 e1';exists a,vs,rfl,.inl ⟨ea,λp hp=>?_⟩;let⟨R2,s2,e2⟩:=R.new (o:=.tup vs) hp;exact k _ _ _ α _ M s2 (Jc _) R2 (.tup e2 (ra.mono s2 (Jc _))) h
def two3(f:Int->Int->D):List D->Mem->K3->Prop:=λds M K=>∃i j,ds=[.int i,.int j]/\K (f i j) M
theorem Zq3:SimC C Z (λxs H Q=>∃i j,xs=[.int i,.int j]/\Q (.int (if j > i then j else i)) H) (two3 λi j=>.int (if j > i then j else i)):=λI α H M xs ds K Q R r h k=>by
 let⟨i,j,rfl,h⟩:=h;cases r with
 |cons r1 r2 =>
  cases r2 with
  |cons r2 r3 =>
   cases r3;cases r1;cases r2;exists i,j,rfl,k _ _ I α H M (.refl _) (Jc _) R (.int _) h
theorem Zl8:SimC C Z (λxs H Q=>∃i j,xs=[.int i,.int j]/\Q (.int (if j<i then j else i)) H) (two3 λi j=>.int (if j<i then j else i)):=λI α H M xs ds K Q R r h k=>by
 let⟨i,j,rfl,h⟩:=h;cases r with
 |cons r1 r2 =>
  cases r2 with
  |cons r2 r3 =>
   cases r3;cases r1;cases r2;exists i,j,rfl,k _ _ I α H M (.refl _) (Jc _) R (.int _) h
def Rel.putL(R:Rel C Z I α H M){k:Nat}{a:Addr}(ha:α[k]?=some a)(r:Reps C I α vs ds):Rel C Z I α (upd H a (.lst vs)) (M.set k (.lst ds)) :=
 R.put (m:=.lst ds) ha λH' e=>⟨vs,e,r⟩
def Zb8{a:Addr}(e:H a=some (.lst vs)):tyV C.k "list" (.ref a) H:=.inl ⟨rfl,vs,SqL.of e⟩
def app3:D->List D->Mem->K3->Prop:=λd ds M K=>∃k xs y,d=.cell k/\ds=[y]/\M[k]?=some (.lst xs)/\xs.length<sizeLine/\K .non (M.set k (.lst (xs++[y])))
def ext3:D->List D->Mem->K3->Prop:=λd ds M K=>∃k e xs ys,d=.cell k/\ds=[e]/\M[k]?=some (.lst xs)/\lsOf M e=some ys/\xs.length+ys.length<=sizeLine/\K .non (M.set k (.lst (xs++ys)))
variable{to:TE}{t:TA}{u:TA3}
def P6(ho:SimE C Z to uo)(ha:SimA C Z t u):SimE C Z (tBM C.k "list" Zg7 to t) (λρ M K=>uo ρ M λd M1=>lsOf M1 d≠none/\u ρ M1 λds M2=>app3 d ds M2 K):=λI α σ H ρ M K Q R E h k =>
 ho I α σ H ρ M _ _ R E h λv d I1 α1 H1 M1 s1 p1 R1 r1 h1=>by
  let⟨hn,h1⟩:=h1;cases hl:lsOf M1 d with
  |none=>exact absurd hl hn
  |some zs =>
   let⟨a,vs,rfl,ea,ra⟩:=Nj R1 r1 hl;exists Zb8 ea,ha I1 α1 σ H1 ρ M1 _ _ R1 (E.mono s1 p1) h1 λws ds I2 α2 H2 M2 s2 p2 R2 r2 h2=>?_;let⟨j,xs,y,rfl,rfl,e1,hz,h2⟩:=h2;cases r2 with
   |cons ry rn =>
    cases rn;cases(r1.mono s2 p2)with
    |cell ec =>
     let⟨us,eu,ru⟩:=Um R2 ec e1;exists a,us,·,rfl,eu,by rw[ru.length];exact hz,?_;exact k _ _ I2 α2 _ _ (s1.trans s2) (p1.trans p2) (R2.putL ec (ru.app (.one ry))) .non h2
def Zkp(ho:SimE C Z to uo)(ha:SimA C Z t u):SimE C Z (tBM C.k "list" Zg6 to t) (λρ M K=>uo ρ M λd M1=>lsOf M1 d≠none/\u ρ M1 λds M2=>ext3 d ds M2 K):=λI α σ H ρ M K Q R E h k =>
 ho I α σ H ρ M _ _ R E h λv d I1 α1 H1 M1 s1 p1 R1 r1 h1=>by
  let⟨hn,h1⟩:=h1;cases hl:lsOf M1 d with
  |none=>exact absurd hl hn
  |some zs =>
   let⟨a,vs,rfl,ea,ra⟩:=Nj R1 r1 hl;exists Zb8 ea,ha I1 α1 σ H1 ρ M1 _ _ R1 (E.mono s1 p1) h1 λws ds I2 α2 H2 M2 s2 p2 R2 r2 h2=>?_;let⟨j,e,xs,ys,rfl,rfl,e1,e2,hz,h2⟩:=h2;cases r2 with
   |cons ry rn =>
    cases rn;let⟨b,bs,rfl,eb,rb⟩:=Nj R2 ry e2;cases(r1.mono s2 p2)with
    |cell ec =>
     let⟨us,eu,ru⟩:=Um R2 ec e1;exists a,b,us,bs,rfl,rfl,eu,eb,by rw[ru.length,rb.length];exact hz,?_;exact k _ _ I2 α2 _ _ (s1.trans s2) (p1.trans p2) (R2.putL ec (ru.app rb)) .non h2
end
def Yu(n:Nat)(d:D):Prop:=∀C I α v,Rep C I α v d->Rep C I (α.take n) v d
def Wj(n:Nat)(m:MO):Prop:=∀C I α H a,MoAt C I α H a m->MoAt C I (α.take n) H a m
inductive BelowE(n:Nat):Ev->Ev->Prop where
 |nil:BelowE n [] []
 |skip {o:Option D} {r r':Ev}:BelowE n r r'->BelowE n (o::r) (none::r')
 |keep {d:D} {r r':Ev}:Yu n d->BelowE n r r'->BelowE n (some d::r) (some d::r')
inductive BelS(n:Nat):Ev->Ev->Ev->Prop where
 |nil:BelS n [] [] []
 |skip {o0 o:Option D} {r0 r r':Ev}:BelS n r0 r r'->BelS n (o0::r0) (o::r) (none::r')
 |same {d:D} {r0 r r':Ev}:BelS n r0 r r'->BelS n (some d::r0) (some d::r) (some d::r')
 |keep {o0:Option D} {d:D} {r0 r r':Ev}:Yu n d->BelS n r0 r r'->BelS n (o0::r0) (some d::r) (some d::r')
def Dr(ρ0:Ev)(M0:Mem)(P:Ev->Mem->Prop)(ρ:Ev)(M:Mem):Prop:=P ρ M\/(∃ρ',(∃X,M=M0++X)/\BelS M0.length ρ0 ρ ρ'/\P ρ' M0)\/∃n ρ',M0.length<=n/\BelowE n ρ ρ'/\(∀m∈M.take n,Wj n m)/\P ρ' (M.take n)
def Dk(n0:Nat)(K:K3):K3:=λd M=>K d M\/∃n,n0<=n/\Yu n d/\(∀m∈M.take n,Wj n m)/\K d (M.take n)
section
variable{C:Cf} 
theorem BelowE.rep{n:Nat}{ρ':Ev}(b:BelowE n ρ ρ'):∀{σ:St},RepE C I α σ ρ->RepE C I (α.take n) σ ρ':=by
 induction b with
 |nil=>exact λh=>⟨h.1,λi d e=>by simp at e⟩
 | @skip o r r' b ih =>
  intro σ h;cases σ with
  |nil=>cases h.1
  |cons s σ =>
   let h':RepE C I α σ r:=⟨by simpa using h.1,λi d e=>by
    let⟨v,a,b⟩:=h.2 (i+1) d (by simpa using e);exact⟨v,by simpa using a,b⟩⟩
   let⟨l,g⟩:=ih h';exists by rw[Jx,Jx,l],λi d e=>?_;cases i with
   |zero=>simp at e
   |succ i =>
    let⟨v,a,b⟩:=g i d (by simpa using e);exists v,by simpa using a,b
 | @keep d0 r r' hb b ih =>
  intro σ h;cases σ with
  |nil=>cases h.1
  |cons s σ =>
   let h':RepE C I α σ r:=⟨by simpa using h.1,λi d e=>by
    let⟨v,a,b⟩:=h.2 (i+1) d (by simpa using e);exact⟨v,by simpa using a,b⟩⟩
   let⟨l,g⟩:=ih h';exists by rw[Jx,Jx,l],λi d e=>?_;cases i with
   |zero =>
    let⟨v,a,b⟩:=h.2 0 d e;simp at e;subst e;exists v,a,hb _ _ _ _ b
   |succ i =>
    let⟨v,a,b⟩:=g i d (by simpa using e);exists v,by simpa using a,b
def Sy{α0:List Addr}(p:α0<+:α){n:Nat}(h:α0.length<=n):α0<+:α.take n:=by
 let⟨t,rfl⟩:=p;rw[List.take_append,Gc h];exact Go _ _
def Rel.take(R:Rel C Z I α H M)(n:Nat)(hz:Z.a.length<=n)(hb:∀m∈M.take n,Wj n m):Rel C Z I (α.take n) H (M.take n):=by
 refine⟨R.ai,Sy R.aa hz,R.sub,by rw[Ji,Ji,R.len],R.nd.sublist (List.take_sublist _ _),λk a m h1 h2=>?_⟩;let h1':α[k]?=some a:=by
  rw[Mf]at h1
  split at h1
  .exact h1
  .cases h1
 let h2':M[k]?=some m:=by
  rw[Mf]at h2
  split at h2
  .exact h2
  .cases h2
 let⟨a1,a2⟩:=R.cel k a m h1' h2';exists hb m (Gg h2) _ _ _ _ _ a1,a2
theorem Fin.dk{K:K3}(k:Fin C Z I α K Q){n0:Nat}(hn:α.length=n0)(ha:Z.a<+:α):Fin C Z I α (Dk n0 K) Q:=λv d I' α' H' M' s p R r h=>by
 rcases h with h|⟨n,hl,hb,hm,h⟩
 .exact k v d I' α' H' M' s p R r h
 .exact k v d I' (α'.take n) H' (M'.take n) s (Sy p ()) (R.take n (by have:=ha.length_le;lia) hm) (hb _ _ _ _ r) h
end
def Zju{n:Nat}{i:Int}:Yu n (.int i):=λ_ _ _ _ r=>by cases r;exact .int _
def Zlq{n:Nat}{i:Bool}:Yu n (.bl i):=λ_ _ _ _ r=>by cases r;exact .bl _
def Zjq{n:Nat}{i:Str}:Yu n (.str i):=λ_ _ _ _ r=>by cases r;exact .str _
def Zjr{n:Nat}:Yu n .non:=λ_ _ _ _ r=>by cases r;exact .non
def Zfv{n:Nat} :Yu n (.code S):=λ_ _ _ _ r=>by cases r with|code h=>exact .code h
theorem Zfw{n k:Nat}(h:k<n):Yu n (.cell k):=λ_ _ α _ r=>by
 cases r with
 |cell e=>exact .cell (by rw[Mf,Fs h];exact e)
theorem Tz{n:Nat}(h:∀d∈ds,Yu n d){C:Cf} :∀{vs:List V},Reps C I α vs ds->Reps C I (α.take n) vs ds:=by
 induction ds with
 |nil=>intro vs r;cases r;exact .nil
 |cons d ds ih =>
  intro vs r;cases r with
  |cons a b=>exact .cons (h d Jn _ _ _ _ a) (ih (λx hx=>h x (Jh _ hx)) b)
def Zjt{n:Nat}(h:∀d∈ds,Yu n d):Yu n (.lst ds):=λ_ _ _ _ r=>by cases r with|lst e r=>exact .lst e (Tz h r)
def Zjv{n:Nat}(h:∀d∈ds,Yu n d):Yu n (.frz ds):=λ_ _ _ _ r=>by cases r with|frz e r=>exact .frz e (Tz h r)
def Zjp{n:Nat}(h:∀d∈ds,Yu n d):Yu n (.tup ds):=λ_ _ _ _ r=>by cases r with|tup e r=>exact .tup e (Tz h r)
def Zjs{n:Nat}:∀d∈([]:List D),Yu n d:=λ_ h=>nomatch h
def Zfu{n:Nat}{d:D}(h:Yu n d)(r:∀d∈ds,Yu n d):∀x∈d::ds,Yu n x:=λx hx=>by
 rcases Jq.mp hx with z|z
 .rw[z];exact h
 .exact r x z
def Zpg{n:Nat}:Wj n .hand:=λ_ _ _ _ _ h=>h
def Zsv{n:Nat}{P:Addr}{p:Pos}{q:Str}:Wj n (.tab P p q):=λ_ _ _ _ _ h=>h
def Zsw{n:Nat}(h:∀d∈ds,Yu n d):Wj n (.lst ds):=λ_ _ _ _ _ x=>by
 let⟨vs,e,r⟩:=x;exists vs,e,Tz h r
def WfM(M:Mem):Prop:=∀m∈M,Wj M.length m
theorem Tx{n:Nat}{kvs:List (Key×D)}(h:∀kv∈kvs,Yu n kv.2){C:Cf} :∀{vs:List (Key×V)},RepK C I α vs kvs->RepK C I (α.take n) vs kvs:=by
 induction kvs with
 |nil=>intro vs r;cases r;exact .nil
 |cons d ds ih =>
  intro vs r;cases r with
  |cons a b=>exact .cons (h _ Jn _ _ _ _ a) (ih (λx hx=>h x (Jh _ hx)) b)
theorem Ty{n:Nat}{kvs:List (List Key×D)}(h:∀kv∈kvs,Yu n kv.2){C:Cf} :∀{vs:List (List Key×V)},RepT C I α vs kvs->RepT C I (α.take n) vs kvs:=by
 induction kvs with
 |nil=>intro vs r;cases r;exact .nil
 |cons d ds ih =>
  intro vs r;cases r with
  |cons a b=>exact .cons (h _ Jn _ _ _ _ a) (ih (λx hx=>h x (Jh _ hx)) b)
theorem Zjw{n:Nat}{kvs:List (Str×D)}(h:∀kv∈kvs,Yu n kv.2){C:Cf} :∀{vs:List (Str×V)},RepF C I α vs kvs->RepF C I (α.take n) vs kvs:=by
 induction kvs with
 |nil=>intro vs r;cases r;exact .nil
 |cons d ds ih =>
  intro vs r;cases r with
  |cons a b=>exact .cons (h _ Jn _ _ _ _ a) (ih (λx hx=>h x (Jh _ hx)) b)
mutual
theorem Rep.bel{C:Cf}{I:Hp}{α:List Addr}:∀{v:V}{d:D},Rep C I α v d->Yu α.length d:=by
 intro _ _ h;cases h with
 |non=>exact Zjr
 |bl b=>exact Zlq
 |int i=>exact Zju
 |str x=>exact Zjq
 |ty n=>exact λ_ _ _ _ r=>by cases r;exact .ty _
 |«at» a=>exact λ_ _ _ _ r=>by cases r;exact .at _
 |tup e r=>exact Zjp (Reps.bel r)
 |lst e r=>exact Zjt (Reps.bel r)
 |frz e r=>exact Zjv (Reps.bel r)
 |dct e r=>exact λ_ _ _ _ q=>by cases q with|dct e q=>exact .dct e (Tx (RepK.bel r) q)
 |dcT e r=>exact λ_ _ _ _ q=>by cases q with|dcT e q=>exact .dcT e (Ty (RepT.bel r) q)
 |code h=>exact Zfv
 |cell e=>exact Zfw (Jf.mp e).1
 |exc e f r=>exact λ_ _ _ _ q=>by cases q with|exc e f q=>exact .exc e f (Zjw (RepF.bel r) q)
theorem Reps.bel{C:Cf}{I:Hp}{α:List Addr}:∀{vs:List V}{ds:List D},Reps C I α vs ds->∀d∈ds,Yu α.length d:=by
 intro _ _ h;cases h with
 |nil=>exact Zjs
 |cons h r=>exact Zfu (Rep.bel h) (Reps.bel r)
theorem RepK.bel{C:Cf}{I:Hp}{α:List Addr}:∀{vs:List (Key×V)}{ds:List (Key×D)},RepK C I α vs ds->∀kv∈ds,Yu α.length kv.2:=by
 intro _ _ h;cases h with
 |nil=>exact λ_ h=>nomatch h
 |cons h r =>
  exact λkv hk=>by
   rcases Jq.mp hk with z|z
   .rw[z];exact Rep.bel h
   .exact RepK.bel r kv z
theorem RepF.bel{C:Cf}{I:Hp}{α:List Addr}:∀{vs:List (Str×V)}{ds:List (Str×D)},RepF C I α vs ds->∀kv∈ds,Yu α.length kv.2:=by
 intro _ _ h;cases h with
 |nil=>exact λ_ h=>nomatch h
 |cons h r =>
  exact λkv hk=>by
   rcases Jq.mp hk with z|z
   .rw[z];exact Rep.bel h
   .exact RepF.bel r kv z
theorem RepT.bel{C:Cf}{I:Hp}{α:List Addr}:∀{vs:List (List Key×V)}{ds:List (List Key×D)},RepT C I α vs ds->∀kv∈ds,Yu α.length kv.2:=by
 intro _ _ h;cases h with
 |nil=>exact λ_ h=>nomatch h
 |cons h r =>
  exact λkv hk=>by
   rcases Jq.mp hk with z|z
   .rw[z];exact Rep.bel h
   .exact RepT.bel r kv z
end
def Zs2{n:Nat}{ds:List (Key×D)}(h:∀d∈ds,Yu n d.2):Wj n (.dct ds):=λ_ _ _ _ _ x=>by
 let⟨vs,e,r⟩:=x;exists vs,e,Tx h r
def Zs3{n:Nat}{ds:List (List Key×D)}(h:∀d∈ds,Yu n d.2):Wj n (.dcT ds):=λ_ _ _ _ _ x=>by
 let⟨vs,e,r⟩:=x;exists vs,e,Ty h r
def Zsz{n:Nat}{ds:List (Key×D)}(h:∀d∈ds,Yu n d.2):Wj n (.drK ds):=λ_ _ _ _ _ x=>by
 let⟨vs,e,r⟩:=x;exists vs,e,Tx h r
def Zsy{n:Nat}{ds:List (List Key×D)}(h:∀d∈ds,Yu n d.2):Wj n (.drT ds):=λ_ _ _ _ _ x=>by
 let⟨vs,e,r⟩:=x;exists vs,e,Ty h r
def Zs0{n:Nat}{o:Obj}{vs:List (List Key×V)}{ds:List (List Key×D)}(h:∀d∈ds,Yu n d.2):Wj n (.dfT o vs ds):=λ_ _ _ _ _ x=>⟨x.1,Ty h x.2⟩
def Zs1{n:Nat}{o:Obj}{vs:List (Key×V)}{ds:List (Key×D)}(h:∀d∈ds,Yu n d.2):Wj n (.dfK o vs ds):=λ_ _ _ _ _ x=>⟨x.1,Tx h x.2⟩
theorem Zsx{n:Nat}{fs:List (Str×D)}(h:∀d∈fs,Yu n d.2):Wj n (.ins Cl fs):=λC I α H a x=>by
 let⟨dx,vs,e,r⟩:=x;exists dx,vs,e,?_;clear e
 induction fs generalizing vs with
 |nil=>cases r;exact .nil
 |cons d ds ih =>
  cases r with
  |cons a b=>exact .cons ⟨a.1,h _ Jn _ _ _ _ a.2⟩ (ih (λx hx=>h x (Jh _ hx)) _ b)
theorem MoAt.bel{C:Cf}{a:Addr}(h:MoAt C I α H a m):Wj α.length m:=by
 cases m with
 |lst ds=>obtain⟨vs,e,r⟩:=h;exact Zsw r.bel
 |dct ds=>obtain⟨vs,e,r⟩:=h;exact Zs2 r.bel
 |dcT ds=>obtain⟨vs,e,r⟩:=h;exact Zs3 r.bel
 |drK ds=>obtain⟨vs,e,r⟩:=h;exact Zsz r.bel
 |drT ds=>obtain⟨vs,e,r⟩:=h;exact Zsy r.bel
 |dfT o vs ds=>exact Zs0 h.2.bel
 |dfK o vs ds=>exact Zs1 h.2.bel
 |ins Cl fs =>
  let⟨dx,vs,e,r⟩:=h;refine Zsx λkv hk=>?_;clear e
  induction r with
  |nil=>cases hk
  |cons a b ih =>
   rcases Jq.mp hk with z|z
   .rw[z];exact a.2.bel
   .exact ih z
 |hand=>exact Zpg
 |tab P pos q=>exact Zsv
def Rel.wf{C:Cf}(R:Rel C Z I α H M):WfM M:=λm hm=>by
 let⟨k,hk,rfl⟩:=Ju hm;let hk':k < α.length:=by rw[R.len];exact hk
 let:=(R.cel k _ _ (Ja hk') (Ja hk)).1.bel;rwa [R.len]at this
theorem BelS.belowE{n:Nat}{ρ0 ρ':Ev}(b:BelS n ρ0 ρ ρ'):(∀(i:Nat)(d:D),ρ0[i]?=some (some d)->Yu n d)->BelowE n ρ ρ':=by
 induction b with
 |nil=>exact λ_=>.nil
 |skip _ ih=>exact λh=>.skip (ih λi d e=>h (i+1) d (by simpa using e))
 |same _ ih=>exact λh=>.keep (h 0 _ rfl) (ih λi d e=>h (i+1) d (by simpa using e))
 |keep hb _ ih=>exact λh=>.keep hb (ih λi d e=>h (i+1) d (by simpa using e))
theorem Dr.out{C:Cf}{I0:Hp}{α0:List Addr}{H0:Hp}{M0:Mem}{P:Ev->Mem->Prop}{σ0:St}{ρ0:Ev}(h:Dr ρ0 M0 P ρ M)(R0:Rel C Z I0 α0 H0 M0)(E0:RepE C I0 α0 σ0 ρ0)(p:α0<+:α)(R:Rel C Z I α H M)(E:RepE C I α σ ρ) :
  ∃α' ρ' M',α0<+:α'/\Rel C Z I α' H M'/\RepE C I α' σ ρ'/\P ρ' M':=by
 rcases h with h|⟨ρ',⟨X,rfl⟩,hb,h⟩|⟨n,ρ',hl,hb,hm,h⟩
 .exists α,ρ,M,p,R,E,h
 .let hb':=hb.belowE λi d e=>by
   let⟨v,_,r⟩:=E0.2 i d e;let:=r.bel;rwa [R0.len]at this
  let et:(M0++X).take M0.length=M0:=Fh ..;let R1:=R.take M0.length (by rw[<-R0.len];exact R0.aa.length_le) (by rw[et];exact R0.wf);rw[et]at R1;exists α.take M0.length,ρ',M0,Sy p (by rw[R0.len];exact Je _),R1,hb'.rep E,h
 .exists α.take n,ρ',M.take n,Sy p (by rw[R0.len];lia),R.take n (by have:=R0.aa.length_le;let:=R0.len;lia) hm,hb.rep E,h
section
variable{C:Cf}{t t':TS}{u u':TS3}{ue:TE3}{uc:TT3}{ug:TG3}{gs:TGs}{ugs:TGs3}
def uSeq(u u':TS3):TS3:=λE ρ M=>u {E with nx:=u' E} ρ M
def Z2(h1:SimS C Z t u)(h2:SimS C Z t' u'):SimS C Z (tSeq t t') (uSeq u u'):=λI α σ H ρ M E D' R RE h F =>
 h1 I α σ H ρ M {E with nx:=u' E} {D' with nx:=t' D'} R RE h ⟨λI1 α1 σ1 H1 ρ1 M1 s p R1 RE1 h1=>h2 I1 α1 σ1 H1 ρ1 M1 E D' R1 RE1 h1 (F.mono s p),F.rt,F.bk,F.ct⟩
def Zkd:TS3:=λE ρ M=>E.nx ρ M
def Yl:SimS C Z Zne Zkd:=λI α σ H ρ M E D' R RE h F=>F.nx I α σ H ρ M (.refl _) (Jc _) R RE h
def Ztt(ue:TE3):TS3:=λE ρ M=>ue ρ M λ_ M1=>E.nx ρ M1
def Pb(he:SimE C Z te ue):SimS C Z (Zqq te) (Ztt ue):=λI α σ H ρ M E D' R RE h F =>
 he I α σ H ρ M _ _ R RE h λv d I1 α1 H1 M1 s p R1 r h1=>F.nx I1 α1 σ H1 ρ M1 s p R1 (RE.mono s p) h1
def uRet(ue:TE3):TS3:=λE ρ M=>ue ρ M E.rt
def Yr(he:SimE C Z te ue):SimS C Z (tRet te) (uRet ue):=λI α σ H ρ M E D' R RE h F=>he I α σ H ρ M _ _ R RE h F.rt
def uIfS(c:TT3)(u u':TS3):TS3:=λE ρ M=>c ρ M λb M1=>if b=true then u E ρ M1 else u' E ρ M1
def Xb(hc:SimT C Z tc uc)(h1:SimS C Z t u)(h2:SimS C Z t' u'):SimS C Z (tIfS tc t t') (uIfS uc u u'):=λI α σ H ρ M E D' R RE h F =>
 hc I α σ H ρ M _ _ R RE h λb I1 α1 H1 M1 s p R1 h3=>by
  cases b with
  |true =>
   rw[Fs rfl]at h3⊢;exact h1 I1 α1 σ H1 ρ M1 E D' R1 (RE.mono s p) h3 (F.mono s p)
  |false =>
   rw[Fp Jj]at h3⊢;exact h2 I1 α1 σ H1 ρ M1 E D' R1 (RE.mono s p) h3 (F.mono s p)
def Zp8:TS3:=λ_ _ _=>False
def Zno:SimS C Z Zlx Zp8:=λI α σ H ρ M E D' R RE h F=>h
def uAsg(ue:TE3)(ug:TG3):TS3:=λE ρ M=>ue ρ M λd M1=>ug d ρ M1 E.nx
def Yb(he:SimE C Z te ue)(hg:SimG C Z g ug):SimS C Z (tAsg te g) (uAsg ue ug):=λI α σ H ρ M E D' R RE h F =>
 he I α σ H ρ M _ _ R RE h λv d I1 α1 H1 M1 s p R1 r h1=>hg I1 α1 σ H1 ρ M1 v d _ _ R1 (RE.mono s p) r h1 (F.nx.mono s p)
def uG(i:Nat):TG3:=λd ρ M K=>K (ρ.set i (some d)) M
def s_g(i:Nat):SimG C Z (Zbi i) (uG i):=λI α σ H ρ M v d K Q R RE r h k=>k I α _ H _ M (.refl _) (Jc _) R (RE.set r i) h
def Ztq:TGs3:=λds ρ M K=>ds=[]/\K ρ M
def Zqb(ug:TG3)(ugs:TGs3):TGs3:=λds ρ M K=>∃d r,ds=d::r/\ug d ρ M λρ' M'=>ugs r ρ' M' K
def Pa:Zlu C Z gNil Ztq:=λI α σ H ρ M vs ds K Q R RE r h k=>by
 let⟨rfl,h⟩:=h;cases r;exists rfl,k I α σ H ρ M (.refl _) (Jc _) R RE h
theorem Xy(h1:SimG C Z g ug)(h2:Zlu C Z gs ugs):Zlu C Z (Zo2 g gs) (Zqb ug ugs):=λI α σ H ρ M vs ds K Q R RE r h k=>by
 let⟨d,r',rfl,h⟩:=h;cases r with
 |cons a b=>exact⟨_,_,rfl,h1 I α σ H ρ M _ d _ _ R RE a h λI1 α1 σ1 H1 ρ1 M1 s p R1 RE1 h3=>h2 I1 α1 σ1 H1 ρ1 M1 _ _ _ _ R1 RE1 (b.mono s p) h3 (k.mono s p)⟩
def Zto(n:Nat)(ugs:TGs3):TG3:=λd ρ M K=>∃ds,Znc d=some ds/\ds.length=n/\ugs ds ρ M K
def Q9{n:Nat}(h:Zlu C Z gs ugs):SimG C Z (gTup C.k n gs) (Zto n ugs):=λI α σ H ρ M v d K Q R RE r hh k=>by
 let⟨ds,e,hl,hh⟩:=hh;let⟨a,vs,rfl,ea,_,ra⟩:=Ut R r e;exists a,vs,rfl,SqT.of ea,by rw[ra.length];exact hl,h I α σ H ρ M vs ds K Q R RE ra hh k
def Ztp(uo ui:TE3):TG3:=λd ρ M K=>uo ρ M λo M1=>ui ρ M1 λi M2=>∃k xs z j,o=.cell k/\i=.int z/\M2[k]?=some (.lst xs)/\ixN xs.length z=some j/\K ρ (M2.set k (.lst (xs.set j d)))
def Zav{to ti:TE}{ui:TE3}(ho:SimE C Z to uo)(hi:SimE C Z ti ui):SimG C Z (gSub to ti Zrf) (Ztp uo ui):=λI α σ H ρ M v d K Q R RE r hh k =>
 ho I α σ H ρ M _ _ R RE hh λov o I1 α1 H1 M1 s1 p1 R1 r1 h1=>hi I1 α1 σ H1 ρ M1 _ _ R1 (RE.mono s1 p1) h1 λiv i I2 α2 H2 M2 s2 p2 R2 r2 h2=>by
  let⟨kk,xs,z,j,rfl,rfl,e1,e2,h2⟩:=h2;cases r2;cases(r1.mono s2 p2)with
  |cell ec =>
   let⟨us,eu,ru⟩:=Um R2 ec e1;exists _,us,z,j,rfl,rfl,eu,by rw[ru.length];exact e2,?_;exact k I2 α2 σ _ ρ _ (s1.trans s2) (p1.trans p2) (R2.putL ec (ru.set (r.mono (s1.trans s2) (p1.trans p2)) j)) (RE.mono (s1.trans s2) (p1.trans p2)) h2
def Zp7(uc:TT3)(u:TS3):TS3:=λE ρ M=>∃P:Nat->Ev->Mem->Prop,(∃m,P m ρ M)/\∀m ρ1 M1,P m ρ1 M1->uc ρ1 M1 λb M2=>if b=true then u {E with nx:=λρ' M'=>∃m',m'<m/\Dr ρ M (P m') ρ' M',ct:=λρ' M'=>∃m',m'<m/\Dr ρ M (P m') ρ' M',bk:=E.nx} ρ1 M2 else E.nx ρ1 M2
theorem Znj(hc:SimT C Z tc uc)(hb:SimS C Z t u):SimS C Z (Zga tc t) (Zp7 uc u):=λI α σ H ρ M E D' R RE h F=>by
 let⟨P,⟨m0,h0⟩,hs⟩:=h;let hlen:=R.len;exists λm σ1 H1=>∃I1 α1 ρ1 M1,Same I I1/\α<+:α1/\Rel C Z I1 α1 H1 M1/\RepE C I1 α1 σ1 ρ1/\P m ρ1 M1,⟨m0,I,α,ρ,M,.refl _,Jc _,R,RE,h0⟩,?_;rintro m σ1 H1 ⟨I1,α1,ρ1,M1,s1,p1,R1,RE1,h1⟩;refine hc I1 α1 σ1 H1 ρ1 M1 _ _ R1 RE1 (hs m ρ1 M1 h1) λb I2 α2 H2 M2 s2 p2 R2 h2=>?_;cases b with
 |false =>
  rw[Fp Jj]at h2⊢;exact F.nx I2 α2 σ1 H2 ρ1 M2 (s1.trans s2) (p1.trans p2) R2 (RE1.mono s2 p2) h2
 |true =>
  rw[Fs rfl]at h2⊢;refine⟨λσ' H'=>∃m',m'<m/\∃I1 α1 ρ1 M1,Same I I1/\α<+:α1/\Rel C Z I1 α1 H' M1/\RepE C I1 α1 σ' ρ1/\P m' ρ1 M1,λσ' H' h=>h,?_⟩;let nx:FinS C Z I2 α2 (λρ' M'=>∃m',m'<m/\Dr ρ M (P m') ρ' M') (λσ' H'=>∃m',m'<m/\∃I1 α1 ρ1 M1,Same I I1/\α<+:α1/\Rel C Z I1 α1 H' M1/\RepE C I1 α1 σ' ρ1/\P m' ρ1 M1):=λI3 α3 σ3 H3 ρ3 M3 s3 p3 R3 RE3 h3=>by
   let⟨m',hm,h3⟩:=h3;let⟨α4,ρ4,M4,p4,R4,RE4,h4⟩:=h3.out R RE (p1.trans (p2.trans p3)) R3 RE3;exists m',hm,I3,α4,ρ4,M4,s1.trans (s2.trans s3),p4,R4,RE4,h4
  exact hb I2 α2 σ1 H2 ρ1 M2 _ _ R2 (RE1.mono s2 p2) h2 ⟨nx,F.rt.mono (s1.trans s2) (p1.trans p2),F.nx.mono (s1.trans s2) (p1.trans p2),nx⟩
structure It3 where
 n:Nat
 item:Nat->D->Prop
 ok:Mem->Prop
abbrev TI3:=Ev->Mem->(It3->Mem->Prop)->Prop
def ItR(C:Cf)(Z:Anc)(I:Hp)(α:List Addr)(J:It)(j:It3):Prop:=∀I' α' H' M',Same I I'->α<+:α'->Rel C Z I' α' H' M'->j.ok M' ->
 (∀i,i<j.n->J.go i H'/\∀x H2,J.yld i H' x H2->∃I2 d,Same I' I2/\Rel C Z I2 α' H2 M'/\Rep C I2 α' x d/\j.item i d)/\J.stop j.n H'
def SimI(C:Cf)(Z:Anc)(w:TI)(u:TI3):Prop:=∀I α σ H ρ M(K:It3->Mem->Prop)(R':It->Hp->Prop),Rel C Z I α H M->RepE C I α σ ρ->u ρ M K ->
 (∀J j I' α' H' M',Same I I'->α<+:α'->Rel C Z I' α' H' M'->ItR C Z I' α' J j->K j M'->R' J H')->w σ H R'
def uIL(ue:TE3):TI3:=λρ M K=>ue ρ M λd M1=>∃ds,Xx M1 d=some ds/\K ⟨ds.length,λi x=>ds[i]?=some x,λM=>Xx M d=some ds⟩ M1
def s_il(he:SimE C Z te ue):SimI C Z (Zse C.k te) (uIL ue):=λI α σ H ρ M K R' R RE h k =>
 he I α σ H ρ M _ _ R RE h λv d I1 α1 H1 M1 s1 p1 R1 r1 h1=>by
  let⟨ds,e,h1⟩:=h1;let⟨a,vs,rfl,ea,ra⟩:=Xw R1 r1 e;exists a,rfl,⟨vs,ea⟩,k _ _ I1 α1 H1 M1 s1 p1 R1 (λI2 α2 H2 M2 s2 p2 R2 ok=>?_) h1;let⟨b,ws,eb,eq,rw'⟩:=Xw R2 (r1.mono s2 p2) ok;cases eb;exists λi hi=>?_,⟨ws,eq,by rw[rw'.length];exact Je _⟩;let hi2:i<ws.length:=by rw[rw'.length];exact hi
  exists⟨ws,ws[i],eq,Ja hi2⟩,λx H3 y=>?_;let⟨rfl,y⟩:=y;let:=y ws eq;rw[Ja hi2]at this;cases this;exists I2,ds[i],.refl _,R2,rw'.at hi2 hi,Ja hi
def uIT(ue:TE3):TI3:=λρ M K=>ue ρ M λd M1=>∃ds,Znc d=some ds/\K ⟨ds.length,λi x=>ds[i]?=some x,λ_=>True⟩ M1
def s_it(he:SimE C Z te ue):SimI C Z (iTup C.k te) (uIT ue):=λI α σ H ρ M K R' R RE h k =>
 he I α σ H ρ M _ _ R RE h λv d I1 α1 H1 M1 s1 p1 R1 r1 h1=>by
  let⟨ds,e,h1⟩:=h1;let⟨a,vs,rfl,ea,ia,ra⟩:=Ut R1 r1 e;exists a,rfl,⟨vs,SqT.of ea⟩,k _ _ I1 α1 H1 M1 s1 p1 R1 (λI2 α2 H2 M2 s2 p2 R2 ok=>?_) h1;let eq:SqT C.k H2 a vs:=SqT.of (R2.sub _ _ (s2 _ _ ia));let rw':=ra.mono s2 p2;exists λi hi=>?_,⟨vs,eq,by rw[rw'.length];exact Je _⟩;let hi2:i<vs.length:=by rw[rw'.length];exact hi
  exists⟨vs,vs[i],eq,Ja hi2⟩,λx H3 y=>?_;let⟨rfl,y⟩:=y;let:=y vs eq;rw[Ja hi2]at this;cases this;exists I2,ds[i],.refl _,R2,rw'.at hi2 hi,Ja hi
def Zks(lo:Int)(n:Nat):It3:=⟨n,λi x=>x=.int (lo+i),λ_=>True⟩
def Zr6{n:Nat}:ItR C Z I α (Itr lo n) (Zks lo n):=λI' α' H' M' s p R _=>⟨λi hi=>⟨hi,λx H2 y=>by
 let⟨rfl,rfl⟩:=y;exact⟨I',_,.refl _,R,.int _,rfl⟩⟩,Je _⟩
variable{ta:TA}{ua:TA3}
def uIR1(ua:TA3):TI3:=λρ M K=>ua ρ M λds M1=>∃j:Int,ds=[.int j]/\(-(2 ^ 62)<=j/\j<2 ^ 62)/\K (Zks 0 j.toNat) M1
def Zcj(ha:SimA C Z ta ua):SimI C Z (Zsd ta) (uIR1 ua):=λI α σ H ρ M K R' R RE h k =>
 ha I α σ H ρ M _ _ R RE h λvs ds I1 α1 H1 M1 s1 p1 R1 r1 h1=>by
  let⟨j,rfl,⟨h2,h3⟩,h1⟩:=h1;cases r1 with
  |cons a b =>
   cases b;cases a;exists j,rfl,h2,h3,k _ _ I1 α1 H1 M1 s1 p1 R1 Zr6 h1
def uIR2(ua:TA3):TI3:=λρ M K=>ua ρ M λds M1=>∃i j:Int,ds=[.int i,.int j]/\(-(2 ^ 62)<=i/\i<2 ^ 62/\-(2 ^ 62)<=j/\j<2 ^ 62)/\K (Zks i (j-i).toNat) M1
def Zq7(ha:SimA C Z ta ua):SimI C Z (Zsc ta) (uIR2 ua):=λI α σ H ρ M K R' R RE h k =>
 ha I α σ H ρ M _ _ R RE h λvs ds I1 α1 H1 M1 s1 p1 R1 r1 h1=>by
  let⟨i,j,rfl,h2,h1⟩:=h1;cases r1 with
  |cons a b =>
   cases b with
   |cons b c =>
    cases c;cases a;cases b;exists i,j,rfl,h2,k _ _ I1 α1 H1 M1 s1 p1 R1 Zr6 h1
def uIE(ua:TA3):TI3:=λρ M K=>ua ρ M λds M1=>∃d xs,ds=[d]/\Xx M1 d=some xs/\K ⟨xs.length,λi x=>∃y,xs[i]?=some y/\x=.tup [.int i,y],λM=>Xx M d=some xs⟩ M1
def s_ie(ha:SimA C Z ta ua):SimI C Z (Zsf C.k ta) (uIE ua):=λI α σ H ρ M K R' R RE h k =>
 ha I α σ H ρ M _ _ R RE h λvs ds I1 α1 H1 M1 s1 p1 R1 r1 h1=>by
  let⟨d,xs,rfl,e,h1⟩:=h1;cases r1 with
  |cons r1 b =>
   cases b;let⟨a,vs,rfl,ea,ra⟩:=Xw R1 r1 e;exists a,rfl,⟨vs,ea⟩,k _ _ I1 α1 H1 M1 s1 p1 R1 (λI2 α2 H2 M2 s2 p2 R2 ok=>?_) h1;let⟨b,ws,eb,eq,rw'⟩:=Xw R2 (r1.mono s2 p2) ok;cases eb;exists λi hi=>?_,⟨ws,eq,by rw[rw'.length];exact Je _⟩;let hi2:i<ws.length:=by rw[rw'.length];exact hi
   exists⟨ws,ws[i],eq,Ja hi2⟩,λx H3 y=>?_;let⟨t,y,rfl,ht,rfl,q⟩:=y;let q2:=q _ eq;rw[Ja hi2]at q2;cases q2;let⟨R3,s3,e3⟩:=R2.new (o:=.tup [.int (i:Nat),ws[i]]) ht;exists _,.tup [.int (i:Nat),xs[i]],s3,R3,.tup e3 (.cons (.int _) (.one ((rw'.at hi2 hi).mono s3 (Jc _)))),_,Ja hi,rfl
def uFor(ui:TI3)(ug:TG3)(ub:TS3):TS3:=λE ρ M=>ui ρ M λj M1=>∃P:Nat->Ev->Mem->Prop,(∀i ρ M,i<=j.n->P i ρ M->j.ok M)/\P 0 ρ M1 /\
 (∀i x ρ1 M',i<j.n->j.item i x->P i ρ1 M'->ug x ρ1 M' λρ2 M2=>ub {E with nx:=Dr ρ M1 (P (i+1)),ct:=Dr ρ M1 (P (i+1)),bk:=E.nx} ρ2 M2)/\∀ρ M,P j.n ρ M->E.nx ρ M
theorem Ur{ui:TI3}(hi:SimI C Z wi ui)(hg:SimG C Z g ug)(hb:SimS C Z t u):SimS C Z (tFor wi g t) (uFor ui ug u):=λI α σ H ρ M E D' R RE h F =>
 hi I α σ H ρ M _ _ R RE h λJ j I1 α1 H1 M1 s1 p1 R1 IR h1=>by
  let⟨P,hok,h0,hs,he⟩:=h1;let hlen:=R1.len;exists λi m σ' H'=>m=j.n-i/\i<=j.n/\∃I2 α2 ρ2 M2,Same I1 I2/\α1<+:α2/\Rel C Z I2 α2 H' M2/\RepE C I2 α2 σ' ρ2/\P i ρ2 M2,⟨j.n,rfl,Gf _,I1,α1,ρ,M1,.refl _,Jc _,R1,RE.mono s1 p1,h0⟩,?_;rintro i m σ' H' ⟨rfl,hi,I2,α2,ρ2,M2,s2,p2,R2,RE2,h2⟩;let⟨go,stop⟩:=IR I2 α2 H' M2 s2 p2 R2 (hok i ρ2 M2 hi h2)
  by_cases hlt:i<j.n
  .let⟨g1,g2⟩:=go i hlt;refine .inr ⟨g1,λσ3 H3=>∃I3 α3 ρ3 M3,Same I1 I3/\α1<+:α3/\Rel C Z I3 α3 H3 M3/\RepE C I3 α3 σ3 ρ3/\P (i+1) ρ3 M3,λσ3 H3 h3=>⟨j.n-(i+1),(),rfl,hlt,h3⟩,λx H3 y=>?_⟩;let⟨I3,d,s3,R3,r3,it⟩:=g2 x H3 y;refine hg I3 α2 σ' H3 ρ2 M2 x d _ _ R3 (RE2.mono s3 (Jc _)) r3 (hs i d ρ2 M2 hlt it h2) λI4 α4 σ4 H4 ρ4 M4 s4 p4 R4 RE4 h4=>?_;let nx:FinS C Z I4 α4 (Dr ρ M1 (P (i+1))) (λσ3 H3=>∃I3 α3 ρ3 M3,Same I1 I3/\α1<+:α3/\Rel C Z I3 α3 H3 M3/\RepE C I3 α3 σ3 ρ3/\P (i+1) ρ3 M3):=λI5 α5 σ5 H5 ρ5 M5 s5 p5 R5 RE5 h5=>by
    let⟨α6,ρ6,M6,p6,R6,RE6,h6⟩:=h5.out R1 (RE.mono s1 p1) (p2.trans (p4.trans p5)) R5 RE5;exists I5,α6,ρ6,M6,s2.trans (s3.trans (s4.trans s5)),p6,R6,RE6,h6
   let F4:=F.mono (s1.trans (s2.trans (s3.trans s4))) (p1.trans (p2.trans p4));exact hb I4 α4 σ4 H4 ρ4 M4 _ _ R4 RE4 h4 ⟨nx,F4.rt,F4.nx,nx⟩
  .let e:i=j.n:=by lia
   subst e;exact .inl ⟨stop,F.nx I2 α2 σ' H' ρ2 M2 (s1.trans s2) (p1.trans p2) R2 RE2 (he ρ2 M2 h2)⟩
def sg3(ρ:Ev)(T:List Str)(cs:List Nat):Ev:=T.map (λ_=>none)++cs.map λi=>ρ.getD i none
def RepE.sg(h:RepE C I α σ ρ)(T:List Str)(cs:List Nat):RepE C I α (sgOf σ T cs) (sg3 ρ T cs):=by
 exists by unfold sgOf sg3;simp,λi d e=>?_;unfold sg3 at e;unfold sgOf
 by_cases hi:i<T.length
 .rw[Jo (by simpa using hi),Jv,Ja hi]at e;simp at e
 .rw[Jw (by simpa using hi),Jv]at e;rw[Jw (by simpa using hi),Jv];simp only[Jb]at e⊢;cases hc:cs[i-T.length]? with
  |none=>rw[hc]at e;cases e
  |some c =>
   rw[hc]at e;simp only[B3,Jey]at e⊢;rw[Gj]at e⊢;cases hr:ρ[c]? with
   |none=>rw[hr]at e;cases e
   |some o =>
    rw[hr]at e;cases e;let⟨v,e2,r⟩:=h.2 c d hr;exists v,by rw[e2];rfl,r
variable{ut:TT3} 
def cmp3(ui:TI3)(ug:TG3)(ut:TT3)(ue:TE3)(T:List Str)(cs:List Nat)(ρ:Ev)(M:Mem)(F:List D->Mem->Prop):Prop:=ui ρ M λj M1=>j.n<=sizeLine/\∃P:Nat->List D->Mem->Prop,(∀i ys M,i<=j.n->P i ys M->j.ok M)/\P 0 [] M1 /\
 (∀i x ys M,i<j.n->j.item i x->P i ys M->ug x (sg3 ρ T cs) M λρ2 M2=>ut ρ2 M2 λb M3=>if b=true then ue ρ2 M3 λy M4=>P (i+1) (ys++[y]) M4 else P (i+1) ys M3)/\∀ys M,P j.n ys M->F ys M
def Ztw(ui:TI3)(ug:TG3)(ut:TT3)(ue:TE3)(T:List Str)(cs:List Nat):TE3:=λρ M K=>cmp3 ui ug ut ue T cs ρ M λys M1=>K (.lst ys) M1
def Zqe(ui:TI3)(ug:TG3)(ut:TT3)(ue:TE3)(T:List Str)(cs:List Nat):TE3:=λρ M K=>cmp3 ui ug ut ue T cs ρ M λys M1=>K (.cell M1.length) (M1++[.lst ys])
theorem Zes{ui:TI3}(hi:SimI C Z wi ui)(hg:SimG C Z g ug)(ht:SimT C Z tt ut)(he:SimE C Z te ue){F:List D->Mem->Prop}(R:Rel C Z I α H M)(RE:RepE C I α σ ρ)(h:cmp3 ui ug ut ue T cs ρ M F)(k:∀ys vs I' α' H' M',Same I I'->α<+:α'->Rel C Z I' α' H' M'->Reps C I' α' vs ys->F ys M'->∀p,H' p=none->Q (.ref p) (upd H' p (.lst vs))):Ze3 wi g tt te T cs σ H Q :=
 hi I α σ H ρ M _ _ R RE h λJ j I1 α1 H1 M1 s1 p1 R1 IR h1=>by
  let⟨hz,P,hok,h0,hs,hd⟩:=h1;exists λi m vs H'=>m=j.n-i/\i<=j.n/\∃I2 α2 ys M2,Same I1 I2/\α1<+:α2/\Rel C Z I2 α2 H' M2/\Reps C I2 α2 vs ys/\ys.length<=i/\P i ys M2,⟨j.n,rfl,Gf _,I1,α1,[],M1,.refl _,Jc _,R1,.nil,Je _,h0⟩,?_;rintro i m vs H' ⟨rfl,hi,I2,α2,ys,M2,s2,p2,R2,r2,hl,h2⟩;let⟨go,stop⟩:=IR I2 α2 H' M2 s2 p2 R2 (hok i ys M2 hi h2);let hvl:=r2.length
  by_cases hlt:i<j.n
  .let⟨g1,g2⟩:=go i hlt;refine .inr ⟨g1,(),λvs3 H3=>∃I3 α3 ys3 M3,Same I1 I3/\α1<+:α3/\Rel C Z I3 α3 H3 M3/\Reps C I3 α3 vs3 ys3/\ys3.length<=i+1/\P (i+1) ys3 M3,λvs3 H3 h3=>⟨j.n-(i+1),(),rfl,hlt,h3⟩,λx H3 y=>?_⟩;let⟨I3,d,s3,R3,r3,it⟩:=g2 x H3 y;let RE3:RepE C I3 α2 σ ρ:=RE.mono (s1.trans (s2.trans s3)) (p1.trans p2);refine hg I3 α2 _ H3 _ M2 x d _ _ R3 (RE3.sg T cs) r3 (hs i d ys M2 hlt it h2) λI4 α4 σ4 H4 ρ4 M4 s4 p4 R4 RE4 h4=>?_;refine ht I4 α4 σ4 H4 ρ4 M4 _ _ R4 RE4 h4 λb I5 α5 H5 M5 s5 p5 R5 h5=>?_;cases b with
   |true =>
    rw[Fs rfl]at h5⊢;refine he I5 α5 σ4 H5 ρ4 M5 _ _ R5 (RE4.mono s5 p5) h5 λv e I6 α6 H6 M6 s6 p6 R6 r6 h6=>?_;exists I6,α6,ys++[e],M6,s2.trans (s3.trans (s4.trans (s5.trans s6))),p2.trans (p4.trans (p5.trans p6)),R6,(r2.mono (s3.trans (s4.trans (s5.trans s6))) (p4.trans (p5.trans p6))).app (.one r6),?_,h6;rw[Jd,Gn];lia
   |false =>
    rw[Fp Jj]at h5⊢;exists I5,α5,ys,M5,s2.trans (s3.trans (s4.trans s5)),p2.trans (p4.trans p5),R5,r2.mono (s3.trans (s4.trans s5)) (p4.trans p5),(),h5
  .let e:i=j.n:=by lia
   subst e;exact .inl ⟨stop,(),k ys vs I2 α2 H' M2 (s1.trans s2) (p1.trans p2) R2 r2 (hd ys M2 h2)⟩
def Rj{ui:TI3}(hi:SimI C Z wi ui)(hg:SimG C Z g ug)(ht:SimT C Z tt ut)(he:SimE C Z te ue):SimE C Z (Ze3 wi g tt te T cs) (Ztw ui ug ut ue T cs):=λI α σ H ρ M K Q R RE h k =>
 Zes hi hg ht he R RE h λys vs I' α' H' M' s p R' r hF q hq=>by
  let⟨R2,s2,e2⟩:=R'.new (o:=.lst vs) hq;exact k _ _ _ α' _ M' (s.trans s2) p R2 (.lst e2 (r.mono s2 (Jc _))) hF
def Zns{ui:TI3}(hi:SimI C Z wi ui)(hg:SimG C Z g ug)(ht:SimT C Z tt ut)(he:SimE C Z te ue):SimE C Z (Ze3 wi g tt te T cs) (Zqe ui ug ut ue T cs):=λI α σ H ρ M K Q R RE h k =>
 Zes hi hg ht he R RE h λys vs I' α' H' M' s p R' r hF q hq=>by
  let⟨R2,p2,e2⟩:=R'.cell (o:=.lst vs) (m:=.lst ys) hq λH' e=>⟨vs,e,r⟩;exact k _ _ I' _ _ _ s (p.trans p2) R2 (.cell e2) hF
def Zti:TT3:=λ_ M K=>K true M
def Zas:SimT C Z Zql Zti:=λI α σ H ρ M K Q R E h k=>k true I α H M (.refl _) (Jc _) R h
abbrev Sp3:=List D->Mem->K3->Prop
def spOf(C:Cf)(sp:Sp3):Sp:=λvs H Q _=>∃Z I α M ds K,Rel C Z I α H M/\Reps C I α vs ds/\sp ds M K/\Fin C Z I α K Q
def Ztx(sp:Sp3)(ua:TA3):TE3:=λρ M K=>ua ρ M λds M1=>sp ds M1 K
def Z6{sp:Sp3}{E0':XK}(ha:SimA C Z ta ua):SimE C Z (Ze4 (spOf C sp) [] E0' ta) (Ztx sp ua):=λI α σ H ρ M K Q R RE h k =>
 ha I α σ H ρ M _ _ R RE h λvs ds I1 α1 H1 M1 s1 p1 R1 r1 h1=>by
  rw[Gs];exists Z,I1,α1,M1,ds,K,R1,r1,h1,k.mono s1 p1
def Cal.imp{w:Ct}{base:Heap}{x:Str}{k:Nat}(c:Cal P w K mg base x k ps sp)(h:∀vs H Q E,sp' vs H Q E->sp vs H Q E):Cal P w K mg base x k ps sp' :=
 let⟨f,fd,a,b⟩:=c
 ⟨f,fd,a.imp h,b⟩
def Zao(N:List Str)(ds:List D):Ev:=ds.map some++Co (N.length-ds.length) none
def Zay(r:Reps C I α vs ds)(N:List Str):RepE C I α (L2.Uz N vs) (Zao N ds):=by
 let hl:=r.length;exists by unfold L2.Uz Zao;simp[hl],λi d e=>?_;unfold Zao at e;unfold L2.Uz
 by_cases hi:i<ds.length
 .rw[Jo (by simpa using hi),Jv,Ja hi]at e;let e':ds[i]=d:=by simpa using e
  rw[Jo (by simpa[hl]using hi),Jv,Ja (by rw[hl];exact hi)];exists ·,e' ▸ r.at (by rw[hl];exact hi) hi
 .rw[Jw (by simpa using hi),Ja5]at e
  split at e<;>cases e
def Fun.ok3{w:Ct}{base:Heap}{x:Str}{f:Addr}{k:Nat}{sp:Sp3}(F:Fun K x qual st f fd)(S:FnScope N ps (Zn st))(len:∀ds M K,sp ds M K->ds.length=ps.length)(hbody:∀(cdv:Value)(A:L6)(outer:List Env)(s:Ca)(H:Hp)(E:XK),Room k (A.deeper (Hy qual (Zn st) s.heap.objs.size f cdv)) ->
   ∃t u,PSs (cxOf CX0 P w K mg base N qual (Zn st) f cdv A outer s H E).nox (Y8 st) t/\(∀Z,SimS C Z t u)/\∀ds M K,WfM M->(∀d∈ds,Yu M.length d)->sp ds M K->u {nx:=λ_ M'=>Dk M.length K .non M',rt:=Dk M.length K} (Zao N ds) M):FnOk P w K mg base CX0 (k+1) f fd ps (spOf C sp):=by
 refine F.ok S (λvs H Q E h=>?_) (λcdv A outer s H vs Q E hr h=>?_)
 .let⟨Z,I,α,M,ds,K,R,r,h,_⟩:=h;rw[r.length];exact len ds M K h
 .let⟨t,u,h1,h2,h3⟩:=hbody cdv A outer s H E hr;let⟨Z,I,α,M,ds,K,R,r,h,k⟩:=h;let kd:=k.dk R.len R.aa;exists t,h1,h2 Z I α _ H _ M _ _ R (Zay r N) (h3 ds M K R.wf (by rw[<-R.len];exact r.bel) h) ⟨λI1 α1 σ1 H1 ρ1 M1 s1 p1 R1 _ h1=>kd _ _ I1 α1 H1 M1 s1 p1 R1 .non h1,kd,λ_ _ _ _ _ _ _ _ _ _ h=>h.elim,λ_ _ _ _ _ _ _ _ _ _ h=>h.elim⟩
end
section
variable{C:Cf} 
def Rel.full(R:Rel C Z I α H M):∃I',Same I I'/\Rel C Z I' α H M/\∀b o,H b=some o->b∉α->I' b=some o:=by
 let s:Same I (λb=>if b∈α then none else H b):=λb o e=>by
  let hb:b∉α:=λhb=>by
   let⟨k,hk,rfl⟩:=Ju hb;let hk':k<M.length:=by rw[<-R.len];exact hk
   rw[(R.cel k _ _ (Ja hk) (Ja hk')).2]at e;cases e
  show(if b∈α then none else H b)=some o;rw[Fp hb];exact R.sub b o e
 exists _,s,⟨R.ai.trans s,R.aa,λb o e=>?_,R.len,R.nd,λk a m h1 h2=>?_⟩,λb o e hb=>?_
 .let e':(if b∈α then none else H b)=some o:=e
  split at e'
  .cases e'
  .exact e'
 .exists(R.cel k a m h1 h2).1.mono s (Jc _) rfl,?_;show(if a∈α then none else H a)=none;rw[Fs (Gg h1)]
 .show(if b∈α then none else H b)=some o;rw[Fp hb];exact e
def Rel.out(R:Rel C Z I α H M)(h:H l=none):l∉α:=λhl=>by
 let⟨k,hk,e⟩:=Ju hl;exact R.cellNe (Ja hk) h e
theorem Rel.tupOut(R:Rel C Z I α H M)(h:H l=some (.tup vs)):l∉α:=λhl=>by
 let⟨k,hk,rfl⟩:=Ju hl;let hk':k<M.length:=by rw[<-R.len];exact hk
 let:=(R.cel k _ _ (Ja hk) (Ja hk')).1;cases hm:M[k]with
 |lst ds=>rw[hm]at this;let⟨vs,e,_⟩:=this;rw[h]at e;cases e
 |dct ds=>rw[hm]at this;let⟨vs,e,_⟩:=this;rw[h]at e;cases e
 |dcT ds=>rw[hm]at this;let⟨vs,e,_⟩:=this;rw[h]at e;cases e
 |drK ds=>rw[hm]at this;let⟨vs,e,_⟩:=this;rcases e with e|⟨o,e⟩<;>(rw[h]at e;cases e)
 |drT ds=>rw[hm]at this;let⟨vs,e,_⟩:=this;rcases e with e|⟨o,e⟩<;>(rw[h]at e;cases e)
 |dfT o vs ds=>rw[hm]at this;let e:=this.1;rw[h]at e;cases e
 |dfK o vs ds=>rw[hm]at this;let e:=this.1;rw[h]at e;cases e
 |ins Cl fs=>rw[hm]at this;let⟨dx,vs,e,_⟩:=this;rw[h]at e;cases e
 |hand=>rw[hm]at this;let⟨d,k,c,cs,e,_⟩:=this;rw[h]at e;cases e
 |tab P pos q=>rw[hm]at this;let⟨_,ps,e,_⟩:=this;rw[h]at e;cases e
def Rel.same(R:Rel C Z I α H M)(s:Same H H'):Rel C Z I α H' M:=by
 exists R.ai,R.aa,R.sub.trans s,R.len,R.nd,λk a m h1 h2=>?_;let⟨a1,a2⟩:=R.cel k a m h1 h2;let⟨o,e⟩:=a1.some;exists a1.mono (.refl _) (Jc _) ((s _ _ e).trans e.symm),a2
def Rel.grow(R:Rel C Z I α H M){k:Nat}{p c:Addr}{cs:List Int}(ha:α[k]?=some p)(hm:M[k]?=some .hand)(hh:HandAt H' p c)(ic:I c=some (.lst (cs.map V.int)))(hc:cs≠[]/\cs.length<=63/\∀c∈cs,0<=c)(g:Grow p H H'):Rel C Z I α H' M:=by
 let ip:I p=none:=(R.cel k p _ ha hm).2;exists R.ai,R.aa,λb o e=>g b o (R.sub b o e) (λz=>by rw[z,ip]at e;cases e),R.len,R.nd,λj a m h1 h2=>?_;let⟨a1,a2⟩:=R.cel j a m h1 h2
 by_cases e:k=j
 .subst e;rw[ha]at h1;cases h1;rw[hm]at h2;cases h2;let⟨d0,i0,cs',x1,x2,x3,x4,x5,x6,x7⟩:=hh.ex;exists⟨d0,i0,c,cs,x1,ic,hc.1,hc.2.1,x5,x6,hc.2.2⟩,ip
 .let⟨o,eo⟩:=a1.some;let ne:a≠p:=λz=>by
   let⟨hj,ej⟩:=Jf.mp h1;let⟨hk,ek⟩:=Jf.mp ha;rw[<-ej,<-ek]at z;exact e ((G7 R.nd).mp z).symm
  exists a1.mono (.refl _) (Jc _) ((g _ _ eo ne).trans eo.symm),a2
def Rel.hand(R:Rel C Z I α H M){k:Nat}{p:Addr}(ha:α[k]?=some p)(hm:M[k]?=some .hand):∃c cs,HandAt H p c/\I c=some (.lst (cs.map V.int))/\cs≠[]/\cs.length<=63/\∀c∈cs,0<=c:=by
 let⟨d,i,c,cs,e,ic,h1,h2,h3,h4,h5⟩:=(R.cel k p _ ha hm).1;exists c,cs,⟨d,i,cs,e,R.sub _ _ ic,h1,h2,h3,h4,h5⟩,ic,h1,h2,h5
theorem Rel.cellAt(R:Rel C Z I α H M)(il:I l=none)(hl:l∉α)(hm:MoAt C I α H l m):Rel C Z I (α++[l]) H (M++[m])/\α<+:(α++[l])/\(α++[l])[M.length]?=some l:=by
 refine⟨⟨R.ai,R.aa.trans (Go _ _),R.sub,by rw[Jd,Jd,R.len];rfl,?_,λk a x h1 h2=>?_⟩,Go _ _,by rw[<-R.len];simp⟩
 .rw[By];exists R.nd,by simp,λa ha b hb e=>hl (by rw[<-Jm.mp hb,<-e];exact ha)
 .by_cases hk:k < α.length
  .rw[Jo hk]at h1;rw[Jo (by rw[<-R.len];exact hk)]at h2;let⟨a1,a2⟩:=R.cel k a x h1 h2;exists a1.mono (.refl _) (Go _ _) rfl,a2
  .let⟨hk2,_⟩:=Jf.mp h1;rw[Jd,Gn]at hk2;let e:k=α.length:=by lia
   subst e;let e1:(α++[l])[α.length]?=some l:=by simp
   let e2:(M++[m])[α.length]?=some m:=by rw[R.len];simp
   rw[e1]at h1;rw[e2]at h2;cases h1;cases h2;exists hm.mono (.refl _) (Go _ _) rfl,il
end
variable{ui:L3.TI3}
def wD(w:List Int):D:=.tup (w.map .int)
def pD(p:Pr):D:=.tup [.int p.1,wD p.2]
def oD:Option Int->D
 |some z=>.int z
 |none=>.non
section
variable{C:Cf} 
def Zua(s:∀b xs,H b=some (.tup xs)->I b=some (.tup xs)){w:List Int}(h:Zdj H v w):Rep C I α v (wD w):=by
 let⟨t,rfl,e⟩:=h;exact .tup (s _ _ e) (.ints w)
def Zub(s:∀b xs,H b=some (.tup xs)->I b=some (.tup xs)){p:Pr}(h:Zab H v p):Rep C I α v (pD p):=by
 let⟨t,tw,rfl,e,e2⟩:=h;exact .tup (s _ _ e) (.cons (.int _) (.one (.tup (s _ _ e2) (.ints p.2))))
theorem P8{F:V->τ->Prop}{f:τ->D}(h:∀v a,F v a->Rep C I α v (f a)):∀{vs:List V}{as:List τ},Paired F vs as->Reps C I α vs (as.map f):=by
 intro _ _ hz9;cases hz9 with
 |nil=>
  exact .nil
 |cons a b=>
  exact .cons (h _ _ a) (P8 h b)
theorem Zct{F:V->τ->Prop}{f:τ->D}(h:∀v a,Rep C I α v (f a)->F v a):∀{vs:List V}{as:List τ},Reps C I α vs (as.map f)->Paired F vs as
 |_,[],r=>by cases r;exact .nil
 |_,a::as,r=>by
  cases r with
  |cons x y=>exact .cons (h _ _ x) (Zct h y)
theorem Zp4(s:Same I H){w:List Int}(h:Rep C I α v (wD w)):Zdj H v w:=by
 cases h with
 |tup e r =>
  rw[r.of_ints w]at e;exists ·,s _ _ e
theorem Zuf(s:Same I H){p:Pr}(h:Rep C I α v (pD p)):Zab H v p:=by
 cases h with
 |tup e r =>
  cases r with
  |cons a b =>
   cases b with
   |cons b c =>
    cases c;cases a;let⟨t,rfl,e2⟩:=Zp4 s b;exists _,t,rfl,s _ _ e,e2
theorem Zgz:∀(os:List (Option Int)),Reps C I α (os.map oV) (os.map oD)
 |[]=>.nil
 |none::r=>.cons .non (Zgz r)
 |some z::r=>.cons (.int z) (Zgz r)
end
section
variable{C:Cf} 
def Zjd:Sp3:=λds M K=>∃k n,ds=[.cell k,.int n]/\M[k]?=some .hand/\(0<n/\n<1073741824)/\∀r,0<=r->r<n->K (.int r) M
theorem Zs8{E:XK}(h:spOf C Zjd vs H Q E):Rf vs H Q E:=by
 let⟨Z,I,α,M,ds,K,R,r,⟨k,n,rfl,hm,⟨n0,n1⟩,h⟩,kk⟩:=h;cases r with
 |cons r1 r2 =>
  cases r2 with
  |cons r2 r3 =>
   cases r3;cases r2;cases r1 with
   | @cell p _ ha =>
    let⟨c,cs,hh,ic,hc⟩:=R.hand ha hm;exists p,c,n,rfl,hh,n0,n1,λz H' z0 z1 hh' g _=>kk _ _ I α H' M (.refl _) (Jc _) (R.grow ha hm hh' ic hc g) (.int z) (h z z0 z1)
def Zsq:Sp3:=λds M K=>∃(ns:List Int)(i:Int),ds=[.frz (ns.map .int),.int i]/\(ns.length<=63/\0<=i/\i<2 ^ 60)/\K (.cell M.length) (M++[.hand])
theorem Zsj(R:Rel C Z I α H M)(r:Rep C I α v (.frz (ns.map .int))):∃a,v=.ref a/\SqL C.k H a (ns.map V.int):=by
 cases r with
 |frz e r =>
  rw[r.of_ints ns]at e;exists ·,R.sub.seq e
theorem Zs7{E:XK}(h:spOf C Zsq vs H Q E):Zl1 C.k vs H Q E:=by
 let⟨Z,I,α,M,ds,K,R,r,⟨ns,i,rfl,⟨hl,i0,i1⟩,h⟩,kk⟩:=h;cases r with
 |cons r1 r2 =>
  cases r2 with
  |cons r2 r3 =>
   cases r3;cases r2;let⟨a,rfl,hS⟩:=Zsj R r1;refine⟨a,ns,i,rfl,hS,hl,i0,i1,λp c H' np nc hh s=>?_⟩;let R1:=R.same s;let pc:p≠c:=hh.ne;let⟨d0,i0',cs,x1,x2,x3,x4,x5,x6,x7⟩:=hh.ex;let ipn:I p=none:=R.sub.free np;let icn:I c=none:=R.sub.free nc;let R2:Rel C Z (upd I c (.lst (cs.map V.int))) α H' M:=by
    exists R1.ai.trans (Zc icn),R1.aa,λb o e=>?_,R1.len,R1.nd,λk a m h1 h2=>?_
    .by_cases z:b=c
     .subst z;rw[Zg]at e;cases e;exact x2
     .rw[Zl z]at e;exact R1.sub b o e
    .let⟨a1,a2⟩:=R1.cel k a m h1 h2;let ne:a≠c:=R.cellNe h1 nc;exact⟨a1.mono (Zc icn) (Jc _) rfl,by rw[Zl ne];exact a2⟩
   let⟨R3,p3,e3⟩:=R2.cellAt (l:=p) (m:=.hand) (by rw[Zl pc];exact ipn) (R.out np) ⟨d0,i0',c,cs,x1,Zg,x3,x4,x5,x6,x7⟩;exact kk _ _ _ _ H' _ (Zc icn) p3 R3 (.cell e3) h
def Zbh{k:Nat}{p c:Addr}{cs bs:List Int}{K:K3}(R:Rel C Z I α H M)(ha:α[k]?=some p)(hm:M[k]?=some .hand)(hh:HandAt H' p c)(ic:I c=some (.lst (cs.map V.int)))(hc:cs≠[]/\cs.length<=63/\∀c∈cs,0<=c)(g:Grow p H H')(nl:H l=none)(el:H' l=some (.lst (bs.map V.int)))(kk:Fin C Z I α K Q)(h:K (.lst (bs.map .int)) M):Q (.ref l) H':=by
 let⟨I',s,R',f⟩:=(R.grow ha hm hh ic hc g).full;exact kk _ _ I' α H' M s (Jc _) R' (.lst (f _ _ el (R.out nl)) (.ints bs)) h
def Zm3:Sp3:=λds M K=>∃k m,ds=[.cell k,.int m]/\M[k]?=some .hand/\(2<=m/\m<=4)/\∀bs:List Int,bs.Nodup->2<=bs.length->(bs.length:Int)<=m->(∀b∈bs,0<=b/\b<256)->K (.lst (bs.map .int)) M
theorem Zpt{E:XK}(h:spOf C Zm3 vs H Q E):Zgo vs H Q E:=by
 let⟨Z,I,α,M,ds,K,R,r,⟨k,m,rfl,hm,⟨m0,m1⟩,h⟩,kk⟩:=h;cases r with
 |cons r1 r2 =>
  cases r2 with
  |cons r2 r3 =>
   cases r3;cases r2;cases r1 with
   | @cell p _ ha =>
    let⟨c,cs,hh,ic,hc⟩:=R.hand ha hm;exists p,c,m,rfl,hh,m0,m1,λl bs H' nl _ el nd b2 bm bb hh' g=>Zbh R ha hm hh' ic hc g nl el kk (h bs nd b2 bm bb)
def Zmy:Sp3:=λds M K=>∃k m,ds=[.cell k,.int m]/\M[k]?=some .hand/\(0<=m/\m<=100)/\∀ss:List Int,ss.Nodup->(ss.length:Int)=m->K (.lst (ss.map .int)) M
theorem Zpr{E:XK}(h:spOf C Zmy vs H Q E):Zgl vs H Q E:=by
 let⟨Z,I,α,M,ds,K,R,r,⟨k,m,rfl,hm,⟨m0,m1⟩,h⟩,kk⟩:=h;cases r with
 |cons r1 r2 =>
  cases r2 with
  |cons r2 r3 =>
   cases r3;cases r2;cases r1 with
   | @cell p _ ha =>
    let⟨c,cs,hh,ic,hc⟩:=R.hand ha hm;exists p,c,m,rfl,hh,m0,m1,λl bs H' nl _ el nd b2 hh' g=>Zbh R ha hm hh' ic hc g nl el kk (h bs nd b2)
theorem Zc2(R:Rel C Z I α H M)(r:Rep C I α v (.lst (ns.map .int))):∃a,v=.ref a/\H a=some (.lst (ns.map V.int))/\I a=some (.lst (ns.map V.int)):=by
 cases r with
 |lst e r =>
  rw[r.of_ints ns]at e;exists ·,R.sub _ _ e,e
def Nh{k:Nat}{p a:Addr}(R:Rel C Z I α H M)(ha:α[k]?=some p)(hm:M[k]?=some .hand)(e:I a=some o):a≠p:=λz=>by
 rw[z,(R.cel k p _ ha hm).2]at e;cases e
theorem Zry(R:Rel C Z I α H M)(r:Rep C I α v (.lst ds)):∃a vs,v=.ref a/\H a=some (.lst vs)/\I a=some (.lst vs)/\Reps C I α vs ds:=by
 cases r with
 |lst e r=>exact⟨_,_,rfl,R.sub _ _ e,e,r⟩
def Zmv:Sp3:=λds M K=>∃(k:Nat)(bs:List Int)(m lg:Int),ds=[.cell k,.lst (bs.map .int),.int m,.int lg]/\M[k]?=some .hand/\(bs.Nodup/\bs≠[]/\bs.length<=24/\0<=m/\m<=6/\1<=lg/\lg<=4)/\∀ws:List (List Int),WOk ws->(ws.length:Int)<=bs.length+m*bs.length->K (.lst (ws.map wD)) M
def Zfp{k:Nat}{p c:Addr}{cs:List Int}{K:K3}(R:Rel C Z I α H M)(ha:α[k]?=some p)(hm:M[k]?=some .hand)(hh:HandAt H' p c)(ic:I c=some (.lst (cs.map V.int)))(hc:cs≠[]/\cs.length<=63/\∀c∈cs,0<=c)(g:Grow p H H')(nl:H l=none)(wa:Qo H' l ws)(kk:Fin C Z I α K Q)(h:K (.lst (ws.map wD)) M):Q (.ref l) H':=by
 let R1:=R.grow ha hm hh ic hc g;let⟨I',s,R',f⟩:=R1.full;let⟨us,eu,pu⟩:=wa;exact kk _ _ I' α H' M s (Jc _) R' (.lst (f _ _ eu (R.out nl)) (P8 (λv a z=>Zua (λb xs e=>f _ _ e (R1.tupOut e)) z) pu)) h
theorem Zpo{E:XK}(h:spOf C Zmv vs H Q E):Zgi vs H Q E:=by
 let⟨Z,I,α,M,ds,K,R,r,⟨k,bs,m,lg,rfl,hm,⟨h1,h2,h3,h4,h5,h6,h7⟩,h⟩,kk⟩:=h;cases r with
 |cons r1 r2 =>
  cases r2 with
  |cons r2 r3 =>
   cases r3 with
   |cons r3 r4 =>
    cases r4 with
    |cons r4 r5 =>
     cases r5;cases r3;cases r4;cases r1 with
     | @cell p _ ha =>
      let⟨c,cs,hh,ic,hc⟩:=R.hand ha hm;let⟨sa,rfl,es,is⟩:=Zc2 R r2;exists p,c,sa,m,lg,bs,rfl,hh,es,Nh R ha hm is,h1,h2,h3,h4,h5,h6,h7,λl ws H' nl _ wa wo wl hh' g=>Zfp R ha hm hh' ic hc g nl wa kk (h ws wo wl)
def Zj4(R:Rel C Z I α H M)(r:Rep C I α v (.lst (ws.map wD))):∃a vs,v=.ref a/\I a=some (.lst vs)/\Qo H a ws:=by
 let⟨a,vs,rfl,e,i,rr⟩:=Zry R r;exists a,vs,rfl,i,vs,e,Zct (F:=Zdj H) (f:=wD) (λv a z=>Zp4 R.sub z) rr
def Zmx:Sp3:=λds M K=>∃(k:Nat)(ws:List (List Int))(ss:List Int),ds=[.cell k,.lst (ws.map wD),.lst (ss.map .int)]/\M[k]?=some .hand/\(WOk ws/\ws.length<=28/\ss.Nodup/\ws.length<=ss.length/\ss.length<=100)/\∀L:List Pr,Free L->Fits L->(L.map (·.2)).Perm ws->K (.lst (L.map pD)) M
theorem Zpq{E:XK}(h:spOf C Zmx vs H Q E):Zgk vs H Q E:=by
 let⟨Z,I,α,M,ds,K,R,r,⟨k,ws,ss,rfl,hm,⟨h1,h2,h3,h4,h5⟩,h⟩,kk⟩:=h;cases r with
 |cons r1 r2 =>
  cases r2 with
  |cons r2 r3 =>
   cases r3 with
   |cons r3 r4 =>
    cases r4;cases r1 with
    | @cell p _ ha =>
     let⟨c,cs,hh,ic,hc⟩:=R.hand ha hm;let⟨wa,_,rfl,iw,hw⟩:=Zj4 R r2;let⟨sa,rfl,es,is⟩:=Zc2 R r3;exists p,c,wa,sa,ws,ss,rfl,hh,hw,Nh R ha hm iw,h1,h2,es,Nh R ha hm is,h3,h4,h5,λl L H' nl _ ta fr fi pm hh' g=>?_;let R1:=R.grow ha hm hh' ic hc g;let⟨I',s,R',f⟩:=R1.full;let⟨us,eu,pu⟩:=ta;exact kk _ _ I' α H' M s (Jc _) R' (.lst (f _ _ eu (R.out nl)) (P8 (λv a z=>Zub (λb xs e=>f _ _ e (R1.tupOut e)) z) pu)) (h L fr fi pm)
end
section
variable{C:Cf}{tc:TE}{ub uc:TE3}{t:TA}{u:TA3}
def uRev(ua:TE3)(us:TO3):TE3:=λρ M K=>ua ρ M λd M1=>us ρ M1 λk M2=>k=some (-1)/\∃xs,Xx M2 d=some xs/\K (.lst xs.reverse) M2
def Zt3{ts:TO}{us:TO3}(ha:SimE C Z ta ua)(hs:SimO C Z ts us):SimE C Z (tRev C.k ta ts) (uRev ua us):=λI α σ H ρ M K Q R E h k =>
 ha I α σ H ρ M _ _ R E h λv d I1 α1 H1 M1 s1 p1 R1 r1 h1 =>
  hs I1 α1 σ H1 ρ M1 _ _ R1 (E.mono s1 p1) h1 λo I2 α2 H2 M2 s2 p2 R2 h2=>by
   let⟨ho,xs,e,h2⟩:=h2;let⟨a,vs,rfl,ea,ra⟩:=Xw R2 (r1.mono s2 p2) e;exists ho,a,vs,rfl,ea,λp hp=>?_;let⟨R3,s3,e3⟩:=R2.new (o:=.lst vs.reverse) hp;exact k _ _ _ α2 _ M2 (s1.trans (s2.trans s3)) (p1.trans p2) R3 (.lst e3 (ra.rev.mono s3 (Jc _))) h2
def valD[DecidableEq κ](kvs:List (κ×D))(k:κ):Option D:=(kvs.find? λkv=>decide (kv.1=k)).map (·.2)
def putD[DecidableEq κ](kvs:List (κ×D))(k:κ)(v:D):List (κ×D) :=
 if(kvs.any λkv=>decide (kv.1=k))=true then kvs.map (λkv=>if kv.1=k then(kv.1,v)else kv)else kvs++[(k,v)]
def Zfm:D->Option Key
 |.int i=>some (.inl i)
 |.str s=>some (.inr s)
 |_=>none
def R8:List D->Option (List Key)
 |[]=>some []
 |d::r=>match Zfm d,R8 r with|some k,some ks=>some (k::ks)|_,_=>none
def tkOf:D->Option (List Key)
 |.tup ds=>R8 ds
 |_=>none
section
theorem Qa{d:D}{k:Key}(r:Rep C I α v d)(h:Zfm d=some k):v=kV k:=by
 cases r with
 |int i=>cases h;rfl
 |str i=>cases h;rfl
 |_=>cases h
theorem Sa:∀{vs:List V}{ds:List D}{ks:List Key},Reps C I α vs ds->R8 ds=some ks->vs=ks.map kV
 |_,_,_,.nil,h=>by cases h;rfl
 |_,_,ks,.cons (d:=d) (ds:=ds) a b,h=>by
  unfold R8 at h;cases h1:Zfm d with
  |none=>simp only[h1]at h;cases h
  |some k =>
   cases h2:R8 ds with
   |none=>simp only[h1,h2]at h;cases h
   |some r =>
    simp only[h1,h2]at h;cases h;rw[Qa a h1,Sa b h2];rfl
theorem RepK.len:∀{vs:List (Key×V)}{ds:List (Key×D)},RepK C I α vs ds->vs.length=ds.length:=by
 intro _ _ hz9;cases hz9 with
 |nil=>
  exact rfl
 |cons _ b=>
  exact by rw[Jx,Jx,RepK.len b]
theorem RepT.len:∀{vs:List (List Key×V)}{ds:List (List Key×D)},RepT C I α vs ds->vs.length=ds.length:=by
 intro _ _ hz9;cases hz9 with
 |nil=>
  exact rfl
 |cons _ b=>
  exact by rw[Jx,Jx,RepT.len b]
def Tf[DecidableEq κ]{k k':κ}{d:D}{r:List (κ×D)}:valD ((k',d)::r) k=if k'=k then some d else valD r k:=by
 unfold valD;rw[G2]
 by_cases h:k'=k
 .simp[h]
 .simp[h]
def Zak[DecidableEq κ]{k k':κ}{d:V}{r:List (κ×V)}:valV ((k',d)::r) k=if k'=k then some d else valV r k:=by
 unfold valV;rw[G2]
 by_cases h:k'=k
 .simp[h]
 .simp[h]
theorem RepK.val{k:Key}:∀{vs:List (Key×V)}{ds:List (Key×D)},RepK C I α vs ds->(valD ds k=none/\valV vs k=none)\/∃d v,valD ds k=some d/\valV vs k=some v/\Rep C I α v d
 |_,_,.nil=>.inl ⟨rfl,rfl⟩
 |_,_,.cons (k:=k') (v:=v) (d:=d) a b=>by
  rw[Tf,Zak]
  by_cases h:k'=k
  .rw[Fs h,Fs h];exact .inr ⟨d,v,rfl,rfl,a⟩
  .rw[Fp h,Fp h];exact RepK.val b
theorem RepT.val{k:List Key}:∀{vs:List (List Key×V)}{ds:List (List Key×D)},RepT C I α vs ds->(valD ds k=none/\valV vs k=none)\/∃d v,valD ds k=some d/\valV vs k=some v/\Rep C I α v d
 |_,_,.nil=>.inl ⟨rfl,rfl⟩
 |_,_,.cons (k:=k') (v:=v) (d:=d) a b=>by
  rw[Tf,Zak]
  by_cases h:k'=k
  .rw[Fs h,Fs h];exact .inr ⟨d,v,rfl,rfl,a⟩
  .rw[Fp h,Fp h];exact RepT.val b
theorem RepK.any{k:Key}:∀{vs:List (Key×V)}{ds:List (Key×D)},RepK C I α vs ds->(vs.any λkv=>decide (kv.1=k))=(ds.any λkv=>decide (kv.1=k)):=by
 intro _ _ hz9;cases hz9 with
 |nil=>
  exact rfl
 |cons a b=>
  exact by rw[Br,Br,RepK.any b]
theorem RepT.any{k:List Key}:∀{vs:List (List Key×V)}{ds:List (List Key×D)},RepT C I α vs ds->(vs.any λkv=>decide (kv.1=k))=(ds.any λkv=>decide (kv.1=k)):=by
 intro _ _ hz9;cases hz9 with
 |nil=>
  exact rfl
 |cons a b=>
  exact by rw[Br,Br,RepT.any b]
theorem RepK.app:∀{vs ws:List (Key×V)}{ds es:List (Key×D)},RepK C I α vs ds->RepK C I α ws es->RepK C I α (vs++ws) (ds++es):=by
 intro _ _ _ _ hz9 s;cases hz9 with
 |nil=>
  exact s
 |cons r t=>
  exact .cons r (RepK.app t s)
theorem RepT.app:∀{vs ws:List (List Key×V)}{ds es:List (List Key×D)},RepT C I α vs ds->RepT C I α ws es->RepT C I α (vs++ws) (ds++es):=by
 intro _ _ _ _ hz9 s;cases hz9 with
 |nil=>
  exact s
 |cons r t=>
  exact .cons r (RepT.app t s)
theorem RepK.mapPut{k:Key}{d:D}(r:Rep C I α v d):∀{vs:List ((Key)×V)}{ds:List ((Key)×D)},RepK C I α vs ds->RepK C I α (vs.map λkv=>if kv.1=k then(kv.1,v)else kv) (ds.map λkv=>if kv.1=k then(kv.1,d)else kv)
 |_,_,.nil=>.nil
 |_,_,.cons (k:=k') a b=>by
  rw[Js,Js]
  by_cases e:k'=k
  .simp only[e,if_true];exact .cons r (RepK.mapPut r b)
  .simp only[e,if_false];exact .cons a (RepK.mapPut r b)
def RepK.put{k:Key}{d:D}{vs:List ((Key)×V)}{ds:List ((Key)×D)}(h:RepK C I α vs ds)(r:Rep C I α v d):RepK C I α (putK vs k v) (putD ds k d):=by
 unfold putK putD;rw[h.any]
 split
 .exact RepK.mapPut r h
 .exact h.app (.cons r .nil)
theorem RepT.mapPut{k:List Key}{d:D}(r:Rep C I α v d):∀{vs:List ((List Key)×V)}{ds:List ((List Key)×D)},RepT C I α vs ds->RepT C I α (vs.map λkv=>if kv.1=k then(kv.1,v)else kv) (ds.map λkv=>if kv.1=k then(kv.1,d)else kv)
 |_,_,.nil=>.nil
 |_,_,.cons (k:=k') a b=>by
  rw[Js,Js]
  by_cases e:k'=k
  .simp only[e,if_true];exact .cons r (RepT.mapPut r b)
  .simp only[e,if_false];exact .cons a (RepT.mapPut r b)
def RepT.put{k:List Key}{d:D}{vs:List ((List Key)×V)}{ds:List ((List Key)×D)}(h:RepT C I α vs ds)(r:Rep C I α v d):RepT C I α (putK vs k v) (putD ds k d):=by
 unfold putK putD;rw[h.any]
 split
 .exact RepT.mapPut r h
 .exact h.app (.cons r .nil)
def Se(M:Mem):D->Option (List (Key×D))
 |.dct kvs=>some kvs
 |.cell k=>match M[k]? with|some (.dct kvs)=>some kvs|some (.drK kvs)=>some kvs|some (.dfK _ _ kvs)=>some kvs|_=>none
 |_=>none
def Zi5(M:Mem):D->Option (List (List Key×D))
 |.dcT kvs=>some kvs
 |.cell k=>match M[k]? with|some (.dcT kvs)=>some kvs|some (.drT kvs)=>some kvs|_=>none
 |_=>none
theorem Zsn{d:D}{kvs:List (Key×D)}(R:Rel C Z I α H M)(r:Rep C I α v d)(h:Se M d=some kvs):∃a vs,v=.ref a/\Rd H a (.dK vs)/\RepK C I α vs kvs:=by
 cases r with
 |dct e r=>cases h;exists _,·,.inl (R.sub _ _ e),r
 | @cell a k e =>
  unfold Se at h;cases hm:M[k]? with
  |none=>simp only[hm]at h;cases h
  |some m =>
   cases m with
   |dct es=>simp only[hm]at h;cases h;let⟨vs,e1,r⟩:=(R.cel k a _ e hm).1;exists _,·,.inl e1,r
   |drK es=>simp only[hm]at h;cases h;let⟨vs,e1,r⟩:=(R.cel k a _ e hm).1;exists _,·,e1,r
   |dfK o vs es=>simp only[hm]at h;cases h;let⟨e1,r⟩:=(R.cel k a _ e hm).1;exists _,·,.inr ⟨o,e1⟩,r
   |_=>simp only[hm]at h;cases h
 |_=>cases h
theorem Zso{d:D}{kvs:List (List Key×D)}(R:Rel C Z I α H M)(r:Rep C I α v d)(h:Zi5 M d=some kvs):∃a vs,v=.ref a/\Rd H a (.dT vs)/\RepT C I α vs kvs:=by
 cases r with
 |dcT e r=>cases h;exists _,·,.inl (R.sub _ _ e),r
 | @cell a k e =>
  unfold Zi5 at h;cases hm:M[k]? with
  |none=>simp only[hm]at h;cases h
  |some m =>
   cases m with
   |dcT es=>simp only[hm]at h;cases h;let⟨vs,e1,r⟩:=(R.cel k a _ e hm).1;exists _,·,.inl e1,r
   |drT es=>simp only[hm]at h;cases h;let⟨vs,e1,r⟩:=(R.cel k a _ e hm).1;exists _,·,e1,r
   |_=>simp only[hm]at h;cases h
 |_=>cases h
def dGet(M:Mem)(d e:D)(o:Option D):Prop:=(∃kvs k,Se M d=some kvs/\Zfm e=some k/\o=valD kvs k)\/∃kvs k,Zi5 M d=some kvs/\tkOf e=some k/\o=valD kvs k
def Zde{w:V}{d e:D}{o:Option D}(R:Rel C Z I α H M)(r1:Rep C I α v d)(r2:Rep C I α w e)(h:dGet M d e o):∃a o',v=.ref a/\IsD H a/\DGet H a w o'/\((o=none/\o'=none)\/∃x y,o=some x/\o'=some y/\Rep C I α y x):=by
 rcases h with⟨kvs,k,e1,e2,rfl⟩|⟨kvs,k,e1,e2,rfl⟩
 .let⟨a,vs,rfl,ea,ra⟩:=Zsn R r1 e1;exists a,valV vs k,rfl,.inl ⟨vs,ea⟩,by rw[Qa r2 e2];exact .inl ⟨vs,k,ea,rfl,rfl⟩,?_;rcases ra.val (k:=k)with⟨h1,h2⟩|⟨x,y,h1,h2,h3⟩
  .exact .inl ⟨h1,h2⟩
  .exact .inr ⟨x,y,h1,h2,h3⟩
 .let⟨a,vs,rfl,ea,ra⟩:=Zso R r1 e1;cases r2 with
  | @tup b bs ds eb rb =>
   let hb:H b=some (.tup (k.map kV)):=by rw[<-Sa rb e2];exact R.sub _ _ eb
   exists a,valV vs k,rfl,.inr ⟨vs,ea⟩,.inr ⟨vs,k,b,ea,rfl,hb,rfl⟩,?_;rcases ra.val (k:=k)with⟨h1,h2⟩|⟨x,y,h1,h2,h3⟩
   .exact .inl ⟨h1,h2⟩
   .exact .inr ⟨x,y,h1,h2,h3⟩
  |_=>cases e2
end
def Ztv(ua ub:TE3):TE3:=λρ M K=>ua ρ M λd M1=>ub ρ M1 λe M2=>∃v,dGet M2 d e (some v)/\K v M2
def Uu(ha:SimE C Z ta ua)(hb:SimE C Z tb ub):SimE C Z (Zqs ta tb) (Ztv ua ub):=λI α σ H ρ M K Q R E h k =>
 ha I α σ H ρ M _ _ R E h λv d I1 α1 H1 M1 s1 p1 R1 r1 h1 =>
  hb I1 α1 σ H1 ρ M1 _ _ R1 (E.mono s1 p1) h1 λw e I2 α2 H2 M2 s2 p2 R2 r2 h2=>by
   let⟨x,g,h2⟩:=h2;let⟨a,o',rfl,_,g2,z⟩:=Zde R2 (r1.mono s2 p2) r2 g;rcases z with⟨z,_⟩|⟨x',y,z1,z2,z3⟩
   .cases z
   .cases z1;subst z2;exists a,y,rfl,g2,k _ _ I2 α2 H2 M2 (s1.trans s2) (p1.trans p2) R2 z3 h2
def uDIn(ub ua:TE3):TE3:=λρ M K=>ub ρ M λe M1=>ua ρ M1 λd M2=>∃o,dGet M2 d e o/\K (.bl o.isSome) M2
def Znb(ub ua:TE3):TE3:=λρ M K=>ub ρ M λe M1=>ua ρ M1 λd M2=>∃o,dGet M2 d e o/\K (.bl (!o.isSome)) M2
def Zra(hb:SimE C Z tb ub)(ha:SimE C Z ta ua):SimE C Z (tDIn tb ta) (uDIn ub ua):=λI α σ H ρ M K Q R E h k =>
 hb I α σ H ρ M _ _ R E h λw e I1 α1 H1 M1 s1 p1 R1 r1 h1 =>
  ha I1 α1 σ H1 ρ M1 _ _ R1 (E.mono s1 p1) h1 λv d I2 α2 H2 M2 s2 p2 R2 r2 h2=>by
   let⟨o,g,h2⟩:=h2;let⟨a,o',rfl,_,g2,z⟩:=Zde R2 r2 (r1.mono s2 p2) g;let eo:o'.isSome=o.isSome:=by
    rcases z with⟨rfl,rfl⟩|⟨x',y,rfl,rfl,_⟩<;>rfl
   exact⟨a,o',rfl,g2,by rw[eo];exact k _ _ I2 α2 H2 M2 (s1.trans s2) (p1.trans p2) R2 (.bl _) h2⟩
def Zdy(hb:SimE C Z tb ub)(ha:SimE C Z ta ua):SimE C Z (Zge tb ta) (Znb ub ua):=λI α σ H ρ M K Q R E h k =>
 hb I α σ H ρ M _ _ R E h λw e I1 α1 H1 M1 s1 p1 R1 r1 h1 =>
  ha I1 α1 σ H1 ρ M1 _ _ R1 (E.mono s1 p1) h1 λv d I2 α2 H2 M2 s2 p2 R2 r2 h2=>by
   let⟨o,g,h2⟩:=h2;let⟨a,o',rfl,_,g2,z⟩:=Zde R2 r2 (r1.mono s2 p2) g;let eo:o'.isSome=o.isSome:=by
    rcases z with⟨rfl,rfl⟩|⟨x',y,rfl,rfl,_⟩<;>rfl
   exact⟨a,o',rfl,g2,by rw[eo];exact k _ _ I2 α2 H2 M2 (s1.trans s2) (p1.trans p2) R2 (.bl _) h2⟩
def Zqd:TE3:=λ_ M K=>K (.cell M.length) (M++[.dct []])
def P4:SimE C Z Zlz Zqd:=λI α σ H ρ M K Q R E h k p hp=>by
 let⟨R2,p2,e2⟩:=R.cell (o:=.dK []) (m:=.dct []) hp λH' e=>⟨[],e,.nil⟩;exact k _ _ I _ _ _ (.refl _) p2 R2 (.cell e2) h
def Zqc:TE3:=λ_ M K=>K (.cell M.length) (M++[.dcT []])
def Znr:SimE C Z Zly Zqc:=λI α σ H ρ M K Q R E h k p hp=>by
 let⟨R2,p2,e2⟩:=R.cell (o:=.dT []) (m:=.dcT []) hp λH' e=>⟨[],e,.nil⟩;exact k _ _ I _ _ _ (.refl _) p2 R2 (.cell e2) h
def dPut(M:Mem)(d e v:D)(M':Mem):Prop:=(∃j kvs k,d=.cell j/\M[j]?=some (.dct kvs)/\Zfm e=some k/\kvs.length<sizeLine/\M'=M.set j (.dct (putD kvs k v))) \/
 ∃j kvs k,d=.cell j/\M[j]?=some (.dcT kvs)/\tkOf e=some k/\kvs.length<sizeLine/\M'=M.set j (.dcT (putD kvs k v))
def Ztu(ua ub uc:TE3):TS3:=λE ρ M=>uc ρ M λv M1=>ua ρ M1 λd M2=>ub ρ M2 λe M3=>∃M4,dPut M3 d e v M4/\E.nx ρ M4
def Zax(ha:SimE C Z ta ua)(hb:SimE C Z tb ub)(hc:SimE C Z tc uc):SimS C Z (Zrd ta tb tc) (Ztu ua ub uc):=λI α σ H ρ M E D' R RE h F =>
 hc I α σ H ρ M _ _ R RE h λv d0 I1 α1 H1 M1 s1 p1 R1 r1 h1=>ha I1 α1 σ H1 ρ M1 _ _ R1 (RE.mono s1 p1) h1 λx d I2 α2 H2 M2 s2 p2 R2 r2 h2 =>
  hb I2 α2 σ H2 ρ M2 _ _ R2 (RE.mono (s1.trans s2) (p1.trans p2)) h2 λy e I3 α3 H3 M3 s3 p3 R3 r3 h3=>by
   let⟨M4,g,h3⟩:=h3;let rv:=r1.mono (s2.trans s3) (p2.trans p3);let RE3:=RE.mono (s1.trans (s2.trans s3)) (p1.trans (p2.trans p3));rcases g with⟨j,kvs,kk,rfl,e1,e2,hl,rfl⟩|⟨j,kvs,kk,rfl,e1,e2,hl,rfl⟩
   .cases(r2.mono s3 p3)with
    | @cell a _ ec =>
     let⟨vs,ea,ra⟩:=(R3.cel j a _ ec e1).1;exists a,·,by rw[Qa r3 e2];exact DPut.k ea (by rw[ra.len];exact hl),?_;exact F.nx I3 α3 σ _ ρ _ (s1.trans (s2.trans s3)) (p1.trans (p2.trans p3)) (R3.put (m:=.dct (putD kvs kk d0)) ec λH' e=>⟨_,e,ra.put rv⟩) RE3 h3
   .cases(r2.mono s3 p3)with
    | @cell a _ ec =>
     let⟨vs,ea,ra⟩:=(R3.cel j a _ ec e1).1;cases r3 with
     | @tup b bs ds eb rb =>
      let hb:H3 b=some (.tup (kk.map kV)):=by rw[<-Sa rb e2];exact R3.sub _ _ eb
      exists a,·,DPut.t ea hb (by rw[ra.len];exact hl),?_;exact F.nx I3 α3 σ _ ρ _ (s1.trans (s2.trans s3)) (p1.trans (p2.trans p3)) (R3.put (m:=.dcT (putD kvs kk d0)) ec λH' e=>⟨_,e,ra.put rv⟩) RE3 h3
     |_=>cases e2
def Met.imp{w:Ct}{base:Heap}{C:Addr}{m:Str}{k:Nat}(c:Met P w K mg base C m k ps sp)(h:∀vs H Q E,sp' vs H Q E->sp vs H Q E):Met P w K mg base C m k ps sp' :=
 let⟨f,fd,a,b,e,d⟩:=c
 ⟨f,fd,a,b,e.imp h,d⟩
def Rel.made{k0:Nat}{x:Addr}{q:Str}(R:Rel C Z I α H M)(hk:M[k0]?=some (.tab Pt pos q))(nx:H x=none)(tb:V2 Pt pos q H')(g:∀b o,b≠x->b≠Pt->H b=some o->H' b=some o) :
  ∃I',Same I I'/\Rel C Z I' α H' M/\∀b o,H' b=some o->b∉α->I' b=some o:=by
 let⟨P',eP,⟨rfl,ps0,e0,_⟩,iP⟩:=R.get hk;let hα:∀b,b∈α->b≠x:=λb hb=>by
  let⟨k,hk,rfl⟩:=Ju hb;exact R.cellNe (Ja hk) nx
 let hI:∀b o,I b=some o->b∉α:=λb o e hb=>by
  let⟨k,hk,rfl⟩:=Ju hb;let hk':k<M.length:=by rw[<-R.len];exact hk
  rw[(R.cel k _ _ (Ja hk) (Ja hk')).2]at e;cases e
 let hS:∀b o,I b=some o->H' b=some o:=λb o e=>g b o (λz=>by rw[z,R.sub.free nx]at e;cases e) (λz=>by rw[z,iP]at e;cases e) (R.sub b o e);let s:Same I (λb=>if b∈α then none else H' b):=λb o e=>by
  show(if b∈α then none else H' b)=some o;rw[Fp (hI b o e)];exact hS b o e
 let hc:∀(k:Nat)(a:Addr)(m:MO),k≠k0->α[k]?=some a->M[k]?=some m->H' a=H a:=λk a m ne h1 h2=>by
  let⟨o,eo⟩:=(R.cel k a m h1 h2).1.some;let n2:a≠P':=λz=>by
   let⟨hj,ej⟩:=Jf.mp h1;let⟨hk,ek⟩:=Jf.mp eP;rw[<-ej,<-ek]at z;exact ne ((G7 R.nd).mp z)
  exact(g a o (hα a (Gg h1)) n2 eo).trans eo.symm
 exists _,s,⟨R.ai.trans s,R.aa,λb o e=>?_,R.len,R.nd,λk a m h1 h2=>?_⟩,λb o e hb=>?_
 .let e':(if b∈α then none else H' b)=some o:=e
  split at e'
  .cases e'
  .exact e'
 .refine⟨?_,by show(if a∈α then none else H' a)=none;rw[Fs (Gg h1)]⟩
  by_cases ne:k=k0
  .subst ne;rw[eP]at h1;cases h1;rw[hk]at h2;cases h2;let⟨ps,e1,t1,z⟩:=tb;exists rfl,ps,e1,t1,?_;rcases z with z|⟨c,z1,z2⟩
   .exact .inl z
   .refine .inr ⟨c,z1,?_⟩;show(if c∈α then none else H' c)=_;rw[Fp,z2];intro hcα;let⟨j,hj,ec⟩:=Ju hcα;let hj':j<M.length:=by rw[<-R.len];exact hj
    let h1:=Ja hj;let h2:=Ja hj';rw[ec]at h1
    by_cases nj:j=k
    .subst nj;rw[eP]at h1;cases h1;rw[e1]at z2;cases z2
    .let hh:=hc j c _ nj h1 h2;let mo:=(R.cel j c _ h1 h2).1;rw[z2]at hh;cases hm:M[j]with
     |lst ds=>rw[hm]at mo;let⟨vs,e,_⟩:=mo;rw[e]at hh;cases hh
     |dct ds=>rw[hm]at mo;let⟨vs,e,_⟩:=mo;rw[e]at hh;cases hh
     |dcT ds=>rw[hm]at mo;let⟨vs,e,_⟩:=mo;rw[e]at hh;cases hh
     |drK ds=>rw[hm]at mo;let⟨vs,e,_⟩:=mo;rcases e with e|⟨o,e⟩<;>(rw[e]at hh;cases hh)
     |drT ds=>rw[hm]at mo;let⟨vs,e,_⟩:=mo;rcases e with e|⟨o,e⟩<;>(rw[e]at hh;cases hh)
     |dfT o vs ds=>rw[hm]at mo;rw[mo.1]at hh;cases hh
     |dfK o vs ds=>rw[hm]at mo;rw[mo.1]at hh;cases hh
     |ins Cl fs=>rw[hm]at mo;let⟨dx,vs,e,_⟩:=mo;rw[e]at hh;cases hh
     |hand=>rw[hm]at mo;let⟨d,k,c,cs,e,_⟩:=mo;rw[e]at hh;cases hh
     |tab P pos q=>rw[hm]at mo;let⟨_,ps,e,_⟩:=mo;rw[e]at hh;cases hh
  .exact(R.cel k a m h1 h2).1.mono s (Jc _) (hc k a m ne h1 h2)
 .show(if b∈α then none else H' b)=some o;rw[Fp hb];exact e
def Py(C Pt:Addr)(pos:Pos)(q:Str):Sp:=λvs H Q _=>∃x a dx L,vs=[.ref x,.ref a]/\H x=some (.ins C dx [])/\Tb H a L/\Free L/\Fits L/\V2 Pt pos q H /\
 ∀(H':Hp)(S:List Pr),S.Perm L->Zdk S->(∃dx tp d1 d2 d3 d4,H' x=some (.ins C dx [("pairs",.ref tp),("words_by_sign",.ref d1),("signs_by_word",.ref d2),("begun",.ref d3),("word_sizes",.ref d4)])/\CodeIn H' tp d1 d2 d3 d4 S/\H d1=none/\H d2=none/\H d3=none)->V2 Pt pos q H' ->
  (∀b o,b≠x->b≠Pt->H b=some o->H' b=some o)->Q .non H'
def Zna(Pt:Addr)(pos:Pos)(q:Str)(u:TA3):TE3:=λρ M K=>u ρ M λds M1=>∃(k0:Nat)(d:D)(L:List Pr),M1[k0]?=some (.tab Pt pos q)/\ds=[d]/\lsOf M1 d=some (L.map pD)/\(Free L/\Fits L)/\∀S:List Pr,S.Perm L->Zdk S->K (.code S) M1
def Zkm{q:Str}(hr:SimA C Z t u):SimE C Z (Ze2 C.c (Py C.c Pt pos q) [] E0 t) (Zna Pt pos q u):=λI α σ H ρ M K Q R E h k =>
 hr I α σ H ρ M _ _ R E h λvs ds I1 α1 H1 M1 s1 p1 R1 r1 h1=>by
  let⟨k0,d,L,hk,rfl,e1,⟨fr,fi⟩,h1⟩:=h1;intro x dx nx ndx ne;cases r1 with
  |cons r1 r2 =>
   cases r2;let⟨a,vs,rfl,ea,ra⟩:=Nj R1 r1 e1;let⟨P',eP,⟨eqP,ps,ep,tp,cp⟩,iP⟩:=R1.get hk;subst eqP;let sH:Same H1 (upd (upd H1 dx (.own x)) x (.ins C.c dx [])):=(Zc ndx).trans (Zc (by rw[Zl (Cu ne)];exact nx));let ta1:Tb H1 a L:=⟨vs,ea,Zct (F:=Zab H1) (f:=pD) (λv a z=>Zuf R1.sub z) ra⟩;let tb1:V2 P' pos q H1:=⟨ps,ep,tp,by
    rcases cp with z|⟨c,z1,z2⟩
    .exact .inl z
    .exact .inr ⟨c,z1,R1.sub _ _ z2⟩⟩
   exists x,a,dx,L,rfl,Zg,ta1.same sH,fr,fi,tb1.same sH,λH' S pm ri ca tb g=>⟨rfl,?_⟩;let⟨I',s',R',f⟩:=R1.made hk nx tb λb o n1 n2 e=>g b o n1 n2 (sH b o e);let xα:x∉α1:=R1.out nx;let⟨dx',tp',d1,d2,d3,d4,ex,⟨⟨vs',a1,a2⟩,⟨k1,b1,b2⟩,⟨k2,c1,c2⟩,⟨k3,f1,f2⟩,⟨k4,g1,g2⟩⟩,n1,n2,n3⟩:=ca;let tupI:∀b xs,H' b=some (.tup xs)->I' b=some (.tup xs):=λb xs e=>f b _ e (R'.tupOut e);let no:∀b o,H' b=some o->(upd (upd H1 dx (.own x)) x (.ins C.c dx [])) b=none->I' b=some o:=λb o e n=>f b o e (R1.out (sH.free n));refine k _ _ I' α1 H' M1 (s1.trans s') p1 R' (.code ⟨dx',tp',d1,d2,d3,d4,f _ _ ex xα,⟨vs',tupI _ _ a1,Paired.mapP a2 λv p z=>?_⟩,⟨k1,no _ _ b1 n1,λp hp=>?_,b2.2⟩,⟨k2,no _ _ c1 n2,c2⟩,⟨k3,no _ _ f1 n3,f2⟩,⟨k4,tupI _ _ g1,g2⟩⟩) (h1 S pm ri)
   .let⟨t,tw,e1,e2,e3⟩:=z;exists t,tw,e1,tupI _ _ e2,tupI _ _ e3
   .let⟨t,u1,u2⟩:=b2.1 p hp;exists t,u1,tupI _ _ u2
end
def Yk :(M++[m])[M.length]?=some m:=by simp
def Xj{m':MO}:(M++[m]).set M.length m'=M++[m']:=by simp
section
variable{C:Cf} 
def Zk4{bs:List Int}{K:K3}(R:Rel C Z I α H M)(nl:H l=none)(s:Same H H')(el:H' l=some (.lst (bs.map V.int)))(kk:Fin C Z I α K Q)(h:K (.cell M.length) (M++[.lst (bs.map .int)])):Q (.ref l) H':=by
 let⟨R2,p2,e2⟩:=(R.same s).cellAt (l:=l) (m:=.lst (bs.map .int)) (R.sub.free nl) (R.out nl) ⟨_,el,.ints bs⟩;exact kk _ _ I _ H' _ (.refl _) p2 R2 (.cell e2) h
theorem Zjh(R:Rel C Z I α H M)(r:Rep C I α v (.code S)):∃x,v=.ref x/\Uy C.c H x S:=by
 cases r with
 |code h=>exact⟨_,rfl,h.same R.sub⟩
def Zh4{d:D}(R:Rel C Z I α H M)(r:Rep C I α v d)(h:lsOf M d=some (ns.map .int)):∃a,v=.ref a/\H a=some (.lst (ns.map V.int)):=by
 let⟨a,vs,rfl,ea,ra⟩:=Nj R r h;rw[ra.of_ints ns]at ea;exists a,rfl,ea
end
def Zl3(K:Cp)(Pt:Addr)(pos:Pos)(q:Str):Sp:=λvs H Q _=>∃(a:Addr)(ns:List Int),vs=[.ref a]/\SqL K H a (ns.map V.int)/\ns.length<=63/\V2 Pt pos q H/\∀H',Q (.bl true) H'
def Zsr(Pt:Addr)(pos:Pos)(q:Str):Sp3:=λds M K=>∃ns:List Int,ds=[.frz (ns.map .int)]/\M=[.tab Pt pos q]/\ns.length<=63/\∀M',K (.bl true) M'
def Zoq{C:Cf}{q:Str}{E:XK}(h:Zl3 C.k Pt pos q vs H Q E):spOf C (Zsr Pt pos q) vs H Q E:=by
 let⟨a,ns,rfl,hS,hl,⟨ps,eP,tp,cp⟩,k⟩:=h;let sI:Same (λb=>if b=Pt then none else H b) H:=λb o e=>by
  let e':(if b=Pt then none else H b)=some o:=e
  split at e'
  .cases e'
  .exact e'
 exists⟨λ_=>none,[],λ_ _ _=>False,λ_ _ _=>False⟩,λb=>if b=Pt then none else H b,[Pt],[.tab Pt pos q],[.frz (ns.map .int)],λd _=>d=.bl true,⟨(λ_ _ h=>nomatch h),List.nil_prefix,sI,rfl,by simp,λk' a' m h1 h2=>?_⟩,?_,⟨ns,rfl,rfl,hl,λ_=>rfl⟩,λv d I' α' H' M' s p R r h=>?_
 .cases k' with
  |succ n=>simp at h1
  |zero =>
   simp at h1 h2;subst h1;subst h2;exists⟨rfl,ps,eP,tp,?_⟩,Fs rfl;rcases cp with z|⟨c,z1,z2⟩
   .exact .inl z
   .exact .inr ⟨c,z1,by
     show(if c=Pt then none else H c)=_;rw[Fp (X1 z2 eP λz=>by cases z)];exact z2⟩
 .refine .one (.frz ?_ (.ints ns));rcases hS with(hS|⟨o,hS⟩)|hS
  .exact .inl (.inl (by
    show(if a=Pt then none else H a)=_;rw[Fp (X1 hS eP λz=>by cases z)];exact hS))
  .exact .inl (.inr ⟨o,by
    show(if a=Pt then none else H a)=_;rw[Fp (X1 hS eP λz=>by cases z)];exact hS⟩)
  .exact .inr hS
 .subst h;cases r;exact k H'
def Xa{f:τ->D}{as:List τ}{i:Nat}{x:D}(h:(as.map f)[i]?=some x):∃hi:i<as.length,x=f as[i]:=by
 let⟨hi,e⟩:=Jf.mp h;rw[Jb]at hi;exact⟨hi,by rw[<-e,G9]⟩
def Wh{f:τ->D}{as:List τ}{i:Int}(h:i=j)(hj:j<as.length):L2.atI (as.map f) i=some (f as[j]):=by
 subst h;exact Sg (by rw[Jv,Ja hj];rfl)
def Xd{xs:List D}:lsOf (M++[.lst xs]) (.cell M.length)=some xs:=by simp[lsOf]
def Rv{d:D}{xs:List D}(h:lsOf M d=some xs):lsOf M d≠none:=by rw[h];exact λz=>nomatch z
def eqN{K:Bool->Prop}(h:K (decide (ns=[]))):eqV (.lst (ns.map .int)) (.lst []) M K:=Ziy Zi0 (b:=[]) rfl rfl h
end L3
variable{M:L3.Mem}{Z Z':L3.Anc}{ds:List L3.D}{m:L3.MO}{ρ:L3.Ev}{ua uo:L3.TE3}{ui:L3.TI3}
namespace L3
def g_nx{i:Nat}{d:D}{K:Ev->Mem->Prop}(h:K (ρ.set i (some d)) M):uG i d ρ M K:=h
end L3
namespace L3
open PySem L2
def FinX(C:Cf)(Z:Anc):Prop:=∀Ce d vs fs I' α' H' M',Rel C Z I' α' H' M'->XD I' d vs->RepF C I' α' vs fs->Z.kx Ce fs M'->Z.xe (.ref Ce) d H'
abbrev Sp3X:=List D->Mem->K3->X3->Prop
def W9(C:Cf)(sp:Sp3X):Sp:=λvs H Q E=>∃Z I α M ds K KX,Rel C Z I α H M/\Reps C I α vs ds/\sp ds M K KX/\Fin C Z I α K Q /\
 ∀Ce d vs fs I' α' H' M',Same I I'->α<+:α'->Rel C Z I' α' H' M'->XD I' d vs->RepF C I' α' vs fs->KX Ce fs M'->E (.ref Ce) d H'
section
variable{C:Cf}{t:TA}{u:TA3}
def Rel.re{M':Mem}(R':Rel C Z' I' α' H' M')(R:Rel C Z I α H M)(s:Same I I')(p:α<+:α'):Rel C Z I' α' H' M':=⟨R.ai.trans s,R.aa.trans p,R'.sub,R'.len,R'.nd,R'.cel⟩
def Rel.here(R:Rel C Z I α H M)(E:XK)(k:X3):Rel C ⟨I,α,E,k⟩ I α H M:=⟨.refl _,Jc _,R.sub,R.len,R.nd,R.cel⟩
def Fin.re{K:K3}(k:Fin C Z I α K Q)(R:Rel C Z I α H M):Fin C Z' I α K Q:=λv d I' α' H' M' s p R' r h=>k v d I' α' H' M' s p (R'.re R s p) r h
def FinS.re{K:Ev->Mem->Prop}{Q:St->Hp->Prop}(k:FinS C Z I α K Q)(R:Rel C Z I α H M):FinS C Z' I α K Q:=λI' α' σ' H' ρ' M' s p R' E h=>k I' α' σ' H' ρ' M' s p (R'.re R s p) E h
def FinD.re{E:Ends3}{D':Ends}(k:FinD C Z I α E D')(R:Rel C Z I α H M):FinD C Z' I α E D':=⟨k.nx.re R,k.rt.re R,k.bk.re R,k.ct.re R⟩
def Zqf(sp:Sp3X)(kx:X3)(u:TA3):TE3:=λρ M K=>u ρ M λds M1=>sp ds M1 K kx
def Vr{sp:Sp3X}{E:XK}{kx:X3}(he:Z.xe=E)(hk:Z.kx=kx)(hx:FinX C Z)(ha:SimA C Z t u):SimE C Z (Ze4 (W9 C sp) [] E t) (Zqf sp kx u):=λI α σ H ρ M K Q R RE h k =>
 ha I α σ H ρ M _ _ R RE h λvs ds I1 α1 H1 M1 s1 p1 R1 r1 h1=>by
  subst he hk;rw[Gs];exists Z,I1,α1,M1,ds,K,Z.kx,R1,r1,h1,k.mono s1 p1,λCe d vs fs I' α' H' M' s p R' e f g=>hx Ce d vs fs I' α' H' M' R' e f g
def CalE.imp{w:Ct}{base:Heap}{x:Str}{k:Nat}(c:CalE P w K mg base x k ps sp)(h:∀vs H Q E,sp' vs H Q E->sp vs H Q E):CalE P w K mg base x k ps sp' :=
 let⟨f,fd,a,b⟩:=c
 ⟨f,fd,a.imp h,b⟩
def Zm9(Cx:Addr)(f:Str)(kx:X3)(u:TA3):TS3:=λ_ ρ M=>u ρ M λds M1=>∃d,ds=[d]/\kx Cx [(f,d)] M1
def P1{Cx:Addr}{f:Str}{E:XK}{kx:X3}(he:Z.xe=E)(hk:Z.kx=kx)(hx:FinX C Z)(ha:SimA C Z t u):SimS C Z (Zlw Cx (spX1 Cx f) E t) (Zm9 Cx f kx u):=λI α σ H ρ M E3 D' R RE h F =>
 ha I α σ H ρ M _ _ R RE h λvs ds I1 α1 H1 M1 s1 p1 R1 r1 h1=>by
  subst he hk;let⟨d0,rfl,h1⟩:=h1;cases r1 with
  |cons r1 r2 =>
   cases r2
   rename_i y
   exists by simp,λea hea=>⟨ea,y,rfl,Zg,λd hd hne=>⟨rfl,d,?_,?_⟩⟩
   .rw[Zl (Cu hne),Zg]
   .let hd1:H1 d=none:=by rw[Zl hne]at hd;exact hd
    let sH:Same H1 (upd (upd (upd (upd H1 ea (.ext (excN ea Cx none))) ea (.ext (excN ea Cx (some d)))) d (.ext (xdP d [(f,y)]))) ea (.ext (excP ea Cx (some d)))):=λb o e=>by
     let n1:b≠ea:=Zr e hea;let n2:b≠d:=Zr e hd1;rw[Zl n1,Zl n2,Zl n1,Zl n1];exact e
    let⟨I',s',R',fl⟩:=(R1.same sH).full;refine hx Cx (some d) [(f,y)] [(f,d0)] I' α1 _ M1 R' (fl d _ ?_ (R1.out hd1)) (.cons (r1.mono s' (Jc _)) .nil) h1;rw[Zl hne,Zg]
abbrev TH3:=Addr->List (Str×D)->TS3
def SimH(C:Cf)(Z:Anc)(th:TH)(uh:TH3):Prop:=∀I α σ H ρ M(E:Ends3)(D':Ends)Ce d ea fs vs,Rel C Z I α H M->RepE C I α σ ρ->I ea=some (.ext (excP ea Ce d))->XD I d vs->RepF C I α vs fs->uh Ce fs E ρ M->FinD C Z I α E D'->th Ce d ea D' σ H
def Zp6:TH3:=λ_ _ _ _ _=>False
def Zma:SimH C Z Zqk Zp6:=λ_ _ _ _ _ _ _ _ _ _ _ _ _ _ _ _ _ _ h _=>h.elim
def off3(i:Nat)(E:Ends3):Ends3:={nx:=λρ M=>E.nx (ρ.set i none) M,rt:=E.rt,bk:=λρ M=>E.bk (ρ.set i none) M,ct:=λρ M=>E.ct (ρ.set i none) M}
theorem RepE.unset(h:RepE C I α σ ρ)(i:Nat):RepE C I α (σ.set i none) (ρ.set i none):=by
 exists by rw[Gq,Gq];exact h.1,λj e q=>?_
 by_cases z:i=j
 .subst z
  by_cases hl:i < ρ.length
  .rw[Jz hl]at q;cases q
  .rw[Bj (by rw[Gq];lia)]at q;cases q
 .rw[Gr z]at q⊢;exact h.2 j e q
def FinS.off{K:Ev->Mem->Prop}{Q:St->Hp->Prop}(k:FinS C Z I α K Q)(i:Nat):FinS C Z I α (λρ M=>K (ρ.set i none) M) (λσ H=>Q (σ.set i none) H):=λI' α' σ' H' ρ' M' s p R E h=>k I' α' _ H' _ M' s p R (E.unset i) h
def FinD.off{E:Ends3}{D':Ends}(k:FinD C Z I α E D')(i:Nat):FinD C Z I α (off3 i E) (offD i D'):=⟨k.nx.off i,k.rt,k.bk.off i,k.ct.off i⟩
variable{ts:TS}{us:TS3}{ur:TH3}
def uhAs(K:Cp)(Dc:Addr)(i:Nat)(us:TS3)(ur:TH3):TH3:=λCe fs E ρ M=>∃b,Ej K Ce (.ref Dc)=some b/\if b=true then us (off3 i E) (ρ.set i (some (.exc Ce fs))) M else ur Ce fs E ρ M
theorem Zt8{Dc:Addr}{i:Nat}(hs:SimS C Z ts us)(hr:SimH C Z thr ur):SimH C Z (thAs K Dc i ts thr) (uhAs K Dc i us ur):=λI α σ H ρ M E D' Ce d ea fs vs R RE e1 e2 rf h F=>by
 let⟨b,eb,h⟩:=h;exists b,eb,?_;cases b with
 |true =>
  rw[Fs rfl]at h⊢;exact hs I α _ H _ M _ _ R (RE.set (.exc e1 e2 rf) i) h (F.off i)
 |false =>
  rw[Fp Jj]at h⊢;exact hr I α σ H ρ M E D' Ce d ea fs vs R RE e1 e2 rf h F
theorem Rel.extOut(R:Rel C Z I α H M){φ:Heap->Prop}(h:H l=some (.ext φ)):l∉α:=λhl=>by
 let⟨k,hk,rfl⟩:=Ju hl;let hk':k<M.length:=by rw[<-R.len];exact hk
 let:=(R.cel k _ _ (Ja hk) (Ja hk')).1;cases hm:M[k]with
 |lst ds=>rw[hm]at this;let⟨vs,e,_⟩:=this;rw[h]at e;cases e
 |dct ds=>rw[hm]at this;let⟨vs,e,_⟩:=this;rw[h]at e;cases e
 |dcT ds=>rw[hm]at this;let⟨vs,e,_⟩:=this;rw[h]at e;cases e
 |drK ds=>rw[hm]at this;let⟨vs,e,_⟩:=this;rcases e with e|⟨o,e⟩<;>(rw[h]at e;cases e)
 |drT ds=>rw[hm]at this;let⟨vs,e,_⟩:=this;rcases e with e|⟨o,e⟩<;>(rw[h]at e;cases e)
 |dfT o vs ds=>rw[hm]at this;let e:=this.1;rw[h]at e;cases e
 |dfK o vs ds=>rw[hm]at this;let e:=this.1;rw[h]at e;cases e
 |ins Cl fs=>rw[hm]at this;let⟨dx,vs,e,_⟩:=this;rw[h]at e;cases e
 |hand=>rw[hm]at this;let⟨d,k,c,cs,e,_⟩:=this;rw[h]at e;cases e
 |tab P pos q=>rw[hm]at this;let⟨_,ps,e,_⟩:=this;rw[h]at e;cases e
def Zc1(K:Cp):List D->Mem->K3->Prop:=λds M Kk=>∃(Ce:Addr)(fs:List (Str×D))(c:D)(b:Bool)(fI:Addr),ds=[.exc Ce fs,c]/\XCl K Ce fI /\
 ((∃T,c=.ty T/\Eb K (.ref Ce) (.type T)=some b)\/(∃D,c=.at D/\Eb K (.ref Ce) (.ref D)=some b)\/∃cs:List Addr,c=.tup (cs.map .at)/\W.kitAny K (.ref Ce) (cs.map Cb)=some b)/\Kk (.bl b) M
theorem Reps.of_ats :∀{vs:List V}(cs:List Addr),Reps C I α vs (cs.map D.at)->vs=cs.map V.ref
 |_,[],h=>by cases h;rfl
 |_,n::r,h=>by
  cases h with
  |cons a b =>
   cases a;rw[Reps.of_ats r b];rfl
theorem Q8 :SimC C Z (Zrh K) (Zc1 K):=λI α H M xs ds Kk Q R r h k=>by
 let⟨Ce,fs,c,b,fI,rfl,xc,hc,h⟩:=h;cases r with
 |cons r1 r2 =>
  cases r2 with
  |cons r2 r3 =>
   cases r3;cases r1 with
   | @exc ea _ d vs _ e1 e2 rf =>
    let fin:=k _ _ I α H M (.refl _) (Jc _) R (.bl b) h;rcases hc with⟨T,rfl,hc⟩|⟨D,rfl,hc⟩|⟨cs,rfl,hc⟩
    .cases r2;exists _,Ce,fI,vs,_,b,rfl,xc,⟨ea,d,rfl,R.sub _ _ e1,e2.mono R.sub⟩,.inl ⟨T,rfl,hc⟩,fin
    .cases r2;exists _,Ce,fI,vs,_,b,rfl,xc,⟨ea,d,rfl,R.sub _ _ e1,e2.mono R.sub⟩,.inr (.inl ⟨D,rfl,hc⟩),fin
    .cases r2 with
     | @tup tp us _ et rt =>
      rw[Reps.of_ats cs rt]at et;exists _,Ce,fI,vs,_,b,rfl,xc,⟨ea,d,rfl,R.sub _ _ e1,e2.mono R.sub⟩,.inr (.inr ⟨tp,cs,rfl,R.sub _ _ et,hc⟩),fin
theorem RepF.lookup{f:Str}:∀{vs:List (Str×V)}{ds:List (Str×D)}{d:D},RepF C I α vs ds->ds.lookup f=some d->∃v,vs.lookup f=some v/\Rep C I α v d
 |_,_,_,.nil,h=>by cases h
 |_,_,d,.cons (k:=k) (v:=v) (d:=d') a b,h=>by
  rw[Gy]at h⊢;cases e:(f==k)with
  |true=>rw[e]at h;cases h;exists v,rfl,a
  |false=>rw[e]at h;exact RepF.lookup b h
def Zm8(K:Cp)(f:Str)(ua:TE3):TE3:=λρ M Kk=>ua ρ M λd M1=>∃Ce fs fI v,d=.exc Ce fs/\XCl K Ce fI/\Cs K (.ref Ce) f=some none/\fs.lookup f=some v/\Kk v M1
def Zl6{f:Str}(ha:SimE C Z ta ua):SimE C Z (Znd K ta f) (Zm8 K f ua):=λI α σ H ρ M Kk Q R RE h k =>
 ha I α σ H ρ M _ _ R RE h λv d I1 α1 H1 M1 s1 p1 R1 r1 h1=>by
  let⟨Ce,fs,fI,w,rfl,xc,na,el,h1⟩:=h1;cases r1 with
  | @exc ea _ d vs _ e1 e2 rf =>
   let⟨v,ev,rv⟩:=rf.lookup el;cases d with
   |none =>
    let e2:vs=[]:=e2;subst e2;cases ev
   |some d=>exact⟨ea,Ce,fI,d,vs,v,rfl,xc,na,R1.sub _ _ e1,R1.sub _ _ e2,ev,k _ _ I1 α1 H1 M1 s1 p1 R1 rv h1⟩
def Fun.okX3{w:Ct}{base:Heap}{x:Str}{f:Addr}{k:Nat}{sp:Sp3X}(F:Fun K x qual st f fd)(S:FnScope N ps (Zn st))(len:∀ds M K KX,sp ds M K KX->ds.length=ps.length)(hbody:∀(cdv:Value)(A:L6)(outer:List Env)(s:Ca)(H:Hp)(E:XK),Room k (A.deeper (Hy qual (Zn st) s.heap.objs.size f cdv)) ->
   ∃(t:TS)(u:X3->TS3),PSs (cxE P w K mg base N qual (Zn st) f cdv A outer s H E) (Y8 st) t/\(∀(kx:X3)(Z:Anc),Z.xe=E->Z.kx=kx->FinX C Z->SimS C Z t (u kx))/\∀ds M K KX,WfM M->(∀d∈ds,Yu M.length d)->sp ds M K KX->u KX {nx:=λ_ M'=>Dk M.length K .non M',rt:=Dk M.length K} (Zao N ds) M):FnOk P w K mg base (CXE P w) (k+1) f fd ps (W9 C sp):=by
 refine F.okE S (λvs H Q E h=>?_) (λcdv A outer s H vs Q E hr h=>?_)
 .let⟨Z,I,α,M,ds,K,KX,R,r,h,_⟩:=h;rw[r.length];exact len ds M K KX h
 .let⟨t,u,h1,h2,h3⟩:=hbody cdv A outer s H E hr;let⟨Z,I,α,M,ds,K,KX,R,r,h,k,kx⟩:=h;let R1:=R.here E KX;let kd:=(k.re (Z':=⟨I,α,E,KX⟩) R).dk R1.len R1.aa;exists t,h1,h2 KX ⟨I,α,E,KX⟩ rfl rfl (λCe d vs fs I' α' H' M' R' e f g=>kx Ce d vs fs I' α' H' M' R'.ai R'.aa (R'.re R R'.ai R'.aa) e f g) I α _ H _ M _ _ R1 (Zay r N) (h3 ds M K KX R.wf (by rw[<-R.len];exact r.bel) h) ⟨λI1 α1 σ1 H1 ρ1 M1 s1 p1 R1 _ h1=>kd _ _ I1 α1 H1 M1 s1 p1 R1 .non h1,kd,λ_ _ _ _ _ _ _ _ _ _ h=>h.elim,λ_ _ _ _ _ _ _ _ _ _ h=>h.elim⟩
end
def kD:Key->D
 |.inl i=>.int i
 |.inr s=>.str s
def Zp0(kd:List (Key×D))(S:List Pr):Prop:=(∀p∈S,valD kd (.inl p.1)=some (wD p.2))/\∀s:Int,(∀p∈S,p.1≠s)->valD kd (.inl s)=none
def prK(p:Pr):Key×D:=(.inl p.1,wD p.2)
section
variable{C:Cf} 
def Zru{os:List (Option Int)}{K:K3}(R:Rel C Z I α H M)(nl:H l=none)(s:Same H H')(el:H' l=some (.lst (os.map oV)))(kk:Fin C Z I α K Q)(h:K (.cell M.length) (M++[.lst (os.map oD)])):Q (.ref l) H':=by
 let⟨R2,p2,e2⟩:=(R.same s).cellAt (l:=l) (m:=.lst (os.map oD)) (R.sub.free nl) (R.out nl) ⟨_,el,Zgz os⟩;exact kk _ _ I _ H' _ (.refl _) p2 R2 (.cell e2) h
def osOf(R:List En):List (Option Int):=R.map λe=>e.2
def Ziw{Ce d:Addr}{f:Str}{i:Int}{KX:X3}{E:XK}(R:Rel C Z I α H M)(nd:H d=none)(s:Same H H')(ed:H' d=some (.ext (xdP d [(f,.int i)])))(kx:∀Ce d vs fs I' α' H' M',Same I I'->α<+:α'->Rel C Z I' α' H' M'->XD I' d vs->RepF C I' α' vs fs->KX Ce fs M'->E (.ref Ce) d H')(h:KX Ce [(f,.int i)] M):E (.ref Ce) (some d) H':=by
 let⟨I',s',R',fl⟩:=(R.same s).full;exact kx Ce (some d) _ _ I' α H' M s' (Jc _) R' (fl _ _ ed (R.out nd)) (.cons (.int _) .nil) h
end
section
variable{K':Cp} 
def Zte(h:X.K=K'):OpR X (Eh .In) (L2.rIn K' false):=by subst h;exact Zhq
def Zka(h:X.K=K'):OpR X (Eh .NotIn) (L2.rIn K' true):=by subst h;exact Za3
end
def Zgg{u u':TS3}{En:Ends3}(S:Ev->Mem->Prop)(h1:∀Kn:Ev->Mem->Prop,(∀ρ' M',S ρ' M'->Kn ρ' M')->u {En with nx:=Kn} ρ M)(h2:∀ρ' M',S ρ' M'->u' En ρ' M'):uSeq u u' En ρ M:=h1 _ h2
theorem Zdz(fi:Fits S)(hU:∀p∈U,p∈S):∀i,i<=U.length->∃R,Went S (Yd U) R (Yd (U.take i)).length/\osOf R=(Yo (U.take i)).map some
 |0,_=>⟨[],.nil,rfl⟩
 |i+1,hi=>by
  let⟨R,w,e⟩:=Zdz fi hU i ();let hi':i<U.length:=by lia
  let hm:=hU _ (Jr hi');exists R++[((Yd (U.take i)).length,some U[i].1)],?_,?_
  .rw[Zkq hi',Jd];exact .word w hm (by rw[Zkr U hi'];exact Go _ _) (fi.2 _ hm).1
  .unfold osOf Yo at *
   rw[Jg,e,Jt hi',Jg,Jg];rfl
def Zlm{xs:List Int}(h:osOf R=xs.map some):Zb6 R:=λe he z=>by
 let:e.2∈osOf R:=List.mem_map_of_mem he;rw[h,z]at this;let⟨x,_,q⟩:=Jp.mp this;exact nomatch q
def Zfl(h:Zb6 R):Zh5 R=[]:=by
 unfold Zh5;rw[List.map_eq_nil_iff,List.filter_eq_nil_iff];intro e he z;exact h e he (Option.isNone_iff_eq_none.mp z)
def Zcs{xs:List Int}(h:osOf R=xs.map some):(osOf R).map oD=xs.map D.int:=by
 rw[h,Gm];rfl
def Zkf(fi:Fits S)(fr:Free S)(tx:Vp S U ts ts.length) :
  (∀R pl,Us S (Yd U) R pl->(Yd U).length<=pl/\(osOf R).map oD=ts.map D.int)/\∀R,Told S (Yd U) R->(osOf R).map oD=ts.map D.int/\Zh5 R=[]:=by
 let⟨R,w,e⟩:=Zdz fi tx.1 U.length (Je _);rw[Gb]at w e;rw[tx.2,Gb]at e;let c:=Zlm e;let en:Us S (Yd U) R (Yd U).length:=⟨w,c,.inl (Je _)⟩;exists λR' pl h=>?_,λR' h=>?_
 .let⟨rfl,rfl⟩:=Us.uniq fr h en;exists Je _,Zcs e
 .let:=Told.uniq fr h ⟨_,w,Je _⟩;subst this;exists Zcs e,Zfl c
theorem Zjx :∀{R:List En}{pl:Nat},Went S ns R pl->Zb6 R->∃U:List Pr,(∀p∈U,p∈S)/\Yd U=ns.take pl/\osOf R=(Yo U).map some:=by
 intro R pl w
 induction w with
 |nil=>exact λ_=>⟨[],(λ_ h=>nomatch h),rfl,rfl⟩
 |lost w hl hn ih=>exact λc=>absurd rfl (c _ (Jl _ (List.mem_singleton_self _)))
 | @word R pl p w hp pre hne ih =>
  intro c;let⟨U,h1,h2,h3⟩:=ih λe he=>c e (Gz _ he);exists U++[p],λq hq=>?_,?_,?_
  .rcases Ga.mp hq with hq|hq
   .exact h1 q hq
   .rw[Jm.mp hq];exact hp
  .let⟨t,e⟩:=pre;rw[Rl,h2,List.take_add,<-e];simp[Yd]
  .unfold osOf Yo at *
   rw[Jg,h3,Jg,Jg];rfl
theorem Zg1(h:Us S ns R pl)(hp:ns.length<=pl):∃(U:List Pr)(ts:List Int),Vp S U ts ts.length/\Yd U=ns/\(osOf R).map oD=ts.map D.int/\ts.length<=ns.length:=by
 let⟨U,h1,h2,h3⟩:=Zjx h.1 h.2.1;exists U,Yo U,⟨h1,by rw[Gb]⟩,by rw[h2,Gc hp],Zcs h3,?_;let:=h.1.len;let:=h.1.le;let e:(osOf R).length=R.length:=by unfold osOf;rw[Jb]
 let:=congrArg Ey h3;rw[e,Jb]at this;lia
section
variable{C:Cf}{t:TA}{u:TA3}
def Zkt(lo:Int)(n:Nat):It3:=⟨n,λi x=>x=.int (lo-i),λ_=>True⟩
def Zul{n:Nat}:ItR C Z I α (Itw lo n) (Zkt lo n):=λI' α' H' M' s p R _=>⟨λi hi=>⟨hi,λx H2 y=>by
 let⟨rfl,rfl⟩:=y;exact⟨I',_,.refl _,R,.int _,rfl⟩⟩,Je _⟩
def uIRD(ua:TA3):TI3:=λρ M K=>ua ρ M λds M1=>∃i j:Int,ds=[.int i,.int j,.int (-1)]/\(-(2 ^ 62)<=i/\i<2 ^ 62/\-(2 ^ 62)<=j/\j<2 ^ 62)/\K (Zkt i (i-j).toNat) M1
def Zq6(ha:SimA C Z t u):SimI C Z (Zsb t) (uIRD u):=λI α σ H ρ M K R' R RE h k =>
 ha I α σ H ρ M _ _ R RE h λvs ds I1 α1 H1 M1 s1 p1 R1 r1 h1=>by
  let⟨i,j,rfl,h2,h1⟩:=h1;cases r1 with
  |cons a b =>
   cases b with
   |cons b c =>
    cases c with
    |cons c d =>
     cases d;cases a;cases b;cases c;exists i,j,rfl,h2,k _ _ I1 α1 H1 M1 s1 p1 R1 Zul h1
end
theorem Zlj{ns:List τ}{m:Nat}(h:pl<=ns.length):cut ns (some (pl:Int)) (some ((pl:Int)+(m:Int)))=(ns.drop pl).take m:=by
 unfold cut;rw[<-Lq,HT.sIx_nat,HT.sIx_nat,B4 h];refine List.take_eq_take_iff.mpr ?_;rw[J8];lia
end L3
namespace L2
open PySem PySem.Spec PyProof.Rows
section
def Zg5:V->List V->Hp->VK->Prop:=λx vs H Q=>∃(l:Addr)(xs:List V)(m:Nat)(y:V),x=.ref l/\vs=[.int m,y]/\H l=some (.lst xs)/\m<=xs.length/\xs.length<1000/\Q .non (upd H l (.lst (xs.take m++[y]++xs.drop m)))
theorem Zj7{x y:V}(r:Vals [x,y] us):∃u v,us=[u,v]/\RelV x u/\RelV y v:=by
 cases r with
 |cons a b =>
  cases b with
  |cons c d =>
   cases d;exists _,·,a,c
theorem Zh1:MtM X "list.insert" Zg5:=by
 intro pq s σ H x vs v us Q I rx rv h;let⟨l,xs,m,y,rfl,rfl,hH,hm,hz,q⟩:=h;cases rx;let⟨u0,u,rfl,⟨t0,rfl⟩,ru⟩:=Zj7 rv;let⟨z,its,n,r,hl,e⟩:=I.lstM hH;let hlen:=r.length;obtain⟨x,ex⟩:∃x:Int,x=(m:Int):=⟨_,rfl⟩;rw[<-ex];let hfit:¬ (!Builtin.List.listFitsIndex x)=true:=by
  unfold Builtin.List.listFitsIndex;rw[Ft (by lia:-(2 ^ 63:Int)<=x),Ft (by lia:x<2 ^ 63)]
  decide
 let hsz:its.toArray.size<=sizeLine:=by rw[Jk,C2];lia
 let hk:(if x<0 then(x+((its.toArray.size:Nat):Int)).toNat else min x.toNat its.toArray.size)=m:=by
  rw[Fp (),ex,Bo,Jk];lia
 let hf:(λxs:Array Value=>have k:=if x<0 then(x+((xs.size:Nat):Int)).toNat else min x.toNat xs.size;(xs.extract 0 k).push u++xs.extract k) its.toArray=(its.take m++[u]++its.drop m).toArray:=by
  show((its.toArray.extract 0 (if x<0 then(x+((its.toArray.size:Nat):Int)).toNat else min x.toNat its.toArray.size)).push u++its.toArray.extract (if x<0 then(x+((its.toArray.size:Nat):Int)).toNat else min x.toNat its.toArray.size) its.toArray.size)=_;rw[hk]
  apply Array.ext'
  simp;exact Gc (by rw[J8];exact Je _)
 refine Kw F.slot_list_insert ⟨_,e,rfl⟩ F.entry_list_insert (F.args_list_insert_3 _ _ _) (PySem.AutoListH.list_insert_list_int_val_1 l its.toArray n x t0 u hfit hsz) ⟨e,?_⟩;exists .non,_,I.lset (its':=its.take m++[u]++its.drop m) hH e ?_ (((r.take m).append (.cons ru .nil)).append (r.drop m)) ?_,rfl,q
 .exact hf
 .rw[Jd,Jd,Ji,J8,Gn,C2];lia
end
end L2
namespace L3
open PySem L2
section
variable{C:Cf}{to:TE}{t:TA}{u:TA3}
def ins3:D->List D->Mem->K3->Prop:=λd ds M K=>∃(k:Nat)(xs:List D)(m:Nat)(y:D),d=.cell k/\ds=[.int m,y]/\M[k]?=some (.lst xs)/\m<=xs.length/\xs.length<1000/\K .non (M.set k (.lst (xs.take m++[y]++xs.drop m)))
def Zko(ho:SimE C Z to uo)(ha:SimA C Z t u):SimE C Z (tBM C.k "list" Zg5 to t) (λρ M K=>uo ρ M λd M1=>lsOf M1 d≠none/\u ρ M1 λds M2=>ins3 d ds M2 K):=λI α σ H ρ M K Q R E h k =>
 ho I α σ H ρ M _ _ R E h λv d I1 α1 H1 M1 s1 p1 R1 r1 h1=>by
  let⟨hn,h1⟩:=h1;cases hl:lsOf M1 d with
  |none=>exact absurd hl hn
  |some zs =>
   let⟨a,vs,rfl,ea,ra⟩:=Nj R1 r1 hl;exists Zb8 ea,ha I1 α1 σ H1 ρ M1 _ _ R1 (E.mono s1 p1) h1 λws ds I2 α2 H2 M2 s2 p2 R2 r2 h2=>?_;let⟨j,xs,m,y,rfl,rfl,e1,hm,hz,h2⟩:=h2;cases r2 with
   |cons rm rn =>
    cases rm;cases rn with
    |cons ry rn =>
     cases rn;cases(r1.mono s2 p2)with
     |cell ec =>
      let⟨us,eu,ru⟩:=Um R2 ec e1;exists a,us,m,·,rfl,eu,by rw[ru.length];exact hm,by rw[ru.length];exact hz,?_;exact k _ _ I2 α2 _ _ (s1.trans s2) (p1.trans p2) (R2.putL ec (((ru.take m).app (.one ry)).app (ru.drop m))) .non h2
end
def Qx(f:Str)(v:D):List (Str×D)->List (Str×D)
 |[]=>[(f,v)]
 |(g,x)::r=>if g=f then(g,v)::r else(g,x)::Qx f v r
section
variable{C:Cf} 
abbrev FldR(C:Cf)(I:Hp)(α:List Addr):Str×V->Str×D->Prop:=λp q=>p.1=q.1/\Rep C I α p.2 q.2
theorem Zbk{f:Str}{d:D}:∀{vs:List (Str×V)}{fs:List (Str×D)},Paired (FldR C I α) vs fs->fs.lookup f=some d->∃v,vs.lookup f=some v/\Rep C I α v d
 |_,_,.nil,h=>nomatch h
 |_,_,.cons (a:=(g,v)) (b:=(g',d')) a r,h=>by
  let⟨e,rv⟩:=a;let e:g=g':=e;subst e;rw[Gy]at h⊢;cases z:f==g with
  |true=>rw[z]at h;cases h;exists v,rfl,rv
  |false=>rw[z]at h;exact Zbk r h
theorem Qg{f:Str}:∀{vs:List (Str×V)}{fs:List (Str×D)},Paired (FldR C I α) vs fs->fs.lookup f=none->vs.lookup f=none
 |_,_,.nil,h=>rfl
 |_,_,.cons (a:=(g,v)) (b:=(g',d')) a r,h=>by
  let⟨e,rv⟩:=a;let e:g=g':=e;subst e;rw[Gy]at h⊢;cases z:f==g with
  |true=>rw[z]at h;cases h
  |false=>rw[z]at h;exact Qg r h
theorem Zeh{f:Str}{d:D}(rv:Rep C I α v d):∀{vs:List (Str×V)}{fs:List (Str×D)},Paired (FldR C I α) vs fs->Paired (FldR C I α) (putF f v vs) (Qx f d fs)
 |_,_,.nil=>.cons ⟨rfl,rv⟩ .nil
 |_,_,.cons (a:=(g,v')) (b:=(g',d')) a r=>by
  let⟨e,rv'⟩:=a;let e:g=g':=e;subst e;unfold putF Qx
  by_cases z:g=f
  .rw[Fs z,Fs z];exact .cons ⟨rfl,rv⟩ r
  .rw[Fp z,Fp z];exact .cons ⟨rfl,rv'⟩ (Zeh rv r)
end
section
variable{C:Cf}{ub:TE3}{t:TA}{u:TA3} 
def Ztr(K:Cp)(f:Str)(ua:TE3):TE3:=λρ M Kk=>ua ρ M λd M1=>∃(k:Nat)(Cl:Addr)(fs:List (Str×D))(v:D),d=.cell k/\M1[k]?=some (.ins Cl fs)/\Cls K Cl/\Xl K Cl f/\fs.lookup f=some v/\Kk v M1
def Zaw{f:Str}(ha:SimE C Z ta ua):SimE C Z (tFld K ta f) (Ztr K f ua):=λI α σ H ρ M Kk Q R E h k =>
 ha I α σ H ρ M _ _ R E h λv d I1 α1 H1 M1 s1 p1 R1 r1 h1=>by
  let⟨j,Cl,fs,w,rfl,e1,cl,na,el,h1⟩:=h1;cases r1 with
  | @cell a _ ec =>
   let⟨dx,vs,ea,ra⟩:=(R1.cel j a _ ec e1).1;let⟨v,ev,rv⟩:=Zbk ra el;exists a,Cl,dx,vs,v,rfl,ea,cl,na,ev,k _ _ I1 α1 H1 M1 s1 p1 R1 rv h1
def Ztj(K:Cp)(f:Str)(ua ub:TE3):TS3:=λE ρ M=>ub ρ M λdv M1=>ua ρ M1 λd M2=>∃(k:Nat)(Cl:Addr)(fs:List (Str×D)),d=.cell k/\M2[k]?=some (.ins Cl fs)/\Cls K Cl/\Xl K Cl f/\fs.length<1000/\E.nx ρ (M2.set k (.ins Cl (Qx f dv fs)))
def Zl7{f:Str}(ha:SimE C Z ta ua)(hb:SimE C Z tb ub):SimS C Z (sFld K ta tb f) (Ztj K f ua ub):=λI α σ H ρ M E3 D' R RE h F =>
 hb I α σ H ρ M _ _ R RE h λy dv I1 α1 H1 M1 s1 p1 R1 r1 h1=>ha I1 α1 σ H1 ρ M1 _ _ R1 (RE.mono s1 p1) h1 λv d I2 α2 H2 M2 s2 p2 R2 r2 h2=>by
  let⟨j,Cl,fs,rfl,e1,cl,na,hl,h2⟩:=h2;cases r2 with
  | @cell a _ ec =>
   let⟨dx,vs,ea,ra⟩:=(R2.cel j a _ ec e1).1;exists a,Cl,dx,vs,rfl,ea,cl,na,by rw[Paired.length ra];exact hl,?_;exact F.nx I2 α2 σ _ ρ _ (s1.trans s2) (p1.trans p2) (R2.put (m:=.ins Cl (Qx f dv fs)) ec λH' e=>⟨dx,_,e,Zeh (r1.mono s2 p2) ra⟩) (RE.mono (s1.trans s2) (p1.trans p2)) h2
def uMkI(Cl:Addr)(sp:Sp3)(u:TA3):TE3:=λρ M Kk=>u ρ M λds M1=>sp (.cell M1.length::ds) (M1++[.ins Cl []]) λd M2=>d=.non/\Kk (.cell M1.length) M2
def Zt5{sp:Sp3}(ha:SimA C Z t u):SimE C Z (Ze2 Cl (spOf C sp) [] E0 t) (uMkI Cl sp u):=λI α σ H ρ M Kk Q R E h k =>
 ha I α σ H ρ M _ _ R E h λvs ds I1 α1 H1 M1 s1 p1 R1 r1 h1=>by
  intro x dx nx ndx ne;let R2:=R1.same (Zc (o:=.own x) ndx);let⟨R3,p3,e3⟩:=R2.cell (p:=x) (o:=.ins Cl dx []) (m:=.ins Cl []) (by rw[Zl (Cu ne)];exact nx) λH' e=>⟨dx,[],e,.nil⟩;rw[Gs];exists Z,I1,α1++[x],_,_,_,R3,.cons (.cell e3) (r1.mono (.refl _) p3),h1,λv d I' α' H' M' s p R' r h'=>?_;let⟨rfl,h'⟩:=h';cases r;exists rfl,k _ _ I' α' H' M' (s1.trans s) ((p1.trans p3).trans p) R' (.cell ?_) h';let⟨tl,rfl⟩:=p;rw[Jo (by have:=(Jf.mp e3).1;exact this)];exact e3
def Zqa(Cl:Addr)(m:Str)(sp:Sp3)(ua:TE3)(u:TA3):TE3:=λρ M Kk=>ua ρ M λd M1=>(∃(k:Nat)(fs:List (Str×D)),d=.cell k/\M1[k]?=some (.ins Cl fs)/\fs.lookup m=none)/\u ρ M1 λds M2=>sp (d::ds) M2 Kk
def Znp{m:Str}{sp:Sp3}(ha:SimE C Z ta ua)(hr:SimA C Z t u):SimE C Z (Zgd Cl m (spOf C sp) [] E0 ta t) (Zqa Cl m sp ua u):=λI α σ H ρ M Kk Q R E h k =>
 ha I α σ H ρ M _ _ R E h λv d I1 α1 H1 M1 s1 p1 R1 r1 h1=>by
  let⟨⟨j,fs,rfl,e1,el⟩,h1⟩:=h1;cases r1 with
  | @cell a _ ec =>
   let⟨dx,vs,ea,ra⟩:=(R1.cel j a _ ec e1).1;exists a,dx,vs,rfl,ea,Qg ra el,?_;refine hr I1 α1 σ H1 ρ M1 _ _ R1 (E.mono s1 p1) h1 λvs ds I2 α2 H2 M2 s2 p2 R2 r2 h2=>?_;rw[Gs];exists Z,I2,α2,M2,_,Kk,R2,.cons ((Rep.cell ec).mono s2 p2) r2,h2,k.mono (s1.trans s2) (p1.trans p2)
end
section
variable{C:Cf} 
def Zuq:Sp3:=λds M K=>∃(S:List Pr)(s:Int),ds=[.code S,.int s]/\(∀p∈S,p.1=s->K (wD p.2) M)/\((∀p∈S,p.1≠s)->K .non M)
theorem Zs6{E:XK}(h:spOf C Zuq vs H Q E):Zgj C.c vs H Q E:=by
 let⟨Z,I,α,M,ds,K,R,r,⟨S,s,rfl,h1,h2⟩,kk⟩:=h;cases r with
 |cons r1 r2 =>
  cases r2 with
  |cons r2 r3 =>
   cases r3;cases r2;cases r1 with
   |code hc =>
    exists _,S,s,rfl,hc.same R.sub,λp hp e t et=>?_,λhn=>kk _ _ I α H M (.refl _) (Jc _) R .non (h2 hn);let⟨I2,s2,R2,f⟩:=R.full;exact kk _ _ I2 α H M s2 (Jc _) R2 (.tup (f _ _ et (R.tupOut et)) (.ints _)) (h1 p hp e)
end
theorem Yy{d:D}{xs:List D}(h:lsOf M d=some xs):tyOf M d=some .list/\Xx M d=some xs/\Qw M d=some xs:=by
 cases d with
 |lst ys=>cases h;exists rfl,rfl,rfl
 |cell k =>
  simp only[lsOf]at h;cases hm:M[k]? with
  |none=>rw[hm]at h;cases h
  |some m =>
   rw[hm]at h;cases m with
   |lst es=>cases h;exact⟨by simp only[tyOf,hm],by simp only[Xx,hm],by simp only[Qw,Xx,hm]⟩
   |_=>cases h
 |_=>cases h
def Xg(L:List Pr):List (List Key×D):=L.map λp=>(wk p.2,.int p.1)
def Sx[DecidableEq κ]{k:κ}{v:D}{kvs:List (κ×D)}(h:∀kv∈kvs,kv.1≠k):putD kvs k v=kvs++[(k,v)]:=by
 unfold putD;rw[Fp];intro z;let⟨kv,hk,e⟩:=Bt.mp z;exact h kv hk (of_decide_eq_true e)
theorem Zt2{d:D}{xs:List D}{lo:Option Int}{K:K3}(h:lsOf M d=some xs)(hk:K (.lst (cut xs lo hi)) M):sl3 d lo hi M K:=by
 cases d with
 |lst ys=>cases h;exists ·,hk
 |cell k=>exact⟨_,(Yy h).2.1,hk⟩
 |_=>cases h
theorem Sk{d:D}{xs:List D}{K:K3}(h:lsOf M d=some xs)(hk:K (.int xs.length) M):len3 [d] M K:=by
 cases d with
 |lst zs=>exact⟨_,(Yy h).2.2,hk⟩
 |cell k=>exact⟨_,(Yy h).2.2,hk⟩
 |_=>cases h
theorem Qb{d v:D}{xs:List D}{i:Int}{K:K3}(h:lsOf M d=some xs)(hv:L2.atI xs i=some v)(hk:K v M):ix3 d (.int i) M K:=by
 cases d with
 |lst zs=>exact⟨_,_,_,(Yy h).2.2,rfl,hv,hk⟩
 |cell k=>exact⟨_,_,_,(Yy h).2.2,rfl,hv,hk⟩
 |_=>cases h
def Zjz{xs:List D}{v:D}{i:Int}(e:i=j)(h:xs[j]?=some v):L2.atI xs i=some v:=by
 rw[e];exact Sg h
theorem Nm:∀ns:List Int,R8 (ns.map D.int)=some (wk ns)
 |[]=>rfl
 |x::r=>by
  show(match Zfm (D.int x),R8 (r.map D.int)with|some k,some ks=>some (k::ks)|_,_=>none)=_;rw[Nm r];rfl
def Yh{m':MO}{r:Nat}(h:M[r]?=some m):(M++[m'])[r]?=some m:=by
 rw[Jo (Jf.mp h).1];exact h
theorem Zev(fr:Free L){p:Pr}(hp:p∈L):valD (Xg L) (wk p.2)=some (.int p.1):=by
 induction L with
 |nil=>cases hp
 |cons q r ih =>
  show valD ((wk q.2,.int q.1)::Xg r) (wk p.2)=_;rw[Tf]
  by_cases e:wk q.2=wk p.2
  .rw[Fs e];let:q=p:=Zit fr Jn hp (l:=p.2) (by rw[L2.Rc e];exact Jc _) (Jc _);rw[this]
  .rw[Fp e];rcases Jq.mp hp with z|z
   .subst z;exact absurd rfl e
   .exact ih (Mc.mp fr).2 z
theorem Zjm{w:List Int}(h:∀p∈L,p.2≠w):valD (Xg L) (wk w)=none:=by
 induction L with
 |nil=>rfl
 |cons q r ih =>
  show valD ((wk q.2,.int q.1)::Xg r) (wk w)=_;rw[Tf,Fp λe=>h q Jn (L2.Rc e)];exact ih λp hp=>h p (Jh _ hp)
theorem Zjf{ns:List τ} :cut ns none (some (pl:Int))=ns.take pl:=by
 unfold cut;rw[HT.sIx_nat];show(ns.drop 0).take (min pl ns.length-0)=_;rw[Jhy,Fg,List.take_eq_take_iff];lia
def Rq{N:Mem}{t:Nat}(h:M<+:N)(ht:M.length<=t):M<+:N.set t m:=by
 let⟨X,rfl⟩:=h;rw[List.set_append_right _ _ ht];exact Go _ _
def We{N:Mem}{m':MO}{r t:Nat}(h:N[r]?=some m)(ne:r≠t):(N.set t m')[r]?=some m:=by
 rw[Gr (Cu ne)];exact h
def Wp{N:Mem}{r:Nat}(h:N[r]?=some m):r<N.length:=(Jf.mp h).1
def Y6{N:Mem}{xs:List D}{t:Nat}(h:N[t]?=some (.lst xs)):lsOf N (.cell t)=some xs:=by simp only[lsOf,h]
def Xv{N:Mem}{r:Nat}(p:M<+:N)(h:M[r]?=some m):N[r]?=some m:=by
 let⟨X,rfl⟩:=p;rw[Jo (Jf.mp h).1];exact h
def Zup:Enc Pr:=Zuo Zi0 (Zsl Zi0)
end L3
namespace L2
open PySem PySem.Spec PyProof.Rows
section
def Zrg(K:Cp):V->List V->Hp->VK->Prop:=λx xs H Q=>∃(z:Str)(p:Addr)(ys:List Str),x=.str z/\xs=[.ref p]/\SqL K H p (ys.map V.str)/\(ys.map (·.length)).sum+ys.length*z.length<=16777216/\Q (.str (Txt.join z ys)) H
def Zpk(h:X.K=K):MtR X "str.join" (Zrg K):=by subst h;exact Zol
end
end L2
namespace L3
open PySem L2
section
variable{C:Cf}{to:TE}{t:TA}{u:TA3}
def Zp9(Cl:Addr)(m:Str)(sp:Sp3X)(kx:X3)(ua:TE3)(u:TA3):TE3:=λρ M Kk=>ua ρ M λd M1=>(∃(k:Nat)(fs:List (Str×D)),d=.cell k/\M1[k]?=some (.ins Cl fs)/\fs.lookup m=none)/\u ρ M1 λds M2=>sp (d::ds) M2 Kk kx
def Zgv{m:Str}{sp:Sp3X}{E:XK}{kx:X3}(he:Z.xe=E)(hk:Z.kx=kx)(hx:FinX C Z)(ha:SimE C Z ta ua)(hr:SimA C Z t u):SimE C Z (Zgd Cl m (W9 C sp) [] E ta t) (Zp9 Cl m sp kx ua u):=λI α σ H ρ M Kk Q R RE h k =>
 ha I α σ H ρ M _ _ R RE h λv d I1 α1 H1 M1 s1 p1 R1 r1 h1=>by
  let⟨⟨j,fs,rfl,e1,el⟩,h1⟩:=h1;subst he hk;cases r1 with
  | @cell a _ ec =>
   let⟨dx,vs,ea,ra⟩:=(R1.cel j a _ ec e1).1;exists a,dx,vs,rfl,ea,Qg ra el,?_;refine hr I1 α1 σ H1 ρ M1 _ _ R1 (RE.mono s1 p1) h1 λvs ds I2 α2 H2 M2 s2 p2 R2 r2 h2=>?_;rw[Gs];exists Z,I2,α2,M2,_,Kk,Z.kx,R2,.cons ((Rep.cell ec).mono s2 p2) r2,h2,k.mono (s1.trans s2) (p1.trans p2),λCe d vs fs I' α' H' M' s p R' e f g=>hx Ce d vs fs I' α' H' M' R' e f g
theorem Reps.of_strs :∀{vs:List V}(zs:List Str),Reps C I α vs (zs.map D.str)->vs=zs.map V.str
 |_,[],h=>by cases h;rfl
 |_,z::r,h=>by
  cases h with
  |cons a b =>
   cases a;rw[Reps.of_strs r b];rfl
def Ztn(uo:TE3)(u:TA3):TE3:=λρ M K=>uo ρ M λd M1=>∃z,d=.str z/\u ρ M1 λds M2=>∃(e:D)(ys:List Str),ds=[e]/\Xx M2 e=some (ys.map D.str)/\(ys.map (·.length)).sum+ys.length*z.length<=16777216/\K (.str (Txt.join z ys)) M2
def Zq5(ho:SimE C Z to uo)(ha:SimA C Z t u):SimE C Z (tBM C.k "str" (Zrg C.k) to t) (Ztn uo u):=λI α σ H ρ M K Q R E h k =>
 ho I α σ H ρ M _ _ R E h λv d I1 α1 H1 M1 s1 p1 R1 r1 h1=>by
  let⟨z,rfl,h1⟩:=h1;cases r1;exists rfl,ha I1 α1 σ H1 ρ M1 _ _ R1 (E.mono s1 p1) h1 λws ds I2 α2 H2 M2 s2 p2 R2 r2 h2=>?_;let⟨e,ys,rfl,el,hz,h2⟩:=h2;cases r2 with
  |cons ry rn =>
   cases rn;let⟨a,vs,rfl,ea,ra⟩:=Xw R2 ry el;rw[ra.of_strs ys]at ea;exists z,a,ys,rfl,rfl,ea,hz,k _ _ I2 α2 H2 M2 (s1.trans s2) (p1.trans p2) R2 (.str _) h2
def Zlc(z:Str)(zs:List Str):L2.inV (.str z) (zs.map V.str)=decide (z∈zs):=by
 unfold L2.inV;rw[List.any_map,Fd,Bt,decide_eq_true_iff]
 constructor
 .rintro⟨x,hx,e⟩;let:x=z:=by simpa[L2.eqV]using e
  exact this ▸ hx
 .exact λh=>⟨z,h,by simp[L2.eqV]⟩
def Ziv(zs:List Str):(zs.map V.str).all L2.N2=true:=by
 rw[List.all_eq_true];intro x hx;let⟨i,_,rfl⟩:=Jp.mp hx;rfl
def inS3(neg:Bool):R3:=λd e M K=>∃(z:Str)(zs:List Str),d=.str z/\Xx M e=some (zs.map .str)/\K (.bl (if neg then !decide (z∈zs)else decide (z∈zs))) M
def Zl9{neg:Bool}:SimR C Z (L2.rIn C.k neg) (inS3 neg):=λI α H M x y d e K Q R r1 r2 h k=>by
 let⟨z,zs,rfl,el,h⟩:=h;cases r1;let⟨a,vs,rfl,ea,ra⟩:=Xw R r2 el;rw[ra.of_strs zs]at ea;exact⟨a,_,rfl,.inl ea,rfl,Ziv zs,by rw[Zlc];exact k _ _ I α H M (.refl _) (Jc _) R (.bl _) h⟩
def Zt6:SimR C Z (L2.rIn C.k false) (inS3 false):=Zl9
def Zkl:SimR C Z (L2.rIn C.k true) (inS3 true):=Zl9
end
abbrev Fq:=Str×List Pr×List Int
variable{zs:List L3.Fq}
def famD(f:Nat):List (Str×D):=[("codes_by_name",.cell (f+1)),("marks_by_name",.cell (f+2))]
def Ux(zs:List Fq):List (Key×D):=zs.map λz=>(.inr z.1,.code z.2.1)
def Za4(zs:List Fq):List (Key×D):=zs.map λz=>(.inr z.1,wD z.2.2)
structure FamAt(XF:Addr)(M:Mem)(f:Nat)(zs:List Fq):Prop where
 h0:M[f]?=some (.ins XF (famD f))
 h1:M[f+1]?=some (.dct (Ux zs))
 h2:M[f+2]?=some (.dct (Za4 zs))
 nd:(zs.map (·.1)).Nodup
def Zek(M:Mem)(f:Nat)(zs:List Fq):Mem:=(M.set (f+1) (.dct (Ux zs))).set (f+2) (.dct (Za4 zs))
def FamAt.pre{XF:Addr}{N:Mem}{f:Nat}(h:FamAt XF M f zs)(p:M<+:N):FamAt XF N f zs:=⟨Xv p h.h0,Xv p h.h1,Xv p h.h2,h.nd⟩
theorem FamAt.put{XF:Addr}{f:Nat}{ys:List Fq}(h:FamAt XF M f zs)(nd:(ys.map (·.1)).Nodup):FamAt XF (Zek M f ys) f ys:=by
 let l1:=Wp h.h1;let l2:=Wp h.h2;unfold Zek;exists We (We h.h0 ()) (),We (Jz l1) (),Jz (by rw[Gq];exact l2),nd
def Zlv{g:Fq->D}{n:Str}(h:n∉zs.map (·.1)):valD (zs.map λz=>((.inr z.1:Key),g z)) (.inr n)=none:=by
 unfold valD;rw[Option.map_eq_none_iff,List.find?_eq_none];intro kv hkv e;let⟨z,hz,rfl⟩:=Jp.mp hkv;let:=of_decide_eq_true e;exact h (Jp.mpr ⟨z,hz,Lh this⟩)
theorem Zf2{g:Fq->D}:∀{zs:List Fq},(zs.map (·.1)).Nodup->∀{z:Fq},z∈zs->valD (zs.map λz=>((.inr z.1:Key),g z)) (.inr z.1)=some (g z)
 |[],_,_,h=>nomatch h
 |y::ys,nd,z,h=>by
  unfold valD;rw[Js,G2];rw[Js,Gx]at nd
  by_cases e:y.1=z.1
  .rcases Jq.mp h with w|w
   .subst w;simp
   .exact absurd (Jp.mpr ⟨z,w,e.symm⟩) nd.1
  .let hz:z∈ys:=by
    rcases Jq.mp h with w|w
    .exact absurd (by rw[w]) e
    .exact w
   rw[show decide ((Mg y.1:Key)=Mg z.1)=false from Fu λw=>e (Lh w)];exact Zf2 nd.2 hz
def Zm0(XF:Addr):Sp3:=λds M K=>∃f:Nat,ds=[.cell f]/\M[f]?=some (.ins XF [])/\M.length=f+1/\K .non (M.set f (.ins XF (famD f))++[.dct [],.dct []])
def Zm2(XF XN:Addr):Sp3X:=λds M K KX=>∃(f:Nat)(n:Str)(zs:List Fq),ds=[.cell f,.str n]/\FamAt XF M f zs/\(∀z∈zs,z.1=n->K (.code z.2.1) M)/\(n∉zs.map (·.1)->KX XN [("name",.str n)] M)
def nmS(cs:List Nat):Str:=⟨(cs.map λc=>97+c).toArray⟩
def Wc(cs:List Nat):(nmS cs).length=cs.length:=by
 show(cs.map λc=>97+c).toArray.size=_;rw[Jk,Jb]
def Zhy{a b:List Nat}(h:nmS a=nmS b):a=b:=by
 unfold nmS at h;injection h with h
 let h:=congrArg Je3 h;simp only at h;exact(List.map_inj_right (λx y e=>Nat.add_left_cancel e)).mp h
theorem Zfg(h:∀c∈cs,c<26):K4 (nmS cs)=true:=by
 unfold K4 nmS;rw[Array.all_eq_true'];intro x hx;let:x∈cs.map λc=>97+c:=by simpa using hx
 let⟨c,hc,rfl⟩:=Jp.mp this;let:=h c hc;exact Ft ()
def Zrt{c:Nat}(h:c<26):L2.atI (Cj "abcdefghijklmnopqrstuvwxyz").cps.toList (c:Int)=some (97+c):=by
 let:∀c:_root_.Fin 26,L2.atI (Cj "abcdefghijklmnopqrstuvwxyz").cps.toList ((c.val:Nat):Int)=some (97+c.val):=by decide
 exact this ⟨c,h⟩
def Zof(cs:List Nat):Txt.join (Cj "") (cs.map λc=>(⟨#[97+c]⟩:Str))=nmS cs:=by
 show Jit (Cj "") _=_;rw[StrLaws.glued_eq_join];let:=Jhs (cs.map λc=>97+c);rw[Gm]at this;exact this
theorem Zh3(z:Int){n:Nat}(h:0<n):∃j:Nat,z % (n:Int)=(j:Int)/\j<n:=by
 let⟨j,ej⟩:=Gh (G3 z (by lia:(n:Int)≠0));let:=Gu z (by lia:(0:Int)<(n:Int));exact⟨j,ej,()⟩
theorem Yp{N:Mem}{d:D}{xs:List D}(p:M<+:N)(h:lsOf M d=some xs):lsOf N d=some xs:=by
 cases d with
 |lst ys=>exact h
 |cell c =>
  simp only[lsOf]at h⊢;cases hm:M[c]? with
  |none=>rw[hm]at h;cases h
  |some m=>rw[Xv p hm];rw[hm]at h;exact h
 |_=>cases h
theorem Zls{xs:List τ}(h:j<xs.length):L2.atI xs (-1-(j:Int))=xs.reverse[j]?:=by
 unfold L2.atI ixN;rw[Fp (),Fs (),K5 h];show xs[(-1-(j:Int)+(xs.length:Int)).toNat]?=_
 congr 1
 lia
def Zrv{z:Fq}(nd:(zs.map (·.1)).Nodup)(h:z.1∉zs.map (·.1)):((zs++[z]).map (·.1)).Nodup:=by
 rw[Jg,By];exists nd,Gx.mpr ⟨Gp,Ff⟩,λa ha b hb e=>?_;let e:a=z.1:=e.trans (Jm.mp hb);exact h (e ▸ ha)
theorem Sm{X:Mem}{k:Nat}:(M++X)[M.length+k]?=X[k]?:=by
 rw[Jw ()]
 congr 1
 lia
theorem Zou{n:Nat}(h:j<n):ixN n (j:Int)=some j:=by
 unfold ixN;rw[Fs (),Fs (),Bo]
section
variable{C:Cf} 
theorem RepK.get :∀{vs:List (Key×V)}{ds:List (Key×D)},RepK C I α vs ds->vs.length=ds.length/\∀(i:Nat)(kv:Key×V)(kd:Key×D),vs[i]?=some kv->ds[i]?=some kd->kv.1=kd.1/\Rep C I α kv.2 kd.2:=by
 intro _ _ hz9;cases hz9 with
 |nil=>
  exists rfl,λi kv kd e=>nomatch e
 |cons h r=>
  exact by
    let⟨a,b⟩:=RepK.get r;exists by rw[Jx,Jx,a],λi kv kd e1 e2=>?_;cases i with
    |zero=>cases e1;cases e2;exists rfl,h
    |succ i=>exact b i kv kd (by simpa using e1) (by simpa using e2)
def Znk{t:TS}{u:TS3}(hs:SimS C Z t u):SimS C Z (Zrb t) (λE ρ M=>∃k kvs0,M[k]?=some (.dct kvs0)/\u {E with nx:=λρ' M1=>∃o vs kvs,M1[k]?=some (.dfK o vs kvs)/\E.nx ρ' (M1.set k (.dct kvs))} ρ M):=λI α σ H ρ M E D' R RE h F=>by
 let⟨k,kvs0,e0,h⟩:=h;let⟨a,ea,ma,_⟩:=R.get e0;let⟨vs0,h0,_⟩:=ma;exists a,vs0,h0,hs I α σ H ρ M _ _ R RE h ⟨λI1 α1 σ1 H1 ρ1 M1 s1 p1 R1 RE1 h1=>?_,F.rt,F.bk,F.ct⟩;let⟨o,vs,kvs,e1,h1⟩:=h1;let ea1:=Zcn p1 ea;let⟨f1,f2⟩:=(R1.cel k a _ ea1 e1).1;exists o,vs,f1,F.nx I1 α1 σ1 _ ρ1 _ s1 p1 (R1.put (m:=.dct kvs) ea1 λH' e'=>⟨vs,e',f2⟩) RE1 h1
end
def tbD(L:List Pr):D:=.lst (L.map pD)
def TbOk(L:List Pr):Prop:=Free L/\Fits L
section
variable{C:Cf}{ta:TA}{ua:TA3}{to:TE}{ts:TS}{us:TS3}{ur:TH3}
def zIt(d e:D)(xs ys:List D):It3:=⟨min xs.length ys.length,λi v=>∃x y,xs[i]?=some x/\ys[i]?=some y/\v=.tup [x,y],λM=>Xx M d=some xs/\Xx M e=some ys⟩
def uIZ(ua:TA3):TI3:=λρ M K=>ua ρ M λds M1=>∃d e xs ys,ds=[d,e]/\Xx M1 d=some xs/\Xx M1 e=some ys/\K (zIt d e xs ys) M1
theorem s_iz(ha:SimA C Z ta ua):SimI C Z (iZip C.k ta) (uIZ ua):=λI α σ H ρ M K R' R RE h k =>
 ha I α σ H ρ M _ _ R RE h λvs ds I1 α1 H1 M1 s1 p1 R1 r1 h1=>by
  let⟨d,e,xs,ys,rfl,ed,ee,h1⟩:=h1;cases r1 with
  |cons r1 b =>
   cases b with
   |cons r2 b =>
    cases b;let⟨a,vs,rfl,ea,ra⟩:=Xw R1 r1 ed;let⟨a2,ws,rfl,ea2,ra2⟩:=Xw R1 r2 ee;exists a,a2,rfl,⟨vs,ea⟩,⟨ws,ea2⟩,k _ _ I1 α1 H1 M1 s1 p1 R1 (λI2 α2 H2 M2 s2 p2 R2 ok=>?_) h1;let⟨b,vs',eb,eq,rw'⟩:=Xw R2 (r1.mono s2 p2) ok.1;let⟨b2,ws',eb2,eq2,rw2⟩:=Xw R2 (r2.mono s2 p2) ok.2;cases eb;cases eb2;let l1:=rw'.length;let l2:=rw2.length;exists λi hi=>?_,⟨vs',ws',eq,eq2,by show _<=min _ _\/_<=min _ _;lia⟩;let hi:i<min xs.length ys.length:=hi;let hx:i<xs.length:=by lia
    let hy:i<ys.length:=by lia
    let hi1:i<vs'.length:=by lia
    let hi2:i<ws'.length:=by lia
    exists⟨vs',ws',_,_,eq,eq2,Ja hi1,Ja hi2⟩,λv H3 y=>?_;let⟨t,x,y,rfl,ht,rfl,q1,q2⟩:=y;let z1:=q1 _ eq;let z2:=q2 _ eq2;rw[Ja hi1]at z1;rw[Ja hi2]at z2;cases z1;cases z2;let⟨R3,s3,e3⟩:=R2.new (o:=.tup [vs'[i],ws'[i]]) ht;exists _,.tup [xs[i],ys[i]],s3,R3,.tup e3 (.cons ((rw'.at hi1 hx).mono s3 (Jc _)) (.one ((rw2.at hi2 hy).mono s3 (Jc _)))),_,_,Ja hx,Ja hy,rfl
def Ztf(K:Cp)(D1 D2:Addr)(us:TS3)(ur:TH3):TH3:=λCe fs E ρ M=>∃b1 b2,Ej K Ce (.ref D1)=some b1/\Ej K Ce (.ref D2)=some b2/\if(b1 ||b2)=true then us E ρ M else ur Ce fs E ρ M
theorem Zq8{D1 D2:Addr}(hs:SimS C Z ts us)(hr:SimH C Z thr ur):SimH C Z (Zqj K D1 D2 ts thr) (Ztf K D1 D2 us ur):=λI α σ H ρ M E D' Ce d ea fs vs R RE e1 e2 rf h F=>by
 let⟨b1,b2,m1,m2,h⟩:=h;exists b1,b2,m1,m2,λp hp=>?_;let⟨R2,s2,_⟩:=R.new (o:=.tup [.ref D1,.ref D2]) hp;generalize (b1 ||b2)=b at h;cases b with
 |true =>
  rw[Fs rfl]at h⊢;exact hs _ α _ _ _ M _ _ R2 (RE.mono s2 (Jc _)) h (F.mono s2 (Jc _))
 |false =>
  rw[Fp Jj]at h⊢;exact hr _ α σ _ ρ M E D' Ce d ea fs vs R2 (RE.mono s2 (Jc _)) (s2 _ _ e1) (e2.mono s2) (rf.mono s2 (Jc _)) h (F.mono s2 (Jc _))
def Zth(u1 u2:X3->TS3)(uh:TH3):TS3:=λE ρ M=>u1 (λCe fs M'=>uh Ce fs E ρ M') {E with nx:=λρ' M'=>u2 (λCe fs M2=>uh Ce fs E ρ' M2) E ρ' M'} ρ M
def Zq0{u1 u2:X3->TS3}{uh:TH3}(h1:∀(E:XK)(kx:X3)(Z:Anc),Z.xe=E->Z.kx=kx->FinX C Z->SimS C Z (t1 E) (u1 kx))(h2:∀(E:XK)(kx:X3)(Z:Anc),Z.xe=E->Z.kx=kx->FinX C Z->SimS C Z (t2 E) (u2 kx))(hh:SimH C Z th uh) :
  SimS C Z (Zgb (λEx D σ H=>t1 (Ex σ) {D with nx:=λσ' H'=>t2 (Ex σ') D σ' H'} σ H) th) (Zth u1 u2 uh):=λI α σ H ρ M E D' R RE h F=>by
 let fx:∀(I:Hp)(α:List Addr)(σ:St)(H:Hp)(ρ:Ev)(M:Mem),Rel C Z I α H M->RepE C I α σ ρ->FinD C Z I α E D'->FinX C ⟨I,α,λcls d H'=>∃C',cls=.ref C'/\∀ea,H' ea=some (.ext (excP ea C' d))->th C' d ea D' σ H',λCe fs M'=>uh Ce fs E ρ M'⟩:=λI α σ H ρ M R RE F=>by
  intro Ce d vs fs I' α' H' M' R' e f g;exists Ce,rfl,λea hea=>?_;let R2:=R'.re R R'.ai R'.aa;let⟨I2,s2,R3,fl⟩:=R2.full;exact hh I2 α' σ H' ρ M' E D' Ce d ea fs vs R3 (RE.mono (Same.trans R'.ai s2) R'.aa) (fl _ _ hea (R2.extOut hea)) (e.mono s2) (f.mono s2 (Jc _)) g (F.mono (Same.trans R'.ai s2) R'.aa)
 refine h1 _ _ ⟨I,α,_,_⟩ rfl rfl (fx I α σ H ρ M R RE F) I α σ H ρ M _ _ (R.here _ _) RE h ⟨?_,(F.re R).rt,(F.re R).bk,(F.re R).ct⟩;intro I1 α1 σ1 H1 ρ1 M1 s1 p1 R1 RE1 q1;let R1':=R1.re R s1 p1;let F1:=F.mono s1 p1;exact h2 _ _ ⟨I1,α1,_,_⟩ rfl rfl (fx I1 α1 σ1 H1 ρ1 M1 R1' RE1 F1) I1 α1 σ1 H1 ρ1 M1 E D' (R1'.here _ _) RE1 q1 (F1.re R1')
def Zts(uo:TE3)(u:TA3):TE3:=λρ M K=>uo ρ M λd M1=>∃z,d=.str z/\u ρ M1 λds M2=>∃y:Str,ds=[.str y]/\K (.int (Txt.find z y)) M2
def Zq9(ho:SimE C Z to uo)(ha:SimA C Z ta ua):SimE C Z (tBM C.k "str" Zri to ta) (Zts uo ua):=λI α σ H ρ M K Q R E h k =>
 ho I α σ H ρ M _ _ R E h λv d I1 α1 H1 M1 s1 p1 R1 r1 h1=>by
  let⟨z,rfl,h1⟩:=h1;cases r1;exists rfl,ha I1 α1 σ H1 ρ M1 _ _ R1 (E.mono s1 p1) h1 λws ds I2 α2 H2 M2 s2 p2 R2 r2 h2=>?_;let⟨y,rfl,h2⟩:=h2;cases r2 with
  |cons ry rn =>
   cases rn;cases ry;exists z,y,rfl,rfl,k _ _ I2 α2 H2 M2 (s1.trans s2) (p1.trans p2) R2 (.int _) h2
theorem Zd1 :∀{vs:List (Key×V)}{kvs:List (Key×D)},RepK C I α vs kvs->vs.map (·.1)=kvs.map (·.1):=by
 intro _ _ hz9;cases hz9 with
 |nil=>
  exact rfl
 |cons _ r=>
  exact by rw[Js,Js,Zd1 r]
def Zqw:List D->Mem->K3->Prop:=λds M K=>∃(c:Nat)(kvs:List (Key×D))(ns:List Int),ds=[.cell c]/\M[c]?=some (.dct kvs)/\kvs.map (·.1)=ns.map C0/\kvs.length<64/\∀ns':List Int,ns'.Perm ns->ns'.Pairwise (·<=·)->K (.lst (ns'.map .int)) M
theorem Znl:SimC C Z Zmd Zqw:=λI α H M xs ds K Q R r h k=>by
 let⟨c,kvs,ns,rfl,ec,ek,hl,h⟩:=h;cases r with
 |cons r1 r2 =>
  cases r2;cases r1 with
  | @cell a _ ea =>
   let⟨vs,e1,rv⟩:=(R.cel c a _ ea ec).1;let lv:=(RepK.get rv).1;exists a,vs,ns,rfl,e1,by rw[Zd1 rv];exact ek,(),λD ns' hD pm pw=>?_;let⟨R4,s4,e4⟩:=R.new (o:=.lst (ns'.map V.int)) hD;exact k _ _ _ α _ M s4 (Jc _) R4 (.lst e4 (.ints _)) (h ns' pm pw)
end
end L3
variable{zs:List L3.Fq}
namespace L2
open PySem
def Zdv(C Cn:Addr):Sp:=λvs H Q E=>∃(x xa:Addr)(S:List Pr)(ts:List Int),vs=[.ref x,.ref xa]/\Uy C H x S/\Fits S/\H xa=some (.lst (ts.map V.int))/\ts.length<=20000 /\
 (∀(T:List Pr)(l:Addr)(H':Hp),Vp S T ts ts.length->H l=none->Same H H'->H' l=some (.lst ((Yd T).map V.int))->Q (.ref l) H') /\
 (∀(i:Nat)(T:List Pr)(d:Addr)(H':Hp),i<ts.length->Vp S T ts i->Rz S ts i=true->H d=none->Same H H'->H' d=some (.ext (xdP d [("at",.int i)]))->E (.ref Cn) (some d) H')
def Zgn(C Cr:Addr):Sp:=λvs H Q E=>∃(x r:Addr)(S:List Pr)(ns:List Int),vs=[.ref x,.ref r]/\Uy C H x S/\Fits S/\H r=some (.lst (ns.map V.int))/\ns.length<=80000 /\
 (∀(R:List En)(pl:Nat)(l:Addr)(H':Hp),Us S ns R pl->ns.length<=pl->H l=none->Same H H'->H' l=some (.lst (outs R))->Q (.ref l) H') /\
 (∀(R:List En)(pl:Nat)(d:Addr)(H':Hp),Us S ns R pl->pl<ns.length->H d=none->Same H H'->H' d=some (.ext (xdP d [("at",.int pl)]))->E (.ref Cr) (some d) H')
end L2
namespace L3
open PySem L2
section
variable{C:Cf}
def Zi9(Cn:Addr):Sp3X:=λds M K KX=>∃(S:List Pr)(d:D)(ts:List Int),ds=[.code S,d]/\lsOf M d=some (ts.map .int)/\(Fits S/\ts.length<=20000) /\
 (∀U:List Pr,Vp S U ts ts.length->K (.cell M.length) (M++[.lst ((Yd U).map .int)]))/\∀(i:Nat)(U:List Pr),i<ts.length->Vp S U ts i->Rz S ts i=true->KX Cn [("at",.int i)] M
theorem Zlt{Cn:Addr}{E:XK}(h:W9 C (Zi9 Cn) vs H Q E):Zdv C.c Cn vs H Q E:=by
 let⟨Z,I,α,M,ds,K,KX,R,r,⟨S,d,ts,rfl,e1,⟨h1,h3⟩,ha,hb⟩,kk,kx⟩:=h;cases r with
 |cons r1 r2 =>
  cases r2 with
  |cons r2 r3 =>
   cases r3;let⟨x,rfl,ca⟩:=Zjh R r1;let⟨xa,rfl,ex⟩:=Zh4 R r2 e1;exists x,xa,S,ts,rfl,ca,h1,ex,h3,λT l H' tx nl s el=>Zk4 R nl s el kk (ha T tx),λi T d H' hi tx hl nd s ed=>Ziw R nd s ed kx (hb i T hi tx hl)
def Zmz(Cr:Addr):Sp3X:=λds M K KX=>∃(S:List Pr)(d:D)(ns:List Int),ds=[.code S,d]/\lsOf M d=some (ns.map .int)/\(Fits S/\ns.length<=80000) /\
 (∀(R:List En)(pl:Nat),Us S ns R pl->ns.length<=pl->K (.cell M.length) (M++[.lst ((osOf R).map oD)]))/\∀(R:List En)(pl:Nat),Us S ns R pl->pl<ns.length->KX Cr [("at",.int pl)] M
theorem Zps{Cr:Addr}{E:XK}(h:W9 C (Zmz Cr) vs H Q E):Zgn C.c Cr vs H Q E:=by
 let⟨Z,I,α,M,ds,K,KX,R,r,⟨S,d,ts,rfl,e1,⟨h1,h3⟩,ha,hb⟩,kk,kx⟩:=h;cases r with
 |cons r1 r2 =>
  cases r2 with
  |cons r2 r3 =>
   cases r3;let⟨x,rfl,ca⟩:=Zjh R r1;let⟨xa,rfl,ex⟩:=Zh4 R r2 e1;exists x,xa,S,ts,rfl,ca,h1,ex,h3,λRr pl l H' en hl nl s el=>Zru R nl s (by rw[el];unfold osOf outs;rw[Gm];rfl) kk (ha Rr pl en hl),λRr pl d H' en hl nd s ed=>Ziw R nd s ed kx (hb Rr pl en hl)
end
def GoOk(S1 S2:List Pr)(ts ns us:List Int):Prop:=∃U V:List Pr,(∀p∈U,p∈S1)/\Yo U=ts/\(∀p∈V,p∈S2)/\Yo V=us/\Yd U=ns/\Yd V=ns
def GoOk.perm{L1 L2:List Pr}{us:List Int}(h:GoOk S1 S2 ts ns us)(p1:S1.Perm L1)(p2:S2.Perm L2):GoOk L1 L2 ts ns us:=by
 let⟨U,V,a,b,c,d,e,f⟩:=h;exists U,V,λp hp=>p1.mem_iff.mp (a p hp),b,λp hp=>p2.mem_iff.mp (c p hp),d,e,f
theorem P0(fr:Free S):∀{U V:List Pr},(∀p∈U,p∈S)->(∀p∈V,p∈S)->Yo U=Yo V->U=V
 |[],[],_,_,_=>rfl
 |[],_::_,_,_,h=>nomatch h
 |_::_,[],_,_,h=>nomatch h
 |p::U,q::V,hU,hV,h=>by
  unfold Yo at h;rw[Js,Js]at h;injection h with h1 h2
  let e:p=q:=by
   let hp:=hU p Jn;let hq:=hV q Jn;let⟨i,hi,rfl⟩:=Ju hp;let⟨j,hj,rfl⟩:=Ju hq;rcases Bz i j with l|l|l
   .exact absurd h1 (fr.get hi hj l).1
   .subst l;rfl
   .exact absurd h1.symm (fr.get hj hi l).1
  rw[e,P0 fr (λp hp=>hU p (Jh _ hp)) (λp hp=>hV p (Jh _ hp)) h2]
theorem Zgy(fr:Free S)(fi:Fits S):∀{U V:List Pr},(∀p∈U,p∈S)->(∀p∈V,p∈S)->Yd U=Yd V->U=V
 |[],[],_,_,_=>rfl
 |[],q::V,_,hV,h=>by
  let:=(fi.2 q (hV q Jn)).1;unfold Yd at h;rw[Js,G5,Ma,Jfm]at h;exact absurd (List.append_eq_nil_iff.mp h.symm).1 this
 |q::V,[],hV,_,h=>by
  let:=(fi.2 q (hV q Jn)).1;unfold Yd at h;rw[Js,G5,Ma,Jfm]at h;exact absurd (List.append_eq_nil_iff.mp h).1 this
 |p::U,q::V,hU,hV,h=>by
  unfold Yd at h;rw[Js,Js,G5,G5]at h;let hp:=hU p Jn;let hq:=hV q Jn;let e:p=q:=by
   let pre:p.2<+:q.2\/q.2<+:p.2:=by
    let h1:p.2<+:q.2++(V.map λq:Pr=>q.2).flatten:=⟨_,h⟩;exact Ky h1 (Go _ _)
   let⟨i,hi,rfl⟩:=Ju hp;let⟨j,hj,rfl⟩:=Ju hq;rcases Bz i j with l|l|l
   .exact absurd pre (not_or.mpr (fr.get hi hj l).2)
   .subst l;rfl
   .exact absurd pre (not_or.mpr ⟨(fr.get hj hi l).2.2,(fr.get hj hi l).2.1⟩)
  subst e;rw[Zgy fr fi (λp hp=>hU p (Jh _ hp)) (λp hp=>hV p (Jh _ hp)) (List.append_cancel_left h)]
def GoOk.uniq{us ns' us':List Int}(f1:Free S1)(f2:Free S2)(i2:Fits S2)(h:GoOk S1 S2 ts ns us)(h':GoOk S1 S2 ts ns' us'):ns=ns'/\us=us':=by
 let⟨U,V,a,b,c,d,e,f⟩:=h;let⟨U',V',a',b',c',d',e',f'⟩:=h';obtain rfl:=P0 f1 a a' (b.trans b'.symm);let:ns=ns':=e.symm.trans e';subst this;obtain rfl:=Zgy f2 i2 c c' (f.trans f'.symm);exists rfl,d.symm.trans d'
theorem P7(fi:Fits S):∀{U:List Pr},(∀p∈U,p∈S)->U.length<=(Yd U).length
 |[],_=>Gf _
 |p::U,h=>by
  let:=P7 fi (U:=U) λq hq=>h q (Jh _ hq);let:=Gk.mpr (fi.2 p (h p Jn)).1;show U.length+1<=(p.2++Yd U).length;rw[Jd];lia
theorem GoOk.len{us:List Int}(i1:Fits S1)(i2:Fits S2)(h:GoOk S1 S2 ts ns us):ns.length<=4*ts.length/\us.length<=ns.length/\ts.length<=ns.length:=by
 let⟨U,V,a,b,c,d,e,f⟩:=h;let h1:=T3 i1 a;let h2:=P7 i2 c;let h3:=P7 i1 a;let l1:U.length=ts.length:=by rw[<-b];unfold Yo;rw[Jb]
 let l2:V.length=us.length:=by rw[<-d];unfold Yo;rw[Jb]
 rw[e]at h1 h3;rw[f]at h2;lia
def Zir{i:Nat}(hi:i<ts.length)(hl:Rz S1 ts i=true)(ns us:List Int):¬ GoOk S1 S2 ts ns us:=λh=>by
 let⟨U,V,a,b,c,d,e,f⟩:=h;rw[Ry hi]at hl;let hU:i<U.length:=by rw[<-b]at hi;unfold Yo at hi;rw[Jb]at hi;exact hi
 refine hl U[i] (a _ (Jr hU)) ?_;subst b;exact(G9 (λq:Pr=>q.1)).symm
def Zip(tx:Vp S1 U ts ts.length)(en:Us S2 (Yd U) R pl)(hp:(Yd U).length<=pl):∃us,GoOk S1 S2 ts (Yd U) us/\(osOf R).map oD=us.map D.int:=by
 let⟨V,us,tv,er,eo,_⟩:=Zg1 en hp;exists us,⟨U,V,tx.1,?_,tv.1,?_,rfl,er⟩,eo
 .rw[tx.2,Gb]
 .rw[tv.2,Gb]
theorem Zio(f1:Free S1)(f2:Free S2)(i2:Fits S2)(tx:Vp S1 U ts ts.length)(en:Us S2 (Yd U) R pl)(hp:pl<(Yd U).length)(ns us:List Int):¬ GoOk S1 S2 ts ns us:=λh=>by
 let⟨U',V,a,b,c,d,e,f⟩:=h;let eU:U'=U:=P0 f1 a tx.1 (by rw[b,tx.2,Gb]);subst eU;let e3:Yd V=Yd U':=f.trans e.symm;let tv:Vp S2 V us us.length:=⟨c,by rw[d,Gb]⟩;let:=((Zkf i2 f2 tv).1 R pl (by rw[e3];exact en)).1;rw[e3]at this;lia
section
variable{C:Cf}{ue:TE3}
def Zuj:List D->Mem->K3->Prop:=λds M K=>∃(d:D)(ns:List Int)(n:Int),ds=[d]/\lsOf M d=some (ns.map .int)/\mxOf none ns=some n/\K (.int n) M
def Zpj(hK:X.K=K)(hc:X.calm=true):Vj X (.builtin "max") (λxs H Q=>∃(a:Addr)(ns:List Int)(n:Int),xs=[.ref a]/\SqL K H a (ns.map V.int)/\mxOf none ns=some n/\Q (.int n) H):=by subst hK;exact Zjk hc
theorem Zq4:SimC C Z (λxs H Q=>∃(a:Addr)(ns:List Int)(n:Int),xs=[.ref a]/\SqL C.k H a (ns.map V.int)/\mxOf none ns=some n/\Q (.int n) H) Zuj:=λI α H M xs ds K Q R r h k=>by
 let⟨d,ns,n,rfl,e,en,h⟩:=h;cases r with
 |cons r1 r2 =>
  cases r2;let⟨x,rfl,ex⟩:=Zh4 R r1 e;exists x,ns,n,rfl,SqL.of ex,en,k _ _ I α H M (.refl _) (Jc _) R (.int n) h
def kIt(k:Nat)(o:Obj)(vs:List (Key×V))(kvs:List (Key×D)):It3:=⟨kvs.length,λi x=>∃kv,kvs[i]?=some kv/\x=kD kv.1,λM=>M[k]?=some (.dfK o vs kvs)⟩
def uIDK(ue:TE3):TI3:=λρ M K=>ue ρ M λd M1=>∃k kvs,d=.cell k/\M1[k]?=some (.dct kvs)/\∀o vs,K (kIt k o vs kvs) (M1.set k (.dfK o vs kvs))
def Zt7(he:SimE C Z te ue):SimI C Z (Zsg te) (uIDK ue):=λI α σ H ρ M K R' R RE h kk =>
 he I α σ H ρ M _ _ R RE h λv d I1 α1 H1 M1 s1 p1 R1 r1 h1=>by
  let⟨k,kvs,rfl,e,h1⟩:=h1;cases r1 with
  | @cell a _ ea =>
   let⟨vs,e1,r⟩:=(R1.cel k a _ ea e).1;exists a,vs,rfl,.inl ⟨e1,λo=>kk _ _ I1 α1 _ _ s1 p1 (R1.put (m:=.dfK o vs kvs) ea λH' e'=>⟨e',r⟩) (λI' α' H' M' s p R ok=>?_) (h1 o vs)⟩;let m:=(R.cel k a _ (Zcn p ea) ok).1;let⟨ln,kg⟩:=RepK.get m.2;exists λi hi=>⟨⟨m.1,by rw[ln];exact hi⟩,λx H2 y=>?_⟩,⟨m.1,by rw[ln];exact Je _⟩;let⟨rfl,kv,e1,rfl⟩:=y;let⟨g1,_⟩:=kg i kv kvs[i] e1 (Ja hi);exists I',kD kvs[i].1,.refl _,R,?_,kvs[i],Ja hi,rfl;rw[g1];cases kvs[i].1 with
   |inl j=>exact .int j
   |inr z=>exact .str z
end
abbrev Nt:=Str×List Pr
variable{qs:List L3.Nt}
def Tld(zs:List Fq)(qs:List Nt):Prop:=zs.length=qs.length/\∀(i:Nat)(z:Fq)(q:Nt),zs[i]?=some z->qs[i]?=some q->z.1=q.1/\z.2.1.Perm q.2
def NtOk(qs:List Nt):Prop:=(qs.map (·.1)).Nodup/\qs.length<=8/\∀q∈qs,TbOk q.2/\K4 q.1=true
def So(M:Mem)(b:Nat)(qs:List Nt):Prop:=∃cs:List Nat,cs.length=qs.length/\M[b]?=some (.dct (Em (λ(q:Nt)(c:Nat)=>((.inr q.1:Key),D.cell c)) qs cs))/\∀(i c:Nat)(q:Nt),cs[i]?=some c->qs[i]?=some q->M[c]?=some (.dct (q.2.map prK))
def So.pre{N:Mem}{b:Nat}(h:So M b qs)(p:M<+:N):So N b qs:=by
 let⟨cs,l,e,g⟩:=h;exists cs,l,Xv p e,λi c q e1 e2=>Xv p (g i c q e1 e2)
theorem Zf1{zs:List Nt}(nd:(zs.map (·.1)).Nodup){i:Nat}{q:Nt}{c:Nat}(e1:zs[i]?=some q)(e2:cs[i]?=some c):valD (Em (λ(q:Nt)(c:Nat)=>((.inr q.1:Key),D.cell c)) zs cs) (.inr q.1)=some (.cell c):=by
 induction zs generalizing cs i with
 |nil=>cases e1
 |cons z zs ih =>
  cases cs with
  |nil=>cases e2
  |cons d cs =>
   rw[Js,Gx]at nd;unfold valD;rw[List.zipWith_cons_cons,G2];cases i with
   |zero =>
    cases e1;cases e2;simp
   |succ i =>
    let e1':zs[i]?=some q:=by simpa using e1
    let ne:z.1≠q.1:=λe=>nd.1 (Jp.mpr ⟨q,Gg e1',e.symm⟩);rw[show decide ((Mg z.1:Key)=Mg q.1)=false from Fu λw=>ne (Lh w)];exact ih nd.2 e1' (by simpa using e2)
theorem So.get{b:Nat}(h:So M b qs)(nd:(qs.map (·.1)).Nodup){q:Nt}(hq:q∈qs):∃c,dGet M (.cell b) (.str q.1) (some (.cell c))/\M[c]?=some (.dct (q.2.map prK)):=by
 let⟨cs,l,e,g⟩:=h;let⟨i,hi,rfl⟩:=Ju hq;let hc:i<cs.length:=by lia
 exists cs[i],.inl ⟨_,_,by simp only[Se,e],rfl,(Zf1 nd (Ja hi) (Ja hc)).symm⟩,g i _ _ (Ja hc) (Ja hi)
def Zrr(nd:(qs.map (·.1)).Nodup){p q:Nt}(hp:p∈qs)(hq:q∈qs)(e:p.1=q.1):p=q:=by
 let⟨i,hi,rfl⟩:=Ju hp;let⟨j,hj,rfl⟩:=Ju hq;let:i=j:=by
  refine(G7 (xs:=qs.map (·.1)) (h₀:=by rw[Jb];exact hi) (h₁:=by rw[Jb];exact hj) nd).mp ?_;rw[G9,G9];exact e
 subst this;rfl
def Tld.get(h:Tld zs qs){q:Nt}(hq:q∈qs):∃z∈zs,z.1=q.1/\z.2.1.Perm q.2:=by
 let⟨i,hi,rfl⟩:=Ju hq;let hz:i<zs.length:=by rw[h.1];exact hi
 exists zs[i],Jr hz,h.2 i _ _ (Ja hz) (Ja hi)
abbrev Lg:=List Pr×List Pr
variable{ls ls':List L3.Lg}
def wyD(w:Str×Str):D:=.tup [.str w.1,.str w.2]
def Legs(qs:List Nt)(way:List (Str×Str))(ls:List Lg):Prop:=ls.length=way.length/\∀(i:Nat)(w:Str×Str)(l:Lg),way[i]?=some w->ls[i]?=some l->(w.1,l.1)∈qs/\(w.2,l.2)∈qs
def TrOk(ls:List Lg)(ts:List Int)(i:Nat)(xs:List (List Int)):Prop:=xs.length=2*i+1/\xs[0]?=some ts/\∀j,j<i->∃(l:Lg)(a b c:List Int),ls[j]?=some l/\xs[2*j]?=some a/\xs[2*j+1]?=some b/\xs[2*j+2]?=some c/\GoOk l.1 l.2 a b c
def LgOk(ls:List Lg):Prop:=∀l∈ls,TbOk l.1/\TbOk l.2
def TrOk.zero(ls:List Lg)(ts:List Int):TrOk ls ts 0 [ts]:=⟨rfl,rfl,λj h=>absurd h (G6 _)⟩
theorem TrOk.last{i:Nat}{xs:List (List Int)}(h:TrOk ls ts i xs):∃a,xs[2*i]?=some a:=by
 let:=h.1;exists xs[2*i],Ja ()
theorem TrOk.snoc{i:Nat}{xs:List (List Int)}{l:Lg}{a b c:List Int}(h:TrOk ls ts i xs)(hl:ls[i]?=some l)(ha:xs[2*i]?=some a)(g:GoOk l.1 l.2 a b c):TrOk ls ts (i+1) (xs++[b,c]):=by
 let⟨h1,h2,h3⟩:=h;exists by rw[Jd];show _+2=_;lia,by rw[Jo ()];exact h2,λj hj=>?_
 by_cases z:j<i
 .let⟨l',a',b',c',q1,q2,q3,q4,q5⟩:=h3 j z;exists l',a',b',c',q1,by rw[Jo ()];exact q2,by rw[Jo ()];exact q3,by rw[Jo ()];exact q4,q5
 .let e:j=i:=by lia
  subst e;exists l,a,b,c,hl,by rw[Jo ()];exact ha,?_,?_,g
  .rw[Jw (),show 2*j+1-xs.length=0 by lia];rfl
  .rw[Jw (),show 2*j+2-xs.length=1 by lia];rfl
theorem TrOk.back{i:Nat}{xs:List (List Int)}(h:TrOk ls ts (i+1) xs):TrOk ls ts i (xs.take (2*i+1)):=by
 let⟨h1,h2,h3⟩:=h;exists by rw[Ji];lia,by rw[Gi ()];exact h2,λj hj=>?_;let⟨l',a',b',c',q1,q2,q3,q4,q5⟩:=h3 j ();exists l',a',b',c',q1,by rw[Gi ()];exact q2,by rw[Gi ()];exact q3,by rw[Gi ()];exact q4,q5
theorem TrOk.uniq(ok:LgOk ls):∀{i:Nat}{xs ys:List (List Int)},TrOk ls ts i xs->TrOk ls ts i ys->xs=ys
 |0,xs,ys,h,g=>by
  let⟨h1,h2,_⟩:=h;let⟨g1,g2,_⟩:=g
  match xs,ys,h1,g1,h2,g2 with
  |[x],[y],_,_,h2,g2=>cases h2;cases g2;rfl
 |i+1,xs,ys,h,g=>by
  let e:=TrOk.uniq ok h.back g.back;let hb:=h;let gb:=g;let⟨h1,h2,h3⟩:=h;let⟨g1,g2,g3⟩:=g;let⟨l,a,b,c,q1,q2,q3,q4,q5⟩:=h3 i ();let⟨l',a',b',c',r1,r2,r3,r4,r5⟩:=g3 i ();rw[q1]at r1;cases r1;let ea:a=a':=by
   let:(xs.take (2*i+1))[2*i]?=(ys.take (2*i+1))[2*i]?:=by rw[e]
   rw[Gi (),Gi (),q2,r2]at this;exact Fv this
  subst ea;let okl:=ok l (Gg q1);let⟨rfl,rfl⟩:=q5.uniq okl.1.1 okl.2.1 okl.2.2 r5
  apply Kz
  intro j
  by_cases z:j<2*i+1
  .let:(xs.take (2*i+1))[j]?=(ys.take (2*i+1))[j]?:=by rw[e]
   rwa [Gi z,Gi z]at this
  .by_cases z1:j=2*i+1
   .rw[z1,q3,r3]
   .by_cases z2:j=2*i+2
    .rw[z2,q4,r4]
    .rw[Bj (),Bj ()]
theorem TrOk.part{n:Nat}{xs:List (List Int)}(h:TrOk ls ts n xs):∀{i:Nat},i<=n->TrOk ls ts i (xs.take (2*i+1)):=by
 induction n generalizing xs with
 |zero =>
  intro i hi;let:i=0:=by lia
  subst this;rw[Gc (by have:=h.1;lia)];exact h
 |succ n ih =>
  intro i hi
  by_cases e:i=n+1
  .subst e;rw[Gc (by have:=h.1;lia)];exact h
  .let:=ih h.back (i:=i) ();rw[List.take_take,B4 ()]at this;exact this
inductive Wo where
 |at(k:Nat)|to (xs:List (List Int))
def IsWo(ls:List Lg)(ts:List Int):Wo->Prop
 |.at k=>∃(l:Lg)(xs:List (List Int))(a:List Int),ls[k]?=some l/\TrOk ls ts k xs/\xs[2*k]?=some a/\∀ns us,¬ GoOk l.1 l.2 a ns us
 |.to xs=>TrOk ls ts ls.length xs
theorem IsWo.uniq(ok:LgOk ls):∀{o o':Wo},IsWo ls ts o->IsWo ls ts o'->o=o':=by
 let ne:∀{k n:Nat}{l:Lg}{xs ys:List (List Int)}{a:List Int},k<n->ls[k]?=some l->TrOk ls ts k xs->xs[2*k]?=some a->(∀ns us,¬ GoOk l.1 l.2 a ns us)->TrOk ls ts n ys->False:=λ{k n l xs ys a}hk hl tx ha no ty=>by
  let⟨l',a',b',c',q1,q2,_,_,q5⟩:=ty.2.2 k hk;rw[hl]at q1;cases q1;let e:=TrOk.uniq ok tx (ty.part (Be hk));rw[e,Gi (),q2]at ha;cases ha;exact no _ _ q5
 intro o o' h h';cases o with
 |«at» k =>
  let⟨l,xs,a,hl,tx,ha,no⟩:=h;cases o' with
  |«at» k' =>
   let⟨l',xs',a',hl',tx',ha',no'⟩:=h';rcases Bz k k' with z|z|z
   .exact(ne z hl tx ha no tx').elim
   .rw[z]
   .exact(ne z hl' tx' ha' no' tx).elim
  |to ys=>exact(ne (Jf.mp hl).1 hl tx ha no h').elim
 |to xs =>
  cases o' with
  |«at» k' =>
   let⟨l',xs',a',hl',tx',ha',no'⟩:=h';exact(ne (Jf.mp hl').1 hl' tx' ha' no' h).elim
  |to ys=>rw[TrOk.uniq ok h h']
theorem TrOk.len(ok:LgOk ls){n:Nat}{xs:List (List Int)}(h:TrOk ls ts n xs):∀{i:Nat}{a:List Int},i<=n->xs[2*i]?=some a->a.length<=4 ^ i*ts.length:=by
 intro i
 induction i with
 |zero =>
  intro a _ e;let:=h.2.1;rw[show 2*0=0 from rfl,this]at e;cases e;show _<=1*_;lia
 |succ i ih =>
  intro a hi e;let⟨l,a',b',c',q1,q2,q3,q4,q5⟩:=h.2.2 i ();let:=ih () q2;rw[show 2*(i+1)=2*i+2 by lia,q4]at e;cases e;let okl:=ok l (Gg q1);let gl:=q5.len okl.1.2 okl.2.2;rw[Nat.pow_succ];let e4:4 ^ i*4*ts.length=4*(4 ^ i*ts.length):=by rw[Jhw (4 ^ i) 4,Nat.mul_assoc]
  lia
end L3
variable{ls ls':List L3.Lg}{qs:List L3.Nt}
namespace L2
open PySem PySem.Spec PyProof.Rows
def Zn7{t:TA}(h:PAF X pq σ es t):PEF X pq σ (.List es pos) (tLst t):=by
 intro s H Q I hq;refine Jd6 (thn (h pos s H _ I hq) λus s1⟨xs,H1,I1,r,z,q⟩=>⟨by rw[<-r.length];exact z,?_⟩);let hf:H1 s1.heap.objs.size=none:=I1.hok.fresh (Je _);exists .ref s1.heap.objs.size,upd H1 s1.heap.objs.size (.lst xs),I1.laid (t':=s1.toks) (λb u e=>Fm _ e) (Je _) ?_,rfl,q _ hf;exists z,us,0,r,Fn _ rfl
end L2
namespace L3
open PySem L2
def lgD(l:Lg):D:=.tup [.code l.1,.code l.2]
def Sh(zs:List Fq)(way:List (Str×Str))(ls:List Lg):Prop:=ls.length=way.length/\∀(i:Nat)(w:Str×Str)(l:Lg),way[i]?=some w->ls[i]?=some l->(∃z∈zs,z.1=w.1/\z.2.1=l.1)/\∃z∈zs,z.1=w.2/\z.2.1=l.2
def Zaa(ls ls':List Lg):Prop:=ls.length=ls'.length/\∀(i:Nat)(l l':Lg),ls[i]?=some l->ls'[i]?=some l'->l.1.Perm l'.1/\l.2.Perm l'.2
def Zaa.get(h:Zaa ls ls'){i:Nat}{l:Lg}(e:ls[i]?=some l):∃l',ls'[i]?=some l'/\l.1.Perm l'.1/\l.2.Perm l'.2:=by
 let hi:=(Jf.mp e).1;let hi':i<ls'.length:=by rw[<-h.1];exact hi
 exists ls'[i],Ja hi',h.2 i _ _ e (Ja hi')
def TrOk.perm(h:Zaa ls ls'){i:Nat}{xs:List (List Int)}(t:TrOk ls ts i xs):TrOk ls' ts i xs:=by
 exists t.1,t.2.1,λj hj=>?_;let⟨l,a,b,c,q1,q2,q3,q4,q5⟩:=t.2.2 j hj;let⟨l',e,p1,p2⟩:=h.get q1;exists l',a,b,c,e,q2,q3,q4,q5.perm p1 p2
theorem IsWo.perm(h:Zaa ls ls'){o:Wo}(t:IsWo ls ts o):IsWo ls' ts o:=by
 cases o with
 |«at» k =>
  let⟨l,xs,a,e,t1,ea,no⟩:=t;let⟨l',e',p1,p2⟩:=h.get e;exists l',xs,a,e',t1.perm h,ea,λns us g=>no ns us (g.perm p1.symm p2.symm)
 |to xs =>
  let t:TrOk ls ts ls.length xs:=t;show TrOk ls' ts ls'.length xs;rw[<-h.1];exact t.perm h
def Za8(nd:(zs.map (·.1)).Nodup)(nq:(qs.map (·.1)).Nodup)(td:Tld zs qs)(h:Sh zs way ls)(h':Legs qs way ls'):Zaa ls ls':=by
 exists by rw[h.1,h'.1],λi l l' e e'=>?_;let hi:=(Jf.mp e).1;let hw:i<way.length:=by rw[<-h.1];exact hi
 let⟨⟨z1,m1,n1,s1⟩,z2,m2,n2,s2⟩:=h.2 i _ _ (Ja hw) e;let⟨g1,g2⟩:=h'.2 i _ _ (Ja hw) e';let one:∀{z:Fq}{q:Nt},z∈zs->q∈qs->z.1=q.1->z.2.1.Perm q.2:=λ{z q}hz hq e=>by
  let⟨i,hi,rfl⟩:=Ju hz;let hi':i<qs.length:=by rw[<-td.1];exact hi
  let⟨e1,pm⟩:=td.2 i _ _ (Ja hi) (Ja hi');let:=Zrr nq (Jr hi') hq (e1.symm.trans e);rw[<-this];exact pm
 let p1:=one m1 g1 n1;let p2:=one m2 g2 n2;rw[s1]at p1;rw[s2]at p2;exists p1,p2
def Zja:Sp3:=λds M K=>∃(d e:D)(ns:List Int),ds=[d,e]/\lsOf M d=some (ns.map .int)/\lsOf M e=some (ns.map .int)/\ns.length<=100000/\K (.bl true) M
def Zpb:Sp3:=λds M K=>∃(S1 S2:List Pr)(d:D)(ts:List Int),ds=[.code S1,.code S2,d]/\lsOf M d=some (ts.map .int)/\((Free S1/\Fits S1)/\(Free S2/\Fits S2)/\ts.length<=20000) /\
 (∀ns us,GoOk S1 S2 ts ns us->K (.lst [.cell M.length,.cell (M.length+1)]) (M++[.lst (ns.map .int)]++[.lst (us.map .int)]))/\((∀ns us,¬ GoOk S1 S2 ts ns us)->∀M',M<+:M'->K .non M')
structure Trl(N:Nat)(M:Mem)(t:Nat)(cs:List Nat)(xs:List (List Int)):Prop where
 ht:M[t]?=some (.lst (cs.map .cell))
 ln:cs.length=xs.length
 nd:cs.Nodup
 ge:∀c∈cs,N<=c/\c≠t
 nt:N<=t
 get:∀(i c:Nat)(x:List Int),cs[i]?=some c->xs[i]?=some x->M[c]?=some (.lst (x.map .int))
def Trl.pre{N:Nat}{M':Mem}{t:Nat}{xs:List (List Int)}(h:Trl N M t cs xs)(p:M<+:M'):Trl N M' t cs xs :=
 ⟨Xv p h.ht,h.ln,h.nd,h.ge,h.nt,λi c x e1 e2=>Xv p (h.get i c x e1 e2)⟩
def Zpu(zs:List Fq)(way:List (Str×Str))(ts:List Int):Prop:=way.length<=3/\(∀w∈way,w.1∈zs.map (·.1)/\w.2∈zs.map (·.1))/\(∀z∈zs,Free z.2.1/\Fits z.2.1)/\ts.length<=300
def Sh.ok(h:Sh zs way ls)(w:Zpu zs way ts):LgOk ls:=λl hl=>by
 let⟨i,hi,rfl⟩:=Ju hl;let hw:i<way.length:=by rw[<-h.1];exact hi
 let⟨⟨z1,m1,n1,s1⟩,z2,m2,n2,s2⟩:=h.2 i _ _ (Ja hw) (Ja hi);let g1:=w.2.2.1 z1 m1;let g2:=w.2.2.1 z2 m2;rw[s1]at g1;rw[s2]at g2;exists g1,g2
theorem Zam(ok:LgOk ls)(h3:ls.length<=3)(ht:ts.length<=300){n:Nat}{xs:List (List Int)}(h:TrOk ls ts n xs)(hn:n<=ls.length){i:Nat}{x:List Int}(e:xs[i]?=some x):x.length<=20000:=by
 let hi:=(Jf.mp e).1;let l1:=h.1;rcases Nat.mod_two_eq_zero_or_one i with z|z
 .let e2:2*(i / 2)=i:=by lia
  let:=h.len ok (i:=i / 2) (a:=x) () (by rw[e2];exact e);let p:4 ^ (i / 2)<=4 ^ 3:=Nat.pow_le_pow_right nofun ();let:=Fi p (Je ts.length);lia
 .let⟨l,a,b,c,q1,q2,q3,q4,q5⟩:=h.2.2 (i / 2) ();let:=h.len ok (i:=i / 2) (a:=a) () q2;let okl:=ok l (Gg q1);let gl:=q5.len okl.1.2 okl.2.2;let p:4 ^ (i / 2)<=4 ^ 2:=Nat.pow_le_pow_right nofun ();let:=Fi p (Je ts.length);rw[show 2*(i / 2)+1=i by lia,e]at q3;cases q3;lia
theorem N8{xs:List τ}{n:Nat}(h:xs.length=n+1):L2.atI xs (-1)=xs[n]?:=by
 let:=Zls (xs:=xs) (j:=0) ();rw[show(-1:Int)-((0:Nat):Int) = -1 from rfl]at this;rw[this,K5 (),h];rfl
theorem Zcy :∀{way:List (Str×Str)},(∀w∈way,w.1∈qs.map (·.1)/\w.2∈qs.map (·.1))->∃ls,Legs qs way ls
 |[],_=>⟨[],rfl,λ_ _ _ e=>nomatch e⟩
 |w::way,h=>by
  let⟨ls,l,g⟩:=Zcy (way:=way) λv hv=>h v (Jh _ hv);let⟨h1,h2⟩:=h w Jn;let⟨q1,m1,e1⟩:=Jp.mp h1;let⟨q2,m2,e2⟩:=Jp.mp h2;exists(q1.2,q2.2)::ls,by rw[Jx,Jx,l],λi v l ev el=>?_;cases i with
  |zero =>
   cases ev;cases el;rw[<-e1,<-e2];exists m1,m2
  |succ i=>exact g i v l (by simpa using ev) (by simpa using el)
def Legs.ok(h:Legs qs way ls)(w:NtOk qs):LgOk ls:=λl hl=>by
 let⟨i,hi,rfl⟩:=Ju hl;let hw:i<way.length:=by rw[<-h.1];exact hi
 let⟨g1,g2⟩:=h.2 i _ _ (Ja hw) (Ja hi);exists(w.2.2 _ g1).1,(w.2.2 _ g2).1
def Zp3(td:Tld zs qs)(ok:NtOk qs)(w3:way.length<=3)(h:∀w∈way,w.1∈qs.map (·.1)/\w.2∈qs.map (·.1))(lt:ts.length<=300):Zpu zs way ts:=by
 let nm:∀n∈qs.map (·.1),n∈zs.map (·.1):=λn hn=>by
  let⟨q,hq,rfl⟩:=Jp.mp hn;let⟨z,hz,e,_⟩:=td.get hq;exact Jp.mpr ⟨z,hz,e⟩
 exists w3,λw hw=>⟨nm _ (h w hw).1,nm _ (h w hw).2⟩,λz hz=>?_,lt;let⟨i,hi,rfl⟩:=Ju hz;let hi':i<qs.length:=by rw[<-td.1];exact hi
 let pm:=(td.2 i _ _ (Ja hi) (Ja hi')).2;let tb:=(ok.2.2 _ (Jr hi')).1;exists tb.1.perm pm,tb.2.perm pm
section
variable{C:Cf} 
def Zfq{k:Nat}{p c:Addr}{cs bs:List Int}{K:K3}(R:Rel C Z I α H M)(ha:α[k]?=some p)(hm:M[k]?=some .hand)(hh:HandAt H' p c)(ic:I c=some (.lst (cs.map V.int)))(hc:cs≠[]/\cs.length<=63/\∀c∈cs,0<=c)(g:Grow p H H')(nl:H l=none)(el:H' l=some (.lst (bs.map V.int)))(kk:Fin C Z I α K Q)(h:K (.cell M.length) (M++[.lst (bs.map .int)])):Q (.ref l) H':=by
 let R1:=R.grow ha hm hh ic hc g;let⟨R2,p2,e2⟩:=R1.cellAt (l:=l) (m:=.lst (bs.map .int)) (R.sub.free nl) (R.out nl) ⟨_,el,.ints bs⟩;exact kk _ _ I _ H' _ (.refl _) p2 R2 (.cell e2) h
def Zmw:Sp3:=λds M K=>∃(k:Nat)(ss:List Int)(m:Int),ds=[.cell k,.lst (ss.map .int),.int m]/\M[k]?=some .hand/\(0<=m/\m<=200)/\∀ts:List Int,(∀t∈ts,t∈ss)->(ts.length:Int)<=m->K (.cell M.length) (M++[.lst (ts.map .int)])
theorem Zpp{E:XK}(h:spOf C Zmw vs H Q E):Zl0 vs H Q E:=by
 let⟨Z,I,α,M,ds,K,R,r,⟨k,ss,m,rfl,hm,⟨h1,h2⟩,h⟩,kk⟩:=h;cases r with
 |cons r1 r2 =>
  cases r2 with
  |cons r2 r3 =>
   cases r3 with
   |cons r3 r4 =>
    cases r4;cases r3;cases r1 with
    | @cell p _ ha =>
     let⟨c,cs,hh,ic,hc⟩:=R.hand ha hm;let⟨sa,rfl,es,is⟩:=Zc2 R r2;exists p,c,sa,ss,m,rfl,hh,es,Nh R ha hm is,h1,h2,λl ts H' nl _ el hts hl hh' g=>Zfq R ha hm hh' ic hc g nl el kk (h ts hts hl)
end
def Zst(XF:Addr):Sp3:=λds M K=>∃(f:Nat)(n:Str)(S:List Pr)(mk:List Int)(zs:List Fq),ds=[.cell f,.str n,.code S,.tup (mk.map .int)]/\FamAt XF M f zs/\zs.length<=1000/\n∉zs.map (·.1)/\K .non (Zek M f (zs++[(n,S,mk)]))
def bk(ls:List Lg):List Lg:=(ls.map λl=>(l.2,l.1)).reverse
def Wy(ls:List Lg):(bk ls).length=ls.length:=by unfold bk;rw[List.length_reverse,Jb]
theorem Zbv{i:Nat}(h:i<ls.length):(bk ls)[i]?=some ((ls[ls.length-1-i]'()).2,(ls[ls.length-1-i]'()).1):=by
 unfold bk;rw[K5 (by rw[Jb];exact h),Jb,Jv,Ja ()];rfl
def Zpi(h:LgOk ls):LgOk (bk ls):=λl hl=>by
 unfold bk at hl;let⟨l',hl',rfl⟩:=Jp.mp (List.mem_reverse.mp hl);exists(h l' hl').2,(h l' hl').1
theorem Zph(h:Zaa ls ls'):Zaa (bk ls) (bk ls'):=by
 exists by rw[Wy,Wy,h.1],λi l l' e e'=>?_;let hi:i<ls.length:=by rw[<-Wy];exact(Jf.mp e).1
 let hi':i<ls'.length:=by rw[<-h.1];exact hi
 rw[Zbv hi]at e;rw[Zbv hi']at e';cases e;cases e';let:=h.2 (ls.length-1-i) _ _ (Ja ()) (by rw[h.1];exact Ja ());exists this.2,this.1
section
variable{C:Cf} 
def Ztg(u1 u2 u3:X3->TS3)(uh:TH3):TS3:=λE ρ M=>u1 (λCe fs M'=>uh Ce fs E ρ M') {E with nx:=λρ' M'=>u2 (λCe fs M2=>uh Ce fs E ρ' M2) {E with nx:=λρ2 M2=>u3 (λCe fs M3=>uh Ce fs E ρ2 M3) E ρ2 M2} ρ' M'} ρ M
def Zqz{t3:XK->TS}{u1 u2 u3:X3->TS3}{uh:TH3}(h1:∀(E:XK)(kx:X3)(Z:Anc),Z.xe=E->Z.kx=kx->FinX C Z->SimS C Z (t1 E) (u1 kx))(h2:∀(E:XK)(kx:X3)(Z:Anc),Z.xe=E->Z.kx=kx->FinX C Z->SimS C Z (t2 E) (u2 kx))(h3:∀(E:XK)(kx:X3)(Z:Anc),Z.xe=E->Z.kx=kx->FinX C Z->SimS C Z (t3 E) (u3 kx))(hh:SimH C Z th uh) :
  SimS C Z (Zgb (λEx D σ H=>t1 (Ex σ) {D with nx:=λσ' H'=>t2 (Ex σ') {D with nx:=λσ2 H2=>t3 (Ex σ2) D σ2 H2} σ' H'} σ H) th) (Ztg u1 u2 u3 uh):=λI α σ H ρ M E D' R RE h F=>by
 let fx:∀(I:Hp)(α:List Addr)(σ:St)(H:Hp)(ρ:Ev)(M:Mem),Rel C Z I α H M->RepE C I α σ ρ->FinD C Z I α E D'->FinX C ⟨I,α,λcls d H'=>∃C',cls=.ref C'/\∀ea,H' ea=some (.ext (excP ea C' d))->th C' d ea D' σ H',λCe fs M'=>uh Ce fs E ρ M'⟩:=λI α σ H ρ M R RE F=>by
  intro Ce d vs fs I' α' H' M' R' e f g;exists Ce,rfl,λea hea=>?_;let R2:=R'.re R R'.ai R'.aa;let⟨I2,s2,R3,fl⟩:=R2.full;exact hh I2 α' σ H' ρ M' E D' Ce d ea fs vs R3 (RE.mono (Same.trans R'.ai s2) R'.aa) (fl _ _ hea (R2.extOut hea)) (e.mono s2) (f.mono s2 (Jc _)) g (F.mono (Same.trans R'.ai s2) R'.aa)
 refine h1 _ _ ⟨I,α,_,_⟩ rfl rfl (fx I α σ H ρ M R RE F) I α σ H ρ M _ _ (R.here _ _) RE h ⟨?_,(F.re R).rt,(F.re R).bk,(F.re R).ct⟩;intro I1 α1 σ1 H1 ρ1 M1 s1 p1 R1 RE1 q1;let R1':=R1.re R s1 p1;let F1:=F.mono s1 p1;refine h2 _ _ ⟨I1,α1,_,_⟩ rfl rfl (fx I1 α1 σ1 H1 ρ1 M1 R1' RE1 F1) I1 α1 σ1 H1 ρ1 M1 _ _ (R1'.here _ _) RE1 q1 ⟨?_,(F1.re R1').rt,(F1.re R1').bk,(F1.re R1').ct⟩;intro I2 α2 σ2 H2 ρ2 M2 s2 p2 R2 RE2 q2;let R2':=R2.re R1' s2 p2;let F2:=F1.mono s2 p2;exact h3 _ _ ⟨I2,α2,_,_⟩ rfl rfl (fx I2 α2 σ2 H2 ρ2 M2 R2' RE2 F2) I2 α2 σ2 H2 ρ2 M2 E D' (R2'.here _ _) RE2 q2 (F2.re R2')
end
end L3
namespace L2
open PySem PySem.W
def AllL :Nat->(List τ->Prop)->Prop
 |0,Q=>Q []
 |n+1,Q=>∀a,AllL n λl=>Q (a::l)
theorem allL :∀{n:Nat}{Q:List τ->Prop},AllL n Q->∀{us:List τ},us.length=n->Q us
 |0,_,h,[],_=>h
 |n+1,_,h,a::l,e=>allL (h a) (Nat.succ.inj e)
def us2{Q:List τ->Prop}(h:∀a b,Q [a,b])(us:List τ)(hl:us.length=2):Q us:=match us,hl with |[a,b],_=>h a b
structure FnG(K:Frag)(x:Str)(st:Stmt)(f:Addr)(fd:L8):Prop where
 g:nsIn K mainGlobals x=some (some (.ref f))
 F:Fun K x x st f fd
structure MtG(K:Frag)(C:Addr)(m q:Str)(st:Stmt)(f:Addr)(fd:L8):Prop where
 a:Cs K (.ref C) m=some (some (.ref f))
 n:isFn K (.ref f)=true
 F:Fun K m q st f fd
def Zml(K:Frag)(xs:List Str):Bool:=xs.all λx=>match nsIn K mainGlobals x with|some none=>true|_=>false
theorem Xm{K:Frag}{xs:List Str}(X:K.In h)(G:h.Ns mainGlobals mg)(z:Zml K xs=true)(i:Nat){x:Str}(e:xs[i]?=some x):mg x=none:=by
 let:=List.all_eq_true.mp z x (Gg e);cases q:nsIn K mainGlobals x with
 |none=>rw[q]at this;cases this
 |some o =>
  cases o with
  |none=>exact mg_none_of X G q
  |some v=>rw[q]at this;cases this
structure MkG(K:Frag)(C:Addr):Prop where
 m:makesIn K C=true
 k:keepIn K (.ref C)=true
structure CaG(K:Frag)(C:Addr):Prop where
 t:Jhe K (.ref C)=some (.type "type")
 b:Ej K C (.type "BaseException")=some true
structure Tk(P:Ep)(w:Ct)(K:Frag)(mg:Str->Option Value)(base:Heap):Prop where
 m:∀{x:Str}{v:Value},nsIn K mainGlobals x=some (some v)->mg x=some v
section
variable{w:Ct}{K:Frag}{base:Heap}{x m q:Str}{f:Addr}{k:Nat} 
abbrev Bnd(x q:Str)(st:Stmt)(ps:List Str):Prop:=∀(kV doc pm:Value)(an:Option Addr)(cdv ct:Value)(us:List Value),us.length=ps.length->Jd7 (fnOf x q (Wf st) (Y8 st) (Zn st) .none kV doc pm an cdv ct) ⟨us,[]⟩=pure (ps.zip us)
def bn(h:∀(kV doc pm:Value)(an:Option Addr)(cdv ct:Value),AllL ps.length λus=>Jd7 (fnOf x q (Wf st) (Y8 st) (Zn st) .none kV doc pm an cdv ct) ⟨us,[]⟩=pure (ps.zip us)):Bnd x q st ps:=λkV doc pm an cdv ct _ e=>allL (h kV doc pm an cdv ct) e
def X2(Y:Tk P w K mg base)(g:FnG K x st f fd)(ok:FnOk P w K mg base CX0 k f fd ps sp)(b:Bnd x x st ps:=by apply bn;(repeat intro _);exact rfl) :
  Cal P w K mg base x k ps sp:=Zsu g.F ok (Y.m g.g) (g.F.binds b)
def Pp(Y:Tk P w K mg base)(g:FnG K x st f fd)(ok:FnOk P w K mg base (CXE P w) k f fd ps sp)(b:Bnd x x st ps:=by apply bn;(repeat intro _);exact rfl) :
  CalE P w K mg base x k ps sp:=Zpf g.F ok (Y.m g.g) (g.F.binds b)
def Zoo(Y:Tk P w K mg base)(cl:Cls K C)(g:MtG K C m q st f fd)(ok:FnOk P w K mg base CX0 k f fd ps sp)(b:Bnd m q st ps:=by apply bn;(repeat intro _);exact rfl) :
  Met P w K mg base C m k ps sp:=⟨f,fd,cl,⟨g.a,g.n,g.F.kp⟩,ok,g.F.binds b⟩
def Zrx(Y:Tk P w K mg base)(cl:Cls K C)(g:MtG K C m q st f fd)(ok:FnOk P w K mg base (CXE P w) k f fd ps sp)(b:Bnd m q st ps:=by apply bn;(repeat intro _);exact rfl) :
  MetE P w K mg base C m k ps sp:=⟨f,fd,cl,⟨g.a,g.n,g.F.kp⟩,ok,g.F.binds b⟩
def Zui(Y:Tk P w K mg base)(mk:MkG K C)(g:MtG K C "__init__" q st f fd)(ok:FnOk P w K mg base CX0 k f fd ps sp)(hm:nsIn K mainGlobals x=some (some (.ref C)))(b:Bnd "__init__" q st ps:=by apply bn;(repeat intro _);exact rfl) :
  Mkr P w K mg base x C k ps sp:=⟨f,fd,⟨mk.m,g.a,g.n,mk.k⟩,ok,Y.m hm,g.F.binds b⟩
def rx_g(Y:Tk P w K mg base)(xc:XCl K C f)(xi:Sr K C=some (some (.ref f)))(g:MtG K C "__init__" q st f fd)(ok:FnOk P w K mg base CX0 k f fd ps sp)(hm:nsIn K mainGlobals x=some (some (.ref C)))(b:Bnd "__init__" q st ps:=by apply bn;(repeat intro _);exact rfl) :
  Rx P w K mg base x C k ps sp:=⟨f,fd,xc,xi,ok,Y.m hm,g.F.binds b⟩
end
end L2
namespace L3
open PySem L2
def flW(way:List (Str×Str)):List Str:=way.flatMap λw=>[w.1,w.2]
def Ve{x:Str}:x∈flW way↔∃w∈way,x=w.1\/x=w.2:=by
 unfold flW;rw[List.mem_flatMap]
 constructor
 .rintro⟨w,hw,hx⟩;simp only[Jq,Gp,or_false]at hx;exists w,hw,hx
 .rintro⟨w,hw,hx⟩;exact⟨w,hw,by simp only[Jq,Gp,or_false];exact hx⟩
def Y1(ns:List Str)(way:List (Str×Str))(n:Str):Prop:=((flW way).filter λx=>decide (x∉ns)).head?=some n
def Zei{ns:List Str}{w:Str×Str}{n:Str}(h:∀v∈way.take j,v.1∈ns/\v.2∈ns)(e:way[j]?=some w)(hn:(w.1∉ns/\n=w.1)\/(w.1∈ns/\w.2∉ns/\n=w.2)):Y1 ns way n:=by
 let⟨hj,e⟩:=Jf.mp e;let ew:way=way.take j++w::way.drop (j+1):=by
  let:=B5 j way;rw[Bi hj,e]at this;exact this.symm
 let z:((way.take j).flatMap λw=>[w.1,w.2]).filter (λx=>decide (x∉ns))=[]:=by
  rw[List.filter_eq_nil_iff];intro x hx;let⟨v,hv,hx⟩:=Ve.mp hx;let:=h v hv;rcases hx with rfl|rfl
  .simp[this.1]
  .simp[this.2]
 unfold Y1 flW;rw[ew,List.flatMap_append,Bd,z,List.nil_append,List.flatMap_cons];rcases hn with⟨h1,rfl⟩|⟨h1,h2,rfl⟩
 .simp[h1]
 .simp[h1,h2]
def Y1.not{ns:List Str}{n:Str}(h:Y1 ns way n):∃w∈way,¬ (w.1∈ns/\w.2∈ns):=by
 let hm:n∈(flW way).filter λx=>decide (x∉ns):=List.mem_of_mem_head? h;let⟨h1,h2⟩:=Bv.mp hm;let⟨w,hw,hx⟩:=Ve.mp h1;let h2:=of_decide_eq_true h2;exists w,hw,λz=>?_;rcases hx with rfl|rfl
 .exact h2 z.1
 .exact h2 z.2
def WayX(zs:List Fq)(way:List (Str×Str))(ts:List Int):Prop:=way.length<=3/\(∀z∈zs,Free z.2.1/\Fits z.2.1)/\ts.length<=300
def Sh.mem(h:Sh zs way ls):∀w∈way,w.1∈zs.map (·.1)/\w.2∈zs.map (·.1):=λw hw=>by
 let⟨i,hi,rfl⟩:=Ju hw;let hl:i<ls.length:=by rw[h.1];exact hi
 let⟨⟨z1,m1,n1,_⟩,z2,m2,n2,_⟩:=h.2 i _ _ (Ja hi) (Ja hl);exists Jp.mpr ⟨z1,m1,n1⟩,Jp.mpr ⟨z2,m2,n2⟩
def Sh.wok(h:Sh zs way ls)(w:WayX zs way ts):Zpu zs way ts:=⟨w.1,h.mem,w.2.1,w.2.2⟩
def Zjb(XF XN:Addr):Sp3X:=λds M K KX=>∃(f:Nat)(d:D)(zs:List Fq)(way:List (Str×Str)),ds=[.cell f,d]/\FamAt XF M f zs/\lsOf M d=some (way.map wyD)/\way.length<=100/\(∀ls:List Lg,Sh zs way ls->K (.lst (ls.map lgD)) M)/\∀n,Y1 (zs.map (·.1)) way n->KX XN [("name",.str n)] M
def Zdc(XF XN XW:Addr):Sp3X:=λds M K KX=>∃(f:Nat)(d e:D)(zs:List Fq)(way:List (Str×Str))(ts:List Int),ds=[.cell f,d,e]/\FamAt XF M f zs/\lsOf M d=some (ts.map .int)/\lsOf M e=some (way.map wyD)/\WayX zs way ts /\
 (∀n,Y1 (zs.map (·.1)) way n->∀M',M<+:M'->KX XN [("name",.str n)] M') /\
 ∀ls,Sh zs way ls->(∀(xs:List (List Int))(M':Mem)(t:Nat)(cs:List Nat),IsWo ls ts (.to xs)->M<+:M'->Trl M.length M' t cs xs->K (.cell t) M')/\∀(k:Nat)(M':Mem),IsWo ls ts (.at k)->M<+:M'->KX XW [("leg",.int k)] M'
def Zer(XF XN XW:Addr):Sp3X:=λds M K KX=>∃(f:Nat)(d e:D)(zs:List Fq)(way:List (Str×Str))(ts:List Int),ds=[.cell f,d,e]/\FamAt XF M f zs/\lsOf M d=some (ts.map .int)/\lsOf M e=some (way.map wyD)/\WayX zs way ts /\
 (∀n,Y1 (zs.map (·.1)) way n->∀M',M<+:M'->KX XN [("name",.str n)] M') /\
 ∀ls,Sh zs way ls->(∀(xs:List (List Int))(x:List Int)(M':Mem)(c:Nat),IsWo ls ts (.to xs)->xs[2*ls.length]?=some x->M<+:M'->M.length<=c->M'[c]?=some (.lst (x.map .int))->K (.cell c) M')/\∀(k:Nat)(M':Mem),IsWo ls ts (.at k)->M<+:M'->KX XW [("leg",.int k)] M'
def Zep(XF XN XW:Addr):Sp3X:=λds M K KX=>∃(f:Nat)(d e:D)(zs:List Fq)(way:List (Str×Str))(ts:List Int),ds=[.cell f,d,e]/\FamAt XF M f zs/\lsOf M d=some (ts.map .int)/\lsOf M e=some (way.map wyD)/\WayX zs way ts /\
 (∀n,Y1 (zs.map (·.1)) way n->∀M',M<+:M'->KX XN [("name",.str n)] M') /\
 ∀ls,Sh zs way ls->(∀(xs:List (List Int))(x:List Int)(M':Mem)(c:Nat),IsWo (bk ls) ts (.to xs)->xs[2*ls.length]?=some x->M<+:M'->M.length<=c->M'[c]?=some (.lst (x.map .int))->K (.cell c) M')/\∀(k:Nat)(M':Mem),IsWo (bk ls) ts (.at k)->k<ls.length->M<+:M'->KX XW [("leg",.int ((ls.length-1-k:Nat):Int))] M'
abbrev legS:Str:=Cj "leg"
abbrev txtS:Str:=Cj "text"
abbrev Zhz:Str:=Cj "name"
def TD(M:Mem)(n:Nat)(b:Bool)(o:Wo)(d:D):Prop:=match o with
 |.at k=>d=.tup [.str legS,.int ((if b then n-1-k else k:Nat):Int)]
 |.to xs=>∃(x:List Int)(e:D),d=.tup [.str txtS,e]/\xs[2*n]?=some x/\lsOf M e=some (x.map .int)
theorem TD.pre{M':Mem}{n:Nat}{b:Bool}{o:Wo}{d:D}(h:TD M n b o d)(p:M<+:M'):TD M' n b o d:=by
 cases o with
 |«at» k=>exact h
 |to xs=>obtain⟨x,e,h1,h2,h3⟩:=h;exists x,e,h1,h2,Yp p h3
def wl(b:Bool)(ls:List Lg):List Lg:=if b then bk ls else ls
def Zp1(h:LgOk ls)(b:Bool):LgOk (wl b ls):=by cases b with|false=>exact h|true=>exact Zpi h
def Zm6(h:Zaa ls ls')(b:Bool):Zaa (wl b ls) (wl b ls'):=by cases b with|false=>exact h|true=>exact Zph h
def Zp2(b:Bool)(ls:List Lg):(wl b ls).length=ls.length:=by cases b with|false=>rfl|true=>exact Wy ls
def N5(b:Bool):Sp3:=λds M K=>∃(c:Nat)(d e:D)(qs:List Nt)(way:List (Str×Str))(ts:List Int)(ls:List Lg),ds=[.cell c,d,e]/\So M c qs/\lsOf M d=some (way.map wyD)/\lsOf M e=some (ts.map .int)/\(NtOk qs/\Legs qs way ls/\way.length<=3/\ts.length<=300)/\∀(M':Mem)(o:Wo)(r:D),M<+:M'->IsWo (wl b ls) ts o->TD M' ls.length b o r->K r M'
def Zdd(XF:Addr):Sp3:=λds M K=>∃(s f:Nat)(d e:D)(zs:List Fq)(way:List (Str×Str))(ts:List Int),ds=[.int s,.cell f,d,e]/\FamAt XF M f zs/\lsOf M d=some (ts.map .int)/\lsOf M e=some (way.map wyD)/\(s<=2/\WayX zs way ts) /\
 (∀n,Y1 (zs.map (·.1)) way n->∀M',M<+:M'->K (.tup [.str Zhz,.str n]) M') /\
 ∀ls,Sh zs way ls->∀(M':Mem)(o:Wo)(r:D),M<+:M'->IsWo (wl (s==2) ls) ts o->TD M' ls.length (s==2) o r->K r M'
def Zss:Sp3:=λds M K=>∃d e:D,ds=[d,e]/\((∃n,d=.tup [.str Zhz,.str n]/\e=.tup [.str Zhz,.str n])\/∃(n:Nat)(b:Bool)(o:Wo),TD M n b o d/\TD M n b o e/\∀xs,o=.to xs->∀x,xs[2*n]?=some x->x.length<=20000)/\K (.bl true) M
def Zjc:Sp3:=λds M K=>∃(k:Nat)(d:D)(way:List (Str×Str))(sr:List Str),ds=[.cell k,d,.lst (sr.map .str)]/\M[k]?=some .hand/\lsOf M d=some (way.map wyD)/\(0<way.length/\way.length<=3/\2<=sr.length/\sr.length<=10) /\
 ∀(M':Mem)(c:Nat)(way':List (Str×Str))(n:Str),M<+:M'->M'[c]?=some (.lst (way'.map wyD))->way'.length=way.length->(∀x∈flW way',x∈flW way\/x∈sr)->((flW way').filter λx=>decide (x∈sr)).head?=some n->K (.tup [.cell c,.str n]) M'
def Zen(XF:Addr):Sp3:=λds M K=>∃(f b c:Nat)(d e:D)(zs:List Fq)(qs:List Nt)(way way':List (Str×Str))(ts:List Int)(n:Str),ds=[.cell f,.cell b,d,e,.tup [.cell c,.str n]]/\FamAt XF M f zs/\So M b qs/\lsOf M d=some (ts.map .int)/\lsOf M e=some (way.map wyD)/\M[c]?=some (.lst (way'.map wyD)) /\
 (Tld zs qs/\NtOk qs/\way.length<=3/\(∀w∈way,w.1∈qs.map (·.1)/\w.2∈qs.map (·.1))/\ts.length<=300)/\(way'.length<=3/\Y1 (zs.map (·.1)) way' n)/\∀M',M<+:M'->K (.bl true) M'
end L3
namespace K62
open PySem L2
def top(i:Nat):Stmt:=PySem.Challenge.pw_skewread_k62_refused_legs.main.body.getD i (.Pass ⟨0,0,0,0⟩)
abbrev Jbt:Stmt:=top 31
def Dm:FnScope ["_law_hand","_law_many","_law_got","_law_cell","_law_number"] ["_law_hand","_law_many"] (Zn Jbt):=(by rfl')
abbrev Jbx:Stmt:=top 30
def Fy:FnScope ["_law_script","_law_place","_law_cells","_law_at","_law_digits"] ["_law_script","_law_place"] (Zn Jbx):=(by rfl')
abbrev D7:Stmt:=top 32
def Dt:FnScope ["_law_hand","_law_most","_law_begin","_law_step"] ["_law_hand","_law_most"] (Zn D7):=(by rfl')
abbrev Dp:Stmt:=top 33
def Jai:FnScope ["_law_hand","_law_some","_law_most","_law_longest","_law_words_here","_law_k","_law_at"] ["_law_hand","_law_some","_law_most","_law_longest"] (Zn Dp):=(by rfl')
abbrev De:Stmt:=top 34
def Da:FnScope ["_law_hand","_law_many","_law_begin","_law_step","_law_signs_here","_law_at"] ["_law_hand","_law_many"] (Zn De):=(by rfl')
abbrev F3:Stmt:=top 35
def Dw:FnScope ["_law_hand","_law_words_here","_law_signs_here","_law_at","_law_spun","_law_pairs"] ["_law_hand","_law_words_here","_law_signs_here"] (Zn F3):=(by rfl')
abbrev Jby:Stmt:=top 36
def Jax:FnScope ["_law_hand","_law_signs_here","_law_most"] ["_law_hand","_law_signs_here","_law_most"] (Zn Jby):=(by rfl')
abbrev Ws:Stmt:=top 23
def Dg:FnScope ["one","other","shared"] ["one","other"] (Zn Ws):=(by rfl')
abbrev Zck:Stmt:=top 22
def Jcf:FnScope ["table","second","first","odds"] ["table"] (Zn Zck):=(by rfl')
abbrev Wr:Stmt:=top 24
def Jba:FnScope ["table","found"] ["table"] (Zn Wr):=(by rfl')
abbrev Vs:Stmt:=top 25
def Jap:FnScope ["words","found","word","size"] ["words"] (Zn Vs):=(by rfl')
abbrev Z4:Stmt:=Wx (top 26) 0
def Do:FnScope ["self","table"] ["self","table"] (Zn Z4):=(by rfl')
abbrev U1:Stmt:=Wx (top 26) 3
def Jcd:FnScope ["self","sign"] ["self","sign"] (Zn U1):=(by rfl')
abbrev U2:Stmt:=Wx (top 26) 4
def Dl:FnScope ["self","word"] ["self","word"] (Zn U2):=(by rfl')
abbrev Xp:Stmt:=Wx (top 5) 0
def F5:FnScope ["self","at"] ["self","at"] (Zn Xp):=(by rfl')
abbrev Y7:Stmt:=Wx (top 6) 0
def Jah:FnScope ["self","at"] ["self","at"] (Zn Y7):=(by rfl')
abbrev Xz:Stmt:=Wx (top 9) 0
def Jbs:FnScope ["self","leg"] ["self","leg"] (Zn Xz):=(by rfl')
abbrev Xq:Stmt:=Wx (top 7) 0
def Jas:FnScope ["self","name"] ["self","name"] (Zn Xq):=(by rfl')
abbrev Zce:Stmt:=top 14
def Jcm:FnScope ["code","text","row","place","sign","word"] ["code","text"] (Zn Zce):=(by rfl')
abbrev Rh:Stmt:=top 11
def Db:FnScope ["code","row","place","size","word"] ["code","row","place"] (Zn Rh):=(by rfl')
abbrev Zgu:Stmt:=top 12
def Jad:FnScope ["code","row","text","place","word"] ["code","row"] (Zn Zgu):=(by rfl')
abbrev Dz:Stmt:=top 37
def Jaa:FnScope ["_law_hand","_law_letters","_law_first","_law_at","_law_names_here","_law_move","_law_letter"] ["_law_hand"] (Zn Dz):=(by rfl')
abbrev Jam:Stmt:=top 38
def Jbe:FnScope ["_law_hand","_law_many","_law_longest","_law_some","_law_words_here","_law_signs_here","_law_tables_here"] ["_law_hand","_law_many","_law_longest"] (Zn Jam):=(by rfl')
abbrev Xr:Stmt:=Wx (top 28) 0
def Jbp:FnScope ["self"] ["self"] (Zn Xr):=(by rfl')
abbrev Vt:Stmt:=Wx (top 28) 1
def F7:FnScope ["self","name","code","mark"] ["self","name","code","mark"] (Zn Vt):=(by rfl')
abbrev Vb:Stmt:=Wx (top 28) 3
def F8:FnScope ["self","name"] ["self","name"] (Zn Vb):=(by rfl')
abbrev Jca:Stmt:=top 39
def Jaf:FnScope ["_law_names_here","_law_tables_here","_law_family_here","_law_name","_law_table_here","_law_mark"] ["_law_names_here","_law_tables_here"] (Zn Jca):=(by rfl')
abbrev Jaz:Stmt:=top 40
def Jbw:FnScope ["_law_names_here","_law_tables_here","_law_books_here","_law_name","_law_table_here","_law_sign","_law_word"] ["_law_names_here","_law_tables_here"] (Zn Jaz):=(by rfl')
abbrev Jbc:Stmt:=top 41
def Jav:FnScope ["_law_one","_law_other","_law_text_here","_law_row","_law_sign","_law_readings","_law_told_here","_law_at","_law_ends"] ["_law_one","_law_other","_law_text_here"] (Zn Jbc):=(by rfl')
abbrev Jbh:Stmt:=top 42
def D8:FnScope ["_law_found","_law_due","_law_k"] ["_law_found","_law_due"] (Zn Jbh):=(by rfl')
abbrev U0:Stmt:=top 16
def Jae:FnScope ["family","way"] ["family","way"] (Zn U0):=(by rfl')
abbrev Zgw:Stmt:=top 17
def Di:FnScope ["one","other","text","row"] ["one","other","text"] (Zn Zgw):=(by rfl')
abbrev Zcg:Stmt:=top 18
def Jbm:FnScope ["family","text","way","told","leg","codes","steps"] ["family","text","way"] (Zn Zcg):=(by rfl')
abbrev P5:Stmt:=top 19
def Jaj:FnScope ["family","text","way"] ["family","text","way"] (Zn P5):=(by rfl')
abbrev P3:Stmt:=top 20
def Dy:FnScope ["family","text","way","codes","before","leg","steps"] ["family","text","way"] (Zn P3):=(by rfl')
abbrev Jbk:Stmt:=top 43
def Jcc:FnScope ["_law_books_here","_law_way","_law_text_here","_law_k","_law_found"] ["_law_books_here","_law_way","_law_text_here"] (Zn Jbk):=(by rfl')
abbrev Jbi:Stmt:=top 44
def Jat:FnScope ["_law_books_here","_law_way","_law_text_here","_law_k","_law_found"] ["_law_books_here","_law_way","_law_text_here"] (Zn Jbi):=(by rfl')
abbrev Jag:Stmt:=top 45
def Jaw:FnScope ["_law_sort","_law_family_here","_law_text_here","_law_way","e"] ["_law_sort","_law_family_here","_law_text_here","_law_way"] (Zn Jag):=(by rfl')
abbrev Jab:Stmt:=top 46
def Jbj:FnScope ["_law_found","_law_due"] ["_law_found","_law_due"] (Zn Jab):=(by rfl')
abbrev Jbu:Stmt:=top 47
def Jcj:FnScope ["_law_hand","_law_way","_law_strange","_law_some","_law_turn","_law_at","_law_word","_law_firsts","_law_leg"] ["_law_hand","_law_way","_law_strange"] (Zn Jbu):=(by rfl')
abbrev Dh:Stmt:=top 48
def Jcn:FnScope ["_law_family_here","_law_books_here","_law_text_here","_law_way","_law_spoilt","_law_sort","_law_due","_law_part"] ["_law_family_here","_law_books_here","_law_text_here","_law_way","_law_spoilt"] (Zn Dh):=(by rfl')
abbrev Znq:Stmt:=top 49
def Dq:FnScope ["_law_script","_law_hand","_law_many","_law_words_here","_law_names_here","_law_strange","_law_tables_here","_law_family_here","_law_books_here","_law_place","_law_way","_law_k","_law_text_here","_law_spoilt"] ["_law_script"] (Zn Znq):=(by rfl')
structure Txt(mg:Str->Option Value):Prop where
 b_len:mg "len"=none
 b_abs:mg "abs"=none
 b_max:mg "max"=none
 b_min:mg "min"=none
 b_isinstance:mg "isinstance"=none
 b_all:mg "all"=none
 b_any:mg "any"=none
 b_range:mg "range"=none
 b_int:mg "int"=none
 b_str:mg "str"=none
 b_bool:mg "bool"=none
 b_tuple:mg "tuple"=none
 b_list:mg "list"=none
 b_dict:mg "dict"=none
 b_sorted:mg "sorted"=none
 b_enumerate:mg "enumerate"=none
 b_zip:mg "zip"=none
 b_ValueError:mg "ValueError"=none
section
variable{w:Ct}{base:Heap}
theorem D3(T:Txt mg){f:Addr}(F:Fun K "_law_draw" "_law_draw" Jbt f fd):FnOk P w K mg base CX0 1 f fd ["_law_hand","_law_many"] Rf:=by
 refine F.ok Dm (λvs H Q E h=>?_) (λcdv A outer s H vs Q E hr h=>?_)
 .let⟨p,a,n,rfl,_⟩:=h;rfl
 .let⟨p,a,n,rfl,hh,hn0,hn1,k⟩:=h;let⟨d,i,cs,e1,e2,hne,hlen,hd,hi,hc⟩:=hh.ex;let npa:p≠a:=hh.ne;let SC:=Dm;let fin:∀(r d' i':Int),0<=r->r<n->0<=d'->0<=i'->Q (.int r) (upd H p (.lst [.int d',.int i',.ref a])):=λr d' i' h1 h2 h3 h4 =>
   k r _ h1 h2 ⟨d',i',cs,Zg,by rw[Zl npa.symm];exact e2,hne,hlen,h3,h4,hc⟩ (λb o e nb=>by rw[Zl nb];exact e) λb nb=>by rw[Zl nb]
  refine⟨_,(Ze (Yn (Z5 Zhr (Zz Y4 (pv 0) Zh (λ_ _=>rfl)) Zh (Ya _))
 (Ze (Zv (i:=2) SC.nd rfl (Cg rfl) (Z3 Xf (Zz Y4 (pv 0) Zh (λ_ _=>rfl)) (pv 1)))
 (Ze (Rp (Z3 Zhs (Zz Y4 (pv 0) Zh (λ_ _=>rfl)) (pv 1)) (Pe (pv 0) Zh Va))
 (Zi (Z0 (pv 2)))))
 Z1)
 (Ze (Zn5 (pv 0) Zh Zhf Zh Zmo Va)
 (Ze (Zv (i:=3) SC.nd rfl (Cg rfl) (Z3 Xf (Zz Y4 (Zz Y4 (pv 0) Zh (λ_ _=>rfl)) (Z3 Xf (Zz Y4 (pv 0) Zh (λ_ _=>rfl)) (Zs Y0 (by rfl) T.b_len Fw (Za (Zz Y4 (pv 0) Zh (λ_ _=>rfl)) Zd))) (λ_ _=>rfl)) Zh))
 (Ze (Zv (i:=4) SC.nd rfl (Cg rfl) (Z3 Xf (Z3 X4 (Z3 X4 (Z3 Vv (pv 3) Zh) (Z3 Vv (Zz Y4 (pv 0) Zh (λ_ _=>rfl)) Zh)) Zh) Zh))
 (Ze (Zv (i:=4) SC.nd rfl (Cg rfl) (Z3 Xf (Z3 X4 (Z3 Vv (pv 4) (pv 4)) (Zz Y4 (pv 0) Zh (λ_ _=>rfl))) Zh))
 (Ze (Zv (i:=4) SC.nd rfl (Cg rfl) (Z3 Xf (Z3 X4 (Z3 Vv (pv 4) Zh) Zh) Zh))
 (Zi (Z0 (Z3 Xf (Z3 Zhs (Z3 Xf (Z3 Vv (pv 4) (pv 4)) Zh) Zh) (pv 1)))))))))),?_⟩
  exists ·,p,_,_,·,rfl,SqL.of e1,rfl,_,·,rfl,·,?_;refine ite2 (λh0=>?_) (λh0=>?_)
  .exists ·,p,_,_,·,rfl,SqL.of e1,rfl,·,_,·,rfl,hn0,?_;exists ·,p,_,_,·,rfl,SqL.of e1,rfl,·,_,·,rfl,⟨hn0,hn1⟩,·,p,_,_,0,rfl,rfl,e1,rfl,?_;exists ·,?_;exact fin _ _ _ (G3 _ ()) (Gu _ hn0) (Int.ediv_nonneg hd ()) hi
  .let e1':(upd H p (.lst [.int d,.int (i+1),.ref a])) p=some (.lst [.int d,.int (i+1),.ref a]):=Zg;let e2':(upd H p (.lst [.int d,.int (i+1),.ref a])) a=some (.lst (cs.map V.int)):=by rw[Zl npa.symm];exact e2
   let⟨c,hc1,hc2⟩:=N7 hne (i+1);let hlp:(0:Int)<(((cs.map V.int).length:Nat):Int):=by
    rw[Jb];let:=Gk.mpr hne;lia
   refine⟨_,rfl,p,_,1,_,rfl,rfl,SqL.of e1,rfl,_,_,rfl,rfl,p,_,_,1,rfl,rfl,e1,rfl,?_⟩;refine⟨_,rfl,p,_,_,_,rfl,rfl,SqL.of e1',rfl,_,rfl,p,_,_,_,rfl,rfl,SqL.of e1',rfl,_,rfl,p,_,_,_,rfl,rfl,SqL.of e1',rfl,_,_,rfl,.inl ⟨_,SqL.of e2',rfl⟩,_,_,rfl,rfl,hlp,
    a,_,_,_,rfl,rfl,SqL.of e2',hc2,_,_,rfl,rfl,(by show(0:Int)<_;decide),?_⟩
   exists ·,_,·,rfl,.inr ⟨nofun,nofun⟩,·,p,_,_,·,rfl,SqL.of e1',rfl,_,·,rfl,.inr ⟨nofun,nofun⟩,_,·,rfl,_,·,rfl,_,·,rfl,(by show(0:Int)<_;decide),?_;generalize hx:(c % 2147483647*48271+(i+1)*7368787+11) % 998244353=x;let x0:0<=x:=by rw[<-hx];exact G3 _ nofun
   let x1:x<998244353:=by rw[<-hx];exact Gu _ nofun
   exists ·,·,_,·,rfl,.inl ⟨(),()⟩,·,p,_,_,·,rfl,SqL.of e1',rfl,_,·,rfl,_,·,rfl,(by show(0:Int)<_;decide),?_;generalize hy:(x*x+(i+1)) % 998244353=y;exists ·,_,·,rfl,.inr ⟨nofun,nofun⟩,_,·,rfl,_,·,rfl,(by show(0:Int)<_;decide),?_;generalize hz:(y*40503203+12345) % 2147483647=z;let z0:0<=z:=by rw[<-hz];exact G3 _ nofun
   let z1:z<2147483647:=by rw[<-hz];exact Gu _ nofun
   exists ·,·,_,·,rfl,.inl ⟨(),()⟩,_,·,rfl,(by show(0:Int)<_;decide),_,·,rfl,⟨nofun,nofun⟩,·,_,·,rfl,hn0,?_;exact fin _ _ _ (G3 _ ()) (Gu _ hn0) hd (by show 0<=i+1;lia)
theorem Dx(T:Txt mg){f:Addr}(F:Fun K "_law_open" "_law_open" Jbx f fd):FnOk P w K mg base CX0 1 f fd ["_law_script","_law_place"] (Zl1 K):=by
 refine F.ok Fy (λvs H Q E h=>?_) (λcdv A outer s H vs Q E hr h=>?_)
 .let⟨s,ns,i,rfl,_⟩:=h;rfl
 .let⟨s0,ns,i,rfl,hS,hlen,hi0,hi1,k⟩:=h;let SC:=Fy;let hu:=hr.units;refine⟨_,(Ze (U3 (i:=2) SC.nd rfl rfl (T:=["_law_cell"]) (cs:=[]) rfl (CScope.ok (by kernel_rfl)) (X0 (Ye X9 (pv 0) Yw (Yc Zh))) (λ_ _ _ _=>(Zx (i:=0) (Wd (by kernel_rfl)) rfl (Cg rfl) (Ed rfl))) (λ_ _ _ _=>Xc) (λ_ _ _ _=>(Zs Zlp (by rfl) T.b_abs Jh3 (Za (pv 0) Zd))) (Xe nofun))
 (Ze (Yn (Z5 (Zea hu) (pv 2) (Xk Zd) (Ya _))
 (Zi (Zv (i:=2) SC.nd rfl (Cg rfl) (Xk (Za Zh Zd))))
 Z1)
 (Ze (Zv (i:=3) SC.nd rfl (Cg rfl) (Z3 Xf (pv 1) (Zs Y0 (by rfl) T.b_len Fw (Za (pv 2) Zd))))
 (Ze (Zv (i:=4) SC.nd rfl (Cg rfl) Zh)
 (Ze (Yn (PW.pt (Rn (Z5 Zuh (Zz Y4 (pv 2) (pv 3) (λ_ _=>rfl)) (Z3 Zho Zh Zh) (Ya _)) (T4 (Z5 Zhp (pv 1) (Zs Y0 (by rfl) T.b_len Fw (Za (pv 2) Zd)) (Ya _)))))
 (Zi (Zv (i:=4) SC.nd rfl (Cg rfl) (Zz Y4 (pv 2) (pv 3) (λ_ _=>rfl))))
 Z1)
 (Zi (Z0 (Xk (Za (pv 4) (Za (Z3 X4 Zh (Z3 Vv Zh (pv 1))) (Za (Z3 Ph (Ye X9 (pv 2) (Yc (pv 3)) Yw) (Ye X9 (pv 2) Yw (Yc (pv 3)))) Zd))))))))))),?_⟩
  let⟨ms,ems,lms,_⟩:=Zlk ns none (some 63);refine⟨_,rfl,_,rfl,s0,_,rfl,hS,λq hq=>⟨q,rfl,⟨_,SqL.of Zg⟩,Wg (n:=ms.length) (λj ys H'=>∃as:List Int,ys=as.map V.int/\as.length=j/\(∀c∈as,0<=c)/\H'=upd H q (.lst (cutV (ns.map V.int) none (some 63))))
   ⟨[],rfl,rfl,λ_ h=>(nomatch h),rfl⟩ ?_ (Zp ()) ?_ ?_ ?_ ?_⟩⟩
  .rintro j ys H' ⟨as,rfl,rfl,_⟩;rw[Jb];exact Je _
  .rintro j ys H' hj ⟨as,rfl,rfl,_,rfl⟩;exists _,.int (ms[as.length]'hj),SqL.of Zg,?_;rw[ems,Jv,Ja hj];rfl
  .rintro ys H' ⟨as,rfl,hl,_,rfl⟩;exact⟨_,SqL.of Zg,by rw[ems,Jb];exact Je _⟩
  .rintro j ys H' hj ⟨as,rfl,rfl,hp,rfl⟩ x H2 ⟨rfl,y⟩;let hx:=y _ (SqL.of Zg);rw[ems,Jv,Ja hj]at hx;cases hx;exists ·,·,as++[_],by rw[Jg];rfl,by rw[Jd];rfl,λc hc=>?_,rfl;rcases Ga.mp hc with z|z
   .exact hp c z
   .rw[Jm.mp z]
    split<;>lia
  .rintro ys H' ⟨as,rfl,hl,hp,rfl⟩ c0 hc0;let s1:Same H (upd H q (.lst (cutV (ns.map V.int) none (some 63)))):=Zc hq;generalize upd H q (.lst (cutV (ns.map V.int) none (some 63)))=H1 at hc0 s1;let s2:Same H (upd H1 c0 (.lst (as.map V.int))):=s1.trans (Zc hc0);let n0:H c0=none:=s1.free hc0;let e0:(upd H1 c0 (.lst (as.map V.int))) c0=some (.lst (as.map V.int)):=Zg;generalize upd H1 c0 (.lst (as.map V.int))=H2 at s2 e0;let hla:as.length<=63:=by lia
   exists ·,Gf _,λl hl=>⟨_,_,DV.lst (SqL.of ((Zc hl) _ _ e0)) (Tv as),DV.lst (SqL.of Zg) .nil,(Su as).shaped nofun,(Su []).shaped nofun,_,rfl,?_⟩;rw[Zo7];let s3:Same H (upd H2 l (.lst [])):=s2.trans (Zc hl);let e1:(upd H2 l (.lst [])) c0=some (.lst (as.map V.int)):=(Zc hl) _ _ e0;generalize upd H2 l (.lst [])=H3 at s3 e1;refine ite2 (λh0=>?_) (λh0=>?_)
   .exists by show 1<=sizeLine;decide,λc1 hc1=>?_;let W:HC H (upd H3 c1 (.lst [.int 0])) c1:=⟨[0],s3.trans (Zc hc1),s3.free hc1,Zg,by simp,nofun,by simp⟩
    revert W
    generalize upd H3 c1 (.lst [.int 0])=H4;intro W;let⟨as4,s4,n4,e4,hne,hl4,hp4⟩:=W;let⟨c,hc1,hc2⟩:=N7 hne i;let⟨cs,ecs,ncs,lcs,mcs⟩:=spun hne i;let hlp:(0:Int)<(((as4.map V.int).length:Nat):Int):=by
     rw[Jb];let:=Gk.mpr hne;lia
    exists ·,·,_,·,.inl ⟨_,SqL.of e4,rfl⟩,_,·,rfl,hlp,?_;exists ·,·,_,_,_,·,rfl,SqL.of e4,hc2,_,·,rfl,⟨nofun,nofun,nofun⟩,_,·,rfl,·,?_;refine ite2 (λ_=>?_) (λ_=>?_)
    .exists ·,·,_,·,.inl ⟨_,SqL.of e4,rfl⟩,_,·,rfl,·,?_;refine ite2 (λ_=>?_) (λ_=>?_)
     .refine⟨_,rfl,_,rfl,_,_,_,_,rfl,rfl,SqL.of e4,hc2,?_⟩;exact⟨_,rfl,_,rfl,_,_,rfl,rfl,.inl ⟨nofun,nofun⟩,_,_,rfl,rfl,_,rfl,_,rfl,_,rfl,_,_,rfl,SqL.of e4,λl1 hl1=>⟨_,rfl,_,rfl,_,rfl,_,_,rfl,SqL.of ((Zc hl1) _ _ e4),λl2 hl2 =>
       ⟨l1,l2,_,_,rfl,rfl,(Zc hl2) _ _ Zg,Zg,by rw[<-Jd,ecs,Jb];exact Zp (),λl3 hl3=>⟨by show 3<=sizeLine;decide,λp hp =>
        k p l3 _ (s4.free ((Zc hl1).free ((Zc hl2).free ((Zc hl3).free hp)))) (s4.free ((Zc hl1).free ((Zc hl2).free hl3)))
         ⟨_,_,cs,Zg,by rw[<-ecs];exact(Zc hp) _ _ Zg,ncs,(),by first|exact hp4 _ hc1|decide,(),λx hx=>hp4 x (mcs x hx)⟩
         (((s4.trans (Zc hl1)).trans (Zc hl2)).trans ((Zc hl3).trans (Zc hp)))⟩⟩⟩⟩
     .exact⟨_,rfl,_,rfl,_,_,rfl,rfl,.inl ⟨nofun,nofun⟩,_,_,rfl,rfl,_,rfl,_,rfl,_,rfl,_,_,rfl,SqL.of e4,λl1 hl1=>⟨_,rfl,_,rfl,_,rfl,_,_,rfl,SqL.of ((Zc hl1) _ _ e4),λl2 hl2 =>
       ⟨l1,l2,_,_,rfl,rfl,(Zc hl2) _ _ Zg,Zg,by rw[<-Jd,ecs,Jb];exact Zp (),λl3 hl3=>⟨by show 3<=sizeLine;decide,λp hp =>
        k p l3 _ (s4.free ((Zc hl1).free ((Zc hl2).free ((Zc hl3).free hp)))) (s4.free ((Zc hl1).free ((Zc hl2).free hl3)))
         ⟨_,_,cs,Zg,by rw[<-ecs];exact(Zc hp) _ _ Zg,ncs,(),by first|exact hp4 _ hc1|decide,(),λx hx=>hp4 x (mcs x hx)⟩
         (((s4.trans (Zc hl1)).trans (Zc hl2)).trans ((Zc hl3).trans (Zc hp)))⟩⟩⟩⟩
    .refine iteF ?_;exact⟨_,rfl,_,rfl,_,_,rfl,rfl,.inl ⟨nofun,nofun⟩,_,_,rfl,rfl,_,rfl,_,rfl,_,rfl,_,_,rfl,SqL.of e4,λl1 hl1=>⟨_,rfl,_,rfl,_,rfl,_,_,rfl,SqL.of ((Zc hl1) _ _ e4),λl2 hl2 =>
       ⟨l1,l2,_,_,rfl,rfl,(Zc hl2) _ _ Zg,Zg,by rw[<-Jd,ecs,Jb];exact Zp (),λl3 hl3=>⟨by show 3<=sizeLine;decide,λp hp =>
        k p l3 _ (s4.free ((Zc hl1).free ((Zc hl2).free ((Zc hl3).free hp)))) (s4.free ((Zc hl1).free ((Zc hl2).free hl3)))
         ⟨_,_,cs,Zg,by rw[<-ecs];exact(Zc hp) _ _ Zg,ncs,(),by first|exact hp4 _ hc1|decide,(),λx hx=>hp4 x (mcs x hx)⟩
         (((s4.trans (Zc hl1)).trans (Zc hl2)).trans ((Zc hl3).trans (Zc hp)))⟩⟩⟩⟩
   .let W:HC H H3 c0:=⟨as,s3,n0,e1,by simpa using h0,hla,hp⟩;let⟨as4,s4,n4,e4,hne,hl4,hp4⟩:=W;let⟨c,hc1,hc2⟩:=N7 hne i;let⟨cs,ecs,ncs,lcs,mcs⟩:=spun hne i;let hlp:(0:Int)<(((as4.map V.int).length:Nat):Int):=by
     rw[Jb];let:=Gk.mpr hne;lia
    exists ·,·,_,·,.inl ⟨_,SqL.of e4,rfl⟩,_,·,rfl,hlp,?_;exists ·,·,_,_,_,·,rfl,SqL.of e4,hc2,_,·,rfl,⟨nofun,nofun,nofun⟩,_,·,rfl,·,?_;refine ite2 (λ_=>?_) (λ_=>?_)
    .exists ·,·,_,·,.inl ⟨_,SqL.of e4,rfl⟩,_,·,rfl,·,?_;refine ite2 (λ_=>?_) (λ_=>?_)
     .refine⟨_,rfl,_,rfl,_,_,_,_,rfl,rfl,SqL.of e4,hc2,?_⟩;exact⟨_,rfl,_,rfl,_,_,rfl,rfl,.inl ⟨nofun,nofun⟩,_,_,rfl,rfl,_,rfl,_,rfl,_,rfl,_,_,rfl,SqL.of e4,λl1 hl1=>⟨_,rfl,_,rfl,_,rfl,_,_,rfl,SqL.of ((Zc hl1) _ _ e4),λl2 hl2 =>
       ⟨l1,l2,_,_,rfl,rfl,(Zc hl2) _ _ Zg,Zg,by rw[<-Jd,ecs,Jb];exact Zp (),λl3 hl3=>⟨by show 3<=sizeLine;decide,λp hp =>
        k p l3 _ (s4.free ((Zc hl1).free ((Zc hl2).free ((Zc hl3).free hp)))) (s4.free ((Zc hl1).free ((Zc hl2).free hl3)))
         ⟨_,_,cs,Zg,by rw[<-ecs];exact(Zc hp) _ _ Zg,ncs,(),by first|exact hp4 _ hc1|decide,(),λx hx=>hp4 x (mcs x hx)⟩
         (((s4.trans (Zc hl1)).trans (Zc hl2)).trans ((Zc hl3).trans (Zc hp)))⟩⟩⟩⟩
     .exact⟨_,rfl,_,rfl,_,_,rfl,rfl,.inl ⟨nofun,nofun⟩,_,_,rfl,rfl,_,rfl,_,rfl,_,rfl,_,_,rfl,SqL.of e4,λl1 hl1=>⟨_,rfl,_,rfl,_,rfl,_,_,rfl,SqL.of ((Zc hl1) _ _ e4),λl2 hl2 =>
       ⟨l1,l2,_,_,rfl,rfl,(Zc hl2) _ _ Zg,Zg,by rw[<-Jd,ecs,Jb];exact Zp (),λl3 hl3=>⟨by show 3<=sizeLine;decide,λp hp =>
        k p l3 _ (s4.free ((Zc hl1).free ((Zc hl2).free ((Zc hl3).free hp)))) (s4.free ((Zc hl1).free ((Zc hl2).free hl3)))
         ⟨_,_,cs,Zg,by rw[<-ecs];exact(Zc hp) _ _ Zg,ncs,(),by first|exact hp4 _ hc1|decide,(),λx hx=>hp4 x (mcs x hx)⟩
         (((s4.trans (Zc hl1)).trans (Zc hl2)).trans ((Zc hl3).trans (Zc hp)))⟩⟩⟩⟩
    .refine iteF ?_;exact⟨_,rfl,_,rfl,_,_,rfl,rfl,.inl ⟨nofun,nofun⟩,_,_,rfl,rfl,_,rfl,_,rfl,_,rfl,_,_,rfl,SqL.of e4,λl1 hl1=>⟨_,rfl,_,rfl,_,rfl,_,_,rfl,SqL.of ((Zc hl1) _ _ e4),λl2 hl2 =>
       ⟨l1,l2,_,_,rfl,rfl,(Zc hl2) _ _ Zg,Zg,by rw[<-Jd,ecs,Jb];exact Zp (),λl3 hl3=>⟨by show 3<=sizeLine;decide,λp hp =>
        k p l3 _ (s4.free ((Zc hl1).free ((Zc hl2).free ((Zc hl3).free hp)))) (s4.free ((Zc hl1).free ((Zc hl2).free hl3)))
         ⟨_,_,cs,Zg,by rw[<-ecs];exact(Zc hp) _ _ Zg,ncs,(),by first|exact hp4 _ hc1|decide,(),λx hx=>hp4 x (mcs x hx)⟩
         (((s4.trans (Zc hl1)).trans (Zc hl2)).trans ((Zc hl3).trans (Zc hp)))⟩⟩⟩⟩
theorem Fz(T:Txt mg)(Zj:Cal P w K mg base "_law_draw" 1 ["_law_hand","_law_many"] Rf){f:Addr}(F:Fun K "_law_bytes" "_law_bytes" D7 f fd):FnOk P w K mg base CX0 2 f fd ["_law_hand","_law_most"] Zgo:=by
 refine F.ok Dt (λvs H Q E h=>?_) (λcdv A outer s H vs Q E hr h=>?_)
 .let⟨p,a,m,rfl,_⟩:=h;rfl
 .let⟨p,a,m,rfl,hh,hm1,hm2,k⟩:=h;let SC:=Dt;let Zk:Room 1 _:=hr.mono nofun;refine⟨_,(Ze (Zv (i:=2) SC.nd rfl (Ed rfl) (Zw Zj Zk rfl (Za (pv 0) (Za Zh Zd))))
 (Ze (Zv (i:=3) SC.nd rfl (Ed rfl) (Z3 X4 Zh (Zw Zj Zk rfl (Za (pv 0) (Za Zh Zd)))))
 (Zi (Z0 (Wb (T:=["_law_k"]) (cs:=[2,3]) rfl (CScope.ok (by kernel_rfl)) (Yi rfl T.b_range (Za (Z3 X4 Zh (Zw Zj Zk rfl (Za (pv 0) (Za (Z3 Zhn (pv 1) Zh) Zd)))) Zd)) (λ_ _ _ _=>(Zx (i:=0) (Wd (by kernel_rfl)) rfl (Cg rfl) (Ed rfl))) (λ_ _ _ _=>Xc) (λ_ _ _ _=>(Z3 Xf (Z3 X4 (pv 1) (Z3 Vv (pv 2) (pv 0))) Zh)) (Xe nofun)))))),?_⟩
  refine⟨_,rfl,p,a,_,rfl,hh,nofun,nofun,λb0 H1 b00 b01 h1 g1 u1=>?_⟩;refine⟨_,rfl,p,a,_,rfl,h1,nofun,nofun,λs0 H2 s00 s01 h2 g2 u2=>⟨_,_,rfl,rfl,?_⟩⟩;refine⟨_,rfl,_,rfl,_,_,rfl,rfl,p,a,_,rfl,h2,(),(),λn0 H3 n00 n01 h3 g3 u3=>⟨_,_,rfl,rfl,(2+n0),rfl,(),(),Wg (n:=(2+n0).toNat)
   (λj ys H'=>H'=H3/\ys=((Ef j).map λk:Nat=>(b0+(1+s0)*(k:Int)) % 256).map V.int) ⟨rfl,rfl⟩ ?_ (Zp ()) ?_ ?_ ?_ ?_⟩⟩
  .rintro j ys H' ⟨rfl,rfl⟩;rw[Jb,Jb,Bp];exact Je _
  .rintro j ys H' hj _;exact hj
  .rintro ys H' _;exact Je _
  .rintro j ys H' hj ⟨rfl,rfl⟩ x H4 ⟨rfl,rfl⟩;exists ·,·,·,_,·,rfl,.inl ⟨(),()⟩,_,·,rfl,_,·,rfl,(by show(0:Int)<_;decide),rfl,?_;rw[Lw,Jg,Jg,Mb];rfl
  .rintro ys H' ⟨rfl,rfl⟩ l hl;let⟨_,_,_,ep,_⟩:=h3.ex;let nl:l≠p:=Cu (Zr ep hl);let g:=(g1.trans g2).trans g3;refine k l _ _ (g.free hl nl) nl Zg (Zca () ?_) ?_ ?_ (λb hb=>?_) (h3.same (Zc hl)) (g.trans (Grow.same (Zc hl)))
   .let:((2+n0).toNat:Int)=2+n0:=by lia
    rw[this];let h4:(1+s0)*(2+n0)<=(1+s0)*4:=K9 () ();lia
   .rw[Jb,Bp];lia
   .rw[Jb,Bp];lia
   .let⟨i,_,rfl⟩:=Jp.mp hb;exists G3 _ nofun,Gu _ nofun
theorem D4(T:Txt mg)(Zj:Cal P w K mg base "_law_draw" 1 ["_law_hand","_law_many"] Rf){f:Addr}(F:Fun K "_law_words" "_law_words" Dp f fd):FnOk P w K mg base CX0 2 f fd ["_law_hand","_law_some","_law_most","_law_longest"] Zgi:=by
 refine F.ok Jai (λvs H Q E h=>?_) (λcdv A outer s H vs Q E hr h=>?_)
 .let⟨p,a,sa,m,lg,bs,rfl,_⟩:=h;rfl
 .let⟨p,a,sa,m,lg,bs,rfl,hh,es,nsp,nd,hne,hl,hm1,hm2,hg1,hg2,k⟩:=h;let SC:=Jai;let Zk:Room 1 _:=hr.mono nofun;let hlp:0<bs.length:=Gk.mpr hne;refine⟨_,(Ze (Zv (i:=4) SC.nd rfl (Ed rfl) (Wb (T:=["_law_one"]) (cs:=[]) rfl (CScope.ok (by kernel_rfl)) (X0 (pv 1)) (λ_ _ _ _=>(Zx (i:=0) (Wd (by kernel_rfl)) rfl (Cg rfl) (Ed rfl))) (λ_ _ _ _=>Xc) (λ_ _ _ _=>(Yv (Za (pv 0) Zd))) (Xe nofun)))
 (Ze (Y2 Cm rfl (Yi rfl T.b_range (Za (Zw Zj Zk rfl (Za (pv 0) (Za (Z3 X4 (pv 2) Zh) Zd))) Zd)) (Zx (i:=5) SC.nd rfl (Cg rfl))
 (Ze (Zv (i:=6) SC.nd rfl (Ed rfl) (Z3 Xf (Zw Zj Zk rfl (Za (pv 0) (Za Zh Zd))) (Zs Y0 (by rfl) T.b_len Fw (Za (pv 4) Zd))))
 (Zi (Yn (Z5 Zhp (Zs Y0 (by rfl) T.b_len Fw (Za (Zz Y4 (pv 4) (pv 6) (λ_ _=>rfl)) Zd)) (pv 3) (Ya _))
 (Zi (Zv (i:=4) SC.nd rfl (Ed rfl) (Z3 Ph (Z3 Ph (Ye X9 (pv 4) Yw (Yc (pv 6))) (Wb (T:=["_law_one"]) (cs:=[4,6]) rfl (CScope.ok (by kernel_rfl)) (X0 (pv 1)) (λ_ _ _ _=>(Zx (i:=0) (Wd (by kernel_rfl)) rfl (Cg rfl) (Ed rfl))) (λ_ _ _ _=>Xc) (λ_ _ _ _=>(Z3 (Zpl (K:=K) rfl) (Zz (Zew (K:=K) rfl) (pv 1) (pv 2) (λ_ _=>rfl)) (Yv (Za (pv 0) Zd)))) (Xe nofun))) (Ye X9 (pv 4) (Yc (Z3 X4 (pv 6) Zh)) Yw))))
 Z1))))
 (Zi (Z0 (Wb (T:=["_law_word"]) (cs:=[0]) rfl (CScope.ok (by kernel_rfl)) (X0 (pv 4)) (λ_ _ _ _=>(Zx (i:=0) (Wd (by kernel_rfl)) rfl (Cg rfl) (Ed rfl))) (λ_ _ _ _=>(P9 (Z5 Zhr (Zw Zj Zk rfl (Za (pv 1) (Za Zh Zd))) Zh (Ya _)))) (λ_ _ _ _=>(pv 0)) (Xe nofun)))))),?_⟩
  exists ·,sa,rfl,⟨_,SqL.of es⟩,Wg (n:=bs.length) (λj ys H'=>ys.length=j/\Same H H'/\Xt H' ys ((bs.map λb=>[b]).take j)) ⟨rfl,.refl _,by rw[Bn];exact .nil⟩ ?_ (Zp ()) ?_ ?_ ?_ ?_
  .rintro j ys H' ⟨e,_⟩;exact G8 e
  .rintro j ys H' hj ⟨_,s1,_⟩;exact Zib (s1 _ _ es) (by rw[Jb];exact hj)
  .rintro ys H' ⟨_,s1,_⟩;exact Nn (s1 _ _ es) (by rw[Jb];exact Je _)
  .rintro j ys H' hj ⟨e,s1,w1⟩ y H'' hy;let⟨rfl,rfl⟩:=Zc0 (s1 _ _ es) (by rw[Jb];exact hj) hy;exists ·,by show 1<=sizeLine;decide,λq hq=>⟨by rw[Jd,e];rfl,s1.trans (Zc hq),?_⟩;rw[Jt (by rw[Jb];exact hj)];refine L2.Paired.snoc ⟨q,rfl,?_⟩ (Xt.tk w1 (Zc hq).tk);rw[Zg,G9,G9];rfl
  .rintro ys H1 ⟨e,s1,w1⟩ wl hwl;rw[<-Jb (f:=λb:Int=>[b]),Gb]at w1;let s2:=s1.trans (Zc (o:=.lst ys) hwl);let w2:=Xt.tk w1 (Zc (o:=.lst ys) hwl).tk;let e2:(upd H1 wl (.lst ys)) wl=some (.lst ys):=Zg;let⟨_,ep⟩:=Y5 hh;let nwp:wl≠p:=Cu (Zr (s1 _ _ ep) hwl);let nw0:H wl=none:=s1.free hwl;generalize upd H1 wl (.lst ys)=H2 at s2 w2 e2;refine⟨_,rfl,_,rfl,_,_,rfl,rfl,p,a,_,rfl,hh.same s2,(),(),λn0 H3 n00 n01 h3 g3 u3=>?_⟩;let inv0:WOk (bs.map λb=>[b]):=Zob nd;refine⟨n0,rfl,(),(),Tt (n:=n0.toNat) (λj σ H'=>∃wl ws v1 v2,σ=[some (.ref p),some (.ref sa),some (.int m),some (.int lg),some (.ref wl),v1,v2]/\H wl=none/\wl≠p/\Qo H' wl ws/\WOk ws/\ws≠[]/\ws.length<=bs.length+j*bs.length/\HandAt H' p a/\Grow p H H')
    ⟨wl,_,_,_,rfl,nw0,nwp,⟨ys,by rw[u3 wl nwp];exact e2,Xt.tk w2 (g3.tk (s2 _ _ ep))⟩,inv0,by simpa using hne,by rw[Jb];lia,h3,(Grow.same s2).trans g3⟩ ?_ ?_⟩
   .rintro j σ H4 hj ⟨wl,ws,v1,v2,rfl,nw0,nwp,⟨vs,e4,w4⟩,ok4,ne4,l4,h4,g4⟩;let lv:=Paired.length w4;let lp:0<vs.length:=by rw[lv];exact Gk.mpr ne4
    let hjb:j*bs.length<=6*24:=Fi () hl;exists ·,p,a,·,h4,nofun,nofun,λr H5 r0 r1 h5 g5 u5=>?_;let e5:H5 wl=some (.lst vs):=by rw[u5 wl nwp];exact e4
    let⟨_,ep4⟩:=Y5 h4;let w5:=Xt.tk w4 (g5.tk ep4);let es5:H5 sa=some (.lst (bs.map V.int)):=(g4.trans g5) _ _ es nsp;exists ·,_,·,.inl ⟨_,SqL.of e5,rfl⟩,_,·,rfl,(by show(0:Int)<_;lia),?_;let r2:0<=r % (vs.length:Int):=G3 _ ();let r3:r % (vs.length:Int)<vs.length:=Gu _ ();let⟨n,en0⟩:=Gh r2;let hn:n<vs.length:=by lia
    let⟨hn2,t,ev,et⟩:=Xt.take1 w5 hn;let atn:atI vs (r % (vs.length:Int))=some (.ref t):=by rw[en0,<-ev];exact Sg (Ja hn)
    let cut1:cutV vs none (some (r % (vs.length:Int)))=vs.take n:=by rw[en0,Zbq () (),Bo]
    let cut2:cutV vs (some (r % (vs.length:Int)+1)) none=vs.drop (n+1):=by rw[en0,S0 () ()];congr 1
    exists ·,·,wl,_,_,·,rfl,SqL.of e5,atn,_,·,.inr ⟨_,SqT.of et,rfl⟩,·,_,·,rfl,·,?_;refine ite2 (λhlt=>?_) (λhlt=>?_)
    .let hlt':((ws[n].map V.int).length:Int)<lg:=of_decide_eq_true hlt;rw[Jb]at hlt';exists ·,·,·,wl,·,SqL.of e5,λq1 hq1=>?_;rw[cut1];let s6:=Zc (o:=.lst (vs.take n)) hq1;let e61:(upd H5 q1 (.lst (vs.take n))) q1=_:=Zg;let nq1:q1≠p:=by let⟨_,ep5⟩:=Y5 h5;exact Cu (Zr ep5 hq1)
     generalize upd H5 q1 (.lst (vs.take n))=H6 at s6 e61;exists ·,sa,rfl,⟨_,SqL.of (s6 _ _ es5)⟩,Wg (n:=bs.length) (λj ys H'=>ys.length=j/\Same H6 H'/\Xt H' ys ((bs.map λb=>ws[n]++[b]).take j)) ⟨rfl,.refl _,by rw[Bn];exact .nil⟩ ?_ (Zp ()) ?_ ?_ ?_ ?_
     .rintro j ys H' ⟨e,_⟩;exact G8 e
     .rintro j ys H' hj ⟨_,s1,_⟩;exact Zib (s1 _ _ (s6 _ _ es5)) (by rw[Jb];exact hj)
     .rintro ys H' ⟨_,s1,_⟩;exact Nn (s1 _ _ (s6 _ _ es5)) (by rw[Jb];exact Je _)
     .rintro j ys H' hj ⟨e,s1,w1⟩ y H'' hy;let⟨rfl,rfl⟩:=Zc0 (s1 _ _ (s6 _ _ es5)) (by rw[Jb];exact hj) hy;let et':=s1 _ _ (s6 _ _ et);exists ·,·,wl,_,_,·,rfl,SqL.of (s1 _ _ (s6 _ _ e5)),atn,·,by show 1<=sizeLine;decide,λq hq=>?_;let sq:=Zc (o:=.tup [(bs.map V.int)[j]'(by rw[Jb];exact hj)]) hq;exists t,q,_,·,rfl,SqT.of (sq _ _ et'),SqT.of Zg,?_,?_,λz=>absurd z (by simp),λ_ q2 hq2=>?_
      .let:=(ok4.2 ws[n] (Jr hn2)).1;simpa using this
      .rw[Jb];show ws[n].length+1<=sizeLine;exact J0 (by lia:ws[n].length+1<=10) nofun
      .exists by rw[Jd,e];rfl,(s1.trans sq).trans (Zc hq2),?_;rw[Jt (by rw[Jb];exact hj)];refine L2.Paired.snoc ⟨q2,rfl,?_⟩ (Xt.tk w1 (sq.tk.trans (Zc hq2).tk));rw[Zg,G9,G9,Jg];rfl
     .rintro ys H7 ⟨e,s7,w7⟩ q3 hq3;rw[<-Jb (f:=λb:Int=>ws[n]++[b]),Gb]at w7;let s8:=s6.trans (s7.trans (Zc (o:=.lst ys) hq3));let e8:(upd H7 q3 (.lst ys)) q3=some (.lst ys):=Zg;let e81:=(s7.trans (Zc (o:=.lst ys) hq3)) _ _ e61;let w8:=Xt.tk w7 (Zc (o:=.lst ys) hq3).tk;generalize upd H7 q3 (.lst ys)=H8 at s8 e8 e81 w8;let ly:ys.length=bs.length:=by rw[Paired.length w8,Jb]
      exists q1,q3,_,·,rfl,e81,e8,?_,λq4 hq4=>?_
      .rw[Ji,ly];exact Zp ()
      let s9:=s8.trans (Zc (o:=.lst (vs.take n++ys)) hq4);let e9:(upd H8 q4 (.lst (vs.take n++ys))) q4=_:=Zg;let w9:=Xt.tk w8 (Zc (o:=.lst (vs.take n++ys)) hq4).tk;generalize upd H8 q4 (.lst (vs.take n++ys))=H9 at s9 e9 w9;exists ·,·,_,·,rfl,·,wl,·,SqL.of (s9 _ _ e5),λq5 hq5=>?_;rw[cut2];let s10:=s9.trans (Zc (o:=.lst (vs.drop (n+1))) hq5);let e10:(upd H9 q5 (.lst (vs.drop (n+1)))) q5=_:=Zg;let e104:=Zc (o:=.lst (vs.drop (n+1))) hq5 _ _ e9;let w10:=Xt.tk w9 (Zc (o:=.lst (vs.drop (n+1))) hq5).tk;generalize upd H9 q5 (.lst (vs.drop (n+1)))=H10 at s10 e10 e104 w10
      exists q4,q5,_,·,rfl,e104,e10,?_,λq6 hq6=>?_
      .rw[Jd,Ji,J8,ly];exact Zp ()
      let s11:=s10.trans (Zc (o:=.lst (vs.take n++ys++vs.drop (n+1))) hq6);let w11:=Xt.tk w10 (Zc (o:=.lst (vs.take n++ys++vs.drop (n+1))) hq6).tk;let hsp:ws=ws.take n++ws[n]::ws.drop (n+1):=by
       rw[<-Bi hn2,B5]
      let ok11:WOk (ws.take n++(bs.map λb=>ws[n]++[b])++ws.drop (n+1)):=Zkx nd (hsp ▸ ok4) ();let ws5:=Xt.tk w5 s11.tk;let⟨_,ep5⟩:=Y5 h5;let nq6:q6≠p:=Cu (Zr (s10 _ _ ep5) hq6);exists q6,_,_,·,?_,nq6,⟨_,Zg,L2.Paired.app (L2.Paired.drp (n+1) ws5) (L2.Paired.app w11 (L2.Paired.tak n ws5))⟩,ok11,?_,?_,h5.same s11,(g4.trans g5).trans (Grow.same s11)
      .exact(g4.trans g5).free (s10.free hq6) nq6
      .intro z;let:=congrArg Ey z;simp only[Jd,Jb,Bw]at this;lia
      .rw[Jd,Jd,Ji,J8,Jb,Jim,Nat.one_mul];lia
    .exists wl,ws,_,·,nw0,nwp,⟨vs,e5,w5⟩,ok4,ne4,?_,h5,g4.trans g5;rw[Jim];lia
   .rintro σ H4 ⟨wl,ws,v1,v2,rfl,nw0,nwp,⟨vs,e4,w4⟩,ok4,ne4,l4,h4,g4⟩;let lv:=Paired.length w4;let lb:ws.length<=200:=by
     let:n0.toNat*bs.length<=6*24:=Fi () hl;lia
    exists ·,wl,rfl,⟨_,SqL.of e4⟩,Wg (n:=vs.length) (λj ys H'=>∃us:List (List Int),Xt H' ys us/\us.Sublist (ws.take j)/\HandAt H' p a/\Grow p H4 H') ⟨[],.nil,List.nil_sublist _,h4,Grow.refl _ _⟩ ?_ (Zp ()) ?_ ?_ ?_ ?_
    .rintro j ys H' ⟨us,w1,sb,_⟩;let:=sb.length_le;rw[Ji]at this;rw[Paired.length w1];lia
    .rintro j ys H' hj ⟨us,w1,sb,h1,g1⟩;exact Zib (g1 _ _ e4 nwp) hj
    .rintro ys H' ⟨us,w1,sb,h1,g1⟩;exact Nn (g1 _ _ e4 nwp) (Je _)
    .rintro j ys H' hj ⟨us,w1,sb,h1,g1⟩ y H'' hy;let⟨rfl,rfl⟩:=Zc0 (g1 _ _ e4 nwp) hj hy;exists ·,p,a,·,h1,nofun,nofun,λr H6 r0 r1 h6 g6 u6=>⟨_,_,rfl,rfl,_,rfl,?_⟩;let⟨_,ep1⟩:=Y5 h1;let hj2:j<ws.length:=by lia
     let tk:(ws.take (j+1))=ws.take j++[ws[j]]:=Jt hj2;refine ite2 (λ_=>?_) (λ_=>?_)
     .exists ·,us++[ws[j]],L2.Paired.snoc ?_ (Xt.tk w1 (g6.tk ep1)),by rw[tk];exact sb.append (Jiu _),h6,g1.trans g6;let⟨_,ep4⟩:=Y5 h4;exact(L2.Paired.at w4 hj hj2).tk ((g1.trans g6).tk ep4)
     .exists us,Xt.tk w1 (g6.tk ep1),by rw[tk];exact sb.trans (List.sublist_append_left _ _),h6,g1.trans g6
    .rintro ys H5 ⟨us,w1,sb,h5,g5⟩ q hq;rw[lv,Gb]at sb;let⟨_,ep5⟩:=Y5 h5;let nq:q≠p:=Cu (Zr ep5 hq);let g:=g4.trans g5;refine k q us _ (g.free hq nq) nq ⟨ys,Zg,Xt.tk w1 (Zc hq).tk⟩ (ok4.sub sb) ?_ (h5.same (Zc hq)) (g.trans (Grow.same (Zc hq)));let l1:=sb.length_le;let l2:n0.toNat*bs.length<=m.toNat*bs.length:=Fi () (Je _);let l3:((m.toNat*bs.length:Nat):Int)=m*bs.length:=by rw[Int.natCast_mul];congr 1;lia
     lia
theorem Jaq(T:Txt mg)(Zj:Cal P w K mg base "_law_draw" 1 ["_law_hand","_law_many"] Rf){f:Addr}(F:Fun K "_law_signs" "_law_signs" De f fd):FnOk P w K mg base CX0 2 f fd ["_law_hand","_law_many"] Zgl:=by
 refine F.ok Da (λvs H Q E h=>?_) (λcdv A outer s H vs Q E hr h=>?_)
 .let⟨p,a,m,rfl,_⟩:=h;rfl
 .let⟨p,a,m,rfl,hh,hm0,hm1,k⟩:=h;let SC:=Da;let Zk:Room 1 _:=hr.mono nofun;refine⟨_,(Ze (Zv (i:=2) SC.nd rfl (Ed rfl) (Z3 Vv (Z9 Zjl (by rfl) T.b_int K6 (Za (Zcq Zhr (Zw Zj Zk rfl (Za (pv 0) (Za Zh Zd))) Zh (Ya _)) Zd)) (Z3 X4 (Z3 Vv (Zw Zj Zk rfl (Za (pv 0) (Za Zh Zd))) (Z3 Zho Zh Zh)) (Zw Zj Zk rfl (Za (pv 0) (Za Zh Zd))))))
 (Ze (Zv (i:=3) SC.nd rfl (Ed rfl) (Z3 X4 Zh (Zz Y4 (Xk (Za Zh (Za (Zw Zj Zk rfl (Za (pv 0) (Za Zh Zd))) (Za (Zw Zj Zk rfl (Za (pv 0) (Za (Z3 Zho Zh Zh) Zd))) Zd)))) (Zw Zj Zk rfl (Za (pv 0) (Za Zh Zd))) (λ_ _=>rfl))))
 (Ze (U3 (i:=4) SC.nd rfl rfl (T:=["_law_k"]) (cs:=[2,3]) rfl (CScope.ok (by kernel_rfl)) (Yi rfl T.b_range (Za (pv 1) Zd)) (λ_ _ _ _=>(Zx (i:=0) (Wd (by kernel_rfl)) rfl (Cg rfl) (Ed rfl))) (λ_ _ _ _=>Xc) (λ_ _ _ _=>(Z3 X4 (pv 1) (Z3 Vv (pv 2) (pv 0)))) (Xe nofun))
 (Ze (Zv (i:=5) SC.nd rfl (Cg rfl) (Z3 Xf (Zw Zj Zk rfl (Za (pv 0) (Za Zh Zd))) (Zs (Ql rfl) (by rfl) T.b_max Hv (Za Zh (Za (pv 1) Zd)))))
 (Ze (Zv (i:=4) SC.nd rfl (Cg rfl) (Z3 Ph (Ye X9 (pv 4) (Yc (pv 5)) Yw) (Ye X9 (pv 4) Yw (Yc (pv 5)))))
 (Ze (Yn (Z5 Zht (Zw Zj Zk rfl (Za (pv 0) (Za Zh Zd))) Zh (Ya _))
 (Zi (Z0 (Zhh (pv 4) (Yc (T6 W2 Zh)) (λ_ _=>⟨_,rfl⟩))))
 Z1)
 (Zi (Z0 (pv 4))))))))),?_⟩
  exists ·,p,a,·,hh,nofun,nofun,λr1 H1 r10 r11 h1 g1 u1=>⟨_,_,rfl,rfl,.inr ⟨_,rfl,_,rfl,p,a,_,rfl,h1,nofun,nofun,λr2 H2 r20 r21 h2 g2 u2=>⟨_,_,rfl,rfl,⟨nofun,nofun,nofun⟩,_,_,rfl,rfl,.inl ⟨(),()⟩,_,rfl,p,a,_,rfl,h2,nofun,nofun,λr3 H3 r30 r31 h3 g3 u3=>⟨_,_,rfl,rfl,_,_,rfl,rfl,.inl ?_,?_⟩⟩⟩⟩
  .split<;>exact⟨nofun,nofun⟩
  obtain⟨bg,hbg⟩:∃bg:Int,bg=(if decide (0<r1)=true then(1:Int)else 0)*(r2*10 ^ Int.toNat 6+r3):=⟨_,rfl⟩;let g30:=(g1.trans g2).trans g3;exists ·,p,a,·,h3,nofun,nofun,λr4 H4 r40 r41 h4 g4 u4=>⟨_,rfl,_,_,rfl,rfl,⟨nofun,nofun,nofun⟩,p,a,_,rfl,h4,nofun,nofun,λr5 H5 r50 r51 h5 g5 u5=>⟨by show 3<=sizeLine;decide,λlq hlq=>?_⟩⟩;let s6:=Zc (o:=.lst [.int 0,.int r4,.int r5]) hlq;let⟨_,ep5⟩:=Y5 h5;let nlq:lq≠p:=Cu (Zr ep5 hlq);let elq:(upd H5 lq (.lst [.int 0,.int r4,.int r5])) lq=_:=Zg;let h6:=h5.same s6;let g60:=g30.trans (g4.trans (g5.trans (Grow.same s6)))
  generalize upd H5 lq (.lst [.int 0,.int r4,.int r5])=H6 at s6 elq h6 g60;exists ·,p,a,·,h6,nofun,nofun,λr6 H7 r60 r61 h7 g7 u7=>?_;let elq7:H7 lq=some (.lst [.int 0,.int r4,.int r5]):=by rw[u7 lq nlq];exact elq
  let⟨v,hv,ev⟩:=Zlr (xs:=[V.int 0,.int r4,.int r5]) r60 (by simpa using r61);obtain⟨c,rfl,hc⟩:∃c:Int,v=.int c/\0<=c:=by
   simp only[Jq,Jfn,or_false]at hv;rcases hv with z|z|z<;>exact⟨_,z,()⟩
  let r51':r5<10000000:=r51;let hc2:c<10000000:=by
   simp only[Jq,Jfn,or_false]at hv;rcases hv with z|z|z<;>injection z with z<;>lia
  exists lq,_,_,·,rfl,SqL.of elq7,ev,_,·,rfl,?_;exists ·,m,rfl,(),(),Wg (n:=m.toNat) (λj ys H'=>H'=H7/\ys=((Ef j).map λk:Nat=>bg+(1+c)*(k:Int)).map V.int) ⟨rfl,rfl⟩ ?_ (Zp ()) ?_ ?_ ?_ ?_
  .rintro j ys H' ⟨rfl,rfl⟩;rw[Jb,Jb,Bp];exact Je _
  .rintro j ys H' hj _;exact hj
  .rintro ys H' _;exact Je _
  .rintro j ys H' hj ⟨rfl,rfl⟩ x H8 ⟨rfl,rfl⟩;exists ·,·,·,_,·,rfl,.inl ⟨(),()⟩,_,·,rfl,rfl,?_;rw[Lw,Jg,Jg,Mb,hbg];rfl
  .rintro ys H' ⟨rfl,rfl⟩ l hl;generalize hss:(Ef m.toNat).map (λk:Nat=>bg+(1+c)*(k:Int))=ss;let nd:ss.Nodup:=by rw[<-hss];exact Zgf () _
   let ls:(ss.length:Int)=m:=by rw[<-hss,Jb,Bp];lia
   let s8:=Zc (o:=.lst (ss.map V.int)) hl;let e8:(upd H' l (.lst (ss.map V.int))) l=_:=Zg;let⟨_,ep7⟩:=Y5 h7;let nl:l≠p:=Cu (Zr ep7 hl);let h8:=h7.same s8;let g80:=(g60.trans g7).trans (Grow.same s8);generalize upd H' l (.lst (ss.map V.int))=H8 at s8 e8 h8 g80;exists ·,p,a,·,h8,nofun,nofun,λr9 H9 r90 r91 h9 g9 u9=>⟨_,rfl,_,_,rfl,_,_,rfl,rfl,?_,?_⟩
   .show(0:Int)<if m > 1 then m else 1
    split<;>lia
   let e9:H9 l=some (.lst (ss.map V.int)):=by rw[u9 l nl];exact e8
   let z0:0<=r9 % (if m > 1 then m else 1):=G3 _ (by split<;>lia);let z1:r9 % (if m > 1 then m else 1)<=ss.length:=by
    rw[ls];let:=Gu r9 (show(0:Int)<if m > 1 then m else 1 by split<;>lia)
    by_cases hm:m > 1
    .rw[Fs hm]at this⊢;lia
    .rw[Fp hm]at this⊢;lia
   let⟨n,en⟩:=Gh z0;let cut1:cutV (ss.map V.int) (some (r9 % (if m > 1 then m else 1))) none=(ss.drop n).map V.int:=by rw[en,S0 () (by rw[Jb];lia),B0];rfl
   let cut2:cutV (ss.map V.int) none (some (r9 % (if m > 1 then m else 1)))=(ss.take n).map V.int:=by rw[en,Zbq () (by rw[Jb];lia),Bs];rfl
   exists ·,·,·,l,·,SqL.of e9,λq1 hq1=>?_;rw[cut1];let sA:=Zc (o:=.lst ((ss.drop n).map V.int)) hq1;let eA:(upd H9 q1 (.lst ((ss.drop n).map V.int))) q1=_:=Zg;generalize upd H9 q1 (.lst ((ss.drop n).map V.int))=HA at sA eA;exists ·,·,·,l,·,SqL.of (sA _ _ e9),λq2 hq2=>?_;rw[cut2];let sB:=sA.trans (Zc (o:=.lst ((ss.take n).map V.int)) hq2);let eB:(upd HA q2 (.lst ((ss.take n).map V.int))) q2=_:=Zg;let eB1:=Zc (o:=.lst ((ss.take n).map V.int)) hq2 _ _ eA;generalize upd HA q2 (.lst ((ss.take n).map V.int))=HB at sB eB eB1;exists q1,q2,_,·,rfl,eB1,eB,?_,λq3 hq3=>?_
   .rw[Jb,Jb,J8,Ji];exact Zp ()
   rw[<-Jg];let nd2:=Q5 nd n;let ls2:((ss.drop n++ss.take n).length:Int)=m:=by rw[Jd,J8,Ji];lia
   generalize ss.drop n++ss.take n=tt at nd2 ls2;let sC:=sB.trans (Zc (o:=.lst (tt.map V.int)) hq3);let eC:(upd HB q3 (.lst (tt.map V.int))) q3=_:=Zg;let⟨_,ep9⟩:=Y5 h9;let nq3:q3≠p:=Cu (Zr (sB _ _ ep9) hq3);let n30:H q3=none:=(g80.trans g9).free (sB.free hq3) nq3;let hC:=h9.same sC;let gC:=(g80.trans g9).trans (Grow.same sC);generalize upd HB q3 (.lst (tt.map V.int))=HC at sC eC hC gC;exists ·,p,a,·,hC,nofun,nofun,λrd HD rd0 rd1 hD gD uD=>⟨rfl,_,rfl,?_⟩;let eD:HD q3=some (.lst (tt.map V.int)):=by rw[uD q3 nq3];exact eC
   refine ite2 (λ_=>?_) (λ_=>?_)
   .exists ·,·,·,rfl,q3,·,SqL.of eD,λq4 hq4=>?_;rw[<-Jcp];let sE:=Zc (o:=.lst (tt.reverse.map V.int)) hq4;let⟨_,epD⟩:=Y5 hD;let nq4:q4≠p:=Cu (Zr epD hq4);exact k q4 tt.reverse _ ((gC.trans gD).free hq4 nq4) nq4 Zg ((Je2 tt).nodup_iff.mpr nd2) (by rw[Fc];exact ls2) (hD.same sE) ((gC.trans gD).trans (Grow.same sE))
   .exists ·,k q3 tt HD n30 nq3 eD nd2 ls2 hD (gC.trans gD)
theorem Dv(T:Txt mg)(Zj:Cal P w K mg base "_law_draw" 1 ["_law_hand","_law_many"] Rf){f:Addr}(F:Fun K "_law_table" "_law_table" F3 f fd):FnOk P w K mg base CX0 2 f fd ["_law_hand","_law_words_here","_law_signs_here"] Zgk:=by
 refine F.ok Dw (λvs H Q E h=>?_) (λcdv A outer s H vs Q E hr h=>?_)
 .let⟨p,a,wa,sa,ws,ss,rfl,_⟩:=h;rfl
 .let⟨p,a,wa,sa,ws,ss,rfl,hh,⟨vs,ew,pw⟩,nwp,ok,lw,es,nsp,nd,lws,l100,k⟩:=h;let SC:=Dw;let Zk:Room 1 _:=hr.mono nofun;let lv:=Paired.length pw;refine⟨_,(Ze (Zv (i:=3) SC.nd rfl (Cg rfl) (Z3 Xf (Zw Zj Zk rfl (Za (pv 0) (Za Zh Zd))) (Zs (Ql rfl) (by rfl) T.b_max Hv (Za Zh (Za (Zs Y0 (by rfl) T.b_len Fw (Za (pv 2) Zd)) Zd)))))
 (Ze (Zv (i:=4) SC.nd rfl (Ed rfl) (Z3 Ph (Ye X9 (pv 2) (Yc (pv 3)) Yw) (Ye X9 (pv 2) Yw (Yc (pv 3)))))
 (Ze (U3 (i:=5) SC.nd rfl rfl (T:=["_law_k"]) (cs:=[4,1]) rfl (CScope.ok (by kernel_rfl)) (Yi rfl T.b_range (Za (Zs Y0 (by rfl) T.b_len Fw (Za (pv 1) Zd)) Zd)) (λ_ _ _ _=>(Zx (i:=0) (Wd (by kernel_rfl)) rfl (Cg rfl) (Ed rfl))) (λ_ _ _ _=>Xc) (λ_ _ _ _=>(Yv (Za (Zz (Zew (K:=K) rfl) (pv 1) (pv 0) (λ_ _=>rfl)) (Za (Zz (Zew (K:=K) rfl) (pv 2) (pv 0) (λ_ _=>rfl)) Zd)))) (Xe nofun))
 (Ze (Yn (Z5 Zht (Zw Zj Zk rfl (Za (pv 0) (Za Zh Zd))) Zh (Ya _))
 (Zi (Z0 (Zhh (pv 5) (Yc (T6 W2 Zh)) (λ_ _=>⟨_,rfl⟩))))
 Z1)
 (Zi (Z0 (pv 5))))))),?_⟩
  exists ·,p,a,·,hh,nofun,nofun,λr9 H9 r90 r91 h9 g9 u9=>⟨_,rfl,_,_,rfl,.inl ⟨_,SqL.of (show H9 sa=some (.lst (ss.map V.int))by rw[u9 sa nsp];exact es),rfl⟩,_,_,rfl,_,_,rfl,rfl,?_,?_⟩
  .show(0:Int)<if(((ss.map V.int).length:Nat):Int) > 1 then(((ss.map V.int).length:Nat):Int)else 1
   split<;>lia
  rw[Jb];let e9:H9 sa=some (.lst (ss.map V.int)):=by rw[u9 sa nsp];exact es
  let w9:H9 wa=some (.lst vs):=by rw[u9 wa nwp];exact ew
  let⟨_,ep⟩:=Y5 hh;let pw9:=Xt.tk pw (g9.tk ep);let z0:0<=r9 % (if((ss.length:Nat):Int) > 1 then((ss.length:Nat):Int)else 1):=G3 _ (by split<;>lia);let z1:r9 % (if((ss.length:Nat):Int) > 1 then((ss.length:Nat):Int)else 1)<=ss.length:=by
   let:=Gu r9 (show(0:Int)<if((ss.length:Nat):Int) > 1 then((ss.length:Nat):Int)else 1 by split<;>lia)
   by_cases hm:((ss.length:Nat):Int) > 1
   .rw[Fs hm]at this⊢;lia
   .rw[Fp hm]at this⊢;lia
  let⟨n,en⟩:=Gh z0;let cut1:cutV (ss.map V.int) (some (r9 % (if((ss.length:Nat):Int) > 1 then((ss.length:Nat):Int)else 1))) none=(ss.drop n).map V.int:=by rw[en,S0 () (by rw[Jb];lia),B0];rfl
  let cut2:cutV (ss.map V.int) none (some (r9 % (if((ss.length:Nat):Int) > 1 then((ss.length:Nat):Int)else 1)))=(ss.take n).map V.int:=by rw[en,Zbq () (by rw[Jb];lia),Bs];rfl
  exists ·,·,·,sa,·,SqL.of e9,λq1 hq1=>?_;rw[cut1];let sA:=Zc (o:=.lst ((ss.drop n).map V.int)) hq1;let eA:(upd H9 q1 (.lst ((ss.drop n).map V.int))) q1=_:=Zg;generalize upd H9 q1 (.lst ((ss.drop n).map V.int))=HA at sA eA;exists ·,·,·,sa,·,SqL.of (sA _ _ e9),λq2 hq2=>?_;rw[cut2];let sB:=sA.trans (Zc (o:=.lst ((ss.take n).map V.int)) hq2);let eB:(upd HA q2 (.lst ((ss.take n).map V.int))) q2=_:=Zg;let eB1:=Zc (o:=.lst ((ss.take n).map V.int)) hq2 _ _ eA;generalize upd HA q2 (.lst ((ss.take n).map V.int))=HB at sB eB eB1;exists q1,q2,_,·,rfl,eB1,eB,?_,λq3 hq3=>?_
  .rw[Jb,Jb,J8,Ji];exact Zp ()
  rw[<-Jg];let nd2:=Q5 nd n;let ls2:(ss.drop n++ss.take n).length=ss.length:=by rw[Jd,J8,Ji];lia
  generalize ss.drop n++ss.take n=tt at nd2 ls2;let sC:=sB.trans (Zc (o:=.lst (tt.map V.int)) hq3);let eC:(upd HB q3 (.lst (tt.map V.int))) q3=_:=Zg;let hC:=h9.same sC;let gC:=g9.trans (Grow.same sC);let wC:=sC _ _ w9;let pwC:=Xt.tk pw9 sC.tk;generalize upd HB q3 (.lst (tt.map V.int))=HC at sC eC hC gC wC pwC;exists ·,_,·,.inl ⟨_,SqL.of wC,rfl⟩,(vs.length:Int),rfl,(),(),Wg (n:=((vs.length:Nat):Int).toNat) (λj ys H'=>ys.length=j/\Same HC H'/\Prs H' ys ((tt.zip ws).take j)) ⟨rfl,.refl _,by rw[Bn];exact .nil⟩ ?_ (Zp ()) ?_ ?_ ?_ ?_
  .rintro j ys H' ⟨e,_⟩;exact G8 e
  .rintro j ys H' hj _;exact hj
  .rintro ys H' _;exact Je _
  .rintro j ys H' hj ⟨e,s1,w1⟩ y H'' ⟨rfl,rfl⟩;let hj1:j<vs.length:=by lia
   let⟨hj2,t,ev,et⟩:=Xt.take1 pwC hj1;let hj3:j<tt.length:=by lia
   let hz:j<(tt.zip ws).length:=by rw[Bb];lia
   exists ·,·,q3,_,_,·,rfl,SqL.of (s1 _ _ eC),N9 (v:=V.int tt[j]) (by rw[Jv,Ja hj3];rfl),·,·,wa,_,_,·,rfl,SqL.of (s1 _ _ wC),N9 (v:=.ref t) (by rw[Ja hj1,ev]),by show 2<=sizeLine;decide,λq hq=>?_;exists by rw[Jd,e];rfl,s1.trans (Zc hq),?_;rw[Jt hz];refine L2.Paired.snoc ⟨q,t,rfl,?_,?_⟩ (Prs.tk w1 (Zc hq).tk)
   .rw[Zg,Ba]
   .rw[Ba];exact Zc hq _ _ (s1 _ _ et)
  .rintro ys H1 ⟨e,s1,w1⟩ q hq;let ez:(tt.zip ws).take ((vs.length:Nat):Int).toNat=tt.zip ws:=Gc (by rw[Bb];lia);rw[ez]at w1;let sD:=s1.trans (Zc (o:=.lst ys) hq);let eD:(upd H1 q (.lst ys)) q=_:=Zg;let wD:=Prs.tk w1 (Zc (o:=.lst ys) hq).tk;let⟨_,epC⟩:=Y5 hC;let nq:q≠p:=Cu (Zr (s1 _ _ epC) hq);let nq0:H q=none:=gC.free (s1.free hq) nq;let hD:=hC.same sD;let gD:=gC.trans (Grow.same sD);generalize upd H1 q (.lst ys)=HD at sD eD wD hD gD;let fr:Free (tt.zip ws):=ok.free nd2;let sn:(tt.zip ws).map (·.2)=ws:=by
    let:=Jfk (l₁:=tt) (l₂:=ws) ();exact this
   let fi:Fits (tt.zip ws):=⟨by rw[Bb];lia,λp hp=>ok.2 _ (by rw[<-sn];exact Jp.mpr ⟨p,hp,rfl⟩)⟩;exists ·,p,a,·,hD,nofun,nofun,λrd HE rd0 rd1 hE gE uE=>⟨rfl,_,rfl,?_⟩;let eE:HE q=some (.lst ys):=by rw[uE q nq];exact eD
   let⟨_,epD⟩:=Y5 hD;let wE:=Prs.tk wD (gE.tk epD);refine ite2 (λ_=>?_) (λ_=>?_)
   .exists ·,·,·,rfl,q,·,SqL.of eE,λq4 hq4=>?_;let sF:=Zc (o:=.lst ys.reverse) hq4;let⟨_,epE⟩:=Y5 hE;let nq4:q4≠p:=Cu (Zr epE hq4);refine k q4 (tt.zip ws).reverse _ ((gD.trans gE).free hq4 nq4) nq4 ⟨_,Zg,Prs.tk (L2.Paired.rev wE) sF.tk⟩ fr.rev ⟨by rw[Fc];exact fi.1,λp hp=>fi.2 p (List.mem_reverse.mp hp)⟩ ?_ (hE.same sF) ((gD.trans gE).trans (Grow.same sF));rw[Jcp,sn];exact Je2 _
   .exists ·,k q (tt.zip ws) HE nq0 nq ⟨_,eE,wE⟩ fr fi (by rw[sn]) hE (gD.trans gE)
theorem Jar(T:Txt mg)(Zj:Cal P w K mg base "_law_draw" 1 ["_law_hand","_law_many"] Rf){f:Addr}(F:Fun K "_law_text" "_law_text" Jby f fd):FnOk P w K mg base CX0 2 f fd ["_law_hand","_law_signs_here","_law_most"] Zl0:=by
 refine F.ok Jax (λvs H Q E h=>?_) (λcdv A outer s H vs Q E hr h=>?_)
 .let⟨p,a,sa,ss,m,rfl,_⟩:=h;rfl
 .let⟨p,a,sa,ss,m,rfl,hh,es,nsp,hm0,hm1,k⟩:=h;let SC:=Jax;let hu:=hr.units;let Zk:Room 1 _:=hr.mono nofun;refine⟨_,(Ze (Yn (Z5 (Zea hu) (pv 1) (Xk Zd) (Ya _))
 (Zi (Z0 (Xk Zd)))
 Z1)
 (Zi (Z0 (Wb (T:=["_law_k"]) (cs:=[1,0]) rfl (CScope.ok (by kernel_rfl)) (Yi rfl T.b_range (Za (Zw Zj Zk rfl (Za (pv 0) (Za (Z3 X4 (pv 2) Zh) Zd))) Zd)) (λ_ _ _ _=>(Zx (i:=0) (Wd (by kernel_rfl)) rfl (Cg rfl) (Ed rfl))) (λ_ _ _ _=>Xc) (λ_ _ _ _=>(Zz (Zew (K:=K) rfl) (pv 1) (Z3 Xf (Zw Zj Zk rfl (Za (pv 2) (Za Zh Zd))) (Zs (Xo (K:=K) rfl) (by rfl) T.b_len Fw (Za (pv 1) Zd))) (λ_ _=>rfl))) (Xe nofun))))),?_⟩
  exists ·,by show 0<=sizeLine;decide,λq0 hq0=>?_;let s1:=Zc (o:=.lst []) hq0;exists _,_,DV.lst (SqL.of (s1 _ _ es)) (Tv ss),DV.lst (SqL.of Zg) .nil,(Su ss).shaped nofun,(Su []).shaped nofun,·,?_;let h1:=hh.same s1;generalize upd H q0 (.lst [])=H1 at s1 h1;let en:C9 (.list (ss.map Hh)) (.list [])=decide (ss=[]):=Zo8 ss [];rw[en];let⟨_,ep⟩:=Y5 hh;refine ite2 (λhz=>?_) (λhz=>?_)
  .exists by show 0<=sizeLine;decide,λq hq=>?_;let s2:=s1.trans (Zc (o:=.lst []) hq);let nq:q≠p:=Cu (Zr (s1 _ _ ep) hq);exact k q [] _ (s1.free hq) nq Zg (λ_ z=>nomatch z) (by simpa using hm0) (hh.same s2) (Grow.same s2)
  .let hne:ss≠[]:=of_decide_eq_false (Jfo _ ▸ hz);exists ·,·,_,·,rfl,p,a,·,h1,(),(),λn0 H2 n00 n01 h2 g2 u2=>?_;let es2:=g2 _ _ (s1 _ _ es) nsp;exists n0,rfl,(),(),Wg (n:=n0.toNat) (λj ys H'=>∃ts:List Int,ys=ts.map V.int/\ts.length=j/\(∀t∈ts,t∈ss)/\HandAt H' p a/\Grow p H2 H') ⟨[],rfl,rfl,(λ_ z=>nomatch z),h2,Grow.refl _ _⟩ ?_ (Zp ()) ?_ ?_ ?_ ?_
   .rintro j ys H' ⟨ts,rfl,rfl,_⟩;rw[Jb];exact Je _
   .rintro j ys H' hj _;exact hj
   .rintro ys H' _;exact Je _
   .rintro j ys H3 hj ⟨ts,rfl,rfl,hm,h3,g3⟩ y H'' ⟨rfl,rfl⟩;exists ·,·,p,a,·,h3,nofun,nofun,λr H4 r0 r1 h4 g4 u4=>?_;let es4:=(g3.trans g4) _ _ es2 nsp;let⟨c,hc,hat⟩:=N7 hne r;exists ·,_,·,.inl ⟨_,SqL.of es4,rfl⟩,_,·,rfl,?_,sa,_,_,·,rfl,SqL.of es4,hat,?_
    .rw[Jb];let:=Gk.mpr hne;lia
    exists ts++[c],by rw[Jg];rfl,by rw[Jd];rfl,λt ht=>?_,h4,g3.trans g4;rcases Ga.mp ht with ht|ht
    .exact hm t ht
    .rw[Jm.mp ht];exact hc
   .rintro ys H3 ⟨ts,rfl,lt,hm,h3,g3⟩ q hq;let g:=((Grow.same s1).trans g2).trans g3;let⟨_,ep3⟩:=Y5 h3;let nq:q≠p:=Cu (Zr ep3 hq);exact k q ts _ (g.free hq nq) nq Zg hm () (h3.same (Zc hq)) (g.trans (Grow.same (Zc hq)))
theorem Jbv(T:Txt mg){f:Addr}(F:Fun K "odds_between" "odds_between" Ws f fd):FnOk P w K mg base CX0 1 f fd ["one","other"] Zl2:=by
 refine F.ok Dg (λvs H Q E h=>?_) (λcdv A outer s H vs Q E hr h=>?_)
 .let⟨v1,v2,p,q,rfl,_⟩:=h;rfl
 .let⟨v1,v2,p,q,rfl,⟨t1,w1,rfl,a1,b1⟩,⟨t2,w2,rfl,a2,b2⟩,l1,l2,k⟩:=h;let SC:=Dg;let hu:=hr.units;refine⟨_,(Ze (Yn (Z5 Zht (Zz Tr (pv 0) Zh (λ_ _=>rfl)) (Zz Tr (pv 1) Zh (λ_ _=>rfl)) (Ya _))
 (Zi (Z0 Yq))
 Z1)
 (Ze (Zv (i:=2) SC.nd rfl (Cg rfl) (Zs (Qk rfl) (by rfl) T.b_min K7 (Za (Zs Y0 (by rfl) T.b_len Fw (Za (Zz Tr (pv 0) Zh (λ_ _=>rfl)) Zd)) (Za (Zs Y0 (by rfl) T.b_len Fw (Za (Zz Tr (pv 1) Zh (λ_ _=>rfl)) Zd)) Zd))))
 (Ze (Yn (Z5 (Zea hu) (Ye Zcb (Zz Tr (pv 0) Zh (λ_ _=>rfl)) Yw (Yc (pv 2))) (Ye Zcb (Zz Tr (pv 1) Zh (λ_ _=>rfl)) Yw (Yc (pv 2))) (Ya _))
 (Zi (Z0 Yq))
 Z1)
 (Zi (Z0 Pf))))),?_⟩
  exists ·,t1,_,_,·,rfl,SqT.of a1,rfl,·,t2,_,_,·,rfl,SqT.of a2,rfl,rfl,·,?_;refine ite2 (λh=>?_) (λh=>?_)
  .let e:p.1=q.1:=by simpa using h
   let o:Zhw p q=.str (Cj "twice"):=Fs e;let kk:=k H (.refl _);rw[o]at kk;exact kk
  .let e:¬ p.1=q.1:=by simpa using h
   refine⟨_,rfl,t1,_,_,_,rfl,rfl,SqT.of a1,rfl,_,_,rfl,.inr ⟨_,SqT.of b1,rfl⟩,_,rfl,t2,_,_,_,rfl,rfl,SqT.of a2,rfl,_,_,rfl,.inr ⟨_,SqT.of b2,rfl⟩,_,_,rfl,?_⟩;rw[Jb,Jb,Zon];refine⟨_,rfl,t1,_,_,_,rfl,rfl,SqT.of a1,rfl,_,rfl,_,rfl,Zg4 b1 (Jej _) () λu1 H1 s1 e1=>⟨_,rfl,t2,_,_,_,rfl,rfl,SqT.of (s1 _ _ a2),rfl,_,rfl,_,rfl,Zg4 (s1 _ _ b2) (Jej _) () λu2 H2 s2 e2 =>
    ⟨_,_,DV.tup (SqT.of (s2 _ _ e1)) (Tv _),DV.tup (SqT.of e2) (Tv _),(Zar _).shaped nofun,(Zar _).shaped nofun,_,rfl,?_⟩⟩⟩
   rw[Zo6,Bo];let kk:=k H2 (s1.trans s2);unfold Zhw at kk;rw[Fp e]at kk;refine ite2 (λh=>?_) (λh=>?_)
   .rw[Fs (of_decide_eq_true h)]at kk;exact kk
   .rw[Fp (λz=>h (Ft z))]at kk;exact kk
theorem Jau(T:Txt mg)(W0:Cal P w K mg base "odds_between" 1 ["one","other"] Zl2){f:Addr}(F:Fun K "fault" "fault" Zck f fd):FnOk P w K mg base CX0 2 f fd ["table"] Tg:=by
 refine F.ok Jcf (λvs H Q E h=>?_) (λcdv A outer s H vs Q E hr h=>?_)
 .let⟨a,L,rfl,_⟩:=h;rfl
 .let⟨a,L,rfl,⟨vs,ea,pa⟩,fr,⟨hl,hw⟩,k⟩:=h;let SC:=Jcf;let Qe:Room 1 _:=hr.mono nofun;let lv:=Paired.length pa;refine⟨_,(Ze (Y2 Cm rfl (Yi rfl T.b_range (Za (Zs Y0 (by rfl) T.b_len Fw (Za (pv 0) Zd)) Zd)) (Zx (i:=1) SC.nd rfl (Cg rfl))
 (Zi (Y2 Cm rfl (Yi rfl T.b_range (Za (pv 1) Zd)) (Zx (i:=2) SC.nd rfl (Cg rfl))
 (Ze (Zv (i:=3) SC.nd rfl (Cg rfl) (Zw W0 Qe rfl (Za (Zz Y4 (pv 0) (pv 2) (λ_ _=>rfl)) (Za (Zz Y4 (pv 0) (pv 1) (λ_ _=>rfl)) Zd))))
 (Zi (Yn (W4 (Zhl (pv 3)))
 (Zi (Z0 (Yv (Za (pv 3) (Za (pv 2) (Za (pv 1) Zd))))))
 Z1))))))
 (Zi (Z0 Pf))),?_⟩
  exists ·,_,·,.inl ⟨_,SqL.of ea,rfl⟩,(vs.length:Int),rfl,(),(),Tt (n:=vs.length) (λj σ H'=>∃v1 v2 v3,σ=[some (.ref a),v1,v2,v3]/\Same H H') ⟨_,_,_,rfl,.refl _⟩ ?_ ?_
  .rintro j σ H1 hj ⟨v1,v2,v3,rfl,s1⟩;exists ·,(0+(j:Int)),rfl,(),(),Tt (n:=(0+(j:Int)).toNat) (λi σ H'=>∃v2 v3,σ=[some (.ref a),some (.int (0+(j:Int))),v2,v3]/\Same H H') ⟨_,_,rfl,s1⟩ ?_ ?_
   .rintro i σ H2 hi ⟨v2,v3,rfl,s2⟩;let hij:i<j:=by lia
    let h1:=Paired.at pa (i:=i) () ();let h2:=Paired.at pa (i:=j) hj ();exists ·,·,a,_,_,·,rfl,SqL.of (s2 _ _ ea),(N9 (Ja (by lia:i<vs.length))),·,·,a,_,_,·,rfl,SqL.of (s2 _ _ ea),(N9 (Ja hj)),_,_,_,·,h1.tk s2.tk,h2.tk s2.tk,?_,?_,λH3 s3=>?_
    .exact J0 (hw _ (Jr _)).2 nofun
    .exact J0 (hw _ (Jr _)).2 nofun
    .rw[Zfd (fr.get () () hij)];exists ·,·,Zr7 rfl ?_;exists _,·,s2.trans s3
   .rintro σ H2 ⟨v2,v3,rfl,s2⟩;exists _,_,·,s2
  .rintro σ H1 ⟨v1,v2,v3,rfl,s1⟩;exact k H1 s1
def Jal(T:Txt mg)(Zdr:Cal P w K mg base "fault" 2 ["table"] Tg){f:Addr}(F:Fun K "refuse_fault" "refuse_fault" Wr f fd):FnOk P w K mg base CX0 3 f fd ["table"] Tg:=by
 refine F.ok Jba (λvs H Q E h=>?_) (λcdv A outer s H vs Q E hr h=>?_)
 .let⟨a,L,rfl,_⟩:=h;rfl
 .let⟨a,L,rfl,ta,fr,fi,k⟩:=h;let SC:=Jba;let Zle:Room 2 _:=hr.mono nofun;refine⟨_,(Ze (Zv (i:=1) SC.nd rfl (Cg rfl) (Zw Zdr Zle rfl (Za (pv 0) Zd)))
 (Ze (Yn (W4 (Rt (pv 1)))
 (Zi Zn4)
 Z1)
 (Ze (Yn (Z5 Zht (Zz Tr (pv 1) Zh (λ_ _=>rfl)) Yq (Ya _))
 (Zi Nd)
 Z1)
 (Zi Nd)))),?_⟩
  exists ·,a,L,rfl,ta,fr,fi,λH1 s1=>?_;exists ·,·,iteT (k H1 s1)
theorem F9(T:Txt mg){f:Addr}(F:Fun K "beginnings" "beginnings" Vs f fd):FnOk P w K mg base CX0 1 f fd ["words"] Zgp:=by
 refine F.ok Jap (λvs H Q E h=>?_) (λcdv A outer s H vs Q E hr h=>?_)
 .let⟨a,vws,ws,rfl,_⟩:=h;rfl
 .let⟨a,vws,ws,rfl,ea,pa,hl,hw,k⟩:=h;let SC:=Jap;let hu1:=X6 hr;let lv:=Paired.length pa;refine⟨_,(Ze (Zv (i:=1) SC.nd rfl (Cg rfl) Zd7)
 (Ze (Y2 Cm rfl (X0 (pv 0)) (Zx (i:=2) SC.nd rfl (Cg rfl))
 (Zi (Y2 Cm rfl (Yi rfl T.b_range (Za (Zs Y0 (by rfl) T.b_len Fw (Za (pv 2) Zd)) Zd)) (Zx (i:=3) SC.nd rfl (Cg rfl))
 (Zi (T5 hu1 (pv 1) (Ye Zqx (pv 2) Yw (Yc (pv 3))) Sq rfl)))))
 (Zi (Z0 (pv 1))))),?_⟩
  refine λd hd=>?_;let nad:a≠d:=Zr ea hd;let ea1:(upd H d (.dT [])) a=some (.lst vws):=by rw[Zl nad];exact ea
  refine⟨_,rfl,a,rfl,⟨_,SqL.of ea1⟩,Zlh (xs:=vws) (λi σ H'=>∃v2 v3 kvs,σ=[some (.ref a),some (.ref d),v2,v3]/\(∀b o,H b=some o->H' b=some o)/\H' d=some (.dT kvs)/\kvs.length<=8*i/\Sj kvs (ws.take i) [] 0)
   ⟨_,_,[],rfl,Zc hd,Zg,Je _,by rw[Bn];exact Sj.nil _⟩ ?_ ?_ ?_⟩
  .rintro i σ H1 hi ⟨v2,v3,kvs,rfl,s1,ed,hk,hb⟩;exact SqL.of (s1 _ _ ea)
  .rintro i x σ H1 hx ⟨v2,v3,kvs,rfl,s1,ed,hk,hb⟩;let hi:i<vws.length:=(Jf.mp hx).1;let hi2:i<ws.length:=by lia
   let⟨tw,ex,ew⟩:=Paired.at pa hi hi2;let ex2:x=V.ref tw:=by rw[<-ex];exact(Jf.mp hx).2.symm
   subst ex2;let hwl:ws[i].length<=4:=hw _ (Jr hi2);let en:(((ws[i].map V.int).length:Nat):Int).toNat=ws[i].length:=by rw[Jb];exact Bo _
   refine⟨_,rfl,_,_,rfl,.inr ⟨_,SqT.of (s1 _ _ ew),rfl⟩,(((ws[i].map V.int).length:Nat):Int),rfl,by rw[Jb];lia,by rw[Jb];lia,
    Tt (n:=(((ws[i].map V.int).length:Nat):Int).toNat) (λn σ H'=>∃v3 kvs,σ=[some (.ref a),some (.ref d),some (.ref tw),v3]/\(∀b o,H b=some o->H' b=some o)/\H' d=some (.dT kvs)/\kvs.length<=8*i+n/\Sj kvs (ws.take i) ws[i] n) ⟨_,kvs,rfl,s1,ed,hk,?_⟩ ?_ ?_⟩
   .intro u;rw[hb u];refine decide_eq_decide.mpr ⟨λz=>?_,λz=>?_⟩
    .rcases z with z|⟨_,z⟩
     .exact .inl z
     .exact absurd z (G6 _)
    .rcases z with z|⟨_,z⟩
     .exact .inl z
     .exact absurd z (G6 _)
   .rintro n σ H2 hn ⟨v3,kvs2,rfl,s2,ed2,hk2,hb2⟩;rw[en]at hn;let hcut:cutV (ws[i].map V.int) none (some (0+(n:Int)))=(wk (ws[i].take n)).map kV:=by
     rw[Zdg _ () (),Zm7]
     congr 2
     lia
    exists ·,·,·,·,tw,·,SqT.of (s2 _ _ ew),?_,λp hp=>?_
    .rintro⟨_,z⟩;rw[show(some (0+(n:Int)))=some ((n:Nat):Int)by congr 1;lia,HT.sIx_nat,Jb]at z;lia
    .rw[hcut];let npd:d≠p:=Zr ed2 hp;let hz:kvs2.length<sizeLine:=Bc (J0 hk2 ()) (show 1000<sizeLine by decide);exists d,·,DPut.t (k:=wk (ws[i].take n)) (by rw[Zl npd];exact ed2) Zg hz,?_;exists _,·,λb o e=>?_,Zg,?_,hb2.put (Be hn)
     .let nb:b≠d:=Zr e hd;rw[Zl nb];exact Zc hp b o (s2 b o e)
     .let:=Y3 kvs2 (wk (ws[i].take n)) (V.bl true);lia
   .rintro σ H2 ⟨v3,kvs2,rfl,s2,ed2,hk2,hb2⟩;rw[en]at hk2 hb2;exists _,_,kvs2,rfl,s2,ed2,(),?_;rw[Jt hi2];exact hb2.next _
  .rintro σ H1 ⟨v2,v3,kvs,rfl,s1,ed,hk,hb⟩;exists ·,k d kvs H1 s1 hd ed ?_;rw[lv,Gb]at hb;exact hb.done
abbrev lamQ:Str:=Cj "Code.__init__"++".<locals>."++"<lambda>"
abbrev lamP:Pos:=⟨123,45,123,65⟩
structure CodeT(K:Cp)(C:Addr):Prop where
 cl:Cls K C
 n_pairs:Xl K C "pairs"
 n_words_by_sign:Xl K C "words_by_sign"
 n_signs_by_word:Xl K C "signs_by_word"
 n_begun:Xl K C "begun"
 n_word_sizes:Xl K C "word_sizes"
structure St5(C Pt:Addr)(H Hc:Hp)(x dx tp:Addr)(fs:List (Str×V))(M:List PK3):Prop where
 g:∀b o,b≠x->b≠Pt->H b=some o->Hc b=some o
 tb:V2 Pt lamP lamQ Hc
 ex:Hc x=some (.ins C dx fs)
 etp:Hc tp=some (.tup (M.map (·.v)))
 at_:∀e∈M,e.At Hc
def St5.same{Hc Hn:Hp}{x:Addr}{fs:List (Str×V)}{M:List PK3}(h:St5 C Pt H Hc x dx tp fs M)(s:Same Hc Hn):St5 C Pt H Hn x dx tp fs M :=
 ⟨λb o n1 n2 e=>s _ _ (h.g b o n1 n2 e),h.tb.same s,s _ _ h.ex,s _ _ h.etp,λe he=>(h.at_ e he).tk s.tk⟩
def St5.fld{Hc:Hp}{x:Addr}{fs fs':List (Str×V)}{M:List PK3}(h:St5 C Pt H Hc x dx tp fs M):St5 C Pt H (upd Hc x (.ins C dx fs')) x dx tp fs' M:=by
 let gr:Grow x Hc (upd Hc x (.ins C dx fs')):=λb o e n=>by rw[Zl n];exact e
 exists λb o n1 n2 e=>gr _ _ (h.g b o n1 n2 e) n1,h.tb.grow h.ex gr,Zg,gr _ _ h.etp (X1 h.etp h.ex λz=>by cases z),λe he=>(h.at_ e he).tk (gr.tkI h.ex)
theorem St5.new{Hc:Hp}{x:Addr}{fs:List (Str×V)}{M:List PK3}(h:St5 C Pt H Hc x dx tp fs M){d:Addr}(hd:Hc d=none):H d=none:=by
 cases e:H d with
 |none=>rfl
 |some o =>
  let⟨ps,eP,_⟩:=h.tb;rw[h.g d o (λz=>by rw[z,h.ex]at hd;cases hd) (λz=>by rw[z,eP]at hd;cases hd) e]at hd;cases hd
theorem T8{α γ:Type}{F:α->β->Prop}{f:γ->α}{g:γ->β}:∀{M:List γ},(∀e∈M,F (f e) (g e))->Paired F (M.map f) (M.map g)
 |[],_=>.nil
 |e::r,h=>.cons (h e Jn) (T8 λx hx=>h x (Jh _ hx))
theorem T7{α γ δ:Type}{F:α->γ->Prop}{G:β->δ->Prop}{f:α->β}{g:γ->δ}(h:∀a c,F a c->G (f a) (g c)):∀{l:List α}{m:List γ},Paired F l m->Paired G (l.map f) (m.map g):=by
 intro _ _ hz9;cases hz9 with
 |nil=>
  exact .nil
 |cons a r=>
  exact .cons (h _ _ a) (T7 h r)
theorem Jay(T:Txt mg){c:Addr}(CT:CodeT K C)(hCd:W.CodeHd base c Pt)(hBm:Bm mg base)(Wz:Cal P w K mg base "refuse_fault" 3 ["table"] Tg)(V6:Cal P w K mg base "beginnings" 1 ["words"] Zgp){f:Addr}{oc:Value}{od an:Option Addr}{osl:Array (Option Value)}{kW doc pm ct:Value}(lk:K.lookup f=some ⟨oc,od,.func (Jdk "__init__" "Code.__init__" (Wf Z4) (Y8 Z4) (Zn Z4) .none kW doc pm an (.ref c) ct),osl⟩)(hcd:Jd8 K (.ref c) "Code.__init__"=true) :
  FnOk P w K mg base CX0 4 f (Jdk "__init__" "Code.__init__" (Wf Z4) (Y8 Z4) (Zn Z4) .none kW doc pm an (.ref c) ct) ["self","table"] (L3.Py C Pt lamP lamQ):=by
 refine Fun.okC lk hcd Do (λvs H Q E h=>?_) (λA outer s H vs Q E hr h=>?_)
 .let⟨x,a,dx,L,rfl,_⟩:=h;rfl
 .let⟨x,a,dx,L,rfl,ex,⟨vs,ea,pa⟩,fr,⟨hl,hw⟩,tb,k⟩:=h;let SC:=Do;let Qd:Room 3 _:=hr.mono nofun;let Nq:Room 1 _:=hr.mono nofun;let Zif:Room 3 _:=hr.mono nofun;let Zc5:Room 3 _:=hr.mono nofun;let hcode:(cxOf CX0 P w K mg base ["self","table"] "Code.__init__" (Zn Z4) f (.ref c) A outer s H E).nox.env.code=.ref c:=rfl;refine⟨_,(Ze (Vc (Zw Wz Qd rfl (Za (pv 1) Zd)))
 (Ze (Ro (pv 0) (Z9 X7 (by rfl) T.b_tuple Ee (Za (Zky Zif rfl T.b_sorted (Za (pv 1) Zd) hcode hCd hBm rfl rfl (by rfl') (λ_ _ _ _=>rfl) (λ_ _ _ _ _ _=>(Zz (Zs4 (K:=K) rfl) (pv 0) Zh (λ_ _=>rfl)))) Zd)) rfl)
 (Ze (Ro (pv 0) (Z9 (V0 Zc5 rfl) (by rfl) T.b_dict Kq (Za (Vo (pv 0) rfl) Zd)) rfl)
 (Ze (Ro (pv 0) (Z9 (V0 Zc5 rfl) (by rfl) T.b_dict Kq (Za (Wb (T:=["sign","word"]) (cs:=[]) rfl (CScope.ok (by kernel_rfl)) (Pd (Vo (pv 0) rfl)) (λ_ _ _ _=>(Uv (n:=2) rfl (Yf (Zx (i:=0) (Wd (by kernel_rfl)) rfl (Cg rfl) (Ed rfl)) (Yf (Zx (i:=1) (Wd (by kernel_rfl)) rfl (Cg rfl) (Ed rfl)) Wu)) (by rfl))) (λ_ _ _ _=>Xc) (λ_ _ _ _=>(Yv (Za (pv 1) (Za (pv 0) Zd)))) (Zef (Wn nofun (Wn nofun N1)))) Zd)) rfl)
 (Ze (Ro (pv 0) (Zw V6 Nq rfl (Za (Wb (T:=["sign","word"]) (cs:=[]) rfl (CScope.ok (by kernel_rfl)) (Pd (Vo (pv 0) rfl)) (λ_ _ _ _=>(Uv (n:=2) rfl (Yf (Zx (i:=0) (Wd (by kernel_rfl)) rfl (Cg rfl) (Ed rfl)) (Yf (Zx (i:=1) (Wd (by kernel_rfl)) rfl (Cg rfl) (Ed rfl)) Wu)) (by rfl))) (λ_ _ _ _=>Xc) (λ_ _ _ _=>(pv 1)) (Zef (Wn nofun (Wn nofun N1)))) Zd)) rfl)
 (Zi (Ro (pv 0) (Z9 X7 (by rfl) T.b_tuple Ee (Za (Zs (Po rfl) (by rfl) T.b_sorted Ki (Za (Z9 (V0 Zc5 rfl) (by rfl) T.b_dict Kq (Za (Wb (T:=["sign","word"]) (cs:=[]) rfl (CScope.ok (by kernel_rfl)) (Pd (Vo (pv 0) rfl)) (λ_ _ _ _=>(Uv (n:=2) rfl (Yf (Zx (i:=0) (Wd (by kernel_rfl)) rfl (Cg rfl) (Ed rfl)) (Yf (Zx (i:=1) (Wd (by kernel_rfl)) rfl (Cg rfl) (Ed rfl)) Wu)) (by rfl))) (λ_ _ _ _=>Xc) (λ_ _ _ _=>(Yv (Za (Zs (Xo (K:=K) rfl) (by rfl) T.b_len Fw (Za (pv 1) Zd)) (Za Sq Zd)))) (Zef (Wn nofun (Wn nofun N1)))) Zd)) Zd)) Zd)) rfl))))))),?_⟩
  exists ·,a,L,rfl,⟨vs,ea,pa⟩,fr,⟨hl,hw⟩,λH1 s1=>?_;let⟨M,m1,m2,m3⟩:=Zmf (pa.tk s1.tk);let⟨ps,hP,_,_⟩:=id tb;let hP1:=s1 _ _ hP;let lM:M.length=L.length:=by rw[<-m2,Jb]
  exists ·,a,M.map PK3.k,rfl,?_,?_,?_,?_,tb.same s1,?_,λH2 D L' sT T2 hD pm pw=>?_
  .let e1:(M.map PK3.k).map (·.1)=vs:=by rw[Gm,<-m1];rfl
   rw[e1];exact SqL.of (s1 _ _ ea)
  .rw[Jb];lia
  .intro q hq;let⟨e,he,rfl⟩:=Jp.mp hq;let⟨t,_,_,cw⟩:=m3 e he;exists SqT.of cw,(hw e.p (by rw[<-m2];exact Jp.mpr ⟨e,he,rfl⟩)).1
  .let e1:(M.map PK3.k).map (·.2.2)=L.map (·.2):=by rw[Gm,<-m2,Gm];rfl
   rw[e1];exact Ge.mpr (fr.imp λ{a b}z e=>z.2.1 (by rw[e];exact Jc _))
  .intro H2 q sT hq;let⟨e,he,rfl⟩:=Jp.mp hq;let⟨t,ev,b,_⟩:=m3 e he;exists e.v,rfl,t,_,1,_,ev,rfl,SqT.of (sT _ _ (X1 b hP1 λz=>by cases z) b),rfl,rfl,rfl
  .let⟨M',pM,rfl⟩:=Zhg pm rfl;let xP:x≠Pt:=X1 ex hP λz=>by cases z
   let ex2:H2 x=some (.ins C dx []):=sT _ _ xP (s1 _ _ ex);let at2:∀e∈M',e.At H2:=λe he=>(m3 e (pM.mem_iff.mp he)).tk (sT.tk hP1);let vv:(M'.map PK3.k).map (·.1)=M'.map (·.v):=by rw[Gm];rfl
   let hS:(M'.map (·.p)).Perm L:=by have:=pM.map (·.p);rw[m2]at this;exact this
   let lM':M'.length<64:=by have:=hS.length_eq;rw[Jb]at this;lia
   let hpL:∀e∈M',e.p∈L:=λe he=>hS.mem_iff.mp (Jp.mpr ⟨e,he,rfl⟩);let hri:Zdk (M'.map (·.p)):=Ge.mpr ((Ge.mp pw).imp λz=>z);refine⟨_,_,rfl,.inl ⟨SqL.of Zg,λtp htp=>?_⟩⟩;rw[vv];rw[vv]at htp;let sA:Same H2 (upd (upd H2 D (.lst (M'.map (·.v)))) tp (.tup (M'.map (·.v)))):=(Zc hD).trans (Zc htp);let S3:St5 C Pt H (upd (upd H2 D (.lst (M'.map (·.v)))) tp (.tup (M'.map (·.v)))) x dx tp [] M' :=
    ⟨λb o n1 n2 e=>sA _ _ (sT _ _ n2 (s1 _ _ e)),T2.same sA,sA _ _ ex2,Zg,λe he=>(at2 e he).tk sA.tk⟩
   generalize upd (upd H2 D (.lst (M'.map (·.v)))) tp (.tup (M'.map (·.v)))=H3 at S3;exists ·,x,C,dx,[],rfl,S3.ex,CT.cl,CT.n_pairs,nofun,?_;let S4:=S3.fld (fs':=[("pairs",.ref tp)]);show tSeq _ _ _ _ (upd H3 x (.ins C dx [("pairs",.ref tp)]));generalize upd H3 x (.ins C dx [("pairs",.ref tp)])=H4 at S4;exists ·,x,C,dx,_,·,S4.ex,CT.cl,CT.n_pairs,rfl,tp,_,(M'.map λe=>((C0 e.p.1:Key),V.ref e.tw)).map (λz=>(kV z.1,z.2)),.dK [],rfl,.inr S4.etp,?_,.inl rfl,λd1 hd1=>⟨_,Zdb _ [] ?_,?_⟩
   .rw[Gm];exact T8 λe he=>by
     let⟨t,ev,b,_⟩:=S4.at_ e he;exists t,ev,SqT.of b
   .rw[Bw,Jb];exact Jy (by lia:0+M'.length<64) (show 64<=sizeLine by decide)
   let nd1:=S4.new hd1;let ndS:(M'.map λe=>((C0 e.p.1:Key))).Nodup:=by
    let h1:(L.map (·.1)).Nodup:=Ge.mpr (fr.imp λ{a b}z=>z.1);let h2:((M'.map (·.p)).map (·.1)).Nodup:=(hS.map (·.1)).nodup_iff.mpr h1;rw[Gm]at h2;exact Ge.mpr ((Ge.mp h2).imp λz e=>z (Kr e))
   let wb:∀Hx:Hp,(∀e∈M',e.At Hx)->Zf0 Hx (Xs [] (M'.map λe=>((C0 e.p.1:Key),V.ref e.tw))) (M'.map (·.p)):=λHx ax=>by
    exists λp hp=>?_,λsg hsg=>?_
    .let⟨e,he,rfl⟩:=Jp.mp hp;let⟨t,_,_,cw⟩:=ax e he;exists e.tw,Qh _ _ (by rw[Gm];exact ndS) (Jp.mpr ⟨e,he,rfl⟩),cw
    .rw[Tu _ _ λz hz=>?_]
     .rfl
     .let⟨e,he,rfl⟩:=Jp.mp hz;exact λq=>hsg e.p (Jp.mpr ⟨e,he,rfl⟩) (Kr q)
   let S5:=S4.same (Zc (o:=.dK (Xs [] (M'.map λe=>((C0 e.p.1:Key),V.ref e.tw)))) hd1);let ed1:(upd H4 d1 (.dK (Xs [] (M'.map λe=>((C0 e.p.1:Key),V.ref e.tw))))) d1=_:=Zg;generalize upd H4 d1 (.dK (Xs [] (M'.map λe=>((C0 e.p.1:Key),V.ref e.tw))))=H5 at S5 ed1;exists ·,x,C,dx,·,S5.ex,CT.cl,CT.n_words_by_sign,(by show 1<1000;decide),?_;let S6:=S5.fld (fs':=[("pairs",.ref tp),("words_by_sign",.ref d1)]);let ed1':(upd H5 x (.ins C dx [("pairs",.ref tp),("words_by_sign",.ref d1)])) d1=_:=(Zl (X1 ed1 S5.ex λz=>by cases z)).trans ed1;show tSeq _ _ _ _ (upd H5 x (.ins C dx [("pairs",.ref tp),("words_by_sign",.ref d1)]))
   generalize upd H5 x (.ins C dx [("pairs",.ref tp),("words_by_sign",.ref d1)])=H6 at S6 ed1';let go6:∀(Hx:Hp)(i:Nat),Hx tp=some (.tup (M'.map (·.v)))->i<M'.length->(Itt K tp).go i Hx:=λHx i e hi=>⟨_,_,SqT.of e,Ja (by rw[Jb];exact hi)⟩;let stop6:∀Hx:Hp,Hx tp=some (.tup (M'.map (·.v)))->(Itt K tp).stop M'.length Hx:=λHx e=>⟨_,SqT.of e,by rw[Jb];exact Je _⟩;let yld6:∀(Hx:Hp)(i:Nat)(y:V)(H':Hp)(hi:i<M'.length),Hx tp=some (.tup (M'.map (·.v)))->(Itt K tp).yld i Hx y H'->H'=Hx/\y=M'[i].v:=λHx i y H' hi e z=>by
    exists z.1,?_;let:=z.2 _ (SqT.of e);rw[Jv,Ja hi]at this;exact(Fv this).symm
   refine⟨_,rfl,x,C,dx,_,_,rfl,S6.ex,CT.cl,CT.n_pairs,rfl,tp,rfl,⟨_,SqT.of S6.etp⟩,Wg (n:=M'.length)
    (λj ys Hn=>∃ts:List Addr,ys=ts.map V.ref/\ts.length=j/\Same H6 Hn/\Paired (λt(e:PK3)=>Hn t=some (.tup [.ref e.tw,.int e.p.1])) ts (M'.take j)) ⟨[],rfl,rfl,.refl _,by rw[Bn];exact .nil⟩ ?_ (Zp ()) ?_ ?_ ?_ ?_⟩
   .rintro j ys Hn ⟨ts,rfl,rfl,_⟩;rw[Jb];exact Je _
   .rintro j ys Hn hj ⟨ts,rfl,rfl,sn,_⟩;exact go6 _ _ (sn _ _ S6.etp) hj
   .rintro ys Hn ⟨ts,rfl,_,sn,_⟩;exact stop6 _ (sn _ _ S6.etp)
   .rintro j ys Hn hj ⟨ts,rfl,rfl,sn,pn⟩ y H' hy;let⟨rfl,rfl⟩:=yld6 _ _ _ _ hj (sn _ _ S6.etp) hy;let⟨t,ev,b,cw⟩:=(S6.at_ _ (Jr hj)).tk sn.tk;exists t,_,ev,SqT.of b,rfl,_,·,_,·,rfl,?_;exists ·,·,by show 2<=sizeLine;decide,λq hq=>?_;exists ts++[q],by rw[Jg];rfl,by rw[Jd];rfl,sn.trans (Zc hq),?_;rw[Jt hj];refine L2.Paired.snoc ?_ ?_
    .exact Zg
    .exact L2.Paired.mapP pn λ_ _ z=>Zc hq _ _ z
   .rintro ys Hn ⟨ts,rfl,lt,sn,pn⟩ q hq;rw[Gb]at pn;let sq:=sn.trans (Zc (o:=.lst (ts.map V.ref)) hq);let pn':=Paired.mapP pn λ_ _ z=>Zc (o:=.lst (ts.map V.ref)) hq _ _ z;let eq:(upd Hn q (.lst (ts.map V.ref))) q=_:=Zg;let S7:=S6.same sq;let ed7:=sq _ _ ed1';generalize upd Hn q (.lst (ts.map V.ref))=H7 at S7 ed7 pn' eq;exists q,_,(M'.map λe=>(e.tw,wk e.p.2,V.int e.p.1)).map (λz=>(.ref z.1,z.2.2)),.dT [],rfl,.inl eq,?_,.inr rfl,λd2 hd2=>⟨_,Zi1 hd2 _ [] ?_ ?_,?_⟩
    .rw[Gm];exact T7 (λt e z=>⟨t,rfl,SqT.of z⟩) pn'
    .rw[Bw,Jb];exact Jy (by lia:0+M'.length<64) (show 64<=sizeLine by decide)
    .intro z hz;let⟨e,he,rfl⟩:=Jp.mp hz;let⟨t,_,_,cw⟩:=S7.at_ e he;show H7 e.tw=some (.tup ((wk e.p.2).map kV));rw[Zm7];exact cw
    rw[Gm];let ndW:(M'.map λe=>wk e.p.2).Nodup:=by
     let h1:(L.map (·.2)).Nodup:=Ge.mpr (fr.imp λ{a b}z e=>z.2.1 (by rw[e];exact Jc _));let h2:((M'.map (·.p)).map (·.2)).Nodup:=(hS.map (·.2)).nodup_iff.mpr h1;rw[Gm]at h2;exact Ge.mpr ((Ge.mp h2).imp λz e=>z (Rc e))
    let sb:Zgs (Xs [] (M'.map λe=>(wk e.p.2,V.int e.p.1))) (M'.map (·.p)):=by
     exists λp hp=>?_,λu hu=>?_
     .let⟨e,he,rfl⟩:=Jp.mp hp;exact Qh _ _ (by rw[Gm];exact ndW) (Jp.mpr ⟨e,he,rfl⟩)
     .rw[Tu _ _ λz hz=>?_]
      .rfl
      .let⟨e,he,rfl⟩:=Jp.mp hz;exact λq=>hu e.p (Jp.mpr ⟨e,he,rfl⟩) (Rc q)
    let nd2:=S7.new hd2;let S8:=S7.same (Zc (o:=.dT (Xs [] (M'.map λe=>(wk e.p.2,V.int e.p.1)))) hd2);let ed8:=Zc (o:=.dT (Xs [] (M'.map λe=>(wk e.p.2,V.int e.p.1)))) hd2 _ _ ed7;let es8:(upd H7 d2 (.dT (Xs [] (M'.map λe=>(wk e.p.2,V.int e.p.1))))) d2=_:=Zg;show tVar 0 _ (upd H7 d2 (.dT (Xs [] (M'.map λe=>(wk e.p.2,V.int e.p.1))))) _;generalize upd H7 d2 (.dT (Xs [] (M'.map λe=>(wk e.p.2,V.int e.p.1))))=H8 at S8 ed8 es8;exists ·,x,C,dx,·,S8.ex,CT.cl,CT.n_signs_by_word,(by show 2<1000;decide),?_;let S9:=S8.fld (fs':=[("pairs",.ref tp),("words_by_sign",.ref d1),("signs_by_word",.ref d2)])
    let ed9:(upd H8 x (.ins C dx [("pairs",.ref tp),("words_by_sign",.ref d1),("signs_by_word",.ref d2)])) d1=_:=(Zl (X1 ed8 S8.ex λz=>by cases z)).trans ed8;let es9:(upd H8 x (.ins C dx [("pairs",.ref tp),("words_by_sign",.ref d1),("signs_by_word",.ref d2)])) d2=_:=(Zl (X1 es8 S8.ex λz=>by cases z)).trans es8;show tSeq _ _ _ _ (upd H8 x (.ins C dx [("pairs",.ref tp),("words_by_sign",.ref d1),("signs_by_word",.ref d2)]));generalize upd H8 x (.ins C dx [("pairs",.ref tp),("words_by_sign",.ref d1),("signs_by_word",.ref d2)])=H9 at S9 ed9 es9;refine⟨_,rfl,x,C,dx,_,_,rfl,S9.ex,CT.cl,CT.n_pairs,rfl,tp,rfl,⟨_,SqT.of S9.etp⟩,Wg (n:=M'.length)
     (λj ys Hn=>ys=(M'.take j).map (λe=>V.ref e.tw)/\Hn=H9) ⟨by rw[Bn];rfl,rfl⟩ ?_ (Zp ()) ?_ ?_ ?_ ?_⟩
    .rintro j ys Hn ⟨rfl,rfl⟩;rw[Jb,Ji];exact Nat.min_le_left _ _
    .rintro j ys Hn hj ⟨rfl,rfl⟩;exact go6 _ _ S9.etp hj
    .rintro ys Hn ⟨rfl,rfl⟩;exact stop6 _ S9.etp
    .rintro j ys Hn hj ⟨rfl,rfl⟩ y H' hy;let⟨rfl,rfl⟩:=yld6 _ _ _ _ hj S9.etp hy;let⟨t,ev,b,cw⟩:=S9.at_ _ (Jr hj);exists t,_,ev,SqT.of b,rfl,_,·,_,·,rfl,?_;exists ·,?_,rfl;rw[Jt hj,Jg];rfl
    .rintro ys Hn ⟨rfl,rfl⟩ q2 hq2;rw[Gb];let sq2:=Zc (o:=.lst (M'.map λe=>V.ref e.tw)) hq2;let eq2:(upd Hn q2 (.lst (M'.map λe=>V.ref e.tw))) q2=_:=Zg;let S10:=S9.same sq2;let ed10:=sq2 _ _ ed9;let es10:=sq2 _ _ es9;generalize upd Hn q2 (.lst (M'.map λe=>V.ref e.tw))=H10 at S10 ed10 es10 eq2;exists q2,_,M'.map (·.p.2),rfl,eq2,T8 λe he=>?_,by rw[Jb];exact lM',?_,λd3 k3 H11 s11 nd3 ed3 hb3=>?_
     .let⟨t,_,_,cw⟩:=S10.at_ e he;exists ·,cw
     .intro u hu;let⟨e,he,rfl⟩:=Jp.mp hu;exact(hw _ (hpL e he)).2
     let nd3':=S10.new nd3;let S11:=S10.same s11;let ed11:=s11 _ _ ed10;let es11:=s11 _ _ es10;exists ·,x,C,dx,·,S11.ex,CT.cl,CT.n_begun,(by show 3<1000;decide),?_;let S12:=S11.fld (fs':=[("pairs",.ref tp),("words_by_sign",.ref d1),("signs_by_word",.ref d2),("begun",.ref d3)]);let ed12:(upd H11 x (.ins C dx [("pairs",.ref tp),("words_by_sign",.ref d1),("signs_by_word",.ref d2),("begun",.ref d3)])) d1=_:=(Zl (X1 ed11 S11.ex λz=>by cases z)).trans ed11;let es12:(upd H11 x (.ins C dx [("pairs",.ref tp),("words_by_sign",.ref d1),("signs_by_word",.ref d2),("begun",.ref d3)])) d2=_:=(Zl (X1 es11 S11.ex λz=>by cases z)).trans es11
     let eb12:(upd H11 x (.ins C dx [("pairs",.ref tp),("words_by_sign",.ref d1),("signs_by_word",.ref d2),("begun",.ref d3)])) d3=_:=(Zl (X1 ed3 S11.ex λz=>by cases z)).trans ed3;let pf:putF (Cj "begun") (V.ref d3) [("pairs",.ref tp),("words_by_sign",.ref d1),("signs_by_word",.ref d2)]=([("pairs",.ref tp),("words_by_sign",.ref d1),("signs_by_word",.ref d2),("begun",.ref d3)]:List (Str×V)):=by rfl
     rw[pf];generalize upd H11 x (.ins C dx [("pairs",.ref tp),("words_by_sign",.ref d1),("signs_by_word",.ref d2),("begun",.ref d3)])=H12 at S12 ed12 es12 eb12;refine⟨_,rfl,x,C,dx,_,_,rfl,S12.ex,CT.cl,CT.n_pairs,rfl,tp,rfl,⟨_,SqT.of S12.etp⟩,Wg (n:=M'.length)
      (λj ys Hn=>∃ts:List Addr,ys=ts.map V.ref/\ts.length=j/\Same H12 Hn/\Paired (λt(e:PK3)=>Hn t=some (.tup [.int (e.p.2.length:Int),.bl true])) ts (M'.take j)) ⟨[],rfl,rfl,.refl _,by rw[Bn];exact .nil⟩ ?_ (Zp ()) ?_ ?_ ?_ ?_⟩
     .rintro j ys Hn ⟨ts,rfl,rfl,_⟩;rw[Jb];exact Je _
     .rintro j ys Hn hj ⟨ts,rfl,rfl,sn,_⟩;exact go6 _ _ (sn _ _ S12.etp) hj
     .rintro ys Hn ⟨ts,rfl,_,sn,_⟩;exact stop6 _ (sn _ _ S12.etp)
     .rintro j ys Hn hj ⟨ts,rfl,rfl,sn,pn⟩ y H' hy;let⟨rfl,rfl⟩:=yld6 _ _ _ _ hj (sn _ _ S12.etp) hy;let⟨t,ev,b,cw⟩:=(S12.at_ _ (Jr hj)).tk sn.tk;exists t,_,ev,SqT.of b,rfl,_,·,_,·,rfl,?_;exists ·,_,·,.inr ⟨_,SqT.of cw,rfl⟩,by show 2<=sizeLine;decide,λq hq=>?_;exists ts++[q],by rw[Jg];rfl,by rw[Jd];rfl,sn.trans (Zc hq),?_;rw[Jt hj];refine L2.Paired.snoc ?_ ?_
      .rw[Jb];exact Zg
      .exact L2.Paired.mapP pn λ_ _ z=>Zc hq _ _ z
     .rintro ys Hn ⟨ts,rfl,lt,sn,pn⟩ q3 hq3;rw[Gb]at pn;let sq3:=sn.trans (Zc (o:=.lst (ts.map V.ref)) hq3);let pn':=Paired.mapP pn λ_ _ z=>Zc (o:=.lst (ts.map V.ref)) hq3 _ _ z;let eq3:(upd Hn q3 (.lst (ts.map V.ref))) q3=_:=Zg;let S13:=S12.same sq3;let ed13:=sq3 _ _ ed12;let es13:=sq3 _ _ es12;let eb13:=sq3 _ _ eb12;generalize upd Hn q3 (.lst (ts.map V.ref))=H13 at S13 ed13 es13 eb13 pn' eq3;exists q3,_,((M'.map λe=>(e.p.2.length:Int)).map λz=>((C0 z:Key),V.bl true)).map (λz=>(kV z.1,z.2)),.dK [],rfl,.inl eq3,?_,.inl rfl,λd5 hd5=>⟨_,Zdb _ [] ?_,?_⟩
      .rw[Gm,Gm];exact T7 (λt e z=>⟨t,rfl,SqT.of z⟩) pn'
      .rw[Bw,Jb,Jb];exact Jy (by lia:0+M'.length<64) (show 64<=sizeLine by decide)
      let⟨ns,ens,nd,mem⟩:=Qi (M'.map λe=>(e.p.2.length:Int)) [] [] rfl .nil;let lk5:=Zej ((M'.map λe=>(e.p.2.length:Int)).map λz=>((C0 z:Key),V.bl true)) [];let S14:=S13.same (Zc (o:=.dK (Xs [] ((M'.map λe=>(e.p.2.length:Int)).map λz=>((C0 z:Key),V.bl true)))) hd5);let ed14:=Zc (o:=.dK (Xs [] ((M'.map λe=>(e.p.2.length:Int)).map λz=>((C0 z:Key),V.bl true)))) hd5 _ _ ed13;let es14:=Zc (o:=.dK (Xs [] ((M'.map λe=>(e.p.2.length:Int)).map λz=>((C0 z:Key),V.bl true)))) hd5 _ _ es13;let eb14:=Zc (o:=.dK (Xs [] ((M'.map λe=>(e.p.2.length:Int)).map λz=>((C0 z:Key),V.bl true)))) hd5 _ _ eb13
      let e5:(upd H13 d5 (.dK (Xs [] ((M'.map λe=>(e.p.2.length:Int)).map λz=>((C0 z:Key),V.bl true))))) d5=_:=Zg;generalize upd H13 d5 (.dK (Xs [] ((M'.map λe=>(e.p.2.length:Int)).map λz=>((C0 z:Key),V.bl true))))=H14 at S14 ed14 es14 eb14 e5;exists d5,_,ns,rfl,e5,ens,by rw[Jb,Jb,Bw]at lk5;lia,λD5 ns' hD5 pN riN=>?_;exists D5,·,.inl ⟨SqL.of Zg,λd4 hd4=>?_⟩;let sz:=(Zc (o:=.lst (ns'.map V.int)) hD5).trans (Zc (o:=.tup (ns'.map V.int)) hd4);let S15:=S14.same sz;let ed15:=sz _ _ ed14;let es15:=sz _ _ es14;let eb15:=sz _ _ eb14;let ez15:(upd (upd H14 D5 (.lst (ns'.map V.int))) d4 (.tup (ns'.map V.int))) d4=_:=Zg
      generalize upd (upd H14 D5 (.lst (ns'.map V.int))) d4 (.tup (ns'.map V.int))=H15 at S15 ed15 es15 eb15 ez15;exists ·,x,C,dx,·,S15.ex,CT.cl,CT.n_word_sizes,(by show 4<1000;decide),?_;let S16:=S15.fld (fs':=[("pairs",.ref tp),("words_by_sign",.ref d1),("signs_by_word",.ref d2),("begun",.ref d3),("word_sizes",.ref d4)]);let pf2:putF (Cj "word_sizes") (V.ref d4) [("pairs",.ref tp),("words_by_sign",.ref d1),("signs_by_word",.ref d2),("begun",.ref d3)]=([("pairs",.ref tp),("words_by_sign",.ref d1),("signs_by_word",.ref d2),("begun",.ref d3),("word_sizes",.ref d4)]:List (Str×V)):=by rfl
      rw[pf2];let ed16:=(Zl (a:=x) (o:=HO.ins C dx [("pairs",.ref tp),("words_by_sign",.ref d1),("signs_by_word",.ref d2),("begun",.ref d3),("word_sizes",.ref d4)]) (X1 ed15 S15.ex λz=>by cases z)).trans ed15;let es16:=(Zl (a:=x) (o:=HO.ins C dx [("pairs",.ref tp),("words_by_sign",.ref d1),("signs_by_word",.ref d2),("begun",.ref d3),("word_sizes",.ref d4)]) (X1 es15 S15.ex λz=>by cases z)).trans es15;let eb16:=(Zl (a:=x) (o:=HO.ins C dx [("pairs",.ref tp),("words_by_sign",.ref d1),("signs_by_word",.ref d2),("begun",.ref d3),("word_sizes",.ref d4)]) (X1 eb15 S15.ex λz=>by cases z)).trans eb15
      let ez16:=(Zl (a:=x) (o:=HO.ins C dx [("pairs",.ref tp),("words_by_sign",.ref d1),("signs_by_word",.ref d2),("begun",.ref d3),("word_sizes",.ref d4)]) (X1 ez15 S15.ex λz=>by cases z)).trans ez15;refine k _ (M'.map (·.p)) hS hri ⟨dx,tp,d1,d2,d3,d4,S16.ex,⟨⟨_,S16.etp,Zmg S16.at_⟩,⟨_,ed16,wb _ S16.at_⟩,⟨_,es16,sb⟩,⟨k3,eb16,?_⟩,⟨ns',ez16,Zgr nd (λn=>by rw[mem,Gm];simp only[Gp,false_or];rfl) pN riN⟩⟩,nd1,nd2,nd3'⟩ S16.tb S16.g;rw[Gm];exact hb3
def Jbz(T:Txt mg)(CT:CodeT K C){f:Addr}(F:Fun K "word" "Code.word" U1 f fd):FnOk P w K mg base CX0 1 f fd ["self","sign"] (Zgj C):=by
 refine F.ok Jcd (λvs H Q E h=>?_) (λcdv A outer s H vs Q E hr h=>?_)
 .let⟨x,S,z,rfl,_⟩:=h;rfl
 .let⟨x,S,z,rfl,⟨dx,tp,d1,d2,d3,d4,ex,ci⟩,k1,k2⟩:=h;let⟨k3,e3,hb1,hb2⟩:=ci.wb;let SC:=Jcd;let hu1:=X6 hr;exists _,(Zi (Z0 (Zd8 hu1 (Vo (pv 0) rfl) (pv 1) ⟨rfl,rfl,rfl,rfl⟩))),?_;exists ·,x,C,dx,_,·,ex,CT.cl,CT.n_words_by_sign,rfl,d1,rfl,.inl ⟨_,.inl e3⟩,·,_,DGet.k (k:=C0 z) e3,?_
  by_cases hp:∃p∈S,p.1=z
  .let⟨p,hp,e⟩:=hp;let⟨t,h1,h2⟩:=hb1 p hp;rw[e]at h1;rw[h1];exact k1 p hp e t h2
  .rw[hb2 z λp hq e=>hp ⟨p,hq,e⟩];exact k2 λp hq e=>hp ⟨p,hq,e⟩
def Df(T:Txt mg)(CT:CodeT K C){f:Addr}(F:Fun K "sign" "Code.sign" U2 f fd):FnOk P w K mg base CX0 1 f fd ["self","word"] (Zgm C):=by
 refine F.ok Dl (λvs H Q E h=>?_) (λcdv A outer s H vs Q E hr h=>?_)
 .let⟨x,t,S,u,rfl,_⟩:=h;rfl
 .let⟨x,t,S,u,rfl,⟨dx,tp,d1,d2,d3,d4,ex,ci⟩,et,k1,k2⟩:=h;let⟨k3,e3,hb1,hb2⟩:=ci.sb;let SC:=Dl;let hu1:=X6 hr;let et':H t=some (.tup ((wk u).map kV)):=by rw[Zm7];exact et
  exists _,(Zi (Z0 (Zd8 hu1 (Vo (pv 0) rfl) (pv 1) ⟨rfl,rfl,rfl,rfl⟩))),?_;exists ·,x,C,dx,_,·,ex,CT.cl,CT.n_signs_by_word,rfl,d2,rfl,.inr ⟨_,.inl e3⟩,·,_,DGet.t e3 et',?_
  by_cases hp:∃p∈S,p.2=u
  .let⟨p,hp,e⟩:=hp;let:=hb1 p hp;rw[e]at this;rw[this];exact k1 p hp e
  .rw[hb2 u λp hq e=>hp ⟨p,hq,e⟩];exact k2 λp hq e=>hp ⟨p,hq,e⟩
def Jbr(T:Txt mg){f:Addr}(xc:XCl K C f)(na:Cs K (.ref C) "at"=some none)(F:Fun K "__init__" "NoSign.__init__" Xp f fd):FnOk P w K mg base CX0 1 f fd ["self","at"] (spX1 C "at"):=by
 refine F.ok F5 (λvs H Q E h=>?_) (λcdv A outer s H vs Q E hr h=>?_)
 .let⟨ea,y,rfl,_⟩:=h;rfl
 .let⟨ea,y,rfl,hea,k⟩:=h;let SC:=F5;exists _,(Zi (Nc (pv 0) (pv 1) rfl)),?_;exists ·,·,ea,C,f,rfl,xc,na,.inl ⟨hea,λd hd ne=>k d hd ne⟩
def Jcl(T:Txt mg){f:Addr}(xc:XCl K C f)(na:Cs K (.ref C) "at"=some none)(F:Fun K "__init__" "NoReading.__init__" Y7 f fd):FnOk P w K mg base CX0 1 f fd ["self","at"] (spX1 C "at"):=by
 refine F.ok Jah (λvs H Q E h=>?_) (λcdv A outer s H vs Q E hr h=>?_)
 .let⟨ea,y,rfl,_⟩:=h;rfl
 .let⟨ea,y,rfl,hea,k⟩:=h;let SC:=Jah;exists _,(Zi (Nc (pv 0) (pv 1) rfl)),?_;exists ·,·,ea,C,f,rfl,xc,na,.inl ⟨hea,λd hd ne=>k d hd ne⟩
def Jan(T:Txt mg){f:Addr}(xc:XCl K C f)(na:Cs K (.ref C) "leg"=some none)(F:Fun K "__init__" "NoWay.__init__" Xz f fd):FnOk P w K mg base CX0 1 f fd ["self","leg"] (spX1 C "leg"):=by
 refine F.ok Jbs (λvs H Q E h=>?_) (λcdv A outer s H vs Q E hr h=>?_)
 .let⟨ea,y,rfl,_⟩:=h;rfl
 .let⟨ea,y,rfl,hea,k⟩:=h;let SC:=Jbs;exists _,(Zi (Nc (pv 0) (pv 1) rfl)),?_;exists ·,·,ea,C,f,rfl,xc,na,.inl ⟨hea,λd hd ne=>k d hd ne⟩
def Jcb(T:Txt mg){f:Addr}(xc:XCl K C f)(na:Cs K (.ref C) "name"=some none)(F:Fun K "__init__" "NoName.__init__" Xq f fd):FnOk P w K mg base CX0 1 f fd ["self","name"] (spX1 C "name"):=by
 refine F.ok Jas (λvs H Q E h=>?_) (λcdv A outer s H vs Q E hr h=>?_)
 .let⟨ea,y,rfl,_⟩:=h;rfl
 .let⟨ea,y,rfl,hea,k⟩:=h;let SC:=Jas;exists _,(Zi (Nc (pv 0) (pv 1) rfl)),?_;exists ·,·,ea,C,f,rfl,xc,na,.inl ⟨hea,λd hd ne=>k d hd ne⟩
theorem Jbb(T:Txt mg){Cn:Addr}(Zey:Met P w K mg base C "word" 1 ["self","sign"] (Zgj C))(Qq:Rx P w K mg base "NoSign" Cn 1 ["self","at"] (spX1 Cn "at")){f:Addr}(F:Fun K "write" "write" Zce f fd):FnOk P w K mg base (CXE P w) 3 f fd ["code","text"] (Zdv C Cn):=by
 refine F.okE Jcm (λvs H Q E h=>?_) (λcdv A outer s H vs Q E hr h=>?_)
 .let⟨x,xa,S,ts,rfl,_⟩:=h;rfl
 .let⟨x,xa,S,ts,rfl,ca,fi,exa,lts,k,kE⟩:=h;let SC:=Jcm;let Zoy:Room 1 _:=hr.mono nofun;let Zij:Room 2 _:=hr.mono nofun;let lm:(ts.map V.int).length=ts.length:=Jb _;refine⟨_,(Ze (Zv (i:=2) SC.nd rfl (Cg rfl) (Xk Zd))
 (Ze (Y2 K0 rfl (Zhe rfl T.b_enumerate (Za (pv 1) Zd)) (Uv (n:=2) rfl (Yf (Zx (i:=3) SC.nd rfl (Cg rfl)) (Yf (Zx (i:=4) SC.nd rfl (Cg rfl)) Wu)) (by rfl))
 (Ze (Zv (i:=5) SC.nd rfl (Cg rfl) (Zkz (pv 0) Zey Zoy (Za (pv 4) Zd)))
 (Ze (Yn (W4 (Rt (pv 5)))
 (Zi (Tj Qq Zij rfl (Za (pv 3) Zd)))
 Z1)
 (Zi (Vc (Nf C6 Ho Mz Zfh (pv 2) (Za (pv 5) Zd)))))))
 (Zi (Z0 (pv 2))))),?_⟩
  exists by show 0<=sizeLine;decide,λtx htx=>?_;let s1:=Zc (o:=.lst []) htx;let etx:(upd H tx (.lst [])) tx=_:=Zg;generalize upd H tx (.lst [])=H1 at s1 etx;let ntx:∀b o,H b=some o->b≠tx:=λb o e=>Zr e htx;exists ·,xa,rfl,⟨_,SqL.of (s1 _ _ exa)⟩,Zli (xs:=ts.map V.int) (λi σ H'=>∃(U:List Pr)(v3 v4 v5:Option V),σ=[some (.ref x),some (.ref xa),some (.ref tx),v3,v4,v5]/\Same H H'/\H' tx=some (.lst ((Yd U).map V.int))/\Vp S U ts i) ⟨[],_,_,_,rfl,s1,etx,⟨(λ_ z=>nomatch z),rfl⟩⟩ ?_ ?_ ?_
  .rintro i σ H2 hi ⟨U,v3,v4,v5,rfl,s2,_⟩;exact SqL.of (s2 _ _ exa)
  .rintro i hi t σ H2 ⟨U,v3,v4,v5,rfl,s2,e2,tx2⟩ nt;let hi2:i<ts.length:=by rw[lm]at hi;exact hi
   let lU:=tx2.len (Be hi2);let s3:=Zc (o:=.tup [.int i,(ts.map V.int)[i]]) nt;let e3:=s3 _ _ e2;let et3:(upd H2 t (.tup [.int i,(ts.map V.int)[i]])) t=some (.tup [.int i,.int ts[i]]):=by rw[Zg,G9]
   generalize upd H2 t (.tup [.int i,(ts.map V.int)[i]])=H3 at s3 e3 et3;let s23:=s2.trans s3;let ca3:=ca.same s23;let⟨dx,tp,d1,d2,d3,d4,ex,_⟩:=id ca3;exists t,·,SqT.of et3,rfl,_,·,_,·,rfl,?_;exists ·,x,dx,·,ex,rfl,·,x,S,ts[i],rfl,ca3,λp hp e tw etw=>?_,λhno=>?_
   .exists ·,·,Zr9 (λz=>by cases z) ?_;let lw:=(fi.2 _ hp).2;let lr:=T3 fi tx2.1;exists ·,.inl ⟨rfl,_,SqL.of e3⟩,·,tx,tw,_,·,rfl,e3,etw,?_,U++[p],_,_,·,λb o e'=>?_,?_,tx2.snoc hi2 hp e
    .rw[Jb,Jb];exact Zp ()
    .rw[Zl (ntx b o e')];exact s23 b o e'
    .rw[Zg,Rl,Jg,Sv];simp[Yd]
   .exists ·,·,Zr8 rfl ?_;exists ·,by show 1<=10;decide,λea nea=>?_;exists ea,.int i,rfl,Zg,λd nd ne=>⟨rfl,d,?_,?_⟩
    .rw[Zl (Cu ne),Zg]
    .let nd3:H3 d=none:=by rw[Zl ne]at nd;exact nd
     refine kE i U d _ hi2 tx2 ((Ry hi2).mpr hno) (s23.free nd3) (λb o e=>?_) ?_
     .let b1:b≠ea:=Zr (s23 _ _ e) nea;let b2:b≠d:=Zr (s23 _ _ e) nd3;rw[Zl b1,Zl b2,Zl b1,Zl b1];exact s23 _ _ e
     .rw[Zl ne,Zg]
  .rintro σ H2 ⟨U,v3,v4,v5,rfl,s2,e2,tx2⟩;rw[lm]at tx2;exists ·,k U tx H2 tx2 htx s2 e2
theorem Jac(T:Txt mg)(CT:CodeT K C)(Ps:Met P w K mg base C "sign" 1 ["self","word"] (Zgm C)){f:Addr}(F:Fun K "word_at" "word_at" Rh f fd):FnOk P w K mg base CX0 2 f fd ["code","row","place"] (Zdw C):=by
 refine F.ok Db (λvs H Q E h=>?_) (λcdv A outer s H vs Q E hr h=>?_)
 .let⟨x,r,S,ns,pl,rfl,_⟩:=h;rfl
 .let⟨x,r,S,ns,pl,rfl,ca,fi,er,hpl,k1,k2⟩:=h;let SC:=Db;let Zc3:Room 1 _:=hr.mono nofun;let⟨dx,tp,d1,d2,d3,d4,ex,ci⟩:=id ca;let⟨zs,ez,hz⟩:=ci.sz;refine⟨_,(Ze (Y2 Cm rfl (Pd (Vo (pv 0) rfl)) (Zx (i:=3) SC.nd rfl (Cg rfl))
 (Ze (Zv (i:=4) SC.nd rfl (Cg rfl) (Z9 X7 (by rfl) T.b_tuple Ee (Za (Ye X9 (pv 1) (Yc (pv 2)) (Yc (Z3 X4 (pv 2) (pv 3)))) Zd)))
 (Zi (Yn (W4 (Zhl (Zkz (pv 0) Ps Zc3 (Za (pv 4) Zd))))
 (Zi (Z0 (pv 4)))
 Z1))))
 (Zi (Z0 Pf))),?_⟩
  exists ·,x,C,dx,_,·,ex,CT.cl,CT.n_word_sizes,rfl,d4,rfl,⟨_,SqT.of ez⟩,Zo3 (xs:=zs.map V.int) (λi σ H'=>∃v3 v4,σ=[some (.ref x),some (.ref r),some (.int pl),v3,v4]/\Same H H'/\∀p∈S,∀(j:Nat)(hj:j<zs.length),j<i->(p.2.length:Int)=zs[j]->¬ p.2<+:ns.drop pl) ⟨_,_,rfl,.refl _,λp hp j hj h0=>absurd h0 (G6 _)⟩ ?_ ?_ ?_
  .rintro i σ H1 hi ⟨v3,v4,rfl,s1,no⟩;exact SqT.of (s1 _ _ ez)
  .rintro i y σ H1 hy ⟨v3,v4,rfl,s1,no⟩;let hi:i<zs.length:=by have:=(Jf.mp hy).1;rw[Jb]at this;exact this
   rw[Jv,Ja hi]at hy;obtain rfl:=Fv hy;let⟨p0,hp0,el⟩:=(hz.2 zs[i]).mp (Jr hi);refine⟨_,rfl,_,rfl,_,rfl,_,rfl,_,rfl,_,_,rfl,rfl,_,rfl,r,_,rfl,SqL.of (s1 _ _ er),λq hq=>?_⟩;let ec:cutV (ns.map V.int) (some (pl:Int)) (some ((pl:Int)+zs[i]))=((ns.drop pl).take p0.2.length).map V.int:=by
    rw[<-el];exact Zpd ns (m:=p0.2.length) hpl
   rw[ec];let pw:(ns.drop pl).take p0.2.length<+:ns.drop pl:=Fb _ _;let hw:∀p∈S,p.2.length=p0.2.length->p.2<+:ns.drop pl->p.2=(ns.drop pl).take p0.2.length:=λp hp hl hpre=>by
    rw[<-hl];exact List.prefix_iff_eq_take.mp hpre
   generalize (ns.drop pl).take p0.2.length=u at pw hw;exists q,·,.inl ⟨SqL.of Zg,λt ht=>?_⟩;let s2:=(s1.trans (Zc hq)).trans (Zc (o:=.tup (u.map V.int)) ht);let et:(upd (upd H1 q (.lst (u.map V.int))) t (.tup (u.map V.int))) t=_:=Zg;generalize upd (upd H1 q (.lst (u.map V.int))) t (.tup (u.map V.int))=H2 at s2 et;let ca2:=ca.same s2;exists ·,x,dx,·,s2 _ _ ex,rfl,·,x,t,S,u,rfl,ca2,et,λp hp e=>?_,λhno=>?_
   .subst e;exists ·,Zum (λz=>by cases z) ⟨_,rfl,k1 p hp pw t H2 s2 et⟩
   .exists ·,Zr7 rfl ?_;exists _,·,s2,λp hp j hj hji hl hpre=>?_
    by_cases e:j=i
    .subst e;exact hno p hp (hw p hp (by rw[<-el]at hl;exact Int.ofNat.inj hl) hpre)
    .exact no p hp j hj () hl hpre
  .rintro σ H1 ⟨v3,v4,rfl,s1,no⟩;refine k2 (λp hp=>?_) H1 s1;let⟨j,hj,ej⟩:=Ju ((hz.2 _).mpr ⟨p,hp,rfl⟩);exact no p hp j hj (by rw[Jb];exact hj) ej.symm
theorem Jci(T:Txt mg){Cr:Addr}(Ps:Met P w K mg base C "sign" 1 ["self","word"] (Zgm C))(Qu:Cal P w K mg base "word_at" 2 ["code","row","place"] (Zdw C))(V3:Rx P w K mg base "NoReading" Cr 1 ["self","at"] (spX1 Cr "at")){f:Addr}(F:Fun K "read" "read" Zgu f fd):FnOk P w K mg base (CXE P w) 3 f fd ["code","row"] (Zgn C Cr):=by
 refine F.okE Jad (λvs H Q E h=>?_) (λcdv A outer s H vs Q E hr h=>?_)
 .let⟨x,r,S,ns,rfl,_⟩:=h;rfl
 .let⟨x,r,S,ns,rfl,ca,fi,er,lns,k,kE⟩:=h;let SC:=Jad;let Zc3:Room 1 _:=hr.mono nofun;let Zfo:Room 2 _:=hr.mono nofun;let Zbf:Room 2 _:=hr.mono nofun;let lm:(ns.map V.int).length=ns.length:=Jb _;refine⟨_,(Ze (Zv (i:=2) SC.nd rfl (Cg rfl) (Xk Zd))
 (Ze (Zv (i:=3) SC.nd rfl (Cg rfl) Zh)
 (Ze (Zd5 K0 (Z5 Zhp (pv 3) (Zs Y0 (by rfl) T.b_len Fw (Za (pv 1) Zd)) (Ya _))
 (Ze (Zv (i:=4) SC.nd rfl (Cg rfl) (Zw Qu Zfo rfl (Za (pv 0) (Za (pv 1) (Za (pv 3) Zd)))))
 (Ze (Yn (W4 (Rt (pv 4)))
 (Zi (Tj V3 Zbf rfl (Za (pv 3) Zd)))
 Z1)
 (Ze (Vc (Nf C6 E7 E8 Tl (pv 2) (Za (Zkz (pv 0) Ps Zc3 (Za (pv 4) Zd)) Zd)))
 (Zi (Zrj (i:=3) SC.nd rfl (Cg rfl) (Zs Y0 (by rfl) T.b_len Fw (Za (pv 4) Zd)) Zmo))))))
 (Zi (Z0 (pv 2)))))),?_⟩
  refine⟨by show 0<=sizeLine;decide,λtx htx=>?_⟩;let s1:=Zc (o:=.lst []) htx;let etx:(upd H tx (.lst [])) tx=_:=Zg;generalize upd H tx (.lst [])=H1 at s1 etx;let ntx:∀b o,H b=some o->b≠tx:=λb o e=>Zr e htx;refine Zj5 (λσ H'=>∃(pl:Nat)(R:List En)(v4:Option V),σ=[some (.ref x),some (.ref r),some (.ref tx),some (.int pl),v4]/\Same H H'/\H' tx=some (.lst (outs R))/\Went S ns R pl/\Zb6 R)
   (λσ _=>match σ with |[_,_,_,some (.int z),_]=>(ns.length-z).toNat|_=>0) ⟨0,[],_,rfl,s1,etx,.nil,λ_ z=>nomatch z⟩ ?_ ?_
  .rintro σ H2 ⟨pl,R,v4,rfl,s2,e2,we,cln⟩;let er2:=s2 _ _ er;let lR:=we.len;let hle:=we.le;exists ·,·,_,·,.inl ⟨_,SqL.of er2,rfl⟩,_,·,rfl,·,?_;refine ite2 (λhlt=>?_) (λhlt=>?_)
   .let hlt':pl<ns.length:=by
     let:=of_decide_eq_true hlt;rw[lm]at this;lia
    exists ·,·,·,x,r,S,ns,pl,rfl,ca.same s2,fi,er2,hle,λp hp pre t H3 s3 et=>?_,λhno H3 s3=>?_
    .let s23:=s2.trans s3;let ca3:=ca.same s23;let⟨dx,tp,d1,d2,d3,d4,ex,_⟩:=id ca3;let e3:=s3 _ _ e2;exists ·,·,Zr9 (λz=>by cases z) ?_;exists ·,.inl ⟨rfl,_,SqL.of e3⟩,·,x,dx,·,ex,rfl,·,x,t,S,p.2,rfl,ca3,et,λp' hp' e'=>?_,λhno=>absurd rfl (hno _ hp);exists tx,_,·,rfl,e3,by unfold outs;rw[Jb];exact Nat.lt_of_le_of_lt (by lia:R.length<=100000) nofun,?_;let hne:=(fi.2 _ hp).1;let gL:Grow tx H3 (upd H3 tx (.lst (outs R++[.int p'.1]))):=λb o e n=>by rw[Zl n];exact e
     exists ·,·,_,·,.inr ⟨_,SqT.of (gL _ _ et (X1 et e3 λz=>by cases z)),rfl⟩,_,·,rfl,⟨pl+p.2.length,R++[(pl,some p'.1)],some (.ref t),?_,λb o e=>?_,?_,?_,Pn cln (λz=>by cases z)⟩,?_
     .rw[Jb,Lq];rfl
     .rw[Zl (ntx b o e)];exact s23 b o e
     .rw[Zg];unfold outs;rw[Jg];rfl
     .let hw:=Went.word we hp' (by rw[e'];exact pre) (by rw[e'];exact hne);rw[e']at hw;exact hw
     .show((ns.length:Int)-((pl:Int)+(((p.2.map V.int).length:Nat):Int))).toNat<((ns.length:Int)-(pl:Int)).toNat;rw[Jb];let:=Gk.mpr hne;lia
    .let s23:=s2.trans s3;exists ·,·,Zr8 rfl ?_;exists ·,by show 1<=10;decide,λea nea=>?_;exists ea,.int pl,rfl,Zg,λd nd ne=>⟨rfl,d,?_,?_⟩
     .rw[Zl (Cu ne),Zg]
     .let nd3:H3 d=none:=by rw[Zl ne]at nd;exact nd
      refine kE R pl d _ ⟨we,cln,.inr ⟨hlt',hno⟩⟩ hlt' (s23.free nd3) (λb o e=>?_) ?_
      .let b1:b≠ea:=Zr (s23 _ _ e) nea;let b2:b≠d:=Zr (s23 _ _ e) nd3;rw[Zl b1,Zl b2,Zl b1,Zl b1];exact s23 _ _ e
      .rw[Zl ne,Zg]
   .let hge:ns.length<=pl:=by
     let:=of_decide_eq_false (Jfo _ ▸ hlt);rw[lm]at this;lia
    exists ·,k R pl tx H2 ⟨we,cln,.inl hge⟩ hge htx s2 e2
  .rintro σ H2 Q1 Q2 hq ⟨a1,a2,a3,a4,a5,a6,a7,a8,a9,a10,a11,a12,a13,a14,z⟩;exists a1,a2,a3,a4,a5,a6,a7,a8,a9,a10,a11,a12,a13,a14,hq _ _ z
open L3
abbrev Zk7:Str:=Cj "abcdefghijklmnopqrstuvwxyz"
theorem Zec{a b:Nat}(hab:a<=b)(hb:b<=cs.length):Txt.slice (nmS cs) (some (a:Int)) (some (b:Int))=nmS ((cs.drop a).take (b-a)):=by
 unfold Txt.slice;let hb':b<=(nmS cs).length:=by rw[Wc];exact hb
 rw[StrLaws.sliced_plain (nmS cs) hab hb'];let li:(Jf9 (some (a:Int)) (some (b:Int)) 1 (nmS cs).length).length=b-a:=by
  rw[StrLaws.strSliceIndices_plain hab hb',Jb,Bp]
 split
 .rename_i h
  let h:b-a=cs.length:=by
   let h:=beq_iff_eq.mp h;rw[li,Wc]at h;exact h
  rw[show a=0 by lia,Fg,Gc ()]
 .unfold nmS;rw[Bs,B0]
def Zrs{b:Nat}(hb:b<=cs.length):Txt.slice (nmS cs) none (some (b:Int))=nmS (cs.take b):=by
 let:=Zec (cs:=cs) (Gf b) hb;unfold Txt.slice at this⊢;rw[StrLaws.sliceIdx_none_lo];exact this
def Zog{a:Nat}(ha:a<=cs.length):Txt.slice (nmS cs) (some (a:Int)) none=nmS (cs.drop a):=by
 let:=Zec (cs:=cs) ha (Je _);rw[Gc (by rw[J8];exact Je _)]at this;unfold Txt.slice at this⊢;rw[StrLaws.sliceIdx_none_hi,Wc];rw[Wc]at this;exact this
theorem Zoe(h:0<cs.length):Txt.slice (nmS cs) none (some (-1))=nmS (cs.take (cs.length-1)):=by
 let:=Zrs (cs:=cs) (b:=cs.length-1) ();unfold Txt.slice at this⊢;rw[StrLaws.sliceIdx_neg_hi none _ nofun (by rw[Wc];lia),Wc,show(-1:Int)+(cs.length:Int)=((cs.length-1:Nat):Int)by lia];rw[Wc]at this;exact this
def Zmm(a b:List Nat):(nmS a++nmS b:Str)=nmS (a++b):=by
 show(⟨(nmS a).cps++(nmS b).cps⟩:Str)=_;unfold nmS;rw[Jg,<-List.append_toArray]
def Zoh{c:Nat}(h:c<26):Txt.find Zk7 ⟨#[97+c]⟩=(c:Int):=by
 let:∀c:_root_.Fin 26,Txt.find Zk7 ⟨#[97+c.val]⟩=((c.val:Nat):Int):=by decide +kernel
 exact this ⟨c,h⟩
theorem Zod(l:List Nat):(l.map ((λx:Str=>x.length) ∘ λc=>(⟨#[97+c]⟩:Str))).sum=l.length:=by
 induction l with
 |nil=>rfl
 |cons c l ih=>rw[Js,List.sum_cons,ih,Jx];show 1+_=_;lia
def mvl(cs:List Nat)(a m:Nat):List Nat:=cs.set a ((cs[a]?.getD 0+m) % 26)
def Zmn{a m:Nat}(ha:a<cs.length):(mvl cs a m)[a]?=some ((cs[a]?.getD 0+m) % 26):=by
 unfold mvl;exact Jz ha
theorem Pj{a m n:Nat}(ha:a<cs.length)(h:m<n)(hn:n<26):mvl cs a m≠mvl cs a n:=λe=>by
 let:=Zmn (m:=m) ha;rw[e,Zmn ha]at this;let:=Fv this;lia
def Zk5{a:Nat}(ha:a<cs.length)(hc:∀c∈cs,c<26):mvl cs a 0=cs:=by
 unfold mvl;rw[Ja ha];show cs.set a ((cs[a]+0) % 26)=cs;rw[Nat.add_zero,Nat.mod_eq_of_lt (hc _ (Jr ha)),List.set_getElem_self]
def Ni{a m:Nat}:(mvl cs a m).length=cs.length:=by unfold mvl;rw[List.length_set]
theorem Zh0{a m:Nat}(hc:∀c∈cs,c<26):∀c∈mvl cs a m,c<26:=λc h=>by
 rcases Kc h with y|y
 .exact hc c y
 .rw[y];lia
def Zok{a m:Nat}(ha:a<cs.length):cs.take a++[(cs[a]+m) % 26]++cs.drop (a+1)=mvl cs a m:=by
 unfold mvl;rw[List.set_eq_take_append_cons_drop,Fs ha,Gd,Ja ha];rfl
def Zeo:Sp3:=λds M K=>∃(k:Nat),ds=[.cell k]/\M[k]?=some .hand/\∀zs:List Str,zs.length=4->zs.Nodup->(∀z∈zs,z.length<=8/\K4 z=true)->K (.cell M.length) (M++[.lst (zs.map .str)])
theorem Dj(T:Txt mg)(Zj:Cal P w K mg base "_law_draw" 1 ["_law_hand","_law_many"] (spOf ⟨C,K⟩ Zjd)){f:Addr}(F:Fun K "_law_names" "_law_names" Dz f fd):FnOk P w K mg base CX0 2 f fd ["_law_hand"] (spOf ⟨C,K⟩ Zeo):=by
 refine L3.Fun.ok3 F Jaa (λds M K3 h=>?_) (λcdv A outer s H E hr=>?_)
 .let⟨k0,rfl,_⟩:=h;rfl
 .let SC:=Jaa;let hu:=hr.units;let hu1:=X6 hr;let Zk:Room 1 _:=hr.mono nofun;refine⟨_,_,(Ze (Zv (i:=1) SC.nd rfl (Ed rfl) Yq)
 (Ze (Zv (i:=2) SC.nd rfl (Cg rfl) (Nf Jcx PySem.F.slot_str_join PySem.F.type_str_join (Zpk (K:=K) rfl) Yq (Za (Wb (T:=["_law_k"]) (cs:=[1,0]) rfl (CScope.ok (by kernel_rfl)) (Yi rfl T.b_range (Za (Z3 (Y9 (K':=K) rfl) Zh (Zw Zj Zk rfl (Za (pv 0) (Za Zh Zd)))) Zd)) (λ_ _ _ _=>(Zx (i:=0) (Wd (by kernel_rfl)) rfl (Cg rfl) (Ed rfl))) (λ_ _ _ _=>Xc) (λ_ _ _ _=>(Zz (Z8 (K':=K) rfl) (pv 1) (Zw Zj Zk rfl (Za (pv 2) (Za Zh Zd))) (λ_ _=>rfl))) (Xe nofun)) Zd)))
 (Ze (Yn (Z5 (Up (K':=K) rfl hu) (Zw Zj Zk rfl (Za (pv 0) (Za Zh Zd))) Zh (Ya _))
 (Zi (Zv (i:=2) SC.nd rfl (Cg rfl) (Zz (Z8 (K':=K) rfl) (Xk (Za Yq (Za Yq (Za Yq (Za Yq (Za Yq Zd)))))) (Zw Zj Zk rfl (Za (pv 0) (Za Zh Zd))) (λ_ _=>rfl))))
 Z1)
 (Ze (Zv (i:=3) SC.nd rfl (Cg rfl) (Z3 Xf (Zw Zj Zk rfl (Za (pv 0) (Za Zh Zd))) (Zs (Xo (K:=K) rfl) (by rfl) T.b_len Fw (Za (pv 2) Zd))))
 (Ze (Zv (i:=4) SC.nd rfl (Cg rfl) (Xk (Za (pv 2) Zd)))
 (Ze (Y2 Cm rfl (Pd (Yv (Za (Z3 (Y9 (K':=K) rfl) Zh (Zw Zj Zk rfl (Za (pv 0) (Za Zh Zd)))) (Za (Z3 (Y9 (K':=K) rfl) Zh (Zw Zj Zk rfl (Za (pv 0) (Za Zh Zd)))) (Za (Z3 (Y9 (K':=K) rfl) Zh (Zw Zj Zk rfl (Za (pv 0) (Za Zh Zd)))) Zd))))) (Zx (i:=5) SC.nd rfl (Cg rfl))
 (Ze (Zv (i:=6) SC.nd rfl (Cg rfl) (Zz (Z8 (K':=K) rfl) (pv 1) (Z3 Xf (Z3 (Y9 (K':=K) rfl) (Nf Jcx PySem.F.slot_str_find PySem.F.type_str_find Zom (pv 1) (Za (Zz (Z8 (K':=K) rfl) (pv 2) (pv 3) (λ_ _=>rfl)) Zd)) (pv 5)) Zh) (λ_ _=>rfl)))
 (Zi (Vc (Nf C6 E7 E8 Tl (pv 4) (Za (Z3 (Y9 (K':=K) rfl) (Z3 (Y9 (K':=K) rfl) (Ye (Zal (K':=K) rfl) (pv 2) Yw (Yc (pv 3))) (pv 6)) (Ye (Zal (K':=K) rfl) (pv 2) (Yc (Z3 (Y9 (K':=K) rfl) (pv 3) Zh)) Yw)) Zd))))))
 (Ze (Yn (PW.pt (Rn (Z5 Zhr (Zs (Xo (K:=K) rfl) (by rfl) T.b_len Fw (Za (pv 2) Zd)) Zh (Ya _)) (T4 (Z5 (Up (K':=K) rfl hu) (Zw Zj Zk rfl (Za (pv 0) (Za Zh Zd))) Zh (Ya _)))))
 (Zi (Rp (Ye (Zal (K':=K) rfl) (pv 2) Yw (Yc (T6 W2 Zh))) (Pe (pv 4) Zh Va)))
 Z1)
 (Zi (Z0 (pv 4)))))))))),λ_=>(Z2 (Yb Wa (s_g 1))
 (Z2 (Yb (Zq5 Wa (Zb (Rj (Zcj (Zb (s_op Wt Zt (Z6 (Zb (Zf 0) (Zb Zt Zo)))) Zo)) (s_g 0) Zas (s_op s_ix (Zf 1) (Z6 (Zb (Zf 2) (Zb Zt Zo))))) Zo)) (s_g 2))
 (Z2 (Xb (Yz (s_op s_eq (Z6 (Zb (Zf 0) (Zb Zt Zo))) Zt))
 (Yb (s_op s_ix (Zch (Zb Wa (Zb Wa (Zb Wa (Zb Wa (Zb Wa Zo)))))) (Z6 (Zb (Zf 0) (Zb Zt Zo)))) (s_g 2))
 Yl)
 (Z2 (Yb (s_op Ze7 (Z6 (Zb (Zf 0) (Zb Zt Zo))) (s_cb Uq (Zb (Zf 2) Zo))) (s_g 3))
 (Z2 (Yb (Zau (Zb (Zf 2) Zo)) (s_g 4))
 (Z2 (Ur (s_it (Wk (Zb (s_op Wt Zt (Z6 (Zb (Zf 0) (Zb Zt Zo)))) (Zb (s_op Wt Zt (Z6 (Zb (Zf 0) (Zb Zt Zo)))) (Zb (s_op Wt Zt (Z6 (Zb (Zf 0) (Zb Zt Zo)))) Zo))))) (s_g 5)
 (Z2 (Yb (s_op s_ix (Zf 1) (s_op Ze7 (s_op Wt (Zq9 (Zf 1) (Zb (s_op s_ix (Zf 2) (Zf 3)) Zo)) (Zf 5)) Zt)) (s_g 6))
 (Pb (P6 (Zf 4) (Zb (s_op Wt (s_op Wt (s_sl Zat (Zf 2) Uj (Vq (Zf 3))) (Zf 6)) (s_sl Zat (Zf 2) (Vq (s_op Wt (Zf 3) Zt)) Uj)) Zo)))))
 (Z2 (Xb (Ze9 (Yz (s_op s_gt (s_cb Uq (Zb (Zf 2) Zo)) Zt)) (Yz (s_op s_eq (Z6 (Zb (Zf 0) (Zb Zt Zo))) Zt)))
 (Yb (s_sl Zat (Zf 2) Uj (Vq (s_un Ri Zt))) (Zav (Zf 4) Zt))
 Yl)
 (Yr (Zf 4))))))))),λds M Kk hM hD h=>?_⟩
  let⟨k0,rfl,h⟩:=h;let⟨hk,k⟩:=h;exists ·,·,k0,8,rfl,hk,⟨nofun,nofun⟩,λy y0 y1=>?_;exists ·,⟨(),()⟩,?_,λj ys M'=>M=M'/\∃cs:List Nat,cs.length=j/\(∀c∈cs,c<26)/\ys=(cs.map λc=>(⟨#[97+c]⟩:Str)).map D.str,λ_ _ _ _ _=>trivial,⟨rfl,[],rfl,(λ_ h=>nomatch h),rfl⟩,?_,?_
  .show(1+y).toNat<=sizeLine;exact Zp ()
  .rintro j x ys _ hj rfl ⟨rfl,cs,rfl,hc,rfl⟩;exists ·,·,k0,26,rfl,hk,⟨nofun,nofun⟩,λq q0 q1=>?_;obtain⟨n,rfl⟩:∃n:Nat,q=n:=⟨q.toNat,()⟩;refine⟨_,_,rfl,nofun,Zrt (),rfl,cs++[n],by rw[Jd];rfl,λc hc'=>?_,by rw[Jg,Jg];rfl⟩;rcases Ga.mp hc' with z|z
   .exact hc c z
   .rw[Jm.mp z];lia
  rintro ys _ ⟨rfl,cs,lc,hc,rfl⟩;let lc:cs.length=(1+y).toNat:=lc;exists _,·,rfl,?_,?_
  .rw[Gm,Jb,Zod];show _+_*0<=_;lia
  rw[Zof];refine g_nx ?_;dsimp only;refine Zgg (λρ' M'=>∃cs:List Nat,ρ'=[some (.cell k0),some (.str Zk7),some (.str (nmS cs)),none,none,none,none]/\M=M'/\1<=cs.length/\cs.length<=8/\∀c∈cs,c<26) (λKn hn=>?_) ?_
  .exists ·,k0,4,rfl,hk,⟨nofun,nofun⟩,λr r0 r1=>.inl ⟨_,rfl,_,rfl,ite2 (λh=>?_) (λh=>hn _ _ ⟨cs,rfl,rfl,(),(),hc⟩)⟩;exists(show 5<=sizeLine by decide),·,k0,5,rfl,hk,⟨nofun,nofun⟩,λq q0 q1=>?_;let:q=0\/q=1\/q=2\/q=3\/q=4:=by lia
   rcases this with rfl|rfl|rfl|rfl|rfl
   .exists _,_,·,rfl,rfl,hn _ _ ⟨[2,14,3,4],?_,rfl,nofun,nofun,nofun⟩;rw[show nmS [2,14,3,4]=Cj "code" from by decide +kernel];rfl
   .exists _,_,·,rfl,rfl,hn _ _ ⟨[17,4,0,3],?_,rfl,nofun,nofun,nofun⟩;rw[show nmS [17,4,0,3]=Cj "read" from by decide +kernel];rfl
   .exists _,_,·,rfl,rfl,hn _ _ ⟨[13,14,13,4],?_,rfl,nofun,nofun,nofun⟩;rw[show nmS [13,14,13,4]=Cj "none" from by decide +kernel];rfl
   .exists _,_,·,rfl,rfl,hn _ _ ⟨[14,17],?_,rfl,nofun,nofun,nofun⟩;rw[show nmS [14,17]=Cj "or" from by decide +kernel];rfl
   .exists _,_,·,rfl,rfl,hn _ _ ⟨[12,4,13,3],?_,rfl,nofun,nofun,nofun⟩;rw[show nmS [12,4,13,3]=Cj "mend" from by decide +kernel];rfl
  clear hc lc;rintro _ _ ⟨cs,rfl,rfl,c1,c8,hc⟩;let ln:=Wc cs;let l0:(0:Int)<((nmS cs).length:Int):=by lia
  exists ·,k0,8,rfl,hk,⟨nofun,nofun⟩,λq q0 q1=>⟨_,rfl,Zp (show(nmS cs).length<=100000 by lia),_,_,rfl,rfl,l0,?_⟩;let⟨a,ea,ha⟩:=Zh3 q (n:=(nmS cs).length) ();rw[ln]at ha;dsimp only;rw[ea];exists ·,(show 1<=sizeLine by decide),?_;let kl:=Wp hk;let hkM:∀xs:List D,(M++[MO.lst xs])[k0]?=some .hand:=λxs=>Yh hk;refine g_nx ?_;dsimp only;exists ·,k0,8,rfl,hkM _,⟨nofun,nofun⟩,λm1 m10 m11=>?_;exists ·,k0,8,rfl,hkM _,⟨nofun,nofun⟩,λm2 m20 m21=>?_;exists ·,k0,9,rfl,hkM _,⟨nofun,nofun⟩,λm3 m30 m31=>?_;let⟨m1,rfl⟩:=Gh m10
  let⟨m2,rfl⟩:=Gh m20;let⟨m3,rfl⟩:=Gh m30;let mv:[D.int (1+(m1:Int)),D.int (9+(m2:Int)),D.int (17+(m3:Int))]=[1+m1,9+m2,17+m3].map λm:Nat=>D.int (m:Int):=by
   show [_,_,_]=[D.int _,D.int _,D.int _];simp only[Lq];rfl
  let hmv:∀m∈[1+m1,9+m2,17+m3],m<26:=λm hm=>by
   simp only[Jq,Gp,or_false]at hm;lia
  let nd0:(cs::[1+m1,9+m2,17+m3].map (mvl cs a)).Nodup:=by
   let z:=Zk5 ha hc;let n1:=Pj (m:=0) (n:=1+m1) ha () ();let n2:=Pj (m:=0) (n:=9+m2) ha () ();let n3:=Pj (m:=0) (n:=17+m3) ha () ();let n4:=Pj (m:=1+m1) (n:=9+m2) ha () ();let n5:=Pj (m:=1+m1) (n:=17+m3) ha () ();let n6:=Pj (m:=9+m2) (n:=17+m3) ha () ();rw[z]at n1 n2 n3;simp[n1,n2,n3,n4,n5,n6]
  exists(show 3<=sizeLine by decide),?_;let es1:Txt.slice (nmS cs) none (some (a:Int))=nmS (cs.take a):=Zrs ();let es2:Txt.slice (nmS cs) (some ((a:Int)+1)) none=nmS (cs.drop (a+1)):=by rw[show(a:Int)+1=((a+1:Nat):Int)by lia];exact Zog ()
  let eat:L2.atI (nmS cs).cps.toList (a:Int)=some (97+cs[a]):=by
   show L2.atI (cs.map λc=>97+c) (a:Int)=_;unfold L2.atI;rw[Zou (by rw[Jb];exact ha)];show(cs.map λc=>97+c)[a]?=_;rw[Jv,Ja ha];rfl
  let hca:=hc _ (Jr ha);exists ·,λi ρ M'=>∃v5 v6:Option D,ρ=[some (.cell k0),some (.str Zk7),some (.str (nmS cs)),some (.int a),some (.cell M.length),v5,v6]/\M++[.lst (((cs::([1+m1,9+m2,17+m3].take i).map (mvl cs a)).map nmS).map .str)]=M',λ_ _ _ _ _=>trivial,⟨_,_,rfl,rfl⟩,?_,?_
  .rintro i x ρ _ hi hx ⟨v5,v6,rfl,rfl⟩;let hx:([1+m1,9+m2,17+m3].map λm:Nat=>D.int (m:Int))[i]?=some x:=by rw[<-mv];exact hx
   let⟨hi',rfl⟩:=Xa hx;let hm:=hmv _ (Jr hi');let et:=Jt hi';let li:([1+m1,9+m2,17+m3].take i).length<=3:=by rw[Ji];exact Jff _ _
   obtain⟨m,em0⟩:∃m,[1+m1,9+m2,17+m3][i]=m:=⟨_,rfl⟩;obtain⟨ms,ems⟩:∃ms,[1+m1,9+m2,17+m3].take i=ms:=⟨_,rfl⟩;rw[em0,ems]at et;rw[em0]at hm;rw[ems]at li;rw[em0,ems];let lm:((cs::ms.map (mvl cs a)).map nmS).length<=4:=by rw[Jb,Jx,Jb];lia
   let em:((cs[a]:Int)+(m:Int)) % 26=(((cs[a]+m) % 26:Nat):Int):=by lia
   exists ·,·,·,·,·,_,·,Zp (show(nmS cs).length<=100000 by lia),eat,·,·,?_;rw[Zoh hca];exists _,·,rfl,(show(0:Int)<26 by decide),?_;dsimp only;rw[em];exists _,·,nofun,Zrt (Nat.mod_lt _ nofun),?_;exists ·,Rv Xd,·,·,·,Zp (show(nmS cs).length<=100000 by lia),·,?_;rw[es1];let l1:(nmS (cs.take a)).length<=8:=by rw[Wc,Ji];lia
   let l2:(nmS (cs.drop (a+1))).length<=8:=by rw[Wc,J8];lia
   exists Zp (show(nmS (cs.take a)).length+1<=100000 by lia),·,·,·,Zp (show(nmS cs).length<=100000 by lia),?_;dsimp only[Zf4];rw[es2,show(⟨#[97+(cs[a]+m) % 26]⟩:Str)=nmS [(cs[a]+m) % 26]from rfl,Zmm];let l3:(nmS (cs.take a++[(cs[a]+m) % 26])).length<=9:=by rw[Wc,Jd,Ji];show _+1<=9;lia
   exists Zp (),?_;rw[Zmm,Zok ha];exists M.length,_,·,rfl,Yk,?_,?_
   .rw[Jb];exact Bc lm nofun
   rw[Xj];refine .inl ⟨_,_,rfl,?_⟩;rw[et]
   congr 3
   rw[Jg,<-Jfh,Jg,Jg];rfl
  rintro ρ _ ⟨v5,v6,rfl,rfl⟩;let e3:[1+m1,9+m2,17+m3].take [D.int (1+(m1:Int)),D.int (9+(m2:Int)),D.int (17+(m3:Int))].length=[1+m1,9+m2,17+m3]:=rfl;rw[show Jh4 _ [1+m1,9+m2,17+m3]=[1+m1,9+m2,17+m3]from e3];let okn:∀z∈(cs::[1+m1,9+m2,17+m3].map (mvl cs a)).map nmS,z.length<=8/\K4 z=true:=λz hz=>by
   let⟨c,hc',rfl⟩:=Jp.mp hz;rcases Jq.mp hc' with rfl|h
   .exists by lia,Zfg hc
   .let⟨m,_,rfl⟩:=Jp.mp h;exists by rw[Wc,Ni];lia,Zfg (Zh0 hc)
  let ndn:((cs::[1+m1,9+m2,17+m3].map (mvl cs a)).map nmS).Nodup:=by
   rw[List.nodup_iff_pairwise_ne,Ge];exact(List.nodup_iff_pairwise_ne.mp nd0).imp λh e=>h (Zhy e)
  let fin0:=k _ rfl ndn okn;exists ·,Zp (show(nmS cs).length<=100000 by lia),_,·,rfl,·,ite2 (λh=>?_) (λh=>iteF ⟨_,rfl,.inl fin0⟩);let h1:1<cs.length:=by have:=of_decide_eq_true h;lia
  exists ·,k0,2,rfl,hkM _,⟨nofun,nofun⟩,λq q0 q1=>.inl ⟨_,rfl,_,rfl,ite2 (λh=>?_) (λh=>⟨_,rfl,.inl fin0⟩)⟩;exists ·,·,·,Zp (show(nmS cs).length<=100000 by lia),?_;dsimp only;rw[Zoe ()];exists ·,M.length,_,1,1,rfl,rfl,Yk,rfl,?_;rw[Xj];exists ·,.inl ?_;let:=k [nmS cs,nmS (cs.take (cs.length-1)),nmS (mvl cs a (9+m2)),nmS (mvl cs a (17+m3))] rfl ?_ ?_
  .exact this
  .let hl:∀m,nmS (cs.take (cs.length-1))≠nmS (mvl cs a m):=λm e=>by
    let:=congrArg Ey (Zhy e);rw[Ni,Ji]at this;lia
   let hl0:nmS cs≠nmS (cs.take (cs.length-1)):=λe=>by
    let:=congrArg Ey (Zhy e);rw[Ji]at this;lia
   let ndn:[nmS cs,nmS (mvl cs a (1+m1)),nmS (mvl cs a (9+m2)),nmS (mvl cs a (17+m3))].Nodup:=ndn;rw[Gx,Gx,Gx]at ndn;let⟨g1,g2,g3,g4⟩:=ndn;simp only[Jq,Gp,or_false,not_or]at g1 g2 g3;simp only[Gx,Jq,Gp,or_false,not_or,Ff,and_true,not_false_eq_true];exists⟨hl0,g1.2.1,g1.2.2⟩,⟨hl _,hl _⟩,g3
  .intro z hz;simp only[Jq,Gp,or_false]at hz;rcases hz with rfl|rfl|rfl|rfl
   .exists by lia,Zfg hc
   .exists by rw[Wc,Ji];lia,Zfg λc h=>hc c (Bl h)
   .exists by rw[Wc,Ni];lia,Zfg (Zh0 hc)
   .exists by rw[Wc,Ni];lia,Zfg (Zh0 hc)
open L3
def Zbp:Sp3:=λds M K=>∃(k:Nat)(n lg:Int),ds=[.cell k,.int n,.int lg]/\M[k]?=some .hand/\(1<=n/\n<=8/\1<=lg/\lg<=4)/\∀Ls:List (List Pr),(Ls.length:Int)=n->(∀L∈Ls,TbOk L)->K (.cell M.length) (M++[.lst (Ls.map tbD)])
theorem Zrw:∀(r:List Int)(c:Int),∃m,mxOf (some c) r=some m
 |[],c=>⟨c,rfl⟩
 |_::r,_=>Zrw r _
def wsD(ws:List (List Int)):D:=.lst (ws.map wD)
theorem Jbf(T:Txt mg)(Zj:Cal P w K mg base "_law_draw" 1 ["_law_hand","_law_many"] (spOf ⟨C,K⟩ Zjd))(Ud:Cal P w K mg base "_law_bytes" 2 ["_law_hand","_law_most"] (spOf ⟨C,K⟩ Zm3))(V7:Cal P w K mg base "_law_words" 2 ["_law_hand","_law_some","_law_most","_law_longest"] (spOf ⟨C,K⟩ Zmv))(V9:Cal P w K mg base "_law_signs" 2 ["_law_hand","_law_many"] (spOf ⟨C,K⟩ Zmy))(V8:Cal P w K mg base "_law_table" 2 ["_law_hand","_law_words_here","_law_signs_here"] (spOf ⟨C,K⟩ Zmx)){f:Addr}(F:Fun K "_law_tables" "_law_tables" Jam f fd):FnOk P w K mg base CX0 3 f fd ["_law_hand","_law_many","_law_longest"] (spOf ⟨C,K⟩ Zbp):=by
 refine L3.Fun.ok3 F Jbe (λds M K3 h=>?_) (λcdv A outer s H E hr=>?_)
 .let⟨k0,n,lg,rfl,_⟩:=h;rfl
 .let SC:=Jbe;let hu:=hr.units;let hu1:=X6 hr;let Zk:Room 1 _:=hr.mono nofun;let Ny:Room 2 _:=hr.mono nofun;let Nr:Room 2 _:=hr.mono nofun;let Nv:Room 2 _:=hr.mono nofun;let Nu:Room 2 _:=hr.mono nofun;refine⟨_,_,(Ze (Zv (i:=3) SC.nd rfl (Ed rfl) (Zw Ud Ny rfl (Za (pv 0) (Za Zh Zd))))
 (Ze (U3 (i:=4) SC.nd rfl rfl (T:=["_law_k"]) (cs:=[0,3,2]) rfl (CScope.ok (by kernel_rfl)) (Yi rfl T.b_range (Za (pv 1) Zd)) (λ_ _ _ _=>(Zx (i:=0) (Wd (by kernel_rfl)) rfl (Cg rfl) (Ed rfl))) (λ_ _ _ _=>Xc) (λ_ _ _ _=>(Zw V7 Nr rfl (Za (pv 1) (Za (pv 2) (Za Zh (Za (pv 3) Zd)))))) (Xe nofun))
 (Ze (Zv (i:=5) SC.nd rfl (Ed rfl) (Zw V9 Nv rfl (Za (pv 0) (Za (Z3 (Y9 (K':=K) rfl) (Zs (Zpj (K:=K) rfl rfl) (by rfl) T.b_max Hv (Za (Wb (T:=["_law_one"]) (cs:=[]) rfl (CScope.ok (by kernel_rfl)) (X0 (pv 4)) (λ_ _ _ _=>(Zx (i:=0) (Wd (by kernel_rfl)) rfl (Cg rfl) (Ed rfl))) (λ_ _ _ _=>Xc) (λ_ _ _ _=>(Zs (Xo (K:=K) rfl) (by rfl) T.b_len Fw (Za (pv 0) Zd))) (Xe nofun)) Zd)) (Zw Zj Zk rfl (Za (pv 0) (Za Zh Zd)))) Zd))))
 (Ze (U3 (i:=6) SC.nd rfl rfl (T:=["_law_one"]) (cs:=[0,5]) rfl (CScope.ok (by kernel_rfl)) (X0 (pv 4)) (λ_ _ _ _=>(Zx (i:=0) (Wd (by kernel_rfl)) rfl (Cg rfl) (Ed rfl))) (λ_ _ _ _=>Xc) (λ_ _ _ _=>(Zw V8 Nu rfl (Za (pv 1) (Za (pv 0) (Za (pv 2) Zd))))) (Xe nofun))
 (Ze (Yn (Z5 (Up (K':=K) rfl hu) (Zw Zj Zk rfl (Za (pv 0) (Za Zh Zd))) Zh (Ya _))
 (Zi (Rp (Zhh (Zz (Z8 (K':=K) rfl) (pv 6) Zh (λ_ _=>rfl)) (Yc (T6 W2 Zh)) (λ_ _=>⟨_,rfl⟩)) (Pe (pv 6) (T6 W2 Zh) Va)))
 Z1)
 (Zi (Z0 (pv 6)))))))),λ_=>(Z2 (Yb (Z6 (Zb (Zf 0) (Zb Zt Zo))) (s_g 3))
 (Z2 (Yb (Rj (Zcj (Zb (Zf 1) Zo)) (s_g 0) Zas (Z6 (Zb (Zf 1) (Zb (Zf 2) (Zb Zt (Zb (Zf 3) Zo)))))) (s_g 4))
 (Z2 (Yb (Z6 (Zb (Zf 0) (Zb (s_op Wt (s_cb Zq4 (Zb (Rj (s_il (Zf 4)) (s_g 0) Zas (s_cb Uq (Zb (Zf 0) Zo))) Zo)) (Z6 (Zb (Zf 0) (Zb Zt Zo)))) Zo))) (s_g 5))
 (Z2 (Yb (Zns (s_il (Zf 4)) (s_g 0) Zas (Z6 (Zb (Zf 1) (Zb (Zf 0) (Zb (Zf 2) Zo))))) (s_g 6))
 (Z2 (Xb (Yz (s_op s_eq (Z6 (Zb (Zf 0) (Zb Zt Zo))) Zt))
 (Yb (Zt3 (s_op s_ix (Zf 6) Zt) (Vq (s_un Ri Zt))) (Zav (Zf 6) (s_un Ri Zt)))
 Yl)
 (Yr (Zf 6))))))),λds M Kk hM hD h=>?_⟩
  let⟨k0,n,lg,rfl,h⟩:=h;let⟨hk,⟨n1,n8,g1,g4⟩,k⟩:=h;exists ·,k0,3,rfl,hk,⟨nofun,nofun⟩,λbs nb b2 b3 br=>?_;let b3:bs.length<=3:=by lia
  let bne:bs≠[]:=λz=>by rw[z]at b2;cases b2
  exists ·,·,⟨(),()⟩,?_,λj ys M'=>M=M'/\∃wss:List (List (List Int)),wss.length=j/\ys=wss.map wsD/\∀ws∈wss,WOk ws/\ws.length<=12,λ_ _ _ _ _=>trivial,⟨rfl,[],rfl,rfl,λ_ h=>nomatch h⟩,?_,?_
  .show n.toNat<=sizeLine;exact Zp ()
  .rintro j x ys _ hj rfl ⟨rfl,wss,lw,rfl,okw⟩;exists ·,·,·,k0,bs,3,lg,rfl,hk,⟨nb,bne,(),nofun,nofun,g1,g4⟩,λws ow lw'=>⟨rfl,wss++[ws],by rw[Jd,lw];rfl,by rw[Jg];rfl,λw hw=>?_⟩;rcases Ga.mp hw with z|z
   .exact okw w z
   .rw[Jm.mp z];exact⟨ow,()⟩
  rintro ys _ ⟨rfl,wss,lw,rfl,okw⟩;let lw:wss.length=n.toNat:=lw;let lwm:(wss.map wsD).length=wss.length:=Jb _;exists ·,·,·,?_,λj ys M'=>M=M'/\ys=((wss.take j).map λws=>(ws.length:Int)).map .int,λ_ _ _ _ _=>rfl,⟨rfl,rfl⟩,?_,?_
  .show(wss.map wsD).length<=sizeLine;exact Zp ()
  .rintro j x ys _ hj hx ⟨rfl,rfl⟩;let⟨hj',rfl⟩:=Xa hx;exists ·,·,rfl,?_;rw[Jt hj',Jg,Jg];show _=_++[D.int _];rw[Jb]
  rintro ys _ ⟨rfl,rfl⟩;rw[show Jh4 (wss.map wsD).length wss=wss by rw[lwm,Gb]];obtain⟨mx,emx,hmx⟩:∃mx,mxOf none (wss.map λws=>(ws.length:Int))=some mx/\(∀ws∈wss,(ws.length:Int)<=mx)/\0<=mx/\mx<=12:=by
   let ge:=(Zoj (wss.map λws=>(ws.length:Int)) none).1;let le:=Zoi (b:=12) (wss.map λws=>(ws.length:Int)) none nofun (λm hm=>by
    let⟨ws,hws,rfl⟩:=Jp.mp hm;let:=(okw ws hws).2;lia) (λz e=>nomatch e)
   obtain⟨w0,r,rfl⟩:∃w0 r,wss=w0::r:=by
    cases wss with
    |nil=>have:([]:List (List (List Int))).length=n.toNat:=lw;let:(0:Nat)=n.toNat:=this;lia
    |cons a b=>exact⟨a,b,rfl⟩
   let⟨m,em⟩:=Zrw (r.map λws=>(ws.length:Int)) (w0.length:Int);let em':mxOf none ((w0::r).map λws=>(ws.length:Int))=some m:=em;rw[em']at ge le;exists m,em',λws hws=>ge _ (Jp.mpr ⟨ws,hws,rfl⟩),?_,le;let:=ge _ (Jp.mpr ⟨w0,Jn,rfl⟩);let:(w0.length:Int)<=m:=this;lia
  exists _,_,mx,rfl,rfl,emx,?_;exists ·,k0,2,rfl,hk,⟨nofun,nofun⟩,λr r0 r1=>?_;exists k0,·,hk,⟨(),()⟩,λss nds lss=>?_;exists ·,·,?_,λj ys M'=>M=M'/\∃Ls:List (List Pr),Ls.length=j/\ys=Ls.map tbD/\∀L∈Ls,TbOk L,λ_ _ _ _ _=>rfl,⟨rfl,[],rfl,rfl,λ_ h=>nomatch h⟩,?_,?_
  .show(wss.map wsD).length<=sizeLine;exact Zp ()
  .rintro j x ys _ hj hx ⟨rfl,Ls,lL,rfl,okL⟩;let⟨hj',rfl⟩:=Xa hx;let⟨ow,lw⟩:=okw _ (Jr hj');let hle:=hmx.1 _ (Jr hj');generalize wss[j]=wj at ow lw hle;exists ·,·,·,k0,wj,ss,rfl,hk,⟨ow,(),nds,(),()⟩,λL fr fi pw=>⟨rfl,Ls++[L],by rw[Jd,lL];rfl,by rw[Jg];rfl,λw hw=>?_⟩;rcases Ga.mp hw with z|z
   .exact okL w z
   .rw[Jm.mp z];exists fr,fi
  rintro ys _ ⟨rfl,Ls,lL,rfl,okL⟩;let lL:Ls.length=(wss.map wsD).length:=lL;let lLn:(Ls.length:Int)=n:=by lia
  refine g_nx ?_;dsimp only;exists ·,k0,4,rfl,Yh hk,⟨nofun,nofun⟩,λq q0 q1=>.inl ⟨_,rfl,_,rfl,ite2 (λh=>?_) (λh=>⟨_,rfl,.inl (k Ls lLn okL)⟩)⟩;let hL0:0<Ls.length:=by lia
  exists ·,?_;dsimp only[uC];refine Qb (i:=0) Xd (Wh (f:=tbD) (as:=Ls) (j:=0) rfl hL0) ?_;exists 1,rfl,·,rfl,·,?_;exists ·,1,rfl,M.length,_,_,Ls.length-1,rfl,rfl,Yk,?_,?_
  .rw[Jb];unfold ixN;rw[Fp nofun,Fs ()]
   congr 1
   lia
  rw[Xj];let ok0:=okL _ (Jr hL0);let e1:(Ls.map tbD).set (Ls.length-1) (.lst ((Ls[0].map pD).reverse))=(Ls.set (Ls.length-1) Ls[0].reverse).map tbD:=by
   rw[List.map_set]
   congr 1
   unfold tbD;rw[Jcp]
  rw[e1];exists ·,.inl (k _ (by rw[Gq];exact lLn) λL hL=>?_);rcases Kc hL with z|z
  .exact okL L z
  .rw[z];exists ok0.1.rev,by rw[Fc];exact ok0.2.1,λp hp=>ok0.2.2 p (List.mem_reverse.mp hp)
open L3
theorem Dd(T:Txt mg)(cl:Cls K Zm)(n1:Xl K Zm "codes_by_name")(n2:Xl K Zm "marks_by_name"){f:Addr}(F:Fun K "__init__" "Family.__init__" Xr f fd):FnOk P w K mg base CX0 1 f fd ["self"] (spOf ⟨C,K⟩ (Zm0 Zm)):=by
 refine L3.Fun.ok3 F Jbp (λds M K3 h=>?_) (λcdv A outer s H E hr=>?_)
 .let⟨f,rfl,_⟩:=h;rfl
 .let SC:=Jbp;let hu:=hr.units;let hu1:=X6 hr;refine⟨_,_,(Ze (Ro (pv 0) Sz rfl)
 (Zi (Ro (pv 0) Sz rfl))),λ_=>(Z2 (Zl7 (Zf 0) P4)
 (Zl7 (Zf 0) P4)),λds M Kk hM hD h=>?_⟩
  let⟨f,rfl,h⟩:=h;let⟨hf,hl,k⟩:=h;let lf:f<M.length:=by lia
  refine⟨_,rfl,f,Zm,[],rfl,Yh hf,cl,n1,nofun,?_⟩;refine⟨_,rfl,f,Zm,_,rfl,Yh (Jz (by rw[Jd];lia)),cl,n2,(show 1<1000 by decide),.inl ?_⟩;let e:(((M++[MO.dct []]).set f (.ins Zm (Qx "codes_by_name" (.cell M.length) [])))++[MO.dct []]).set f (.ins Zm (Qx "marks_by_name" (.cell ((M++[MO.dct []]).set f (.ins Zm (Qx "codes_by_name" (.cell M.length) []))).length) (Qx "codes_by_name" (.cell M.length) [])))=M.set f (.ins Zm (famD f))++[.dct [],.dct []]:=by
   rw[B7 _ _ (by rw[Gq,Jd];lia),Jfb,B7 _ _ lf,Gd];let l2:((M++[MO.dct []]).set f (.ins Zm (Qx "codes_by_name" (.cell M.length) []))).length=f+2:=by rw[Gq,Jd,hl];rfl
   rw[l2,hl];rfl
  exact e ▸ k
theorem D6(T:Txt mg)(cl:Cls K Zm)(n1:Xl K Zm "codes_by_name")(n2:Xl K Zm "marks_by_name"){f:Addr}(F:Fun K "add" "Family.add" Vt f fd):FnOk P w K mg base CX0 1 f fd ["self","name","code","mark"] (spOf ⟨C,K⟩ (Zst Zm)):=by
 refine L3.Fun.ok3 F F7 (λds M K3 h=>?_) (λcdv A outer s H E hr=>?_)
 .let⟨f,n,S,mk,zs,rfl,_⟩:=h;rfl
 .let SC:=F7;let hu:=hr.units;let hu1:=X6 hr;refine⟨_,_,(Ze (Yn (W4 (Zmk hu1 (pv 1) (Vo (pv 0) rfl)))
 (Zi Nd)
 Z1)
 (Ze (T5 hu1 (Vo (pv 0) rfl) (pv 1) (pv 2) rfl)
 (Zi (T5 hu1 (Vo (pv 0) rfl) (pv 1) (Z9 (Zjo (K:=K) rfl) (by rfl) T.b_tuple Ee (Za (pv 3) Zd)) rfl)))),λ_=>(Z2 (Xb (s_b (Zra (Zf 1) (Zaw (Zf 0))))
 Zno
 Yl)
 (Z2 (Zax (Zaw (Zf 0)) (Zf 1) (Zf 2))
 (Zax (Zaw (Zf 0)) (Zf 1) (s_cb Zcf (Zb (Zf 3) Zo))))),λds M Kk hM hD h=>?_⟩
  let⟨f,n,S,mk,zs,rfl,h⟩:=h;let⟨Fa,hl,hn,k⟩:=h;let dc:Se M (.cell (f+1))=some (Ux zs):=by simp only[Se,Fa.h1]
  let ll:∀g:Fq->D,(zs.map λz=>((.inr z.1:Key),g z)).length<sizeLine:=λg=>by rw[Jb];exact Bc hl nofun
  refine⟨_,rfl,_,rfl,f,Zm,_,_,rfl,Fa.h0,cl,n1,rfl,_,.inl ⟨_,_,dc,rfl,rfl⟩,_,rfl,?_⟩;rw[show valD (Ux zs) (.inr n)=none from Zlv hn];refine iteF ?_;let l1:=Wp Fa.h1;let new:∀g:Fq->D,∀v:D,putD (zs.map λz=>((.inr z.1:Key),g z)) (.inr n) v=(zs.map λz=>((.inr z.1:Key),g z))++[(.inr n,v)]:=λg v=>Sx λkv hkv e=>by
   let⟨z,hz,rfl⟩:=Jp.mp hkv;exact hn (Jp.mpr ⟨z,hz,Lh e⟩)
  refine⟨_,rfl,_,rfl,f,Zm,_,_,rfl,Fa.h0,cl,n1,rfl,_,rfl,_,.inl ⟨f+1,_,_,rfl,Fa.h1,rfl,ll _,rfl⟩,?_⟩;refine⟨_,rfl,_,_,rfl,rfl,_,rfl,f,Zm,_,_,rfl,We Fa.h0 (),cl,n2,rfl,_,rfl,_,.inl ⟨f+2,_,_,rfl,We Fa.h2 (),rfl,ll _,rfl⟩,.inl ?_⟩;let e1:putD (Ux zs) (.inr n) (.code S)=Ux (zs++[(n,S,mk)]):=by
   unfold Ux;rw[new,Jg];rfl
  let e2:putD (Za4 zs) (.inr n) (.tup (mk.map .int))=Za4 (zs++[(n,S,mk)]):=by
   unfold Za4;rw[new,Jg];rfl
  rw[e1,e2];exact k
def Du(T:Txt mg)(cl:Cls K Zm)(n1:Xl K Zm "codes_by_name")(n2:Xl K Zm "marks_by_name")(Qr:Rx P w K mg base "NoName" Zq 1 ["self","name"] (spX1 Zq "name")){f:Addr}(F:Fun K "code" "Family.code" Vb f fd):FnOk P w K mg base (CXE P w) 3 f fd ["self","name"] (W9 ⟨C,K⟩ (Zm2 Zm Zq)):=by
 refine L3.Fun.okX3 F F8 (λds M K3 KX h=>?_) (λcdv A outer s H E hr=>?_)
 .let⟨f,n,zs,rfl,_⟩:=h;rfl
 .let SC:=F8;let hu:=hr.units;let hu1:=X6 hr;let Zik:Room 2 _:=hr.mono nofun;refine⟨_,_,(Ze (Yn (W4 (Za2 hu1 (pv 1) (Vo (pv 0) rfl)))
 (Zi (Tj Qr Zik rfl (Za (pv 1) Zd)))
 Z1)
 (Zi (Z0 (Wv hu1 (Vo (pv 0) rfl) (pv 1) (λ_ _=>rfl))))),λ_ _ he hk hx=>(Z2 (Xb (s_b (Zdy (Zf 1) (Zaw (Zf 0))))
 (P1 he hk hx (Zb (Zf 1) Zo))
 Yl)
 (Yr (Uu (Zaw (Zf 0)) (Zf 1)))),λds M Kk KX hM hD h=>?_⟩
  let⟨f,n,zs,rfl,h⟩:=h;let⟨Fa,k,kx⟩:=h;let dc:Se M (.cell (f+1))=some (Ux zs):=by simp only[Se,Fa.h1]
  by_cases hn:n∈zs.map (·.1)
  .let⟨z,hz,rfl⟩:=Jp.mp hn;let ev:valD (Ux zs) (.inr z.1)=some (.code z.2.1):=Zf2 Fa.nd hz;exists ·,·,f,Zm,_,·,Fa.h0,cl,n1,rfl,_,.inl ⟨_,_,dc,rfl,rfl⟩,·,?_;rw[ev];refine iteF ?_;exists ·,f,Zm,_,·,Fa.h0,cl,n1,rfl,·,_,.inl ⟨_,_,dc,rfl,ev.symm⟩,.inl (k z hz rfl)
  .exists ·,·,f,Zm,_,·,Fa.h0,cl,n1,rfl,_,.inl ⟨_,_,dc,rfl,rfl⟩,·,?_;rw[show valD (Ux zs) (.inr n)=none from Zlv hn];exact iteT ⟨_,rfl,_,rfl,kx hn⟩
open L3
def Zm1(XF Pt:Addr)(pos:Pos)(qn:Str):Sp3:=λds M K=>∃(k:Nat)(d e:D)(ns:List Str)(Ls:List (List Pr)),ds=[d,e]/\M[k]?=some (.tab Pt pos qn)/\lsOf M d=some (ns.map .str)/\lsOf M e=some (Ls.map tbD)/\(ns.Nodup/\ns.length<=8/\(∀z∈ns,z.length<=8)/\∀L∈Ls,TbOk L) /\
 ∀(M':Mem)(f:Nat)(zs:List Fq),M<+:M'->M.length<=f->FamAt XF M' f zs->Tld zs (ns.zip Ls)->K (.cell f) M'
theorem Jco(T:Txt mg)(Zb1:Mkr P w K mg base "Code" C 4 ["self","table"] (Py C Pt lamP lamQ))(Zac:Mkr P w K mg base "Family" Zm 1 ["self"] (spOf ⟨C,K⟩ (Zm0 Zm)))(Zpv:Met P w K mg base Zm "add" 1 ["self","name","code","mark"] (spOf ⟨C,K⟩ (Zst Zm))){f:Addr}(F:Fun K "_law_family" "_law_family" Jca f fd):FnOk P w K mg base CX0 6 f fd ["_law_names_here","_law_tables_here"] (spOf ⟨C,K⟩ (Zm1 Zm Pt lamP lamQ)):=by
 refine L3.Fun.ok3 F Jaf (λds M K3 h=>?_) (λcdv A outer s H E hr=>?_)
 .let⟨k0,d,e,ns,Ls,rfl,_⟩:=h;rfl
 .let SC:=Jaf;let hu:=hr.units;let hu1:=X6 hr;let Zim:Room 5 _:=hr.mono nofun;let Zil:Room 2 _:=hr.mono nofun;let Zsi:Room 1 _:=hr.mono nofun;refine⟨_,_,(Ze (Zv (i:=2) SC.nd rfl (Cg rfl) (Zrn Zac Zil rfl))
 (Ze (Y2 Cm rfl (Zmh rfl T.b_zip (Za (pv 0) (Za (pv 1) Zd))) (Uv (n:=2) rfl (Yf (Zx (i:=3) SC.nd rfl (Cg rfl)) (Yf (Zx (i:=4) SC.nd rfl (Cg rfl)) Wu)) (by rfl))
 (Ze (Zv (i:=5) SC.nd rfl (Cg rfl) (Yv Zd))
 (Ze (Yn (PW.pt (Rn (Z5 (Zkb (K':=K) rfl hu) (pv 4) (Xk Zd) (Ya _)) (T4 (Z5 (Up (K':=K) rfl hu) (Z3 Xf (Zs (Xo (K:=K) rfl) (by rfl) T.b_len Fw (Za (pv 3) Zd)) Zh) Zh (Ya _)))))
 (Zi (Zv (i:=5) SC.nd rfl (Cg rfl) (Zz (Z8 (K':=K) rfl) (Zz (Z8 (K':=K) rfl) (pv 4) Zh (λ_ _=>rfl)) Zh (λ_ _=>rfl))))
 Z1)
 (Zi (Vc (Zkz (pv 2) Zpv Zsi (Za (pv 3) (Za (Zud Zb1 Zim rfl (Za (Z9 (Vf (K:=K) rfl) (by rfl) T.b_list Cv (Za (pv 4) Zd)) Zd)) (Za (pv 5) Zd)))))))))
 (Zi (Z0 (pv 2))))),λ_=>(Z2 (Yb (Zt5 Zo) (s_g 2))
 (Z2 (Ur (s_iz (Zb (Zf 0) (Zb (Zf 1) Zo))) (Q9 (Xy (s_g 3) (Xy (s_g 4) Pa)))
 (Z2 (Yb (Wk Zo) (s_g 5))
 (Z2 (Xb (Ze9 (Yz (s_op s_ne (Zf 4) (Zch Zo))) (Yz (s_op s_eq (s_op Ze7 (s_cb Uq (Zb (Zf 3) Zo)) Zt) Zt)))
 (Yb (s_op s_ix (s_op s_ix (Zf 4) Zt) Zt) (s_g 5))
 Yl)
 (Pb (Znp (Zf 2) (Zb (Zf 3) (Zb (Zkm (Zb (s_cb Q7 (Zb (Zf 4) Zo)) Zo)) (Zb (Zf 5) Zo))))))))
 (Yr (Zf 2)))),λds M Kk hM hD h=>?_⟩
  let⟨k0,d,e,ns,Ls,rfl,h⟩:=h;let⟨h0,hd,he,⟨nd,l8,ln8,okL⟩,k⟩:=h;refine⟨M.length,rfl,Yk,by rw[Jd];rfl,rfl,?_⟩;rw[Xj];let F0:FamAt Zm (M++[MO.ins Zm (famD M.length)]++[MO.dct [],MO.dct []]) M.length []:=by
   rw[Gd];exists Sm (k:=0),Sm (k:=1),Sm (k:=2),Ff
  let p0:M<+:M++[MO.ins Zm (famD M.length)]++[MO.dct [],MO.dct []]:=by rw[Gd];exists ·
  generalize M++[MO.ins Zm (famD M.length)]++[MO.dct [],MO.dct []]=M0 at F0 p0;refine g_nx ?_;dsimp only;exists ·,·,_,_,_,·,(Yy (Yp p0 hd)).2.1,(Yy (Yp p0 he)).2.1,λi ρ M'=>∃(zs:List Fq)(v3 v4 v5:Option D),ρ=[some d,some e,some (.cell M.length),v3,v4,v5]/\M<+:M'/\FamAt Zm M' M.length zs/\zs.length=i/\∀(j:Nat)(z:Fq)(q:Nt),zs[j]?=some z->(ns.zip Ls)[j]?=some q->z.1=q.1/\z.2.1.Perm q.2,λ_ _ _ _ h=>?_,⟨[],_,_,_,rfl,p0,F0,rfl,λi z q e=>nomatch e⟩,?_,?_
  .let⟨_,_,_,_,_,p,_⟩:=h;exists(Yy (Yp p hd)).2.1,(Yy (Yp p he)).2.1
  .rintro i x ρ M1 hi ⟨a,b,ea,eb,rfl⟩ ⟨zs,v3,v4,v5,rfl,p1,F1,lz,tz⟩;let⟨ha,rfl⟩:=Xa ea;let⟨hb,rfl⟩:=Xa eb;let hz:i<(ns.zip Ls).length:=by rw[Bb];lia
   let okl:=okL _ (Jr hb);let nw:ns[i]∉zs.map (·.1):=λhm=>by
    let⟨z,hz',e⟩:=Jp.mp hm;let⟨j,hj,rfl⟩:=Ju hz';let hj':j<(ns.zip Ls).length:=by lia
    let:=(tz j _ _ (Ja hj) (Ja hj')).1;rw[Ba]at this;let e2:ns[j]'(by rw[Bb]at hj';lia)=ns[i]:=this.symm.trans e;let:=(G7 nd).mp e2;lia
   let l1:=ln8 _ (Jr ha);exists ·,rfl,_,·,_,·,rfl,?_;exists Gf _,?_;refine g_nx ?_;dsimp only;refine Zgg (λρ' M'=>∃mk:List Int,ρ'=[some d,some e,some (.cell M.length),some (.str ns[i]),some (tbD Ls[i]),some (wD mk)]/\M1=M') (λKn hn=>?_) ?_
   .exists ·,Gf _,Ziy Zup (a:=Ls[i]) (b:=[]) rfl rfl ⟨_,rfl,?_⟩
    by_cases en:Ls[i]=[]
    .rw[Ft en];exact iteF (hn _ _ ⟨[],rfl,rfl⟩)
    rw[Fu en];refine iteT ?_;exists ·,Zp (show ns[i].length<=100000 by lia),_,·,rfl,(show(0:Int)<2 by decide),.inl ⟨_,rfl,_,rfl,ite2 (λh=>?_) (λh=>hn _ _ ⟨[],rfl,rfl⟩)⟩;let h0:0<Ls[i].length:=Gk.mpr en;exists ·,_,_,·,rfl,Wh (j:=0) rfl h0,_,_,·,rfl,rfl,hn _ _ ⟨Ls[i][0].2,rfl,rfl⟩
   rintro _ _ ⟨mk,rfl,rfl⟩;exists ·,⟨M.length,_,rfl,F1.h0,rfl⟩,·,·,_,·,rfl,k0,_,Ls[i],Xv p1 h0,rfl,rfl,okl,λS pm ri=>?_;exists ·,M.length,ns[i],S,mk,zs,rfl,F1,by rw[lz];let:i<ns.length:=ha;lia,nw,?_;let lt1:=Wp F1.h2;refine .inl ⟨zs++[(ns[i],S,mk)],_,_,_,rfl,?_,F1.put (Zrv F1.nd nw),by rw[Jd,lz];rfl,λj z q e1 e2=>?_⟩
   .unfold Zek;exact Rq (Rq p1 ()) ()
   .by_cases hj:j<zs.length
    .rw[Jo hj]at e1;exact tz j z q e1 e2
    .rw[Jw ()]at e1;let hj2:j=i:=by
      let:=(Jf.mp e1).1;simp at this;lia
     subst hj2;rw[lz,Nat.sub_self]at e1;cases e1;rw[Ja hz,Ba]at e2;cases e2;exists rfl,pm
  .rintro ρ M1 ⟨zs,v3,v4,v5,rfl,p1,F1,lz,tz⟩;let lz:zs.length=min (ns.map D.str).length (Ls.map tbD).length:=lz;rw[Jb,Jb]at lz;exists ·,.inl (k M1 _ zs p1 (Je _) F1 ⟨by rw[Bb];exact lz,tz⟩)
open L3
def Zeq:Sp3:=λds M K=>∃(d e:D)(ns:List Str)(Ls:List (List Pr)),ds=[d,e]/\lsOf M d=some (ns.map .str)/\lsOf M e=some (Ls.map tbD)/\(ns.Nodup/\ns.length<=8/\∀L∈Ls,TbOk L) /\
 ∀(M':Mem)(b:Nat),M<+:M'->M.length<=b->So M' b (ns.zip Ls)->K (.cell b) M'
theorem Dn(T:Txt mg){f:Addr}(F:Fun K "_law_books" "_law_books" Jaz f fd):FnOk P w K mg base CX0 1 f fd ["_law_names_here","_law_tables_here"] (spOf ⟨C,K⟩ Zeq):=by
 refine L3.Fun.ok3 F Jbw (λds M K3 h=>?_) (λcdv A outer s H E hr=>?_)
 .let⟨d,e,ns,Ls,rfl,_⟩:=h;rfl
 .let SC:=Jbw;let hu:=hr.units;let hu1:=X6 hr;refine⟨_,_,(Ze (Zv (i:=2) SC.nd rfl (Cg rfl) Sz)
 (Ze (Y2 Cm rfl (Zmh rfl T.b_zip (Za (pv 0) (Za (pv 1) Zd))) (Uv (n:=2) rfl (Yf (Zx (i:=3) SC.nd rfl (Cg rfl)) (Yf (Zx (i:=4) SC.nd rfl (Cg rfl)) Wu)) (by rfl))
 (Ze (T5 hu1 (pv 2) (pv 3) Sz rfl)
 (Zi (Y2 Cm rfl (X0 (pv 4)) (Uv (n:=2) rfl (Yf (Zx (i:=5) SC.nd rfl (Cg rfl)) (Yf (Zx (i:=6) SC.nd rfl (Cg rfl)) Wu)) (by rfl))
 (Zi (T5 hu1 (Wv hu1 (pv 2) (pv 3) (λ_ _=>rfl)) (pv 5) (pv 6) rfl))))))
 (Zi (Z0 (pv 2))))),λ_=>(Z2 (Yb P4 (s_g 2))
 (Z2 (Ur (s_iz (Zb (Zf 0) (Zb (Zf 1) Zo))) (Q9 (Xy (s_g 3) (Xy (s_g 4) Pa)))
 (Z2 (Zax (Zf 2) (Zf 3) P4)
 (Ur (s_il (Zf 4)) (Q9 (Xy (s_g 5) (Xy (s_g 6) Pa)))
 (Zax (Uu (Zf 2) (Zf 3)) (Zf 5) (Zf 6)))))
 (Yr (Zf 2)))),λds M Kk hM hD h=>?_⟩
  let⟨d,e,ns,Ls,rfl,h⟩:=h;let⟨hd,he,⟨nd,l8,okL⟩,k⟩:=h;let p0:M<+:M++[MO.dct []]:=⟨_,rfl⟩;refine g_nx ?_;dsimp only;exists ·,·,_,_,_,·,(Yy (Yp p0 hd)).2.1,(Yy (Yp p0 he)).2.1,λi ρ M'=>∃(cs:List Nat)(v3 v4 v5 v6:Option D),ρ=[some d,some e,some (.cell M.length),v3,v4,v5,v6]/\M<+:M'/\cs.length=i/\(∀c∈cs,M.length<c)/\M'[M.length]?=some (.dct (Em (λ(q:Nt)(c:Nat)=>((.inr q.1:Key),D.cell c)) ((ns.zip Ls).take i) cs))/\∀(j c:Nat)(q:Nt),cs[j]?=some c->(ns.zip Ls)[j]?=some q->M'[c]?=some (.dct (q.2.map prK)),λ_ _ _ _ h=>?_,⟨[],_,_,_,_,rfl,p0,rfl,(λ_ h=>nomatch h),Yk,λj c q e=>nomatch e⟩,?_,?_
  .let⟨_,_,_,_,_,_,p,_⟩:=h;exists(Yy (Yp p hd)).2.1,(Yy (Yp p he)).2.1
  .rintro i x ρ M1 hi ⟨a,b,ea,eb,rfl⟩ ⟨cs,v3,v4,v5,v6,rfl,p1,lc,lt,ho,hin⟩;let⟨ha,rfl⟩:=Xa ea;let⟨hb,rfl⟩:=Xa eb;let hz:i<(ns.zip Ls).length:=by rw[Bb];lia
   let okl:=okL _ (Jr hb);let lLi:=okl.2.1;let lM:=Wp ho;let et:=Jt hz;rw[Ba]at et;exists ·,rfl,_,·,_,·,rfl,?_;let ho1:(M1++[MO.dct []])[M.length]?=_:=Yh ho;let lzp:(Em (λ(q:Nt)(c:Nat)=>((.inr q.1:Key),D.cell c)) ((ns.zip Ls).take i) cs).length=i:=by rw[List.length_zipWith,Ji];lia
   refine⟨_,rfl,_,rfl,_,.inl ⟨M.length,_,_,rfl,ho1,rfl,by rw[lzp];exact Bc (by lia:i<=8) nofun,rfl⟩,?_⟩;let en:putD (Em (λ(q:Nt)(c:Nat)=>((.inr q.1:Key),D.cell c)) ((ns.zip Ls).take i) cs) (.inr ns[i]) (.cell M1.length)=Em (λ(q:Nt)(c:Nat)=>((.inr q.1:Key),D.cell c)) ((ns.zip Ls).take (i+1)) (cs++[M1.length]):=by
    rw[Sx λkv hkv e=>?_]
    .rw[et,List.zipWith_append (by rw[Ji];lia)];rfl
    .let⟨j,hj,rfl⟩:=Ju hkv;rw[List.getElem_zipWith]at e;let hj2:j<i:=by rw[lzp]at hj;exact hj
     let e2:=Lh e;rw[B6,Ba]at e2;let:=(G7 nd).mp e2;lia
   rw[en];let pz:M<+:(M1++[MO.dct []]).set M.length (.dct (Em (λ(q:Nt)(c:Nat)=>((.inr q.1:Key),D.cell c)) ((ns.zip Ls).take (i+1)) (cs++[M1.length]))):=Rq (p1.trans ⟨_,rfl⟩) (Je _);let hoz:((M1++[MO.dct []]).set M.length (.dct (Em (λ(q:Nt)(c:Nat)=>((.inr q.1:Key),D.cell c)) ((ns.zip Ls).take (i+1)) (cs++[M1.length]))))[M.length]?=_:=Jz (by rw[Jd];lia);let hcz:((M1++[MO.dct []]).set M.length (.dct (Em (λ(q:Nt)(c:Nat)=>((.inr q.1:Key),D.cell c)) ((ns.zip Ls).take (i+1)) (cs++[M1.length]))))[M1.length]?=some (.dct []):=We Yk ();let hinz:∀(j c:Nat)(q:Nt),cs[j]?=some c->(ns.zip Ls)[j]?=some q->((M1++[MO.dct []]).set M.length (.dct (Em (λ(q:Nt)(c:Nat)=>((.inr q.1:Key),D.cell c)) ((ns.zip Ls).take (i+1)) (cs++[M1.length]))))[c]?=some (.dct (q.2.map prK))/\c≠M1.length:=λj c q e1 e2=>by
    let h1:=hin j c q e1 e2;let h2:=lt c (Gg e1);let h3:=Wp h1;exact⟨We (Yh h1) (),()⟩
   generalize (M1++[MO.dct []]).set M.length (.dct (Em (λ(q:Nt)(c:Nat)=>((.inr q.1:Key),D.cell c)) ((ns.zip Ls).take (i+1)) (cs++[M1.length])))=M2 at pz hoz hcz hinz;let l2:=Wp hcz;let s0:M2.set M1.length (.dct [])=M2:=Kz λj=>by
    by_cases hj:M1.length=j
    .subst hj;rw[Jz l2,hcz]
    .rw[Gr hj]
   exists ·,·,λj ρ M'=>∃v5 v6:Option D,ρ=[some d,some e,some (.cell M.length),some (.str ns[i]),some (tbD Ls[i]),v5,v6]/\M2.set M1.length (.dct ((Ls[i].take j).map prK))=M',λ_ _ _ _ _=>rfl,⟨_,_,rfl,s0⟩,?_,?_
   .rintro j x ρ _ hj hx ⟨v5,v6,rfl,rfl⟩;let⟨hj',rfl⟩:=Xa hx;let ho2:(M2.set M1.length (.dct ((Ls[i].take j).map prK)))[M.length]?=_:=We hoz ();let hc2:(M2.set M1.length (.dct ((Ls[i].take j).map prK)))[M1.length]?=_:=Jz l2;let ndz:(((ns.zip Ls).take (i+1)).map (·.1)).Nodup:=by
     rw[List.nodup_iff_pairwise_ne,Ge,Bh];intro a b ha2 hb2 hab e;rw[Ji]at ha2 hb2;rw[B6,B6,Ba,Ba]at e;let:=(G7 nd).mp e;lia
    let ev:=Zf1 (cs:=cs++[M1.length]) ndz (i:=i) (q:=(ns[i],Ls[i])) (c:=M1.length) (by rw[Gi (),Ja hz,Ba]) (by rw[Jw (),lc,Nat.sub_self];rfl);exists ·,rfl,_,·,_,·,rfl,?_;exists ·,·,·,_,.inl ⟨_,_,by simp only[Se,ho2],rfl,ev.symm⟩,·,_,.inl ⟨M1.length,_,_,rfl,hc2,rfl,?_,rfl⟩,.inl ⟨_,_,rfl,?_⟩
    .rw[Jb,Ji];exact Bc (by lia:min j Ls[i].length<=100) nofun
    rw[Jfb]
    congr 2
    rw[Sx λkv hkv e=>?_,Jt hj',Jg]
    .rfl
    .let⟨p,hp,rfl⟩:=Jp.mp hkv;let⟨a,ha2,rfl⟩:=Ju hp;rw[Ji]at ha2;rw[B6]at e;exact(okl.1.get (i:=a) (j:=j) () hj' ()).1 (Kr e)
   .rintro ρ _ ⟨v5,v6,rfl,rfl⟩;let eL:Ls[i].take (Ls[i].map pD).length=Ls[i]:=by rw[Jb,Gb]
    rw[show Jh4 _ Ls[i]=Ls[i]from eL];refine .inl ⟨cs++[M1.length],_,_,_,_,rfl,Rq pz (),by rw[Jd,lc];rfl,λc hc=>?_,We hoz (),λj c q e1 e2=>?_⟩
    .rcases Ga.mp hc with z|z
     .exact lt c z
     .rw[Jm.mp z];exact lM
    .by_cases hj:j<cs.length
     .rw[Jo hj]at e1;let⟨g1,g2⟩:=hinz j c q e1 e2;exact We g1 g2
     .rw[Jw ()]at e1;let hj2:j=i:=by
       let:=(Jf.mp e1).1;simp at this;lia
      subst hj2;rw[lc,Nat.sub_self]at e1;cases e1;rw[Ja hz,Ba]at e2;cases e2;exact Jz l2
  .rintro ρ M1 ⟨cs,v3,v4,v5,v6,rfl,p1,lc,lt,ho,hin⟩;let lc:cs.length=min (ns.map D.str).length (Ls.map tbD).length:=lc;rw[Jb,Jb]at lc;let en:(ns.zip Ls).take (zIt d e (ns.map D.str) (Ls.map tbD)).n=ns.zip Ls:=Gc (by show _<=min _ _;rw[Bb,Jb,Jb];exact Je _);rw[en]at ho;exists ·,.inl (k M1 _ p1 (Je _) ⟨cs,by rw[Bb];exact lc,ho,λj c q e1 e2=>hin j c q e1 e2⟩)
open L3
theorem Zag(fr:Free L):Zp0 (L.map prK) L:=by
 induction L with
 |nil=>exact⟨(λ_ h=>nomatch h),λ_ _=>rfl⟩
 |cons q r ih =>
  unfold Free at fr;rw[Mc]at fr;let⟨i1,i2⟩:=ih fr.2;exists λp hp=>?_,λs hs=>?_
  .unfold valD;rw[Js,G2];rcases Jq.mp hp with rfl|h
   .rw[show decide ((prK p).1=C0 p.1)=true from Ft rfl];rfl
   .rw[show decide ((prK q).1=C0 p.1)=false from Fu λe=>(fr.1 p h).1 (Kr e)];exact i1 p h
  .unfold valD;rw[Js,G2,show decide ((prK q).1=C0 s)=false from Fu λe=>hs q Jn (Kr e)];exact i2 s λp hp=>hs p (Jh _ hp)
def Zpc:Sp3:=λds M K=>∃(c1 c2:Nat)(d:D)(L1 L2:List Pr)(ts:List Int),ds=[.cell c1,.cell c2,d]/\M[c1]?=some (.dct (L1.map prK))/\M[c2]?=some (.dct (L2.map prK))/\lsOf M d=some (ts.map .int)/\(TbOk L1/\TbOk L2/\ts.length<=20000) /\
 (∀(ns us:List Int)(M':Mem)(t:Nat),GoOk L1 L2 ts ns us->M<+:M'->M.length<=t->M'[t]?=some (.lst (us.map .int))->K (.tup [.lst (ns.map .int),.cell t]) M')/\((∀ns us,¬ GoOk L1 L2 ts ns us)->∀M',M<+:M'->K .non M')
theorem Ds(T:Txt mg){f:Addr}(F:Fun K "_law_go" "_law_go" Jbc f fd):FnOk P w K mg base CX0 1 f fd ["_law_one","_law_other","_law_text_here"] (spOf ⟨C,K⟩ Zpc):=by
 refine L3.Fun.ok3 F Jav (λds M K3 h=>?_) (λcdv A outer s H E hr=>?_)
 .let⟨c1,c2,d,L1,L2,ts,rfl,_⟩:=h;rfl
 .let SC:=Jav;let hu:=hr.units;let hu1:=X6 hr;refine⟨_,_,(Ze (Zv (i:=3) SC.nd rfl (Ed rfl) (Xk Zd))
 (Ze (Y2 Cm rfl (X0 (pv 2)) (Zx (i:=4) SC.nd rfl (Cg rfl))
 (Ze (Yn (W4 (Za2 hu1 (pv 4) (pv 0)))
 (Zi (Z0 Pf))
 Z1)
 (Zi (Zv (i:=3) SC.nd rfl (Ed rfl) (Z3 (Y9 (K':=K) rfl) (pv 3) (Z9 (Vf (K:=K) rfl) (by rfl) T.b_list Cv (Za (Wv hu1 (pv 0) (pv 4) (λ_ _=>rfl)) Zd)))))))
 (Ze (Zv (i:=5) SC.nd rfl (Ed rfl) Zd7)
 (Ze (Zn3 (Y2 Cm rfl (Zn6 (pv 1)) (Zx (i:=4) SC.nd rfl (Cg rfl))
 (Zi (T5 hu1 (pv 5) (Wv hu1 (pv 1) (pv 4) (λ_ _=>rfl)) (pv 4) rfl))))
 (Ze (Zv (i:=6) SC.nd rfl (Cg rfl) (Xk Zd))
 (Ze (Zv (i:=7) SC.nd rfl (Ed rfl) Zh)
 (Ze (Zd5 Cm (Z5 Zhp (pv 7) (Zs (Xo (K:=K) rfl) (by rfl) T.b_len Fw (Za (pv 3) Zd)) (Ya _))
 (Ze (U3 (i:=8) SC.nd rfl rfl (T:=["_law_end"]) (cs:=[3,7,5]) rfl (CScope.ok (by kernel_rfl)) (Za1 rfl T.b_range (Za (Z3 (Y9 (K':=K) rfl) (pv 7) Zh) (Za (Z3 (Y9 (K':=K) rfl) (Zs (Qk rfl) (by rfl) T.b_min K7 (Za (Z3 (Y9 (K':=K) rfl) (pv 7) Zh) (Za (Zs (Xo (K:=K) rfl) (by rfl) T.b_len Fw (Za (pv 3) Zd)) Zd))) Zh) Zd))) (λ_ _ _ _=>(Zx (i:=0) (Wd (by kernel_rfl)) rfl (Cg rfl) (Ed rfl))) (λ_ _ _ _=>(P9 (W4 (Zmk hu1 (Z9 (Zjo (K:=K) rfl) (by rfl) T.b_tuple Ee (Za (Ye (Zal (K':=K) rfl) (pv 1) (Yc (pv 2)) (Yc (pv 0))) Zd)) (pv 3))))) (λ_ _ _ _=>(pv 0)) (Xe nofun))
 (Ze (Yn (Z5 (Up (K':=K) rfl hu) (pv 8) (Xk Zd) (Ya _))
 (Zi (Z0 Pf))
 Z1)
 (Ze (Vc (Nf C6 E7 E8 Tl (pv 6) (Za (Wv hu1 (pv 5) (Z9 (Zjo (K:=K) rfl) (by rfl) T.b_tuple Ee (Za (Ye (Zal (K':=K) rfl) (pv 3) (Yc (pv 7)) (Yc (Zz (Z8 (K':=K) rfl) (pv 8) Zh (λ_ _=>rfl)))) Zd)) (λ_ _=>rfl)) Zd)))
 (Zi (Zv (i:=7) SC.nd rfl (Ed rfl) (Zz (Z8 (K':=K) rfl) (pv 8) Zh (λ_ _=>rfl))))))))
 (Zi (Z0 (Yv (Za (pv 3) (Za (pv 6) Zd)))))))))))),λ_=>(Z2 (Yb (Zch Zo) (s_g 3))
 (Z2 (Ur (s_il (Zf 2)) (s_g 4)
 (Z2 (Xb (s_b (Zdy (Zf 4) (Zf 0)))
 (Yr Znn)
 Yl)
 (Yb (s_op Wt (Zf 3) (s_cb Q7 (Zb (Uu (Zf 0) (Zf 4)) Zo))) (s_g 3))))
 (Z2 (Yb Znr (s_g 5))
 (Z2 (Znk (Ur (Zt7 (Zf 1)) (s_g 4)
 (Zax (Zf 5) (Uu (Zf 1) (Zf 4)) (Zf 4))))
 (Z2 (Yb (Zau Zo) (s_g 6))
 (Z2 (Yb Zt (s_g 7))
 (Z2 (Znj (Yz (s_op s_lt (Zf 7) (s_cb Uq (Zb (Zf 3) Zo))))
 (Z2 (Yb (Rj (Zq7 (Zb (s_op Wt (Zf 7) Zt) (Zb (s_op Wt (s_cb Zl8 (Zb (s_op Wt (Zf 7) Zt) (Zb (s_cb Uq (Zb (Zf 3) Zo)) Zo))) Zt) Zo))) (s_g 0) (s_b (Zra (s_cb Zcf (Zb (s_sl Zat (Zf 1) (Vq (Zf 2)) (Vq (Zf 0))) Zo)) (Zf 3))) (Zf 0)) (s_g 8))
 (Z2 (Xb (Yz (s_op s_eq (Zf 8) (Zch Zo)))
 (Yr Znn)
 Yl)
 (Z2 (Pb (P6 (Zf 6) (Zb (Uu (Zf 5) (s_cb Zcf (Zb (s_sl Zat (Zf 3) (Vq (Zf 7)) (Vq (s_op s_ix (Zf 8) Zt))) Zo))) Zo)))
 (Yb (s_op s_ix (Zf 8) Zt) (s_g 7))))))
 (Yr (Wk (Zb (Zf 3) (Zb (Zf 6) Zo))))))))))),λds M Kk hM hD h=>?_⟩
  let⟨c1,c2,d,L1,L2,ts,rfl,h⟩:=h;let⟨h1,h2,hd,⟨ok1,ok2,lts⟩,kY,kN⟩:=h;let lc1:=Wp h1;let lc2:=Wp h2;let wm:=Zag ok1.1;let wm2:=Zag ok2.1;let dc1:Se M (.cell c1)=some (L1.map prK):=by simp only[Se,h1]
  let l2:=ok2.2.1;exists Gf _,?_;exists ·,_,(Yy hd).2.1,λi ρ M'=>∃(U:List Pr)(v4:Option D),ρ=[some (.cell c1),some (.cell c2),some d,some (.lst ((Yd U).map .int)),v4,none,none,none,none]/\M=M'/\Vp L1 U ts i,λ_ _ _ _ h=>(by let⟨_,_,_,rfl,_⟩:=h;exact(Yy hd).2.1),⟨[],_,rfl,rfl,(λ_ h=>nomatch h),rfl⟩,?_,?_
  .rintro i x ρ _ hi hx ⟨U,v4,rfl,rfl,tx⟩;let⟨hi',rfl⟩:=Xa hx;exists ·,·,_,.inl ⟨_,_,dc1,rfl,rfl⟩,·,?_
   by_cases hp:∃p∈L1,p.1=ts[i]
   .let⟨p,hp,e⟩:=hp;let ev:valD (L1.map prK) (.inl ts[i])=some (wD p.2):=by rw[<-e];exact wm.1 p hp
    rw[ev];refine iteF ?_;let lr:=T3 ok1.2 tx.1;let lU:U.length=i:=by
     let:=congrArg Ey tx.2;unfold Yo at this;rw[Jb,Ji]at this;lia
    let lw:=(ok1.2.2 p hp).2;exists ·,·,·,_,.inl ⟨_,_,dc1,rfl,ev.symm⟩,_,·,rfl,_,·,rfl,?_,?_
    .rw[Jb,Jb];exact Zp ()
    rw[<-Jg];let er:Yd (U++[p])=Yd U++p.2:=by rw[Rl];simp[Yd]
    refine .inl ⟨U++[p],some (.int ts[i]),?_,rfl,tx.snoc hi' hp e⟩;rw[er];rfl
   .let ev:valD (L1.map prK) (.inl ts[i])=none:=wm.2 _ λp hp' e=>hp ⟨p,hp',e⟩;rw[ev];refine iteT (.inl (kN (λns us=>Zir hi' ?_ ns us) M (Jc _)));rw[Ry hi'];exact λp hp' e=>hp ⟨p,hp',e⟩
  rintro ρ _ ⟨U,v4,rfl,rfl,tx⟩;let tx:Vp L1 U ts ts.length:=by
   let:Vp L1 U ts (ts.map D.int).length:=tx;rwa [Jb]at this
  let lr:=T3 ok1.2 tx.1;let lU:U.length=ts.length:=by
   let:=congrArg Ey tx.2;unfold Yo at this;rw[Jb,Gb]at this;exact this
  generalize hns:Yd U=ns at lr;let lns:ns.length<=80000:=by lia
  let h2':∀m:MO,(M++[m])[c2]?=some (.dct (L2.map prK)):=λm=>Yh h2;exists c2,_,h2' _,·,c2,·,h2' _,λo vs=>?_;let sc:∀m:MO,(M++[m]).set c2 (.dfK o vs (L2.map prK))=M.set c2 (.dfK o vs (L2.map prK))++[m]:=λm=>B7 _ _ lc2;let lM:(M.set c2 (.dfK o vs (L2.map prK))).length=M.length:=Gq;let ga:∀m:MO,(M.set c2 (.dfK o vs (L2.map prK))++[m])[M.length]?=some m:=λm=>by rw[<-lM];exact Yk
  let gs:∀m m':MO,(M.set c2 (.dfK o vs (L2.map prK))++[m]).set M.length m'=M.set c2 (.dfK o vs (L2.map prK))++[m']:=λm m'=>by rw[<-lM];exact Xj
  let gc:∀m:MO,(M.set c2 (.dfK o vs (L2.map prK))++[m])[c2]?=some (.dfK o vs (L2.map prK)):=λm=>Yh (Jz lc2);rw[sc];exists λi ρ M'=>∃v4:Option D,ρ=[some (.cell c1),some (.cell c2),some d,some (.lst (ns.map .int)),v4,some (.cell M.length),none,none,none]/\M.set c2 (.dfK o vs (L2.map prK))++[.dcT (Xg (L2.take i))]=M',?_,⟨_,rfl,rfl⟩,?_,?_
  .rintro i ρ _ _ ⟨v4,_,rfl⟩;exact gc _
  .rintro i x ρ _ hi ⟨kv,ekv,rfl⟩ ⟨v4,rfl,rfl⟩;let hi':i<L2.length:=by
    let:i<(L2.map prK).length:=hi;rw[Jb]at this;exact this
   rw[Jv,Ja hi']at ekv;cases ekv;let dc2:Se (M.set c2 (.dfK o vs (L2.map prK))++[.dcT (Xg (L2.take i))]) (.cell c2)=some (L2.map prK):=by simp only[Se,gc]
   let ev:=wm2.1 _ (Jr hi');let hk':tkOf (wD L2[i].2)=some (wk L2[i].2):=Nm _;exists ·,·,·,·,_,.inl ⟨_,_,dc2,rfl,ev.symm⟩,_,.inr ⟨M.length,_,_,rfl,ga _,hk',?_,rfl⟩,.inl ⟨_,rfl,?_⟩
   .unfold Xg;rw[Jb,Ji];exact Bc (by lia:min i L2.length<=1000) nofun
   rw[gs]
   congr 3
   rw[Sx λkv hkv e=>?_]
   .unfold Xg;rw[Jt hi',Jg];rfl
   .unfold Xg at hkv;let⟨p,hp,rfl⟩:=Jp.mp hkv;let⟨j,hj,rfl⟩:=Ju hp;rw[Ji]at hj;rw[B6]at e;let:=ok2.1.get (i:=j) (j:=i) () hi' ();exact this.2.1 (by rw[Rc e];exact Jc _)
  rintro ρ _ ⟨v4,rfl,rfl⟩;let eL:L2.take (kIt c2 o vs (L2.map prK)).n=L2:=by show L2.take (L2.map prK).length=L2;rw[Jb,Gb]
  rw[eL];refine⟨o,vs,_,gc _,?_⟩;let back:(M.set c2 (.dfK o vs (L2.map prK))++[MO.dcT (Xg L2)]).set c2 (MO.dct (L2.map prK))=M++[MO.dcT (Xg L2)]:=by
   rw[B7 _ _ (by rw[lM];exact lc2),Jfb]
   congr 1
   exact Kz λj=>by
    by_cases hj:c2=j
    .subst hj;rw[Jz lc2,h2]
    .rw[Gr hj]
  rw[back];let hb0:(M++[.dcT (Xg L2)])[M.length]?=some (.dcT (Xg L2)):=Yk;let p0:M<+:M++[.dcT (Xg L2)]:=⟨_,rfl⟩;generalize M++[MO.dcT (Xg L2)]=M1 at hb0 p0;let lb:=Wp hb0;exists Gf _,?_;exists λm ρ M'=>∃(R:List En)(a:Nat)(v8:Option D),ρ=[some (.cell c1),some (.cell c2),some d,some (.lst (ns.map .int)),v4,some (.cell M.length),some (.cell M1.length),some (.int a),v8]/\M1++[.lst ((osOf R).map oD)]=M'/\Went L2 ns R a/\Zb6 R/\m=ns.length-a,⟨_,[],0,_,rfl,rfl,.nil,(λ_ h=>nomatch h),rfl⟩,?_;rintro m ρ _ ⟨R,a,v8,rfl,rfl,we,cln,rfl⟩;let lnm:(ns.map D.int).length=ns.length:=Jb _;let ha:=we.le
  let lR:=we.len;let loR:((osOf R).map oD).length=R.length:=by unfold osOf;rw[Jb,Jb]
  let hbk:(M1++[.lst ((osOf R).map oD)])[M.length]?=some (.dcT (Xg L2)):=Yh hb0;let dcT:Zi5 (M1++[.lst ((osOf R).map oD)]) (.cell M.length)=some (Xg L2):=by simp only[Zi5,hbk]
  let pN:M<+:M1++[.lst ((osOf R).map oD)]:=p0.trans ⟨_,rfl⟩;exists ·,·,·,_,·,rfl,·,ite2 (λh=>?_) (λh=>?_)
  .let ha':a<ns.length:=by have:=of_decide_eq_true h;rw[lnm]at this;lia
   obtain⟨up,eup,hup⟩:∃up:Nat,(if((ns.map D.int).length:Int)<(a:Int)+4 then((ns.map D.int).length:Int)else(a:Int)+4)+1=((a+1+up:Nat):Int)/\up<=4/\a+up<=ns.length/\(up=4\/a+up=ns.length):=by
    rw[lnm]
    by_cases z:(ns.length:Int)<(a:Int)+4
    .exists ns.length-a,by rw[Fs z];lia,(),(),.inr ()
    .exists 4,by rw[Fp z];lia,(),(),.inl rfl
   let hw:∀l,l<up->cut (ns.map D.int) (some (a:Int)) (some ((a+1+l:Nat):Int))=((ns.drop a).take (l+1)).map D.int:=λl hl=>by
    rw[Zdf,show((a+1+l:Nat):Int)=(a:Int)+((l+1:Nat):Int)by lia,Zlj ()]
   exists ·,·,·,·,_,·,?_;dsimp only[uC,uNil,add3];rw[eup];exists _,·,⟨(),(),(),()⟩,?_,λj ys M'=>M1++[.lst ((osOf R).map oD)]=M'/\ys=(((Ef j).filter λl=>L2.any λp=>decide (p.2=(ns.drop a).take (l+1))).map λl=>((a+1+l:Nat):Int)).map .int,λ_ _ _ _ _=>trivial,⟨rfl,rfl⟩,?_,?_
   .show(((a+1+up:Nat):Int)-((a:Int)+1)).toNat<=sizeLine;exact Zp ()
   .rintro j x ys _ hj rfl ⟨rfl,rfl⟩;let hj:j<up:=by
     let:j<(((a+1+up:Nat):Int)-((a:Int)+1)).toNat:=hj;lia
    let ei:(a:Int)+1+(j:Int)=((a+1+j:Nat):Int):=by lia
    rw[ei];exists ·,·,·,·,·,·,?_;rw[hw j hj];let hk':tkOf (wD ((ns.drop a).take (j+1)))=some (wk ((ns.drop a).take (j+1))):=Nm _;exists _,·,rfl,·,_,.inr ⟨_,_,dcT,hk',rfl⟩,·,?_
    by_cases hp:∃p∈L2,p.2=(ns.drop a).take (j+1)
    .let⟨p,hp,e⟩:=hp;let ev:valD (Xg L2) (wk ((ns.drop a).take (j+1)))=some (.int p.1):=by rw[<-e];exact Zev ok2.1 hp
     rw[ev];refine iteT ⟨_,rfl,rfl,?_⟩;rw[Lw,Bd,Jfp,Jga,Fs (Bt.mpr ⟨p,hp,Ft e⟩),Jg,Jg];rfl
    .let ev:valD (Xg L2) (wk ((ns.drop a).take (j+1)))=none:=Zjm λp hp' e=>hp ⟨p,hp',e⟩;rw[ev];refine iteF ⟨rfl,?_⟩;rw[Lw,Bd,Jfp,Jga,Fp (λz=>by let⟨p,hp',e⟩:=Bt.mp z;exact hp ⟨p,hp',of_decide_eq_true e⟩),Gs]
   rintro ys _ ⟨rfl,rfl⟩;let eup2:(Zks ((a:Int)+1) (((a+1+up:Nat):Int)-((a:Int)+1)).toNat).n=up:=by show(((a+1+up:Nat):Int)-((a:Int)+1)).toNat=up;lia
   rw[eup2];let hes:∀l∈(Ef up).filter λl=>L2.any λp=>decide (p.2=(ns.drop a).take (l+1)),l<up/\∃p∈L2,p.2=(ns.drop a).take (l+1):=λl hl=>by
    let⟨h1,h2⟩:=Bv.mp hl;let⟨p,hp,e⟩:=Bt.mp h2;exists List.mem_range.mp h1,p,hp,of_decide_eq_true e
   let hno:(Ef up).filter (λl=>L2.any λp=>decide (p.2=(ns.drop a).take (l+1)))=[]->∀p∈L2,¬ p.2<+:ns.drop a:=λe p hp hpre=>by
    let:=ok2.2.2 p hp;let hl0:=Gk.mpr this.1;let hle:=hpre.length_le;rw[J8]at hle;let hm:p.2.length-1∈(Ef up).filter λl=>L2.any λp=>decide (p.2=(ns.drop a).take (l+1)):=by
     refine Bv.mpr ⟨List.mem_range.mpr (),Bt.mpr ⟨p,hp,Ft ?_⟩⟩;rw[show p.2.length-1+1=p.2.length by lia];exact List.prefix_iff_eq_take.mp hpre
    rw[e]at hm;exact nomatch hm
   generalize (Ef up).filter (λl=>L2.any λp=>decide (p.2=(ns.drop a).take (l+1)))=es at hes hno;refine g_nx ?_
   (try dsimp only)
   exists ·,Gf _,eqN ⟨_,rfl,?_⟩;cases es with
   |nil =>
    rw[show decide ((([]:List Nat).map λl=>((a+1+l:Nat):Int))=[])=true from rfl];refine iteT (.inl (kN (λns' us=>?_) _ pN));let:=Zio (S1:=L1) ok1.1 ok2.1 ok2.2 tx (R:=R) (pl:=a) (by rw[hns];exact⟨we,cln,.inr ⟨ha',hno rfl⟩⟩) (by rw[hns];exact ha') ns' us;exact this
   |cons l es =>
    let⟨hl,q,hq,eq⟩:=hes l Jn;let lq:q.2.length=l+1:=by rw[eq,Ji,J8];lia
    let hk':tkOf (wD ((ns.drop a).take (l+1)))=some (wk ((ns.drop a).take (l+1))):=Nm _;let ev:valD (Xg L2) (wk ((ns.drop a).take (l+1)))=some (.int q.1):=by rw[<-eq];exact Zev ok2.1 hq
    rw[show decide (((l::es).map λl=>((a+1+l:Nat):Int))=[])=false from rfl];refine iteF ?_;let a0:_root_.L2.atI (((l::es).map λl=>((a+1+l:Nat):Int)).map D.int) 0=some (.int ((a+1+l:Nat):Int)):=Zjz (j:=0) rfl rfl;exists ·,Rv Xd,·,·,·,·,·,_,_,·,rfl,a0,·,·,?_;rw[hw l hl];exists _,·,rfl,_,.inr ⟨_,_,dcT,hk',ev.symm⟩,M1.length,_,·,rfl,Yk,?_,?_
    .rw[loR];exact Jy (by lia:R.length<100000) (Zp (Je _))
    rw[Xj];exists ·,_,_,·,rfl,a0,?_;let pre:q.2<+:ns.drop a:=by rw[eq];exact Fb _ _
    exists ns.length-(a+q.2.length),(),.inl ⟨R++[(a,some q.1)],a+q.2.length,some (D.lst (List.map D.int (List.map (λl=>((a+1+l:Nat):Int)) (l::es)))),?_,?_,.word we hq pre (ok2.2.2 q hq).1,Pn cln (λz=>nomatch z),rfl⟩
    .rw[lq];show [_,_,_,_,_,_,_,some (D.int _),_]=[_,_,_,_,_,_,_,some (D.int _),_];rw[show a+1+l=a+(l+1)by lia]
    .unfold osOf;rw[Jg,Jg];rfl
  .let ha':ns.length<=a:=by
    let:¬ (a:Int)<((ns.map D.int).length:Int):=λz=>h (Ft z);rw[lnm]at this;lia
   let⟨us,go,eo⟩:=Zip (S2:=L2) tx (R:=R) (pl:=a) (by rw[hns];exact⟨we,cln,.inl ha'⟩) (by rw[hns];exact ha');rw[hns]at go;rw[eo];exists ·,·,(show 2<=sizeLine by decide),.inl (kY ns us _ M1.length go (p0.trans ⟨_,rfl⟩) () Yk)
open L3
theorem D9(T:Txt mg){f:Addr}(F:Fun K "_law_same" "_law_same" Jbh f fd):FnOk P w K mg base CX0 1 f fd ["_law_found","_law_due"] (spOf ⟨C,K⟩ Zja):=by
 refine L3.Fun.ok3 F D8 (λds M K3 h=>?_) (λcdv A outer s H E hr=>?_)
 .let⟨d,e,ns,rfl,_⟩:=h;rfl
 .let SC:=D8;let hu:=hr.units;let hu1:=X6 hr;refine⟨_,_,(Ze (Yn (PW.pt (Zkv (Ti (W3 (Zs (Pq (K:=K) rfl) (by rfl) T.b_isinstance Ci (Za (pv 0) (Za (U5 (v:=.ty "list") rfl T.b_list Cv rfl) Zd))))) (Zg9 (Z5 (Zkb (K':=K) rfl hu) (Zs (Xo (K:=K) rfl) (by rfl) T.b_len Fw (Za (pv 0) Zd)) (Zs (Xo (K:=K) rfl) (by rfl) T.b_len Fw (Za (pv 1) Zd)) (Ya _)))))
 (Zi (Z0 Sq))
 Z1)
 (Ze (Y2 Cm rfl (Yi rfl T.b_range (Za (Zs (Xo (K:=K) rfl) (by rfl) T.b_len Fw (Za (pv 1) Zd)) Zd)) (Zx (i:=2) SC.nd rfl (Cg rfl))
 (Zi (Yn (PW.pt (Zkv (Ti (W3 (Zs (Pq (K:=K) rfl) (by rfl) T.b_isinstance Ci (Za (Zz (Z8 (K':=K) rfl) (pv 0) (pv 2) (λ_ _=>rfl)) (Za (U5 (v:=.ty "int") rfl T.b_int K6 rfl) Zd))))) (Zkv (W3 (Zs (Pq (K:=K) rfl) (by rfl) T.b_isinstance Ci (Za (Zz (Z8 (K':=K) rfl) (pv 0) (pv 2) (λ_ _=>rfl)) (Za (U5 (v:=.ty "bool") rfl T.b_bool Jcy rfl) Zd)))) (Zg9 (Z5 (Zkb (K':=K) rfl hu) (Zz (Z8 (K':=K) rfl) (pv 0) (pv 2) (λ_ _=>rfl)) (Zz (Z8 (K':=K) rfl) (pv 1) (pv 2) (λ_ _=>rfl)) (Ya _))))))
 (Zi (Z0 Sq))
 Z1)))
 (Zi (Z0 Sq)))),λ_=>(Z2 (Xb (s_or (P2 (s_b (s_cb (Ze8 (T:=.list)) (Zb (Zf 0) (Zb s_ty Zo))))) (Yz (s_op s_ne (s_cb Uq (Zb (Zf 0) Zo)) (s_cb Uq (Zb (Zf 1) Zo)))))
 (Yr s_bl)
 Yl)
 (Z2 (Ur (Zcj (Zb (s_cb Uq (Zb (Zf 1) Zo)) Zo)) (s_g 2)
 (Xb (s_or (P2 (s_b (s_cb (Ze8 (T:=.int)) (Zb (s_op s_ix (Zf 0) (Zf 2)) (Zb s_ty Zo))))) (s_or (s_b (s_cb (Ze8 (T:=.bool)) (Zb (s_op s_ix (Zf 0) (Zf 2)) (Zb s_ty Zo)))) (Yz (s_op s_ne (s_op s_ix (Zf 0) (Zf 2)) (s_op s_ix (Zf 1) (Zf 2))))))
 (Yr s_bl)
 Yl))
 (Yr s_bl))),λds M Kk hM hD h=>?_⟩
  let⟨d,e,ns,rfl,h⟩:=h;let⟨hd,he,hl,k⟩:=h;let⟨t1,l1,s1⟩:=Yy hd;let lm:(ns.map D.int).length=ns.length:=Jb _;exists ·,_,·,t1,·,iteF ?_;exists ·,?_;dsimp only[uNil];refine Sk hd ?_;exists ·,?_;dsimp only[uNil];refine Sk he ?_;refine .inl ⟨_,rfl,_,rfl,?_⟩;rw[Ft rfl];refine iteF ?_;exists ·,?_;dsimp only[uNil];refine Sk he ?_;exists((ns.map D.int).length:Int),rfl,⟨(),()⟩,λi ρ M'=>∃v2:Option D,ρ=[some d,some e,v2]/\M=M',λ_ _ _ _ _=>trivial,⟨_,rfl,rfl⟩,?_,?_
  .rintro j x ρ _ hj rfl ⟨v2,rfl,rfl⟩;let hj:j<ns.length:=by
    let:j<(((ns.map D.int).length:Int)).toNat:=hj;lia
   let at1:L2.atI (ns.map D.int) (0+(j:Int))=some (.int ns[j]):=Wh (j:=j) () hj;exists ·,·,?_;refine Qb hd at1 ?_;exists _,·,rfl,·,iteF ?_;exists ·,·,?_;refine Qb hd at1 ?_;exists _,·,rfl,·,iteF ?_;exists ·,·,?_;refine Qb hd at1 ?_;exists ·,·,?_;refine Qb he at1 ?_;refine .inl ⟨_,rfl,_,rfl,?_⟩;rw[Ft rfl];exact iteF (.inl ⟨_,rfl,rfl⟩)
  .rintro ρ _ ⟨v2,rfl,rfl⟩;exact .inl k
open L3
theorem Jbg(T:Txt mg)(Zez:MetE P w K mg base Zm "code" 3 ["self","name"] (W9 ⟨C,K⟩ (Zm2 Zm Zq))){f:Addr}(F:Fun K "leg_codes" "leg_codes" U0 f fd):FnOk P w K mg base (CXE P w) 4 f fd ["family","way"] (W9 ⟨C,K⟩ (Zjb Zm Zq)):=by
 refine L3.Fun.okX3 F Jae (λds M K3 KX h=>?_) (λcdv A outer s H E hr=>?_)
 .let⟨c,d,zs,way,rfl,_⟩:=h;rfl
 .let SC:=Jae;let hu:=hr.units;let hu1:=X6 hr;let Zih:Room 3 _:=hr.mono nofun;exists _,_,(Zi (Z0 (Zk1 (T:=["first","second"]) (cs:=[0]) rfl (CScope.ok (by kernel_rfl)) (X0 (pv 1)) (λ_ _ _ _=>(Uv (n:=2) rfl (Yf (Zx (i:=0) (Wd (by kernel_rfl)) rfl (Cg rfl) (Ed rfl)) (Yf (Zx (i:=1) (Wd (by kernel_rfl)) rfl (Cg rfl) (Ed rfl)) Wu)) (by rfl))) (λ_ _ _ _=>Xc) (λ_ _ _ _=>(Yv (Za (Zmj (pv 2) Zez Zih Zro (Za (pv 0) Zd)) (Za (Zmj (pv 2) Zez Zih Zro (Za (pv 1) Zd)) Zd)))) (Zef (Wn nofun (Wn nofun N1)))))),λ_ _ he hk hx=>(Yr (Rj (s_il (Zf 1)) (Q9 (Xy (s_g 0) (Xy (s_g 1) Pa))) Zas (Wk (Zb (Zgv he hk hx (Zf 2) (Zb (Zf 0) Zo)) (Zb (Zgv he hk hx (Zf 2) (Zb (Zf 1) Zo)) Zo))))),λds M Kk KX hM hD h=>?_
  let⟨c,d,zs,way,rfl,h⟩:=h;let⟨Fa,hd,l100,k,kx⟩:=h;let ll:=(Yy hd).2.1;exists ·,_,ll,?_,λj ys M'=>M=M'/\∃ls:List Lg,ls.length=j/\ys=ls.map lgD/\(∀v∈way.take j,v.1∈zs.map (λz:Fq=>z.1)/\v.2∈zs.map (λz:Fq=>z.1))/\∀(i:Nat)(w:Str×Str)(l:Lg),way[i]?=some w->ls[i]?=some l->(∃z∈zs,z.1=w.1/\z.2.1=l.1)/\∃z∈zs,z.1=w.2/\z.2.1=l.2,λ_ _ _ _ h=>(by rw[<-h.1];exact ll),⟨rfl,[],rfl,rfl,by simp,λ_ _ _ _ e=>nomatch e⟩,?_,?_
  .show(way.map wyD).length<=sizeLine;rw[Jb];exact Zp ()
  .rintro j x ys _ hj hx ⟨rfl,ls,lj,rfl,al,g⟩;let⟨hj',rfl⟩:=Xa hx;let ej:=Ja hj';exists ·,rfl,_,·,_,·,rfl,?_;exists ·,⟨c,_,rfl,Fa.h0,rfl⟩,·,c,way[j].1,zs,rfl,Fa,λz hz ez=>?_,λn1=>kx _ (Zei al ej (.inl ⟨n1,rfl⟩));let m1:way[j].1∈zs.map (·.1):=Jp.mpr ⟨z,hz,ez⟩;exists ·,⟨c,_,rfl,Fa.h0,rfl⟩,·,c,way[j].2,zs,rfl,Fa,λz' hz' ez'=>?_,λn2=>kx _ (Zei al ej (.inr ⟨m1,n2,rfl⟩));let m2:way[j].2∈zs.map (·.1):=Jp.mpr ⟨z',hz',ez'⟩;exists(show 2<=sizeLine by decide),rfl,ls++[(z.2.1,z'.2.1)],by rw[Jd,lj];rfl,by rw[Jg];rfl,λv hv=>?_,λi w l ew el=>?_
   .rw[B8,ej]at hv;rcases Ga.mp hv with q|q
    .exact al v q
    .rw[show v=way[j]by simpa using q];exists m1,m2
   by_cases hi:i<ls.length
   .rw[Jo hi]at el;exact g i w l ew el
   .rw[Jw ()]at el;let hi2:i=j:=by
     let:=(Jf.mp el).1;simp at this;lia
    subst hi2;rw[lj,Nat.sub_self]at el;cases el;rw[ej]at ew;cases ew;exists⟨z,hz,ez,rfl⟩,z',hz',ez',rfl
  rintro ys _ ⟨rfl,ls,lj,rfl,al,g⟩;let lj:ls.length=(way.map wyD).length:=lj;rw[Jb]at lj;exact .inl (k ls ⟨lj,g⟩)
open L3
theorem Jak(T:Txt mg){Z7 Zy:Addr}(Qv:Cau K mg "NoSign" Z7)(Ug:Cau K mg "NoReading" Zy)(mss:Ej K Z7 (.ref Z7)=some true)(mrs:Ej K Zy (.ref Z7)=some false)(mrr:Ej K Zy (.ref Zy)=some true)(msr:Ej K Z7 (.ref Zy)=some false)(Zdq:CalE P w K mg base "write" 3 ["code","text"] (W9 ⟨C,K⟩ (Zi9 Z7)))(Zj3:CalE P w K mg base "read" 3 ["code","row"] (W9 ⟨C,K⟩ (Zmz Zy))){f:Addr}(F:Fun K "gone" "gone" Zgw f fd):FnOk P w K mg base CX0 4 f fd ["one","other","text"] (spOf ⟨C,K⟩ Zpb):=by
 refine L3.Fun.ok3 F Di (λds M K3 h=>?_) (λcdv A outer s H E hr=>?_)
 .let⟨S1,S2,d,ts,rfl,_⟩:=h;rfl
 .let SC:=Di;let hu:=hr.units;let hu1:=X6 hr;let Zld:Room 3 _:=hr.mono nofun;let Zoz:Room 3 _:=hr.mono nofun;exists _,_,(Zi (Zn2 rfl rfl (λ_ _ _ _ hx=>(Zn0 (i:=3) SC.nd rfl (Cg rfl) (Rs Zdq Zld rfl hx (Za (pv 0) (Za (pv 2) Zd))))) (λ_ _ _ _ hx=>(Na (Zn7 (Wm (Zd6 (pv 3)) (Wm (Rs Zj3 Zoz rfl hx (Za (pv 1) (Za (pv 3) Zd))) (Zd9 Zd)))))) (Zsh Qv rfl Ug rfl (λ_=>(Zi (Z0 Pf))) Zmp))),λ_=>(Zq0 (λ_ _ _ he hk hx=>(Yb (Vr he hk hx (Zb (Zf 0) (Zb (Zf 2) Zo))) (s_g 3))) (λ_ _ _ he hk hx=>(Yr (Zch (Zb (Zf 3) (Zb (Vr he hk hx (Zb (Zf 1) (Zb (Zf 3) Zo))) Zo))))) (Zq8 (Yr Znn) Zma)),λds M Kk hM hD h=>?_
  let⟨S1,S2,d,ts,rfl,h⟩:=h;let⟨hd,⟨⟨f1,i1⟩,⟨f2,i2⟩,lt⟩,kY,kN⟩:=h;exists ·,·,S1,d,ts,rfl,hd,⟨i1,lt⟩,λU tx=>?_,λi U hi tx hl=>?_
  .let lr:=T3 i1 tx.1;let lU:U.length=ts.length:=by
    let:=congrArg Ey tx.2;unfold Yo at this;rw[Jb,Gb]at this;exact this
   exists ·,·,·,S2,_,Yd U,rfl,Xd,⟨i2,()⟩,λR pl en hp=>?_,λR pl en hp=>?_
   .let⟨us,go,eo⟩:=Zip tx en hp;rw[eo];let:=kY _ _ go;exists(show 2<=sizeLine by decide),.inl ?_;rw[Jd];exact this
   .exists false,true,mrs,mrr,?_;exact iteT (.inl (kN (λns us=>Zio f1 f2 i2 tx en hp ns us) _ ⟨_,rfl⟩))
  .exists true,false,mss,msr,?_;exact iteT (.inl (kN (λns us=>Zir hi hl ns us) _ (Jc _)))
open L3
theorem Jbq(T:Txt mg)(Uo:Rx P w K mg base "NoWay" Zu 1 ["self","leg"] (spX1 Zu "leg"))(Xu:CalE P w K mg base "leg_codes" 4 ["family","way"] (W9 ⟨C,K⟩ (Zjb Zm Zq)))(Pu:Cal P w K mg base "gone" 4 ["one","other","text"] (spOf ⟨C,K⟩ Zpb)){f:Addr}(F:Fun K "trail" "trail" Zcg f fd):FnOk P w K mg base (CXE P w) 5 f fd ["family","text","way"] (W9 ⟨C,K⟩ (Zdc Zm Zq Zu)):=by
 refine L3.Fun.okX3 F Jbm (λds M K3 KX h=>?_) (λcdv A outer s H E hr=>?_)
 .let⟨c,d,e,zs,way,ts,rfl,_⟩:=h;rfl
 .let SC:=Jbm;let hu:=hr.units;let hu1:=X6 hr;let N0:Room 2 _:=hr.mono nofun;let Vx:Room 4 _:=hr.mono nofun;let Zc4:Room 4 _:=hr.mono nofun;refine⟨_,_,(Ze (Zv (i:=3) SC.nd rfl (Cg rfl) (Xk (Za (Z9 (Vf (K:=K) rfl) (by rfl) T.b_list Cv (Za (pv 1) Zd)) Zd)))
 (Ze (Y2 K0 rfl (Zhe rfl T.b_enumerate (Za (Zcr Xu Vx rfl Zoa (Za (pv 0) (Za (pv 2) Zd))) Zd)) (Uv (n:=2) rfl (Yf (Zx (i:=4) SC.nd rfl (Cg rfl)) (Yf (Zx (i:=5) SC.nd rfl (Cg rfl)) Wu)) (by rfl))
 (Ze (Zv (i:=6) SC.nd rfl (Cg rfl) (Zw Pu Zc4 rfl (Za (Zz (Z8 (K':=K) rfl) (pv 5) Zh (λ_ _=>rfl)) (Za (Zz (Z8 (K':=K) rfl) (pv 5) Zh (λ_ _=>rfl)) (Za (Zz (Z8 (K':=K) rfl) (pv 3) (T6 W2 Zh) (λ_ _=>rfl)) Zd)))))
 (Ze (Yn (W4 (Rt (pv 6)))
 (Zi (Tj Uo N0 rfl (Za (pv 4) Zd)))
 Z1)
 (Zi (Vc (Nf C6 Ho Mz Zh2 (pv 3) (Za (pv 6) Zd)))))))
 (Zi (Z0 (pv 3))))),λ_ _ he hk hx=>(Z2 (Yb (Zau (Zb (s_cb Zci (Zb (Zf 1) Zo)) Zo)) (s_g 3))
 (Z2 (Ur (s_ie (Zb (Vr he hk hx (Zb (Zf 0) (Zb (Zf 2) Zo))) Zo)) (Q9 (Xy (s_g 4) (Xy (s_g 5) Pa)))
 (Z2 (Yb (Z6 (Zb (s_op s_ix (Zf 5) Zt) (Zb (s_op s_ix (Zf 5) Zt) (Zb (s_op s_ix (Zf 3) (s_un Ri Zt)) Zo)))) (s_g 6))
 (Z2 (Xb (s_b (Zkn (Zf 6)))
 (P1 he hk hx (Zb (Zf 4) Zo))
 Yl)
 (Pb (Zkp (Zf 3) (Zb (Zf 6) Zo))))))
 (Yr (Zf 3)))),λds M Kk KX hM hD h=>?_⟩
  let⟨c,d,e,zs,way,ts,rfl,h⟩:=h;let⟨Fa,hd,hw,wx,kx,k⟩:=h;let p0:M<+:M++[MO.lst (ts.map .int)]++[MO.lst [.cell M.length]]:=by rw[Gd];exists ·
  exists ·,_,·,(Yy hd).2.2,(show 1<=sizeLine by decide),?_;let ht0:(M++[MO.lst (ts.map .int)]++[MO.lst [.cell M.length]])[M.length+1]?=some (MO.lst [.cell M.length]):=by rw[Gd];exact Sm (k:=1)
  let hc0:(M++[MO.lst (ts.map .int)]++[MO.lst [.cell M.length]])[M.length]?=some (MO.lst (ts.map .int)):=by rw[Gd];exact Sm (k:=0)
  rw[show(M++[MO.lst (ts.map .int)]).length=M.length+1 from Jd];generalize M++[MO.lst (ts.map .int)]++[MO.lst [.cell M.length]]=M0 at p0 ht0 hc0;exists ·,·,c,e,zs,way,rfl,Fa.pre p0,Yp p0 hw,by have:=wx.1;lia,λls lz=>?_,λn fo=>kx n fo _ p0;let wo:=lz.wok wx;let⟨kY,kN⟩:=k ls lz;let okl:=lz.ok wo;let l3:ls.length<=3:=by rw[lz.1];exact wo.1
  exists _,·,rfl,λi ρ M'=>∃(cs:List Nat)(xs:List (List Int))(v4 v5 v6:Option D),ρ=[some (.cell c),some d,some e,some (.cell (M.length+1)),v4,v5,v6]/\M<+:M'/\Trl M.length M' (M.length+1) cs xs/\TrOk ls ts i xs,λ_ _ _ _ _=>rfl,⟨[M.length],[ts],_,_,_,rfl,p0,⟨ht0,rfl,Gx.mpr ⟨Gp,Ff⟩,λa ha=>?_,(),λi a x e1 e2=>?_⟩,.zero _ _⟩,?_,?_
  .rw[Jm.mp ha];lia
  .match i,e1,e2 with
   |0,e1,e2=>cases e1;cases e2;exact hc0
  .rintro i x ρ M1 hi hx ⟨cs,xs,v4,v5,v6,rfl,p1,tl,tr⟩;let hi:i<ls.length:=by
    let:i<(ls.map lgD).length:=hi;rwa [Jb]at this
   obtain⟨y,ey,rfl⟩:∃y,(ls.map lgD)[i]?=some y/\x=D.tup [D.int i,y]:=hx;let⟨hi',rfl⟩:=Xa ey;let⟨a,ea⟩:=tr.last;let ta:=Zam okl l3 wo.2.2.2 tr (Be hi) ea;let lc:cs.length=2*i+1:=by rw[tl.ln];exact tr.1
   let lx:=tr.1;let hc:2*i<cs.length:=by lia
   let ha:=tl.get _ _ _ (Ja hc) ea;let okl':=okl _ (Jr hi');let l1:=Wp tl.ht;let lcm:(cs.map D.cell).length=cs.length:=Jb _;let atm:L2.atI (cs.map D.cell) (-1)=some (.cell cs[2*i]):=by
    rw[N8 (n:=2*i) (),Jv,Ja hc];rfl
   exists ·,rfl,_,·,_,·,rfl,?_;exists ·,_,_,·,rfl,rfl,·,_,_,·,rfl,rfl,·,1,rfl,_,_,_,(Yy (Y6 tl.ht)).2.2,rfl,atm,?_;exists ls[i].1,ls[i].2,_,a,rfl,Y6 ha,⟨okl'.1,okl'.2,ta⟩,λns us go=>?_,λno M' p=>?_
   .let pn:M1<+:M1++[MO.lst (ns.map .int)]++[MO.lst (us.map .int)]:=by rw[Gd];exists ·
    let hn1:(M1++[MO.lst (ns.map .int)]++[MO.lst (us.map .int)])[M1.length]?=some (MO.lst (ns.map .int)):=by rw[Gd];exact Sm (k:=0)
    let hn2:(M1++[MO.lst (ns.map .int)]++[MO.lst (us.map .int)])[M1.length+1]?=some (MO.lst (us.map .int)):=by rw[Gd];exact Sm (k:=1)
    let tn:=tl.pre pn;generalize M1++[MO.lst (ns.map .int)]++[MO.lst (us.map .int)]=M2 at pn hn1 hn2 tn;let cl:∀b∈cs,b<M1.length:=λb hb=>by
     let⟨j,hj,rfl⟩:=Ju hb;let hx:j<xs.length:=by rw[<-tl.ln];exact hj
     exact Wp (tl.get j _ _ (Ja hj) (Ja hx))
    exists ·,·,iteF ?_;exists ·,Rv (Y6 tn.ht),·,M.length+1,_,_,·,rfl,tn.ht,rfl,?_,.inl ⟨cs++[M1.length,M1.length+1],xs++[ns,us],_,_,_,rfl,Rq (p1.trans pn) (),⟨?_,?_,?_,?_,(),?_⟩,tr.snoc (Ja hi') ea go⟩
    .rw[lcm];exact Zp (show cs.length+2<=100000 by lia)
    .rw[Jz (Wp tn.ht),Jg];rfl
    .rw[Jd,Jd,tl.ln];rfl
    .rw[By];exists tl.nd,by simp,λa ha b hb e=>?_;let:=cl a ha;simp only[Jq,Gp,or_false]at hb;lia
    .intro b hb;rcases Ga.mp hb with z|z
     .exact tl.ge b z
     .simp only[Jq,Gp,or_false]at z;let:=p1.length_le;lia
    .intro j b x e1 e2;let ne:b≠M.length+1/\M2[b]?=some (.lst (x.map .int)):=by
      by_cases hj:j<cs.length
      .rw[Jo hj]at e1;rw[Jo ()]at e2;exists(tl.ge b (Gg e1)).2,tn.get j b x e1 e2
      .rw[Jw ()]at e1 e2;rw[<-tl.ln]at e2;let hj2:=(Jf.mp e1).1;generalize j-cs.length=q at e1 e2 hj2
       match q,e1,e2 with
       |0,e1,e2=>cases e1;cases e2;exists by lia,hn1
       |1,e1,e2=>cases e1;cases e2;exists by lia,hn2
     exact We ne.2 ne.1
   .exists ·,·,iteT ?_;exists ·,·,kN i M' ⟨_,xs,a,Ja hi',tr,ea,no⟩ (p1.trans p)
  .rintro ρ M1 ⟨cs,xs,v4,v5,v6,rfl,p1,tl,tr⟩;let tr:TrOk ls ts (ls.map lgD).length xs:=tr;rw[Jb]at tr;exists ·,.inl (kY xs M1 _ cs tr p1 tl)
theorem Jbl(T:Txt mg)(Si:CalE P w K mg base "trail" 5 ["family","text","way"] (W9 ⟨C,K⟩ (Zdc Zm Zq Zu))){f:Addr}(F:Fun K "astray" "astray" P5 f fd):FnOk P w K mg base (CXE P w) 6 f fd ["family","text","way"] (W9 ⟨C,K⟩ (Zer Zm Zq Zu)):=by
 refine L3.Fun.okX3 F Jaj (λds M K3 KX h=>?_) (λcdv A outer s H E hr=>?_)
 .let⟨c,d,e,zs,way,ts,rfl,_⟩:=h;rfl
 .let SC:=Jaj;let hu:=hr.units;let hu1:=X6 hr;let Np:Room 5 _:=hr.mono nofun;exists _,_,(Zi (Z0 (Zz (Z8 (K':=K) rfl) (Zcr Si Np rfl Zoa (Za (pv 0) (Za (pv 1) (Za (pv 2) Zd)))) (T6 W2 Zh) (λ_ _=>rfl)))),λ_ _ he hk hx=>(Yr (s_op s_ix (Vr he hk hx (Zb (Zf 0) (Zb (Zf 1) (Zb (Zf 2) Zo)))) (s_un Ri Zt))),λds M Kk KX hM hD h=>?_;let⟨c,d,e,zs,way,ts,rfl,h⟩:=h;let⟨Fa,hd,hw,wx,kx,k⟩:=h;exists ·,·,·,c,d,e,zs,way,ts,rfl,Fa,hd,hw,wx,kx,λls lz=>⟨λxs M' t cs wt p tl=>?_,λj M' wt p=>(k ls lz).2 j M' wt p⟩;let wt':TrOk ls ts ls.length xs:=wt;let⟨x,ex⟩:=wt'.last
  let lc:cs.length=2*ls.length+1:=by rw[tl.ln];exact wt'.1
  let hc:2*ls.length<cs.length:=by lia
  exists 1,rfl,_,_,_,(Yy (Y6 tl.ht)).2.2,rfl,?_,.inl ((k ls lz).1 xs x M' cs[2*ls.length] wt ex p (tl.ge _ (Jr hc)).1 (tl.get _ _ _ (Ja hc) ex));rw[N8 (n:=2*ls.length) (by rw[Jb];exact lc),Jv,Ja hc];rfl
open L3
theorem Jbd(T:Txt mg)(Uo:Rx P w K mg base "NoWay" Zu 1 ["self","leg"] (spX1 Zu "leg"))(Xu:CalE P w K mg base "leg_codes" 4 ["family","way"] (W9 ⟨C,K⟩ (Zjb Zm Zq)))(Pu:Cal P w K mg base "gone" 4 ["one","other","text"] (spOf ⟨C,K⟩ Zpb)){f:Addr}(F:Fun K "mended" "mended" P3 f fd):FnOk P w K mg base (CXE P w) 5 f fd ["family","text","way"] (W9 ⟨C,K⟩ (Zep Zm Zq Zu)):=by
 refine L3.Fun.okX3 F Dy (λds M K3 KX h=>?_) (λcdv A outer s H E hr=>?_)
 .let⟨c,d,e,zs,way,ts,rfl,_⟩:=h;rfl
 .let SC:=Dy;let hu:=hr.units;let hu1:=X6 hr;let N0:Room 2 _:=hr.mono nofun;let Vx:Room 4 _:=hr.mono nofun;let Zc4:Room 4 _:=hr.mono nofun;refine⟨_,_,(Ze (Zv (i:=3) SC.nd rfl (Cg rfl) (Zcr Xu Vx rfl Zoa (Za (pv 0) (Za (pv 2) Zd))))
 (Ze (Zv (i:=4) SC.nd rfl (Cg rfl) (Z9 (Vf (K:=K) rfl) (by rfl) T.b_list Cv (Za (pv 1) Zd)))
 (Ze (Y2 K0 rfl (Za0 rfl T.b_range (Za (Z3 Zhn (Zs (Xo (K:=K) rfl) (by rfl) T.b_len Fw (Za (pv 2) Zd)) Zh) (Za (T6 W2 Zh) (Za (T6 W2 Zh) Zd)))) (Zx (i:=5) SC.nd rfl (Cg rfl))
 (Ze (Zv (i:=6) SC.nd rfl (Cg rfl) (Zw Pu Zc4 rfl (Za (Zz (Z8 (K':=K) rfl) (Zz (Z8 (K':=K) rfl) (pv 3) (pv 5) (λ_ _=>rfl)) Zh (λ_ _=>rfl)) (Za (Zz (Z8 (K':=K) rfl) (Zz (Z8 (K':=K) rfl) (pv 3) (pv 5) (λ_ _=>rfl)) Zh (λ_ _=>rfl)) (Za (pv 4) Zd)))))
 (Ze (Yn (W4 (Rt (pv 6)))
 (Zi (Tj Uo N0 rfl (Za (pv 5) Zd)))
 Z1)
 (Zi (Zv (i:=4) SC.nd rfl (Cg rfl) (Zz (Z8 (K':=K) rfl) (pv 6) Zh (λ_ _=>rfl)))))))
 (Zi (Z0 (pv 4)))))),λ_ _ he hk hx=>(Z2 (Yb (Vr he hk hx (Zb (Zf 0) (Zb (Zf 2) Zo))) (s_g 3))
 (Z2 (Yb (s_cb Zci (Zb (Zf 1) Zo)) (s_g 4))
 (Z2 (Ur (Zq6 (Zb (s_op Zq1 (s_cb Uq (Zb (Zf 2) Zo)) Zt) (Zb (s_un Ri Zt) (Zb (s_un Ri Zt) Zo)))) (s_g 5)
 (Z2 (Yb (Z6 (Zb (s_op s_ix (s_op s_ix (Zf 3) (Zf 5)) Zt) (Zb (s_op s_ix (s_op s_ix (Zf 3) (Zf 5)) Zt) (Zb (Zf 4) Zo)))) (s_g 6))
 (Z2 (Xb (s_b (Zkn (Zf 6)))
 (P1 he hk hx (Zb (Zf 5) Zo))
 Yl)
 (Yb (s_op s_ix (Zf 6) Zt) (s_g 4)))))
 (Yr (Zf 4))))),λds M Kk KX hM hD h=>?_⟩
  let⟨c,d,e,zs,way,ts,rfl,h⟩:=h;let⟨Fa,hd,hw,wx,kx,k⟩:=h;exists ·,·,c,e,zs,way,rfl,Fa,hw,by have:=wx.1;lia,λls lz=>?_,λn fo=>kx n fo _ (Jc _);let wo:=lz.wok wx;let⟨kY,kN⟩:=k ls lz;let okl:=lz.ok wo;let w3:=wo.1;let lw:=lz.1;let l3:ls.length<=3:=by lia
  let lwm:(way.map wyD).length=way.length:=Jb _;exists ·,_,·,(Yy hd).2.2,?_;let p0:M<+:M++[MO.lst (ts.map .int)]:=⟨_,rfl⟩;let h0:(M++[MO.lst (ts.map .int)])[M.length]?=some (.lst (ts.map .int)):=Yk;generalize M++[MO.lst (ts.map .int)]=M0 at p0 h0;exists ·,?_;dsimp only[uNil];refine Sk (Yp p0 hw) ?_;exists _,·,rfl,1,rfl,1,rfl,_,·,⟨(),(),(),()⟩,λi ρ M'=>∃(cb:Nat)(xs:List (List Int))(a:List Int)(v5 v6:Option D),ρ=[some (.cell c),some d,some e,some (.lst (ls.map lgD)),some (.cell cb),v5,v6]/\M<+:M'/\M.length<=cb/\TrOk (bk ls) ts i xs/\xs[2*i]?=some a/\M'[cb]?=some (.lst (a.map .int)),λ_ _ _ _ _=>trivial,⟨M.length,[ts],ts,_,_,rfl,p0,Je _,.zero _ _,rfl,h0⟩,?_,?_
  .rintro i x ρ M1 hi rfl ⟨cb,xs,a,v5,v6,rfl,p1,gb,tr,ea,eb⟩;let hi:i<ls.length:=by
    let:i<(((way.map wyD).length:Int)-1-(-1)).toNat:=hi;lia
   let hj:ls.length-1-i<ls.length:=by lia
   let ta:=Zam (Zpi okl) (by rw[Wy];exact l3) wo.2.2.2 tr (by rw[Wy];lia) ea;let okl':=okl _ (Jr hj);let at1:L2.atI (ls.map lgD) (((way.map wyD).length:Int)-1-(i:Int))=some (lgD ls[ls.length-1-i]):=Wh (j:=ls.length-1-i) () hj;exists ·,·,_,_,·,rfl,at1,_,_,·,rfl,rfl,?_;exists ·,·,_,_,·,rfl,at1,_,_,·,rfl,rfl,·,?_;exists _,_,_,a,rfl,Y6 eb,⟨okl'.2,okl'.1,ta⟩,λns us go=>?_,λno M' p=>?_
   .let pn:M1<+:M1++[MO.lst (ns.map .int)]++[MO.lst (us.map .int)]:=by rw[Gd];exists ·
    let hn2:(M1++[MO.lst (ns.map .int)]++[MO.lst (us.map .int)])[M1.length+1]?=some (MO.lst (us.map .int)):=by rw[Gd];exact Sm (k:=1)
    generalize M1++[MO.lst (ns.map .int)]++[MO.lst (us.map .int)]=M2 at pn hn2;let lx:=tr.1;let l1:=p1.length_le;exists ·,·,iteF ?_;exists ·,_,_,·,rfl,rfl,.inl ⟨M1.length+1,xs++[ns,us],us,_,_,rfl,p1.trans pn,(),tr.snoc (Zbv hi) ea go,?_,hn2⟩;rw[Jw (),show 2*(i+1)-xs.length=1 by lia];rfl
   .exists ·,·,iteT ?_;let:=kN i M' ⟨_,xs,a,Zbv hi,tr,ea,no⟩ hi (p1.trans p);rw[show(((way.map wyD).length:Int)-1-(i:Int))=((ls.length-1-i:Nat):Int)by lia];exists ·,·,this
  .rintro ρ M1 ⟨cb,xs,a,v5,v6,rfl,p1,gb,tr,ea,eb⟩;let en:(Zkt (((way.map wyD).length:Int)-1) (((way.map wyD).length:Int)-1-(-1)).toNat).n=ls.length:=by
    show(((way.map wyD).length:Int)-1-(-1)).toNat=_;lia
   rw[en]at tr ea;exists ·,.inl (kY xs a M1 cb (by show TrOk (bk ls) ts (bk ls).length xs;rw[Wy];exact tr) ea p1 gb eb)
open L3
theorem F6(T:Txt mg)(W8:Cal P w K mg base "_law_go" 1 ["_law_one","_law_other","_law_text_here"] (spOf ⟨C,K⟩ Zpc)){f:Addr}(F:Fun K "_law_forth" "_law_forth" Jbk f fd):FnOk P w K mg base CX0 2 f fd ["_law_books_here","_law_way","_law_text_here"] (spOf ⟨C,K⟩ (N5 false)):=by
 refine L3.Fun.ok3 F Jcc (λds M K3 h=>?_) (λcdv A outer s H E hr=>?_)
 .let⟨b,d,e,qs,way,ts,ls,rfl,_⟩:=h;rfl
 .let SC:=Jcc;let hu:=hr.units;let hu1:=X6 hr;let Sc:Room 1 _:=hr.mono nofun;refine⟨_,_,(Ze (Y2 Cm rfl (Yi rfl T.b_range (Za (Zs (Xo (K:=K) rfl) (by rfl) T.b_len Fw (Za (pv 1) Zd)) Zd)) (Zx (i:=3) SC.nd rfl (Cg rfl))
 (Ze (Zv (i:=4) SC.nd rfl (Cg rfl) (Zw W8 Sc rfl (Za (Wv hu1 (pv 0) (Zz (Z8 (K':=K) rfl) (Zz (Z8 (K':=K) rfl) (pv 1) (pv 3) (λ_ _=>rfl)) Zh (λ_ _=>rfl)) (λ_ _=>rfl)) (Za (Wv hu1 (pv 0) (Zz (Z8 (K':=K) rfl) (Zz (Z8 (K':=K) rfl) (pv 1) (pv 3) (λ_ _=>rfl)) Zh (λ_ _=>rfl)) (λ_ _=>rfl)) (Za (pv 2) Zd)))))
 (Ze (Yn (W4 (Rt (pv 4)))
 (Zi (Z0 (Yv (Za Yq (Za (pv 3) Zd)))))
 Z1)
 (Zi (Zv (i:=2) SC.nd rfl (Cg rfl) (Zz (Z8 (K':=K) rfl) (pv 4) Zh (λ_ _=>rfl)))))))
 (Zi (Z0 (Yv (Za Yq (Za (pv 2) Zd)))))),λ_=>(Z2 (Ur (Zcj (Zb (s_cb Uq (Zb (Zf 1) Zo)) Zo)) (s_g 3)
 (Z2 (Yb (Z6 (Zb (Uu (Zf 0) (s_op s_ix (s_op s_ix (Zf 1) (Zf 3)) Zt)) (Zb (Uu (Zf 0) (s_op s_ix (s_op s_ix (Zf 1) (Zf 3)) Zt)) (Zb (Zf 2) Zo)))) (s_g 4))
 (Z2 (Xb (s_b (Zkn (Zf 4)))
 (Yr (Wk (Zb Wa (Zb (Zf 3) Zo))))
 Yl)
 (Yb (s_op s_ix (Zf 4) Zt) (s_g 2)))))
 (Yr (Wk (Zb Wa (Zb (Zf 2) Zo))))),λds M Kk hM hD h=>?_⟩
  let⟨b,d,e,qs,way,ts,ls,rfl,h⟩:=h;let⟨Bk,hd,he,⟨ok,lg,w3,l300⟩,k⟩:=h;let okl:=Legs.ok lg ok;let lw:=lg.1;let lwm:(way.map wyD).length=way.length:=Jb _;exists ·,?_;dsimp only[uNil];refine Sk hd ?_;exists((way.map wyD).length:Int),rfl,⟨(),()⟩,λi ρ M'=>∃(r:D)(xs:List (List Int))(a:List Int)(v3 v4:Option D),ρ=[some (.cell b),some d,some r,v3,v4]/\M<+:M'/\TrOk ls ts i xs/\xs[2*i]?=some a/\lsOf M' r=some (a.map .int),λ_ _ _ _ _=>trivial,⟨e,[ts],ts,_,_,rfl,Jc _,.zero _ _,rfl,he⟩,?_,?_
  .rintro i x ρ M1 hi rfl ⟨r,xs,a,v3,v4,rfl,p1,tr,ea,er⟩;let hi:i<way.length:=by
    let:i<(((way.map wyD).length:Int)).toNat:=hi;lia
   let hl:i<ls.length:=by lia
   let e0:(0:Int)+(i:Int)=(i:Int):=Mb _;rw[e0];let⟨g1,g2⟩:=lg.2 i _ _ (Ja hi) (Ja hl);let⟨c1,d1,m1⟩:=(Bk.pre p1).get ok.1 g1;let⟨c2,d2,m2⟩:=(Bk.pre p1).get ok.1 g2;let ta:=Zam okl () l300 tr (Be hl) ea;let okl':=okl _ (Jr hl);let lx:=tr.1;let at1:L2.atI (way.map wyD) (i:Int)=some (wyD way[i]):=Wh (j:=i) rfl hi;exists ·,·,·,?_;refine Qb (Yp p1 hd) at1 ?_;exists _,_,·,rfl,rfl,_,d1,?_;exists ·,·,·,?_;refine Qb (Yp p1 hd) at1 ?_;exists _,_,·,rfl,rfl,_,d2,·,?_;exists c1,c2,r,ls[i].1,ls[i].2,a,rfl,m1,m2,er,⟨okl'.1,okl'.2,ta⟩,λns us M' t go p lt et=>?_,λno M' p=>?_
   .exists ·,·,iteF ?_;exists ·,_,_,·,rfl,rfl,.inl ⟨.cell t,xs++[ns,us],us,_,_,rfl,p1.trans p,tr.snoc (Ja hl) ea go,?_,Y6 et⟩;rw[Jw (),show 2*(i+1)-xs.length=1 by lia];rfl
   .exists ·,·,iteT ⟨_,rfl,(show 2<=sizeLine by decide),.inl (k M' (.at i) _ (p1.trans p) ⟨_,xs,a,Ja hl,tr,ea,no⟩ rfl)⟩
  .rintro ρ M1 ⟨r,xs,a,v3,v4,rfl,p1,tr,ea,er⟩;let tr:TrOk ls ts (((way.map wyD).length:Int)).toNat xs:=tr;let ea:xs[2*(((way.map wyD).length:Int)).toNat]?=some a:=ea;rw[Bo,lwm,<-lw]at tr ea;exists ·,(show 2<=sizeLine by decide),.inl (k M1 (.to xs) _ p1 tr ⟨a,r,rfl,ea,er⟩)
theorem Jbn(T:Txt mg)(W8:Cal P w K mg base "_law_go" 1 ["_law_one","_law_other","_law_text_here"] (spOf ⟨C,K⟩ Zpc)){f:Addr}(F:Fun K "_law_back" "_law_back" Jbi f fd):FnOk P w K mg base CX0 2 f fd ["_law_books_here","_law_way","_law_text_here"] (spOf ⟨C,K⟩ (N5 true)):=by
 refine L3.Fun.ok3 F Jat (λds M K3 h=>?_) (λcdv A outer s H E hr=>?_)
 .let⟨b,d,e,qs,way,ts,ls,rfl,_⟩:=h;rfl
 .let SC:=Jat;let hu:=hr.units;let hu1:=X6 hr;let Sc:Room 1 _:=hr.mono nofun;refine⟨_,_,(Ze (Y2 Cm rfl (Za0 rfl T.b_range (Za (Z3 Zhn (Zs (Xo (K:=K) rfl) (by rfl) T.b_len Fw (Za (pv 1) Zd)) Zh) (Za (T6 W2 Zh) (Za (T6 W2 Zh) Zd)))) (Zx (i:=3) SC.nd rfl (Cg rfl))
 (Ze (Zv (i:=4) SC.nd rfl (Cg rfl) (Zw W8 Sc rfl (Za (Wv hu1 (pv 0) (Zz (Z8 (K':=K) rfl) (Zz (Z8 (K':=K) rfl) (pv 1) (pv 3) (λ_ _=>rfl)) Zh (λ_ _=>rfl)) (λ_ _=>rfl)) (Za (Wv hu1 (pv 0) (Zz (Z8 (K':=K) rfl) (Zz (Z8 (K':=K) rfl) (pv 1) (pv 3) (λ_ _=>rfl)) Zh (λ_ _=>rfl)) (λ_ _=>rfl)) (Za (pv 2) Zd)))))
 (Ze (Yn (W4 (Rt (pv 4)))
 (Zi (Z0 (Yv (Za Yq (Za (pv 3) Zd)))))
 Z1)
 (Zi (Zv (i:=2) SC.nd rfl (Cg rfl) (Zz (Z8 (K':=K) rfl) (pv 4) Zh (λ_ _=>rfl)))))))
 (Zi (Z0 (Yv (Za Yq (Za (pv 2) Zd)))))),λ_=>(Z2 (Ur (Zq6 (Zb (s_op Zq1 (s_cb Uq (Zb (Zf 1) Zo)) Zt) (Zb (s_un Ri Zt) (Zb (s_un Ri Zt) Zo)))) (s_g 3)
 (Z2 (Yb (Z6 (Zb (Uu (Zf 0) (s_op s_ix (s_op s_ix (Zf 1) (Zf 3)) Zt)) (Zb (Uu (Zf 0) (s_op s_ix (s_op s_ix (Zf 1) (Zf 3)) Zt)) (Zb (Zf 2) Zo)))) (s_g 4))
 (Z2 (Xb (s_b (Zkn (Zf 4)))
 (Yr (Wk (Zb Wa (Zb (Zf 3) Zo))))
 Yl)
 (Yb (s_op s_ix (Zf 4) Zt) (s_g 2)))))
 (Yr (Wk (Zb Wa (Zb (Zf 2) Zo))))),λds M Kk hM hD h=>?_⟩
  let⟨b,d,e,qs,way,ts,ls,rfl,h⟩:=h;let⟨Bk,hd,he,⟨ok,lg,w3,l300⟩,k⟩:=h;let okl:=Legs.ok lg ok;let lw:=lg.1;let lwm:(way.map wyD).length=way.length:=Jb _;exists ·,?_;dsimp only[uNil];refine Sk hd ?_;exists _,·,rfl,1,rfl,1,rfl,_,·,⟨(),(),(),()⟩,λi ρ M'=>∃(r:D)(xs:List (List Int))(a:List Int)(v3 v4:Option D),ρ=[some (.cell b),some d,some r,v3,v4]/\M<+:M'/\TrOk (bk ls) ts i xs/\xs[2*i]?=some a/\lsOf M' r=some (a.map .int),λ_ _ _ _ _=>trivial,⟨e,[ts],ts,_,_,rfl,Jc _,.zero _ _,rfl,he⟩,?_,?_
  .rintro i x ρ M1 hi rfl ⟨r,xs,a,v3,v4,rfl,p1,tr,ea,er⟩;let hi:i<way.length:=by
    let:i<(((way.map wyD).length:Int)-1-(-1)).toNat:=hi;lia
   let hj:way.length-1-i<way.length:=by lia
   let hl:way.length-1-i<ls.length:=by lia
   let⟨g1,g2⟩:=lg.2 _ _ _ (Ja hj) (Ja hl);let⟨c1,d1,m1⟩:=(Bk.pre p1).get ok.1 g1;let⟨c2,d2,m2⟩:=(Bk.pre p1).get ok.1 g2;let ta:=Zam (Zpi okl) (by rw[Wy];lia) l300 tr (by rw[Wy];lia) ea;let okl':=okl _ (Jr hl);let lx:=tr.1;let eb:(bk ls)[i]?=some (ls[way.length-1-i].2,ls[way.length-1-i].1):=by
    rw[Zbv ()];simp only[lw]
   let at1:L2.atI (way.map wyD) (((way.map wyD).length:Int)-1-(i:Int))=some (wyD way[way.length-1-i]):=Wh (j:=way.length-1-i) () hj;exists ·,·,·,?_;refine Qb (Yp p1 hd) at1 ?_;exists _,_,·,rfl,rfl,_,d2,?_;exists ·,·,·,?_;refine Qb (Yp p1 hd) at1 ?_;exists _,_,·,rfl,rfl,_,d1,·,?_;exists c2,c1,r,ls[way.length-1-i].2,ls[way.length-1-i].1,a,rfl,m2,m1,er,⟨okl'.2,okl'.1,ta⟩,λns us M' t go p lt et=>?_,λno M' p=>?_
   .exists ·,·,iteF ?_;exists ·,_,_,·,rfl,rfl,.inl ⟨.cell t,xs++[ns,us],us,_,_,rfl,p1.trans p,tr.snoc eb ea go,?_,Y6 et⟩;rw[Jw (),show 2*(i+1)-xs.length=1 by lia];rfl
   .let:=k M' (.at i) (.tup [.str legS,.int ((ls.length-1-i:Nat):Int)]) (p1.trans p) ⟨_,xs,a,eb,tr,ea,no⟩ rfl;rw[show(((way.map wyD).length:Int)-1-(i:Int))=((ls.length-1-i:Nat):Int)by lia];exists ·,·,iteT ⟨_,rfl,(show 2<=sizeLine by decide),.inl this⟩
  .rintro ρ M1 ⟨r,xs,a,v3,v4,rfl,p1,tr,ea,er⟩;let en:(Zkt (((way.map wyD).length:Int)-1) (((way.map wyD).length:Int)-1-(-1)).toNat).n=ls.length:=by
    show(((way.map wyD).length:Int)-1-(-1)).toNat=_;lia
   rw[en]at tr ea;exists ·,(show 2<=sizeLine by decide),.inl (k M1 (.to xs) _ p1 (by show TrOk (bk ls) ts (bk ls).length xs;rw[Wy];exact tr) ⟨a,r,rfl,ea,er⟩)
open L3
def hd62(K:Cp)(xS xR xG xT xN xW:Addr):TH3:=uhAs K xS 4
 (uSeq (uIfS (uOr (uNot (uB3 (uCB (Zc1 K) (X5 (uVar 4) (X5 (uC (D.ty "ValueError")) uNil))))) (uB3 (uCB (Zc1 K) (X5 (uVar 4) (X5 (uTup (X5 (uC (D.at xR)) (X5 (uC (D.at xG)) (X5 (uC (D.at xT)) uNil)))) uNil))))) (uRet (uTup (X5 (uC (D.str (Cj "other"))) (X5 (uC (D.int 0)) uNil)))) Zkd)
 (uSeq (uIfS (uAnd (uB3 (uCB (Zc1 K) (X5 (uVar 4) (X5 (uC (D.at xN)) uNil)))) (uNot (uB3 (uCB (Zc1 K) (X5 (uVar 4) (X5 (uC (D.at xW)) uNil)))))) (uRet (uTup (X5 (uC (D.str (Cj "name"))) (X5 (Zm8 K (Cj "name") (uVar 4)) uNil)))) Zkd)
 (uSeq (uIfS (uAnd (uB3 (uCB (Zc1 K) (X5 (uVar 4) (X5 (uC (D.at xW)) uNil)))) (uNot (uB3 (uCB (Zc1 K) (X5 (uVar 4) (X5 (uC (D.at xN)) uNil)))))) (uRet (uTup (X5 (uC (D.str (Cj "leg"))) (X5 (Zm8 K (Cj "leg") (uVar 4)) uNil)))) Zkd)
 (uRet (uTup (X5 (uC (D.str (Cj "other"))) (X5 (uC (D.int 1)) uNil))))))) Zp6
def hn62{xS xR xG xT xW fN:Addr}{E:Ends3}{a b c d e:Option D}{n:Str}(xc:XCl K Zq fN)(xna:Cs K (.ref Zq) "name"=some none)(mns:Ej K Zq (.ref xS)=some true)(knn:Eb K (.ref Zq) (.ref Zq)=some true)(knw:Eb K (.ref Zq) (.ref xW)=some false)(knv:Eb K (.ref Zq) (.type "ValueError")=some true)(kna:W.kitAny K (.ref Zq) ([xR,xG,xT].map Cb)=some false)(k:E.rt (.tup [.str Zhz,.str n]) M):hd62 K xS xR xG xT Zq xW Zq [("name",.str n)] E [a,b,c,d,e] M:=by
 exists true,mns,?_;rw[Fs rfl];exists ·,Zq,_,_,true,fN,rfl,xc,.inl ⟨_,rfl,knv⟩,·,iteF ?_;exists ·,(show 3<=sizeLine by decide),Zq,_,_,false,fN,rfl,xc,.inr (.inr ⟨[xR,xG,xT],rfl,kna⟩),·,iteF ?_;exists ·,Zq,_,_,true,fN,rfl,xc,.inr (.inl ⟨_,rfl,knn⟩),·,iteT ?_;exists ·,Zq,_,_,false,fN,rfl,xc,.inr (.inl ⟨_,rfl,knw⟩),·,iteT ?_;exists ·,Zq,_,_,·,xc,xna,rfl,(show 2<=sizeLine by decide),k
def hw62{xS xR xG xT xN fW:Addr}{E:Ends3}{a b c d e:Option D}{v:D}(xc:XCl K Zu fW)(xna:Cs K (.ref Zu) "leg"=some none)(mws:Ej K Zu (.ref xS)=some true)(kww:Eb K (.ref Zu) (.ref Zu)=some true)(kwn:Eb K (.ref Zu) (.ref xN)=some false)(kwv:Eb K (.ref Zu) (.type "ValueError")=some true)(kwa:W.kitAny K (.ref Zu) ([xR,xG,xT].map Cb)=some false)(k:E.rt (.tup [.str legS,v]) M):hd62 K xS xR xG xT xN Zu Zu [("leg",v)] E [a,b,c,d,e] M:=by
 exists true,mws,?_;rw[Fs rfl];exists ·,Zu,_,_,true,fW,rfl,xc,.inl ⟨_,rfl,kwv⟩,·,iteF ?_;exists ·,(show 3<=sizeLine by decide),Zu,_,_,false,fW,rfl,xc,.inr (.inr ⟨[xR,xG,xT],rfl,kwa⟩),·,iteF ?_;exists ·,Zu,_,_,false,fW,rfl,xc,.inr (.inl ⟨_,rfl,kwn⟩),·,iteF (iteF ?_);exists ·,Zu,_,_,true,fW,rfl,xc,.inr (.inl ⟨_,rfl,kww⟩),·,iteT ?_;exists ·,Zu,_,_,false,fW,rfl,xc,.inr (.inl ⟨_,rfl,kwn⟩),·,iteT ?_;exists ·,Zu,_,_,·,xc,xna,rfl,(show 2<=sizeLine by decide),k
theorem Jbo(T:Txt mg){Z7 Zy V1 Ys fW fN:Addr}(Qs:mg "NoWay"=some (.ref Zu))(Rb:mg "NoName"=some (.ref Zq))(Ra:mg "NoSign"=some (.ref Z7))(Vh:mg "NoReading"=some (.ref Zy))(Zdl:mg "Taken"=some (.ref V1))(xc_NoWay:XCl K Zu fW)(xna_leg_NoWay:Cs K (.ref Zu) "leg"=some none)(xc_NoName:XCl K Zq fN)(xna_name_NoName:Cs K (.ref Zq) "name"=some none)(Uf:Cau K mg "SkewError" Ys)(mws:Ej K Zu (.ref Ys)=some true)(mns:Ej K Zq (.ref Ys)=some true)(kww:Eb K (.ref Zu) (.ref Zu)=some true)(kwn:Eb K (.ref Zu) (.ref Zq)=some false)(knn:Eb K (.ref Zq) (.ref Zq)=some true)(knw:Eb K (.ref Zq) (.ref Zu)=some false)(kwv:Eb K (.ref Zu) (.type "ValueError")=some true)(knv:Eb K (.ref Zq) (.type "ValueError")=some true)(kwa:W.kitAny K (.ref Zu) ([Zy,Z7,V1].map Cb)=some false)(kna:W.kitAny K (.ref Zq) ([Zy,Z7,V1].map Cb)=some false)(Zaf:CalE P w K mg base "astray" 6 ["family","text","way"] (W9 ⟨C,K⟩ (Zer Zm Zq Zu)))(Si:CalE P w K mg base "trail" 5 ["family","text","way"] (W9 ⟨C,K⟩ (Zdc Zm Zq Zu)))(Zae:CalE P w K mg base "mended" 5 ["family","text","way"] (W9 ⟨C,K⟩ (Zep Zm Zq Zu))){f:Addr}(F:Fun K "_law_told" "_law_told" Jag f fd):FnOk P w K mg base CX0 7 f fd ["_law_sort","_law_family_here","_law_text_here","_law_way"] (spOf ⟨C,K⟩ (Zdd Zm)):=by
 refine L3.Fun.ok3 F Jaw (λds M K3 h=>?_) (λcdv A outer s H E hr=>?_)
 .let⟨s,c,d,e,zs,way,ts,rfl,_⟩:=h;rfl
 .let SC:=Jaw;let hu:=hr.units;let hu1:=X6 hr;let Zii:Room 6 _:=hr.mono nofun;let Np:Room 5 _:=hr.mono nofun;let Zig:Room 5 _:=hr.mono nofun;refine⟨_,_,(Zi (Zn1 rfl rfl (λ_ _ _ _ hx=>(Zme (Z5 (Up (K':=K) rfl hu) (pv 0) Zh (Ya _)) (Nb (Na (Zcp (Wm (Zd6 Yq) (Wm (Rs Zaf Zii rfl hx (Za (pv 1) (Za (pv 2) (Za (pv 3) Zd)))) (Zd9 Zd)))))) Zha)) (λ_ _ _ _ hx=>(Zme (Z5 (Up (K':=K) rfl hu) (pv 0) Zh (Ya _)) (Nb (Na (Zcp (Wm (Zd6 Yq) (Wm (Zrk (Z8 (K':=K) rfl) (Rs Si Np rfl hx (Za (pv 1) (Za (pv 2) (Za (pv 3) Zd)))) (T6 W2 Zh) (λ_ _=>rfl)) (Zd9 Zd)))))) Zha)) (λ_ _ _ _ hx=>(Na (Zcp (Wm (Zd6 Yq) (Wm (Rs Zae Zig rfl hx (Za (pv 1) (Za (pv 2) (Za (pv 3) Zd)))) (Zd9 Zd)))))) (Zun (i:=4) Uf rfl SC.nd rfl rfl (λ_=>(Ze (Yn (PW.pt (Zkv (Ti (W3 (Zs (W7 (K:=K) rfl) (by rfl) T.b_isinstance Ci (Za (pv 4) (Za (U5 (v:=.ty "ValueError") rfl T.b_ValueError Qm rfl) Zd))))) (Zg9 (W3 (Zs (W7 (K:=K) rfl) (by rfl) T.b_isinstance Ci (Za (pv 4) (Za (Yv (Za (U4 (v:=.ref Zy) rfl Vh rfl) (Za (U4 (v:=.ref Z7) rfl Ra rfl) (Za (U4 (v:=.ref V1) rfl Zdl rfl) Zd)))) Zd)))))))
 (Zi (Z0 (Yv (Za Yq (Za Zh Zd)))))
 Z1)
 (Ze (Yn (PW.pt (Rn (W3 (Zs (W7 (K:=K) rfl) (by rfl) T.b_isinstance Ci (Za (pv 4) (Za (U4 (v:=.ref Zq) rfl Rb rfl) Zd)))) (T4 (Ti (W3 (Zs (W7 (K:=K) rfl) (by rfl) T.b_isinstance Ci (Za (pv 4) (Za (U4 (v:=.ref Zu) rfl Qs rfl) Zd))))))))
 (Zi (Z0 (Yv (Za Yq (Za (Zjn (K:=K) rfl (pv 4) rfl) Zd)))))
 Z1)
 (Ze (Yn (PW.pt (Rn (W3 (Zs (W7 (K:=K) rfl) (by rfl) T.b_isinstance Ci (Za (pv 4) (Za (U4 (v:=.ref Zu) rfl Qs rfl) Zd)))) (T4 (Ti (W3 (Zs (W7 (K:=K) rfl) (by rfl) T.b_isinstance Ci (Za (pv 4) (Za (U4 (v:=.ref Zq) rfl Rb rfl) Zd))))))))
 (Zi (Z0 (Yv (Za Yq (Za (Zjn (K:=K) rfl (pv 4) rfl) Zd)))))
 Z1)
 (Zi (Z0 (Yv (Za Yq (Za Zh Zd))))))))) Zmp))),λ_=>(Zqz (λ_ _ _ he hk hx=>(Xb (Yz (s_op s_eq (Zf 0) Zt)) (Yr (Wk (Zb Wa (Zb (Vr he hk hx (Zb (Zf 1) (Zb (Zf 2) (Zb (Zf 3) Zo)))) Zo)))) Yl)) (λ_ _ _ he hk hx=>(Xb (Yz (s_op s_eq (Zf 0) Zt)) (Yr (Wk (Zb Wa (Zb (s_op s_ix (Vr he hk hx (Zb (Zf 1) (Zb (Zf 2) (Zb (Zf 3) Zo)))) (s_un Ri Zt)) Zo)))) Yl)) (λ_ _ _ he hk hx=>(Yr (Wk (Zb Wa (Zb (Vr he hk hx (Zb (Zf 1) (Zb (Zf 2) (Zb (Zf 3) Zo)))) Zo))))) (Zt8 (Z2 (Xb (s_or (P2 (s_b (s_cb Q8 (Zb (Zf 4) (Zb s_ty Zo))))) (s_b (s_cb Q8 (Zb (Zf 4) (Zb (Wk (Zb s_at (Zb s_at (Zb s_at Zo)))) Zo)))))
 (Yr (Wk (Zb Wa (Zb Zt Zo))))
 Yl)
 (Z2 (Xb (Ze9 (s_b (s_cb Q8 (Zb (Zf 4) (Zb s_at Zo)))) (P2 (s_b (s_cb Q8 (Zb (Zf 4) (Zb s_at Zo))))))
 (Yr (Wk (Zb Wa (Zb (Zl6 (Zf 4)) Zo))))
 Yl)
 (Z2 (Xb (Ze9 (s_b (s_cb Q8 (Zb (Zf 4) (Zb s_at Zo)))) (P2 (s_b (s_cb Q8 (Zb (Zf 4) (Zb s_at Zo))))))
 (Yr (Wk (Zb Wa (Zb (Zl6 (Zf 4)) Zo))))
 Yl)
 (Yr (Wk (Zb Wa (Zb Zt Zo))))))) Zma)),λds M Kk hM hD h=>?_⟩
  let⟨s,c,d,e,zs,way,ts,rfl,h⟩:=h;let⟨Fa,hd,hw,⟨hs,wx⟩,kn,k⟩:=h
  match s,hs,k with
  |0,_,k =>
   exists ·,.inl ⟨_,rfl,_,rfl,iteT ?_⟩;exists ·,·,·,c,d,e,zs,way,ts,rfl,Fa,hd,hw,wx,λn fo M' p=>hn62 xc_NoName xna_name_NoName mns knn knw knv kna (.inl (kn n fo M' p)),λls lz=>⟨λxs x M' t wt ex p ge et=>⟨(show 2<=sizeLine by decide),.inl (k ls lz M' (.to xs) _ p wt ⟨x,_,rfl,ex,Y6 et⟩)⟩,λj M' wt p=>hw62 xc_NoWay xna_leg_NoWay mws kww kwn kwv kwa (.inl (k ls lz M' (.at j) _ p wt rfl))⟩
  |1,_,k =>
   exists ·,.inl ⟨_,rfl,_,rfl,iteF ?_⟩;exists ·,.inl ⟨_,rfl,_,rfl,iteT ?_⟩;exists ·,·,·,c,d,e,zs,way,ts,rfl,Fa,hd,hw,wx,λn fo M' p=>hn62 xc_NoName xna_name_NoName mns knn knw knv kna (.inl (kn n fo M' p)),λls lz=>⟨λxs M' t cs wt p tl=>?_,λj M' wt p=>hw62 xc_NoWay xna_leg_NoWay mws kww kwn kwv kwa (.inl (k ls lz M' (.at j) _ p wt rfl))⟩;let wt':TrOk ls ts ls.length xs:=wt;let⟨x,ex⟩:=wt'.last;let lc:cs.length=2*ls.length+1:=by rw[tl.ln];exact wt'.1
   let hc:2*ls.length<cs.length:=by lia
   exists 1,rfl,_,_,_,(Yy (Y6 tl.ht)).2.2,rfl,?_,(show 2<=sizeLine by decide),.inl (k ls lz M' (.to xs) _ p wt ⟨x,.cell cs[2*ls.length],rfl,ex,Y6 (tl.get _ _ _ (Ja hc) ex)⟩);rw[N8 (n:=2*ls.length) (by rw[Jb];exact lc),Jv,Ja hc];rfl
  |2,_,k =>
   exists ·,.inl ⟨_,rfl,_,rfl,iteF ?_⟩;exists ·,.inl ⟨_,rfl,_,rfl,iteF ?_⟩;exists ·,·,·,c,d,e,zs,way,ts,rfl,Fa,hd,hw,wx,λn fo M' p=>hn62 xc_NoName xna_name_NoName mns knn knw knv kna (.inl (kn n fo M' p)),λls lz=>⟨λxs x M' t wt ex p ge et=>⟨(show 2<=sizeLine by decide),.inl (k ls lz M' (.to xs) _ p wt ⟨x,_,rfl,ex,Y6 et⟩)⟩,λj M' wt hj p=>hw62 xc_NoWay xna_leg_NoWay mws kww kwn kwv kwa (.inl (k ls lz M' (.at j) _ p wt rfl))⟩
open L3
theorem Jao(T:Txt mg)(Td:Cal P w K mg base "_law_same" 1 ["_law_found","_law_due"] (spOf ⟨C,K⟩ Zja)){f:Addr}(F:Fun K "_law_is" "_law_is" Jab f fd):FnOk P w K mg base CX0 3 f fd ["_law_found","_law_due"] (spOf ⟨C,K⟩ Zss):=by
 refine L3.Fun.ok3 F Jbj (λds M K3 h=>?_) (λcdv A outer s H E hr=>?_)
 .let⟨d,e,rfl,_⟩:=h;rfl
 .let SC:=Jbj;let hu:=hr.units;let hu1:=X6 hr;let Zbd:Room 1 _:=hr.mono nofun;refine⟨_,_,(Ze (Yn (Z5 (Zkb (K':=K) rfl hu) (Zz (Z8 (K':=K) rfl) (pv 0) Zh (λ_ _=>rfl)) (Zz (Z8 (K':=K) rfl) (pv 1) Zh (λ_ _=>rfl)) (Ya _))
 (Zi (Z0 Sq))
 Z1)
 (Ze (Yn (Z5 (Up (K':=K) rfl hu) (Zz (Z8 (K':=K) rfl) (pv 1) Zh (λ_ _=>rfl)) Yq (Ya _))
 (Zi (Z0 (Zw Td Zbd rfl (Za (Zz (Z8 (K':=K) rfl) (pv 0) Zh (λ_ _=>rfl)) (Za (Zz (Z8 (K':=K) rfl) (pv 1) Zh (λ_ _=>rfl)) Zd)))))
 Z1)
 (Ze (Yn (Z5 (Up (K':=K) rfl hu) (Zz (Z8 (K':=K) rfl) (pv 1) Zh (λ_ _=>rfl)) Yq (Ya _))
 (Zi (Z0 (Zhk (Zs (Pq (K:=K) rfl) (by rfl) T.b_isinstance Ci (Za (Zz (Z8 (K':=K) rfl) (pv 0) Zh (λ_ _=>rfl)) (Za (U5 (v:=.ty "str") rfl T.b_str PyProof.Rows.boot_str rfl) Zd))) (Zmi (Zcq (Up (K':=K) rfl hu) (Zz (Z8 (K':=K) rfl) (pv 0) Zh (λ_ _=>rfl)) (Zz (Z8 (K':=K) rfl) (pv 1) Zh (λ_ _=>rfl)) (Ya _))))))
 Z1)
 (Zi (Z0 (Zhk (Zs (Pq (K:=K) rfl) (by rfl) T.b_isinstance Ci (Za (Zz (Z8 (K':=K) rfl) (pv 0) Zh (λ_ _=>rfl)) (Za (U5 (v:=.ty "int") rfl T.b_int K6 rfl) Zd))) (Zhk (Zrm (Zs (Pq (K:=K) rfl) (by rfl) T.b_isinstance Ci (Za (Zz (Z8 (K':=K) rfl) (pv 0) Zh (λ_ _=>rfl)) (Za (U5 (v:=.ty "bool") rfl T.b_bool Jcy rfl) Zd)))) (Zmi (Zcq (Up (K':=K) rfl hu) (Zz (Z8 (K':=K) rfl) (pv 0) Zh (λ_ _=>rfl)) (Zz (Z8 (K':=K) rfl) (pv 1) Zh (λ_ _=>rfl)) (Ya _)))))))))),λ_=>(Z2 (Xb (Yz (s_op s_ne (s_op s_ix (Zf 0) Zt) (s_op s_ix (Zf 1) Zt)))
 (Yr s_bl)
 Yl)
 (Z2 (Xb (Yz (s_op s_eq (s_op s_ix (Zf 1) Zt) Wa))
 (Yr (Z6 (Zb (s_op s_ix (Zf 0) Zt) (Zb (s_op s_ix (Zf 1) Zt) Zo))))
 Yl)
 (Z2 (Xb (Yz (s_op s_eq (s_op s_ix (Zf 1) Zt) Wa))
 (Yr (Zgx (s_cb (Ze8 (T:=.str)) (Zb (s_op s_ix (Zf 0) Zt) (Zb s_ty Zo))) (s_op s_eq (s_op s_ix (Zf 0) Zt) (s_op s_ix (Zf 1) Zt))))
 Yl)
 (Yr (Zgx (s_cb (Ze8 (T:=.int)) (Zb (s_op s_ix (Zf 0) Zt) (Zb s_ty Zo))) (Zgx (Zq2 (s_cb (Ze8 (T:=.bool)) (Zb (s_op s_ix (Zf 0) Zt) (Zb s_ty Zo)))) (s_op s_eq (s_op s_ix (Zf 0) Zt) (s_op s_ix (Zf 1) Zt)))))))),λds M Kk hM hD h=>?_⟩
  let⟨d,e,rfl,h⟩:=h;let⟨hde,k⟩:=h;rcases hde with⟨n,rfl,rfl⟩|⟨n,b,o,h1,h2,lx⟩
  .exists ·,_,_,·,rfl,rfl,·,_,_,·,rfl,rfl,.inl ⟨_,rfl,_,rfl,?_⟩;rw[Ft rfl];refine iteF ?_;exists ·,_,_,·,rfl,rfl,.inl ⟨_,rfl,_,rfl,?_⟩;rw[Fu nofun];refine iteF ?_;exists ·,_,_,·,rfl,rfl,.inl ⟨_,rfl,_,rfl,?_⟩;rw[Ft rfl];refine iteT ?_;exists ·,_,_,·,rfl,rfl,_,·,rfl,·,iteT ?_;exists ·,_,_,·,rfl,rfl,·,_,_,·,rfl,rfl,.inl ⟨_,rfl,.inl ?_⟩;rw[Ft rfl];exact k
  .cases o with
   |«at» j =>
    obtain rfl:d=.tup [.str legS,.int ((if b then n-1-j else j:Nat):Int)]:=h1;obtain rfl:e=.tup [.str legS,.int ((if b then n-1-j else j:Nat):Int)]:=h2;generalize (if b then n-1-j else j:Nat)=v;exists ·,_,_,·,rfl,rfl,·,_,_,·,rfl,rfl,.inl ⟨_,rfl,_,rfl,?_⟩;rw[Ft rfl];refine iteF ?_;exists ·,_,_,·,rfl,rfl,.inl ⟨_,rfl,_,rfl,?_⟩;rw[Fu nofun];refine iteF ?_;exists ·,_,_,·,rfl,rfl,.inl ⟨_,rfl,_,rfl,?_⟩;rw[Fu nofun];refine iteF ?_;exists ·,_,_,·,rfl,rfl,_,·,rfl,·,iteT ?_;exists ·,_,_,·,rfl,rfl,_,·,rfl,·,·,iteT ?_
    exists ·,_,_,·,rfl,rfl,·,_,_,·,rfl,rfl,.inl ⟨_,rfl,.inl ?_⟩;rw[Ft rfl];exact k
   |to xs =>
    let⟨x,e1,rfl,ex,l1⟩:=h1;let⟨x',e2,rfl,ex',l2⟩:=h2;rw[ex]at ex';cases ex';let:=lx xs rfl x ex;exists ·,_,_,·,rfl,rfl,·,_,_,·,rfl,rfl,.inl ⟨_,rfl,_,rfl,?_⟩;rw[Ft rfl];refine iteF ?_;exists ·,_,_,·,rfl,rfl,.inl ⟨_,rfl,_,rfl,?_⟩;rw[Ft rfl];refine iteT ?_;exists ·,_,_,·,rfl,rfl,·,_,_,·,rfl,rfl,_,_,x,rfl,l1,l2,(),.inl k
open L3
def Zmq{wy:List (Str×Str)}{w:Str×Str}{x:Str}(h:x∈flW (wy.set j w)):x∈flW wy\/x=w.1\/x=w.2:=by
 let⟨v,hv,hx⟩:=Ve.mp h;rcases Kc hv with q|q
 .exact .inl (Ve.mpr ⟨v,q,hx⟩)
 .subst q;exact .inr hx
theorem D0(T:Txt mg)(Zj:Cal P w K mg base "_law_draw" 1 ["_law_hand","_law_many"] (spOf ⟨C,K⟩ Zjd)){f:Addr}(F:Fun K "_law_lacking" "_law_lacking" Jbu f fd):FnOk P w K mg base CX0 2 f fd ["_law_hand","_law_way","_law_strange"] (spOf ⟨C,K⟩ Zjc):=by
 refine L3.Fun.ok3 F Jcj (λds M K3 h=>?_) (λcdv A outer s H E hr=>?_)
 .let⟨c,d,way,sr,rfl,_⟩:=h;rfl
 .let SC:=Jcj;let hu:=hr.units;let hu1:=X6 hr;let Zk:Room 1 _:=hr.mono nofun;refine⟨_,_,(Ze (Zv (i:=3) SC.nd rfl (Cg rfl) (Z9 (Vf (K:=K) rfl) (by rfl) T.b_list Cv (Za (pv 1) Zd)))
 (Ze (Y2 Cm rfl (Yi rfl T.b_range (Za (Z3 (Y9 (K':=K) rfl) Zh (Zw Zj Zk rfl (Za (pv 0) (Za Zh Zd)))) Zd)) (Zx (i:=4) SC.nd rfl (Cg rfl))
 (Ze (Zv (i:=5) SC.nd rfl (Cg rfl) (Z3 Xf (Zw Zj Zk rfl (Za (pv 0) (Za Zh Zd))) (Zs (Xo (K:=K) rfl) (by rfl) T.b_len Fw (Za (pv 3) Zd))))
 (Ze (Zv (i:=6) SC.nd rfl (Cg rfl) (Zz (Z8 (K':=K) rfl) (pv 2) (pv 4) (λ_ _=>rfl)))
 (Zi (Yn (Z5 (Up (K':=K) rfl hu) (Zw Zj Zk rfl (Za (pv 0) (Za Zh Zd))) Zh (Ya _))
 (Zi (Rp (Yv (Za (pv 6) (Za (Zz (Z8 (K':=K) rfl) (Zz (Z8 (K':=K) rfl) (pv 3) (pv 5) (λ_ _=>rfl)) Zh (λ_ _=>rfl)) Zd))) (Pe (pv 3) (pv 5) Va)))
 (Zi (Rp (Yv (Za (Zz (Z8 (K':=K) rfl) (Zz (Z8 (K':=K) rfl) (pv 3) (pv 5) (λ_ _=>rfl)) Zh (λ_ _=>rfl)) (Za (pv 6) Zd))) (Pe (pv 3) (pv 5) Va))))))))
 (Ze (Zv (i:=7) SC.nd rfl (Cg rfl) (Xk Zd))
 (Ze (Y2 Cm rfl (X0 (pv 3)) (Zx (i:=8) SC.nd rfl (Cg rfl))
 (Zi (Zv (i:=7) SC.nd rfl (Cg rfl) (Z3 (Y9 (K':=K) rfl) (pv 7) (Wb (T:=["_law_one"]) (cs:=[2]) rfl (CScope.ok (by kernel_rfl)) (Pd (pv 8)) (λ_ _ _ _=>(Zx (i:=0) (Wd (by kernel_rfl)) rfl (Cg rfl) (Ed rfl))) (λ_ _ _ _=>(P9 (Z5 (Zte (K':=K) rfl) (pv 0) (pv 1) rfl))) (λ_ _ _ _=>(pv 0)) (Xe nofun))))))
 (Zi (Z0 (Yv (Za (pv 3) (Za (Zz (Z8 (K':=K) rfl) (pv 7) Zh (λ_ _=>rfl)) Zd))))))))),λ_=>(Z2 (Yb (s_cb Zci (Zb (Zf 1) Zo)) (s_g 3))
 (Z2 (Ur (Zcj (Zb (s_op Wt Zt (Z6 (Zb (Zf 0) (Zb Zt Zo)))) Zo)) (s_g 4)
 (Z2 (Yb (s_op Ze7 (Z6 (Zb (Zf 0) (Zb Zt Zo))) (s_cb Uq (Zb (Zf 3) Zo))) (s_g 5))
 (Z2 (Yb (s_op s_ix (Zf 2) (Zf 4)) (s_g 6))
 (Xb (Yz (s_op s_eq (Z6 (Zb (Zf 0) (Zb Zt Zo))) Zt))
 (Yb (Wk (Zb (Zf 6) (Zb (s_op s_ix (s_op s_ix (Zf 3) (Zf 5)) Zt) Zo))) (Zav (Zf 3) (Zf 5)))
 (Yb (Wk (Zb (s_op s_ix (s_op s_ix (Zf 3) (Zf 5)) Zt) (Zb (Zf 6) Zo))) (Zav (Zf 3) (Zf 5)))))))
 (Z2 (Yb (Zch Zo) (s_g 7))
 (Z2 (Ur (s_il (Zf 3)) (s_g 8)
 (Yb (s_op Wt (Zf 7) (Rj (s_it (Zf 8)) (s_g 0) (Yz (s_op Zt6 (Zf 0) (Zf 1))) (Zf 0))) (s_g 7)))
 (Yr (Wk (Zb (Zf 3) (Zb (s_op s_ix (Zf 7) Zt) Zo)))))))),λds M Kk hM hD h=>?_⟩
  let⟨c,d,way,sr,rfl,h⟩:=h;let⟨hc,hd,⟨w0,w3,s2,s10⟩,k⟩:=h;exists ·,_,·,(Yy hd).2.2,?_;let hcM:∀m:MO,(M++[m])[c]?=some .hand:=λm=>Yh hc;exists ·,c,2,rfl,hcM _,⟨nofun,nofun⟩,λu u0 u1=>?_;exists 1+u,rfl,⟨(),()⟩,λi ρ M'=>∃(wy:List (Str×Str))(v4 v5 v6 v7 v8:Option D),ρ=[some (.cell c),some d,some (.lst (sr.map .str)),some (.cell M.length),v4,v5,v6,v7,v8]/\M++[.lst (wy.map wyD)]=M'/\wy.length=way.length/\(∀x∈flW wy,x∈flW way\/x∈sr)/\(0<i->∃x∈flW wy,x∈sr),λ_ _ _ _ _=>trivial,⟨way,_,_,_,_,_,rfl,rfl,rfl,λx hx=>.inl hx,λz=>absurd z (Gw _)⟩,?_,?_
  .rintro i x ρ _ hi rfl ⟨wy,v4,v5,v6,v7,v8,rfl,rfl,lw,hm,_⟩;let hi:i<2:=by
    let:i<(1+u).toNat:=hi;lia
   let lm:(wy.map wyD).length=wy.length:=Jb _;refine⟨_,rfl,c,60,rfl,hcM _,⟨nofun,nofun⟩,λq q0 q1=>?_⟩;refine⟨_,rfl,?_⟩;dsimp only[uNil];refine Sk Xd ?_;refine⟨_,_,rfl,rfl,(),?_⟩;obtain⟨j,ej,hj⟩:∃j:Nat,q % ((wy.map wyD).length:Int)=(j:Int)/\j<wy.length:=by
    let h1:=G3 q (show((wy.map wyD).length:Int)≠0 by lia);let h2:=Gu q (show(0:Int)<((wy.map wyD).length:Int)by lia);exact⟨(q % ((wy.map wyD).length:Int)).toNat,(),()⟩
   dsimp only;rw[ej];let hs:i<sr.length:=by lia
   let at1:L2.atI (sr.map D.str) (0+(i:Int))=some (.str sr[i]):=Wh (j:=i) () hs;refine⟨_,rfl,_,rfl,_,_,_,rfl,rfl,at1,?_⟩;let at2:L2.atI (wy.map wyD) (j:Int)=some (wyD wy[j]):=Wh (j:=j) rfl hj;let ix:L2.ixN (wy.map wyD).length (j:Int)=some j:=by
    unfold L2.ixN;rw[Fs (),Fs ()];rfl
   let srm:sr[i]∈sr:=Jr hs;let wym:wy[j]∈wy:=Jr hj;exists ·,c,2,rfl,hcM _,⟨nofun,nofun⟩,λb b0 b1=>.inl ⟨_,rfl,_,rfl,ite2 (λh=>?_) (λh=>?_)⟩
   .exists ·,·,·,?_;refine Qb Xd at2 ?_;exists _,_,·,rfl,rfl,(show 2<=sizeLine by decide),·,·,M.length,_,_,j,rfl,rfl,Yk,ix,?_;rw[Xj];refine .inl ⟨wy.set j (sr[i],wy[j].2),_,_,_,_,_,rfl,?_,by rw[Gq];exact lw,λx hx=>?_,λ_=>⟨sr[i],Ve.mpr ⟨_,List.mem_set (by exact hj) _,.inl rfl⟩,srm⟩⟩
    .rw[List.map_set];rfl
    .rcases Zmq hx with q|q|q
     .exact hm x q
     .rw[q];exact .inr srm
     .rw[q];exact hm _ (Ve.mpr ⟨_,wym,.inr rfl⟩)
   .exists ·,·,?_;refine Qb Xd at2 ?_;exists _,_,·,rfl,rfl,·,(show 2<=sizeLine by decide),·,·,M.length,_,_,j,rfl,rfl,Yk,ix,?_;rw[Xj];refine .inl ⟨wy.set j (wy[j].1,sr[i]),_,_,_,_,_,rfl,?_,by rw[Gq];exact lw,λx hx=>?_,λ_=>⟨sr[i],Ve.mpr ⟨_,List.mem_set (by exact hj) _,.inr rfl⟩,srm⟩⟩
    .rw[List.map_set];rfl
    .rcases Zmq hx with q|q|q
     .exact hm x q
     .rw[q];exact hm _ (Ve.mpr ⟨_,wym,.inl rfl⟩)
     .rw[q];exact .inr srm
  rintro ρ _ ⟨wy,v4,v5,v6,v7,v8,rfl,rfl,lw,hm,ho⟩;let⟨x0,hx0,sx0⟩:=ho (by show 0<(1+u).toNat;lia);exists(show 0<=sizeLine by decide),?_;exists ·,_,(Yy Xd).2.1,λi ρ M'=>∃(v8:Option D),ρ=[some (.cell c),some d,some (.lst (sr.map .str)),some (.cell M.length),v4,v5,v6,some (.lst (((flW (wy.take i)).filter λx=>decide (x∈sr)).map .str)),v8]/\M++[.lst (wy.map wyD)]=M',λ_ _ _ _ h=>(by let⟨_,_,rfl⟩:=h;exact(Yy Xd).2.1),⟨_,rfl,rfl⟩,?_,?_
  .rintro i x ρ _ hi hx ⟨v8,rfl,rfl⟩;let⟨hi',rfl⟩:=Xa hx;exists ·,·,·,(show 2<=sizeLine by decide),λj ys M'=>M++[.lst (wy.map wyD)]=M'/\ys=((([wy[i].1,wy[i].2].take j).filter λx=>decide (x∈sr)).map D.str),λ_ _ _ _ _=>trivial,⟨rfl,rfl⟩,?_,?_
   .rintro j x ys _ hj hx ⟨rfl,rfl⟩;obtain⟨z,rfl,ez⟩:∃z,x=D.str z/\[wy[i].1,wy[i].2][j]?=some z:=by
     let hx:[D.str wy[i].1,D.str wy[i].2][j]?=some x:=hx
     match j,hx with
     |0,e=>exact⟨_,(Fv e).symm,rfl⟩
     |1,e=>exact⟨_,(Fv e).symm,rfl⟩
    exists ·,·,_,sr,rfl,rfl,·,?_
    by_cases hz:z∈sr
    .rw[show(if false=true then !decide (z∈sr)else decide (z∈sr))=true by simp[hz]];refine iteT ⟨_,rfl,rfl,?_⟩;rw[B8,ez,Bd,Jg];simp[hz]
    .rw[show(if false=true then !decide (z∈sr)else decide (z∈sr))=false by simp[hz]];refine iteF ⟨rfl,?_⟩;rw[B8,ez,Bd,Jg];simp[hz]
   rintro ys _ ⟨rfl,rfl⟩;let lf:((flW (wy.take i)).filter λx=>decide (x∈sr)).length<=100:=by
    refine J0 (K8 _ _) ?_;unfold flW;rw[List.length_flatMap];let:((wy.take i).map λw:Str×Str=>[w.1,w.2].length)=Co (wy.take i).length 2:=by
     rw[List.eq_replicate_iff];exact⟨by rw[Jb],λb hb=>by let⟨w,_,rfl⟩:=Jp.mp hb;rfl⟩
    rw[this,List.sum_replicate_nat,Ji];lia
   let l2:(([wy[i].1,wy[i].2].take 2).filter λx=>decide (x∈sr)).length<=2:=K8 _ _;exists _,·,rfl,?_,.inl ⟨some (wyD wy[i]),?_,rfl⟩
   .refine Zp ?_;show(List.map D.str ((flW (wy.take i)).filter λx=>decide (x∈sr))).length+(List.map D.str (([wy[i].1,wy[i].2].take 2).filter λx=>decide (x∈sr))).length<=100000;rw[Jb,Jb];lia
   .let e:flW (wy.take (i+1))=flW (wy.take i)++[wy[i].1,wy[i].2]:=by
     unfold flW;rw[B8,Ja hi',List.flatMap_append];rfl
    rw[e,Bd,Jg];rfl
  .rintro ρ _ ⟨v8,rfl,rfl⟩;let e:(flW (wy.take (wy.map wyD).length))=flW wy:=by rw[Jb,Gb]
   let hf:∃n r,((flW wy).filter λx=>decide (x∈sr))=n::r:=by
    cases q:((flW wy).filter λx=>decide (x∈sr))with
    |nil =>
     let:=List.filter_eq_nil_iff.mp q x0 hx0;exact absurd (Ft sx0) this
    |cons n r=>exact⟨n,r,rfl⟩
   let⟨n,r,en⟩:=hf;exists ·,·,_,_,·,rfl,?_,(show 2<=sizeLine by decide),.inl (k _ M.length wy n ⟨_,rfl⟩ Yk lw hm (by rw[en];rfl));show L2.atI (((flW (wy.take (wy.map wyD).length)).filter λx=>decide (x∈sr)).map D.str) 0=_;rw[e,en];exact Zjz (j:=0) rfl rfl
open L3
theorem Jce(T:Txt mg)(Wi:Cal P w K mg base "_law_told" 7 ["_law_sort","_law_family_here","_law_text_here","_law_way"] (spOf ⟨C,K⟩ (Zdd Zm)))(Uc:Cal P w K mg base "_law_is" 3 ["_law_found","_law_due"] (spOf ⟨C,K⟩ Zss))(Wq:Cal P w K mg base "_law_forth" 2 ["_law_books_here","_law_way","_law_text_here"] (spOf ⟨C,K⟩ (N5 false)))(Te:Cal P w K mg base "_law_back" 2 ["_law_books_here","_law_way","_law_text_here"] (spOf ⟨C,K⟩ (N5 true))){f:Addr}(F:Fun K "_law_right" "_law_right" Dh f fd):FnOk P w K mg base CX0 8 f fd ["_law_family_here","_law_books_here","_law_text_here","_law_way","_law_spoilt"] (spOf ⟨C,K⟩ (Zen Zm)):=by
 refine L3.Fun.ok3 F Jcn (λds M K3 h=>?_) (λcdv A outer s H E hr=>?_)
 .let⟨f,b,c,d,e,zs,qs,way,way',ts,n,rfl,_⟩:=h;rfl
 .let SC:=Jcn;let hu:=hr.units;let hu1:=X6 hr;let Vy:Room 7 _:=hr.mono nofun;let Sb:Room 3 _:=hr.mono nofun;let Ts:Room 2 _:=hr.mono nofun;let Zbe:Room 2 _:=hr.mono nofun;refine⟨_,_,(Ze (Y2 Cm rfl (Yi rfl T.b_range (Za Zh Zd)) (Zx (i:=5) SC.nd rfl (Cg rfl))
 (Ze (Yn (Ti (W3 (Zw Uc Sb rfl (Za (Zw Wi Vy rfl (Za (pv 5) (Za (pv 0) (Za (Z9 (Vf (K:=K) rfl) (by rfl) T.b_list Cv (Za (pv 2) Zd)) (Za (Zz (Z8 (K':=K) rfl) (pv 4) Zh (λ_ _=>rfl)) Zd))))) (Za (Yv (Za Yq (Za (Zz (Z8 (K':=K) rfl) (pv 4) Zh (λ_ _=>rfl)) Zd))) Zd)))))
 (Zi (Z0 Sq))
 Z1)
 (Ze (Zv (i:=6) SC.nd rfl (Cg rfl) (Zw Wq Ts rfl (Za (pv 1) (Za (pv 3) (Za (pv 2) Zd)))))
 (Ze (Yn (Z5 (Up (K':=K) rfl hu) (pv 5) Zh (Ya _))
 (Zi (Zv (i:=6) SC.nd rfl (Cg rfl) (Zw Te Zbe rfl (Za (pv 1) (Za (pv 3) (Za (pv 2) Zd))))))
 Z1)
 (Ze (Yn (Ti (W3 (Zw Uc Sb rfl (Za (Zw Wi Vy rfl (Za (pv 5) (Za (pv 0) (Za (Z9 (Vf (K:=K) rfl) (by rfl) T.b_list Cv (Za (pv 2) Zd)) (Za (Z9 (Vf (K:=K) rfl) (by rfl) T.b_list Cv (Za (pv 3) Zd)) Zd))))) (Za (pv 6) Zd)))))
 (Zi (Z0 Sq))
 Z1)
 (Zi (Yn (PW.pt (Rn (Z5 (Up (K':=K) rfl hu) (Zz (Z8 (K':=K) rfl) (pv 6) Zh (λ_ _=>rfl)) Yq (Ya _)) (Rn (Z5 Zhp (pv 5) Zh (Ya _)) (T4 (Z5 Zhr (Zz (Z8 (K':=K) rfl) (pv 6) Zh (λ_ _=>rfl)) Zh (Ya _))))))
 (Ze (Zv (i:=7) SC.nd rfl (Cg rfl) (Ye (Zal (K':=K) rfl) (pv 3) Yw (Yc (Zz (Z8 (K':=K) rfl) (pv 6) Zh (λ_ _=>rfl)))))
 (Zi (Yn (Ti (W3 (Zw Uc Sb rfl (Za (Zw Wi Vy rfl (Za (pv 5) (Za (pv 0) (Za (Z9 (Vf (K:=K) rfl) (by rfl) T.b_list Cv (Za (pv 2) Zd)) (Za (pv 7) Zd))))) (Za (Zw Wq Ts rfl (Za (pv 1) (Za (pv 7) (Za (pv 2) Zd)))) Zd)))))
 (Zi (Z0 Sq))
 Z1)))
 Z1)))))))
 (Zi (Z0 Sq))),λ_=>(Z2 (Ur (Zcj (Zb Zt Zo)) (s_g 5)
 (Z2 (Xb (P2 (s_b (Z6 (Zb (Z6 (Zb (Zf 5) (Zb (Zf 0) (Zb (s_cb Q7 (Zb (Zf 2) Zo)) (Zb (s_op s_ix (Zf 4) Zt) Zo))))) (Zb (Wk (Zb Wa (Zb (s_op s_ix (Zf 4) Zt) Zo))) Zo)))))
 (Yr s_bl)
 Yl)
 (Z2 (Yb (Z6 (Zb (Zf 1) (Zb (Zf 3) (Zb (Zf 2) Zo)))) (s_g 6))
 (Z2 (Xb (Yz (s_op s_eq (Zf 5) Zt))
 (Yb (Z6 (Zb (Zf 1) (Zb (Zf 3) (Zb (Zf 2) Zo)))) (s_g 6))
 Yl)
 (Z2 (Xb (P2 (s_b (Z6 (Zb (Z6 (Zb (Zf 5) (Zb (Zf 0) (Zb (s_cb Q7 (Zb (Zf 2) Zo)) (Zb (s_cb Q7 (Zb (Zf 3) Zo)) Zo))))) (Zb (Zf 6) Zo)))))
 (Yr s_bl)
 Yl)
 (Xb (Ze9 (Yz (s_op s_eq (s_op s_ix (Zf 6) Zt) Wa)) (Ze9 (Yz (s_op s_lt (Zf 5) Zt)) (Yz (s_op s_gt (s_op s_ix (Zf 6) Zt) Zt))))
 (Z2 (Yb (s_sl Zat (Zf 3) Uj (Vq (s_op s_ix (Zf 6) Zt))) (s_g 7))
 (Xb (P2 (s_b (Z6 (Zb (Z6 (Zb (Zf 5) (Zb (Zf 0) (Zb (s_cb Q7 (Zb (Zf 2) Zo)) (Zb (Zf 7) Zo))))) (Zb (Z6 (Zb (Zf 1) (Zb (Zf 7) (Zb (Zf 2) Zo)))) Zo)))))
 (Yr s_bl)
 Yl))
 Yl))))))
 (Yr s_bl)),λds M Kk hM hD h=>?_⟩
  let⟨f,b,c,d,e,zs,qs,way,way',ts,n,rfl,h⟩:=h;let⟨Fa,Bk,hd,hw,hc,⟨td,ok,w3,wq,l300⟩,⟨w3',fo⟩,k⟩:=h;let⟨ls,lg⟩:=Zcy wq;let okl:=lg.ok ok;let lw:=lg.1;let wok:=Zp3 td ok w3 wq l300;let nfo:∀{v:List (Str×Str)}{m:Str},(∀w∈v,w∈way)->¬ Y1 (zs.map (·.1)) v m:=λhv h=>by
   let⟨w,hw,no⟩:=h.not;exact no (wok.2.1 w (hv w hw))
  let lenx:∀{l:List Lg}{o:Wo},LgOk l->l.length<=3->IsWo l ts o->∀n,∀xs,o=.to xs->∀x,xs[2*n]?=some x->x.length<=20000:=λokl l3 wo n xs e x ex=>by
   subst e;exact Zam okl l3 l300 wo (Je _) ex
  exists 3,rfl,⟨nofun,nofun⟩,λi ρ M'=>∃v5 v6 v7:Option D,ρ=[some (.cell f),some (.cell b),some d,some e,some (.tup [.cell c,.str n]),v5,v6,v7]/\M<+:M',λ_ _ _ _ _=>trivial,⟨_,_,_,rfl,Jc _⟩,?_,?_
  .rintro i x ρ M1 hi rfl ⟨v5,v6,v7,rfl,p1⟩;let hi:i<3:=hi;rw[show(0:Int)+(i:Int)=(i:Int)from Mb _];let told:∀{M2:Mem}{dt dw:D}{v:List (Str×Str)}{Kk:K3},M<+:M2->lsOf M2 dt=some (ts.map .int)->lsOf M2 dw=some (v.map wyD)->v.length<=3->(∀m,Y1 (zs.map (·.1)) v m->∀M',M2<+:M'->Kk (.tup [.str Zhz,.str m]) M')->(∀l,Sh zs v l->∀(M':Mem)(o:Wo)(r:D),M2<+:M'->IsWo (wl (i==2) l) ts o->TD M' l.length (i==2) o r->Kk r M')->Zdd Zm [.int i,.cell f,dt,dw] M2 Kk:=λp2 ht hv lv k1 k2=>⟨i,f,_,_,zs,_,ts,rfl,Fa.pre p2,ht,hv,⟨(),lv,wok.2.2.1,l300⟩,k1,k2⟩;exists ·,·,·,_,·,(Yy (Yp p1 hd)).2.2,·,_,_,·,rfl,rfl,?_
   dsimp only[uNil];refine told p1 rfl (Y6 (Xv p1 hc)) w3' (λm hm M2 p2=>?_) (λl hl=>absurd fo ?_)
   rotate_left
   .intro h;let⟨w,hw,no⟩:=h.not;exact no (hl.mem w hw)
   let em:m=n:=by
    let h1:_=some m:=hm;let h2:_=some n:=fo;rw[h2]at h1;exact(Fv h1).symm
   subst em;exists ·,_,_,·,rfl,rfl,(show 2<=sizeLine by decide),_,·,.inl ⟨_,rfl,rfl⟩,·,iteF ?_;let p02:=p1.trans p2;exists ·,·,·,b,_,_,qs,way,ts,ls,rfl,Bk.pre p02,Yp p02 hw,Yp p02 hd,⟨ok,lg,w3,l300⟩,λM3 o3 r3 p3 wo3 du3=>?_;let p03:=p02.trans p3;refine g_nx ?_;dsimp only;refine Zgg (λρ' M'=>∃(o:Wo)(r:D),ρ'=[some (.cell f),some (.cell b),some d,some e,some (.tup [.cell c,.str m]),some (.int i),some r,v7]/\M<+:M'/\IsWo (wl (i==2) ls) ts o/\TD M' ls.length (i==2) o r) (λKn hn=>?_) ?_
   .exists ·,.inl ⟨_,rfl,_,rfl,?_⟩
    by_cases h2:i=2
    .subst h2;rw[show decide (((2:Nat):Int)=2)=true from rfl];refine iteT ⟨_,rfl,_,rfl,_,rfl,b,_,_,qs,way,ts,ls,rfl,Bk.pre p03,Yp p03 hw,Yp p03 hd,⟨ok,lg,w3,l300⟩,λM4 o4 r4 p4 wo4 du4=>hn _ _ ⟨o4,r4,rfl,p03.trans p4,wo4,du4⟩⟩
    .rw[show decide ((i:Int)=2)=false from Fu ()];let e2:(i==2)=false:=by simpa using h2
     rw[e2]at hn;exact iteF (hn _ _ ⟨o3,r3,rfl,p03,wo3,du3⟩)
   rintro _ M4 ⟨o,r,rfl,p4,wo,du⟩;exists ·,·,·,_,·,(Yy (Yp p4 hd)).2.2,·,_,·,(Yy (Yp p4 hw)).2.2,?_;dsimp only[uNil];refine told p4 rfl rfl w3 (λm' hm'=>absurd hm' (nfo λw hw=>hw)) (λl hl M5 o5 r5 p5 wo5 du5=>?_);let pm:=Zm6 (Za8 Fa.nd ok.1 td hl lg) (i==2);obtain rfl:o=o5:=wo.uniq (Zp1 okl _) (wo5.perm pm);let ll:l.length=ls.length:=by rw[hl.1,lw]
   rw[ll]at du5;let p05:=p4.trans p5;exists ·,_,·,.inr ⟨_,_,o,du5,du.pre p5,lenx (Zp1 okl _) (by rw[Zp2];lia) wo _⟩,·,iteF ?_;cases o with
   |to xs =>
    let⟨x,e1,rfl,_,_⟩:=du;exists ·,_,_,·,rfl,rfl,.inl ⟨_,rfl,_,rfl,?_⟩;rw[Fu nofun];exact iteF (iteF (.inl ⟨_,_,_,rfl,p05⟩))
   |«at» j =>
    obtain rfl:r=.tup [.str legS,.int ((if(i==2)then ls.length-1-j else j:Nat):Int)]:=du;exists ·,_,_,·,rfl,rfl,.inl ⟨_,rfl,_,rfl,?_⟩;rw[Ft rfl];refine iteT ?_
    by_cases h2:i=2
    .exists ·,_,·,rfl,·,?_;rw[show decide ((i:Int)<2)=false from Fu ()];exact iteF (iteF (.inl ⟨_,_,_,rfl,p05⟩))
    .let e2:(i==2)=false:=by simpa using h2
     rw[e2]at wo⊢;exists ·,_,·,rfl,·,?_;rw[show decide ((i:Int)<2)=true from Ft ()];refine iteT ?_;exists ·,_,_,·,rfl,rfl,_,·,rfl,·,ite2 (λh=>?_) (λh=>.inl ⟨_,_,_,rfl,p05⟩);exists ·,·,_,_,·,rfl,rfl,·,?_;refine Zt2 (Yp p05 hw) ?_;rw[show(((if false=true then ls.length-1-j else j:Nat)):Int)=(j:Int)from rfl,Zdf,Zjf];let hpt:∀w∈way.take j,w∈way:=λw hw=>Bl hw;let wqp:∀w∈way.take j,w.1∈qs.map (·.1)/\w.2∈qs.map (·.1):=λw hw=>wq w (hpt w hw);let w3p:(way.take j).length<=3:=by rw[Ji];lia
     let⟨lp,lgp⟩:=Zcy wqp;let oklp:=lgp.ok ok;let lwp:=lgp.1;exists ·,·,·,_,·,(Yy (Yp p05 hd)).2.2,·,?_;dsimp only[uNil];refine told p05 rfl (v:=way.take j) rfl w3p (λm' hm'=>absurd hm' (nfo hpt)) (λl6 hl6 M6 o6 r6 p6 wo6 du6=>?_);let p06:=p05.trans p6;exists ·,·,·,b,_,_,qs,way.take j,ts,lp,rfl,Bk.pre p06,rfl,Yp p06 hd,⟨ok,lgp,w3p,l300⟩,λM7 o7 r7 p7 wo7 du7=>?_;rw[e2]at wo6 du6;obtain rfl:o7=o6:=wo7.uniq oklp (wo6.perm (Za8 Fa.nd ok.1 td hl6 lgp));let ll6:l6.length=lp.length:=by rw[hl6.1,lwp]
     rw[ll6]at du6;exists _,·,.inr ⟨_,_,o7,du6.pre p7,du7,lenx oklp () wo7 _⟩,·,iteF (.inl ⟨_,_,_,rfl,p06.trans p7⟩)
  .rintro ρ M1 ⟨v5,v6,v7,rfl,p1⟩;exact .inl (k M1 p1)
open L3
abbrev spLaw(K:Cp)(Pt:Addr):Sp:=Zl3 K Pt lamP lamQ
theorem Jck(T:Txt mg)(Zb1:Mkr P w K mg base "Code" C 4 ["self","table"] (Py C Pt lamP lamQ))(Vl:Cal P w K mg base "_law_open" 1 ["_law_script","_law_place"] (spOf ⟨C,K⟩ Zsq))(Zj:Cal P w K mg base "_law_draw" 1 ["_law_hand","_law_many"] (spOf ⟨C,K⟩ Zjd))(Tc:Cal P w K mg base "_law_text" 2 ["_law_hand","_law_signs_here","_law_most"] (spOf ⟨C,K⟩ Zmw))(Ub:Cal P w K mg base "_law_names" 2 ["_law_hand"] (spOf ⟨C,K⟩ Zeo))(Vk:Cal P w K mg base "_law_tables" 3 ["_law_hand","_law_many","_law_longest"] (spOf ⟨C,K⟩ Zbp))(Vm:Cal P w K mg base "_law_family" 6 ["_law_names_here","_law_tables_here"] (spOf ⟨C,K⟩ (Zm1 Zm Pt lamP lamQ)))(Ue:Cal P w K mg base "_law_books" 1 ["_law_names_here","_law_tables_here"] (spOf ⟨C,K⟩ Zeq))(W1:Cal P w K mg base "_law_lacking" 2 ["_law_hand","_law_way","_law_strange"] (spOf ⟨C,K⟩ Zjc))(Ua:Cal P w K mg base "_law_right" 8 ["_law_family_here","_law_books_here","_law_text_here","_law_way","_law_spoilt"] (spOf ⟨C,K⟩ (Zen Zm))){f:Addr}(F:Fun K "law" "law" Znq f fd):FnOk P w K mg base CX0 10 f fd ["_law_script"] (spOf ⟨C,K⟩ (Zsr Pt lamP lamQ)):=by
 refine L3.Fun.ok3 F Dq (λds M K3 h=>?_) (λcdv A outer s H E hr=>?_)
 .let⟨ns,rfl,_⟩:=h;rfl
 .let SC:=Dq;let hu:=hr.units;let hu1:=X6 hr;let Zim:Room 5 _:=hr.mono nofun;let Sl:Room 1 _:=hr.mono nofun;let Zk:Room 1 _:=hr.mono nofun;let Zbc:Room 2 _:=hr.mono nofun;let Nx:Room 2 _:=hr.mono nofun;let Qz:Room 3 _:=hr.mono nofun;let Q0:Room 6 _:=hr.mono nofun;let Nz:Room 1 _:=hr.mono nofun;let Qf:Room 2 _:=hr.mono nofun;let Nw:Room 8 _:=hr.mono nofun;refine⟨_,_,(Ze (Zv (i:=1) SC.nd rfl (Cg rfl) (Zw Vl Sl rfl (Za (pv 0) (Za Zh Zd))))
 (Ze (Zv (i:=2) SC.nd rfl (Cg rfl) (Z3 (Y9 (K':=K) rfl) Zh (Zw Zj Zk rfl (Za (pv 1) (Za Zh Zd)))))
 (Ze (Zv (i:=3) SC.nd rfl (Cg rfl) (Zw Ub Nx rfl (Za (pv 1) Zd)))
 (Ze (Rp (Yv (Za (Ye (Zal (K':=K) rfl) (pv 3) Yw (Yc (pv 2))) (Za (Xk (Za (Zz (Z8 (K':=K) rfl) (pv 3) Zh (λ_ _=>rfl)) (Za (Z3 (Y9 (K':=K) rfl) (Zz (Z8 (K':=K) rfl) (pv 3) Zh (λ_ _=>rfl)) Yq) Zd))) Zd))) (Uv (n:=2) rfl (Yf (Zx (i:=4) SC.nd rfl (Ed rfl)) (Yf (Zx (i:=5) SC.nd rfl (Cg rfl)) Wu)) (by rfl)))
 (Ze (Yn (Z5 (Up (K':=K) rfl hu) (Zs (Xo (K:=K) rfl) (by rfl) T.b_len Fw (Za (Zz (Z8 (K':=K) rfl) (pv 3) Zh (λ_ _=>rfl)) Zd)) Zh (Ya _))
 (Zi (Rp (Ye (Zal (K':=K) rfl) (Zz (Z8 (K':=K) rfl) (pv 3) Zh (λ_ _=>rfl)) Yw (Yc Zh)) (Pe (pv 5) Zh Va)))
 Z1)
 (Ze (U3 (i:=5) SC.nd rfl rfl (T:=["_law_one"]) (cs:=[4]) rfl (CScope.ok (by kernel_rfl)) (X0 (pv 5)) (λ_ _ _ _=>(Zx (i:=0) (Wd (by kernel_rfl)) rfl (Cg rfl) (Ed rfl))) (λ_ _ _ _=>(P9 (Z5 (Zka (K':=K) rfl) (pv 0) (pv 1) rfl))) (λ_ _ _ _=>(pv 0)) (Xe nofun))
 (Ze (Zv (i:=6) SC.nd rfl (Cg rfl) (Zw Vk Qz rfl (Za (pv 1) (Za (pv 2) (Za (Zz (Z8 (K':=K) rfl) (Xk (Za Zh (Za Zh (Za Zh (Za Zh Zd))))) (Zw Zj Zk rfl (Za (pv 1) (Za Zh Zd))) (λ_ _=>rfl)) Zd)))))
 (Ze (Zv (i:=7) SC.nd rfl (Cg rfl) (Zw Vm Q0 rfl (Za (pv 4) (Za (pv 6) Zd))))
 (Ze (Zv (i:=8) SC.nd rfl (Cg rfl) (Zw Ue Nz rfl (Za (pv 4) (Za (pv 6) Zd))))
 (Ze (Y2 Cm rfl (Za1 rfl T.b_range (Za Zh (Za (Z3 (Y9 (K':=K) rfl) Zh (Zs (Ql rfl) (by rfl) T.b_max Hv (Za Zh (Za (Zs (Qk rfl) (by rfl) T.b_min K7 (Za (Zs (Xo (K:=K) rfl) (by rfl) T.b_len Fw (Za (pv 0) Zd)) (Za Zh Zd))) Zd)))) Zd))) (Zx (i:=9) SC.nd rfl (Cg rfl))
 (Ze (Zv (i:=1) SC.nd rfl (Cg rfl) (Zw Vl Sl rfl (Za (pv 0) (Za (pv 9) Zd))))
 (Ze (Zv (i:=10) SC.nd rfl (Cg rfl) (Xk Zd))
 (Ze (Y2 Cm rfl (Yi rfl T.b_range (Za (Z3 (Y9 (K':=K) rfl) Zh (Zw Zj Zk rfl (Za (pv 1) (Za Zh Zd)))) Zd)) (Zx (i:=11) SC.nd rfl (Cg rfl))
 (Zi (Vc (Nf C6 E7 E8 Tl (pv 10) (Za (Yv (Za (Zz (Z8 (K':=K) rfl) (pv 4) (Z3 Xf (Zw Zj Zk rfl (Za (pv 1) (Za Zh Zd))) (pv 2)) (λ_ _=>rfl)) (Za (Zz (Z8 (K':=K) rfl) (pv 4) (Z3 Xf (Zw Zj Zk rfl (Za (pv 1) (Za Zh Zd))) (pv 2)) (λ_ _=>rfl)) Zd))) Zd)))))
 (Ze (Zv (i:=12) SC.nd rfl (Cg rfl) (Zw Tc Zbc rfl (Za (pv 1) (Za (Zs (Po rfl) (by rfl) T.b_sorted Ki (Za (Wv hu1 (pv 8) (Zz (Z8 (K':=K) rfl) (Zz (Z8 (K':=K) rfl) (pv 10) (Z3 Zp5 (T6 W2 Zh) (Zw Zj Zk rfl (Za (pv 1) (Za Zh Zd)))) (λ_ _=>rfl)) Zh (λ_ _=>rfl)) (λ_ _=>rfl)) Zd)) (Za Zh Zd)))))
 (Ze (Yn (Z5 (Up (K':=K) rfl hu) (Zw Zj Zk rfl (Za (pv 1) (Za Zh Zd))) Zh (Ya _))
 (Zi (Vc (Nf C6 PySem.F.slot_list_insert PySem.F.type_list_insert Zh1 (pv 12) (Za (Zw Zj Zk rfl (Za (pv 1) (Za (Z3 (Y9 (K':=K) rfl) (Zs (Xo (K:=K) rfl) (by rfl) T.b_len Fw (Za (pv 12) Zd)) Zh) Zd))) (Za Zh Zd)))))
 Z1)
 (Ze (Zv (i:=13) SC.nd rfl (Cg rfl) (Zw W1 Qf rfl (Za (pv 1) (Za (pv 10) (Za (Z3 (Y9 (K':=K) rfl) (pv 5) (pv 5)) Zd)))))
 (Zi (Yn (Ti (W3 (Zw Ua Nw rfl (Za (pv 7) (Za (pv 8) (Za (pv 12) (Za (pv 10) (Za (pv 13) Zd))))))))
 (Zi (Z0 Sq))
 Z1)))))))))
 (Zi (Z0 Sq)))))))))))),λ_=>(Z2 (Yb (Z6 (Zb (Zf 0) (Zb Zt Zo))) (s_g 1))
 (Z2 (Yb (s_op Wt Zt (Z6 (Zb (Zf 1) (Zb Zt Zo)))) (s_g 2))
 (Z2 (Yb (Z6 (Zb (Zf 1) Zo)) (s_g 3))
 (Z2 (Yb (Wk (Zb (s_sl Zat (Zf 3) Uj (Vq (Zf 2))) (Zb (Zau (Zb (s_op s_ix (Zf 3) Zt) (Zb (s_op Wt (s_op s_ix (Zf 3) Zt) Wa) Zo))) Zo))) (Q9 (Xy (s_g 4) (Xy (s_g 5) Pa))))
 (Z2 (Xb (Yz (s_op s_eq (s_cb Uq (Zb (s_op s_ix (Zf 3) Zt) Zo)) Zt))
 (Yb (s_sl Zat (s_op s_ix (Zf 3) Zt) Uj (Vq Zt)) (Zav (Zf 5) Zt))
 Yl)
 (Z2 (Yb (Rj (s_il (Zf 5)) (s_g 0) (Yz (s_op Zkl (Zf 0) (Zf 1))) (Zf 0)) (s_g 5))
 (Z2 (Yb (Z6 (Zb (Zf 1) (Zb (Zf 2) (Zb (s_op s_ix (Zch (Zb Zt (Zb Zt (Zb Zt (Zb Zt Zo))))) (Z6 (Zb (Zf 1) (Zb Zt Zo)))) Zo)))) (s_g 6))
 (Z2 (Yb (Z6 (Zb (Zf 4) (Zb (Zf 6) Zo))) (s_g 7))
 (Z2 (Yb (Z6 (Zb (Zf 4) (Zb (Zf 6) Zo))) (s_g 8))
 (Z2 (Ur (Zq7 (Zb Zt (Zb (s_op Wt Zt (s_cb Zq3 (Zb Zt (Zb (s_cb Zl8 (Zb (s_cb Uq (Zb (Zf 0) Zo)) (Zb Zt Zo))) Zo)))) Zo))) (s_g 9)
 (Z2 (Yb (Z6 (Zb (Zf 0) (Zb (Zf 9) Zo))) (s_g 1))
 (Z2 (Yb (Zau Zo) (s_g 10))
 (Z2 (Ur (Zcj (Zb (s_op Wt Zt (Z6 (Zb (Zf 1) (Zb Zt Zo)))) Zo)) (s_g 11)
 (Pb (P6 (Zf 10) (Zb (Wk (Zb (s_op s_ix (Zf 4) (s_op Ze7 (Z6 (Zb (Zf 1) (Zb Zt Zo))) (Zf 2))) (Zb (s_op s_ix (Zf 4) (s_op Ze7 (Z6 (Zb (Zf 1) (Zb Zt Zo))) (Zf 2))) Zo))) Zo))))
 (Z2 (Yb (Z6 (Zb (Zf 1) (Zb (s_cb Znl (Zb (Uu (Zf 8) (s_op s_ix (s_op s_ix (Zf 10) (s_op Zt4 (s_un Ri Zt) (Z6 (Zb (Zf 1) (Zb Zt Zo))))) Zt)) Zo)) (Zb Zt Zo)))) (s_g 12))
 (Z2 (Xb (Yz (s_op s_eq (Z6 (Zb (Zf 1) (Zb Zt Zo))) Zt))
 (Pb (Zko (Zf 12) (Zb (Z6 (Zb (Zf 1) (Zb (s_op Wt (s_cb Uq (Zb (Zf 12) Zo)) Zt) Zo))) (Zb Zt Zo))))
 Yl)
 (Z2 (Yb (Z6 (Zb (Zf 1) (Zb (Zf 10) (Zb (s_op Wt (Zf 5) (Zf 5)) Zo)))) (s_g 13))
 (Xb (P2 (s_b (Z6 (Zb (Zf 7) (Zb (Zf 8) (Zb (Zf 12) (Zb (Zf 10) (Zb (Zf 13) Zo))))))))
 (Yr s_bl)
 Yl))))))))
 (Yr s_bl))))))))))),λds M Kk hM hD h=>?_⟩
  let⟨ns,rfl,h⟩:=h;let⟨rfl,hlen,k⟩:=h;refine⟨_,rfl,ns,0,rfl,⟨hlen,nofun,nofun⟩,?_⟩;let h0:([MO.tab Pt lamP lamQ]++[MO.hand])[0]?=some (.tab Pt lamP lamQ):=rfl;let h1:([MO.tab Pt lamP lamQ]++[MO.hand])[1]?=some .hand:=rfl;generalize [MO.tab Pt lamP lamQ]++[MO.hand]=M1 at h0 h1;refine⟨_,rfl,1,2,rfl,h1,⟨nofun,nofun⟩,λy y0 y1=>?_⟩;obtain⟨n,en,n2,n4⟩:∃n:Nat,2+y=(n:Int)/\2<=n/\n<=3:=⟨(2+y).toNat,(),(),()⟩;dsimp only[add3];rw[en];refine⟨_,rfl,1,rfl,h1,λzs lz nd okz=>?_⟩;obtain⟨z0,z1,z2,z3,rfl⟩:∃z0 z1 z2 z3,zs=[z0,z1,z2,z3]:=by
   match zs,lz with
   |[a,b,c,d],_=>exact⟨a,b,c,d,rfl⟩
  exists ·,·,·,_,(Yy Xd).2.1,?_;rw[Zdf,Zjf];let ln:([z0,z1,z2,z3].take n).length=n:=by rw[Ji];show min n 4=n;lia
  let ndn:([z0,z1,z2,z3].take n).Nodup:=nd.sublist (List.take_sublist _ _);let okn:∀z∈[z0,z1,z2,z3].take n,z.length<=8/\K4 z=true:=λz hz=>okz z (Bl hz);let no3:z3∉[z0,z1,z2,z3].take n:=λh=>by
   let h3:z3∈[z0,z1,z2]:=by
    let:n=2\/n=3:=by lia
    rcases this with rfl|rfl
    .exact Bl (i:=2) (by simpa using h)
    .exact h
   rw[show [z0,z1,z2,z3]=[z0,z1,z2]++[z3]from rfl,By]at nd;exact nd.2.2 z3 h3 z3 (Jm.mpr rfl) rfl
  let l3:z3.length<=8:=(okz z3 (by simp)).1;generalize [z0,z1,z2,z3].take n=nms at ln ndn okn no3;let h02:∀m,((M1++[MO.lst ([z0,z1,z2,z3].map .str)])++[m])[0]?=some (.tab Pt lamP lamQ):=λm=>Yh (Yh h0);let h12:∀m,((M1++[MO.lst ([z0,z1,z2,z3].map .str)])++[m])[1]?=some .hand:=λm=>Yh (Yh h1);let hz:∀m,((M1++[MO.lst ([z0,z1,z2,z3].map .str)])++[m])[M1.length]?=some (.lst ([z0,z1,z2,z3].map .str)):=λm=>Yh Yk;let hz0:(M1++[MO.lst ([z0,z1,z2,z3].map .str)])[M1.length]?=some (.lst ([z0,z1,z2,z3].map .str)):=Yk;generalize M1++[MO.lst ([z0,z1,z2,z3].map .str)]=M2 at h02 h12 hz hz0;generalize M1.length=cz at hz hz0
  let at3:L2.atI ([z0,z1,z2,z3].map D.str) 3=some (.str z3):=Zjz (j:=3) rfl rfl;exists ·,_,_,_,(Yy (Y6 hz0)).2.2,rfl,at3,?_;exists ·,_,_,_,(Yy (Y6 hz0)).2.2,rfl,at3,?_;exists Zp (show z3.length+1<=100000 by lia),(show 2<=sizeLine by decide),(show 2<=sizeLine by decide),?_;exists ·,rfl,_,·,_,·,rfl,?_;dsimp only;refine Zgg (λρ' M'=>∃x:Str,ρ'=[some (.frz (ns.map .int)),some (.cell 1),some (.int n),some (.cell cz),some (.lst (nms.map .str)),some (.cell M2.length),none,none,none,none,none,none,none,none]/\M2++[.lst [.str z3,.str x]]=M') (λKn hn=>?_) ?_
  .exists ·,_,_,_,(Yy (Y6 (hz _))).2.2,rfl,at3,?_;exists Zp (show z3.length<=100000 by lia),.inl ⟨_,rfl,_,rfl,ite2 (λh=>?_) (λh=>hn _ _ ⟨_,rfl,rfl⟩)⟩;exists ·,_,_,_,(Yy (Y6 (hz _))).2.2,rfl,at3,·,Zp (show z3.length<=100000 by lia),?_;exists ·,M2.length,_,1,1,rfl,rfl,Yk,rfl,?_;rw[Xj];exact hn _ _ ⟨_,rfl,rfl⟩
  rintro _ _ ⟨x,rfl,rfl⟩;exists ·,_,(Yy Xd).2.1,(show 2<=sizeLine by decide),λj ys M'=>M2++[.lst [.str z3,.str x]]=M'/\ys=(([z3,x].take j).filter λx=>decide (x∉nms)).map D.str,λ_ _ _ _ h=>(by rw[<-h.1];exact(Yy Xd).2.1),⟨rfl,rfl⟩,?_,?_
  .rintro j y ys _ hj hy ⟨rfl,rfl⟩;obtain⟨z,rfl,ez⟩:∃z,y=D.str z/\[z3,x][j]?=some z:=by
    let hy:[D.str z3,D.str x][j]?=some y:=hy
    match j,hy with
    |0,e=>exact⟨_,(Fv e).symm,rfl⟩
    |1,e=>exact⟨_,(Fv e).symm,rfl⟩
   exists ·,·,_,nms,rfl,rfl,·,?_
   by_cases hz:z∈nms
   .rw[show(if true=true then !decide (z∈nms)else decide (z∈nms))=false by simp[hz]];refine iteF ⟨rfl,?_⟩;rw[B8,ez,Bd,Jg];simp[hz]
   .rw[show(if true=true then !decide (z∈nms)else decide (z∈nms))=true by simp[hz]];refine iteT ⟨_,rfl,rfl,?_⟩;rw[B8,ez,Bd,Jg];simp[hz]
  rintro ys _ ⟨rfl,rfl⟩;let sr1:1<=([z3,x].filter λx=>decide (x∉nms)).length:=List.length_pos_of_mem (a:=z3) (Bv.mpr ⟨by simp,Ft no3⟩);let sr2:([z3,x].filter λx=>decide (x∉nms)).length<=2:=K8 _ _;let srn:∀y∈([z3,x].filter λx=>decide (x∉nms)),y∉nms:=λy hy=>of_decide_eq_true (Bv.mp hy).2;rw[show((([z3,x].take [D.str z3,D.str x].length).filter λx=>decide (x∉nms)).map D.str)=(([z3,x].filter λx=>decide (x∉nms)).map D.str)from rfl];generalize ([z3,x].filter λx=>decide (x∉nms))=sr at sr1 sr2 srn;let h02:=h02 (.lst [.str z3,.str x]);let h12:=h12 (.lst [.str z3,.str x])
  generalize M2++[MO.lst [.str z3,.str x]]=M2' at h02 h12;clear hz hz0;refine⟨_,rfl,_,rfl,(show 4<=sizeLine by decide),_,rfl,1,4,rfl,h12,⟨nofun,nofun⟩,λq q0 q1=>?_⟩;obtain⟨lg,elg,lg1,lg4⟩:∃lg:Int,L2.atI [D.int 2,D.int 2,D.int 2,D.int 4] q=some (.int lg)/\1<=lg/\lg<=4:=by
   let:q=0\/q=1\/q=2\/q=3:=by lia
   rcases this with rfl|rfl|rfl|rfl
   .exact⟨2,rfl,nofun,nofun⟩
   .exact⟨2,rfl,nofun,nofun⟩
   .exact⟨2,rfl,nofun,nofun⟩
   .exact⟨4,rfl,nofun,nofun⟩
  refine⟨_,_,_,rfl,rfl,elg,1,n,lg,rfl,h12,⟨(),(),lg1,lg4⟩,λLs lL okL=>?_⟩;let h03:(M2'++[MO.lst (Ls.map tbD)])[0]?=some (.tab Pt lamP lamQ):=Yh h02;let hT3:(M2'++[MO.lst (Ls.map tbD)])[M2'.length]?=some (.lst (Ls.map tbD)):=Yk;generalize M2'++[MO.lst (Ls.map tbD)]=M3 at h03 hT3;generalize M2'.length=ct at hT3;refine⟨_,rfl,_,rfl,0,_,_,nms,Ls,rfl,h03,rfl,Y6 hT3,⟨ndn,(),λz hz=>(okn z hz).1,okL⟩,λM4 f1 zs1 p4 lf1 F1 t1=>?_⟩;refine⟨_,rfl,_,rfl,_,_,nms,Ls,rfl,rfl,Yp p4 (Y6 hT3),⟨ndn,(),okL⟩,λM7 b1 p6 lb1 B1=>?_⟩;let F1:=F1.pre p6;let zok:NtOk (nms.zip Ls)/\(nms.zip Ls).map (·.1)=nms:=by
   let e:(nms.zip Ls).map (·.1)=nms:=List.map_fst_zip ();exists⟨by rw[e];exact ndn,by rw[Bb];lia,λq hq=>?_⟩,e;let:=Lm hq;exists okL _ this.2,(okn _ this.1).2
  let⟨okq,enq⟩:=zok;generalize nms.zip Ls=qs at okq enq t1 B1;refine⟨_,rfl,_,rfl,_,_,rfl,_,_,rfl,?_⟩;dsimp only[add3];let lnm:(ns.map D.int).length=ns.length:=Jb _;obtain⟨mx,emx,mx8,mx24⟩:∃mx:Int,(if(if(24:Int)<((ns.map D.int).length:Int)then(24:Int)else((ns.map D.int).length:Int)) > 8 then(if(24:Int)<((ns.map D.int).length:Int)then(24:Int)else((ns.map D.int).length:Int))else 8)=mx/\8<=mx/\mx<=24:=⟨_,rfl,by split<;>split<;>lia,by split<;>split<;>lia⟩;rw[emx];let znm:zs1.map (·.1)=nms:=by
   let:zs1.map (·.1)=qs.map (·.1):=by
    apply Kz
    intro i;rw[Jv,Jv]
    by_cases hi:i<zs1.length
    .let hi':i<qs.length:=by rw[<-t1.1];exact hi
     let:=(t1.2 i _ _ (Ja hi) (Ja hi')).1;rw[Ja hi,Ja hi'];exact congrArg some this
    .rw[Bj (),Bj (by rw[<-t1.1];lia)];rfl
   rw[this,enq]
  exists 1,1+mx,rfl,⟨(),(),(),()⟩,λi ρ M'=>∃v1 v9 v10 v11 v12 v13:Option D,ρ=[some (.frz (ns.map .int)),v1,some (.int n),some (.cell cz),some (.lst (nms.map .str)),some (.lst (sr.map .str)),some (.cell ct),some (.cell f1),some (.cell b1),v9,v10,v11,v12,v13]/\M7<+:M',λ_ _ _ _ _=>trivial,⟨_,_,_,_,_,_,rfl,Jc _⟩,?_,?_
  .clear nd okz no3 l3 elg lg1 lg4 lL okL h03 hT3 p4 lf1 p6 lb1 okn ndn emx q0 q1 y0 y1 en lnm h0 h1 h02 h12;rintro i x ρ M8 hi rfl ⟨v1,v9,v10,v11,v12,v13,rfl,p8⟩;let hi:i<(1+mx-1).toNat:=hi;exists ·,·,ns,1+(i:Int),rfl,⟨hlen,(),()⟩,?_;let p9:M7<+:M8++[MO.hand]:=p8.trans ⟨_,rfl⟩;let h9:(M8++[MO.hand])[M8.length]?=some .hand:=Yk;generalize M8.length=hh at h9;generalize M8++[MO.hand]=M9 at p9 h9;let h9m:∀m:MO,(M9++[m])[hh]?=some .hand:=λm=>Yh h9;exists Gf _,?_;exists ·,hh,3,rfl,h9m _,⟨nofun,nofun⟩,λr r0 r1=>?_;exists 1+r,rfl,⟨(),()⟩,λj ρ M'=>∃(wy:List (Str×Str))(v11:Option D),ρ=[some (.frz (ns.map .int)),some (.cell hh),some (.int n),some (.cell cz),some (.lst (nms.map .str)),some (.lst (sr.map .str)),some (.cell ct),some (.cell f1),some (.cell b1),some (.int (1+(i:Int))),some (.cell M9.length),v11,v12,v13]/\M9++[.lst (wy.map wyD)]=M'/\wy.length=j/\∀w∈wy,w.1∈nms/\w.2∈nms,λ_ _ _ _ _=>trivial,⟨[],_,rfl,rfl,rfl,λ_ h=>nomatch h⟩,?_,?_
   .rintro j x ρ _ hj rfl ⟨wy,v11,rfl,rfl,lw,hw⟩;let hj:j<(1+r).toNat:=hj;exists ·,Rv Xd,?_;exists ·,·,hh,60,rfl,h9m _,⟨nofun,nofun⟩,λu u0 u1=>⟨_,rfl,_,_,rfl,rfl,(),?_⟩;let⟨a,ea,ha⟩:=Zh3 u (n:=n) ();dsimp only;rw[ea];exists _,_,·,rfl,Wh (j:=a) rfl (),?_;exists ·,·,hh,60,rfl,h9m _,⟨nofun,nofun⟩,λu' u0' u1'=>⟨_,rfl,_,_,rfl,rfl,(),?_⟩;let⟨a',ea',ha'⟩:=Zh3 u' (n:=n) ();dsimp only;rw[ea'];exists _,_,·,rfl,Wh (j:=a') rfl (),?_;exists(show 2<=sizeLine by decide),M9.length,_,·,rfl,Yk,?_,?_
    .rw[Jb];exact Bc (by lia:wy.length<=10) nofun
    rw[Xj];refine .inl ⟨wy++[(nms[a],nms[a'])],_,rfl,by rw[Jg];rfl,by rw[Jd,lw];rfl,λw hw'=>?_⟩;rcases Ga.mp hw' with z|z
    .exact hw w z
    .rw[Jm.mp z];exists Jr _,Jr _
   rintro ρ _ ⟨wy,v11',rfl,rfl,lw,hw⟩;let lw:wy.length=(1+r).toNat:=lw;let hw0:0<wy.length:=by lia
   let lw3:wy.length<=3:=by lia
   let p10:M7<+:M9++[MO.lst (wy.map wyD)]:=p9.trans ⟨_,rfl⟩;let h10:(M9++[MO.lst (wy.map wyD)])[hh]?=some .hand:=h9m _;let w10:(M9++[MO.lst (wy.map wyD)])[M9.length]?=some (.lst (wy.map wyD)):=Yk;generalize M9++[MO.lst (wy.map wyD)]=M10 at p10 h10 w10;generalize M9.length=cw at w10;let wq:∀w∈wy,w.1∈qs.map (·.1)/\w.2∈qs.map (·.1):=by rw[enq];exact hw
   refine⟨_,rfl,_,rfl,_,rfl,1,rfl,_,rfl,hh,2,rfl,h10,⟨nofun,nofun⟩,λb b0 b1'=>?_⟩;obtain⟨a,hwa,ata⟩:∃(a:Nat)(h:a<wy.length),L2.atI (wy.map wyD) (-1*b)=some (wyD wy[a]):=by
    let:b=0\/b=1:=by lia
    rcases this with rfl|rfl
    .exists 0,hw0,Wh (j:=0) rfl hw0
    .exists wy.length-1,(),?_;show L2.atI (wy.map wyD) (-1)=_;rw[N8 (n:=wy.length-1) (by rw[Jb];lia),Jv,Ja ()];rfl
   obtain⟨q',hq',eq'⟩:∃q∈qs,q.1=wy[a].1:=Jp.mp (wq _ (Jr hwa)).1;let⟨cc,dg,mc⟩:=(B1.pre p10).get okq.1 hq';rw[eq']at dg;let tbq:=(okq.2.2 _ hq').1;exists .inl ⟨nofun,nofun⟩,_,_,_,(Yy (Y6 w10)).2.2,rfl,ata,_,_,·,rfl,rfl,_,dg,?_;exists cc,_,q'.2.map (·.1),rfl,mc,by rw[Gm,Gm];rfl,by rw[Jb];exact tbq.2.1,λss pm pw=>?_;exists hh,ss,3,rfl,h10,⟨nofun,nofun⟩,λts hts lts=>?_;let h10m:∀m:MO,(M10++[m])[hh]?=some .hand:=λm=>Yh h10;refine g_nx ?_;dsimp only;refine Zgg (λρ' M'=>∃ts:List Int,ρ'=[some (.frz (ns.map .int)),some (.cell hh),some (.int n),some (.cell cz),some (.lst (nms.map .str)),some (.lst (sr.map .str)),some (.cell ct),some (.cell f1),some (.cell b1),some (.int (1+(i:Int))),some (.cell cw),v11',some (.cell M10.length),v13]/\M10++[.lst (ts.map .int)]=M'/\ts.length<=4) (λKn hn=>?_) ?_
   .exists ·,hh,8,rfl,h10m _,⟨nofun,nofun⟩,λu u0 u1=>.inl ⟨_,rfl,_,rfl,ite2 (λh=>?_) (λh=>hn _ _ ⟨ts,rfl,rfl,()⟩)⟩;exists ·,Rv Xd,·,·,?_;dsimp only[uNil];refine Sk Xd ?_;let ltm:(ts.map D.int).length=ts.length:=Jb _;exists hh,·,h10m _,⟨(),()⟩,λm m0 m1=>?_;let⟨m',rfl⟩:=Gh m0;exists M10.length,_,m',.int 7,rfl,rfl,Yk,(),(),?_;rw[Xj];refine hn _ _ ⟨ts.take m'++[7]++ts.drop m',rfl,?_,?_⟩
    .rw[Jg,Jg,Bs,B0];rfl
    .rw[Jd,Jd,Ji,J8];show _+1+_<=_;lia
   clear hts lts;rintro _ _ ⟨ts,rfl,rfl,lts⟩;let p11:M7<+:M10++[MO.lst (ts.map .int)]:=p10.trans ⟨_,rfl⟩;let h11:(M10++[MO.lst (ts.map .int)])[hh]?=some .hand:=h10m _;let w11:(M10++[MO.lst (ts.map .int)])[cw]?=some (.lst (wy.map wyD)):=Yh w10;let t11:(M10++[MO.lst (ts.map .int)])[M10.length]?=some (.lst (ts.map .int)):=Yk;generalize M10++[MO.lst (ts.map .int)]=M11 at p11 h11 w11 t11;generalize M10.length=cx at t11;let lsr:(sr.map D.str).length=sr.length:=Jb _;exists ·,·,·,·,_,·,rfl,Zp (),?_;rw[<-Jg];exists hh,_,wy,sr++sr,rfl,h11,Y6 w11,⟨hw0,lw3,by rw[Jd];lia,by rw[Jd];lia⟩,λM12 c12 wy' n12 p12 w12 lw' hm' hd'=>?_
   let p712:=p11.trans p12;let fo:Y1 (zs1.map (·.1)) wy' n12:=by
    unfold Y1;rw[<-hd',znm];refine congrArg List.head? (List.filter_congr λx hx=>?_);rw[decide_eq_decide]
    constructor
    .intro no;rcases hm' x hx with q|q
     .let⟨w,hw',e⟩:=Ve.mp q;let:=hw w hw';rcases e with rfl|rfl
      .exact absurd this.1 no
      .exact absurd this.2 no
     .exact q
    .intro hs;rcases Ga.mp hs with q|q
     .exact srn x q
     .exact srn x q
   exists ·,·,·,·,·,f1,b1,c12,_,_,zs1,qs,wy,wy',ts,n12,rfl,F1.pre p712,B1.pre p712,Yp p12 (Y6 t11),Yp p12 (Y6 w11),w12,⟨t1,okq,lw3,wq,()⟩,⟨(),fo⟩,λM13 p13=>⟨_,rfl,iteF (.inl ⟨_,_,_,_,_,_,rfl,p712.trans p13⟩)⟩
  .rintro ρ M8 ⟨v1,v9,v10,v11,v12,v13,rfl,p8⟩;exact .inl (k _)
end
def all_mk{l:Jh0}{w:Ct}{fa:Addr}(X:K.In h)(G:h.Ns mainGlobals mg)(hfa:mg "law"=some (.ref fa))(aC:Jgb K mainGlobals "Code"=some (some (.ref C)))(gx_NoSign:Jgb K mainGlobals "NoSign"=some (some (.ref Z7)))(gx_NoReading:Jgb K mainGlobals "NoReading"=some (some (.ref Zy)))(gx_NoWay:Jgb K mainGlobals "NoWay"=some (some (.ref Zu)))(gx_NoName:Jgb K mainGlobals "NoName"=some (some (.ref Zq)))(gx_SkewError:Jgb K mainGlobals "SkewError"=some (some (.ref Ys)))(gx_Family:Jgb K mainGlobals "Family"=some (some (.ref Zm)))(gx_Taken:Jgb K mainGlobals "Taken"=some (some (.ref V1)))(h0:FnG K "_law_draw" Jbt f0 d0)(h1:FnG K "_law_open" Jbx f1 d1)(h2:FnG K "_law_bytes" D7 f2 d2)(h3:FnG K "_law_words" Dp f3 d3)(h4:FnG K "_law_signs" De f4 d4)(h5:FnG K "_law_table" F3 f5 d5)(h6:FnG K "_law_text" Jby f6 d6)(h7:FnG K "odds_between" Ws f7 d7)(h8:FnG K "fault" Zck f8 d8)(h9:FnG K "refuse_fault" Wr f9 d9)(h10:FnG K "beginnings" Vs f10 d10)(a11:Cs K (.ref C) "__init__"=some (some (.ref f11)))(l11:K.lookup f11=some ⟨oc11,od11,.func (Jdk "__init__" "Code.__init__" (Wf Z4) (Y8 Z4) (Zn Z4) .none kV11 dc11 pm11 an11 (.ref c) ct11),sl11⟩)(c11:Jd8 K (.ref c) "Code.__init__"=true)(k11:Ja3 K (.ref f11)=true)(n11:W.isFn K (.ref f11)=true)(h12:MtG K C "word" "Code.word" U1 f12 d12)(h13:MtG K C "sign" "Code.sign" U2 f13 d13)(h14:MtG K Z7 "__init__" "NoSign.__init__" Xp f14 d14)(h15:MtG K Zy "__init__" "NoReading.__init__" Y7 f15 d15)(h16:MtG K Zu "__init__" "NoWay.__init__" Xz f16 d16)(h17:MtG K Zq "__init__" "NoName.__init__" Xq f17 d17)(h18:FnG K "write" Zce f18 d18)(h19:FnG K "word_at" Rh f19 d19)(h20:FnG K "read" Zgu f20 d20)(h21:FnG K "_law_names" Dz f21 d21)(h22:FnG K "_law_tables" Jam f22 d22)(h23:MtG K Zm "__init__" "Family.__init__" Xr f23 d23)(h24:MtG K Zm "add" "Family.add" Vt f24 d24)(h25:MtG K Zm "code" "Family.code" Vb f25 d25)(h26:FnG K "_law_family" Jca f26 d26)(h27:FnG K "_law_books" Jaz f27 d27)(h28:FnG K "_law_go" Jbc f28 d28)(h29:FnG K "_law_same" Jbh f29 d29)(h30:FnG K "leg_codes" U0 f30 d30)(h31:FnG K "gone" Zgw f31 d31)(h32:FnG K "trail" Zcg f32 d32)(h33:FnG K "astray" P5 f33 d33)(h34:FnG K "mended" P3 f34 d34)(h35:FnG K "_law_forth" Jbk f35 d35)(h36:FnG K "_law_back" Jbi f36 d36)(h37:FnG K "_law_told" Jag f37 d37)(h38:FnG K "_law_is" Jab f38 d38)(h39:FnG K "_law_lacking" Jbu f39 d39)(h40:FnG K "_law_right" Dh f40 d40)(h41:FnG K "law" Znq f41 d41)(xc_NoSign:XCl K Z7 f14)(xin_NoSign:L2.Sr K Z7=some (some (.ref f14)))(xna_at_NoSign:Cs K (.ref Z7) "at"=some none)(xc_NoReading:XCl K Zy f15)(xin_NoReading:L2.Sr K Zy=some (some (.ref f15)))(xna_at_NoReading:Cs K (.ref Zy) "at"=some none)(xc_NoWay:XCl K Zu f16)(xin_NoWay:L2.Sr K Zu=some (some (.ref f16)))(xna_leg_NoWay:Cs K (.ref Zu) "leg"=some none)(xc_NoName:XCl K Zq f17)(xin_NoName:L2.Sr K Zq=some (some (.ref f17)))(xna_name_NoName:Cs K (.ref Zq) "name"=some none)(xca_SkewError:CaG K Ys)(xca_NoWay:CaG K Zu)(xca_NoSign:CaG K Z7)(xca_NoReading:CaG K Zy)(mss:Ej K Z7 (.ref Z7)=some true)(msr:Ej K Z7 (.ref Zy)=some false)(mrs:Ej K Zy (.ref Z7)=some false)(mrr:Ej K Zy (.ref Zy)=some true)(mws:Ej K Zu (.ref Ys)=some true)(mns:Ej K Zq (.ref Ys)=some true)(kww:Eb K (.ref Zu) (.ref Zu)=some true)(kwn:Eb K (.ref Zu) (.ref Zq)=some false)(knn:Eb K (.ref Zq) (.ref Zq)=some true)(knw:Eb K (.ref Zq) (.ref Zu)=some false)(kwv:Eb K (.ref Zu) (.type "ValueError")=some true)(knv:Eb K (.ref Zq) (.type "ValueError")=some true)(kwa:W.kitAny K (.ref Zu) ([Zy,Z7,V1].map Cb)=some false)(kna:W.kitAny K (.ref Zq) ([Zy,Z7,V1].map Cb)=some false)(cl_Family:Cls K Zm)(mk_Family:MkG K Zm)(na_codes_by_name_Family:Cs K (.ref Zm) "codes_by_name"=some none)(na_marks_by_name_Family:Cs K (.ref Zm) "marks_by_name"=some none)(hd:Jex K c Pt=true)(cl:Cls K C)(mk:MkG K C)(y_pairs:Cs K (.ref C) "pairs"=some none)(y_words_by_sign:Cs K (.ref C) "words_by_sign"=some none)(y_signs_by_word:Cs K (.ref C) "signs_by_word"=some none)(y_begun:Cs K (.ref C) "begun"=some none)(y_word_sizes:Cs K (.ref C) "word_sizes"=some none)(z:Zml K ["len","abs","max","min","isinstance","all","any","range","int","str","bool","tuple","list","dict","sorted","enumerate","zip","ValueError"]=true)
   :∃fd:L8,(∃c,Jex K c Pt=true)/\(∀(s:Ca)(v:Value),Jeq s fd ⟨[v],[]⟩ [("_law_script",v)])/\∀base:Heap,K.In base->base.Ns mainGlobals mg->Bm mg base->FnOk l.prog w K mg base CX0 10 fa fd ["_law_script"] (spLaw K Pt):=by
  let e:=hfa.symm.trans (W.mg_of X G h41.g);cases e;let T:Txt mg:=⟨Xm X G z 0 rfl,Xm X G z 1 rfl,Xm X G z 2 rfl,Xm X G z 3 rfl,Xm X G z 4 rfl,Xm X G z 5 rfl,Xm X G z 6 rfl,Xm X G z 7 rfl,Xm X G z 8 rfl,Xm X G z 9 rfl,Xm X G z 10 rfl,Xm X G z 11 rfl,Xm X G z 12 rfl,Xm X G z 13 rfl,Xm X G z 14 rfl,Xm X G z 15 rfl,Xm X G z 16 rfl,Xm X G z 17 rfl⟩;let CT:CodeT K C:=⟨cl,y_pairs,y_words_by_sign,y_signs_by_word,y_begun,y_word_sizes⟩;let F11:=Zis (st:=Z4) l11 c11 k11;let b11:=F11.binds (ps:=["self","table"]) λ_ _ _ _ _ _=>us2 λ_ _=>rfl;let bl:∀(s:Ca)(v:Value),Jeq s d41 ⟨[v],[]⟩ [("_law_script",v)]:=by
    let⟨_,_,_,_,_,_,_,_,_,rfl,_,_⟩:=h41.F.ex;exact λs v=>.of_eq rfl
  exists d41,⟨c,hd⟩,bl,λbase kb _ hBm=>?_;let Y:Tk l.prog w K mg base:=⟨λe=>W.mg_of X G e⟩;let hCd:=Jho kb hd;let Ra:=Y.m gx_NoSign;let Vh:=Y.m gx_NoReading;let Qs:=Y.m gx_NoWay;let Rb:=Y.m gx_NoName;let Zdm:=Y.m gx_SkewError;let Ztb:=Y.m gx_Family;let Zdl:=Y.m gx_Taken;let Uf:Cau K mg "SkewError" Ys:=⟨Zdm,xca_SkewError.t,xca_SkewError.b⟩;let Ztc:Cau K mg "NoWay" Zu:=⟨Qs,xca_NoWay.t,xca_NoWay.b⟩;let Qv:Cau K mg "NoSign" Z7:=⟨Ra,xca_NoSign.t,xca_NoSign.b⟩;let Ug:Cau K mg "NoReading" Zy:=⟨Vh,xca_NoReading.t,xca_NoReading.b⟩;let Zj:=X2 Y h0 (D3 T  h0.F);let Vi:=L3.Cal.imp Zj λ_ _ _ _ h=>L3.Zs8 (C:=⟨C,K⟩) h
  let Vl:=X2 Y h1 (Dx T  h1.F);let Zdp:=L3.Cal.imp Vl λ_ _ _ _ h=>L3.Zs7 (C:=⟨C,K⟩) h;let Ud:=X2 Y h2 (Fz T Zj h2.F);let Zb5:=L3.Cal.imp Ud λ_ _ _ _ h=>L3.Zpt (C:=⟨C,K⟩) h;let V7:=X2 Y h3 (D4 T Zj h3.F);let Zb2:=L3.Cal.imp V7 λ_ _ _ _ h=>L3.Zpo (C:=⟨C,K⟩) h;let V9:=X2 Y h4 (Jaq T Zj h4.F);let Zb4:=L3.Cal.imp V9 λ_ _ _ _ h=>L3.Zpr (C:=⟨C,K⟩) h;let V8:=X2 Y h5 (Dv T Zj h5.F);let Zb3:=L3.Cal.imp V8 λ_ _ _ _ h=>L3.Zpq (C:=⟨C,K⟩) h;let Tc:=X2 Y h6 (Jar T Zj h6.F);let Zdo:=L3.Cal.imp Tc λ_ _ _ _ h=>L3.Zpp (C:=⟨C,K⟩) h;let W0:=X2 Y h7 (Jbv T  h7.F);let Zdr:=X2 Y h8 (Jau T W0 h8.F)
  let Wz:=X2 Y h9 (Jal T Zdr h9.F);let V6:=X2 Y h10 (F9 T  h10.F);let Zb1:Mkr l.prog w K mg base "Code" C 4 _ _:=⟨f11,_,⟨mk.m,a11,n11,mk.k⟩,Jay T CT hCd hBm Wz V6 l11 c11,Y.m aC,b11⟩;let Zey:=Zoo Y cl h12 (Jbz T CT  h12.F);let Zur:=L3.Met.imp Zey λ_ _ _ _ h=>L3.Zs6 (C:=⟨C,K⟩) h;let Ps:=Zoo Y cl h13 (Df T CT  h13.F);let Qq:=rx_g Y xc_NoSign xin_NoSign h14 (Jbr T xc_NoSign xna_at_NoSign h14.F) gx_NoSign;let V3:=rx_g Y xc_NoReading xin_NoReading h15 (Jcl T xc_NoReading xna_at_NoReading h15.F) gx_NoReading;let Uo:=rx_g Y xc_NoWay xin_NoWay h16 (Jan T xc_NoWay xna_leg_NoWay h16.F) gx_NoWay
  let Qr:=rx_g Y xc_NoName xin_NoName h17 (Jcb T xc_NoName xna_name_NoName h17.F) gx_NoName;let Zdq:=Pp Y h18 (Jbb T Zey Qq h18.F);let Zpw:=L3.CalE.imp Zdq λ_ _ _ _ h=>L3.Zlt (Cn:=Z7) (C:=⟨C,K⟩) h;let Qu:=X2 Y h19 (Jac T CT Ps h19.F);let Zj3:=Pp Y h20 (Jci T Ps Qu V3 h20.F);let Zs9:=L3.CalE.imp Zj3 λ_ _ _ _ h=>L3.Zps (Cr:=Zy) (C:=⟨C,K⟩) h;let Ub:=X2 Y h21 (Dj (C:=C) T Vi h21.F);let Vk:=X2 Y h22 (Jbf (C:=C) T Vi Zb5 Zb2 Zb4 Zb3 h22.F);let Zac:=Zui Y mk_Family h23 (Dd T (C:=C) cl_Family na_codes_by_name_Family na_marks_by_name_Family  h23.F) gx_Family;let Zpv:=Zoo Y cl_Family h24 (D6 T (C:=C) cl_Family na_codes_by_name_Family na_marks_by_name_Family  h24.F)
  let Zez:=Zrx Y cl_Family h25 (Du T (C:=C) cl_Family na_codes_by_name_Family na_marks_by_name_Family Qr h25.F);let Vm:=X2 Y h26 (Jco (C:=C) T Zb1 Zac Zpv h26.F);let Ue:=X2 Y h27 (Dn (C:=C) T  h27.F);let W8:=X2 Y h28 (Ds (C:=C) T  h28.F);let Td:=X2 Y h29 (D9 (C:=C) T  h29.F);let Xu:=Pp Y h30 (Jbg (C:=C) T Zez h30.F);let Pu:=X2 Y h31 (Jak (C:=C) T Qv Ug mss mrs mrr msr Zpw Zs9 h31.F);let Si:=Pp Y h32 (Jbq (C:=C) T Uo Xu Pu h32.F);let Zaf:=Pp Y h33 (Jbl (C:=C) T Si h33.F);let Zae:=Pp Y h34 (Jbd (C:=C) T Uo Xu Pu h34.F);let Wq:=X2 Y h35 (F6 (C:=C) T W8 h35.F);let Te:=X2 Y h36 (Jbn (C:=C) T W8 h36.F)
  let Wi:=X2 Y h37 (Jbo (C:=C) T Qs Rb Ra Vh Zdl xc_NoWay xna_leg_NoWay xc_NoName xna_name_NoName Uf mws mns kww kwn knn knw kwv knv kwa kna Zaf Si Zae h37.F);let Uc:=X2 Y h38 (Jao (C:=C) T Td h38.F);let W1:=X2 Y h39 (D0 (C:=C) T Vi h39.F);let Ua:=X2 Y h40 (Jce (C:=C) T Wi Uc Wq Te h40.F);exact(Jck T Zb1 Zdp Vi Zdo Ub Vk Vm Ue W1 Ua h41.F).imp λ_ _ _ _ h=>L3.Zoq (C:=⟨C,K⟩) h
def walk{l:Jh0}{q:Ep}{loose:List Str}{XP:(Str->Option Value)->Heap->Prop}{YP:Ct->Heap->Prop}{d:DefRec}{K:Params->Cp}(hn:l.most=some 63)(hdf:d.params.defaults=[])(hY:∀(w:Ct)(h:Heap),YP w h->(K w.params).In h)(hYt:∀(w:Ct)(h:Heap),YP w h->h.get? Pt=some (Jin #[]))(hPK:∀w:Ct,(K w.params).lookup Pt=none)(F:∀(w:Ct)(mg:Str->Option Value)(fa:Addr)(h:Heap),(K w.params).In h->h.Ns mainGlobals mg->mg d.name=some (.ref fa) ->
   ∃fd:L8,(∃c,Jex (K w.params) c Pt=true)/\(∀(s:Ca)(u:Value),Jeq s fd ⟨[u],[]⟩ [("_law_script",u)])/\∀base:Heap,(K w.params).In base->base.Ns mainGlobals mg->Bm mg base->FnOk l.prog w (K w.params) mg base CX0 10 fa fd ["_law_script"] (spLaw (K w.params) Pt)) :
  W.WalkO q loose XP YP l.row.toRowW d [] (λf vs=>Jg8 f vs) :=
 L2.Zj6 (n:=63) (k:=10) (x:="_law_script") (CX:=λ_=>CX0) (sp:=λw=>spLaw (K w.params) Pt) hn nofun hdf ⟨rfl,nofun,nofun⟩ hY hYt hPK F (λ_ _ a ns hl hO hS=>⟨a,ns,rfl,hS,hl,hO.tab _ _,λ_=>rfl⟩) λ_ _ _ _ _ z=>z
end K62
namespace PySem.W.Fast
def tw14405749735331332832:=0
def tw9097967933113079959:=0
def tw1464162860076799841:=0
def tw13107289456884474270:=0
def tw15685156771090058219:=0
def tw3921770103134553685:=0
def tw9915984060354393893:=0
def tw10173515736709067585:=0
def tw12341594891275704362:=0
def tw9308157742791665382:=0
def tw15842544193450976287:=0
def tw5344639743304784279:=0
def tw9378036270955656696:=0
def tw10117617839022962999:=0
def tw3066638202179774841:=0
def tw15937986998053691640:=0
def tw14890405402368708804:=0
def tw18249021154574787414:=0
def tw13762860992403637483:=0
def tw4479705769147281974:=0
def tw5191821645104297940:=0
def tw7456375956700390989:=0
def tw9322841311282683406:=0
def tw4648410713493446631:=0
def tw12991667748678652315:=0
def tw16132600269697238723:=0
def tw18069406833971969751:=0
def tw10245492855209800919:=0
def tw9095377496795875653:=0
def tw10951935953589052179:=0
def tw15852852838325172413:=0
def tw4700987805241651776:=0
def tw9545779796355639106:=0
def tw4735340078369120618:=0
def tw10157729219994266226:=0
def tw9009196355689814930:=0
def tw5971112952158279593:=0
def tw11101220163022908400:=0
def tw7276292152119157949:=0
def tw4157221293950723215:=0
def tw4950731374432060809:=0
def tw1169859057058047028:=0
def tw16982063862055007774:=0
def tw12324389131773002778:=0
def tw3530095050550782377:=0
def tw5870057575881917211:=0
def tw5699945302447857907:=0
def tw9301798313966547584:=0
def tw8071936780579591246:=0
def tw17843458273922764914:=0
def tw13295038364879149508:=0
def tw12866086583839000087:=0
def tw4200165548279320785:=0
def tw7909063661566985490:=0
def tw13727854352561804851:=0
def tw18178714739988007211:=0
def tw4785129218003564811:=0
def tw3274392277277443499:=0
def tw17817657859225100704:=0
def tw10910702396502365784:=0
def tw4464116280717488350:=0
def tw932331296615212392:=0
def tw15897555726897237445:=0
def tw16515032698929244229:=0
def tw9221642571390170942:=0
def tw17394021760878206830:=0
def tw4592942578857927237:=0
def tw3075588437978179283:=0
def tw17169163312332887533:=0
def tw12509188367458708839:=0
def tw17491849745207541804:=0
def tw640383112649920330:=0
def tw16750018217216782593:=0
def tw1402042301257239654:=0
def tw13125199224427753948:=0
def tw7064089633793875437:=0
def tw16805447178333384971:=0
def tw1286523579217118478:=0
def tw15001160512616085321:=0
def tw1674184254463080308:=0
def tw10572517957040400271:=0
def tw16703857897256558478:=0
def tw1232193073194772432:=0
def tw15952249181818846024:=0
def tw12782341182609364677:=0
def tw6904146820846785659:=0
def tw7818427475254243307:=0
def tw853214624483433059:=0
def tw7864978179812573283:=0
def tw6764428135764220096:=0
def tw606647992419650454:=0
def tw8512262929680749360:=0
def tw7078715020197417671:=0
def tw15705958367993881172:=0
def tw11750212314584453673:=0
def tw10962488531831225638:=0
def tw15705034097917042742:=0
def tw11078260569769721001:=0
def tw84518645507994901:=0
def tw4927544298105686918:=0
def tw6653361104440253076:=0
def tw1773547889173247203:=0
def tw13008072389305955335:=0
def tw5541606020465934722:=0
def tw6121975037510759372:=0
def tw10260490490743969433:=0
def tw2162025634457143228:=0
def tw3886273740115318351:=0
def tw13596796389175106460:=0
def tw11092820188015500557:=0
def tw2678880215285176042:=0
def tw14949843965334386149:=0
def tw4577183759892018701:=0
def tw1764585847572789624:=0
def tw12271442658379760570:=0
def tw3275579179293060376:=0
def tw8933211638453602422:=0
def tw6087948525243128585:=0
def tw7826838400522244304:=0
def tw10815257528768020701:=0
def tw2015654480117502286:=0
def tw10828864569551027648:=0
def tw6841418067330375187:=0
def tw18413342471112730296:=0
def tw6775508309061663409:=0
def tw8287475638639923137:=0
def tw5386643051686730799:=0
def tw1931522989123222462:=0
def tw6061356673178694003:=0
def tw3445577272777050430:=0
def tw504235303159634115:=0
def tw5330330963988992458:=0
def tw9985558703688299266:=0
def tw4818286309186485400:=0
def tw12948062553790632013:=0
def tw9415764956596620421:=0
def tw1708006230072985643:=0
def tw3894206385455363996:=0
def tw8597906972064489211:=0
def tw9063840548619165014:=0
def tw13709557592243990078:=0
def tw14026354454932884084:=0
def tw9478932104312172524:=0
def tw7374377709629117940:=0
def tw584645171710658140:=0
def tw13708379128678256734:=0
def tw18019798314777791308:=0
def tw13968227920983586042:=0
def tw6997776019129287904:=0
def tw1131107448061082107:=0
def tw12473001010972279700:=0
def tw12342190032306252260:=0
def tw7721111216493928117:=0
def tw334936533046505347:=0
def tw18326528842159501505:=0
def tw5860055689628336894:=0
def tw9582661281431193056:=0
def tw6036987673530958165:=0
def tw1140076532845168340:=0
def tw14001302200815535756:=0
def tw12232501788061907326:=0
def tw16465691819078514643:=0
def tw13329301056332649150:=0
def tw14162122768923009116:=0
def tw5287282302982781966:=0
def tw107993624153911765:=0
def tw8825803457685804756:=0
def tw4800848689469970547:=0
def tw17159175105123745534:=0
def tw14791315259461749255:=0
def tw16898288473240953536:=0
def tw1467773106402883593:=0
def tw16277409915744371812:=0
def tw12213768502479839820:=0
def tw13594276553029293973:=0
def tw18038432492854325665:=0
def tw15196683678252222662:=0
def tw121807532105161881:=0
def tw2298290058015058026:=0
def tw9842649036788389353:=0
def tw7923965672063994852:=0
def tw11908015207542789394:=0
def tw4759718286844788192:=0
def tw11483213226470305962:=0
def tw7439415898118911285:=0
def tw12625670163459987755:=0
def tw16266729369271769504:=0
def tw9896424976645639845:=0
def tw4737250009430014997:=0
def tw781679268645904206:=0
def tw5647950191081780799:=0
def tw9894204233033836160:=0
def tw4409353864961491378:=0
def tw6747532047803078448:=0
def tw6694551451354110823:=0
def tw600318614372474875:=0
def tw17059711629719936312:=0
def tw2840447684946114869:=0
def tw5049447684517414104:=0
def tw14772473109735034449:=0
def tw12745640918452229092:=0
def tw4616368321155561176:=0
def tw8736524115401643866:=0
def tw5660091620859119153:=0
def tw17854172326878238180:=0
def tw2078230883628628884:=0
def tw546554261955304352:=0
def tw13671971010724170041:=0
def tw7654618953280079817:=0
def tw9092128269625390739:=0
def tw7124211507876588948:=0
def tw8940863973763961122:=0
def tw4165308034637685852:=0
def tw17982665620486484231:=0
def tw220753801636485315:=0
def tw11498552666544458920:=0
def tw3421456798611421899:=0
def tw11129883526855949876:=0
def tw13696214263447366893:=0
def tw10116661737110426269:=0
def tw15652924289280232123:=0
def tw9220162042243942674:=0
def tw13445145668721743336:=0
def tw14186225768407168740:=0
def tw11453592983671679817:=0
def tw13241302632577544080:=0
def tw14693344500674850313:=0
def tw14439165995160576298:=0
def tw9323337283582848726:=0
def tw2675264864369550048:=0
def tw1274169174138065190:=0
def tw3059699026200370619:=0
def tw1002117456523150383:=0
def tw13566934128978035803:=0
def tw1201395652216169045:=0
def tw9200571235865979731:=0
def tw12160424062552353647:=0
def tw1674301222540303421:=0
def tw18216854622492745173:=0
def tw11922720505460419393:=0
def tw9976055282944334542:=0
def tw17072543112801867018:=0
def tw14688349988199418813:=0
def tw4080212141449645174:=0
def tw1606847473348551460:=0
def tw5336011412735534919:=0
def tw14355969110784716757:=0
def tw14745577317180255584:=0
def tw2356964971862875814:=0
def tw12476343489470874841:=0
def tw5830059111473684776:=0
def tw14749428485304343682:=0
def tw6027677975660064906:=0
def tw7326861997708788928:=0
def tw14463611288556645473:=0
def tw14328584621494609030:=0
def tw12108882457140179741:=0
def tw17652322447509755192:=0
def tw9208296587421060837:=0
def tw13598070715294209171:=0
def tw12712512230511639794:=0
def tw5225802259162342197:=0
def tw11045061414274520033:=0
def tw17940679480754274851:=0
def tw12576477718409265879:=0
def tw6565257433546445783:=0
def tw10892386232080857933:=0
def tw1569229161560123130:=0
def tw6580377827273685622:=0
def tw12374542066242440761:=0
def tw12563230124211695380:=0
def tw2635109835453639333:=0
def tw3914356470958857492:=0
def tw2952250880291199653:=0
def tw8091670792935131574:=0
def tw2787529404847804171:=0
def tw9202423900182689563:=0
def tw7471094447824045107:=0
def tw11275528758591689912:=0
def tw11365712484748845026:=0
def tw16150780433837214920:=0
def tw3286079752092115106:=0
def tw8886369398407554165:=0
def tw14437331911240147074:=0
def tw15228423991950855689:=0
def tw10702772691651551522:=0
def tw15217699672476235091:=0
def tw1002651125184866157:=0
def tw17282031071374569333:=0
def tw14961527631545930087:=0
def tw12295959285566433426:=0
def tw15067583354439000655:=0
def tw168159831156967040:=0
def tw16909160294979350410:=0
def tw13097050468316370492:=0
def tw10328227127111688925:=0
def tw12887677766674536138:=0
def tw15736176455646197370:=0
def tw14372078204879617957:=0
def tw3926693493734695687:=0
def tw10891594215326067550:=0
def tw17677748468253464365:=0
def tw3918486058222260601:=0
def tw1808043747664992986:=0
def tw8886944604001856303:=0
def tw7414248072673747379:=0
def tw916018276869748128:=0
def tw9096701293094858831:=0
def tw17501067423786193935:=0
def tw16050233375970975792:=0
def tw6840304673069198406:=0
def tw8794578750677310283:=0
def tw6022775642392348662:=0
def tw12312508880602338407:=0
def tw14922546375004051560:=0
def tw12464471560941978017:=0
def tw11323406499238692147:=0
def tw3448110045215341729:=0
def tw5419753709835222289:=0
def tw4985843372722941346:=0
def tw15376794147196999368:=0
def tw2785393655427271919:=0
def tw17023941101548578254:=0
def tw16327800750081405419:=0
def tw1441949925156841742:=0
def tw13430077766925477811:=0
def tw12524696979525739451:=0
def tw2638985513856253191:=0
def tw18284029199747776631:=0
def tw18377856965728409384:=0
def tw11895213508058838993:=0
def tw15676031839349651167:=0
def tw13044313526828316433:=0
def tw13705443904193831022:=0
def tw6719122447635258862:=0
def tw10463900778503034185:=0
def tw16456544941946231222:=0
def tw15026105228238402839:=0
def tw2236498055830494393:=0
def tw5304860084712276235:=0
def tw7668416725824609339:=0
def tw1146544118211129689:=0
def tw12483654025441430243:=0
def tw10129972819604303416:=0
def tw16572460872983323899:=0
def tw15534959090618732848:=0
def tw9228187277201254020:=0
def tw15175712846120041407:=0
def tw13022144410349703382:=0
def tw11055444956324647091:=0
def tw259053832793440377:=0
def tw7378411565295124631:=0
def tw14029595014013000750:=0
def tw6863606098751565576:=0
def tw15070660428032556885:=0
def tw1217733739995159586:=0
def tw5814407963413305536:=0
def tw2852742317569521935:=0
def tw6946345271762079140:=0
def tw11305121698963160128:=0
def tw2828846842665734465:=0
def tw17925720189510571253:=0
def tw3081253237463845033:=0
def tw14934064415658389885:=0
def tw11026594772362243719:=0
def tw18023080549224451393:=0
def tw4053020306385535074:=0
def tw4045631249610168893:=0
def tw3341899895819750707:=0
def tw1676662679254599168:=0
def tw17157401852482701326:=0
def tw15403513595493410624:=0
def tw3232297740196520602:=0
def tw15756786376283397323:=0
def tw14959679047005123720:=0
def tw2090389356588902990:=0
def tw14519813911210236296:=0
def tw66468771176765685:=0
def tw12772158224307882305:=0
def tw17961068239703356409:=0
def tw10204434328412606421:=0
def tw218732133032508286:=0
def tw7996596890314301689:=0
def tw1552971110754887744:=0
def tw37737360615533927:=0
def tw5763300727000459883:=0
def tw10679229431756603118:=0
def tw10099788067994190176:=0
def tw10221135856998689596:=0
def tw10705626295824285725:=0
def tw2064810421765539892:=0
def tw18196681828318456093:=0
def tw11136070664747421960:=0
def tw449665648407619247:=0
def tw16809936669214435216:=0
def tw8793054872219031941:=0
def tw12305541451314033801:=0
def tw11254420894977716040:=0
def tw4825665049148102256:=0
def tw107678141507373736:=0
def tw11735901531159159583:=0
def tw3982125276168737253:=0
def tw13310879074824855157:=0
def tw15973733896963822398:=0
def tw6890912606541021059:=0
def tw15417527338179276417:=0
def tw11449549716041322249:=0
def tw3320933742769343548:=0
def tw16076206905565328148:=0
def tw8219482632032146894:=0
def tw11606547799436347699:=0
def tw12070377893157385233:=0
def tw9803635599021081845:=0
def tw3838567833963236623:=0
def tw7660069992702507631:=0
def tw18308745330837941021:=0
def tw642351791428800069:=0
def tw17609297101805838799:=0
def tw33423304275157569:=0
def tw3399453930960300377:=0
def tw4184826981750319755:=0
def tw10470534166665256985:=0
def tw15585157585727149187:=0
def tw14132599599981985777:=0
def tw17829560686021472706:=0
def tw17562048312943276853:=0
def tw529614313204822160:=0
def tw3219871882373822897:=0
def tw8894880916304445471:=0
def tw2585847902499496583:=0
def tw12564653903390825713:=0
def tw11309795966533368558:=0
def tw13367480501697524293:=0
def tw14304718624465602921:=0
def tw14234402478252336889:=0
def tw5688390627047069488:=0
def tw5157624717777173915:=0
def tw1170846187574907711:=0
def tw12587760403567534024:=0
def tw17463642141711074002:=0
def tw16825567607368657474:=0
def tw6657466626893160346:=0
def tw10811318187947854796:=0
def tw13643592546246555913:=0
def tw15848412468467819978:=0
def tw11180693350680280678:=0
def tw13075449034129183817:=0
def tw3675016567319281360:=0
def tw5146654541770279093:=0
def tw3431279748269655189:=0
def tw9705483819258773513:=0
def tw11172027104861487160:=0
def tw15561675731217633440:=0
def tw7220847421849564091:=0
def tw16491302112102002907:=0
def tw14292448138712844293:=0
def tw13506094156413996226:=0
def tw8505444031354296784:=0
def tw8070144529983019334:=0
def tw525356686773163193:=0
def tw9599590892233593128:=0
def tw17218407944380007249:=0
def tw9728471685037500945:=0
def tw13475708492781232920:=0
def tw9499826631856244497:=0
def tw4014696806537798176:=0
def tw6111342923242576909:=0
def tw6977120040429601395:=0
def tw9471272149905492233:=0
def tw2724432297128166535:=0
def tw15099645605516004476:=0
def tw6123597322631222444:=0
def tw11605480220780204223:=0
def tw3855830377833662433:=0
def tw5116946220326310562:=0
def tw14963603636377146452:=0
def tw10641455067434107148:=0
def tw1493608894362012814:=0
def tw13270533228042784322:=0
def tw8428639882189432128:=0
def tw4043482274775082025:=0
def tw16285690783842351352:=0
def tw11669559046896568596:=0
def tw15003623621461297734:=0
def tw18035480286868846611:=0
def tw3554486275192872886:=0
def tw17456589389609224154:=0
def tw11298766038672606757:=0
def tw5046943797810692692:=0
def tw40161419024262617:=0
def tw3689788146882464997:=0
def tw12026765156430656140:=0
def tw5382320128216077163:=0
def tw3525764422601002850:=0
def tw6634867443129718170:=0
def tw5575768522730225293:=0
def tw12411007714463346966:=0
def tw9052479754652153863:=0
def tw12575888400092389278:=0
def tw3961412268999720256:=0
def tw7251600313389325350:=0
end PySem.W.Fast
open PySem PySem.W PyProof.Rows
set_option maxRecDepth 100000 in
set_option maxHeartbeats 0 in
theorem PySem.Challenge.cw_skewread_k62_refused_legs_holds : PySem.Challenge.rw_skewread_k62_refused_legs.Holds := by
  w_on; o_law; k_head; (case hw=>w_witness2)
  k_fill
  refine K62.walk (l:=PySem.Challenge.rw_skewread_k62_refused_legs) rfl rfl (fun w h Y=>PySem.W.km_in_of Y) (fun w h Y=>PySem.W.km_tabs_of Y _ (by k_mem)) ?hpk ?F
  case hpk=>exact fun w=>by kernel_rfl
  case F =>
    intro w mg fa h KX G hmg
    refine' K62.all_mk KX G hmg ?aC ?gx_NoSign ?gx_NoReading ?gx_NoWay ?gx_NoName ?gx_SkewError ?gx_Family ?gx_Taken ?h0 ?h1 ?h2 ?h3 ?h4 ?h5 ?h6 ?h7 ?h8 ?h9 ?h10 ?a11 ?l11 ?c11 ?k11 ?n11 ?h12 ?h13 ?h14 ?h15 ?h16 ?h17 ?h18 ?h19 ?h20 ?h21 ?h22 ?h23 ?h24 ?h25 ?h26 ?h27 ?h28 ?h29 ?h30 ?h31 ?h32 ?h33 ?h34 ?h35 ?h36 ?h37 ?h38 ?h39 ?h40 ?h41 ?xc_NoSign ?xin_NoSign ?xna_at_NoSign ?xc_NoReading ?xin_NoReading ?xna_at_NoReading ?xc_NoWay ?xin_NoWay ?xna_leg_NoWay ?xc_NoName ?xin_NoName ?xna_name_NoName ?xca_SkewError ?xca_NoWay ?xca_NoSign ?xca_NoReading ?mss ?msr ?mrs ?mrr ?mws ?mns ?kww ?kwn ?knn ?knw ?kwv ?knv ?kwa ?kna ?cl_Family ?mk_Family ?na_codes_by_name_Family ?na_marks_by_name_Family ?hd ?cl ?mk ?y_pairs ?y_words_by_sign ?y_signs_by_word ?y_begun ?y_word_sizes ?z
    any_goals first | (refine' ⟨?g,L2.Zis ?l ?c ?k⟩; (case g=>k_is); (case l=>k_is); (case c=>k_is); case k=>k_is) | (refine' ⟨?g,?n,L2.Zis ?l ?c ?k⟩; (case g=>k_is); (case n=>k_is); (case l=>k_is); (case c=>k_is); case k=>k_is) | k_is | kernel_rfl | (first | apply L2.Cls.mk | apply L2.MkG.mk | apply L2.XCl.mk | apply L2.CaG.mk) <;> first | k_is | kernel_rfl
#print axioms PySem.Challenge.cw_skewread_k62_refused_legs_holds